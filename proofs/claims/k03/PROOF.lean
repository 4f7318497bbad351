import PyProof.Rows.All
import Wide.All
import OpenK.AllK
import Wide.FinOn
import PySem.Challenge.RW_landways_k03_least_lots_open_a_cell
import HandS.ForMost
import HandS.Wide
import HandS.Evl
import HandS.Walk
import HandS.Zip
import HandS.TupAny
import HandS.Sort
import PyProof.ListRange
import HandS.Deep
import HandS.SortRule
import HandS.Star
import HandS.IsInst
import HandS.TupSets
import HandS.SetFor
import HandS.SetBool
import PyProof.TupleOfSeq
import HandS.Property
import HandS.ExcIs
import HandS.ExcField
import HandS.ForExc
import HandS.ExcInit
import HandS.SlotsOwn
import HandS.OwnEq
import PyProof.InstEq
import HandS.Flow
import HandS.Style
import HandS.SortKw
import HandS.Lambda
import KE.SortKeyHeap
import KE.KLam
import HandS.EndTab
import KE.SortData
import KE.SortLaws
import HandS.Iter
import KE.GoesMore
import KE.GoesEnum
import HandS.RaiseMore
import KE.KExcIs
import HandS.EndBits
import PyProof.Rows.ReprOcc
import PyProof.Rows.StrJoinMade
import KE.KNest
import KE.KNestM
import HandS.EndBits
set_option Elab.async false
set_option linter.all false
set_option maxRecDepth 100000
set_option maxHeartbeats 4000000
/-! ## P1 -/
section
open PySem PySem.Spec PyProof.Rows L2
namespace K7

def topS (i : Nat) : Stmt := PySem.Challenge.pw_landways_k03_least_lots_open_a_cell.main.body.getD i (.Pass ⟨0, 0, 0, 0⟩)
abbrev N__law_mix : List Str := ["_law_number", "_law_turn", "_law_once", "_law_twice"]
abbrev s__law_mix : Stmt := topS 28
theorem sc__law_mix : FnScope ["_law_number", "_law_turn", "_law_once", "_law_twice"] ["_law_number", "_law_turn"] (defScope s__law_mix) := ⟨rfl, rfl, rfl, by decide +kernel, rfl, by decide +kernel, by decide +kernel⟩

abbrev N__law_draw : List Str := ["_law_hand_here", "_law_many", "_law_cell", "_law_rest"]
abbrev s__law_draw : Stmt := topS 30
theorem sc__law_draw : FnScope ["_law_hand_here", "_law_many", "_law_cell", "_law_rest"] ["_law_hand_here", "_law_many"] (defScope s__law_draw) := ⟨rfl, rfl, rfl, by decide +kernel, rfl, by decide +kernel, by decide +kernel⟩

abbrev N__law_pick : List Str := ["_law_hand_here", "_law_things"]
abbrev s__law_pick : Stmt := topS 31
theorem sc__law_pick : FnScope ["_law_hand_here", "_law_things"] ["_law_hand_here", "_law_things"] (defScope s__law_pick) := ⟨rfl, rfl, rfl, by decide +kernel, rfl, by decide +kernel, by decide +kernel⟩

abbrev N__law_hand : List Str := ["_law_script", "_law_total", "_law_k", "_law_cell"]
abbrev s__law_hand : Stmt := topS 29
theorem sc__law_hand : FnScope ["_law_script", "_law_total", "_law_k", "_law_cell"] ["_law_script"] (defScope s__law_hand) := ⟨rfl, rfl, rfl, by decide +kernel, rfl, by decide +kernel, by decide +kernel⟩

section
variable {P : Program} {w : World} {K : PySem.W.Frag} {mg : Str → Option Value} {base : Heap}
/-! mix: some number from 0 on -/
def spMix : Sp := fun vs H Q _ => ∃ n t : Int, vs = [.int n, .int t] ∧ ∀ r : Int, 0 ≤ r → Q (.int r) H
theorem ok_mix {f : Addr} {fd : FuncData} (F : Fun K "_law_mix" "_law_mix" s__law_mix f fd) (m_int : mg "int" = none) : FnOk P w K mg base CX0 1 f fd ["_law_number", "_law_turn"] spMix := by
  refine F.ok sc__law_mix (fun vs H Q E h => ?_) (fun cdv A outer s H vs Q E hr h => ?_)
  · obtain ⟨n, t, rfl, _⟩ := h
    rfl
  · obtain ⟨n, t, rfl, q⟩ := h
    refine ⟨_, (pss_cons (ps_set (i := 2) sc__law_mix.nd rfl (by first | exact Or.inl rfl | exact Or.inr rfl) (pe_op op_mod (pe_callTy call_int1 (by rfl) m_int boot_int (pa_cons (pe_op op_add (pe_op op_add (pe_op op_mul (pv 0) pe_int) (pe_op op_mul (pv 1) pe_int)) pe_int) pa_nil)) pe_int))
 (pss_cons (ps_set (i := 3) sc__law_mix.nd rfl (by first | exact Or.inl rfl | exact Or.inr rfl) (pe_op op_mod (pe_callTy call_int1 (by rfl) m_int boot_int (pa_cons (pe_op op_add (pe_op op_add (pe_op op_mul (pv 2) (pv 2)) (pe_op op_mul (pe_op op_fdiv (pv 2) pe_int) pe_int)) (pe_op op_mul (pv 1) pe_int)) pa_nil)) pe_int))
 (pss_one (ps_ret (pe_op op_fdiv (pe_op op_mod (pe_callTy call_int1 (by rfl) m_int boot_int (pa_cons (pe_op op_add (pe_op op_fdiv (pe_op op_mul (pv 3) (pv 3)) pe_int) (pv 2)) pa_nil)) pe_int) pe_int))))), ?_⟩
    have e1 : ∀ z : Int, 0 ≤ z % 2147483647 ∧ z % 2147483647 < 2147483647 := fun z => ⟨Int.emod_nonneg _ (by decide), Int.emod_lt_of_pos _ (by decide)⟩
    have e2 : ∀ z : Int, 0 ≤ z % 2147483399 ∧ z % 2147483399 < 2147483399 := fun z => ⟨Int.emod_nonneg _ (by decide), Int.emod_lt_of_pos _ (by decide)⟩
    refine ⟨_, rfl, _, _, rfl, rfl, .inr ⟨by decide, by decide⟩, _, rfl, _, _, rfl, rfl, .inr ⟨by decide, by decide⟩, _, _, rfl, rfl, _, _, rfl, rfl, .inl ⟨_, rfl, ?_⟩⟩
    refine ⟨_, _, rfl, rfl, show (0 : Int) < _ by decide, ?_⟩
    have b1 := e1 (n * 48271 + t * 16807 + 11)
    refine ⟨_, rfl, _, rfl, _, _, rfl, rfl, .inl ⟨by omega, by omega⟩, _, rfl, _, _, rfl, rfl, ⟨by decide, by decide⟩, _, _, rfl, rfl, .inr ⟨by decide, by decide⟩, _, _, rfl, rfl, _, rfl, _, _, rfl, rfl, .inr ⟨by decide, by decide⟩, _, _, rfl, rfl, .inl ⟨_, rfl, ?_⟩⟩
    refine ⟨_, _, rfl, rfl, show (0 : Int) < _ by decide, ?_⟩
    refine ⟨_, rfl, _, rfl, _, _, rfl, rfl, .inl ⟨by omega, by omega⟩, _, _, rfl, rfl, ⟨by decide, by decide⟩, _, rfl, _, _, rfl, rfl, .inl ⟨_, rfl, _, _, rfl, rfl, show (0 : Int) < _ by decide, _, _, rfl, rfl, ⟨by decide, by decide⟩, ?_⟩⟩
    exact q _ (Int.ediv_nonneg (Int.emod_nonneg _ (by decide)) (by decide))
/-! the hand -/
structure HandB (ns : List Int) (i x t : Int) : Prop where
  len : ns.length ≤ 63
  lo : 0 ≤ i
  hi : i ≤ ns.length
  x0 : 0 ≤ x
  t0 : 0 ≤ t
  pos : ∀ n ∈ ns, 0 ≤ n
def HandO (c : Addr) (i x t : Int) : HO := .lst [.ref c, .int i, .int x, .int t]
def Hand (H : Hp) (a c : Addr) : Prop := ∃ ns i x t, H a = some (HandO c i x t) ∧ H c = some (.lst (ns.map V.int)) ∧ HandB ns i x t
/-- H' is H but for the hand at a, which is a hand still -/
structure Drawn (H H' : Hp) (a c : Addr) : Prop where
  but : ∀ b, b ≠ a → H' b = H b
  hand : Hand H' a c
def spDraw : Sp := fun vs H Q _ => ∃ (a c : Addr) (many : Int), vs = [.ref a, .int many] ∧ Hand H a c ∧ 0 < many ∧ many < 2 ^ 200 ∧ ∀ H' r, Drawn H H' a c → 0 ≤ r → r < many → Q (.int r) H'
theorem hand_ne {H : Hp} {a c : Addr} {ns : List Int} {i x t : Int} (h1 : H a = some (HandO c i x t)) (h2 : H c = some (.lst (ns.map V.int))) : c ≠ a := by
  intro e
  subst e
  rw [h1] at h2
  unfold HandO at h2
  injection h2 with h2
  injection h2 with h2
  cases ns with
  | nil => cases h2
  | cons n r => rw [List.map_cons] at h2; injection h2 with h3 h4; cases h3
theorem drawn_of {H H0 : Hp} {a c : Addr} {ns : List Int} {i x t : Int} (hb : ∀ b, b ≠ a → H0 b = H b) (hc : c ≠ a) (h2 : H c = some (.lst (ns.map V.int))) (B : HandB ns i x t) : Drawn H (upd H0 a (HandO c i x t)) a c :=
  ⟨fun b h => by rw [upd_ne h]; exact hb b h, ⟨ns, i, x, t, upd_same, by rw [upd_ne hc, hb c hc]; exact h2, B⟩⟩
theorem wide200 {many : Int} (h0 : 0 < many) (h1 : many < 2 ^ 200) (i : Int) : CDivW i many := wide_div (b := 200) h0 (by omega) (by decide) (by decide)
theorem ok_draw {f fM : Addr} {fd fdM : FuncData} (F : Fun K "_law_draw" "_law_draw" s__law_draw f fd) (FM : Fun K "_law_mix" "_law_mix" s__law_mix fM fdM) (g_law_mix : mg "_law_mix" = some (.ref fM)) (b_law_mix : Binds K fdM ["_law_number", "_law_turn"] [])
    (m_int : mg "int" = none) (m_len : mg "len" = none) : FnOk P w K mg base CX0 2 f fd ["_law_hand_here", "_law_many"] spDraw := by
  have G_law_mix : FnOk P w K mg base CX0 1 fM fdM ["_law_number", "_law_turn"] spMix := ok_mix FM m_int
  have k_law_mix := FM.kp
  refine F.ok sc__law_draw (fun vs H Q E h => ?_) (fun cdv A outer s H vs Q E hr h => ?_)
  · obtain ⟨a, c, n, rfl, _⟩ := h
    rfl
  · obtain ⟨a, c, many, rfl, ⟨ns, i, x, t, h1, h2, B⟩, hm0, hm1, q⟩ := h
    have hr_law_mix := hr
    have hc := hand_ne h1 h2
    refine ⟨_, (Evl.pss_cut (ps_if (pw_and (pt_cmpR op_eq (pe_ix ix_list (pv 0) pe_int (fun _ _ => rfl)) pe_int (nomark _)) (pw_and1 (pt_cmpR op_lt (pe_ix ix_list (pv 0) pe_int (fun _ _ => rfl)) (pe_callB call_len_seq (by rfl) m_len boot_len (pa_cons (pe_ix ix_list (pv 0) pe_int (fun _ _ => rfl)) pa_nil)) (nomark _)))).pt
  (pss_cons (ps_set (i := 2) sc__law_draw.nd rfl (by first | exact Or.inl rfl | exact Or.inr rfl) (pe_ix ix_list (pe_ix ix_list (pv 0) pe_int (fun _ _ => rfl)) (pe_ix ix_list (pv 0) pe_int (fun _ _ => rfl)) (fun _ _ => rfl)))
 (pss_cons (ps_asg (pe_op op_add (pe_ix ix_list (pv 0) pe_int (fun _ _ => rfl)) pe_int) (pg_sub (pv 0) pe_int set_list))
 (pss_cons (ps_if (pt_cmpR op_lt (pv 2) (pe_op op_pow pe_int pe_int) (nomark _))
  (pss_one (ps_ret (pe_op op_mod (pe_callTy call_int1 (by rfl) m_int boot_int (pa_cons (pe_call G_law_mix hr_law_mix (by rfl) g_law_mix k_law_mix b_law_mix .nil pass0 (pa_cons (pe_op op_mod (pe_callTy call_int1 (by rfl) m_int boot_int (pa_cons (pv 2) pa_nil)) pe_int) (pa_cons (pe_ix ix_list (pv 0) pe_int (fun _ _ => rfl)) pa_nil))) pa_nil)) (pv 1))))
  pss_nil)
 (pss_one (ps_asg (pv 2) (pg_sub (pv 0) pe_int set_list))))))
  pss_nil)
 (pss_cons (ps_if (pt_cmpR op_gt (pe_ix ix_list (pv 0) pe_int (fun _ _ => rfl)) pe_int (nomark _))
  (pss_cons (ps_set (i := 3) sc__law_draw.nd rfl (by first | exact Or.inl rfl | exact Or.inr rfl) (pe_ix ix_list (pv 0) pe_int (fun _ _ => rfl)))
 (pss_cons (ps_asg (pe_op op_fdivW (pv 3) (pv 1)) (pg_sub (pv 0) pe_int set_list))
 (pss_one (ps_ret (pe_op op_mod (pe_callTy call_int1 (by rfl) m_int boot_int (pa_cons (pv 3) pa_nil)) (pv 1))))))
  pss_nil)
 (pss_cons (ps_asg (pe_op op_mod (pe_callTy call_int1 (by rfl) m_int boot_int (pa_cons (pe_op op_add (pe_ix ix_list (pv 0) pe_int (fun _ _ => rfl)) pe_int) pa_nil)) pe_int) (pg_sub (pv 0) pe_int set_list))
 (pss_one (ps_ret (pe_op op_mod (pe_callTy call_int1 (by rfl) m_int boot_int (pa_cons (pe_call G_law_mix hr_law_mix (by rfl) g_law_mix k_law_mix b_law_mix .nil pass0 (pa_cons (pe_ix ix_list (pv 0) pe_int (fun _ _ => rfl)) (pa_cons (pe_ix ix_list (pv 0) pe_int (fun _ _ => rfl)) pa_nil))) pa_nil)) (pv 1))))))), ?_⟩
    have hS : SqL K H a [.ref c, .int i, .int x, .int t] := .inl (.inl h1)
    have hC : SqL K H c (ns.map V.int) := .inl (.inl h2)
    have last : ∀ (i' : Int) (σ : L2.St) , 0 ≤ i' → i' ≤ ns.length → True := fun _ _ _ _ => trivial
    refine ⟨fun σ' H' => ∃ i' x' y2, σ' = [some (.ref a), some (.int many), y2, none] ∧ (∀ b, b ≠ a → H' b = H b) ∧ H' a = some (HandO c i' x' t) ∧ HandB ns i' x' t, ?_, fun σ' H' hM => ?_⟩
    refine ⟨.ref a, rfl, a, _, _, _, rfl, rfl, hS, rfl, rfl, _, rfl, ite2 (fun e => ?_) (fun e => ?_)⟩
    · have ex : x = 0 := V.int.inj (of_decide_eq_true e)
      subst ex
      refine ⟨.ref a, rfl, a, _, _, _, rfl, rfl, hS, rfl, .ref a, rfl, a, _, _, _, rfl, rfl, hS, rfl, c, _, rfl, .inl hC, _, _, rfl, rfl, _, rfl, ite2 (fun e => ?_) (fun e => ?_)⟩
      · have hi : i < ((ns.map V.int).length : Int) := of_decide_eq_true e
        rw [List.length_map] at hi
        have hlo := B.lo
        obtain ⟨j, rfl⟩ : ∃ j : Nat, i = (j : Int) := ⟨i.toNat, by omega⟩
        have hj : j < ns.length := by omega
        have gj : (ns.map V.int)[j]? = some (.int ns[j]) := by
          rw [List.getElem?_map, List.getElem?_eq_getElem hj]
          rfl
        have p0 : 0 ≤ ns[j] := B.pos _ (List.getElem_mem hj)
        refine ⟨.ref a, rfl, a, _, _, _, rfl, rfl, hS, rfl, .ref a, rfl, a, _, _, _, rfl, rfl, hS, rfl, c, _, _, _, rfl, rfl, hC, atI_nat gj, ?_⟩
        refine ⟨.ref a, rfl, a, _, _, _, rfl, rfl, hS, rfl, _, _, rfl, rfl, .ref a, rfl, a, _, _, _, rfl, rfl, h1, rfl, ?_⟩
        have hS2 : SqL K (upd H a (HandO c (j + 1) 0 t)) a [.ref c, .int (j + 1), .int 0, .int t] := .inl (.inl upd_same)
        refine ⟨_, rfl, _, _, rfl, rfl, ⟨by decide, by decide, by decide⟩, _, _, rfl, rfl, _, rfl, ite2 (fun e => ?_) (fun e => ?_)⟩
        · refine ⟨_, rfl, .inl ⟨_, rfl, _, _, rfl, rfl, show (0 : Int) < _ by decide, .ref a, rfl, a, _, _, _, rfl, rfl, hS2, rfl, _, _, rfl, fun r r0 => .inl ⟨_, rfl, _, rfl, _, _, rfl, rfl, hm0, ?_⟩⟩⟩
          exact q _ _ (drawn_of (H0 := H) (fun _ _ => rfl) hc h2 ⟨B.len, by omega, by omega, by decide, B.t0, B.pos⟩) (Int.emod_nonneg _ (by omega)) (Int.emod_lt_of_pos _ hm0)
        · refine ⟨_, rfl, .ref a, rfl, a, _, _, _, rfl, rfl, upd_same, rfl, ?_⟩
          refine ⟨_, _, _, rfl, fun b hb => by rw [upd_ne hb, upd_ne hb], upd_same, ⟨B.len, by omega, by omega, p0, B.t0, B.pos⟩⟩
      · exact ⟨i, 0, none, rfl, fun _ _ => rfl, h1, B⟩
    · exact ⟨i, x, none, rfl, fun _ _ => rfl, h1, B⟩
    · obtain ⟨i', x', y2, rfl, hb, h1', B'⟩ := hM
      have h2' : H' c = some (.lst (ns.map V.int)) := by rw [hb c hc]; exact h2
      have hS' : SqL K H' a [.ref c, .int i', .int x', .int t] := .inl (.inl h1')
      refine ⟨.ref a, rfl, a, _, _, _, rfl, rfl, hS', rfl, _, _, rfl, rfl, _, rfl, ite2 (fun e => ?_) (fun e => ?_)⟩
      · refine ⟨.ref a, rfl, a, _, _, _, rfl, rfl, hS', rfl, _, rfl, _, rfl, _, _, rfl, rfl, wide200 hm0 hm1 _, .ref a, rfl, a, _, _, _, rfl, rfl, h1', rfl, ?_⟩
        refine ⟨_, rfl, .inl ⟨_, rfl, _, rfl, _, _, rfl, rfl, hm0, ?_⟩⟩
        exact q _ _ (drawn_of (H0 := H') hb hc h2 ⟨B.len, B'.lo, B'.hi, Int.ediv_nonneg B'.x0 (by omega), B.t0, B.pos⟩) (Int.emod_nonneg _ (by omega)) (Int.emod_lt_of_pos _ hm0)
      · refine ⟨.ref a, rfl, a, _, _, _, rfl, rfl, hS', rfl, _, _, rfl, rfl, .inl ⟨_, rfl, _, _, rfl, rfl, show (0 : Int) < _ by decide, .ref a, rfl, a, _, _, _, rfl, rfl, h1', rfl, ?_⟩⟩
        have hS3 : SqL K (upd H' a (HandO c i' x' ((t + 1) % 2147483629))) a [.ref c, .int i', .int x', .int ((t + 1) % 2147483629)] := .inl (.inl upd_same)
        refine ⟨.ref a, rfl, a, _, _, _, rfl, rfl, hS3, rfl, .ref a, rfl, a, _, _, _, rfl, rfl, hS3, rfl, _, _, rfl, fun r r0 => .inl ⟨_, rfl, _, rfl, _, _, rfl, rfl, hm0, ?_⟩⟩
        exact q _ _ (drawn_of (H0 := H') hb hc h2 ⟨B.len, B'.lo, B'.hi, B'.x0, Int.emod_nonneg _ (by decide), B.pos⟩) (Int.emod_nonneg _ (by omega)) (Int.emod_lt_of_pos _ hm0)
theorem Hand.same {H H' : Hp} {a c : Addr} (h : Hand H a c) (e : Same H H') : Hand H' a c := by
  obtain ⟨ns, i, x, t, h1, h2, B⟩ := h
  exact ⟨ns, i, x, t, e _ _ h1, e _ _ h2, B⟩
theorem Hand.upd {H : Hp} {a c l : Addr} {o : HO} (h : Hand H a c) (h1 : l ≠ a) (h2 : l ≠ c) : Hand (upd H l o) a c := by
  obtain ⟨ns, i, x, t, e1, e2, B⟩ := h
  exact ⟨ns, i, x, t, by rw [upd_ne h1.symm]; exact e1, by rw [upd_ne h2.symm]; exact e2, B⟩
theorem Hand.ne {H : Hp} {a c l : Addr} (h : Hand H a c) (n : H l = none) : l ≠ a ∧ l ≠ c := by
  obtain ⟨ns, i, x, t, e1, e2, B⟩ := h
  exact ⟨(ne_of_none e1 n).symm, (ne_of_none e2 n).symm⟩
/-- an item of a list -/
def spPick : Sp := fun vs H Q _ => ∃ (a c l : Addr) (xs : List V), vs = [.ref a, .ref l] ∧ Hand H a c ∧ l ≠ a ∧ H l = some (.lst xs) ∧ 0 < xs.length ∧ xs.length ≤ 1000 ∧ ∀ H' (j : Nat) v, Drawn H H' a c → xs[j]? = some v → Q v H'
theorem ok_pick {f fD : Addr} {fd fdD : FuncData} (F : Fun K "_law_pick" "_law_pick" s__law_pick f fd) (k_law_draw : PySem.W.keepIn K (.ref fD) = true) (G_law_draw : FnOk P w K mg base CX0 2 fD fdD ["_law_hand_here", "_law_many"] spDraw) (g_law_draw : mg "_law_draw" = some (.ref fD)) (b_law_draw : Binds K fdD ["_law_hand_here", "_law_many"] [])
    (m_len : mg "len" = none) : FnOk P w K mg base CX0 3 f fd ["_law_hand_here", "_law_things"] spPick := by
  refine F.ok sc__law_pick (fun vs H Q E h => ?_) (fun cdv A outer s H vs Q E hr h => ?_)
  · obtain ⟨a, c, l, xs, rfl, _⟩ := h
    rfl
  · obtain ⟨a, c, l, xs, rfl, hh, hla, hl, h0, h1, q⟩ := h
    have hr_law_draw := hr
    refine ⟨_, (pss_one (ps_ret (pe_ix ix_list (pv 1) (pe_call G_law_draw hr_law_draw (by rfl) g_law_draw k_law_draw b_law_draw .nil pass0 (pa_cons (pv 0) (pa_cons (pe_callB call_len_seq (by rfl) m_len boot_len (pa_cons (pv 1) pa_nil)) pa_nil))) (fun _ _ => rfl)))), ?_⟩
    have hm : ((xs.length : Nat) : Int) < 2 ^ 200 := Int.lt_of_le_of_lt (show ((xs.length : Nat) : Int) ≤ 1000 by omega) (by decide)
    refine ⟨.ref l, rfl, .ref a, rfl, .ref l, rfl, l, _, rfl, .inl (.inl (.inl hl)), a, c, _, rfl, hh, by omega, hm, fun H' r d r0 r1 => ?_⟩
    obtain ⟨j, rfl⟩ : ∃ j : Nat, r = (j : Int) := ⟨r.toNat, by omega⟩
    have hj : j < xs.length := by omega
    have e : xs[j]? = some xs[j] := List.getElem?_eq_getElem hj
    have hl' : H' l = some (.lst xs) := by rw [d.but l hla]; exact hl
    exact ⟨l, xs, _, _, rfl, rfl, .inl (.inl hl'), atI_nat e, q H' j _ d e⟩
/-- the hand of a script -/
def spHand (K : PySem.W.Frag) : Sp := fun vs H Q _ => ∃ (s : Addr) (ns : List Int), vs = [.ref s] ∧ SqL K H s (ns.map V.int) ∧ ns.length ≤ 63 ∧ ∀ H' a c, Same H H' → H a = none → H c = none → Hand H' a c → Q (.ref a) H'
theorem ok_hand {f : Addr} {fd : FuncData} (F : Fun K "_law_hand" "_law_hand" s__law_hand f fd) (m_int : mg "int" = none) (m_abs : mg "abs" = none) (m_enumerate : mg "enumerate" = none) : FnOk P w K mg base CX0 1 f fd ["_law_script"] (spHand K) := by
  refine F.ok sc__law_hand (fun vs H Q E h => ?_) (fun cdv A outer s H vs Q E hr h => ?_)
  · obtain ⟨a, ns, rfl, _⟩ := h
    rfl
  · obtain ⟨a, ns, rfl, hS, hlen, q⟩ := h
    refine ⟨_, (pss_cons (ps_set (i := 1) sc__law_hand.nd rfl (by first | exact Or.inl rfl | exact Or.inr rfl) pe_int)
 (pss_cons (ps_for PassesOwn.never rfl (pi_enum (by rfl) m_enumerate (pa_cons (pv 0) pa_nil)) (pg_tup rfl (pgs_cons (pg_name (i := 2) sc__law_hand.nd rfl (by first | exact Or.inl rfl | exact Or.inr rfl)) (pgs_cons (pg_name (i := 3) sc__law_hand.nd rfl (by first | exact Or.inl rfl | exact Or.inr rfl)) pgs_nil)))
  (pss_one (ps_set (i := 1) sc__law_hand.nd rfl (by first | exact Or.inl rfl | exact Or.inr rfl) (pe_op op_mod (pe_callTy call_int1 (by rfl) m_int boot_int (pa_cons (pe_op op_add (pe_op op_mul (pv 1) pe_int) (pe_op op_mul (pe_callTy call_int1 (by rfl) m_int boot_int (pa_cons (pv 3) pa_nil)) (pe_op op_add (pv 2) pe_int))) pa_nil)) pe_int))))
 (pss_one (ps_ret (pe_lst (pa_cons (pe_lc (own := [("_law_cell", 3)]) (g := gName 3) (tt := tYes) rfl sc__law_hand.nd (pi_list (pv 0)) (blkOk_by (own := [("_law_cell", 3)]) (N := N__law_hand) (sc := defScope s__law_hand) (by decide +kernel)) (fun _ _ _ _ _ => (pg_name (i := 3) sc__law_hand.nd rfl (by first | exact Or.inl rfl | exact Or.inr rfl))) (fun _ _ _ _ _ => pts_nil) (fun _ _ _ _ _ => (pe_callB call_abs (by rfl) m_abs boot_abs (pa_cons (pe_callTy call_int1 (by rfl) m_int boot_int (pa_cons (pv 3) pa_nil)) pa_nil)))) (pa_cons pe_int (pa_cons pe_int (pa_cons (pv 1) pa_nil))))))))), ?_⟩
    have hlen' : (ns.map V.int).length = ns.length := List.length_map ..
    refine ⟨.ref a, rfl, a, _, rfl, hS, for_it (walk_enum (xs := ns.map V.int)) (fun i σ H' => ∃ tot y2 y3, σ = [some (.ref a), some (.int tot), y2, y3] ∧ 0 ≤ tot ∧ tot < 2147483629 ∧ Same H H') ⟨0, none, none, rfl, by decide, by decide, Same.refl H⟩ (fun i σ H' _ p => ?_) (fun i v σ H' H'' hi p y => ?_) (fun σ H1 p => ?_)⟩
    · obtain ⟨tot, y2, y3, rfl, _, _, e⟩ := p
      exact e.seq hS
    · obtain ⟨tot, y2, y3, rfl, t0, t1, e⟩ := p
      obtain ⟨T, x, y, rfl, nT, rfl, ex, ey⟩ := y
      rw [hlen'] at hi
      obtain rfl : .int (i : Nat) = x := Option.some.inj ex
      obtain ⟨n, rfl⟩ : ∃ n : Int, y = .int n := by
        have ey : (ns.map V.int)[i]? = some y := ey
        rw [List.getElem?_map, List.getElem?_eq_getElem hi] at ey
        exact ⟨_, (Option.some.inj ey).symm⟩
      refine ⟨T, _, rfl, .inl (.inl upd_same), rfl, _, _, rfl, _, _, rfl, rfl, ?_⟩
      refine ⟨_, rfl, _, _, rfl, rfl, .inr ⟨by decide, by decide⟩, _, rfl, .inl ⟨_, rfl, _, rfl, _, _, rfl, rfl, _, _, rfl, rfl, .inr ⟨by omega, by omega⟩, _, _, rfl, rfl, .inl ⟨_, rfl, _, _, rfl, rfl, show (0 : Int) < _ by decide, ?_⟩⟩⟩
      refine ⟨_, _, _, rfl, Int.emod_nonneg _ (by decide), Int.emod_lt_of_pos _ (by decide), e.trans fun b z hz => ?_⟩
      rw [upd_ne (ne_of_none hz nT)]
      exact hz
    · obtain ⟨tot, y2, y3, rfl, t0, t1, e⟩ := p
      have hS1 : SqL K H1 a (ns.map V.int) := e.seq hS
      refine ⟨.ref a, rfl, a, rfl, ⟨_, hS1⟩, fun D hD => lc_list (xs := ns.map V.int) (fun i H2 => Same H1 H2 ∧ H2 D = some (.lst ((ns.take i).map fun n => .int (if n < 0 then -n else n)))) ⟨fun b z hz => ?_, upd_same⟩ (fun i H2 _ p => p.1.seq hS1) (fun i x H2 hx p => ?_) (fun H2 p => ?_)⟩
      · rw [upd_ne (ne_of_none hz hD)]
        exact hz
      · obtain ⟨e2, hd⟩ := p
        rw [List.getElem?_map] at hx
        obtain ⟨n, hn, rfl⟩ := Option.map_eq_some_iff.mp hx
        refine ⟨rfl, ?_⟩
        refine ⟨_, rfl, .inl ⟨_, rfl, _, rfl, _, hd, ?_, fun b z hz => ?_, ?_⟩⟩
        · rw [List.length_map, List.length_take]
          exact Nat.lt_of_le_of_lt (Nat.min_le_right _ _) (small1000 (by omega))
        · rw [upd_ne (ne_of_none hz hD)]
          exact e2 _ _ hz
        · rw [upd_same, List.take_add_one, hn, List.map_append]
          rfl
      · obtain ⟨e2, hd⟩ := p
        rw [hlen', List.take_length] at hd
        refine ⟨_, rfl, by show 4 ≤ sizeLine; decide, fun p hp => ?_⟩
        have npD : D ≠ p := ne_of_none hd hp
        refine q _ p D ?_ ((e.trans e2).free hp) (e.free hD) ⟨ns.map fun n => if n < 0 then -n else n, 0, 0, tot, upd_same, ?_, ?_⟩
        · exact fun b z hz => by
            rw [upd_ne (ne_of_none ((e.trans e2) _ _ hz) hp)]
            exact (e.trans e2) _ _ hz
        · rw [upd_ne npD, hd, List.map_map]
          rfl
        · refine ⟨by rw [List.length_map]; exact hlen, by decide, by omega, by decide, t0, fun n hn => ?_⟩
          obtain ⟨m, _, rfl⟩ := List.mem_map.mp hn
          split <;> omega
end
end K7
end
/-! ## P2 -/
section
open PySem PySem.Spec PyProof.Rows L2
namespace K7
abbrev N__law_lots : List Str := ["_law_cells", "_law_found", "_law_last", "_law_turn", "_law_grown", "_law_lot", "_law_cell"]
abbrev s__law_lots : Stmt := topS 32
theorem sc__law_lots : FnScope ["_law_cells", "_law_found", "_law_last", "_law_turn", "_law_grown", "_law_lot", "_law_cell"] ["_law_cells"] (defScope s__law_lots) := ⟨rfl, rfl, rfl, by decide +kernel, rfl, by decide +kernel, by decide +kernel⟩

theorem same_new {H H' : Hp} {p : Addr} {o : HO} (e : Same H H') (h : H' p = none) : Same H (upd H' p o) := fun b z hz => by
  have h2 := e _ _ hz
  rw [upd_ne (ne_of_none h2 h)]
  exact h2
def But (x : Addr) (H H' : Hp) : Prop := ∀ b o, b ≠ x → H b = some o → H' b = some o
/-! ### all lots of the cells -/
def grow1 (cells lot : List Nat) : List (List Nat) := (cells.filter fun c => lot.isEmpty || decide (lot.getLastD 0 < c)).map fun c => lot ++ [c]
def level (cells : List Nat) : Nat → List (List Nat)
  | 0 => [[]]
  | k + 1 => (level cells k).flatMap (grow1 cells)
def lotsTo (cells : List Nat) : Nat → List (List Nat)
  | 0 => [[]]
  | k + 1 => lotsTo cells k ++ level cells (k + 1)
theorem level_len : ∀ n : Fin 6, ∀ k : Fin 7, (level (List.range n.val) k.val).length ≤ 10 ∧ (lotsTo (List.range n.val) k.val).length ≤ 32 := by decide +kernel
theorem level_lot : ∀ n : Fin 6, ∀ k : Fin 7, (level (List.range n.val) k.val).all (fun l => decide (l.length ≤ 990)) = true := by decide +kernel
theorem lot_len {n t i : Nat} {lot : List Nat} (hn : n ≤ 5) (ht : t ≤ 6) (h : (level (List.range n) t)[i]? = some lot) : lot.length ≤ 990 := by
  have := List.all_eq_true.mp (level_lot ⟨n, by omega⟩ ⟨t, by omega⟩) lot (List.mem_of_getElem? h)
  exact of_decide_eq_true this
/-- tuples of cells at these places -/
inductive TAt (H : Hp) : List Addr → List (List Nat) → Prop
  | nil : TAt H [] []
  | cons {t : Addr} {l : List Nat} {ts : List Addr} {ls : List (List Nat)} (h : H t = some (.tup (l.map fun c => .int (c : Nat)))) (r : TAt H ts ls) : TAt H (t :: ts) (l :: ls)
theorem TAt.same {H H' : Hp} (e : Same H H') : ∀ {ts ls}, TAt H ts ls → TAt H' ts ls
  | _, _, .nil => .nil
  | _, _, .cons h r => .cons (e _ _ h) (r.same e)
theorem TAt.mono {H H' : Hp} (e : ∀ b xs, H b = some (.tup xs) → H' b = some (.tup xs)) : ∀ {ts ls}, TAt H ts ls → TAt H' ts ls
  | _, _, .nil => .nil
  | _, _, .cons h r => .cons (e _ _ h) (r.mono e)
theorem TAt.append {H : Hp} : ∀ {ts ls us ms}, TAt H ts ls → TAt H us ms → TAt H (ts ++ us) (ls ++ ms)
  | _, _, _, _, .nil, r => r
  | _, _, _, _, .cons h q, r => .cons h (q.append r)
theorem TAt.len {H : Hp} : ∀ {ts ls}, TAt H ts ls → ts.length = ls.length
  | _, _, .nil => rfl
  | _, _, .cons _ r => congrArg Nat.succ r.len
theorem TAt.get {H : Hp} : ∀ {ts ls} {i : Nat} {t : Addr}, TAt H ts ls → ts[i]? = some t → ∃ l, ls[i]? = some l ∧ H t = some (.tup (l.map fun c => .int (c : Nat)))
  | _, _, 0, _, .cons h r, e => by
    cases e
    exact ⟨_, rfl, h⟩
  | _, _, i + 1, _, .cons h r, e => r.get (i := i) e
def ints_ (l : List Nat) : List V := l.map fun c => .int (c : Nat)
def intD (l : List Nat) : PyData := .tuple (l.map fun c => .int (c : Nat))
theorem dp_ints {K : PySem.W.Frag} {H : Hp} : ∀ l : List Nat, DpAll K H (l.map fun c => .int (c : Nat)) (l.map fun c => PyData.int (c : Nat))
  | [] => .nil
  | x :: l => .cons (.int _) (dp_ints l)
theorem shaped_ints (l : List Nat) : SeqAt.shaped (intD l) = true := by
  have h1 : ∀ l : List Nat, PyData.canLayAll0 (l.map fun c => PyData.int (c : Nat)) = true ∧ PyData.depthAll (l.map fun c => PyData.int (c : Nat)) = 0 := fun l => by
    induction l with
    | nil => exact ⟨by simp [PyData.canLayAll0], by simp [PyData.depthAll]⟩
    | cons x r ih => exact ⟨by simp [PyData.canLayAll0, PyData.canLay0, ih.1], by simp [PyData.depthAll, PyData.depth, ih.2]⟩
  show ((PyData.canLay0 (intD l)) && decide (PyData.depth (intD l) ≤ 64)) = true
  simp [intD, PyData.canLay0, PyData.depth, (h1 l).1, (h1 l).2]
theorem eqv_empty (l : List Nat) : PyData.eqv (intD l) (.tuple []) = l.isEmpty := by
  cases l with
  | nil => simp [intD, PyData.eqv, PyData.eqvAll]
  | cons x r => simp [intD, PyData.eqv, PyData.eqvAll]
theorem last_get : ∀ (r : List Nat) (x : Nat), (x :: r)[r.length]? = some (r.getLastD x)
  | [], x => rfl
  | y :: r, x => by
    rw [List.getLastD_cons]
    exact last_get r y
theorem last_at {l : List Nat} (h : l.isEmpty = false) : atI (ints_ l) (-1) = some (.int (l.getLastD 0 : Nat)) := by
  cases l with
  | nil => cases h
  | cons x r =>
    have hl : (ints_ (x :: r)).length = r.length + 1 := by unfold ints_; rw [List.length_map]; rfl
    unfold atI
    rw [hl]
    have e : ixN (r.length + 1) (-1) = some r.length := by
      unfold ixN
      simp
      omega
    rw [e]
    show (ints_ (x :: r))[r.length]? = _
    unfold ints_
    rw [List.getElem?_map]
    have e2 : (x :: r)[r.length]? = some ((x :: r).getLastD 0) := by
      rw [List.getLastD_cons]
      exact last_get r x
    rw [e2]
    rfl
section
variable {P : Program} {w : World} {K : PySem.W.Frag} {mg : Str → Option Value} {base : Heap}
def spLots : Sp := fun vs H Q _ => ∃ (r : Addr) (n : Nat), vs = [.ref r] ∧ n ≤ 5 ∧ H r = some (.lst (ints_ (List.range n))) ∧ ∀ H' q ts, Same H H' → H q = none → H' q = some (.lst (ts.map V.ref)) → TAt H' ts (lotsTo (List.range n) n) → Q (.ref q) H'
theorem ok_lots {f : Addr} {fd : FuncData} (F : Fun K "_law_lots" "_law_lots" s__law_lots f fd) (m_range : mg "range" = none) (m_len : mg "len" = none) (m_list : mg "list" = none) : FnOk P w K mg base CX0 1 f fd ["_law_cells"] spLots := by
  refine F.ok sc__law_lots (fun vs H Q E h => ?_) (fun cdv A outer s H vs Q E hr h => ?_)
  · obtain ⟨r, n, rfl, _⟩ := h
    rfl
  · obtain ⟨r, n, rfl, hn, hr0, q⟩ := h
    refine ⟨_, (pss_cons (ps_par (by rfl) sc__law_lots.nd (i := 1) (j := 2) rfl rfl (by decide) rfl rfl (pa_cons (pe_lst (pa_cons (pe_tup pa_nil) pa_nil)) (pa_cons (pe_lst (pa_cons (pe_tup pa_nil) pa_nil)) pa_nil)) (by rfl))
 (pss_cons (ps_for PassesOwn.never rfl (pi_range1 rfl m_range (pa_cons (pe_callB call_len_seq (by rfl) m_len boot_len (pa_cons (pv 0) pa_nil)) pa_nil)) (pg_name (i := 3) sc__law_lots.nd rfl (by first | exact Or.inl rfl | exact Or.inr rfl))
  (pss_cons (ps_set (i := 4) sc__law_lots.nd rfl (by first | exact Or.inl rfl | exact Or.inr rfl) (pe_lst pa_nil))
 (pss_cons (ps_for PassesOwn.never rfl (pi_list (pv 2)) (pg_name (i := 5) sc__law_lots.nd rfl (by first | exact Or.inl rfl | exact Or.inr rfl))
  (pss_one (ps_for PassesOwn.never rfl (pi_list (pv 0)) (pg_name (i := 6) sc__law_lots.nd rfl (by first | exact Or.inl rfl | exact Or.inr rfl))
  (pss_one (ps_if (pw_or (pt_cmpR (op_eqD hr.units) (pv 5) (pe_tup pa_nil) (nomark _)) (pw_or1 (pt_cmpR op_gt (pv 6) (pe_ix ix_tup (pv 5) (pe_un un_neg pe_int) (fun _ _ => rfl)) (nomark _)))).pt
  (pss_one (ps_expr (pe_bm PySem.F.plainAttrs_list PySem.F.slot_list_append PySem.F.type_list_append mt_append (pv 4) (pa_cons (pe_op op_catA (pv 5) (pe_tup (pa_cons (pv 6) pa_nil))) pa_nil))))
  pss_nil)))))
 (pss_cons (ps_expr (pe_bm PySem.F.plainAttrs_list PySem.F.slot_list_extend PySem.F.type_list_extend mt_extend (pv 1) (pa_cons (pv 4) pa_nil)))
 (pss_one (ps_set (i := 2) sc__law_lots.nd rfl (by first | exact Or.inl rfl | exact Or.inr rfl) (pe_callTy call_list_of (by rfl) m_list boot_list (pa_cons (pv 4) pa_nil))))))))
 (pss_one (ps_ret (pv 1))))), ?_⟩
    have hlen : (ints_ (List.range n)).length = n := by unfold ints_; rw [List.length_map, List.length_range]
    refine ⟨by show 0 ≤ sizeLine; decide, fun e0 ne0 => ⟨by show 1 ≤ sizeLine; decide, fun F0 nF0 => ⟨by show 0 ≤ sizeLine; decide, fun e1 ne1 => ⟨by show 1 ≤ sizeLine; decide, fun L0 nL0 => ?_⟩⟩⟩⟩
    have s1 : Same H (upd H e0 (.tup [])) := same_new (Same.refl H) ne0
    have s2 : Same (upd H e0 (.tup [])) (upd (upd H e0 (.tup [])) F0 (.lst [.ref e0])) := same_new (Same.refl _) nF0
    generalize hA : upd (upd H e0 (.tup [])) F0 (.lst [.ref e0]) = HA at s2 ne1 nL0 ⊢
    have hF : HA F0 = some (.lst [.ref e0]) := by rw [← hA]; exact upd_same
    have he0 : HA e0 = some (.tup []) := s2 _ _ upd_same
    have s3 : Same HA (upd HA e1 (.tup [])) := same_new (Same.refl _) ne1
    have s4 : Same (upd HA e1 (.tup [])) (upd (upd HA e1 (.tup [])) L0 (.lst [.ref e1])) := same_new (Same.refl _) nL0
    have hL : upd (upd HA e1 (.tup [])) L0 (.lst [.ref e1]) L0 = some (.lst [.ref e1]) := upd_same
    have he1 := s4 _ _ (show upd HA e1 (.tup []) e1 = some (.tup []) from upd_same)
    have hFL : F0 ≠ L0 := ne_of_none (s3 _ _ hF) nL0
    have hF2 := s4 _ _ (s3 _ _ hF)
    have he02 := s4 _ _ (s3 _ _ he0)
    have sB := s1.trans (s2.trans (s3.trans s4))
    generalize upd (upd HA e1 (.tup [])) L0 (.lst [.ref e1]) = HB at hL he1 hF2 he02 sB ⊢
    refine ⟨_, _, rfl, ?_⟩
    have hFn : H F0 = none := s1.free nF0
    refine ⟨_, rfl, r, _, rfl, .inl (.inl (.inl (sB _ _ hr0))), _, rfl, by omega, by omega, for_range (fun t σ H' => t ≤ n ∧ ∃ La fs las y3 y4 y5 y6, σ = [some (.ref r), some (.ref F0), some (.ref La), y3, y4, y5, y6] ∧ Same H H' ∧ H' F0 = some (.lst (fs.map V.ref)) ∧ H' La = some (.lst (las.map V.ref)) ∧ La ≠ F0 ∧ TAt H' fs (lotsTo (List.range n) t) ∧ TAt H' las (level (List.range n) t)) ⟨Nat.zero_le _, L0, [e0], [e1], none, none, none, none, rfl, sB, hF2, hL, hFL.symm, .cons he02 .nil, .cons he1 .nil⟩ (fun t σ H' ht pv => ?_) (fun σ H' pv => ?_)⟩
    · obtain ⟨_, La, fs, las, y3, y4, y5, y6, rfl, e, hF', hLa, nLF, tF, tL⟩ := pv
      rw [hlen] at ht
      have ht : t < n := by simpa using ht
      refine ⟨by show 0 ≤ sizeLine; decide, fun G nG => ?_⟩
      have gF : F0 ≠ G := ne_of_none hF' nG
      have gL : La ≠ G := ne_of_none hLa nG
      have eG : Same H' (upd H' G (.lst [])) := same_new (Same.refl H') nG
      obtain ⟨lv, lt5⟩ := level_len ⟨n, by omega⟩ ⟨t, by omega⟩
      obtain ⟨lv2, lt6⟩ := level_len ⟨n, by omega⟩ ⟨t + 1, by omega⟩
      have lv : (level (List.range n) t).length ≤ 10 := lv
      refine ⟨_, rfl, La, rfl, ⟨_, .inl (.inl (eG _ _ hLa))⟩, for_list (xs := las.map V.ref) (fun i σ H2 => ∃ gs y5 y6, σ = [some (.ref r), some (.ref F0), some (.ref La), some (.int (0 + (t : Nat))), some (.ref G), y5, y6] ∧ But G H' H2 ∧ H2 G = some (.lst (gs.map V.ref)) ∧ TAt H2 gs (((level (List.range n) t).take i).flatMap (grow1 (List.range n))) ∧ gs.length ≤ 5 * i)
        ⟨[], y5, y6, rfl, fun b o hb hz => by rw [upd_ne hb]; exact hz, upd_same, .nil, Nat.le_refl _⟩ (fun i σ H2 _ pv => ?_) (fun i x σ H2 hx pv => ?_) (fun σ H2 pv => ?_)⟩
      · obtain ⟨gs, y5, y6, rfl, bt, hG, tG, hg⟩ := pv
        exact .inl (.inl (bt _ _ gL hLa))
      · obtain ⟨gs, y5, y6, rfl, bt, hG, tG, hg⟩ := pv
        rw [List.getElem?_map] at hx
        obtain ⟨ti, hti, rfl⟩ := Option.map_eq_some_iff.mp hx
        obtain ⟨lot, elot, hlot⟩ := tL.get hti
        have hi10 : i < 10 := by
          have := (List.getElem?_eq_some_iff.mp elot).1
          omega
        have tG' : ∀ {b : Addr} {xs : List V}, H' b = some (.tup xs) → H2 b = some (.tup xs) := fun {b xs} hb => bt b _ (ne_of_none hb nG) hb
        have hr2 : H2 r = some (.lst (ints_ (List.range n))) := bt _ _ (ne_of_none (e _ _ hr0) nG) (e _ _ hr0)
        have nrG : r ≠ G := ne_of_none (e _ _ hr0) nG
        refine ⟨_, rfl, r, rfl, ⟨_, .inl (.inl hr2)⟩, for_list (xs := ints_ (List.range n)) (fun j σ H3 => ∃ gs' y6, σ = [some (.ref r), some (.ref F0), some (.ref La), some (.int (0 + (t : Nat))), some (.ref G), some (.ref ti), y6] ∧ But G H' H3 ∧ H3 G = some (.lst (gs'.map V.ref)) ∧ TAt H3 gs' (((level (List.range n) t).take i).flatMap (grow1 (List.range n)) ++ grow1 ((List.range n).take j) lot) ∧ gs'.length ≤ 5 * i + j)
          ⟨gs, y6, rfl, bt, hG, by simpa [grow1] using tG, by omega⟩ (fun j σ H3 _ pv => ?_) (fun j x σ H3 hx pv => ?_) (fun σ H3 pv => ?_)⟩
        · obtain ⟨gs', y6, rfl, bt3, hG3, tG3, hg3⟩ := pv
          exact .inl (.inl (bt3 _ _ nrG (e _ _ hr0)))
        · obtain ⟨gs', y6, rfl, bt3, hG3, tG3, hg3⟩ := pv
          unfold ints_ at hx
          rw [List.getElem?_map] at hx
          obtain ⟨c, hc, rfl⟩ := Option.map_eq_some_iff.mp hx
          have hj5 : j < 5 := by
            have := (List.getElem?_eq_some_iff.mp hc).1
            rw [List.length_range] at this
            omega
          have hlot3 : H3 ti = some (.tup (lot.map fun c => .int (c : Nat))) := bt3 ti _ (ne_of_none hlot nG) hlot
          have hll : lot.length ≤ 990 := lot_len hn (by omega) elot
          have g1 : grow1 ((List.range n).take (j + 1)) lot = grow1 ((List.range n).take j) lot ++ (if (lot.isEmpty || decide (lot.getLastD 0 < c)) = true then [lot ++ [c]] else []) := by
            unfold grow1
            rw [List.take_add_one, hc, List.filter_append, List.map_append]
            congr 1
            by_cases z : (lot.isEmpty || decide (lot.getLastD 0 < c)) = true
            · rw [if_pos z]
              show List.map _ (List.filter _ [c]) = _
              rw [List.filter_cons, if_pos z]
              rfl
            · rw [if_neg z]
              show List.map _ (List.filter _ [c]) = _
              rw [List.filter_cons, if_neg z]
              rfl
          have endOk : ∀ (Hf : Hp) (v : Addr), Same H3 Hf → Hf v = some (.tup ((lot ++ [c]).map fun c => .int (c : Nat))) → (lot.isEmpty || decide (lot.getLastD 0 < c)) = true →
              But G H' (upd Hf G (.lst (gs'.map V.ref ++ [.ref v]))) ∧ upd Hf G (.lst (gs'.map V.ref ++ [.ref v])) G = some (.lst ((gs' ++ [v]).map V.ref)) ∧
                TAt (upd Hf G (.lst (gs'.map V.ref ++ [.ref v]))) (gs' ++ [v]) (((level (List.range n) t).take i).flatMap (grow1 (List.range n)) ++ grow1 ((List.range n).take (j + 1)) lot) ∧ (gs' ++ [v]).length ≤ 5 * i + (j + 1) := by
            intro Hf v sF hv hcond
            have up : ∀ b xs, Hf b = some (.tup xs) → upd Hf G (.lst (gs'.map V.ref ++ [.ref v])) b = some (.tup xs) := fun b xs hb => by
              have n1 : b ≠ G := fun z => by rw [z, sF _ _ hG3] at hb; cases hb
              rw [upd_ne n1]; exact hb
            refine ⟨fun b o nb hb => by rw [upd_ne nb]; exact sF _ _ (bt3 b o nb hb), by rw [upd_same, List.map_append]; rfl, ?_, by rw [List.length_append, List.length_singleton]; omega⟩
            rw [g1, if_pos hcond, ← List.append_assoc]
            exact ((tG3.same sF).mono up).append (.cons (up _ _ hv) .nil)
          refine ⟨_, rfl, by show 0 ≤ sizeLine; decide, fun em nem => ?_⟩
          have sX := same_new (o := .tup []) (Same.refl H3) nem
          refine ⟨_, _, .tup (.inl (.inl (sX _ _ hlot3))) (dp_ints lot), .tup (.inl (.inl upd_same)) .nil, shaped_ints lot, shaped_ints [], ?_⟩
          rw [show PyData.eqv (.tuple (lot.map fun c => PyData.int (c : Nat))) (.tuple []) = lot.isEmpty from eqv_empty lot]
          refine ⟨_, rfl, ite2 (fun q1 => ?_) (fun q1 => ?_)⟩
          · have hcond : (lot.isEmpty || decide (lot.getLastD 0 < c)) = true := by rw [q1]; rfl
            have hG4 := sX _ _ hG3
            refine ⟨_, rfl, .inl ⟨rfl, _, .inl (.inl hG4)⟩, _, rfl, _, rfl, by show 1 ≤ sizeLine; decide, fun u nu => ?_⟩
            have sU := sX.trans (same_new (o := .tup [.int (c : Nat)]) (Same.refl _) nu)
            refine ⟨ti, u, _, _, rfl, rfl, .inl (.inl (sU _ _ hlot3)), .inl (.inl upd_same), ?_, fun z => ?_, (fun _ z2 => nomatch z2), fun z1 _ p np => ?_⟩
            · rw [List.length_map]
              exact Nat.le_trans (show lot.length + 1 ≤ 1000 by omega) (by decide)
            · have lot0 : lot = [] := by simpa using z
              obtain ⟨k1, k2, k3, k4⟩ := endOk _ u sU (by rw [upd_same, lot0]; rfl) hcond
              exact ⟨G, _, _, rfl, rfl, sU _ _ hG3, by rw [List.length_map]; exact small1000 (by omega), gs' ++ [u], _, rfl, k1, k2, k3, k4⟩
            · obtain ⟨k1, k2, k3, k4⟩ := endOk _ p (sU.trans (same_new (Same.refl _) np)) (by rw [upd_same, List.map_append]) hcond
              exact ⟨G, _, _, rfl, rfl, (sU.trans (same_new (Same.refl _) np)) _ _ hG3, by rw [List.length_map]; exact small1000 (by omega), gs' ++ [p], _, rfl, k1, k2, k3, k4⟩
          · have q1' : lot.isEmpty = false := Bool.eq_false_iff.mpr q1
            refine ⟨_, rfl, _, rfl, _, rfl, ti, _, _, .int (lot.getLastD 0 : Nat), rfl, rfl, .inl (.inl (sX _ _ hlot3)), last_at q1', _, _, rfl, rfl, _, rfl, ite2 (fun q2 => ?_) (fun q2 => ?_)⟩
            · have hcond : (lot.isEmpty || decide (lot.getLastD 0 < c)) = true := by
                rw [q1', Bool.false_or]
                have := of_decide_eq_true q2
                exact decide_eq_true (by omega)
              have hG4 := sX _ _ hG3
              refine ⟨_, rfl, .inl ⟨rfl, _, .inl (.inl hG4)⟩, _, rfl, _, rfl, by show 1 ≤ sizeLine; decide, fun u nu => ?_⟩
              have sU := sX.trans (same_new (o := .tup [.int (c : Nat)]) (Same.refl _) nu)
              refine ⟨ti, u, _, _, rfl, rfl, .inl (.inl (sU _ _ hlot3)), .inl (.inl upd_same), ?_, fun z => ?_, (fun _ z2 => nomatch z2), fun z1 _ p np => ?_⟩
              · rw [List.length_map]
                exact Nat.le_trans (show lot.length + 1 ≤ 1000 by omega) (by decide)
              · have lot0 : lot = [] := by simpa using z
                obtain ⟨k1, k2, k3, k4⟩ := endOk _ u sU (by rw [upd_same, lot0]; rfl) hcond
                exact ⟨G, _, _, rfl, rfl, sU _ _ hG3, by rw [List.length_map]; exact small1000 (by omega), gs' ++ [u], _, rfl, k1, k2, k3, k4⟩
              · obtain ⟨k1, k2, k3, k4⟩ := endOk _ p (sU.trans (same_new (Same.refl _) np)) (by rw [upd_same, List.map_append]) hcond
                exact ⟨G, _, _, rfl, rfl, (sU.trans (same_new (Same.refl _) np)) _ _ hG3, by rw [List.length_map]; exact small1000 (by omega), gs' ++ [p], _, rfl, k1, k2, k3, k4⟩
            · have hcond : ¬ (lot.isEmpty || decide (lot.getLastD 0 < c)) = true := by
                rw [q1', Bool.false_or]
                intro z
                have z' := of_decide_eq_true z
                exact q2 (decide_eq_true (by omega))
              refine ⟨gs', _, rfl, fun b o nb hb => sX _ _ (bt3 b o nb hb), sX _ _ hG3, ?_, by omega⟩
              rw [g1, if_neg hcond, List.append_nil]
              exact tG3.same sX
        · obtain ⟨gs', y6, rfl, bt3, hG3, tG3, hg3⟩ := pv
          refine ⟨gs', _, _, rfl, bt3, hG3, ?_, ?_⟩
          · rw [hlen, show (List.range n).take n = List.range n from List.take_of_length_le (by rw [List.length_range]; exact Nat.le_refl n)] at tG3
            rw [List.take_add_one, elot, List.flatMap_append]
            simpa using tG3
          · rw [hlen] at hg3
            omega
      · obtain ⟨gs, y5, y6, rfl, bt, hG, tG, hg⟩ := pv
        rw [List.length_map] at tG hg
        rw [tL.len, List.take_length] at tG
        have hF3 := bt _ _ gF hF'
        have lfs : fs.length ≤ 32 := by rw [tF.len]; exact (level_len ⟨n, by omega⟩ ⟨t, by omega⟩).2
        have lgs : gs.length ≤ 10 := by rw [tG.len]; exact lv2
        refine ⟨_, rfl, .inl ⟨rfl, _, .inl (.inl hF3)⟩, _, rfl, F0, G, _, _, rfl, rfl, hF3, hG, ?_, ?_⟩
        · rw [List.length_map, List.length_map]
          exact Nat.le_trans (show fs.length + gs.length ≤ 42 by omega) (by decide)
        have hG4 : upd H2 F0 (.lst (fs.map V.ref ++ gs.map V.ref)) G = some (.lst (gs.map V.ref)) := by rw [upd_ne gF.symm]; exact hG
        refine ⟨_, rfl, G, _, rfl, .inl (.inl (.inl hG4)), fun L2 nL2 => ?_⟩
        have hF4 : upd H2 F0 (.lst (fs.map V.ref ++ gs.map V.ref)) F0 = some (.lst ((fs ++ gs).map V.ref)) := by rw [upd_same, List.map_append]
        have nL2F : L2 ≠ F0 := fun z => by rw [z, hF4] at nL2; cases nL2
        have up : ∀ b xs, H2 b = some (.tup xs) → upd (upd H2 F0 (.lst (fs.map V.ref ++ gs.map V.ref))) L2 (.lst (gs.map V.ref)) b = some (.tup xs) := fun b xs hb => by
          have n1 : b ≠ F0 := fun z => by rw [z, hF3] at hb; cases hb
          have h1 : upd H2 F0 (.lst (fs.map V.ref ++ gs.map V.ref)) b = some (.tup xs) := by rw [upd_ne n1]; exact hb
          rw [upd_ne (ne_of_none h1 nL2)]
          exact h1
        have tF' : TAt H2 fs (lotsTo (List.range n) t) := tF.mono fun b xs hb => bt b _ (ne_of_none hb nG) hb
        refine ⟨by omega, L2, fs ++ gs, gs, _, _, _, _, rfl, fun b o hb => ?_, by rw [upd_ne nL2F.symm]; exact hF4, upd_same, nL2F, (tF'.mono up).append (tG.mono up), tG.mono up⟩
        have n0 : b ≠ F0 := ne_of_none hb hFn
        have h1 := e _ _ hb
        have h2 := bt _ _ (ne_of_none h1 nG) h1
        have h3 : upd H2 F0 (.lst (fs.map V.ref ++ gs.map V.ref)) b = some o := by rw [upd_ne n0]; exact h2
        rw [upd_ne (ne_of_none h3 nL2)]
        exact h3
    · obtain ⟨_, La, fs, las, y3, y4, y5, y6, rfl, e, hF', hLa, nLF, tF, tL⟩ := pv
      rw [hlen] at tF
      exact ⟨_, rfl, q H' F0 fs e hFn hF' (by simpa using tF)⟩
end
end K7
end
/-! ## KL -/
section
/-! ## pure facts about drawn lands (no program in them) -/
namespace KL
/-- every set that holds cell 0 and is not left over any couple holds all cells -/
def Conn (n : Nat) (es : List (Nat × Nat)) : Prop := ∀ S : Nat → Bool, S 0 = true → (∀ e ∈ es, S e.1 = S e.2) → ∀ c, c < n → S c = true
theorem erase_perm {α : Type} : ∀ (l : List α) (j : Nat) (h : j < l.length), (l[j] :: l.eraseIdx j).Perm l
  | x :: l, 0, _ => List.Perm.refl _
  | x :: l, j + 1, h => (List.Perm.swap x (l[j]'(Nat.lt_of_succ_lt_succ h)) (l.eraseIdx j)).trans (List.Perm.cons x (erase_perm l j (Nat.lt_of_succ_lt_succ h)))
/-- one item drawn out of what is left -/
theorem pop_perm {names left : List Nat} {j : Nat} (h : j < left.length) : ((names ++ [left[j]]) ++ left.eraseIdx j).Perm (names ++ left) := by
  rw [List.append_assoc]
  refine List.Perm.append_left names ?_
  exact erase_perm left j h
def couple (names : List Nat) (a b : Nat) : Nat × Nat := (min (names.getD a 0) (names.getD b 0), max (names.getD a 0) (names.getD b 0))
theorem couple_mem {names : List Nat} {n : Nat} (hp : names.Perm (List.range n)) {a : Nat} (ha : a < n) : names.getD a 0 < n := by
  have hl : names.length = n := by rw [hp.length_eq, List.length_range]
  have e : names.getD a 0 = names[a]'(by omega) := by
    rw [List.getD_eq_getElem?_getD, List.getElem?_eq_getElem (by omega)]
    rfl
  rw [e]
  exact List.mem_range.mp (hp.mem_iff.mp (List.getElem_mem _))
/-- a tree under drawn names hangs together -/
theorem conn_tree {n : Nat} {names : List Nat} (hp : names.Perm (List.range n)) {es : List (Nat × Nat)} (h : ∀ k, 0 < k → k < n → ∃ d, d < k ∧ couple names k d ∈ es) : Conn n es := by
  intro S h0 hS c hc
  have hl : names.length = n := by rw [hp.length_eq, List.length_range]
  have step : ∀ k d, couple names k d ∈ es → S (names.getD k 0) = S (names.getD d 0) := by
    intro k d m
    have e := hS _ m
    unfold couple at e
    simp only at e
    by_cases q : names.getD k 0 ≤ names.getD d 0
    · rw [Nat.min_eq_left q, Nat.max_eq_right q] at e
      exact e
    · rw [Nat.min_eq_right (by omega), Nat.max_eq_left (by omega)] at e
      exact e.symm
  have all : ∀ k, k < n → S (names.getD k 0) = S (names.getD 0 0) := by
    intro k
    induction k using Nat.strongRecOn with
    | _ k ih =>
      intro hk
      by_cases z : k = 0
      · rw [z]
      · obtain ⟨d, hd, m⟩ := h k (by omega) hk
        rw [step k d m]
        exact ih d hd (by omega)
  have at_ : ∀ x, x < n → ∃ k, k < n ∧ names.getD k 0 = x := by
    intro x hx
    have m : x ∈ names := hp.mem_iff.mpr (List.mem_range.mpr hx)
    obtain ⟨k, hk, e⟩ := List.mem_iff_getElem.mp m
    refine ⟨k, by omega, ?_⟩
    rw [List.getD_eq_getElem?_getD, List.getElem?_eq_getElem hk, e]
    rfl
  obtain ⟨k0, hk0, e0⟩ := at_ 0 (by omega)
  obtain ⟨k, hk, e⟩ := at_ c hc
  have r0 := all k0 hk0
  rw [e0, h0] at r0
  rw [← e, all k hk, ← r0]
/-- a list of cells that is closed under the couples and holds cell 0 holds all cells -/
theorem conn_closed {n : Nat} {es : List (Nat × Nat)} (h : Conn n es) {found : List Nat} (h0 : 0 ∈ found) (hc : ∀ a b, ((a, b) ∈ es ∨ (b, a) ∈ es) → a ∈ found → b ∈ found) : ∀ c, c < n → c ∈ found := by
  intro c hc'
  have := h (fun x => decide (x ∈ found)) (by simpa using h0) (fun e he => by
    have e1 : e.1 ∈ found ↔ e.2 ∈ found := ⟨fun q => hc e.1 e.2 (.inl he) q, fun q => hc e.2 e.1 (.inr he) q⟩
    exact decide_eq_decide.mpr e1) c hc'
  simpa using this
/-- as many as there are cells, none twice: all cells -/
theorem all_len {n : Nat} {found : List Nat} (hn : found.Nodup) (hb : ∀ c ∈ found, c < n) (ha : ∀ c, c < n → c ∈ found) : found.length = n := by
  have hp : found.Perm (List.range n) := by
    rw [List.perm_ext_iff_of_nodup hn List.nodup_range]
    intro a
    exact ⟨fun q => List.mem_range.mpr (hb a q), fun q => ha a (List.mem_range.mp q)⟩
  rw [hp.length_eq, List.length_range]
end KL
namespace KL
theorem couple_inj {names : List Nat} {n : Nat} (hp : names.Perm (List.range n)) {a b a' b' : Nat} (h1 : b < a) (h2 : a < n) (h1' : b' < a') (h2' : a' < n) (e : couple names a b = couple names a' b') : (a, b) = (a', b') := by
  have hl : names.length = n := by rw [hp.length_eq, List.length_range]
  have nd : names.Nodup := hp.nodup_iff.mpr List.nodup_range
  have inj : ∀ x y, x < n → y < n → names.getD x 0 = names.getD y 0 → x = y := by
    intro x y hx hy q
    rw [List.getD_eq_getElem?_getD, List.getD_eq_getElem?_getD, List.getElem?_eq_getElem (by omega), List.getElem?_eq_getElem (by omega)] at q
    exact (List.getElem_inj nd).mp q
  have ne : ∀ x y, x < n → y < n → x ≠ y → names.getD x 0 ≠ names.getD y 0 := fun x y hx hy q z => q (inj x y hx hy z)
  unfold couple at e
  injection e with e1 e2
  have q1 := ne a b h2 (by omega) (by omega)
  have q2 := ne a' b' h2' (by omega) (by omega)
  by_cases c1 : names.getD a 0 ≤ names.getD b 0
  · rw [Nat.min_eq_left c1] at e1
    rw [Nat.max_eq_right c1] at e2
    by_cases c2 : names.getD a' 0 ≤ names.getD b' 0
    · rw [Nat.min_eq_left c2] at e1
      rw [Nat.max_eq_right c2] at e2
      rw [inj a a' h2 h2' e1, inj b b' (by omega) (by omega) e2]
    · rw [Nat.min_eq_right (by omega)] at e1
      rw [Nat.max_eq_left (by omega)] at e2
      have r1 := inj a b' h2 (by omega) e1
      have r2 := inj b a' (by omega) h2' e2
      omega
  · rw [Nat.min_eq_right (by omega)] at e1
    rw [Nat.max_eq_left (by omega)] at e2
    by_cases c2 : names.getD a' 0 ≤ names.getD b' 0
    · rw [Nat.min_eq_left c2] at e1
      rw [Nat.max_eq_right c2] at e2
      have r1 := inj b a' (by omega) h2' e1
      have r2 := inj a b' h2 (by omega) e2
      omega
    · rw [Nat.min_eq_right (by omega)] at e1
      rw [Nat.max_eq_left (by omega)] at e2
      rw [inj a a' h2 h2' e2, inj b b' (by omega) (by omega) e1]
end KL
end
/-! ## ER -/
section
namespace K7E
open PySem PySem.Spec PyProof.Rows L2
theorem cr_range1 {X : Cx} : CallR X (.type "range") (fun vs H Q => ∃ j, vs = [V.int j] ∧ ∀ p, H p = none → Q (.ref p) (upd H p (.rng 0 j))) := by
  intro pins s σ H vs us Q I r h
  obtain ⟨j, rfl, q⟩ := h
  obtain ⟨u1, rfl, t, rfl⟩ := r.one
  refine call_range_1 ⟨.ref s.heap.objs.size, upd H s.heap.objs.size (.rng 0 j), I.laid (t' := s.toks + 1 + 1) (fun b o e => Heap.get?_push_of_some _ e) (Nat.le_refl _) ?_, rfl, q _ (I.hok.fresh (Nat.le_refl _))⟩
  exact ⟨s.toks, t, s.toks + 1, Heap.get?_push_size _ rfl⟩
def upTo (n : Nat) : List V := (List.range n).map fun i => .int (i : Nat)
theorem vals_upTo : ∀ (n : Nat) (us : List Value), us.length = n → (∀ (j : Nat) v, us[j]? = some v → ∃ t, v = .int (j : Nat) t) → Vals (upTo n) us := by
  intro n
  induction n with
  | zero => intro us h _; cases us with | nil => exact .nil | cons => cases h
  | succ n ih =>
    intro us h hv
    have e : us = us.take n ++ [us[n]'(by omega)] := by
      have := List.take_append_getElem (l := us) (i := n) (by omega)
      rw [this, List.take_of_length_le (by omega)]
    have e2 : upTo (n + 1) = upTo n ++ [.int (n : Nat)] := by
      unfold upTo
      rw [List.range_succ, List.map_append]
      rfl
    rw [e, e2]
    refine (ih _ (by rw [List.length_take]; omega) fun j v hj => ?_).append (.cons ?_ .nil)
    · rw [List.getElem?_take] at hj
      split at hj
      · exact hv j v hj
      · cases hj
    · exact hv n _ (List.getElem?_eq_getElem (by omega))
theorem small_all : ∀ k : Fin 1001, Builtin.Range.small 0 (k.val : Int) 1 = true := by decide +kernel
theorem cr_list_rng {X : Cx} (hc : X.calm = true) : CallR X (.type "list") (fun vs H Q => ∃ (r : Addr) (n : Nat), vs = [V.ref r] ∧ H r = some (.rng 0 n) ∧ n ≤ 1000 ∧ ∀ l, H l = none → Q (.ref l) (upd H l (.lst (upTo n)))) := by
  intro pins s σ H vs us Q I rv h
  obtain ⟨r, n, rfl, hr, hn, q⟩ := h
  obtain ⟨u, rfl, ru⟩ := rv.one
  cases ru
  obtain ⟨t, u, v, hg⟩ := I.hok r _ hr
  refine call_list_range (n := n) (I.ok.hd hc) (show IsRange s.heap r 0 n 1 t u v from hg) ?_ ?_ ?_ fun h' tk acc' c' hk hl hi => ?_
  · have h1 : (0 : Int) ≤ n := by omega
    have h2 : (n : Int) ≤ 1000 := by omega
    exact small_all ⟨n, by omega⟩
  · show (if (0 : Int) < (n : Int) then ((n : Int) - 0 - 1) / 1 + 1 else 0) = (n : Int)
    split <;> omega
  · exact Nat.le_trans hn (by decide)
  · refine ⟨.ref s.heap.objs.size, upd H s.heap.objs.size (.lst (upTo n)), I.laid (t' := tk) hk (Nat.le_refl _) ⟨?_, acc'.toList, c', vals_upTo n _ ?_ fun j w hj => ?_, ?_⟩, rfl, q _ (I.hok.fresh (Nat.le_refl _))⟩
    · unfold upTo; rw [List.length_map, List.length_range]; exact Nat.le_trans hn (by decide)
    · simpa using hi.1
    · obtain ⟨t', e⟩ := hi.2 j w (by simpa using hj)
      exact ⟨t', by rw [e]; simp⟩
    · simpa using hl
end K7E
end
/-! ## P3 -/
section
open PySem PySem.Spec PyProof.Rows L2
namespace K7L
theorem hu65 {k : Nat} {A : Around} (hr : Room k A) : A.units + 65 < cLine := by have := hr.un; omega
end K7L
namespace K7
abbrev N__law_land : List Str := ["_law_hand_here", "_law_n", "_law_names", "_law_left", "_law_k", "_law_couples", "_law_high", "_law_low", "_law_rows", "_law_a", "_law_b", "_law_lots_here", "_law_lot"]
abbrev s__law_land : Stmt := topS 33
theorem sc__law_land : FnScope ["_law_hand_here", "_law_n", "_law_names", "_law_left", "_law_k", "_law_couples", "_law_high", "_law_low", "_law_rows", "_law_a", "_law_b", "_law_lots_here", "_law_lot"] ["_law_hand_here", "_law_n"] (defScope s__law_land) := ⟨rfl, rfl, rfl, by decide +kernel, rfl, by decide +kernel, by decide +kernel⟩
/-! ### what stays -/
def notHand : List V → Bool
  | [.ref _, .int _, .int _, .int _] => false
  | _ => true
theorem notHand_strs : ∀ ss : List Str, notHand (ss.map V.str) = true
  | [] => rfl
  | [_] => rfl
  | [_, _] => rfl
  | [_, _, _] => rfl
  | [_, _, _, _] => rfl
  | _ :: _ :: _ :: _ :: _ :: _ => rfl
theorem notHand_len : ∀ xs : List V, xs.length ≠ 4 → notHand xs = true
  | [], _ => rfl
  | [_], _ => by unfold notHand; split <;> first | rfl | (rename_i h; cases h)
  | [_, _], _ => by unfold notHand; split <;> first | rfl | (rename_i h; cases h)
  | [_, _, _], _ => by unfold notHand; split <;> first | rfl | (rename_i h; cases h)
  | [_, _, _, _], h => absurd rfl h
  | _ :: _ :: _ :: _ :: _ :: _, _ => by unfold notHand; split <;> first | rfl | (rename_i h; cases h)
/-- all but the hand at h is as it was, and the hand is a hand -/
structure Stay (h c : Addr) (H H' : Hp) : Prop where
  but : But h H H'
  hand0 : Hand H h c
  hand : Hand H' h c
theorem Stay.of_same {h c : Addr} {H H' : Hp} (hh : Hand H h c) (e : Same H H') : Stay h c H H' := ⟨fun b o _ z => e b o z, hh, hh.same e⟩
theorem Stay.of_drawn {h c : Addr} {H H' : Hp} (hh : Hand H h c) (d : Drawn H H' h c) : Stay h c H H' := ⟨fun b o nb z => by rw [d.but b nb]; exact z, hh, d.hand⟩
theorem Stay.trans {h c : Addr} {H H' H'' : Hp} (x : Stay h c H H') (y : Stay h c H' H'') : Stay h c H H'' := ⟨fun b o nb z => y.but b o nb (x.but b o nb z), x.hand0, y.hand⟩
theorem Stay.same {h c : Addr} {H H' H'' : Hp} (x : Stay h c H H') (e : Same H' H'') : Stay h c H H'' := x.trans (.of_same x.hand e)
theorem Stay.drawn {h c : Addr} {H H' H'' : Hp} (x : Stay h c H H') (e : Drawn H' H'' h c) : Stay h c H H'' := x.trans (.of_drawn x.hand e)
theorem Hand.nel {h c b : Addr} {H : Hp} {xs : List V} (hh : Hand H h c) (hb : H b = some (.lst xs)) (hx : notHand xs = true) : b ≠ h := by
  intro e
  subst e
  obtain ⟨ns, i, x, t, h1, _, _⟩ := hh
  rw [hb] at h1
  injection h1 with h1
  unfold HandO at h1
  injection h1 with h1
  subst h1
  cases hx
theorem Hand.nei {h c b C dx : Addr} {H : Hp} {fs : List (Str × V)} (hh : Hand H h c) (hb : H b = some (.ins C dx fs)) : b ≠ h := by
  intro e
  subst e
  obtain ⟨ns, i, x, t, h1, _, _⟩ := hh
  rw [hb] at h1
  cases h1
theorem Hand.net {h c b : Addr} {H : Hp} {xs : List V} (hh : Hand H h c) (hb : H b = some (.tup xs)) : b ≠ h := by
  intro e
  subst e
  obtain ⟨ns, i, x, t, h1, _, _⟩ := hh
  rw [hb] at h1
  cases h1
theorem Hand.ned {h c b : Addr} {H : Hp} {kvs : List (Key × V)} (hh : Hand H h c) (hb : H b = some (.dK kvs)) : b ≠ h := by
  intro e
  subst e
  obtain ⟨ns, i, x, t, h1, _, _⟩ := hh
  rw [hb] at h1
  cases h1
section
variable {h c : Addr} {H H' : Hp}
theorem Stay.lst {b : Addr} {xs : List V} (x : Stay h c H H') (hb : H b = some (.lst xs)) (hx : notHand xs = true) : H' b = some (.lst xs) := x.but b _ (x.hand0.nel hb hx) hb
theorem Stay.row {b : Addr} {ss : List Str} (x : Stay h c H H') (hb : H b = some (.lst (ss.map V.str))) : H' b = some (.lst (ss.map V.str)) := x.lst hb (notHand_strs ss)
end
theorem map_erase {α β : Type} (f : α → β) : ∀ (l : List α) (j : Nat), (l.map f).eraseIdx j = (l.eraseIdx j).map f
  | [], _ => rfl
  | x :: l, 0 => rfl
  | x :: l, j + 1 => congrArg (f x :: ·) (map_erase f l j)
theorem ixN_nat {n i : Nat} (h : i < n) : ixN n (i : Int) = some i := by
  have e : (List.range n)[i]? = some i := by rw [List.getElem?_range h]
  have := atI_nat e
  unfold atI at this
  rw [List.length_range] at this
  cases q : ixN n (i : Int) with
  | none => rw [q] at this; cases this
  | some j =>
    rw [q] at this
    have h2 : (List.range n)[j]? = some i := this
    rw [List.getElem?_eq_some_iff] at h2
    obtain ⟨h3, h4⟩ := h2
    rw [List.getElem_range] at h4
    rw [h4]
section
variable {P : Program} {w : World} {K : PySem.W.Frag} {mg : Str → Option Value} {base : Heap}
def rLen_ (K : PySem.W.Frag) : List V → Hp → VK → Prop := fun xs H Q => ∃ p ys, xs = [.ref p] ∧ (SqL K H p ys ∨ SqT K H p ys) ∧ Q (.int ys.length) H
def pairs (es : List (Nat × Nat)) : List (List Nat) := es.map fun e => [e.1, e.2]
/-- couples before the cells have their names: each cell below m hangs on a lower one -/
structure Tree (n m : Nat) (cs : List (Nat × Nat)) : Prop where
  lt : ∀ e ∈ cs, e.2 < e.1 ∧ e.1 < m ∧ e.1 < n
  nd : cs.Nodup
  low : ∀ k, 0 < k → k < m → ∃ d, d < k ∧ (k, d) ∈ cs
theorem Tree.nil (n : Nat) : Tree n 1 [] := ⟨fun e h => (nomatch h), List.nodup_nil, fun k h0 h1 => by omega⟩
theorem Tree.add {n k j : Nat} {cs : List (Nat × Nat)} (t : Tree n (k + 1) cs) (hk : k + 1 < n) (hj : j < k + 1) : Tree n (k + 1 + 1) (cs ++ [(k + 1, j)]) := by
  refine ⟨fun e h => ?_, ?_, fun x x0 x1 => ?_⟩
  · rcases List.mem_append.mp h with q | q
    · obtain ⟨a, b, c⟩ := t.lt e q
      exact ⟨a, by omega, c⟩
    · rw [List.mem_singleton.mp q]
      exact ⟨hj, by show k + 1 < k + 1 + 1; omega, hk⟩
  · rw [List.nodup_append]
    refine ⟨t.nd, by simp, fun a ha b hb => ?_⟩
    rw [List.mem_singleton.mp hb]
    intro z
    rw [z] at ha
    have := (t.lt _ ha).2.1
    simp only at this
    omega
  · by_cases z : x = k + 1
    · exact ⟨j, by omega, List.mem_append_right _ (by rw [z]; exact List.mem_singleton.mpr rfl)⟩
    · obtain ⟨d, d1, d2⟩ := t.low x x0 (by omega)
      exact ⟨d, d1, List.mem_append_left _ d2⟩
theorem Tree.more {n a b : Nat} {cs : List (Nat × Nat)} (t : Tree n n cs) (h1 : b < a) (h2 : a < n) (h3 : (a, b) ∉ cs) : Tree n n (cs ++ [(a, b)]) := by
  refine ⟨fun e h => ?_, ?_, fun x x0 x1 => ?_⟩
  · rcases List.mem_append.mp h with q | q
    · exact t.lt e q
    · rw [List.mem_singleton.mp q]
      exact ⟨h1, h2, h2⟩
  · rw [List.nodup_append]
    refine ⟨t.nd, by simp, fun x hx y hy => ?_⟩
    rw [List.mem_singleton.mp hy]
    intro z
    exact h3 (z ▸ hx)
  · obtain ⟨d, d1, d2⟩ := t.low x x0 x1
    exact ⟨d, d1, List.mem_append_left _ d2⟩
/-! ### couples as data -/
theorem dp_pair {K : PySem.W.Frag} {H : Hp} (k j : Nat) : DpAll K H [.int (2 + (k : Nat)), .int (0 + (j : Nat))] [.int ((2 + k : Nat) : Int), .int (j : Nat)] := by
  rw [show (2 : Int) + (k : Nat) = ((2 + k : Nat) : Int) by omega, Int.zero_add]
  exact .cons (.int _) (.cons (.int _) .nil)
theorem dp_rows {K : PySem.W.Frag} {H : Hp} : ∀ {ts : List Addr} {ls : List (List Nat)}, TAt H ts ls → DpAll K H (ts.map V.ref) (ls.map intD)
  | _, _, .nil => .nil
  | _, _, .cons h r => .cons (.tup (.inl (.inl h)) (dp_ints _)) (dp_rows r)
theorem shaped_rows (ls : List (List Nat)) : SeqAt.shaped (.list (ls.map intD)) = true := by
  have h1 : ∀ l : List Nat, PyData.canLay0 (intD l) = true ∧ PyData.depth (intD l) ≤ 1 := fun l => by
    have z := shaped_ints l
    have z : ((PyData.canLay0 (intD l)) && decide (PyData.depth (intD l) ≤ 64)) = true := z
    refine ⟨(Bool.and_eq_true_iff.mp z).1, ?_⟩
    have : ∀ l : List Nat, PyData.depthAll (l.map fun c => PyData.int (c : Nat)) = 0 := fun l => by
      induction l with
      | nil => simp [PyData.depthAll]
      | cons x r ih => simp [PyData.depthAll, PyData.depth, ih]
    simp [intD, PyData.depth, this l]
  have h2 : ∀ ls : List (List Nat), PyData.canLayAll0 (ls.map intD) = true ∧ PyData.depthAll (ls.map intD) ≤ 1 := fun ls => by
    induction ls with
    | nil => exact ⟨by simp [PyData.canLayAll0], by simp [PyData.depthAll]⟩
    | cons x r ih =>
      refine ⟨by simp [PyData.canLayAll0, (h1 x).1, ih.1], ?_⟩
      rw [List.map_cons, PyData.depthAll]
      exact Nat.max_le.mpr ⟨(h1 x).2, ih.2⟩
  show ((PyData.canLay0 (.list (ls.map intD))) && decide (PyData.depth (.list (ls.map intD)) ≤ 64)) = true
  have d : PyData.depth (.list (ls.map intD)) ≤ 64 := by
    rw [PyData.depth]
    have := (h2 ls).2
    omega
  simp [PyData.canLay0, (h2 ls).1, d]
theorem any_rows (cs : List (Nat × Nat)) (a b : Nat) : ((pairs cs).map intD).any (fun z => PyData.eqv z (intD [a, b])) = decide ((a, b) ∈ cs) := by
  induction cs with
  | nil => rfl
  | cons e cs ih =>
    show (PyData.eqv (intD [e.1, e.2]) (intD [a, b]) || ((pairs cs).map intD).any (fun z => PyData.eqv z (intD [a, b]))) = _
    rw [ih]
    have h : PyData.eqv (intD [e.1, e.2]) (intD [a, b]) = decide (e = (a, b)) := by
      obtain ⟨x, y⟩ := e
      simp [intD, PyData.eqv, PyData.eqvAll]
      by_cases z1 : x = a <;> by_cases z2 : y = b <;> simp [z1, z2] <;> omega
    rw [h]
    by_cases z : e = (a, b)
    · simp [z]
    · have z2 : ¬ (a, b) = e := fun q => z q.symm
      simp [z, z2]
structure LandOk (n : Nat) (es : List (Nat × Nat)) : Prop where
  lt : ∀ e ∈ es, e.1 < e.2 ∧ e.2 < n
  nd : es.Nodup
  sorted : es.Pairwise fun a b => a.1 < b.1 ∨ (a.1 = b.1 ∧ a.2 ≤ b.2)
  conn : KL.Conn n es
structure LandOk0 (n : Nat) (es : List (Nat × Nat)) : Prop where
  lt : ∀ e ∈ es, e.1 < e.2 ∧ e.2 < n
  nd : es.Nodup
  conn : KL.Conn n es
theorem tree_land {n : Nat} {nm : List Nat} {cs : List (Nat × Nat)} (hp : nm.Perm (List.range n)) (t : Tree n n cs) : LandOk0 n (cs.map fun e => KL.couple nm e.1 e.2) := by
  have nd : nm.Nodup := hp.nodup_iff.mpr List.nodup_range
  have hl : nm.length = n := by rw [hp.length_eq, List.length_range]
  refine ⟨fun e he => ?_, ?_, ?_⟩
  · obtain ⟨x, hx, rfl⟩ := List.mem_map.mp he
    obtain ⟨t1, t2, t3⟩ := t.lt x hx
    have m1 := KL.couple_mem hp (a := x.1) t3
    have m2 := KL.couple_mem hp (a := x.2) (by omega)
    have ne : nm.getD x.1 0 ≠ nm.getD x.2 0 := by
      intro z
      rw [List.getD_eq_getElem?_getD, List.getD_eq_getElem?_getD, List.getElem?_eq_getElem (by omega), List.getElem?_eq_getElem (by omega)] at z
      have := (List.getElem_inj nd).mp z
      omega
    show min _ _ < max _ _ ∧ max _ _ < n
    omega
  · rw [List.nodup_iff_pairwise_ne, List.pairwise_map]
    refine (List.nodup_iff_pairwise_ne.mp t.nd).imp_of_mem fun {a b} ha hb hab z => ?_
    obtain ⟨a1, a2, a3⟩ := t.lt a ha
    obtain ⟨b1, b2, b3⟩ := t.lt b hb
    exact hab (KL.couple_inj hp a1 a3 b1 b3 z)
  · refine KL.conn_tree hp fun k k0 k1 => ?_
    obtain ⟨d, d1, d2⟩ := t.low k k0 k1
    exact ⟨d, d1, List.mem_map.mpr ⟨(k, d), d2, rfl⟩⟩
/-- the two numbers of a couple's tuple -/
def kfOf (H : Hp) : V → Int × Int
  | .ref a => (match H a with | some (.tup [.int i, .int j]) => (i, j) | _ => (0, 0))
  | _ => (0, 0)
def gOf (H : Hp) (x : V) : Nat × Nat := ((kfOf H x).1.toNat, (kfOf H x).2.toNat)
theorem kf_at {H : Hp} {a : Addr} {x y : Nat} (h : H a = some (.tup [.int (x : Nat), .int (y : Nat)])) : kfOf H (.ref a) = ((x : Int), (y : Int)) := by
  unfold kfOf
  simp only [h]
theorem g_at {H : Hp} {a : Addr} {e : Nat × Nat} (h : H a = some (.tup [.int (e.1 : Nat), .int (e.2 : Nat)])) : gOf H (.ref a) = e := by
  unfold gOf
  rw [kf_at h]
  rfl
theorem g_map {H : Hp} : ∀ {us : List Addr} {es : List (Nat × Nat)}, TAt H us (pairs es) → (us.map V.ref).map (gOf H) = es
  | [], [], _ => rfl
  | _ :: _, [], h => nomatch h
  | [], _ :: _, h => nomatch h
  | u :: us, e :: es, .cons h r => by
    show gOf H (.ref u) :: (us.map V.ref).map (gOf H) = _
    rw [g_at h, g_map r]
theorem g_mem {H : Hp} {us : List Addr} {es : List (Nat × Nat)} (t : TAt H us (pairs es)) : ∀ x ∈ us.map V.ref, ∃ (a : Addr) (e : Nat × Nat), x = V.ref a ∧ H a = some (.tup [.int (e.1 : Nat), .int (e.2 : Nat)]) := by
  intro x hx
  obtain ⟨a, ha, rfl⟩ := List.mem_map.mp hx
  obtain ⟨i, hi, e⟩ := List.mem_iff_getElem.mp ha
  obtain ⟨l, el, hl⟩ := t.get (i := i) (t := a) (by rw [List.getElem?_eq_getElem hi, e])
  unfold pairs at el
  rw [List.getElem?_map] at el
  obtain ⟨ab, eab, rfl⟩ := Option.map_eq_some_iff.mp el
  exact ⟨a, ab, rfl, hl⟩
theorem tat_of {H : Hp} : ∀ ys : List V, (∀ x ∈ ys, ∃ (a : Addr) (e : Nat × Nat), x = V.ref a ∧ H a = some (.tup [.int (e.1 : Nat), .int (e.2 : Nat)])) → ∃ ts, ys = ts.map V.ref ∧ TAt H ts (pairs (ys.map (gOf H)))
  | [], _ => ⟨[], rfl, .nil⟩
  | y :: ys, h => by
    obtain ⟨a, e, rfl, ha⟩ := h y List.mem_cons_self
    obtain ⟨ts, rfl, t⟩ := tat_of ys fun x hx => h x (List.mem_cons_of_mem _ hx)
    refine ⟨a :: ts, rfl, ?_⟩
    show TAt H (a :: ts) ([(gOf H (.ref a)).1, (gOf H (.ref a)).2] :: _)
    rw [g_at ha]
    exact .cons ha t
theorem sorted_of {H : Hp} : ∀ ys : List V, (∀ x ∈ ys, ∃ (a : Addr) (e : Nat × Nat), x = V.ref a ∧ H a = some (.tup [.int (e.1 : Nat), .int (e.2 : Nat)])) → SrtO.Srtd (ltP (kfOf H)) ys → (ys.map (gOf H)).Pairwise fun a b => a.1 < b.1 ∨ (a.1 = b.1 ∧ a.2 ≤ b.2) := by
  intro ys h s
  rw [List.pairwise_map]
  refine List.Pairwise.imp_of_mem (fun {x y} hx hy q => ?_) s
  obtain ⟨a, e, rfl, ha⟩ := h x hx
  obtain ⟨b, e', rfl, hb⟩ := h y hy
  rw [g_at ha, g_at hb]
  have q : SrtO.lexB (kfOf H (.ref b)) (kfOf H (.ref a)) = false := q
  rw [kf_at ha, kf_at hb] at q
  have z : ¬ ((e'.1 : Int) < e.1 ∨ ((e'.1 : Int) = e.1 ∧ (e'.2 : Int) < e.2)) := fun z => by
    rw [SrtO.lexB_iff.mpr z] at q
    cases q
  omega
theorem Stay.free {h c b : Addr} {H H' : Hp} (y : Stay h c H H') (n : H' b = none) : H b = none := by
  cases z : H b with
  | none => rfl
  | some o =>
    by_cases e : b = h
    · subst e
      obtain ⟨ns, i, x, t, h1, _, _⟩ := y.hand
      rw [h1] at n
      cases n
    · rw [y.but b o e z] at n
      cases n
theorem lots_some : ∀ n : Fin 6, 2 ≤ n.val → ((lotsTo (List.range n.val) n.val).filter fun l => decide (0 < l.length) && decide (l.length < n.val)).length ≠ 4 ∧ 0 < ((lotsTo (List.range n.val) n.val).filter fun l => decide (0 < l.length) && decide (l.length < n.val)).length ∧
    ((lotsTo (List.range n.val) n.val).filter fun l => decide (0 < l.length) && decide (l.length < n.val)).length ≤ 32 := by decide +kernel
/-- a drawn land: its number of cells, its couples, its roads -/
structure LandAt (H : Hp) (q : Addr) (n : Nat) (es : List (Nat × Nat)) (lot : List Nat) : Prop where
  at_ : ∃ rA sA ts, H q = some (.tup [.int (n : Nat), .ref rA, .ref sA]) ∧ H rA = some (.lst (ts.map V.ref)) ∧ TAt H ts (pairs es) ∧ H sA = some (.lst (ints_ lot))
  ok : LandOk n es
  lot : lot ∈ lotsTo (List.range n) n ∧ 0 < lot.length ∧ lot.length < n
def spLand : Sp := fun vs H Q _ => ∃ (h c : Addr) (n : Nat), vs = [.ref h, .int (n : Nat)] ∧ Hand H h c ∧ 2 ≤ n ∧ n ≤ 5 ∧ ∀ H' q es lot, Stay h c H H' → H q = none → LandAt H' q n es lot → Q (.ref q) H'
theorem ok_land {f fdr fpk flo : Addr} {fd fddr fdpk fdlo : FuncData} (F : Fun K "_law_land" "_law_land" s__law_land f fd)
    (Gdr : FnOk P w K mg base CX0 2 fdr fddr ["_law_hand_here", "_law_many"] spDraw) (gdr : mg "_law_draw" = some (.ref fdr)) (kdr : PySem.W.keepIn K (.ref fdr) = true) (bdr : Binds K fddr ["_law_hand_here", "_law_many"] [])
    (Gpk : FnOk P w K mg base CX0 3 fpk fdpk ["_law_hand_here", "_law_things"] spPick) (gpk : mg "_law_pick" = some (.ref fpk)) (kpk : PySem.W.keepIn K (.ref fpk) = true) (bpk : Binds K fdpk ["_law_hand_here", "_law_things"] [])
    (Glo : FnOk P w K mg base CX0 1 flo fdlo ["_law_cells"] spLots) (glo : mg "_law_lots" = some (.ref flo)) (klo : PySem.W.keepIn K (.ref flo) = true) (blo : Binds K fdlo ["_law_cells"] [])
    (m_range : mg "range" = none) (m_len : mg "len" = none) (m_list : mg "list" = none) (m_min : mg "min" = none) (m_max : mg "max" = none) (m_sorted : mg "sorted" = none) :
    FnOk P w K mg base CX0 4 f fd ["_law_hand_here", "_law_n"] spLand := by
  refine F.ok sc__law_land (fun vs H Q E h => ?_) (fun cdv A outer s H vs Q E hr h => ?_)
  · obtain ⟨h, c, n, rfl, _⟩ := h
    rfl
  · obtain ⟨h, c, n, rfl, hh, n2, n5, q⟩ := h
    refine ⟨_, (pss_cons (ps_set (i := 2) sc__law_land.nd rfl (by first | exact Or.inl rfl | exact Or.inr rfl) (pe_lst pa_nil))
 (pss_cons (ps_set (i := 3) sc__law_land.nd rfl (by first | exact Or.inl rfl | exact Or.inr rfl) (pe_callTy (K7E.cr_list_rng rfl) (by rfl) m_list boot_list (pa_cons (pe_callTy K7E.cr_range1 (by rfl) m_range boot_range (pa_cons (pv 1) pa_nil)) pa_nil)))
 (Evl.pss_cut (ps_for PassesOwn.never rfl (pi_range1 rfl m_range (pa_cons (pv 1) pa_nil)) (pg_name (i := 4) sc__law_land.nd rfl (by first | exact Or.inl rfl | exact Or.inr rfl))
  (pss_one (ps_expr (pe_bm PySem.F.plainAttrs_list PySem.F.slot_list_append PySem.F.type_list_append mt_append (pv 2) (pa_cons (pe_bm PySem.F.plainAttrs_list PySem.F.slot_list_pop PySem.F.type_list_pop mt_popAt (pv 3) (pa_cons (pe_call Gdr (hr.mono (by decide)) (by rfl) gdr kdr bdr .nil pass0 (pa_cons (pv 0) (pa_cons (pe_callB call_len_seq (by rfl) m_len boot_len (pa_cons (pv 3) pa_nil)) pa_nil))) pa_nil)) pa_nil)))))
 (pss_cons (ps_set (i := 5) sc__law_land.nd rfl (by first | exact Or.inl rfl | exact Or.inr rfl) (pe_lst pa_nil))
 (Evl.pss_cut (ps_for PassesOwn.never rfl (pi_range2 rfl m_range (pa_cons pe_int (pa_cons (pv 1) pa_nil))) (pg_name (i := 4) sc__law_land.nd rfl (by first | exact Or.inl rfl | exact Or.inr rfl))
  (pss_one (ps_expr (pe_bm PySem.F.plainAttrs_list PySem.F.slot_list_append PySem.F.type_list_append mt_append (pv 5) (pa_cons (pe_tup (pa_cons (pv 4) (pa_cons (pe_call Gdr (hr.mono (by decide)) (by rfl) gdr kdr bdr .nil pass0 (pa_cons (pv 0) (pa_cons (pv 4) pa_nil))) pa_nil))) pa_nil)))))
 (Evl.pss_cut (ps_for PassesOwn.never rfl (pi_range2 rfl m_range (pa_cons pe_int (pa_cons (pv 1) pa_nil))) (pg_name (i := 6) sc__law_land.nd rfl (by first | exact Or.inl rfl | exact Or.inr rfl))
  (pss_one (ps_for PassesOwn.never rfl (pi_range1 rfl m_range (pa_cons (pv 6) pa_nil)) (pg_name (i := 7) sc__law_land.nd rfl (by first | exact Or.inl rfl | exact Or.inr rfl))
  (pss_one (ps_if (pw_and (pt_cmpR (op_notInD (K7L.hu65 hr)) (pe_tup (pa_cons (pv 6) (pa_cons (pv 7) pa_nil))) (pv 5) (by with_unfolding_all rfl)) (pw_and1 (pt_cmpR op_eq (pe_call Gdr (hr.mono (by decide)) (by rfl) gdr kdr bdr .nil pass0 (pa_cons (pv 0) (pa_cons pe_int pa_nil))) pe_int (nomark _)))).pt
  (pss_one (ps_expr (pe_bm PySem.F.plainAttrs_list PySem.F.slot_list_append PySem.F.type_list_append mt_append (pv 5) (pa_cons (pe_tup (pa_cons (pv 6) (pa_cons (pv 7) pa_nil))) pa_nil))))
  pss_nil)))))
 (pss_cons (ps_setLc (i := 8) (own := [("_law_a", 9), ("_law_b", 10)]) (g := gTup K 2 (gCons (gName 9) (gCons (gName 10) (gNil)))) (tt := tYes) rfl sc__law_land.nd rfl rfl (sw_true rfl rfl rfl (by decide +kernel)) (pi_list (pv 5)) (blkOk_by (own := [("_law_a", 9), ("_law_b", 10)]) (N := N__law_land) (sc := defScope s__law_land) (by decide +kernel)) (fun _ _ _ _ _ => (pg_tup rfl (pgs_cons (pg_name (i := 9) sc__law_land.nd rfl (by first | exact Or.inl rfl | exact Or.inr rfl)) (pgs_cons (pg_name (i := 10) sc__law_land.nd rfl (by first | exact Or.inl rfl | exact Or.inr rfl)) pgs_nil)))) (fun _ _ _ _ _ => pts_nil) (fun _ _ _ _ _ => (pe_tup (pa_cons (pe_callB (call_min2 rfl) (by rfl) m_min boot_min (pa_cons (pe_ix (show IxR _ (rIxL K) from ix_list) (pv 2) (pv 9) (fun _ _ => rfl)) (pa_cons (pe_ix (show IxR _ (rIxL K) from ix_list) (pv 2) (pv 10) (fun _ _ => rfl)) pa_nil))) (pa_cons (pe_callB (call_max2 rfl) (by rfl) m_max boot_max (pa_cons (pe_ix (show IxR _ (rIxL K) from ix_list) (pv 2) (pv 9) (fun _ _ => rfl)) (pa_cons (pe_ix (show IxR _ (rIxL K) from ix_list) (pv 2) (pv 10) (fun _ _ => rfl)) pa_nil))) pa_nil)))))
 (pss_cons (ps_setLc (i := 11) (own := [("_law_lot", 12)]) (g := gName 12) rfl sc__law_land.nd rfl rfl (sw_true rfl rfl rfl (by decide +kernel)) (pi_list (pe_call Glo (hr.mono (by decide)) (by rfl) glo klo blo .nil pass0 (pa_cons (pe_callTy (K7E.cr_list_rng rfl) (by rfl) m_list boot_list (pa_cons (pe_callTy K7E.cr_range1 (by rfl) m_range boot_range (pa_cons (pv 1) pa_nil)) pa_nil)) pa_nil))) (blkOk_by (own := [("_law_lot", 12)]) (N := N__law_land) (sc := defScope s__law_land) (by decide +kernel)) (fun _ _ _ _ _ => (pg_name (i := 12) sc__law_land.nd rfl (by first | exact Or.inl rfl | exact Or.inr rfl))) (fun _ _ _ _ _ => (pts_one (pt_chain op_lt op_lt pe_int (pe_callB (show CallR _ (.builtin "len") (rLen_ K) from call_len_seq) (by rfl) m_len boot_len (pa_cons (pv 12) pa_nil)) (pv 1)))) (fun _ _ _ _ _ => (pv 12)))
 (pss_one (ps_ret (pe_tup (pa_cons (pv 1) (pa_cons (pe_callB cr_sortedPO (by rfl) m_sorted boot_sorted (pa_cons (pv 8) pa_nil)) (pa_cons (pe_callTy call_list_of (by rfl) m_list boot_list (pa_cons (pe_call Gpk (hr.mono (by decide)) (by rfl) gpk kpk bpk .nil pass0 (pa_cons (pv 0) (pa_cons (pv 11) pa_nil))) pa_nil)) pa_nil)))))))))))))), ?_⟩
    have l10 : ∀ {xs : List Nat} {k : Nat}, xs.length ≤ k → k ≤ 1000 → (ints_ xs).length < sizeLine := fun {xs k} h1 h2 => by
      unfold ints_; rw [List.length_map]; exact small1000 (Nat.le_trans h1 h2)
    refine ⟨by show 0 ≤ sizeLine; decide, fun N0 nN => ?_⟩
    refine ⟨_, rfl, _, rfl, fun rg nrg => ?_⟩
    refine ⟨rg, n, rfl, upd_same, by omega, fun Lf nLf => ?_⟩
    have e1 : Same H (upd H N0 (.lst [])) := same_new (Same.refl H) nN
    have e2 : Same H (upd (upd H N0 (.lst [])) rg (.rng 0 n)) := same_new e1 nrg
    have e3 : Same H (upd (upd (upd H N0 (.lst [])) rg (.rng 0 n)) Lf (.lst (K7E.upTo n))) := same_new e2 nLf
    have hN3 : upd (upd (upd H N0 (.lst [])) rg (.rng 0 n)) Lf (.lst (K7E.upTo n)) N0 = some (.lst []) := same_new (Same.refl _) nLf _ _ (same_new (Same.refl _) nrg _ _ upd_same)
    have hL3 : upd (upd (upd H N0 (.lst [])) rg (.rng 0 n)) Lf (.lst (K7E.upTo n)) Lf = some (.lst (ints_ (List.range n))) := upd_same
    have fN : H N0 = none := nN
    have fL : H Lf = none := e2.free nLf
    have nNL : N0 ≠ Lf := ne_of_none (same_new (o := .rng 0 n) (Same.refl _) nrg _ _ upd_same) nLf
    obtain ⟨hNh, hNc⟩ := hh.ne fN
    obtain ⟨hLh, hLc⟩ := hh.ne fL
    generalize upd (upd (upd H N0 (.lst [])) rg (.rng 0 n)) Lf (.lst (K7E.upTo n)) = H3 at e3 hN3 hL3 ⊢
    refine ⟨fun σ' H' => ∃ nm y4, σ' = [some (.ref h), some (.int (n : Nat)), some (.ref N0), some (.ref Lf), y4, none, none, none, none, none, none, none, none] ∧ Stay h c H H' ∧ H' N0 = some (.lst (ints_ nm)) ∧ nm.Perm (List.range n), ?_, ?_⟩
    · refine ⟨_, rfl, _, rfl, by omega, by omega, for_range (fun k σ' H' => k ≤ n ∧ ∃ nm lf y4, σ' = [some (.ref h), some (.int (n : Nat)), some (.ref N0), some (.ref Lf), y4, none, none, none, none, none, none, none, none] ∧ Stay h c H H' ∧ H' N0 = some (.lst (ints_ nm)) ∧ H' Lf = some (.lst (ints_ lf)) ∧ (nm ++ lf).Perm (List.range n) ∧ nm.length = k)
        ⟨Nat.zero_le _, [], List.range n, none, rfl, .of_same hh e3, hN3, hL3, List.Perm.refl _, rfl⟩ (fun k σ' H' hk pv => ?_) (fun σ' H' pv => ?_)⟩
      · obtain ⟨_, nm, lf, y4, rfl, st, hN, hL, hp, hl⟩ := pv
        have hk : k < n := by simpa using hk
        have hll : lf.length = n - k := by
          have := hp.length_eq
          rw [List.length_append, List.length_range] at this
          omega
        have hil : (ints_ lf).length = lf.length := by unfold ints_; rw [List.length_map]
        refine ⟨_, rfl, .inl ⟨rfl, _, .inl (.inl hN)⟩, _, rfl, .inl ⟨rfl, _, .inl (.inl hL)⟩, _, rfl, _, rfl, Lf, _, rfl, .inl (.inl (.inl hL)), h, c, _, rfl, st.hand, by omega, ?_, fun H4 x d x0 x1 => ?_⟩
        · exact Int.lt_of_le_of_lt (show (((ints_ lf).length : Nat) : Int) ≤ 1000 by omega) (by decide)
        obtain ⟨j, rfl⟩ : ∃ j : Nat, x = (j : Int) := ⟨x.toNat, by omega⟩
        have hj : j < lf.length := by omega
        have hN4 : H4 N0 = some (.lst (ints_ nm)) := by rw [d.but N0 hNh]; exact hN
        have hL4 : H4 Lf = some (.lst (ints_ lf)) := by rw [d.but Lf hLh]; exact hL
        refine ⟨Lf, _, _, j, .int (lf[j] : Nat), rfl, rfl, hL4, by omega, by omega, (ixN_seq (ixN_nat (by omega))).1, ?_, ?_⟩
        · unfold ints_
          rw [List.getElem?_map, List.getElem?_eq_getElem hj]
          rfl
        have hN5 : upd H4 Lf (.lst ((ints_ lf).eraseIdx j)) N0 = some (.lst (ints_ nm)) := by rw [upd_ne nNL]; exact hN4
        refine ⟨N0, _, _, rfl, rfl, hN5, l10 (Nat.le_of_eq hl) (by omega), ?_⟩
        refine ⟨by omega, nm ++ [lf[j]], lf.eraseIdx j, _, rfl, ⟨fun b o nb hb => ?_, hh, ((d.hand.upd hLh hLc).upd hNh hNc)⟩, ?_, ?_, (KL.pop_perm hj).trans hp, by rw [List.length_append, hl]; rfl⟩
        · rw [upd_ne (ne_of_none hb fN), upd_ne (ne_of_none hb fL), d.but b nb]
          exact st.but b o nb hb
        · rw [upd_same]
          unfold ints_
          rw [List.map_append]
          rfl
        · rw [upd_ne nNL.symm, upd_same]
          unfold ints_
          rw [map_erase]
      · obtain ⟨_, nm, lf, y4, rfl, st, hN, hL, hp, hl⟩ := pv
        have hl : nm.length = n := by simpa using hl
        have l0 : lf = [] := by
          have := hp.length_eq
          rw [List.length_append, List.length_range] at this
          exact List.length_eq_zero_iff.mp (by omega)
        subst l0
        rw [List.append_nil] at hp
        exact ⟨nm, y4, rfl, st, hN, hp⟩
    rintro _ H4 ⟨nm, y4, rfl, st4, hN, hp⟩
    -- the tree
    refine ⟨by show 0 ≤ sizeLine; decide, fun C0 nC => ?_⟩
    have hC5 : upd H4 C0 (.lst []) C0 = some (.lst []) := upd_same
    have hN5 : upd H4 C0 (.lst []) N0 = some (.lst (ints_ nm)) := by rw [upd_ne (ne_of_none hN nC)]; exact hN
    obtain ⟨hCh, hCc⟩ := st4.hand.ne nC
    have st5 := st4.same (same_new (o := .lst []) (Same.refl H4) nC)
    have fC : H C0 = none := by
      cases z : H C0 with
      | none => rfl
      | some o =>
        have h1 := st4.but C0 o hCh z
        rw [nC] at h1
        cases h1
    have nNC : N0 ≠ C0 := ne_of_none hN nC
    generalize upd H4 C0 (.lst []) = H5 at hC5 hN5 st5 ⊢
    refine ⟨fun σ' H' => ∃ ts cs y4, σ' = [some (.ref h), some (.int (n : Nat)), some (.ref N0), some (.ref Lf), y4, some (.ref C0), none, none, none, none, none, none, none] ∧ Stay h c H H' ∧ H' N0 = some (.lst (ints_ nm)) ∧ H' C0 = some (.lst (ts.map V.ref)) ∧ TAt H' ts (pairs cs) ∧ Tree n n cs ∧ cs.length ≤ 10, ?_, ?_⟩
    · refine ⟨_, rfl, 1, _, rfl, ⟨by decide, by decide, by omega, by omega⟩, for_range (lo := 1) (fun k σ' H' => k + 1 ≤ n ∧ ∃ ts cs y4, σ' = [some (.ref h), some (.int (n : Nat)), some (.ref N0), some (.ref Lf), y4, some (.ref C0), none, none, none, none, none, none, none] ∧ Stay h c H H' ∧ H' N0 = some (.lst (ints_ nm)) ∧ H' C0 = some (.lst (ts.map V.ref)) ∧ TAt H' ts (pairs cs) ∧ Tree n (k + 1) cs ∧ cs.length = k)
        ⟨by omega, [], [], y4, rfl, st5, hN5, hC5, .nil, Tree.nil n, rfl⟩ (fun k σ' H' hk pv => ?_) (fun σ' H' pv => ?_)⟩
      · obtain ⟨_, ts, cs, y4, rfl, st, hN, hC, tC, tr, hl⟩ := pv
        have hk : k + 1 < n := by omega
        refine ⟨_, rfl, .inl ⟨rfl, _, .inl (.inl hC)⟩, _, rfl, _, rfl, _, rfl, h, c, _, rfl, st.hand, by omega, ?_, fun H6 x d x0 x1 => ?_⟩
        · exact Int.lt_of_le_of_lt (show (1 : Int) + (k : Nat) ≤ 1000 by omega) (by decide)
        obtain ⟨j, rfl⟩ : ∃ j : Nat, x = (j : Int) := ⟨x.toNat, by omega⟩
        have hj : j < k + 1 := by omega
        refine ⟨by show 2 ≤ sizeLine; decide, fun t nt => ?_⟩
        have y6 := (Stay.of_drawn st.hand d).same (same_new (o := .tup [.int (1 + (k : Nat)), .int (j : Nat)]) (Same.refl H6) nt)
        have hC6 := y6.but C0 _ hCh hC
        have hN6 := y6.but N0 _ hNh hN
        have ltx : ts.length = k := by rw [tC.len]; unfold pairs; rw [List.length_map, hl]
        refine ⟨C0, _, _, rfl, rfl, hC6, by rw [List.length_map, ltx]; exact small1000 (by omega), ?_⟩
        have up : ∀ b xs, upd H6 t (.tup [.int (1 + (k : Nat)), .int (j : Nat)]) b = some (.tup xs) → upd (upd H6 t (.tup [.int (1 + (k : Nat)), .int (j : Nat)])) C0 (.lst (ts.map V.ref ++ [.ref t])) b = some (.tup xs) := fun b xs hb => by
          rw [upd_ne (fun z => by rw [z, hC6] at hb; cases hb)]
          exact hb
        have tC6 : TAt (upd H6 t (.tup [.int (1 + (k : Nat)), .int (j : Nat)])) ts (pairs cs) := tC.mono fun b xs hb => y6.but b _ (st.hand.net hb) hb
        refine ⟨by omega, ts ++ [t], cs ++ [(k + 1, j)], _, rfl, ⟨fun b o nb hb => ?_, hh, y6.hand.upd hCh hCc⟩, ?_, ?_, ?_, tr.add hk hj, by rw [List.length_append, hl]; rfl⟩
        · rw [upd_ne (ne_of_none hb fC)]
          exact y6.but b o nb (st.but b o nb hb)
        · rw [upd_ne nNC]; exact hN6
        · rw [upd_same, List.map_append]; rfl
        · unfold pairs
          rw [List.map_append]
          refine (tC6.mono up).append (.cons (up _ _ ?_) .nil)
          rw [upd_same, show (1 : Int) + (k : Nat) = ((k + 1 : Nat) : Int) by omega]
          rfl
      · obtain ⟨hk, ts, cs, y4, rfl, st, hN, hC, tC, tr, hl⟩ := pv
        refine ⟨ts, cs, y4, rfl, st, hN, hC, tC, ?_, by omega⟩
        have e : ((n : Int) - 1).toNat + 1 = n := by omega
        rw [e] at tr
        exact tr
    rintro _ H6 ⟨ts, cs, y4, rfl, st6, hN6, hC6, tC6, tr6, ln6⟩
    -- more couples
    refine ⟨fun σ' H' => ∃ ts cs y6 y7, σ' = [some (.ref h), some (.int (n : Nat)), some (.ref N0), some (.ref Lf), y4, some (.ref C0), y6, y7, none, none, none, none, none] ∧ Stay h c H H' ∧ H' N0 = some (.lst (ints_ nm)) ∧ H' C0 = some (.lst (ts.map V.ref)) ∧ TAt H' ts (pairs cs) ∧ Tree n n cs ∧ cs.length ≤ 60, ?_, ?_⟩
    · refine ⟨_, rfl, 2, _, rfl, ⟨by decide, by decide, by omega, by omega⟩, for_range (lo := 2) (fun k σ' H' => k ≤ 5 ∧ ∃ ts cs y6 y7, σ' = [some (.ref h), some (.int (n : Nat)), some (.ref N0), some (.ref Lf), y4, some (.ref C0), y6, y7, none, none, none, none, none] ∧ Stay h c H H' ∧ H' N0 = some (.lst (ints_ nm)) ∧ H' C0 = some (.lst (ts.map V.ref)) ∧ TAt H' ts (pairs cs) ∧ Tree n n cs ∧ cs.length ≤ 10 + 10 * k)
        ⟨by omega, ts, cs, none, none, rfl, st6, hN6, hC6, tC6, tr6, ln6⟩ (fun k σ' H' hk pv => ?_) (fun σ' H' pv => ?_)⟩
      · obtain ⟨_, ts, cs, y6, y7, rfl, st, hN, hC, tC, tr, ln⟩ := pv
        have hk : 2 + k < n := by omega
        refine ⟨_, rfl, _, rfl, by omega, by omega, for_range (fun j σ' H' => ∃ ts cs y7, σ' = [some (.ref h), some (.int (n : Nat)), some (.ref N0), some (.ref Lf), y4, some (.ref C0), some (.int (2 + (k : Nat))), y7, none, none, none, none, none] ∧ Stay h c H H' ∧ H' N0 = some (.lst (ints_ nm)) ∧ H' C0 = some (.lst (ts.map V.ref)) ∧ TAt H' ts (pairs cs) ∧ Tree n n cs ∧ cs.length ≤ 10 + 10 * k + j)
          ⟨ts, cs, y7, rfl, st, hN, hC, tC, tr, by omega⟩ (fun j σ' H' hj pv => ?_) (fun σ' H' pv => ?_)⟩
        · obtain ⟨ts, cs, y7, rfl, st, hN, hC, tC, tr, ln⟩ := pv
          have hj : j < 2 + k := by omega
          have ltx : ts.length = cs.length := by rw [tC.len]; unfold pairs; rw [List.length_map]
          refine ⟨_, rfl, _, rfl, by show 2 ≤ sizeLine; decide, fun t nt => ?_⟩
          have sT := same_new (o := .tup [.int (2 + (k : Nat)), .int (0 + (j : Nat))]) (Same.refl H') nt
          have stT := st.same sT
          refine ⟨_, rfl, intD [2 + k, j], _, .tup (xs := [.int (2 + (k : Nat)), .int (0 + (j : Nat))]) (.inl (.inl upd_same)) (dp_pair k j), .lst (.inl (.inl (sT _ _ hC))) (dp_rows (tC.same sT)), shaped_ints _, shaped_rows _, ?_⟩
          rw [any_rows]
          refine ⟨_, rfl, ite2 (fun q1 => ?_) (fun q1 => ?_)⟩
          · have hnm : (2 + k, j) ∉ cs := by
              intro z
              rw [decide_eq_true z] at q1
              cases q1
            refine ⟨_, rfl, h, c, _, rfl, stT.hand, by decide, by decide, fun H7 x d x0 x1 => ?_⟩
            have st7 := stT.drawn d
            have hC7 : H7 C0 = some (.lst (ts.map V.ref)) := by rw [d.but C0 hCh]; exact sT _ _ hC
            have hN7 : H7 N0 = some (.lst (ints_ nm)) := by rw [d.but N0 hNh]; exact sT _ _ hN
            have tC7 : TAt H7 ts (pairs cs) := (tC.same sT).mono fun b xs hb => by rw [d.but b (stT.hand.net hb)]; exact hb
            refine ⟨rfl, _, rfl, ite2 (fun q2 => ?_) (fun q2 => ?_)⟩
            · refine ⟨_, rfl, .inl ⟨rfl, _, .inl (.inl hC7)⟩, _, rfl, _, rfl, by show 2 ≤ sizeLine; decide, fun t2 nt2 => ?_⟩
              have sU := same_new (o := .tup [.int (2 + (k : Nat)), .int (0 + (j : Nat))]) (Same.refl H7) nt2
              refine ⟨C0, _, _, rfl, rfl, sU _ _ hC7, by rw [List.length_map, ltx]; exact small1000 (by omega), ?_⟩
              have up : ∀ b xs, upd H7 t2 (.tup [.int (2 + (k : Nat)), .int (0 + (j : Nat))]) b = some (.tup xs) → upd (upd H7 t2 (.tup [.int (2 + (k : Nat)), .int (0 + (j : Nat))])) C0 (.lst (ts.map V.ref ++ [.ref t2])) b = some (.tup xs) := fun b xs hb => by
                rw [upd_ne (fun z => by rw [z, sU _ _ hC7] at hb; cases hb)]
                exact hb
              refine ⟨ts ++ [t2], cs ++ [(2 + k, j)], _, rfl, ⟨fun b o nb hb => ?_, hh, (st7.same sU).hand.upd hCh hCc⟩, ?_, ?_, ?_, tr.more hj hk hnm, by rw [List.length_append, List.length_singleton]; omega⟩
              · rw [upd_ne (ne_of_none hb fC)]
                exact (st7.same sU).but b o nb hb
              · rw [upd_ne nNC]; exact sU _ _ hN7
              · rw [upd_same, List.map_append]; rfl
              · unfold pairs
                rw [List.map_append]
                refine ((tC7.same sU).mono up).append (.cons (up _ _ ?_) .nil)
                rw [upd_same, show (2 : Int) + (k : Nat) = ((2 + k : Nat) : Int) by omega, Int.zero_add]
                rfl
            · exact ⟨ts, cs, _, rfl, st7, hN7, hC7, tC7, tr, by omega⟩
          · exact ⟨ts, cs, _, rfl, stT, sT _ _ hN, sT _ _ hC, tC.same sT, tr, by omega⟩
        · obtain ⟨ts, cs, y7, rfl, st, hN, hC, tC, tr, ln⟩ := pv
          exact ⟨by omega, ts, cs, _, _, rfl, st, hN, hC, tC, tr, by omega⟩
      · obtain ⟨hk, ts, cs, y6, y7, rfl, st, hN, hC, tC, tr, ln⟩ := pv
        exact ⟨ts, cs, y6, y7, rfl, st, hN, hC, tC, tr, by omega⟩
    rintro _ H8 ⟨ts, cs, y6, y7, rfl, st8, hN8, hC8, tC8, tr8, ln8⟩
    -- under their names
    have nml : nm.length = n := by rw [hp.length_eq, List.length_range]
    have ltx : ts.length = cs.length := by rw [tC8.len]; unfold pairs; rw [List.length_map]
    refine ⟨_, rfl, C0, rfl, ⟨_, .inl (.inl hC8)⟩, fun D hD => lc_list (xs := ts.map V.ref) (fun j H2 => Same H8 H2 ∧ ∃ us, H2 D = some (.lst (us.map V.ref)) ∧ TAt H2 us (pairs ((cs.take j).map fun e => KL.couple nm e.1 e.2)) ∧ us.length ≤ j) ⟨same_new (Same.refl H8) hD, [], upd_same, .nil, Nat.le_refl _⟩ (fun j H2 _ pv => .inl (.inl (pv.1 _ _ hC8))) (fun j x H2 hx pv => ?_) (fun H9 pv => ?_)⟩
    · obtain ⟨e, us, hD2, tD, lu⟩ := pv
      rw [List.getElem?_map] at hx
      obtain ⟨t, ht, rfl⟩ := Option.map_eq_some_iff.mp hx
      obtain ⟨l, el, hl⟩ := tC8.get ht
      unfold pairs at el
      rw [List.getElem?_map] at el
      obtain ⟨ab, eab, rfl⟩ := Option.map_eq_some_iff.mp el
      obtain ⟨a, b'⟩ := ab
      obtain ⟨t1, t2, t3⟩ := tr8.lt _ (List.mem_of_getElem? eab)
      have t1 : b' < a := t1
      have t3 : a < n := t3
      have jl : j < 60 := by
        have := (List.getElem?_eq_some_iff.mp eab).1
        omega
      have at_ : ∀ x, x < n → atI (ints_ nm) ((x : Nat) : Int) = some (.int (nm.getD x 0 : Nat)) := fun x hx' => by
        refine atI_nat ?_
        unfold ints_
        rw [List.getElem?_map, List.getElem?_eq_getElem (by omega), List.getD_eq_getElem?_getD, List.getElem?_eq_getElem (by omega)]
        rfl
      have hN9 := e _ _ hN8
      refine ⟨t, [.int (a : Nat), .int (b' : Nat)], rfl, .inl (.inl (e _ _ hl)), rfl, _, _, rfl, _, _, rfl, rfl, rfl, ?_⟩
      refine ⟨_, rfl, _, rfl, N0, _, _, _, rfl, rfl, .inl (.inl hN9), at_ a t3, _, rfl, _, rfl, N0, _, _, _, rfl, rfl, .inl (.inl hN9), at_ b' (by omega), _, _, rfl, ?_⟩
      refine ⟨_, rfl, _, rfl, N0, _, _, _, rfl, rfl, .inl (.inl hN9), at_ a t3, _, rfl, _, rfl, N0, _, _, _, rfl, rfl, .inl (.inl hN9), at_ b' (by omega), _, _, rfl, ?_⟩
      refine ⟨by show 2 ≤ sizeLine; decide, fun u nu => ?_⟩
      have nDu : D ≠ u := ne_of_none hD2 nu
      refine ⟨_, by rw [upd_ne nDu]; exact hD2, by rw [List.length_map]; exact small1000 (by omega), fun b o hb => ?_, us ++ [u], by rw [upd_same, List.map_append]; rfl, ?_, by rw [List.length_append, List.length_singleton]; omega⟩
      · have h1 := e _ _ hb
        rw [upd_ne (ne_of_none hb hD), upd_ne (ne_of_none h1 nu)]
        exact h1
      · rw [List.take_add_one, eab, List.map_append]
        unfold pairs at tD ⊢
        rw [List.map_append]
        refine (tD.mono fun b xs hb => ?_).append (.cons ?_ .nil)
        · rw [upd_ne (fun z => by rw [z, hD2] at hb; cases hb), upd_ne (ne_of_none hb nu)]
          exact hb
        · have m1 : ∀ x y : Nat, (if (y : Int) < (x : Int) then (y : Int) else (x : Int)) = ((min x y : Nat) : Int) := fun x y => by split <;> omega
          have m2 : ∀ x y : Nat, (if (y : Int) > (x : Int) then (y : Int) else (x : Int)) = ((max x y : Nat) : Int) := fun x y => by split <;> omega
          rw [upd_ne nDu.symm, upd_same, m1, m2]
          rfl
    obtain ⟨e9, us, hD9, tD9, lu9⟩ := pv
    rw [List.length_map, ltx, List.take_length] at tD9
    rw [List.length_map, ltx] at lu9
    have st9 := st8.same e9
    -- the lots
    refine ⟨_, rfl, _, rfl, fun rg nrg => ?_⟩
    refine ⟨rg, n, rfl, upd_same, by omega, fun l0 nl0 => ?_⟩
    have s10 : Same H9 (upd (upd H9 rg (.rng 0 n)) l0 (.lst (K7E.upTo n))) := same_new (same_new (Same.refl H9) nrg) nl0
    refine ⟨l0, n, rfl, n5, upd_same, fun H11 lo ls e11 nlo hlo tlo => ?_⟩
    have e11 := s10.trans e11
    refine ⟨lo, rfl, ⟨_, .inl (.inl hlo)⟩, fun D2 hD2 => lc_list (xs := ls.map V.ref) (fun j H2 => Same H11 H2 ∧ ∃ us, H2 D2 = some (.lst (us.map V.ref)) ∧ TAt H2 us (((lotsTo (List.range n) n).take j).filter fun l => decide (0 < l.length) && decide (l.length < n)) ∧ us.length ≤ j) ⟨same_new (Same.refl H11) hD2, [], upd_same, .nil, Nat.le_refl _⟩ (fun j H2 _ pv => .inl (.inl (pv.1 _ _ hlo))) (fun j x H2 hx pv => ?_) (fun H12 pv => ?_)⟩
    · obtain ⟨e, us, hD3, tD, lu⟩ := pv
      rw [List.getElem?_map] at hx
      obtain ⟨t, ht, rfl⟩ := Option.map_eq_some_iff.mp hx
      obtain ⟨l, el, hl⟩ := tlo.get ht
      have jl : j < 32 := by
        have h1 := (List.getElem?_eq_some_iff.mp el).1
        have h2 : (lotsTo (List.range n) n).length ≤ 32 := (level_len ⟨n, by omega⟩ ⟨n, by omega⟩).2
        omega
      have hll : (l.map fun c => V.int (c : Nat)).length = l.length := List.length_map ..
      have hl2 := e _ _ hl
      have f1 : ((lotsTo (List.range n) n).take (j + 1)).filter (fun l => decide (0 < l.length) && decide (l.length < n)) = ((lotsTo (List.range n) n).take j).filter (fun l => decide (0 < l.length) && decide (l.length < n)) ++ (if (decide (0 < l.length) && decide (l.length < n)) = true then [l] else []) := by
        rw [List.take_add_one, el, List.filter_append]
        congr 1
        show List.filter _ [l] = _
        rw [List.filter_cons]
        rfl
      refine ⟨rfl, _, rfl, t, _, rfl, .inr (.inl (.inl hl2)), _, _, rfl, rfl, _, rfl, ite2 (fun q1 => ?_) (fun q1 => ?_)⟩
      · have q1' : 0 < l.length := by
          have z : (0 : Int) < (((l.map fun c => V.int (c : Nat)).length : Nat) : Int) := of_decide_eq_true q1
          omega
        refine ⟨_, rfl, _, _, rfl, rfl, _, rfl, ite2 (fun q2 => ?_) (fun q2 => ?_)⟩
        · have q2' : l.length < n := by
            have z : (((l.map fun c => V.int (c : Nat)).length : Nat) : Int) < (n : Nat) := of_decide_eq_true q2
            omega
          refine ⟨_, rfl, _, hD3, by rw [List.length_map]; exact small1000 (by omega), fun b o hb => ?_, us ++ [t], by rw [upd_same, List.map_append]; rfl, ?_, by rw [List.length_append, List.length_singleton]; omega⟩
          · rw [upd_ne (ne_of_none hb hD2)]
            exact e _ _ hb
          · rw [f1, if_pos (by rw [decide_eq_true q1', decide_eq_true q2']; rfl)]
            have up : ∀ b xs, H2 b = some (.tup xs) → upd H2 D2 (.lst (us.map V.ref ++ [.ref t])) b = some (.tup xs) := fun b xs hb => by
              rw [upd_ne (fun z => by rw [z, hD3] at hb; cases hb)]
              exact hb
            exact (tD.mono up).append (.cons (up _ _ hl2) .nil)
        · have q2' : ¬ l.length < n := fun z => q2 (decide_eq_true (by omega))
          refine ⟨e, us, hD3, ?_, by omega⟩
          rw [f1, if_neg (by rw [decide_eq_false q2', Bool.and_false]; decide), List.append_nil]
          exact tD
      · have q1' : ¬ 0 < l.length := fun z => q1 (decide_eq_true (by omega))
        refine ⟨_, rfl, iteF ?_⟩
        refine ⟨e, us, hD3, ?_, by omega⟩
        rw [f1, if_neg (by rw [decide_eq_false q1', Bool.false_and]; decide), List.append_nil]
        exact tD
    obtain ⟨e12, vs, hD12, tD12, lv12⟩ := pv
    have e12 := e11.trans e12
    have lsl : ls.length = (lotsTo (List.range n) n).length := tlo.len
    rw [List.length_map, lsl, List.take_length] at tD12
    have st12 := st9.same e12
    have hR12 := e12 _ _ hD9
    have tR12 := tD9.same e12
    -- the land
    have okl : LandOk0 n (cs.map fun e => KL.couple nm e.1 e.2) := tree_land hp tr8
    refine ⟨_, rfl, _, rfl, D, _, kfOf H12, rfl, .inl (.inl hR12), fun x hx => ?_, fun ys p srt stb np => ?_⟩
    · obtain ⟨a, e, rfl, ha⟩ := g_mem tR12 x hx
      exact ⟨a, rfl, by rw [kf_at ha]; exact ha⟩
    have hys := fun x (hx : x ∈ ys) => g_mem tR12 x (stb.perm.mem_iff.mp hx)
    obtain ⟨ts', rfl, tY⟩ := tat_of ys hys
    have pe : ((ts'.map V.ref).map (gOf H12)).Perm (cs.map fun e => KL.couple nm e.1 e.2) := by
      rw [← g_map tR12]
      exact stb.perm.map _
    have ok : LandOk n ((ts'.map V.ref).map (gOf H12)) := ⟨fun e he => okl.lt e (pe.mem_iff.mp he), pe.nodup_iff.mpr okl.nd, sorted_of _ hys srt, fun S h0 hS => okl.conn S h0 fun e he => hS e (pe.mem_iff.mpr he)⟩
    have s13 := same_new (o := .lst (ts'.map V.ref)) (Same.refl H12) np
    obtain ⟨hph, _⟩ := st12.hand.ne np
    have st13 := st12.same s13
    have hp13 : upd H12 p (.lst (ts'.map V.ref)) p = some (.lst (ts'.map V.ref)) := upd_same
    have tY13 := tY.same s13
    have hD13 := s13 _ _ hD12
    have tD13 := tD12.same s13
    generalize (ts'.map V.ref).map (gOf H12) = es at ok tY13 pe tY
    generalize upd H12 p (.lst (ts'.map V.ref)) = H13 at s13 st13 hp13 tY13 hD13 tD13 ⊢
    obtain ⟨k4, k0, k32⟩ := lots_some ⟨n, by omega⟩ n2
    have hvl : vs.length = ((lotsTo (List.range n) n).filter fun l => decide (0 < l.length) && decide (l.length < n)).length := tD13.len
    have k4 : vs.length ≠ 4 := by rw [hvl]; exact k4
    have k0 : 0 < vs.length := by rw [hvl]; exact k0
    have k32 : vs.length ≤ 32 := by rw [hvl]; exact k32
    refine ⟨_, rfl, _, rfl, h, c, D2, _, rfl, st13.hand, st13.hand.nel hD13 (notHand_len _ (by rw [List.length_map]; exact k4)), hD13, by rw [List.length_map]; exact k0, by rw [List.length_map]; omega, fun H14 j v d ej => ?_⟩
    rw [List.getElem?_map] at ej
    obtain ⟨t, ht, rfl⟩ := Option.map_eq_some_iff.mp ej
    obtain ⟨lot, elot, hlot⟩ := tD13.get ht
    have st14 := st13.drawn d
    have keep : ∀ {b : Addr} {xs : List V}, H13 b = some (.tup xs) → H14 b = some (.tup xs) := fun {b xs} hb => by rw [d.but b (st13.hand.net hb)]; exact hb
    have hp14 : H14 p = some (.lst (ts'.map V.ref)) := by rw [d.but p hph]; exact hp13
    have tY14 := tY13.mono fun b xs hb => keep hb
    refine ⟨t, _, rfl, .inr (.inl (.inl (keep hlot))), fun sA nsA => ?_⟩
    refine ⟨by show 3 ≤ sizeLine; decide, fun q0 nq0 => ?_⟩
    have s15 := same_new (o := .lst (lot.map fun c => .int (c : Nat))) (Same.refl H14) nsA
    have s16 := same_new (o := .tup [.int (n : Nat), .ref p, .ref sA]) s15 nq0
    have nsq : sA ≠ q0 := ne_of_none (show upd H14 sA (.lst (lot.map fun c => .int (c : Nat))) sA = some (.lst (lot.map fun c => .int (c : Nat))) from upd_same) nq0
    have hmem := List.mem_filter.mp (List.mem_of_getElem? elot)
    obtain ⟨hm1, hm2⟩ := hmem
    have hm2 := Bool.and_eq_true_iff.mp hm2
    exact q _ q0 es lot (st14.same s16) ((st14.same s15).free nq0) ⟨⟨p, sA, ts', upd_same, s16 _ _ hp14, tY14.same s16, by rw [upd_ne nsq, upd_same]; rfl⟩, ok, hm1, of_decide_eq_true hm2.1, of_decide_eq_true hm2.2⟩
end
end K7
end
/-! ## P4 -/
section
open PySem PySem.Spec PyProof.Rows L2
namespace K7
abbrev N_is_whole : List Str := ["thing", "low", "high"]
abbrev s_is_whole : Stmt := topS 9
theorem sc_is_whole : FnScope ["thing", "low", "high"] ["thing", "low", "high"] (defScope s_is_whole) := ⟨rfl, rfl, rfl, by decide +kernel, rfl, by decide +kernel, by decide +kernel⟩
abbrev N_is_sequence : List Str := ["thing"]
abbrev s_is_sequence : Stmt := topS 8
theorem sc_is_sequence : FnScope ["thing"] ["thing"] (defScope s_is_sequence) := ⟨rfl, rfl, rfl, by decide +kernel, rfl, by decide +kernel, by decide +kernel⟩
section
variable {P : Program} {w : World} {K : PySem.W.Frag} {mg : Str → Option Value} {base : Heap}
/-! is_whole -/
def wholeV (x : V) (lo hi : Int) : Bool := match x with
  | .int i => decide (lo ≤ i) && decide (i ≤ hi)
  | _ => false
theorem wholeV_int (i lo hi : Int) : wholeV (.int i) lo hi = (decide (lo ≤ i) && decide (i ≤ hi)) := rfl
inductive Flat4 : V → Prop where
  | non : Flat4 .non
  | bl (b : Bool) : Flat4 (.bl b)
  | int (i : Int) : Flat4 (.int i)
  | str (z : Str) : Flat4 (.str z)
/-- what a row of the law holds -/
inductive Thing (H : Hp) : V → Prop where
  | flat {x : V} (h : Flat4 x) : Thing H x
  | tup {a : Addr} {xs : List V} (h : H a = some (.tup xs)) : Thing H (.ref a)
  | lst {a : Addr} {xs : List V} (h : H a = some (.lst xs)) : Thing H (.ref a)
theorem Thing.same {H H' : Hp} {x : V} (h : Thing H x) (e : Same H H') : Thing H' x := by
  cases h with
  | flat h => exact .flat h
  | tup h => exact .tup (e _ _ h)
  | lst h => exact .lst (e _ _ h)
def spWhole : Sp := fun vs H Q _ => ∃ (x : V) (lo hi : Int), vs = [x, .int lo, .int hi] ∧ Thing H x ∧ Q (.bl (wholeV x lo hi)) H
theorem ok_whole {f : Addr} {fd : FuncData} (F : Fun K "is_whole" "is_whole" s_is_whole f fd) (m_isinstance : mg "isinstance" = none) (m_int : mg "int" = none) (m_bool : mg "bool" = none) : FnOk P w K mg base CX0 1 f fd ["thing", "low", "high"] spWhole := by
  refine F.ok sc_is_whole (fun vs H Q E h => ?_) (fun cdv A outer s H vs Q E hr h => ?_)
  · obtain ⟨x, lo, hi, rfl, _⟩ := h
    rfl
  · obtain ⟨x, lo, hi, rfl, hx, q⟩ := h
    refine ⟨_, (pss_one (ps_ret (pe_and (pe_callB call_isi (by rfl) m_isinstance boot_isinstance (pa_cons (pv 0) (pa_cons (pe_bltn (v := .ty "int") (by rfl) m_int boot_int rfl) pa_nil))) (pe_and (pe_not (pe_callB call_isi (by rfl) m_isinstance boot_isinstance (pa_cons (pv 0) (pa_cons (pe_bltn (v := .ty "bool") (by rfl) m_bool boot_bool rfl) pa_nil)))) (pe_one (pe_chain op_le op_le (pv 1) (pv 0) (pv 2))))))), ?_⟩
    rcases hx with ⟨hx⟩ | hx | hx
    rotate_left
    · exact ⟨_, rfl, _, _, _, _, _, rfl, .ty _, .base (.tup hx), kit_ty (r := false) (by decide +kernel), false, rfl, q⟩
    · exact ⟨_, rfl, _, _, _, _, _, rfl, .ty _, .base (.lst hx), kit_ty (r := false) (by decide +kernel), false, rfl, q⟩
    cases hx with
    | non => exact ⟨_, rfl, _, _, _, _, _, rfl, .ty _, .base .non, kit_ty (r := false) (by decide +kernel), false, rfl, q⟩
    | bl b => 
      refine ⟨_, rfl, _, _, _, _, _, rfl, .ty _, .base (.bl b), kit_ty (r := true) (by decide +kernel), true, rfl, ?_⟩
      exact ⟨_, rfl, _, _, _, _, _, rfl, .ty _, .base (.bl b), kit_ty (r := true) (by decide +kernel), _, rfl, _, rfl, q⟩
    | str z => exact ⟨_, rfl, _, _, _, _, _, rfl, .ty _, .base (.str z), kit_ty (r := false) (by decide +kernel), false, rfl, q⟩
    | int i =>
      refine ⟨_, rfl, _, _, _, _, _, rfl, .ty _, .base (.int i), kit_ty (r := true) (by decide +kernel), true, rfl, ?_⟩
      refine ⟨_, rfl, _, _, _, _, _, rfl, .ty _, .base (.int i), kit_ty (r := false) (by decide +kernel), _, rfl, _, rfl, ?_⟩
      refine ⟨_, rfl, _, rfl, _, _, rfl, rfl, _, rfl, ite2 (fun e => ?_) (fun e => ?_)⟩
      · rw [wholeV_int, e, Bool.true_and] at q
        exact ⟨_, rfl, _, _, rfl, rfl, q⟩
      · rw [wholeV_int, Bool.eq_false_iff.mpr e, Bool.false_and] at q
        exact q

/-! is_sequence -/
/-- a tuple or a list -/
def SqA (K : PySem.W.Frag) (H : Hp) (a : Addr) (xs : List V) : Prop := SqL K H a xs ∨ SqT K H a xs
def spSeq (K : PySem.W.Frag) : Sp := fun vs H Q _ => ∃ (x : V) (t : String) (b : Bool), vs = [x] ∧ (∀ H1, Same H H1 → TyX K H1 x (.type t)) ∧ PySem.W.kitAny K (.type t) [.type "list", .type "tuple"] = some b ∧ ∀ H1, Same H H1 → Q (.bl b) H1
theorem ok_seq {f : Addr} {fd : FuncData} (F : Fun K "is_sequence" "is_sequence" s_is_sequence f fd) (m_isinstance : mg "isinstance" = none) (m_list : mg "list" = none) (m_tuple : mg "tuple" = none) : FnOk P w K mg base CX0 1 f fd ["thing"] (spSeq K) := by
  refine F.ok sc_is_sequence (fun vs H Q E h => ?_) (fun cdv A outer s H vs Q E hr h => ?_)
  · obtain ⟨x, t, b, rfl, _⟩ := h
    rfl
  · obtain ⟨x, t, b, rfl, ty, k, q⟩ := h
    refine ⟨_, (pss_one (ps_ret (pe_callB call_isiT (by rfl) m_isinstance boot_isinstance (pa_cons (pv 0) (pa_cons (pe_tup (pa_cons (pe_bltn (v := .ty "list") (by rfl) m_list boot_list rfl) (pa_cons (pe_bltn (v := .ty "tuple") (by rfl) m_tuple boot_tuple rfl) pa_nil))) pa_nil))))), ?_⟩
    refine ⟨_, rfl, by show 2 ≤ sizeLine; decide, fun tp np => ?_⟩
    have s1 := same_new (o := .tup [.ty "list", .ty "tuple"]) (Same.refl H) np
    exact ⟨x, tp, _, .type t, _, b, rfl, upd_same, .cons (.ty _) (.cons (.ty _) .nil), ty _ s1, k, q _ s1⟩
theorem any_tup : PySem.W.kitAny K (.type "tuple") [.type "list", .type "tuple"] = some true := kitAny_cons (b := false) (kit_ty (by decide +kernel)) (fun _ => kitAny_cons (b := true) (kit_ty (by decide +kernel)) (fun z => nomatch z) (fun _ => rfl)) (fun z => nomatch z)
theorem any_lst : PySem.W.kitAny K (.type "list") [.type "list", .type "tuple"] = some true := kitAny_cons (b := true) (kit_ty (by decide +kernel)) (fun z => nomatch z) (fun _ => rfl)
theorem any_int : PySem.W.kitAny K (.type "int") [.type "list", .type "tuple"] = some false := kitAny_cons (b := false) (kit_ty (by decide +kernel)) (fun _ => kitAny_cons (b := false) (kit_ty (by decide +kernel)) (fun _ => kitAny_nil) (fun z => nomatch z)) (fun z => nomatch z)
theorem any_str : PySem.W.kitAny K (.type "str") [.type "list", .type "tuple"] = some false := kitAny_cons (b := false) (kit_ty (by decide +kernel)) (fun _ => kitAny_cons (b := false) (kit_ty (by decide +kernel)) (fun _ => kitAny_nil) (fun z => nomatch z)) (fun z => nomatch z)
theorem any_non : PySem.W.kitAny K (.type "NoneType") [.type "list", .type "tuple"] = some false := kitAny_cons (b := false) (kit_ty (by decide +kernel)) (fun _ => kitAny_cons (b := false) (kit_ty (by decide +kernel)) (fun _ => kitAny_nil) (fun z => nomatch z)) (fun z => nomatch z)
theorem any_bool : PySem.W.kitAny K (.type "bool") [.type "list", .type "tuple"] = some false := kitAny_cons (b := false) (kit_ty (by decide +kernel)) (fun _ => kitAny_cons (b := false) (kit_ty (by decide +kernel)) (fun _ => kitAny_nil) (fun z => nomatch z)) (fun z => nomatch z)
end
end K7
end
/-! ## EL -/
section
open PySem PySem.Spec PyProof.Rows L2
namespace K7E
theorem nodup_le {α : Type} [DecidableEq α] : ∀ (l D : List α), l.Nodup → (∀ x ∈ l, x ∈ D) → l.length ≤ D.length
  | [], _, _, _ => Nat.zero_le _
  | x :: l, D, h, m => by
    obtain ⟨h1, h2⟩ := List.nodup_cons.mp h
    have hx := m x List.mem_cons_self
    have z := nodup_le l (D.erase x) h2 fun y hy => (List.mem_erase_of_ne (fun (e : y = x) => h1 (by rw [← e]; exact hy))).mpr (m y (List.mem_cons_of_mem _ hy))
    rw [List.length_erase_of_mem hx] at z
    have := List.length_pos_of_mem hx
    rw [List.length_cons]
    omega
theorem nodup_of_le {α : Type} [DecidableEq α] : ∀ (l D : List α), l.Nodup → (∀ x ∈ l, x ∈ D) → D.length ≤ l.length → D.Nodup
  | [], [], _, _, _ => List.nodup_nil
  | [], _ :: _, _, _, z => absurd z (by rw [List.length_cons, List.length_nil]; omega)
  | x :: l, D, h, m, z => by
    obtain ⟨h1, h2⟩ := List.nodup_cons.mp h
    have hx := m x List.mem_cons_self
    have hl := List.length_erase_of_mem hx
    have sub : ∀ y ∈ l, y ∈ D.erase x := fun y hy => (List.mem_erase_of_ne (fun (e : y = x) => h1 (by rw [← e]; exact hy))).mpr (m y (List.mem_cons_of_mem _ hy))
    rw [List.length_cons] at z
    have hp := List.length_pos_of_mem hx
    have hd := nodup_of_le l (D.erase x) h2 sub (by omega)
    rw [(List.perm_cons_erase hx).nodup_iff, List.nodup_cons]
    refine ⟨fun hm => ?_, hd⟩
    have w := nodup_le (x :: l) (D.erase x) h fun y hy => by
      rcases List.mem_cons.mp hy with rfl | hy
      · exact hm
      · exact sub y hy
    rw [List.length_cons] at w
    omega
section
variable {X : Cx}
/-- len(set(x)), x a tuple of ints: how many there are of them, and all of them only if no two are the same -/
def tLenSetT (K : PySem.W.Frag) (ta : TE) : TE := fun σ H Q => ta σ H fun x H1 => ∃ (l : Addr) (ns : List Int), x = V.ref l ∧ SqT K H1 l (ns.map V.int) ∧ ns.length < 64 ∧ ∀ c : Nat, c ≤ ns.length → (c = ns.length ↔ ns.Nodup) → Q (.int c) H1
theorem pe_lenSetT {a : Expr} {ta : TE} {p p2 q pos : Pos} (hc : X.calm = true) (hg : Gl X "len") (hm : X.mg "len" = none) (hg2 : Gl X "set") (hm2 : X.mg "set" = none) (ha : PE X a ta)
    (na : starEach [a] X.env = (false, eval a X.env) :: starEach [] X.env := by rfl) : PE X (.Call (.Name "len" p) [.Call (.Name "set" p2) [a] [] q] [] pos) (tLenSetT X.K ta) := by
  refine ⟨fun pins s σ H Q I h => ?_⟩
  refine Call_ (ld_blt I hg hm PySem.boot_len ?_)
  refine PyProof.Rows.callWith_builtin1 (PyProof.Rows.args_cons ?_ rfl) rfl rfl
  refine Call_ (ld_blt I hg2 hm2 PyProof.Rows.boot_set ?_)
  refine PyProof.Rows.callWith_type1 (PyProof.Rows.args_cons (thn (ha.run pins s σ H _ I h) fun v s1 ⟨x, H1, I1, r1, q1⟩ => PyProof.Rows.args_nil ?_) na) na rfl
  obtain ⟨l, ns, rfl, hq, h1, q1⟩ := q1
  cases r1
  obtain ⟨its, r, pl, hz⟩ := I1.tuple hq
  have hi : IntsAre its.toArray.toList ns := ints_of_vals r
  refine call_set_tupI ns (I1.ok.hd hc) (show s1.heap.IsTuple l its.toArray from pl) hi (by unfold scanBound; omega) fun h' tk c hS hcn hk => ?_
  refine PyProof.Rows.args_nil ?_
  obtain ⟨o, es, ep, t, ho, hex, hd, g, nd, hm2, hb, hf, hn, hr, hl2⟩ := hS
  have I2 : Inv X pins σ H1 { s1 with heap := h', toks := tk } := I1.kept fun b o e => hk b o e
  have hmem : ∀ k, k ∈ es.toList.map keyOf ↔ k ∈ ns := fun k => by rw [← hm2 k, decide_eq_true_eq]
  have hlen : (es.toList.map keyOf).length = c := by rw [List.length_map, Array.length_toList, hn]
  have key : c = ns.length ↔ ns.Nodup := by
    constructor
    · intro e
      exact nodup_of_le _ _ nd (fun k hk => (hmem k).mp hk) (by rw [hlen, e]; exact Nat.le_refl _)
    · intro hn2
      have w := nodup_le _ _ hn2 fun k hk => (hmem k).mpr hk
      rw [hlen] at w
      omega
  refine call_len_set ho hex hd hf (by rw [hn] <;> omega) ⟨.int c, H1, I2.tok _, ⟨_, by rw [hn]⟩, q1 c hcn key⟩
/-- the same over a list -/
theorem firstMet_nd (val : Nat → Int) : ∀ i, (firstMet val i).Nodup
  | 0 => List.nodup_nil
  | i + 1 => by
    rw [firstMet_succ]
    unfold step_dedup
    split
    · exact firstMet_nd val i
    · rename_i h
      refine List.nodup_append.mpr ⟨firstMet_nd val i, List.nodup_cons.mpr ⟨List.not_mem_nil, List.nodup_nil⟩, fun a ha b hb e => h ?_⟩
      rw [List.mem_singleton] at hb
      exact List.any_eq_true.mpr ⟨a, ha, by rw [e, hb]; exact beq_self_eq_true _⟩
theorem firstMet_mem (ns : List Int) (k : Int) : k ∈ firstMet (fun i => ns.getD i 0) ns.length ↔ k ∈ ns := by
  have e := firstMet_any (fun i => ns.getD i 0) ns.length k
  have em : (List.range ns.length).map (fun i => ns.getD i 0) = ns := by
    refine List.ext_getElem (by rw [List.length_map, List.length_range]) fun j h1 h2 => ?_
    rw [List.getElem_map, List.getElem_range, List.getD_eq_getElem?_getD, List.getElem?_eq_getElem h2]
    rfl
  rw [em] at e
  have w : ∀ l : List Int, l.any (· == k) = true ↔ k ∈ l := fun l => by
    rw [List.any_eq_true]
    exact ⟨fun ⟨x, hx, ex⟩ => by rw [← beq_iff_eq.mp ex]; exact hx, fun hx => ⟨k, hx, beq_self_eq_true _⟩⟩
  rw [← w, ← w, e]
def tLenSetL (K : PySem.W.Frag) (ta : TE) : TE := fun σ H Q => ta σ H fun x H1 => ∃ (l : Addr) (ns : List Int), x = V.ref l ∧ SqL K H1 l (ns.map V.int) ∧ ns.length < 64 ∧ ∀ c : Nat, c ≤ ns.length → (c = ns.length ↔ ns.Nodup) → Q (.int c) H1
theorem pe_lenSetL {a : Expr} {ta : TE} {p p2 q pos : Pos} (hc : X.calm = true) (hg : Gl X "len") (hm : X.mg "len" = none) (hg2 : Gl X "set") (hm2 : X.mg "set" = none) (ha : PE X a ta)
    (na : starEach [a] X.env = (false, eval a X.env) :: starEach [] X.env := by rfl) : PE X (.Call (.Name "len" p) [.Call (.Name "set" p2) [a] [] q] [] pos) (tLenSetL X.K ta) := by
  refine ⟨fun pins s σ H Q I h => ?_⟩
  refine Call_ (ld_blt I hg hm PySem.boot_len ?_)
  refine PyProof.Rows.callWith_builtin1 (PyProof.Rows.args_cons ?_ rfl) rfl rfl
  refine Call_ (ld_blt I hg2 hm2 PyProof.Rows.boot_set ?_)
  refine PyProof.Rows.callWith_type1 (PyProof.Rows.args_cons (thn (ha.run pins s σ H _ I h) fun v s1 ⟨x, H1, I1, r1, q1⟩ => PyProof.Rows.args_nil ?_) na) na rfl
  obtain ⟨l, ns, rfl, hq, h1, q1⟩ := q1
  cases r1
  obtain ⟨its, r, pl, hz⟩ := I1.list hq
  have hl : its.toArray.size = ns.length := by rw [List.size_toArray, ← r.length, List.length_map]
  refine call_set_list (I1.ok.hd hc) pl.isList (ns := ns) (by simpa using r.ints) (by unfold scanBound; omega) fun h' tk hS hk => ?_
  rw [hl] at hS
  have nd := firstMet_nd (fun i => ns.getD i 0) ns.length
  have mm := firstMet_mem ns
  have hcn := firstMet_length_le (fun i => ns.getD i 0) ns.length
  generalize firstMet (fun i => ns.getD i 0) ns.length = L at hS nd mm hcn
  refine PyProof.Rows.args_nil ?_
  obtain ⟨o, es, ep, t, ho, hex, hd, _, _, _, hf, hn⟩ := hS
  have I2 : Inv X pins σ H1 { s1 with heap := h', toks := tk } := I1.kept fun b o e => hk b o (Heap.lt_size e) e
  have key : L.length = ns.length ↔ ns.Nodup := by
    constructor
    · intro e
      exact nodup_of_le _ _ nd (fun k hk => (mm k).mp hk) (by rw [e]; exact Nat.le_refl _)
    · intro hn2
      have w := nodup_le _ _ hn2 fun k hk => (mm k).mpr hk
      omega
  refine call_len_set ho hex hd hf (by rw [hn] <;> omega) ⟨.int L.length, H1, I2.tok _, ⟨_, by rw [hn]⟩, q1 _ hcn key⟩
/-- one of two readings -/
theorem pe_either {e : Expr} {t1 t2 : TE} (a : PE X e t1) (b : PE X e t2) : PE X e (fun σ H Q => t1 σ H Q ∨ t2 σ H Q) := ⟨fun pins s σ H Q I h => h.elim (a.run pins s σ H Q I) (b.run pins s σ H Q I)⟩
theorem pi_either {tg e : Expr} {t1 t2 : TI} (a : PI X tg e t1) (b : PI X tg e t2) : PI X tg e (fun σ H R => t1 σ H R ∨ t2 σ H R) := ⟨fun pins s σ H R I h => h.elim (a.run pins s σ H R I) (b.run pins s σ H R I)⟩
end
end K7E
end
/-! ## P5 -/
section
open PySem PySem.Spec PyProof.Rows L2
namespace K7
abbrev N_are_cells : List Str := ["many", "thing", "least", "cell"]
abbrev s_are_cells : Stmt := topS 10
theorem sc_are_cells : FnScope ["many", "thing", "least", "cell"] ["many", "thing", "least"] (defScope s_are_cells) := ⟨rfl, rfl, rfl, by decide +kernel, rfl, by decide +kernel, by decide +kernel⟩
section
variable {P : Program} {w : World} {K : PySem.W.Frag} {mg : Str → Option Value} {base : Heap}
def intOf : V → Int | .int i => i | _ => 0
/-- what are_cells says of a row -/
def cellsV (many : Int) (xs : List V) (least : Int) : Bool := decide (least ≤ (xs.length : Nat)) && xs.all (fun x => wholeV x 0 (many - 1)) && decide (xs.map intOf).Nodup
theorem whole_int {x : V} {lo hi : Int} (h : wholeV x lo hi = true) : x = .int (intOf x) := by
  unfold wholeV at h
  split at h
  · rfl
  · cases h
def spCells (K : PySem.W.Frag) : Sp := fun vs H Q _ => ∃ (many : Int) (x : V) (least : Int), vs = [.int many, x, .int least] ∧
  ((∃ t : String, (∀ H1, Same H H1 → TyX K H1 x (.type t)) ∧ PySem.W.kitAny K (.type t) [.type "list", .type "tuple"] = some false ∧ ∀ H1, Same H H1 → Q (.bl false) H1) ∨
   (∃ (a : Addr) (xs : List V), x = .ref a ∧ (H a = some (.tup xs) ∨ H a = some (.lst xs)) ∧ (∀ y ∈ xs, Thing H y) ∧ xs.length < 64 ∧ ∀ H1, Same H H1 → Q (.bl (cellsV many xs least)) H1))
theorem ok_cells {f fS fW : Addr} {fd fdS fdW : FuncData} (F : Fun K "are_cells" "are_cells" s_are_cells f fd)
    (Gsq : FnOk P w K mg base CX0 1 fS fdS ["thing"] (spSeq K)) (gsq : mg "is_sequence" = some (.ref fS)) (ksq : PySem.W.keepIn K (.ref fS) = true) (bsq : Binds K fdS ["thing"] [])
    (Giw : FnOk P w K mg base CX0 1 fW fdW ["thing", "low", "high"] spWhole) (giw : mg "is_whole" = some (.ref fW)) (kiw : PySem.W.keepIn K (.ref fW) = true) (biw : Binds K fdW ["thing", "low", "high"] [])
    (m_len : mg "len" = none) (m_set : mg "set" = none) (m_all : mg "all" = none) : FnOk P w K mg base CX0 2 f fd ["many", "thing", "least"] (spCells K) := by
  refine F.ok sc_are_cells (fun vs H Q E h => ?_) (fun cdv A outer s H vs Q E hr h => ?_)
  · obtain ⟨m, x, l, rfl, _⟩ := h
    rfl
  · obtain ⟨m, x, l, rfl, h⟩ := h
    refine ⟨_, (pss_cons (ps_if (pw_or (pt_not (pt_val (pe_call Gsq (hr.mono (by decide)) (by rfl) gsq ksq bsq .nil pass0 (pa_cons (pv 1) pa_nil)))) (pw_or1 (pt_cmpR op_lt (pe_callB call_len_seq (by rfl) m_len boot_len (pa_cons (pv 1) pa_nil)) (pv 2) (nomark _)))).pt
  (pss_one (ps_ret pe_bl))
  pss_nil)
 (pss_cons (ps_if (pt_not (pt_val (pe_callB (cr_all rfl) (by rfl) m_all boot_all (pa_cons (pe_lc (own := [("cell", 3)]) (g := gName 3) (tt := tYes) rfl sc_are_cells.nd (K7E.pi_either (pi_tup (pv 1)) (pi_list (pv 1))) (blkOk_by (own := [("cell", 3)]) (N := N_are_cells) (sc := defScope s_are_cells) (by decide +kernel)) (fun _ _ _ _ _ => (pg_name (i := 3) sc_are_cells.nd rfl (by first | exact Or.inl rfl | exact Or.inr rfl))) (fun _ _ _ _ _ => pts_nil) (fun _ _ _ _ _ => (pe_call Giw (hr.mono (by decide)) (by rfl) giw kiw biw .nil pass0 (pa_cons (pv 3) (pa_cons pe_int (pa_cons (pe_op op_sub (pv 0) pe_int) pa_nil)))))) pa_nil))))
  (pss_one (ps_ret pe_bl))
  pss_nil)
 (pss_one (ps_ret (pe_cmpR op_eq (K7E.pe_either (K7E.pe_lenSetT rfl (by rfl) m_len (by rfl) m_set (pv 1)) (K7E.pe_lenSetL rfl (by rfl) m_len (by rfl) m_set (pv 1))) (pe_callB call_len_seq (by rfl) m_len boot_len (pa_cons (pv 1) pa_nil)) (nomark _)))))), ?_⟩
    rcases h with ⟨t, ty, k, q⟩ | ⟨a, xs, rfl, ha, th, h64, q⟩
    · refine ⟨_, rfl, x, t, false, rfl, ty, k, fun H1 e1 => ?_⟩
      exact ⟨_, rfl, q H1 e1⟩
    · have sq : ∀ H1, Same H H1 → (SqL K H1 a xs ∨ SqT K H1 a xs) := fun H1 e1 => ha.elim (fun z => .inr (.inl (.inl (e1 _ _ z)))) (fun z => .inl (.inl (.inl (e1 _ _ z))))
      have ex : ∃ t : String, (∀ H1, Same H H1 → TyX K H1 (.ref a) (.type t)) ∧ PySem.W.kitAny K (.type t) [.type "list", .type "tuple"] = some true := by
        rcases ha with z | z
        · exact ⟨"tuple", fun H1 e1 => .base (.tup (e1 _ _ z)), any_tup⟩
        · exact ⟨"list", fun H1 e1 => .base (.lst (e1 _ _ z)), any_lst⟩
      obtain ⟨t, ty, kk⟩ := ex
      refine ⟨_, rfl, _, t, true, rfl, ty, kk, fun H1 e1 => ⟨_, rfl, ?_⟩⟩
      refine ⟨_, rfl, a, xs, rfl, sq H1 e1, _, rfl, _, _, rfl, rfl, _, rfl, ite2 (fun c1 => ?_) (fun c1 => ?_)⟩
      · have c1' : ((xs.length : Nat) : Int) < l := of_decide_eq_true c1
        have z := q H1 e1
        have e0 : cellsV m xs l = false := by
          unfold cellsV
          rw [decide_eq_false (show ¬ l ≤ ((xs.length : Nat) : Int) by omega), Bool.false_and, Bool.false_and]
        rw [e0] at z
        exact z
      · have c1' : ¬ ((xs.length : Nat) : Int) < l := fun z => c1 (decide_eq_true z)
        have c2 : decide (l ≤ ((xs.length : Nat) : Int)) = true := decide_eq_true (by omega)
        rcases ha with z | z
        · refine .inl ⟨_, rfl, a, rfl, ⟨xs, .inl (.inl (e1 _ _ z))⟩, fun D hD => lc_tup (xs := xs) (fun j H2 => Same H1 H2 ∧ H2 D = some (.lst (((xs.take j).map fun x => wholeV x 0 (m - 1)).map V.bl))) ⟨same_new (Same.refl H1) hD, upd_same⟩ (fun j H2 _ pv => .inl (.inl (pv.1 _ _ (e1 _ _ z)))) (fun j x H2 hx pv => ?_) (fun H2 pv => ?_)⟩
          · obtain ⟨e2, hD2⟩ := pv
            have hm := th x (List.mem_of_getElem? hx)
            have hj : j < xs.length := (List.getElem?_eq_some_iff.mp hx).1
            refine ⟨rfl, _, rfl, _, rfl, _, _, rfl, rfl, x, 0, m - 1, rfl, hm.same (e1.trans e2), _, hD2, by rw [List.length_map, List.length_map, List.length_take]; exact small1000 (by omega), fun b o hb => ?_, ?_⟩
            · rw [upd_ne (ne_of_none hb hD)]
              exact e2 _ _ hb
            · rw [upd_same, List.take_add_one, hx, List.map_append, List.map_append]
              rfl
          · obtain ⟨e2, hD2⟩ := pv
            rw [List.take_length] at hD2
            refine ⟨D, xs.map fun x => wholeV x 0 (m - 1), rfl, .inl (.inl hD2), _, rfl, ?_⟩
            have call_ : (xs.map fun x => wholeV x 0 (m - 1)).all id = xs.all fun x => wholeV x 0 (m - 1) := by rw [List.all_map]; rfl
            refine ite2 (fun c3 => ?_) (fun c3 => ?_)
            rotate_left
            · have w : xs.all (fun x => wholeV x 0 (m - 1)) = true := by
                rw [← call_]
                cases hq : (xs.map fun x => wholeV x 0 (m - 1)).all id with
                | true => rfl
                | false => exact absurd (by rw [hq]; rfl) c3
              have exs : xs = (xs.map intOf).map V.int := by
                rw [List.map_map]
                refine (List.map_id xs).symm.trans (List.map_congr_left fun y hy => ?_)
                exact whole_int (List.all_eq_true.mp w y hy)
              refine Or.inl ⟨_, rfl, a, xs.map intOf, rfl, by rw [← exs]; exact .inl (.inl (e2 _ _ (e1 _ _ z))), by rw [List.length_map]; exact h64, fun c hc1 hc2 => ?_⟩
              refine ⟨_, rfl, a, xs, rfl, sq H2 (e1.trans e2), rfl, ?_⟩
              have zz := q H2 (e1.trans e2)
              unfold cellsV at zz
              rw [c2, w, Bool.true_and, Bool.true_and] at zz
              rw [List.length_map] at hc2
              have ee : decide (V.int (c : Nat) = V.int (xs.length : Nat)) = decide (xs.map intOf).Nodup := by
                refine decide_eq_decide.mpr ⟨fun e => hc2.mp ?_, fun e => by rw [hc2.mpr e]⟩
                injection e with e
                omega
              rw [← ee] at zz
              exact zz
            · have w : xs.all (fun x => wholeV x 0 (m - 1)) = false := by
                rw [← call_]
                cases hq : (xs.map fun x => wholeV x 0 (m - 1)).all id with
                | false => rfl
                | true => rw [hq] at c3; cases c3
              have zz := q H2 (e1.trans e2)
              unfold cellsV at zz
              rw [w, Bool.and_false, Bool.false_and] at zz
              exact zz
        · refine .inr ⟨_, rfl, a, rfl, ⟨xs, .inl (.inl (e1 _ _ z))⟩, fun D hD => lc_list (xs := xs) (fun j H2 => Same H1 H2 ∧ H2 D = some (.lst (((xs.take j).map fun x => wholeV x 0 (m - 1)).map V.bl))) ⟨same_new (Same.refl H1) hD, upd_same⟩ (fun j H2 _ pv => .inl (.inl (pv.1 _ _ (e1 _ _ z)))) (fun j x H2 hx pv => ?_) (fun H2 pv => ?_)⟩
          · obtain ⟨e2, hD2⟩ := pv
            have hm := th x (List.mem_of_getElem? hx)
            have hj : j < xs.length := (List.getElem?_eq_some_iff.mp hx).1
            refine ⟨rfl, _, rfl, _, rfl, _, _, rfl, rfl, x, 0, m - 1, rfl, hm.same (e1.trans e2), _, hD2, by rw [List.length_map, List.length_map, List.length_take]; exact small1000 (by omega), fun b o hb => ?_, ?_⟩
            · rw [upd_ne (ne_of_none hb hD)]
              exact e2 _ _ hb
            · rw [upd_same, List.take_add_one, hx, List.map_append, List.map_append]
              rfl
          · obtain ⟨e2, hD2⟩ := pv
            rw [List.take_length] at hD2
            refine ⟨D, xs.map fun x => wholeV x 0 (m - 1), rfl, .inl (.inl hD2), _, rfl, ?_⟩
            have call_ : (xs.map fun x => wholeV x 0 (m - 1)).all id = xs.all fun x => wholeV x 0 (m - 1) := by rw [List.all_map]; rfl
            refine ite2 (fun c3 => ?_) (fun c3 => ?_)
            rotate_left
            · have w : xs.all (fun x => wholeV x 0 (m - 1)) = true := by
                rw [← call_]
                cases hq : (xs.map fun x => wholeV x 0 (m - 1)).all id with
                | true => rfl
                | false => exact absurd (by rw [hq]; rfl) c3
              have exs : xs = (xs.map intOf).map V.int := by
                rw [List.map_map]
                refine (List.map_id xs).symm.trans (List.map_congr_left fun y hy => ?_)
                exact whole_int (List.all_eq_true.mp w y hy)
              refine Or.inr ⟨_, rfl, a, xs.map intOf, rfl, by rw [← exs]; exact .inl (.inl (e2 _ _ (e1 _ _ z))), by rw [List.length_map]; exact h64, fun c hc1 hc2 => ?_⟩
              refine ⟨_, rfl, a, xs, rfl, sq H2 (e1.trans e2), rfl, ?_⟩
              have zz := q H2 (e1.trans e2)
              unfold cellsV at zz
              rw [c2, w, Bool.true_and, Bool.true_and] at zz
              rw [List.length_map] at hc2
              have ee : decide (V.int (c : Nat) = V.int (xs.length : Nat)) = decide (xs.map intOf).Nodup := by
                refine decide_eq_decide.mpr ⟨fun e => hc2.mp ?_, fun e => by rw [hc2.mpr e]⟩
                injection e with e
                omega
              rw [← ee] at zz
              exact zz
            · have w : xs.all (fun x => wholeV x 0 (m - 1)) = false := by
                rw [← call_]
                cases hq : (xs.map fun x => wholeV x 0 (m - 1)).all id with
                | false => rfl
                | true => rw [hq] at c3; cases c3
              have zz := q H2 (e1.trans e2)
              unfold cellsV at zz
              rw [w, Bool.and_false, Bool.false_and] at zz
              exact zz
end
end K7
end
/-! ## P6 -/
section
open PySem PySem.Spec PyProof.Rows L2
namespace K7
abbrev N_are_two_cells : List Str := ["many", "thing"]
abbrev s_are_two_cells : Stmt := topS 11
theorem sc_are_two_cells : FnScope ["many", "thing"] ["many", "thing"] (defScope s_are_two_cells) := ⟨rfl, rfl, rfl, by decide +kernel, rfl, by decide +kernel, by decide +kernel⟩
section
variable {P : Program} {w : World} {K : PySem.W.Frag} {mg : Str → Option Value} {base : Heap}
/-- what are_two_cells says of a row -/
def twoV (many : Int) (xs : List V) : Bool := cellsV many xs 2 && decide (xs.length = 2)
def spTwo (K : PySem.W.Frag) : Sp := fun vs H Q _ => ∃ (many : Int) (x : V), vs = [.int many, x] ∧
  ((∃ t : String, (∀ H1, Same H H1 → TyX K H1 x (.type t)) ∧ PySem.W.kitAny K (.type t) [.type "list", .type "tuple"] = some false ∧ ∀ H1, Same H H1 → Q (.bl false) H1) ∨
   (∃ (a : Addr) (xs : List V), x = .ref a ∧ (H a = some (.tup xs) ∨ H a = some (.lst xs)) ∧ (∀ y ∈ xs, Thing H y) ∧ xs.length < 64 ∧ ∀ H1, Same H H1 → Q (.bl (twoV many xs)) H1))
theorem ok_two {f fC : Addr} {fd fdC : FuncData} (F : Fun K "are_two_cells" "are_two_cells" s_are_two_cells f fd)
    (Gac : FnOk P w K mg base CX0 2 fC fdC ["many", "thing", "least"] (spCells K)) (gac : mg "are_cells" = some (.ref fC)) (kac : PySem.W.keepIn K (.ref fC) = true) (bac : Binds K fdC ["many", "thing", "least"] [])
    (m_len : mg "len" = none) : FnOk P w K mg base CX0 3 f fd ["many", "thing"] (spTwo K) := by
  refine F.ok sc_are_two_cells (fun vs H Q E h => ?_) (fun cdv A outer s H vs Q E hr h => ?_)
  · obtain ⟨m, x, rfl, _⟩ := h
    rfl
  · obtain ⟨m, x, rfl, h⟩ := h
    refine ⟨_, (pss_one (ps_ret (pe_and (pe_call Gac (hr.mono (by decide)) (by rfl) gac kac bac .nil pass0 (pa_cons (pv 0) (pa_cons (pv 1) (pa_cons pe_int pa_nil)))) (pe_one (pe_cmpR op_eq (pe_callB call_len_seq (by rfl) m_len boot_len (pa_cons (pv 1) pa_nil)) pe_int (nomark _)))))), ?_⟩
    refine ⟨_, rfl, _, rfl, m, x, 2, rfl, ?_⟩
    rcases h with ⟨t, ty, k, q⟩ | ⟨a, xs, rfl, ha, th, h64, q⟩
    · exact .inl ⟨t, ty, k, fun H1 e1 => ⟨false, rfl, q H1 e1⟩⟩
    · refine .inr ⟨a, xs, rfl, ha, th, h64, fun H1 e1 => ⟨_, rfl, ite2 (fun c1 => ?_) (fun c1 => ?_)⟩⟩
      · refine ⟨_, rfl, a, xs, rfl, ha.elim (fun z => .inr (.inl (.inl (e1 _ _ z)))) (fun z => .inl (.inl (.inl (e1 _ _ z)))), rfl, ?_⟩
        have zz := q H1 e1
        unfold twoV at zz
        rw [c1, Bool.true_and] at zz
        have ee : decide (V.int (xs.length : Nat) = V.int 2) = decide (xs.length = 2) := by
          refine decide_eq_decide.mpr ⟨fun e => ?_, fun e => by rw [e]; rfl⟩
          injection e with e
          omega
        rw [← ee] at zz
        exact zz
      · have zz := q H1 e1
        unfold twoV at zz
        rw [Bool.eq_false_iff.mpr c1, Bool.false_and] at zz
        exact zz
end
end K7
end
/-! ## KM -/
section
/-! ## more pure facts: couples put in order -/
namespace KL
def srt (c : Nat × Nat) : Nat × Nat := (min c.1 c.2, max c.1 c.2)
theorem srt_le (c : Nat × Nat) : (srt c).1 ≤ (srt c).2 := by unfold srt; simp only; omega
theorem srt_lt {c : Nat × Nat} (h : c.1 ≠ c.2) : (srt c).1 < (srt c).2 := by unfold srt; simp only; omega
theorem srt_of {c : Nat × Nat} (h : c.1 < c.2) : srt c = c := by
  obtain ⟨a, b⟩ := c
  unfold srt
  simp only at h ⊢
  rw [Nat.min_eq_left (by omega), Nat.max_eq_right (by omega)]
/-- two numbers put in order -/
theorem two_sorted {ms : List Int} {x y : Nat} (p : ms.Perm [(x : Int), (y : Int)]) (s : ms.Pairwise (· ≤ ·)) : ms = [((min x y : Nat) : Int), ((max x y : Nat) : Int)] := by
  have hl := p.length_eq
  match ms, hl with
  | [u, v], _ =>
    have huv : u ≤ v := (List.pairwise_cons.mp s).1 v (List.mem_singleton.mpr rfl)
    have hu : u ∈ [(x : Int), (y : Int)] := p.mem_iff.mp List.mem_cons_self
    rcases List.mem_cons.mp hu with e | e
    · subst e
      have := (List.Perm.cons_inv p).eq_singleton
      injection this with e
      subst e
      have hxy : x ≤ y := by omega
      rw [Nat.min_eq_left hxy, Nat.max_eq_right hxy]
    · rw [List.mem_singleton] at e
      subst e
      have p2 : [(y : Int), v].Perm [(y : Int), (x : Int)] := p.trans (List.Perm.swap ..)
      have := (List.Perm.cons_inv p2).eq_singleton
      injection this with e
      subst e
      have hxy : y ≤ x := by omega
      rw [Nat.min_eq_right hxy, Nat.max_eq_left hxy]
def lexLe (a b : Nat × Nat) : Prop := a.1 < b.1 ∨ (a.1 = b.1 ∧ a.2 ≤ b.2)
/-- a sorted list is told by its items -/
theorem uniq {α : Type} {le : α → α → Prop} (anti : ∀ a b, le a b → le b a → a = b) : ∀ {l m : List α}, l.Perm m → l.Pairwise le → m.Pairwise le → l = m
  | [], m, p, _, _ => p.symm.eq_nil.symm
  | x :: l, [], p, _, _ => absurd p.length_eq (by simp)
  | x :: l, y :: m, p, hl, hm => by
    have e : x = y := by
      rcases List.mem_cons.mp (p.mem_iff.mp (List.mem_cons_self (a := x) (l := l))) with e | hx
      · exact e
      · rcases List.mem_cons.mp (p.mem_iff.mpr (List.mem_cons_self (a := y) (l := m))) with e | hy
        · exact e.symm
        · exact anti _ _ ((List.pairwise_cons.mp hl).1 y hy) ((List.pairwise_cons.mp hm).1 x hx)
    subst e
    rw [uniq anti p.cons_inv (List.pairwise_cons.mp hl).2 (List.pairwise_cons.mp hm).2]
theorem lex_anti (a b : Nat × Nat) (h1 : lexLe a b) (h2 : lexLe b a) : a = b := by
  unfold lexLe at h1 h2
  exact Prod.ext (by omega) (by omega)
theorem int_anti (a b : Int) (h1 : a ≤ b) (h2 : b ≤ a) : a = b := by omega
/-- all couples of n cells -/
def allC (n : Nat) : List (Nat × Nat) := (List.range n).flatMap fun a => ((List.range n).filter fun b => decide (a ≠ b)).map fun b => (a, b)
/-- couples taken either way round hang together as the ordered ones do -/
theorem conn_srt {n : Nat} {cs es : List (Nat × Nat)} (h : Conn n cs) (hp : es.Perm (cs.map srt)) : Conn n es := by
  intro S h0 he
  refine h S h0 fun c hc => ?_
  have z := he (srt c) (hp.mem_iff.mpr (List.mem_map.mpr ⟨c, hc, rfl⟩))
  unfold srt at z
  simp only at z
  rcases Nat.le_total c.1 c.2 with q | q
  · rw [Nat.min_eq_left q, Nat.max_eq_right q] at z
    exact z
  · rw [Nat.min_eq_right q, Nat.max_eq_left q] at z
    exact z.symm
/-- what is reached from c over passing cells -/
inductive Rch (E : Nat → Nat → Prop) (ps : List Nat) (c : Nat) : Nat → Prop
  | base : Rch E ps c c
  | step {a b : Nat} (h : Rch E ps c a) (e : E a b) (p : b ∈ ps) : Rch E ps c b
theorem Rch.mono {E E' : Nat → Nat → Prop} {ps ps' : List Nat} {c x : Nat} (h : Rch E ps c x) (he : ∀ a b, E a b → E' a b) (hp : ∀ b ∈ ps, b ∈ ps') : Rch E' ps' c x := by
  induction h with
  | base => exact .base
  | step _ e p ih => exact .step ih (he _ _ e) (hp _ p)
/-- a closed list that holds c holds what is reached -/
theorem Rch.mem {E : Nat → Nat → Prop} {ps : List Nat} {c x : Nat} {fd : List Nat} (h : Rch E ps c x) (h0 : c ∈ fd) (hc : ∀ a b, a ∈ fd → E a b → b ∈ ps → b ∈ fd) : x ∈ fd := by
  induction h with
  | base => exact h0
  | step _ e p ih => exact hc _ _ ih e p
end KL
end
/-! ## P7 -/
section
open PySem PySem.Spec PyProof.Rows L2
namespace K7
abbrev N_spread : List Str := ["nearby", "cell", "passing", "found", "done", "here", "b"]
abbrev s_spread : Stmt := topS 15
theorem sc_spread : FnScope ["nearby", "cell", "passing", "found", "done", "here", "b"] ["nearby", "cell", "passing"] (defScope s_spread) := ⟨rfl, rfl, rfl, by decide +kernel, rfl, by decide +kernel, by decide +kernel⟩
theorem flat_ints : ∀ l : List Nat, (ints_ l).all flatV = true
  | [] => rfl
  | _ :: l => flat_ints l
theorem inV_ints (c : Nat) : ∀ l : List Nat, inV (.int (c : Nat)) (ints_ l) = decide (c ∈ l)
  | [] => rfl
  | y :: l => by
    show (eqV (.int (y : Nat)) (.int (c : Nat)) || inV (.int (c : Nat)) (ints_ l)) = _
    rw [inV_ints c l]
    have e : eqV (.int (y : Nat)) (.int (c : Nat)) = decide (c = y) := by
      show decide ((y : Int) = (c : Int)) = _
      exact decide_eq_decide.mpr (by omega)
    rw [e, ← Bool.decide_or]
    exact decide_eq_decide.mpr List.mem_cons.symm
section
variable {P : Program} {w : World} {K : PySem.W.Frag} {mg : Str → Option Value} {base : Heap}
def SqOf (H : Hp) (a : Addr) (xs : List V) : Prop := H a = some (.tup xs) ∨ H a = some (.lst xs)
theorem SqOf.same {H H' : Hp} {a : Addr} {xs : List V} (h : SqOf H a xs) (e : Same H H') : SqOf H' a xs := h.imp (e _ _) (e _ _)
theorem SqOf.sq {H : Hp} {a : Addr} {xs : List V} (h : SqOf H a xs) : SqL K H a xs ∨ SqT K H a xs := h.elim (fun z => .inr (.inl (.inl z))) fun z => .inl (.inl (.inl z))
def nbE (Nb : List (List Nat)) (a b : Nat) : Prop := ∃ l, Nb[a]? = some l ∧ b ∈ l
def SpInv (H : Hp) (nb pa F0 : Addr) (Nb : List (List Nat)) (ps : List Nat) (c m : Nat) (σ' : L2.St) (H' : Hp) : Prop := ∃ (fd : List Nat) (d : Nat) (y5 y6 : Option V), σ' = [some (.ref nb), some (.int (c : Nat)), some (.ref pa), some (.ref F0), some (.int (d : Nat)), y5, y6] ∧ But F0 H H' ∧ H' F0 = some (.lst (ints_ fd)) ∧ fd.Nodup ∧ c ∈ fd ∧ (∀ x ∈ fd, x < Nb.length) ∧ d ≤ fd.length ∧
      (∀ i a, i < d → fd[i]? = some a → ∀ l, Nb[a]? = some l → ∀ b ∈ l, b ∈ ps → b ∈ fd) ∧ m + d = Nb.length ∧ ∀ x ∈ fd, KL.Rch (nbE Nb) ps c x
/-- what spread finds: the cell, and all that is near to what is found -/
structure Found (Nb : List (List Nat)) (ps : List Nat) (c : Nat) (fd : List Nat) : Prop where
  nd : fd.Nodup
  me : c ∈ fd
  lt : ∀ x ∈ fd, x < Nb.length
  cl : ∀ a ∈ fd, ∀ l, Nb[a]? = some l → ∀ b ∈ l, b ∈ ps → b ∈ fd
  so : ∀ x ∈ fd, KL.Rch (nbE Nb) ps c x
def spSpread : Sp := fun vs H Q _ => ∃ (nb : Addr) (ts : List Addr) (Nb : List (List Nat)) (c : Nat) (pa : Addr) (ps : List Nat), vs = [.ref nb, .int c, .ref pa] ∧ H nb = some (.tup (ts.map V.ref)) ∧ TAt H ts Nb ∧ SqOf H pa (ints_ ps) ∧
  Nb.length ≤ 5 ∧ c < Nb.length ∧ (∀ l ∈ Nb, ∀ x ∈ l, x < Nb.length) ∧ ∀ H' q fd, Same H H' → H q = none → H' q = some (.lst (ints_ fd)) → Found Nb ps c fd → Q (.ref q) H'
theorem ok_spread {f : Addr} {fd : FuncData} (F : Fun K "spread" "spread" s_spread f fd) (m_len : mg "len" = none) : FnOk P w K mg base CX0 1 f fd ["nearby", "cell", "passing"] spSpread := by
  refine F.ok sc_spread (fun vs H Q E h => ?_) (fun cdv A outer s H vs Q E hr h => ?_)
  · obtain ⟨nb, ts, Nb, c, pa, ps, rfl, _⟩ := h
    rfl
  · obtain ⟨nb, ts, Nb, c, pa, ps, rfl, hnb, tN, hpa, h5, hc, hlt, q⟩ := h
    refine ⟨_, (pss_cons (ps_set (i := 3) sc_spread.nd rfl (by first | exact Or.inl rfl | exact Or.inr rfl) (pe_lst (pa_cons (pv 1) pa_nil)))
 (pss_cons (ps_set (i := 4) sc_spread.nd rfl (by first | exact Or.inl rfl | exact Or.inr rfl) pe_int)
 (pss_cons (ps_while PassesOwn.never (pt_cmpR op_lt (pv 4) (pe_callB call_len_seq (by rfl) m_len boot_len (pa_cons (pv 3) pa_nil)) (nomark _))
  (pss_cons (ps_set (i := 5) sc_spread.nd rfl (by first | exact Or.inl rfl | exact Or.inr rfl) (pe_ix ix_list (pv 3) (pv 4) (fun _ _ => rfl)))
 (pss_cons (ps_for PassesOwn.never rfl (pi_tup (pe_ix ix_tup (pv 0) (pv 5) (fun _ _ => rfl))) (pg_name (i := 6) sc_spread.nd rfl (by first | exact Or.inl rfl | exact Or.inr rfl))
  (pss_one (ps_if (pw_and (pt_cmpR op_in_seq (pv 6) (pv 2) (by with_unfolding_all rfl)) (pw_and1 (pt_cmpR op_notIn_seq (pv 6) (pv 3) (by with_unfolding_all rfl)))).pt
  (pss_one (ps_expr (pe_bm PySem.F.plainAttrs_list PySem.F.slot_list_append PySem.F.type_list_append mt_append (pv 3) (pa_cons (pv 6) pa_nil))))
  pss_nil)))
 (pss_one (ps_aug (i := 4) sc_spread.nd rfl (by first | exact Or.inl rfl | exact Or.inr rfl) pe_int ip_add)))))
 (pss_one (ps_ret (pv 3)))))), ?_⟩
    refine ⟨_, rfl, by show 1 ≤ sizeLine; decide, fun F0 nF => ?_⟩
    refine ⟨SpInv H nb pa F0 Nb ps c, ⟨Nb.length, [c], 0, none, none, rfl, ?_, upd_same, ?_, List.mem_singleton.mpr rfl, ?_, Nat.zero_le _, ?_, rfl, fun x hx => by rw [List.mem_singleton.mp hx]; exact .base⟩, fun m σ' H' wv => ?_⟩
    · exact fun b o hb e => by rw [upd_ne hb]; exact e
    · exact List.nodup_cons.mpr ⟨List.not_mem_nil, List.nodup_nil⟩
    · intro x hx
      rw [List.mem_singleton] at hx
      rw [hx]
      exact hc
    · exact fun i a hi => absurd hi (Nat.not_lt_zero _)
    · obtain ⟨fd, d, y5, y6, rfl, bt, hF, nd, hcm, lt, hd, cl, hm, so⟩ := wv
      have h1 : fd.length ≤ Nb.length := by
        have z := K7E.nodup_le fd (List.range Nb.length) nd fun x hx => List.mem_range.mpr (lt x hx)
        rw [List.length_range] at z
        exact z
      refine ⟨_, rfl, _, rfl, F0, _, rfl, .inl (.inl (.inl hF)), _, _, rfl, rfl, _, rfl, ite2 (fun c1 => ?_) (fun c1 => ?_)⟩
      · have c1' : d < fd.length := by
          have z : ((d : Nat) : Int) < (((ints_ fd).length : Nat) : Int) := of_decide_eq_true c1
          rw [show (ints_ fd).length = fd.length from List.length_map ..] at z
          omega
        refine ⟨SpInv H nb pa F0 Nb ps c (m - 1), fun σ2 H2 z => ⟨m - 1, by omega, z⟩, ?_⟩
        obtain ⟨a, ea⟩ : ∃ a, fd[d]? = some a := ⟨_, List.getElem?_eq_getElem c1'⟩
        have ma := List.mem_of_getElem? ea
        have la := lt a ma
        obtain ⟨l, el⟩ : ∃ l, Nb[a]? = some l := ⟨_, List.getElem?_eq_getElem la⟩
        have ltsl : a < ts.length := by rw [tN.len]; exact la
        obtain ⟨t, et⟩ : ∃ t, ts[a]? = some t := ⟨_, List.getElem?_eq_getElem ltsl⟩
        obtain ⟨l', el', ht⟩ := tN.get et
        have : l' = l := by rw [el] at el'; injection el' with e; exact e.symm
        subst this
        have sm : Same H H' := fun b o hb => bt b o (ne_of_none hb nF) hb
        refine ⟨_, rfl, _, rfl, F0, _, _, .int (a : Nat), rfl, rfl, .inl (.inl hF), atI_nat (by unfold ints_; rw [List.getElem?_map, ea]; rfl), ?_⟩
        refine ⟨_, rfl, _, rfl, nb, _, _, .ref t, rfl, rfl, .inl (.inl (sm _ _ hnb)), atI_nat (by rw [List.getElem?_map, et]; rfl), t, rfl, ⟨_, .inl (.inl (sm _ _ ht))⟩, for_tup (xs := ints_ l') (fun j σ2 H2 => ∃ (fd2 r : List Nat) (y6 : Option V), σ2 = [some (.ref nb), some (.int (c : Nat)), some (.ref pa), some (.ref F0), some (.int (d : Nat)), some (.int (a : Nat)), y6] ∧ But F0 H H2 ∧ H2 F0 = some (.lst (ints_ fd2)) ∧ fd2.Nodup ∧ fd2 = fd ++ r ∧ (∀ x ∈ fd2, x < Nb.length) ∧ (∀ b ∈ l'.take j, b ∈ ps → b ∈ fd2) ∧ ∀ x ∈ fd2, KL.Rch (nbE Nb) ps c x)
          ⟨fd, [], y6, rfl, bt, hF, nd, (List.append_nil _).symm, lt, fun b hb => (by cases hb), so⟩ (fun j σ2 H2 _ pv => ?_) (fun j x σ2 H2 hx pv => ?_) (fun σ2 H2 pv => ?_)⟩
        · obtain ⟨fd2, r, y6, _, bt2, _⟩ := pv
          exact .inl (.inl (bt2 t _ (ne_of_none ht nF) ht))
        · obtain ⟨fd2, r, y6, rfl, bt2, hF2, nd2, rfl, lt2, cl2, so2⟩ := pv
          have sm2 : Same H H2 := fun b o hb => bt2 b o (ne_of_none hb nF) hb
          unfold ints_ at hx
          rw [List.getElem?_map] at hx
          obtain ⟨b, eb, rfl⟩ := Option.map_eq_some_iff.mp hx
          have hbl := hlt l' (List.mem_of_getElem? el) b (List.mem_of_getElem? eb)
          have tk : l'.take (j + 1) = l'.take j ++ [b] := by rw [List.take_add_one, eb]; rfl
          refine ⟨_, rfl, _, rfl, pa, _, rfl, (hpa.same sm2).sq, rfl, flat_ints ps, _, rfl, ite2 (fun q1 => ?_) (fun q1 => ?_)⟩
          · have q1' : b ∈ ps := of_decide_eq_true ((inV_ints b ps).symm.trans q1)
            refine ⟨_, rfl, _, rfl, F0, _, rfl, .inl (.inl (.inl hF2)), rfl, flat_ints _, _, rfl, ite2 (fun q2 => ?_) (fun q2 => ?_)⟩
            · have q2' : b ∉ fd ++ r := by
                intro hb2
                have z : (!inV (.int (b : Nat)) (ints_ (fd ++ r))) = true := q2
                rw [inV_ints, decide_eq_true hb2] at z
                cases z
              have hl2 : (fd ++ r).length ≤ 5 := by
                have z := K7E.nodup_le (fd ++ r) (List.range Nb.length) nd2 fun x hx => List.mem_range.mpr (lt2 x hx)
                rw [List.length_range] at z
                omega
              refine ⟨_, rfl, .inl ⟨rfl, _, .inl (.inl hF2)⟩, _, rfl, F0, _, _, rfl, rfl, hF2, by unfold ints_; rw [List.length_map]; exact small1000 (by omega), ?_⟩
              refine ⟨(fd ++ r) ++ [b], r ++ [b], some (.int (b : Nat)), rfl, fun b' o hb' e => by rw [upd_ne hb']; exact bt2 b' o hb' e, by rw [upd_same]; exact congrArg (fun z => some (HO.lst z)) (List.map_append (f := fun c : Nat => V.int (c : Nat)) (l₁ := fd ++ r) (l₂ := [b])).symm, ?_, List.append_assoc .., fun x hx => ?_, fun x hx hp => ?_, fun x hx => ?_⟩
              · exact List.nodup_append.mpr ⟨nd2, List.nodup_cons.mpr ⟨List.not_mem_nil, List.nodup_nil⟩, fun a' ha' b' hb' e => by rw [List.mem_singleton] at hb'; exact q2' (by rw [← hb', ← e]; exact ha')⟩
              · rcases List.mem_append.mp hx with hx | hx
                · exact lt2 x hx
                · rw [List.mem_singleton] at hx
                  rw [hx]
                  exact hbl
              · rw [tk] at hx
                rcases List.mem_append.mp hx with hx | hx
                · exact List.mem_append_left _ (cl2 x hx hp)
                · exact List.mem_append_right _ hx
              · rcases List.mem_append.mp hx with hx | hx
                · exact so2 x hx
                · rw [List.mem_singleton.mp hx]
                  exact .step (so a ma) ⟨_, el, List.mem_of_getElem? eb⟩ q1'
            · have q2' : b ∈ fd ++ r := by
                refine Classical.byContradiction fun hn => q2 ?_
                show (!inV (.int (b : Nat)) (ints_ (fd ++ r))) = true
                rw [inV_ints, decide_eq_false hn]
                rfl
              refine ⟨fd ++ r, r, some (.int (b : Nat)), rfl, bt2, hF2, nd2, rfl, lt2, fun x hx hp => ?_, so2⟩
              rw [tk] at hx
              rcases List.mem_append.mp hx with hx | hx
              · exact cl2 x hx hp
              · rw [List.mem_singleton] at hx
                rw [hx]
                exact q2'
          · have q1' : b ∉ ps := fun hb => q1 ((inV_ints b ps).trans (decide_eq_true hb))
            refine iteF ?_
            refine ⟨fd ++ r, r, some (.int (b : Nat)), rfl, bt2, hF2, nd2, rfl, lt2, fun x hx hp => ?_, so2⟩
            rw [tk] at hx
            rcases List.mem_append.mp hx with hx | hx
            · exact cl2 x hx hp
            · rw [List.mem_singleton] at hx
              rw [hx] at hp
              exact absurd hp q1'
        · obtain ⟨fd2, r, y6, rfl, bt2, hF2, nd2, rfl, lt2, cl2, so2⟩ := pv
          rw [show (ints_ l').length = l'.length from List.length_map .., List.take_length] at cl2
          refine ⟨_, rfl, _, _, rfl, rfl, ?_⟩
          refine ⟨fd ++ r, d + 1, some (.int (a : Nat)), y6, rfl, bt2, hF2, nd2, List.mem_append_left _ hcm, lt2, by rw [List.length_append]; omega, fun i a' hi ea' l2 el2 b hb hp => ?_, by omega, so2⟩
          rw [List.getElem?_append_left (by omega)] at ea'
          rcases Nat.lt_or_ge i d with hid | hid
          · exact List.mem_append_left _ (cl i a' hid ea' l2 el2 b hb hp)
          · have : i = d := by omega
            subst this
            rw [ea] at ea'
            injection ea' with e3
            subst e3
            rw [el] at el2
            injection el2 with e4
            subst e4
            exact cl2 b hb hp
      · have c1' : ¬ d < fd.length := fun z => c1 (decide_eq_true (by rw [show (ints_ fd).length = fd.length from List.length_map ..]; omega))
        refine ⟨_, rfl, q H' F0 fd (fun b o hb => bt b o (ne_of_none hb nF) hb) nF hF ⟨nd, hcm, lt, fun a ha l hl b hb hp => ?_, so⟩⟩
        obtain ⟨i, hi, e⟩ := List.getElem_of_mem ha
        exact cl i a (by omega) (by rw [List.getElem?_eq_getElem hi, e]) l hl b hb hp
end
end K7
end
/-! ## P8 -/
section
open PySem PySem.Spec PyProof.Rows L2
namespace K7
abbrev N_nearby_cells : List Str := ["cells", "couples", "b", "a"]
abbrev s_nearby_cells : Stmt := topS 16
theorem sc_nearby_cells : FnScope ["cells", "couples", "b", "a"] ["cells", "couples"] (defScope s_nearby_cells) := ⟨rfl, rfl, rfl, by decide +kernel, rfl, by decide +kernel, by decide +kernel⟩
abbrev scA : Scope := { kind := ScopeKind.function, names := [(".0", NameKind.local), ("a", NameKind.cell), ("tuple", NameKind.globalImplicit), ("range", NameKind.globalImplicit), ("cells", NameKind.cell), ("couples", NameKind.cell)], isGenerator := false, isCoroutine := false }
def rTup_ (K : PySem.W.Frag) : List V → Hp → VK → Prop := fun xs H Q => ∃ p ys, xs = [V.ref p] ∧ ((SqL K H p ys ∧ ∀ l, H l = none → Q (.ref l) (upd H l (.tup ys))) ∨ SqT K H p ys ∧ Q (.ref p) H)
section
variable {P : Program} {w : World} {K : PySem.W.Frag} {mg : Str → Option Value} {base : Heap}
/-- the neighbours of each cell -/
def nearV (n : Nat) (es : List (Nat × Nat)) : List (List Nat) := (List.range n).map fun a => (List.range n).filter fun b => decide ((a, b) ∈ es) || decide ((b, a) ∈ es)
theorem ints_snoc (l : List Nat) (j : Nat) : ints_ (l ++ [j]) = ints_ l ++ [.int (j : Nat)] := by
  unfold ints_
  rw [List.map_append]
  rfl
theorem range_filter (p : Nat → Bool) (j : Nat) : (List.range (j + 1)).filter p = (List.range j).filter p ++ (if p j = true then [j] else []) := by
  rw [List.range_succ, List.filter_append, List.filter_cons]
  rfl
theorem dp_two {H : Hp} (k j : Nat) : DpAll K H [.int (0 + (k : Nat)), .int (0 + (j : Nat))] [.int (k : Nat), .int (j : Nat)] := by
  rw [Int.zero_add, Int.zero_add]
  exact .cons (.int _) (.cons (.int _) .nil)
def spNear : Sp := fun vs H Q _ => ∃ (n : Nat) (ca : Addr) (ts : List Addr) (es : List (Nat × Nat)), vs = [.int n, .ref ca] ∧ n ≤ 5 ∧ H ca = some (.lst (ts.map V.ref)) ∧ TAt H ts (pairs es) ∧ es.length ≤ 32 ∧
  ∀ H' q us, Same H H' → H q = none → H' q = some (.tup (us.map V.ref)) → TAt H' us (nearV n es) → Q (.ref q) H'
theorem ok_near {f : Addr} {fd : FuncData} (F : Fun K "nearby_cells" "nearby_cells" s_nearby_cells f fd) (m_range : mg "range" = none) (m_tuple : mg "tuple" = none) : FnOk P w K mg base CX0 1 f fd ["cells", "couples"] spNear := by
  refine F.ok sc_nearby_cells (fun vs H Q E h => ?_) (fun cdv A outer s H vs Q E hr h => ?_)
  · obtain ⟨n, ca, ts, es, rfl, _⟩ := h
    rfl
  · obtain ⟨n, ca, ts, es, rfl, hn, hca, tE, h32, q⟩ := h
    refine ⟨_, (pss_one (ps_ret (pe_callTy call_tuple_of (by rfl) m_tuple boot_tuple (pa_cons (pe_lc (own := [("a", 3)]) (g := gName 3) (tt := tYes) rfl sc_nearby_cells.nd (pi_range1 rfl m_range (pa_cons (pv 0) pa_nil)) (blkOk_by (own := [("a", 3)]) (N := N_nearby_cells) (sc := defScope s_nearby_cells) (by decide +kernel)) (fun _ _ _ _ _ => (pg_name (i := 3) sc_nearby_cells.nd rfl (by first | exact Or.inl rfl | exact Or.inr rfl))) (fun _ _ _ _ _ => pts_nil) (fun _ _ _ _ _ => (pe_callTy (show CallR _ (.type "tuple") (rTup_ K) from call_tuple_of) (by rfl) m_tuple boot_tuple (pa_cons (pe_lc (own := [("b", 2)]) (g := gName 2) rfl sc_nearby_cells.nd (pi_range1 rfl m_range (pa_cons (pv 0) pa_nil)) (blkOk_by (own := [("b", 2)]) (N := N_nearby_cells) (sc := scA) (by decide +kernel)) (fun _ _ _ _ _ => (pg_name (i := 2) sc_nearby_cells.nd rfl (by first | exact Or.inl rfl | exact Or.inr rfl))) (fun _ _ _ _ _ => (pts_one (PW.pt (pw_or (pt_cmpR (show OpR _ _ (rInD K) from op_inD (K7L.hu65 hr)) (pe_tup (pa_cons (pv 3) (pa_cons (pv 2) pa_nil))) (pv 1) (by with_unfolding_all rfl)) (pw_or1 (pt_cmpR (show OpR _ _ (rInD K) from op_inD (K7L.hu65 hr)) (pe_tup (pa_cons (pv 2) (pa_cons (pv 3) pa_nil))) (pv 1) (by with_unfolding_all rfl))))))) (fun _ _ _ _ _ => (pv 2))) pa_nil)))) pa_nil)))), ?_⟩
    refine ⟨_, rfl, _, rfl, by omega, by omega, fun D hD => lc_range (lo := 0) (n := n) (fun i H1 => Same H H1 ∧ ∃ us : List Addr, H1 D = some (.lst (us.map V.ref)) ∧ TAt H1 us ((nearV n es).take i) ∧ us.length ≤ i) ⟨same_new (Same.refl H) hD, [], upd_same, .nil, Nat.le_refl _⟩ (fun i H1 hi pv => ?_) (fun H1 pv => ?_)⟩
    · obtain ⟨e1, us, hD1, tU, lu⟩ := pv
      refine ⟨rfl, _, rfl, _, rfl, by omega, by omega, fun D2 hD2 => lc_range (lo := 0) (n := n) (fun j H2 => Same H1 H2 ∧ H2 D2 = some (.lst (ints_ ((List.range j).filter fun b => decide ((i, b) ∈ es) || decide ((b, i) ∈ es))))) ⟨same_new (Same.refl H1) hD2, upd_same⟩ (fun j H2 hj pv => ?_) (fun H2 pv => ?_)⟩
      · obtain ⟨e2, h2⟩ := pv
        have eA := e1.trans e2
        refine ⟨rfl, _, rfl, _, rfl, by show 2 ≤ sizeLine; decide, fun t nt => ?_⟩
        have s3 := same_new (o := .tup [.int (0 + (i : Nat)), .int (0 + (j : Nat))]) (Same.refl H2) nt
        refine ⟨_, rfl, intD [i, j], _, .tup (xs := [.int (0 + (i : Nat)), .int (0 + (j : Nat))]) (.inl (.inl upd_same)) (dp_two i j), .lst (.inl (.inl (s3 _ _ (eA _ _ hca)))) (dp_rows (tE.same (eA.trans s3))), shaped_ints _, shaped_rows _, ?_⟩
        rw [any_rows]
        have e2b := e2
        refine ⟨_, rfl, ite2 (fun q1 => ?_) (fun q1 => ?_)⟩
        · have g : ∀ {b : Addr} {o : HO}, H2 b = some o → upd H2 t (.tup [.int (0 + (i : Nat)), .int (0 + (j : Nat))]) b = some o := fun hb => s3 _ _ hb
          refine ⟨_, rfl, _, g h2, by unfold ints_; rw [List.length_map]; exact small1000 (Nat.le_trans (List.length_filter_le _ _) (by rw [List.length_range]; omega)), fun b o hb => ?_, ?_⟩
          · rw [upd_ne (ne_of_none hb hD2)]
            exact g (e2 _ _ hb)
          · rw [upd_same, range_filter, if_pos (by rw [q1]; rfl), Int.zero_add]
            rw [ints_snoc]
        · refine ⟨_, rfl, _, rfl, by show 2 ≤ sizeLine; decide, fun t2 nt2 => ?_⟩
          have s4 := same_new (o := .tup [.int (0 + (j : Nat)), .int (0 + (i : Nat))]) s3 nt2
          refine ⟨_, rfl, intD [j, i], _, .tup (xs := [.int (0 + (j : Nat)), .int (0 + (i : Nat))]) (.inl (.inl upd_same)) (dp_two j i), .lst (.inl (.inl (s4 _ _ (eA _ _ hca)))) (dp_rows (tE.same (eA.trans s4))), shaped_ints _, shaped_rows _, ?_⟩
          rw [any_rows]
          refine ⟨_, rfl, ite2 (fun q2 => ?_) (fun q2 => ?_)⟩
          · refine ⟨_, rfl, _, s4 _ _ h2, by unfold ints_; rw [List.length_map]; exact small1000 (Nat.le_trans (List.length_filter_le _ _) (by rw [List.length_range]; omega)), fun b o hb => ?_, ?_⟩
            · rw [upd_ne (ne_of_none hb hD2)]
              exact s4 _ _ (e2 _ _ hb)
            · rw [upd_same, range_filter, if_pos (by rw [q2, Bool.or_true]), Int.zero_add]
              rw [ints_snoc]
          · refine ⟨e2.trans s4, ?_⟩
            rw [range_filter, if_neg (by rw [Bool.eq_false_iff.mpr q1, Bool.eq_false_iff.mpr q2]; decide), List.append_nil]
            exact s4 _ _ h2
      · obtain ⟨e2, h2⟩ := pv
        have eA := e1.trans e2
        refine ⟨D2, _, rfl, .inl ⟨.inl (.inl h2), fun l nl => ?_⟩⟩
        have s4 := same_new (o := .tup (ints_ ((List.range n).filter fun b => decide ((i, b) ∈ es) || decide ((b, i) ∈ es)))) (Same.refl H2) nl
        have hD4 := s4 _ _ (e2 _ _ hD1)
        have tk : (nearV n es).take (i + 1) = (nearV n es).take i ++ [(List.range n).filter fun b => decide ((i, b) ∈ es) || decide ((b, i) ∈ es)] := by
          rw [List.take_add_one]
          congr 1
          unfold nearV
          rw [List.getElem?_map, List.getElem?_range hi]
          rfl
        have up : ∀ b xs, upd H2 l (.tup (ints_ ((List.range n).filter fun b => decide ((i, b) ∈ es) || decide ((b, i) ∈ es)))) b = some (.tup xs) → upd (upd H2 l (.tup (ints_ ((List.range n).filter fun b => decide ((i, b) ∈ es) || decide ((b, i) ∈ es))))) D (.lst (us.map V.ref ++ [.ref l])) b = some (.tup xs) := fun b xs hb => by
          rw [upd_ne (fun z => by rw [z, hD4] at hb; cases hb)]
          exact hb
        refine ⟨_, hD4, by rw [List.length_map]; exact small1000 (by omega), fun b o hb => ?_, us ++ [l], by rw [upd_same, List.map_append]; rfl, ?_, by rw [List.length_append, List.length_singleton]; omega⟩
        · rw [upd_ne (ne_of_none hb hD)]
          exact s4 _ _ (eA _ _ hb)
        · rw [tk]
          exact ((tU.same (e2.trans s4)).mono up).append (.cons (up _ _ upd_same) .nil)
    · obtain ⟨e1, us, hD1, tU, lu⟩ := pv
      rw [List.take_of_length_le (by unfold nearV; rw [List.length_map, List.length_range]; exact Nat.le_refl _)] at tU
      refine ⟨D, _, rfl, .inl ⟨.inl (.inl hD1), fun l nl => ?_⟩⟩
      have s3 := same_new (o := .tup (us.map V.ref)) e1 nl
      refine q _ l us s3 (e1.free nl) upd_same (tU.same (same_new (Same.refl H1) nl))
end
end K7
end
/-! ## P9 -/
section
open PySem PySem.Spec PyProof.Rows L2
namespace K7
abbrev N_hang_together : List Str := ["cells", "couples"]
abbrev s_hang_together : Stmt := topS 17
theorem sc_hang_together : FnScope ["cells", "couples"] ["cells", "couples"] (defScope s_hang_together) := ⟨rfl, rfl, rfl, by decide +kernel, rfl, by decide +kernel, by decide +kernel⟩
section
variable {P : Program} {w : World} {K : PySem.W.Frag} {mg : Str → Option Value} {base : Heap}
def spHang : Sp := fun vs H Q _ => ∃ (n : Nat) (ca : Addr) (ts : List Addr) (es : List (Nat × Nat)), vs = [.int n, .ref ca] ∧ 0 < n ∧ n ≤ 5 ∧ H ca = some (.lst (ts.map V.ref)) ∧ TAt H ts (pairs es) ∧ es.length ≤ 32 ∧
  (∀ e ∈ es, e.1 < n ∧ e.2 < n) ∧ KL.Conn n es ∧ ∀ H', Same H H' → Q (.bl true) H'
theorem ok_hang {f fN fS : Addr} {fd fdN fdS : FuncData} (F : Fun K "hang_together" "hang_together" s_hang_together f fd)
    (Gnc : FnOk P w K mg base CX0 1 fN fdN ["cells", "couples"] spNear) (gnc : mg "nearby_cells" = some (.ref fN)) (knc : PySem.W.keepIn K (.ref fN) = true) (bnc : Binds K fdN ["cells", "couples"] [])
    (Gsp : FnOk P w K mg base CX0 1 fS fdS ["nearby", "cell", "passing"] spSpread) (gsp : mg "spread" = some (.ref fS)) (ksp : PySem.W.keepIn K (.ref fS) = true) (bsp : Binds K fdS ["nearby", "cell", "passing"] [])
    (m_len : mg "len" = none) (m_list : mg "list" = none) (m_range : mg "range" = none) : FnOk P w K mg base CX0 2 f fd ["cells", "couples"] spHang := by
  refine F.ok sc_hang_together (fun vs H Q E h => ?_) (fun cdv A outer s H vs Q E hr h => ?_)
  · obtain ⟨n, ca, ts, es, rfl, _⟩ := h
    rfl
  · obtain ⟨n, ca, ts, es, rfl, n0, hn, hca, tE, h32, elt, cn, q⟩ := h
    refine ⟨_, (pss_one (ps_ret (pe_cmpR op_eq (pe_callB call_len_seq (by rfl) m_len boot_len (pa_cons (pe_call Gsp (hr.mono (by decide)) (by rfl) gsp ksp bsp .nil pass0 (pa_cons (pe_call Gnc (hr.mono (by decide)) (by rfl) gnc knc bnc .nil pass0 (pa_cons (pv 0) (pa_cons (pv 1) pa_nil))) (pa_cons pe_int (pa_cons (pe_callTy (K7E.cr_list_rng rfl) (by rfl) m_list boot_list (pa_cons (pe_callTy K7E.cr_range1 (by rfl) m_range boot_range (pa_cons (pv 0) pa_nil)) pa_nil)) pa_nil)))) pa_nil)) (pv 0) (nomark _)))), ?_⟩
    refine ⟨_, rfl, _, rfl, n, ca, ts, es, rfl, hn, hca, tE, h32, fun H1 nb us e1 nf1 hnb tU => ?_⟩
    refine ⟨_, rfl, n, rfl, fun p1 np1 => ?_⟩
    refine ⟨p1, n, rfl, upd_same, by omega, fun p2 np2 => ?_⟩
    have s1 := same_new (o := .rng 0 n) (Same.refl H1) np1
    have s2 := same_new (o := .lst (K7E.upTo n)) s1 np2
    have hps : upd (upd H1 p1 (.rng 0 n)) p2 (.lst (K7E.upTo n)) p2 = some (.lst (ints_ (List.range n))) := upd_same
    generalize upd (upd H1 p1 (.rng 0 n)) p2 (.lst (K7E.upTo n)) = H2 at s2 hps ⊢
    have ln : (nearV n es).length = n := by unfold nearV; rw [List.length_map, List.length_range]
    have hget : ∀ a, a < n → (nearV n es)[a]? = some ((List.range n).filter fun b => decide ((a, b) ∈ es) || decide ((b, a) ∈ es)) := fun a ha => by
      unfold nearV
      rw [List.getElem?_map, List.getElem?_range ha]
      rfl
    refine ⟨nb, us, nearV n es, 0, p2, List.range n, rfl, s2 _ _ hnb, tU.same s2, .inr hps, by rw [ln]; exact hn, by rw [ln]; exact n0, fun l hl x hx => ?_, fun H3 qa fd e3 nq hq fo => ?_⟩
    · rw [ln]
      unfold nearV at hl
      obtain ⟨a, _, rfl⟩ := List.mem_map.mp hl
      exact List.mem_range.mp (List.mem_filter.mp hx).1
    · have hlt : ∀ x ∈ fd, x < n := fun x hx => by have z := fo.lt x hx; rw [ln] at z; exact z
      have all := KL.conn_closed cn fo.me fun a b hab ha => by
        have hb : b < n := by
          rcases hab with z | z
          · exact (elt _ z).2
          · exact (elt _ z).1
        refine fo.cl a ha _ (hget a (hlt a ha)) b (List.mem_filter.mpr ⟨List.mem_range.mpr hb, ?_⟩) (List.mem_range.mpr hb)
        rcases hab with z | z
        · rw [decide_eq_true z]; rfl
        · rw [decide_eq_true z, Bool.or_true]
      have len := KL.all_len fo.nd hlt all
      refine ⟨qa, _, rfl, .inl (.inl (.inl hq)), _, rfl, rfl, ?_⟩
      have lq : (ints_ fd).length = n := by unfold ints_; rw [List.length_map]; exact len
      rw [lq, decide_eq_true rfl]
      exact q H3 (e1.trans (s2.trans e3))
end
end K7
end
/-! ## ES -/
section
/-! A set comprehension of tuples of ints, and how many there are in such a set. -/
namespace K7S
open PySem PySem.Spec PyProof.Rows L2
abbrev eS (w : World) : Obj := { cls := .type "set", dict := none, data := .set #[] 0 (.fresh 0 0 (!w.params.followText "set-order")) }
abbrev eD : Obj := { cls := .type "dict", data := .dict #[] }
section
variable {X : Cx}
/-- one more tuple -/
theorem addT_ok {pins : List (Addr × Obj)} {τ : L2.St} {H : Hp} {s : Shared} {E : Value → Shared → Prop} {D t : Addr} {L : List (Addr × List Int)} {k : List Int} {Q : Value → Shared → Prop} (I : Inv X pins τ H s) (hD : H D = some (SetTO X.prog X.w D L)) (ht : ∀ p ∈ L, SqT X.K H p.1 (p.2.map V.int)) (hy : SqT X.K H t (k.map V.int)) (hf : L.length + 1 < 64) (hu : X.A.units + 1 < cLine)
    (h : ∀ s' L', (k ∈ L.map (·.2) → L' = L) → (k ∉ L.map (·.2) → L'.Perm ((t, k) :: L)) → Inv X pins τ (upd H D (SetTO X.prog X.w D L')) s' → Q .none s') : wpAny (model X.prog X.w) X.A (call (.builtin "set.add") [.ref D, .ref t]) Q E s := by
  obtain ⟨es, ep, tb, R⟩ := SetT0.full (I.hok D _ hD).1 fun p hp => I.isT (ht p hp)
  obtain ⟨o, ho, hex, hd⟩ := id R.ob
  have hT : s.TypeIs (.ref D) "set" := ⟨o, ho, hex.1⟩
  refine wpAny_call_entry F.slot_set_add hT F.entry_set_add ?_ (F.args_set_add_2 _ _)
  unfold Builtin.«set.add» Builtin.Frozenset.oneOther
  simp only [List.isEmpty_nil, bind_assoc]
  unfold Builtin.Frozenset.addrOf setAdd
  refine wpAny_bind (wpAny_pure ?_)
  try dsimp only
  refine wpAny_bind (wpAny_pure ?_)
  try dsimp only
  refine wpAny_bind (wpAny_holding (wpAny_bind (wpAny_pyHash_tuple (show X.A.units + 1 < cLine from hu) (I.isT hy) ?_)))
  refine add_at (s := { s with toks := s.toks + (k.length + 1) }) R (I.isT hy) (show X.A.units + 1 < cLine from hu) hf fun b h' L' es' ep' tb' sb R' c1 c2 => ?_
  show wpAny _ _ (ret Value.none) _ _ _
  obtain ⟨o', ho', _⟩ := id R'.ob
  exact wpAny_pure ⟨_, rfl, h _ L' c1 c2 (I.write (e := D) (t' := s.toks + (k.length + 1)) (by rw [hD]; trivial) (.inl rfl) (fun b u hb hu => (sb.2 b hb).trans hu) ⟨o', ho'⟩ (setTO_new R'.t0))⟩
/-- how many -/
theorem call_lenT : CallR X (.builtin "len") (fun xs H Q => ∃ a L, xs = [V.ref a] ∧ H a = some (SetTO X.prog X.w a L) ∧ (∀ p ∈ L, SqT X.K H p.1 (p.2.map V.int)) ∧ Q (.int (L.length : Nat)) H) := by
  intro pins s τ H xs us Q I r h
  obtain ⟨a, L, rfl, ha, ht, q⟩ := h
  rw [Vals.ref1 r]
  obtain ⟨es, ep, tb, R⟩ := SetT0.full (I.hok a _ ha).1 fun p hp => I.isT (ht p hp)
  obtain ⟨o, ho, hex, hd⟩ := id R.ob
  have n1 := R.size
  have n2 := R.few
  exact call_len_set ho hex hd R.fits (by omega) ⟨.int (L.length : Nat), H, I.tok _, ⟨_, by rw [n1]⟩, q⟩
/-- {elt for target in iter}, elt a tuple of ints: D the new set -/
def tSt (P : Program) (w : World) (K : PySem.W.Frag) (wi : TI) (g : TG) (te : TE) (vs : List Nat) : TE := fun τ H Q => wi τ H fun J H1 => ∀ D, H1 D = none → ∃ W : Nat → Nat → Hp → Prop, (∃ m, W 0 m (upd H1 D (SetTO P w D []))) ∧ ∀ i m H, W i m H →
  (J.stop i H ∧ Q (.ref D) H) ∨ (J.go i H ∧ ∃ Nx : Hp → Prop, (∀ H', Nx H' → ∃ m', m' < m ∧ W (i + 1) m' H') ∧ ∀ x H', J.yld i H x H' → g x (wipe τ vs) H' fun τ2 H3 => wipe τ2 vs = wipe τ vs ∧
    te τ2 H3 fun y H4 => ∃ (t : Addr) (k : List Int) (L : List (Addr × List Int)), y = .ref t ∧ SqT K H4 t (k.map V.int) ∧ H4 D = some (SetTO P w D L) ∧ (∀ p ∈ L, SqT K H4 p.1 (p.2.map V.int)) ∧ L.length + 1 < 64 ∧
      ∀ L', (k ∈ L.map (·.2) → L' = L) → (k ∉ L.map (·.2) → L'.Perm ((t, k) :: L)) → Nx (upd H4 D (SetTO P w D L')))
theorem fresh0 (P : Program) (w : World) (h : Heap) : SetT0 P w (h.push (eS w)) h.objs.size [] := (setTR_fresh (P := P) (w := w) (h := h.push (eS w)) (a := h.objs.size) (Heap.get?_push_size _ rfl)).t0
/-- as a value -/
theorem pe_st {elt tg iter : Expr} {scope : Scope} {own : List (PySem.Str × Nat)} {pos : Pos} {wi : TI} {g : TG} {te : TE} (hc : X.calm = true) (hu : X.A.units + 1 < cLine) (hN : X.N.Nodup) (hi : PI X tg iter wi) (ok : BlkOk X.N X.env.scope scope own)
    (hg : ∀ (s : Shared) (H : Hp) (C : Addr) (cl : List (PySem.Str × Addr)) (fp : List Addr), PG (X.blk s H scope (compEnvC scope cl C X.env) fp) tg g) (he : ∀ (s : Shared) (H : Hp) (C : Addr) (cl : List (PySem.Str × Addr)) (fp : List Addr), PE (X.blk s H scope (compEnvC scope cl C X.env) fp) elt te)
    (hs : ∀ x, foldedSetIterable iter X.env x = pure x := by intro _; rfl) : PE X (.SetComp elt [⟨tg, iter, [], 0⟩] scope pos) (tSt X.prog X.w X.K wi g te (own.map (·.2))) := by
  refine ⟨fun pins s τ H Q I h => ?_⟩
  rw [PpSet.eval_SetComp]
  have hfree : ∀ z ∈ scope.names, z.2 = .free → ∃ c, X.env.cells.lookup z.1 = some c := fun z hz e => (ok.free z hz e).elim (fun k => I.ok.has _ (.inl k)) fun k => I.ok.has _ (.inr k)
  refine wpAny_comprehension_free (use := none) rfl hs (closure_ok hfree) ok.kind (fun z hz e => by rw [ok.uniq z hz, e]) (thn (hi.run pins s τ H _ I h) fun xv s1 hx => thn hx fun itv s2 z2 => ?_)
  obtain ⟨it, fp, tn, J, H2, rfl, I2, T, st2, f2, q⟩ := z2
  refine PpSet.newSet_ok (newEnv_comp ?_)
  show codeAny _ _ (.compStart (.SetComp elt [⟨tg, iter, [], 0⟩] scope pos) 0 (.ref it) (.ref s2.heap.objs.size) (compEnvC scope (cellsFrom ((s2.heap.push (eS X.w)).objs.size + 1) scope.names (cloFrom X.env.cells scope.names [])) (s2.heap.push (eS X.w)).objs.size X.env)) _ { s2 with heap := pushCells ((s2.heap.push (eS X.w)).push eD) scope.names }
  have nD : H2 s2.heap.objs.size = none := I2.hok.fresh (Nat.le_refl _)
  have IS : Inv X pins τ (upd H2 s2.heap.objs.size (SetTO X.prog X.w s2.heap.objs.size [])) { s2 with heap := s2.heap.push (eS X.w) } := I2.laid (t' := s2.toks) (fun b o e => Heap.get?_push_of_some _ e) (Nat.le_refl _) (setTO_new (fresh0 _ _ _))
  have stS : tn 0 (s2.heap.push (eS X.w)) := T.keep _ _ _ st2 fun b _ o e => Heap.get?_push_of_some _ e
  have fS : ∀ b ∈ fp, FpOk X pins (upd H2 s2.heap.objs.size (SetTO X.prog X.w s2.heap.objs.size [])) b ∧ b < (s2.heap.push (eS X.w)).objs.size := fun b hb => by
    obtain ⟨o, e, _⟩ := T.obj _ _ st2 b hb
    have l1 := Heap.lt_size e
    exact ⟨⟨by rw [upd_ne (Nat.ne_of_lt l1)]; exact (f2 b hb).1, (f2 b hb).2⟩, by rw [Heap.size_push]; exact Nat.lt_succ_of_lt l1⟩
  obtain ⟨W, ⟨m0, w0⟩, turn⟩ := q _ nD
  have IB := block_start IS ok hN fS
  have stB : tn 0 (pushCells ((s2.heap.push (eS X.w)).push eD) scope.names) := T.keep _ _ _ stS fun b _ o e => pushCells_keeps _ _ _ _ (Heap.get?_push_of_some _ e)
  generalize s2.heap.objs.size = D at *
  generalize upd H2 D (SetTO X.prog X.w D []) = HS at IS IB w0 fS
  generalize eS3 : ({ s2 with heap := s2.heap.push (eS X.w) } : Shared) = s3 at IS IB
  have e3 : s2.heap.push (eS X.w) = s3.heap := by rw [← eS3]
  rw [e3] at fS stS stB ⊢
  have e4 : ({ s2 with heap := pushCells (s3.heap.push eD) scope.names } : Shared) = { s3 with heap := pushCells (s3.heap.push eD) scope.names } := by rw [← eS3]
  rw [e4]
  have pg := hg s3 HS s3.heap.objs.size (cellsFrom (s3.heap.objs.size + 1) scope.names (cloFrom X.env.cells scope.names [])) fp
  have pe := he s3 HS s3.heap.objs.size (cellsFrom (s3.heap.objs.size + 1) scope.names (cloFrom X.env.cells scope.names [])) fp
  generalize hce : compEnvC scope (cellsFrom (s3.heap.objs.size + 1) scope.names (cloFrom X.env.cells scope.names [])) s3.heap.objs.size X.env = ce at IB pg pe ⊢
  have cL : ce.locals = s3.heap.objs.size := by rw [← hce]; rfl
  generalize hs4 : ({ s3 with heap := pushCells (s3.heap.push eD) scope.names } : Shared) = s4 at IB ⊢
  have st4 : tn 0 s4.heap := by rw [← hs4]; exact stB
  have nf : ∀ b ∈ fp, HS b = none := fun b hb => (fS b hb).1.1
  have stat : ∀ {τ' : L2.St} {H' : Hp} {s' : Shared}, Inv (X.blk s3 HS scope ce fp) [] τ' H' s' → (∀ b ∈ fp, H' b = none) → ∀ b ∈ fp, FpOk (X.blk s3 HS scope ce fp) [] H' b := fun {τ' H' s'} I' hn b hb =>
    ⟨hn b hb, (I'.ok.exf b hb).1, I'.ok.exfs b hb, .inl hb, fun x c e => (I'.ok.exf b hb).2 x c e, fun p hp => absurd (show p ∈ ([] : List (Addr × Obj)) ++ [] from hp) (by simp)⟩
  suffices loop : codeAny (model X.prog X.w) X.A (.compLoop (.SetComp elt [⟨tg, iter, [], 0⟩] scope pos) 0 (.ref it) (.ref D) ce) (compPost (model X.prog X.w) X.A X.xe none (EP X pins τ Q) (.ref D) s3.heap.objs.size) s4 from PpSet.codeAny_compStart_set loop (T.self X.A 0 _ _ _ st4 loop)
  refine PpSet.compLoopS_any (fun n s' => ∃ i H', Inv (X.blk s3 HS scope ce fp) [] (wipe τ (own.map (·.2))) H' s' ∧ tn i s'.heap ∧ (∀ b ∈ fp, H' b = none) ∧ W i n H') (fun n s5 z5 => ?_) m0 ⟨0, HS, IB, st4, nf, w0⟩
  obtain ⟨i, H5, I5, st5, n5, w5⟩ := z5
  rcases turn i n H5 w5 with ⟨stop, qq⟩ | ⟨go, Nx, hNx, step⟩
  · refine thnF (T.done (X.blk s3 HS scope ce fp) rfl rfl rfl hc i [] s5 _ H5 (fun _ _ => False) I5 (stat I5 n5) st5 stop) fun r s6 ⟨hr, I6⟩ => ?_
    subst hr
    have I7 : Inv X pins τ H5 s6 := IS.call' (ch := fp) I6.os I6.base I6.hok I6.bare fun b hb => ⟨(fS b hb).1.2.2.2.1, (fS b hb).1.2.1, (fS b hb).1.2.2.2.2.1, (fS b hb).1.2.2.2.2.2⟩
    have nC : H5 s3.heap.objs.size = none := by rw [← cL]; exact I6.free
    obtain ⟨m, hn, _⟩ := I6.loc
    have hn : s6.heap.Ns s3.heap.objs.size m := by rw [← cL]; exact hn
    obtain ⟨f0, f1, f2', f3, f4, f5⟩ := IS.fpOk (Nat.le_refl _) nC
    exact ⟨m, hn, fun h'' sb => ⟨.ref D, H5, I7.turned (t' := s6.toks) (fun b o hb e => (sb.2 b hb).trans e) f0 f1 f3 f4 f5, rfl, qq⟩⟩
  · refine thnF (T.item (X.blk s3 HS scope ce fp) rfl rfl rfl hc i [] s5 _ H5 (fun _ _ => False) I5 (stat I5 n5) st5 go) fun r s6 ⟨u, hr, h6⟩ => ?_
    subst hr
    refine thnF h6 fun _ s7 ⟨x, H7, I7, r7, y7, st7, n7⟩ => ?_
    refine thnF (pg.run _ s7 _ H7 x u _ (I7.pinned (stat I7 n7) (T.obj _ _ st7)) r7 (step x H7 y7)) fun _ s8 ⟨τ8, H8, I8, hw8, q8⟩ => ?_
    refine wpAny_tests_nil ?_
    rw [if_pos rfl]
    refine thnF (pe.run _ s8 τ8 H8 _ I8 q8) fun z s10 ⟨yv, H10, I10, r10, t, k, L, ey, hy, hD10, hL, hlt, nx⟩ => ?_
    subst ey
    cases (show z = Value.ref t from r10)
    refine addT_ok (X := X.blk s3 HS scope ce fp) I10 hD10 hL hy hlt hu fun s11 L' c1 c2 I11 => ?_
    obtain ⟨m', hm, w'⟩ := hNx _ (nx L' c1 c2)
    have pin' : ∀ b ∈ fp, ∀ o, s7.heap.get? b = some o → s11.heap.get? b = some o ∧ (upd H10 D (SetTO X.prog X.w D L')) b = none := fun b hb o e =>
      let z := I11.pin (b, o) (List.mem_append_right _ (List.mem_append_right _ (mem_pinsAt hb e)))
      ⟨z.1, z.2.1⟩
    refine ⟨m', hm, i + 1, _, (I11.unpinned (pins := [])).weak (by rw [← hw8, wipe_length]) (fun j v e => (wipe_some (by rw [hw8]; exact e)).1), T.keep _ _ _ st7 fun b hb o e => (pin' b hb o e).1, fun b hb => ?_, w'⟩
    obtain ⟨o, e, _⟩ := T.obj _ _ st7 b hb
    exact (pin' b hb o e).2
/-- over a list that the block leaves as it is -/
theorem st_list {P : Program} {w : World} {K : PySem.W.Frag} {a : Addr} {xs : List V} {g : TG} {te : TE} {vs : List Nat} {τ : L2.St} {H1 : Hp} {D : Addr} {Qd : Hp → Prop} (Pv : Nat → Hp → Prop) (h0 : Pv 0 (upd H1 D (SetTO P w D []))) (hl : ∀ i H, i ≤ xs.length → Pv i H → SqL K H a xs)
    (hs : ∀ i x H, xs[i]? = some x → Pv i H → g x (wipe τ vs) H fun τ2 H3 => wipe τ2 vs = wipe τ vs ∧
      te τ2 H3 fun y H4 => ∃ (t : Addr) (k : List Int) (L : List (Addr × List Int)), y = .ref t ∧ SqT K H4 t (k.map V.int) ∧ H4 D = some (SetTO P w D L) ∧ (∀ p ∈ L, SqT K H4 p.1 (p.2.map V.int)) ∧ L.length + 1 < 64 ∧
      ∀ L', (k ∈ L.map (·.2) → L' = L) → (k ∉ L.map (·.2) → L'.Perm ((t, k) :: L)) → Pv (i + 1) (upd H4 D (SetTO P w D L'))) (hd : ∀ H, Pv xs.length H → Qd H) :
    ∃ W : Nat → Nat → Hp → Prop, (∃ m, W 0 m (upd H1 D (SetTO P w D []))) ∧ ∀ i m H, W i m H →
      ((Itl K a).stop i H ∧ Qd H) ∨ ((Itl K a).go i H ∧ ∃ Nx : Hp → Prop, (∀ H', Nx H' → ∃ m', m' < m ∧ W (i + 1) m' H') ∧ ∀ x H', (Itl K a).yld i H x H' → g x (wipe τ vs) H' fun τ2 H3 => wipe τ2 vs = wipe τ vs ∧
        te τ2 H3 fun y H4 => ∃ (t : Addr) (k : List Int) (L : List (Addr × List Int)), y = .ref t ∧ SqT K H4 t (k.map V.int) ∧ H4 D = some (SetTO P w D L) ∧ (∀ p ∈ L, SqT K H4 p.1 (p.2.map V.int)) ∧ L.length + 1 < 64 ∧
      ∀ L', (k ∈ L.map (·.2) → L' = L) → (k ∉ L.map (·.2) → L'.Perm ((t, k) :: L)) → Nx (upd H4 D (SetTO P w D L'))) := by
  refine ⟨fun i m H => m + i = xs.length ∧ Pv i H, ⟨xs.length, rfl, h0⟩, fun i m H z => ?_⟩
  obtain ⟨hm, p⟩ := z
  have q := hl i H (by omega) p
  rcases Nat.lt_or_ge i xs.length with lt | ge
  · refine .inr ⟨⟨xs, xs[i], q, List.getElem?_eq_getElem lt⟩, Pv (i + 1), fun H' p' => ⟨m - 1, by omega, by omega, p'⟩, fun x H' y => ?_⟩
    obtain ⟨rfl, y⟩ := y
    exact hs i x _ (y xs q) p
  · obtain rfl : i = xs.length := by omega
    exact .inl ⟨⟨xs, q, Nat.le_refl _⟩, hd H p⟩
/-- over a tuple that the block leaves as it is -/
theorem st_tup {P : Program} {w : World} {K : PySem.W.Frag} {a : Addr} {xs : List V} {g : TG} {te : TE} {vs : List Nat} {τ : L2.St} {H1 : Hp} {D : Addr} {Qd : Hp → Prop} (Pv : Nat → Hp → Prop) (h0 : Pv 0 (upd H1 D (SetTO P w D []))) (hl : ∀ i H, i ≤ xs.length → Pv i H → SqT K H a xs)
    (hs : ∀ i x H, xs[i]? = some x → Pv i H → g x (wipe τ vs) H fun τ2 H3 => wipe τ2 vs = wipe τ vs ∧
      te τ2 H3 fun y H4 => ∃ (t : Addr) (k : List Int) (L : List (Addr × List Int)), y = .ref t ∧ SqT K H4 t (k.map V.int) ∧ H4 D = some (SetTO P w D L) ∧ (∀ p ∈ L, SqT K H4 p.1 (p.2.map V.int)) ∧ L.length + 1 < 64 ∧
      ∀ L', (k ∈ L.map (·.2) → L' = L) → (k ∉ L.map (·.2) → L'.Perm ((t, k) :: L)) → Pv (i + 1) (upd H4 D (SetTO P w D L'))) (hd : ∀ H, Pv xs.length H → Qd H) :
    ∃ W : Nat → Nat → Hp → Prop, (∃ m, W 0 m (upd H1 D (SetTO P w D []))) ∧ ∀ i m H, W i m H →
      ((Itt K a).stop i H ∧ Qd H) ∨ ((Itt K a).go i H ∧ ∃ Nx : Hp → Prop, (∀ H', Nx H' → ∃ m', m' < m ∧ W (i + 1) m' H') ∧ ∀ x H', (Itt K a).yld i H x H' → g x (wipe τ vs) H' fun τ2 H3 => wipe τ2 vs = wipe τ vs ∧
        te τ2 H3 fun y H4 => ∃ (t : Addr) (k : List Int) (L : List (Addr × List Int)), y = .ref t ∧ SqT K H4 t (k.map V.int) ∧ H4 D = some (SetTO P w D L) ∧ (∀ p ∈ L, SqT K H4 p.1 (p.2.map V.int)) ∧ L.length + 1 < 64 ∧
      ∀ L', (k ∈ L.map (·.2) → L' = L) → (k ∉ L.map (·.2) → L'.Perm ((t, k) :: L)) → Nx (upd H4 D (SetTO P w D L'))) := by
  refine ⟨fun i m H => m + i = xs.length ∧ Pv i H, ⟨xs.length, rfl, h0⟩, fun i m H z => ?_⟩
  obtain ⟨hm, p⟩ := z
  have q := hl i H (by omega) p
  rcases Nat.lt_or_ge i xs.length with lt | ge
  · refine .inr ⟨⟨xs, xs[i], q, List.getElem?_eq_getElem lt⟩, Pv (i + 1), fun H' p' => ⟨m - 1, by omega, by omega, p'⟩, fun x H' y => ?_⟩
    obtain ⟨rfl, y⟩ := y
    exact hs i x _ (y xs q) p
  · obtain rfl : i = xs.length := by omega
    exact .inl ⟨⟨xs, q, Nat.le_refl _⟩, hd H p⟩
theorem hu1 {k : Nat} {A : Around} (hr : Room k A) : A.units + 1 < cLine := by have := hr.un; omega
end
end K7S
end
/-! ## ET -/
section
/-! sorted of a tuple, or of a list, of ints. -/
namespace K7S
open PySem PySem.Spec PyProof.Rows L2
section
variable {X : Cx}
def rSortA (K : PySem.W.Frag) : List V → Hp → VK → Prop := fun vs H Q => ∃ (a : Addr) (ns : List Int), vs = [V.ref a] ∧ (SqL K H a (ns.map V.int) ∨ SqT K H a (ns.map V.int)) ∧ ns.length < 64 ∧ ∀ (ms : List Int) (p : Addr), ms.Perm ns → ms.Pairwise (· ≤ ·) → H p = none → Q (.ref p) (upd H p (.lst (ms.map V.int)))
theorem cr_sortA : CallR X (.builtin "sorted") (rSortA X.K) := by
  intro pins s τ H vs us Q I r h
  obtain ⟨a, ns, rfl, hs, h64, q⟩ := h
  rw [Vals.ref1 r]
  have got : ∃ (its : List Value) (o : Obj) (n : Nat) (T : String), Vals (ns.map V.int) its ∧ (T = "list" ∨ T = "tuple") ∧ s.heap.get? a = some o ∧ o.cls = .type T ∧ o.data = .seq its.toArray n := by
    rcases hs with z | z
    · obtain ⟨its, rv, pl, _⟩ := I.list z
      obtain ⟨o, ho, hc, n, hd⟩ := pl.isList
      exact ⟨its, o, n, "list", rv, .inl rfl, ho, hc, hd⟩
    · obtain ⟨its, rv, ⟨o, ho, hc, n, hd⟩, _⟩ := I.tuple z
      exact ⟨its, o, n, "tuple", rv, .inr rfl, ho, hc, hd⟩
  obtain ⟨its, o, n, T, rv, hT, ho, hc, hd⟩ := got
  have hi := rv.ints
  have h64' : its.length < 64 := by rw [hi.length]; exact h64
  refine Calls.call_function_entry kind_sorted plain_sorted entry_sorted (args_sorted1 _) ?_
  unfold Builtin.«sorted»
  refine wpAny_bind (m := checkCount "sorted" 1 1 _) (wpAny_pure (wpAny_bind (wpAny_collect_seq a hT ho hc hd (fun h' kp => ?_) (by rw [List.size_toArray, sizeLine_eq]; omega))))
  have hoL : (h'.push (seqObj "list" its.toArray 0)).get? h'.objs.size = some (seqObj "list" its.toArray 0) := Heap.get?_push_size _ rfl
  refine wpAny_bind (wpAny_newList ?_ (by rw [sizeLine_eq]; show its.length ≤ _; omega))
  show wpAny _ _ _ _ _ { s with heap := h'.push (seqObj "list" its.toArray 0) }
  refine wpAny_bind (wpAny_holding (wpAny_call_entry slot_list_sort ⟨_, hoL, rfl⟩ entry_list_sort (list_sort_tree hoL hi h64' fun out ms a1 a2 a3 => ⟨_, rfl, wpAny_pure ⟨_, rfl, ?_⟩⟩) (args_list_sort _)))
  obtain ⟨e, he⟩ := sortedHeap_at (vs := its) (out := out) hoL
  have hlen : (ms.map V.int).length ≤ sizeLine := by rw [List.length_map, a2.length_eq]; exact small64 h64
  have I1 : Inv X pins τ H { s with heap := h' } := I.kept (t' := s.toks) kp
  refine ⟨.ref h'.objs.size, upd H h'.objs.size (.lst (ms.map V.int)), I1.laid (t' := s.toks) (fun b u hb => ?_) (Nat.le_refl _) ⟨hlen, out.toList, e, vals_of_ints a1, he⟩, rfl, q ms _ a2 a3 (I1.hok.fresh (Nat.le_refl _))⟩
  have lt := Heap.lt_size hb
  exact (sortedHeap_old (Nat.ne_of_lt lt) (by rw [size_push']; exact Nat.lt_succ_of_lt lt)).trans (Heap.get?_push_of_some _ hb)
end
end K7S
end
/-! ## P10 -/
section
open PySem PySem.Spec PyProof.Rows L2
namespace K7
abbrev N__are_neighbours : List Str := ["cells", "thing", "couple"]
abbrev s__are_neighbours : Stmt := topS 18
theorem sc__are_neighbours : FnScope ["cells", "thing", "couple"] ["cells", "thing"] (defScope s__are_neighbours) := ⟨rfl, rfl, rfl, by decide +kernel, rfl, by decide +kernel, by decide +kernel⟩
section
variable {P : Program} {w : World} {K : PySem.W.Frag} {mg : Str → Option Value} {base : Heap}
/-! ### couples that are handed in: rows of two cells, either way round, tuples or lists -/
theorem SqOf.ty {H : Hp} {a : Addr} {xs : List V} (h : SqOf H a xs) : ∃ t : String, (∀ H1, Same H H1 → TyX K H1 (.ref a) (.type t)) ∧ PySem.W.kitAny K (.type t) [.type "list", .type "tuple"] = some true := by
  rcases h with z | z
  · exact ⟨"tuple", fun H1 e1 => .base (.tup (e1 _ _ z)), any_tup⟩
  · exact ⟨"list", fun H1 e1 => .base (.lst (e1 _ _ z)), any_lst⟩
def CoAt (H : Hp) (t : Addr) (c : Nat × Nat) : Prop := SqOf H t (ints_ [c.1, c.2])
def CoAll (H : Hp) (ts : List Addr) (cs : List (Nat × Nat)) : Prop := ts.length = cs.length ∧ ∀ (i : Nat) t c, ts[i]? = some t → cs[i]? = some c → CoAt H t c
theorem CoAll.same {H H' : Hp} {ts : List Addr} {cs : List (Nat × Nat)} (h : CoAll H ts cs) (e : Same H H') : CoAll H' ts cs := ⟨h.1, fun i t c h1 h2 => (h.2 i t c h1 h2).same e⟩
structure Cos (n : Nat) (cs : List (Nat × Nat)) : Prop where
  lt : ∀ c ∈ cs, c.1 < n ∧ c.2 < n ∧ c.1 ≠ c.2
  nd : (cs.map KL.srt).Nodup
  len : cs.length ≤ 32
theorem two_co {n : Nat} {c : Nat × Nat} (h : c.1 < n ∧ c.2 < n ∧ c.1 ≠ c.2) : twoV (n : Nat) (ints_ [c.1, c.2]) = true := by
  obtain ⟨h1, h2, h3⟩ := h
  unfold twoV cellsV
  have e1 : wholeV (.int (c.1 : Nat)) 0 (((n : Nat) : Int) - 1) = true := by rw [wholeV_int, decide_eq_true (by omega), decide_eq_true (by omega)]; rfl
  have e2 : wholeV (.int (c.2 : Nat)) 0 (((n : Nat) : Int) - 1) = true := by rw [wholeV_int, decide_eq_true (by omega), decide_eq_true (by omega)]; rfl
  have e3 : (ints_ [c.1, c.2]).all (fun x => wholeV x 0 (((n : Nat) : Int) - 1)) = true := by
    show (wholeV (.int (c.1 : Nat)) 0 (((n : Nat) : Int) - 1) && (wholeV (.int (c.2 : Nat)) 0 (((n : Nat) : Int) - 1) && true)) = true
    rw [e1, e2]; rfl
  have e4 : ((ints_ [c.1, c.2]).map intOf).Nodup := by
    show [((c.1 : Nat) : Int), ((c.2 : Nat) : Int)].Nodup
    refine List.nodup_cons.mpr ⟨fun m => ?_, List.nodup_cons.mpr ⟨List.not_mem_nil, List.nodup_nil⟩⟩
    rw [List.mem_singleton] at m
    omega
  rw [e3, decide_eq_true e4, decide_eq_true (show (2 : Int) ≤ (((ints_ [c.1, c.2]).length : Nat) : Int) from (by decide : (2 : Int) ≤ ((2 : Nat) : Int))), decide_eq_true (show (ints_ [c.1, c.2]).length = 2 from rfl)]
  rfl
def keyOf (c : Nat × Nat) : List Int := [((KL.srt c).1 : Int), ((KL.srt c).2 : Int)]
theorem keyOf_inj {c d : Nat × Nat} (h : keyOf c = keyOf d) : KL.srt c = KL.srt d := by
  unfold keyOf at h
  injection h with h1 h2
  injection h2 with h2
  exact Prod.ext (by omega) (by omega)
theorem keys_nd {cs : List (Nat × Nat)} (h : (cs.map KL.srt).Nodup) : (cs.map keyOf).Nodup := by
  induction cs with
  | nil => exact List.nodup_nil
  | cons c cs ih =>
    rw [List.map_cons, List.nodup_cons] at h
    rw [List.map_cons, List.nodup_cons]
    refine ⟨fun m => ?_, ih h.2⟩
    obtain ⟨d, hd, e⟩ := List.mem_map.mp m
    exact h.1 (List.mem_map.mpr ⟨d, hd, keyOf_inj e⟩)
theorem key_ints (c : Nat × Nat) : (keyOf c).map V.int = ints_ [(KL.srt c).1, (KL.srt c).2] := rfl
def spNbrs : Sp := fun vs H Q _ => ∃ (n : Nat) (a : Addr) (ts : List Addr) (cs : List (Nat × Nat)), vs = [.int (n : Nat), .ref a] ∧ SqOf H a (ts.map V.ref) ∧ CoAll H ts cs ∧ Cos n cs ∧ ∀ H', Same H H' → Q (.bl true) H'
theorem ok_nbrs {f fS fT : Addr} {fd fdS fdT : FuncData} (F : Fun K "_are_neighbours" "_are_neighbours" s__are_neighbours f fd)
    (Gsq : FnOk P w K mg base CX0 1 fS fdS ["thing"] (spSeq K)) (gsq : mg "is_sequence" = some (.ref fS)) (ksq : PySem.W.keepIn K (.ref fS) = true) (bsq : Binds K fdS ["thing"] [])
    (Ga2 : FnOk P w K mg base CX0 3 fT fdT ["many", "thing"] (spTwo K)) (ga2 : mg "are_two_cells" = some (.ref fT)) (ka2 : PySem.W.keepIn K (.ref fT) = true) (ba2 : Binds K fdT ["many", "thing"] [])
    (m_len : mg "len" = none) (m_all : mg "all" = none) (m_tuple : mg "tuple" = none) (m_sorted : mg "sorted" = none) : FnOk P w K mg base CX0 4 f fd ["cells", "thing"] spNbrs := by
  refine F.ok sc__are_neighbours (fun vs H Q E h => ?_) (fun cdv A outer s H vs Q E hr h => ?_)
  · obtain ⟨n, a, ts, cs, rfl, _⟩ := h
    rfl
  · obtain ⟨n, a, ts, cs, rfl, ha, hT, hc, q⟩ := h
    refine ⟨_, (pss_cons (ps_if (pw_or (pt_not (pt_val (pe_call Gsq (hr.mono (by decide)) (by rfl) gsq ksq bsq .nil pass0 (pa_cons (pv 1) pa_nil)))) (pw_or1 (pt_not (pt_val (pe_callB (cr_all rfl) (by rfl) m_all boot_all (pa_cons (pe_lc (own := [("couple", 2)]) (g := gName 2) (tt := tYes) rfl sc__are_neighbours.nd (K7E.pi_either (pi_tup (pv 1)) (pi_list (pv 1))) (blkOk_by (own := [("couple", 2)]) (N := N__are_neighbours) (sc := defScope s__are_neighbours) (by decide +kernel)) (fun _ _ _ _ _ => (pg_name (i := 2) sc__are_neighbours.nd rfl (by first | exact Or.inl rfl | exact Or.inr rfl))) (fun _ _ _ _ _ => pts_nil) (fun _ _ _ _ _ => (pe_call Ga2 (hr.mono (by decide)) (by rfl) ga2 ka2 ba2 .nil pass0 (pa_cons (pv 0) (pa_cons (pv 2) pa_nil))))) pa_nil)))))).pt
  (pss_one (ps_ret pe_bl))
  pss_nil)
 (pss_one (ps_ret (pe_cmpR op_eq (pe_callB K7S.call_lenT (by rfl) m_len boot_len (pa_cons (K7S.pe_st (own := [("couple", 2)]) (g := gName 2) rfl (K7S.hu1 hr) sc__are_neighbours.nd (K7E.pi_either (pi_tup (pv 1)) (pi_list (pv 1))) (blkOk_by (own := [("couple", 2)]) (N := N__are_neighbours) (sc := defScope s__are_neighbours) (by decide +kernel)) (fun _ _ _ _ _ => (pg_name (i := 2) sc__are_neighbours.nd rfl (by first | exact Or.inl rfl | exact Or.inr rfl))) (fun _ _ _ _ _ => (pe_callTy (show CallR _ (.type "tuple") (rTup_ K) from call_tuple_of) (by rfl) m_tuple boot_tuple (pa_cons (pe_callB (show CallR _ (.builtin "sorted") (K7S.rSortA K) from K7S.cr_sortA) (by rfl) m_sorted boot_sorted (pa_cons (pv 2) pa_nil)) pa_nil)))) pa_nil)) (pe_callB call_len_seq (by rfl) m_len boot_len (pa_cons (pv 1) pa_nil)) (nomark _))))), ?_⟩
    obtain ⟨t, ty, kk⟩ := ha.ty (K := K)
    have hl : ts.length = cs.length := hT.1
    have h32 := hc.len
    refine ⟨_, rfl, _, t, true, rfl, ty, kk, fun H1 e1 => ⟨_, rfl, ?_⟩⟩
    have ha1 := ha.same e1
    have hT1 := hT.same e1
    -- the second half: the set, behind any heap
    have half : ∀ H2, Same H1 H2 → ∀ D, H2 D = none → ∀ (j : Nat) (x : V) (H3 : Hp), (ts.map V.ref)[j]? = some x → (Same H2 H3 ∧ ∃ L : List (Addr × List Int), H3 D = some (SetTO P w D L) ∧ (∀ p ∈ L, H3 p.1 = some (.tup (p.2.map V.int))) ∧ (L.map (·.2)).Perm ((cs.take j).map keyOf)) →
        ∃ c t', x = .ref t' ∧ cs[j]? = some c ∧ CoAt H3 t' c ∧ keyOf c ∉ (cs.take j).map keyOf := by
      intro H2 e2 D hD j x H3 hx pv
      rw [List.getElem?_map] at hx
      obtain ⟨t', ht', rfl⟩ := Option.map_eq_some_iff.mp hx
      have hj : j < cs.length := by rw [← hl]; exact (List.getElem?_eq_some_iff.mp ht').1
      refine ⟨cs[j], t', rfl, List.getElem?_eq_getElem hj, (hT1.2 j t' _ ht' (List.getElem?_eq_getElem hj)).same (e2.trans pv.1), fun m => ?_⟩
      have nd := keys_nd hc.nd
      have e3 : cs.map keyOf = (cs.take j).map keyOf ++ (cs.drop j).map keyOf := by rw [← List.map_append, List.take_append_drop]
      rw [e3, List.nodup_append] at nd
      exact nd.2.2 _ m _ (List.mem_map.mpr ⟨cs[j], by rw [List.drop_eq_getElem_cons hj]; exact List.mem_cons_self, rfl⟩) rfl
    have fin : ∀ H2, Same H1 H2 → ∀ L : List (Addr × List Int), (L.map (·.2)).Perm ((cs.take (ts.map V.ref).length).map keyOf) → (Same H H2 → decide (V.int (L.length : Nat) = V.int ((ts.map V.ref).length : Nat)) = true) := by
      intro H2 e2 L p _
      have z := p.length_eq
      rw [List.length_map, List.length_map, List.length_map, hl, List.take_length] at z
      rw [List.length_map, z, hl]
      exact decide_eq_true rfl
    have Q2 : ∀ H2, Same H1 H2 → Q (.bl true) H2 := fun H2 e2 => q H2 (e1.trans e2)
    have sz : (ts.map V.ref).length = cs.length := by rw [List.length_map, hl]
    rcases ha1 with z | z
    · refine .inl ⟨_, rfl, a, rfl, ⟨_, .inl (.inl z)⟩, fun D hD => lc_tup (xs := ts.map V.ref) (fun j H2 => Same H1 H2 ∧ ∃ bs : List Bool, H2 D = some (.lst (bs.map V.bl)) ∧ bs.all id = true ∧ bs.length = j) ⟨same_new (Same.refl H1) hD, [], upd_same, rfl, rfl⟩ (fun j H2 _ pv => .inl (.inl (pv.1 _ _ z))) (fun j x H2 hx pv => ?_) (fun H2 pv => ?_)⟩
      · obtain ⟨e2, bs, hD2, hb, lb⟩ := pv
        have hjx := (List.getElem?_eq_some_iff.mp hx).1
        rw [List.getElem?_map] at hx
        obtain ⟨t', ht', rfl⟩ := Option.map_eq_some_iff.mp hx
        have hj : j < cs.length := by rw [← sz]; exact hjx
        have hco := hc.lt cs[j] (List.getElem_mem hj)
        refine ⟨rfl, _, rfl, _, rfl, n, .ref t', rfl, .inr ⟨t', _, rfl, (hT1.2 j t' cs[j] ht' (List.getElem?_eq_getElem hj)).same e2, fun y hy => ?_, by show 2 < 64; decide, fun H3 e3 => ?_⟩⟩
        · obtain ⟨k, _, rfl⟩ := List.mem_map.mp hy
          exact .flat (.int _)
        · rw [two_co hco]
          refine ⟨_, e3 _ _ hD2, by rw [List.length_map]; exact small1000 (by omega), fun b o hb => ?_, bs ++ [true], ?_, ?_, by rw [List.length_append, lb]; rfl⟩
          · rw [upd_ne (ne_of_none hb hD)]
            exact e3 _ _ (e2 _ _ hb)
          · rw [upd_same, List.map_append]
            rfl
          · rw [List.all_append, hb]
            rfl
      · obtain ⟨e2, bs, hD2, hb, lb⟩ := pv
        refine ⟨D, bs, rfl, .inl (.inl hD2), _, rfl, ?_⟩
        rw [hb]
        refine iteF ?_
        refine .inl ⟨_, rfl, a, rfl, ⟨_, .inl (.inl (e2 _ _ z))⟩, fun D2 hD2 => K7S.st_tup (xs := ts.map V.ref) (fun j H3 => Same H2 H3 ∧ ∃ L : List (Addr × List Int), H3 D2 = some (SetTO P w D2 L) ∧ (∀ p ∈ L, H3 p.1 = some (.tup (p.2.map V.int))) ∧ (L.map (·.2)).Perm ((cs.take j).map keyOf)) ⟨same_new (Same.refl H2) hD2, [], upd_same, fun p hp => (nomatch hp), List.Perm.refl _⟩ (fun j H3 _ pv => .inl (.inl (pv.1 _ _ (e2 _ _ z)))) (fun j x H3 hx pv => ?_) (fun H3 pv => ?_)⟩
        · obtain ⟨c, t', rfl, hcj, hco, hnew⟩ := half H2 e2 D2 hD2 j x H3 hx pv
          obtain ⟨e3, L, hL, hLt, pm⟩ := pv
          have ll : L.length = j := by
            have z := pm.length_eq
            rw [List.length_map, List.length_map, List.length_take, Nat.min_eq_left (Nat.le_of_lt (List.getElem?_eq_some_iff.mp hcj).1)] at z
            exact z
          have hjc := (List.getElem?_eq_some_iff.mp hcj).1
          refine ⟨rfl, _, rfl, t', [(c.1 : Int), (c.2 : Int)], rfl, hco.sq, by show 2 < 64; decide, fun ms p pm2 so np => ?_⟩
          have em := KL.two_sorted pm2 so
          subst em
          refine ⟨p, _, rfl, .inl ⟨.inl (.inl upd_same), fun l nl => ?_⟩⟩
          have s1 := same_new (o := .lst ([((min c.1 c.2 : Nat) : Int), ((max c.1 c.2 : Nat) : Int)].map V.int)) (Same.refl H3) np
          have s2 := same_new (o := .tup ([((min c.1 c.2 : Nat) : Int), ((max c.1 c.2 : Nat) : Int)].map V.int)) s1 nl
          refine ⟨l, keyOf c, L, rfl, .inl (.inl upd_same), s2 _ _ hL, fun p hp => .inl (.inl (s2 _ _ (hLt p hp))), by omega, fun L' _ c2 => ?_⟩
          have pm' := c2 (fun m => hnew (pm.mem_iff.mp m))
          have nlD : l ≠ D2 := fun e => by rw [e, s1 _ _ hL] at nl; cases nl
          refine ⟨fun b o hb => ?_, L', upd_same, fun p hp => ?_, ?_⟩
          · rw [upd_ne (ne_of_none hb hD2)]
            exact s2 _ _ (e3 _ _ hb)
          · have tp : ∀ p ∈ L', (upd (upd H3 _ _) l (.tup ((keyOf c).map V.int))) p.1 = some (.tup (p.2.map V.int)) := fun p hp => by
              rcases List.mem_cons.mp (pm'.mem_iff.mp hp) with rfl | hp
              · exact upd_same
              · exact s2 _ _ (hLt p hp)
            have z := tp p hp
            rw [upd_ne (fun e => by rw [e] at z; exact absurd (z.symm.trans (s2 _ _ hL)) (fun w => by cases w))]
            exact z
          · refine (pm'.map (·.2)).trans ?_
            rw [List.take_add_one, hcj, List.map_append]
            exact ((List.perm_append_singleton _ _).trans (pm.symm.cons _)).symm
        · obtain ⟨e3, L, hL, hLt, pm⟩ := pv
          have eq2 := fin H3 (e2.trans e3) L pm (e1.trans (e2.trans e3))
          refine ⟨D2, L, rfl, hL, fun p hp => .inl (.inl (hLt p hp)), _, rfl, a, ts.map V.ref, rfl, ?_, rfl, ?_⟩
          · exact (SqOf.sq (K := K) (H := H3) (show SqOf H3 a (ts.map V.ref) from (ha.same e1).same (e2.trans e3)))
          · rw [eq2]
            exact Q2 H3 (e2.trans e3)
    · refine .inr ⟨_, rfl, a, rfl, ⟨_, .inl (.inl z)⟩, fun D hD => lc_list (xs := ts.map V.ref) (fun j H2 => Same H1 H2 ∧ ∃ bs : List Bool, H2 D = some (.lst (bs.map V.bl)) ∧ bs.all id = true ∧ bs.length = j) ⟨same_new (Same.refl H1) hD, [], upd_same, rfl, rfl⟩ (fun j H2 _ pv => .inl (.inl (pv.1 _ _ z))) (fun j x H2 hx pv => ?_) (fun H2 pv => ?_)⟩
      · obtain ⟨e2, bs, hD2, hb, lb⟩ := pv
        have hjx := (List.getElem?_eq_some_iff.mp hx).1
        rw [List.getElem?_map] at hx
        obtain ⟨t', ht', rfl⟩ := Option.map_eq_some_iff.mp hx
        have hj : j < cs.length := by rw [← sz]; exact hjx
        have hco := hc.lt cs[j] (List.getElem_mem hj)
        refine ⟨rfl, _, rfl, _, rfl, n, .ref t', rfl, .inr ⟨t', _, rfl, (hT1.2 j t' cs[j] ht' (List.getElem?_eq_getElem hj)).same e2, fun y hy => ?_, by show 2 < 64; decide, fun H3 e3 => ?_⟩⟩
        · obtain ⟨k, _, rfl⟩ := List.mem_map.mp hy
          exact .flat (.int _)
        · rw [two_co hco]
          refine ⟨_, e3 _ _ hD2, by rw [List.length_map]; exact small1000 (by omega), fun b o hb => ?_, bs ++ [true], ?_, ?_, by rw [List.length_append, lb]; rfl⟩
          · rw [upd_ne (ne_of_none hb hD)]
            exact e3 _ _ (e2 _ _ hb)
          · rw [upd_same, List.map_append]
            rfl
          · rw [List.all_append, hb]
            rfl
      · obtain ⟨e2, bs, hD2, hb, lb⟩ := pv
        refine ⟨D, bs, rfl, .inl (.inl hD2), _, rfl, ?_⟩
        rw [hb]
        refine iteF ?_
        refine .inr ⟨_, rfl, a, rfl, ⟨_, .inl (.inl (e2 _ _ z))⟩, fun D2 hD2 => K7S.st_list (xs := ts.map V.ref) (fun j H3 => Same H2 H3 ∧ ∃ L : List (Addr × List Int), H3 D2 = some (SetTO P w D2 L) ∧ (∀ p ∈ L, H3 p.1 = some (.tup (p.2.map V.int))) ∧ (L.map (·.2)).Perm ((cs.take j).map keyOf)) ⟨same_new (Same.refl H2) hD2, [], upd_same, fun p hp => (nomatch hp), List.Perm.refl _⟩ (fun j H3 _ pv => .inl (.inl (pv.1 _ _ (e2 _ _ z)))) (fun j x H3 hx pv => ?_) (fun H3 pv => ?_)⟩
        · obtain ⟨c, t', rfl, hcj, hco, hnew⟩ := half H2 e2 D2 hD2 j x H3 hx pv
          obtain ⟨e3, L, hL, hLt, pm⟩ := pv
          have ll : L.length = j := by
            have z := pm.length_eq
            rw [List.length_map, List.length_map, List.length_take, Nat.min_eq_left (Nat.le_of_lt (List.getElem?_eq_some_iff.mp hcj).1)] at z
            exact z
          have hjc := (List.getElem?_eq_some_iff.mp hcj).1
          refine ⟨rfl, _, rfl, t', [(c.1 : Int), (c.2 : Int)], rfl, hco.sq, by show 2 < 64; decide, fun ms p pm2 so np => ?_⟩
          have em := KL.two_sorted pm2 so
          subst em
          refine ⟨p, _, rfl, .inl ⟨.inl (.inl upd_same), fun l nl => ?_⟩⟩
          have s1 := same_new (o := .lst ([((min c.1 c.2 : Nat) : Int), ((max c.1 c.2 : Nat) : Int)].map V.int)) (Same.refl H3) np
          have s2 := same_new (o := .tup ([((min c.1 c.2 : Nat) : Int), ((max c.1 c.2 : Nat) : Int)].map V.int)) s1 nl
          refine ⟨l, keyOf c, L, rfl, .inl (.inl upd_same), s2 _ _ hL, fun p hp => .inl (.inl (s2 _ _ (hLt p hp))), by omega, fun L' _ c2 => ?_⟩
          have pm' := c2 (fun m => hnew (pm.mem_iff.mp m))
          have nlD : l ≠ D2 := fun e => by rw [e, s1 _ _ hL] at nl; cases nl
          refine ⟨fun b o hb => ?_, L', upd_same, fun p hp => ?_, ?_⟩
          · rw [upd_ne (ne_of_none hb hD2)]
            exact s2 _ _ (e3 _ _ hb)
          · have tp : ∀ p ∈ L', (upd (upd H3 _ _) l (.tup ((keyOf c).map V.int))) p.1 = some (.tup (p.2.map V.int)) := fun p hp => by
              rcases List.mem_cons.mp (pm'.mem_iff.mp hp) with rfl | hp
              · exact upd_same
              · exact s2 _ _ (hLt p hp)
            have z := tp p hp
            rw [upd_ne (fun e => by rw [e] at z; exact absurd (z.symm.trans (s2 _ _ hL)) (fun w => by cases w))]
            exact z
          · refine (pm'.map (·.2)).trans ?_
            rw [List.take_add_one, hcj, List.map_append]
            exact ((List.perm_append_singleton _ _).trans (pm.symm.cons _)).symm
        · obtain ⟨e3, L, hL, hLt, pm⟩ := pv
          have eq2 := fin H3 (e2.trans e3) L pm (e1.trans (e2.trans e3))
          refine ⟨D2, L, rfl, hL, fun p hp => .inl (.inl (hLt p hp)), _, rfl, a, ts.map V.ref, rfl, ?_, rfl, ?_⟩
          · exact (SqOf.sq (K := K) (H := H3) (show SqOf H3 a (ts.map V.ref) from (ha.same e1).same (e2.trans e3)))
          · rw [eq2]
            exact Q2 H3 (e2.trans e3)
end
end K7
end
/-! ## EU -/
section
namespace K7E
open PySem PySem.Spec PyProof.Rows L2
section
variable {X : Cx} {CX : CXT} {k : Nat} {f : Addr} {sp : Sp} {E : XK} {x : Str} {e : Expr} {es : List Expr} {t : TA} {p pos : Pos}
/-- x(e, ..) by a positional promise -/
theorem pe_callR0 (F : FnR X.prog X.w X.K X.mg X.base CX k f sp) (hr : Room k X.A) (hg : Gl X x) (hm : X.mg x = some (.ref f)) (hk : PySem.W.keepIn X.K (.ref f) = true) (hx : Passes CX X E) (ha : PA X (e :: es) t) (hd : (x == ("__debug__" : Str)) = false := by decide)
    (h1 : starEach (e :: es) X.env = (false, eval e X.env) :: starEach es X.env := by rfl) (h2 : (backTo pos (starEach es X.env)).any (·.1) = false := by rfl) : PE X (.Call (.Name x p) (e :: es) [] pos) (fun τ H Q => t τ H fun vs H1 => sp vs H1 Q E) := by
  refine ⟨fun pins s τ H Q I h => wpAny_Call_Name_kw (ld_glob I hg hm (PySem.W.callWith_K (h₀ := X.base) I.ok.mod.kin hk (thn (ha.run pos pins s τ H _ I h) fun us s1 ⟨vs, H1, I1, r, q⟩ => ⟨I1.kIn, ?_⟩) h1 h2) hd)⟩
  exact wpAny_call (run_fnR F hr hx I1 r q)
end
end K7E
end
/-! ## P11 -/
section
open PySem PySem.Spec PyProof.Rows L2
namespace K7
abbrev N_BadCell___init__ : List Str := ["self", "cell"]
abbrev s_BadCell___init__ : Stmt := inClass (topS 4) 0
theorem sc_BadCell___init__ : FnScope ["self", "cell"] ["self", "cell"] (defScope s_BadCell___init__) := ⟨rfl, rfl, rfl, by decide +kernel, rfl, by decide +kernel, by decide +kernel⟩
abbrev N_is_cell : List Str := ["land", "thing"]
abbrev s_is_cell : Stmt := topS 12
theorem sc_is_cell : FnScope ["land", "thing"] ["land", "thing"] (defScope s_is_cell) := ⟨rfl, rfl, rfl, by decide +kernel, rfl, by decide +kernel, by decide +kernel⟩
abbrev N_is_lot : List Str := ["land", "thing", "least"]
abbrev s_is_lot : Stmt := topS 13
theorem sc_is_lot : FnScope ["land", "thing", "least"] ["land", "thing", "least"] (defScope s_is_lot) := ⟨rfl, rfl, rfl, by decide +kernel, rfl, by decide +kernel, by decide +kernel⟩
abbrev N_check_cells : List Str := ["land", "things", "thing"]
abbrev s_check_cells : Stmt := topS 14
theorem sc_check_cells : FnScope ["land", "things", "thing"] ["land", "things"] (defScope s_check_cells) := ⟨rfl, rfl, rfl, by decide +kernel, rfl, by decide +kernel, by decide +kernel⟩
/-! ### a land that stands, and what the top says of it -/
def landFs (n : Int) (an ar ay ac : Addr) : List (Str × V) := putF "_couples" (.ref ac) (putF "nearby" (.ref ay) (putF "roads" (.ref ar) (putF "neighbours" (.ref an) (putF "cells" (.int n) []))))
def lfields : List Str := ["cells", "neighbours", "roads", "nearby", "_couples"]
structure AdL where
  (C B iB : Addr)
structure Tl (K : PySem.W.Frag) (mg : Str → Option Value) (a : AdL) : Prop where
  gC : mg "Land" = some (.ref a.C)
  cl : Cls K a.C
  nA : ∀ f ∈ lfields, NoAttr K a.C f
  gB : mg "BadCell" = some (.ref a.B)
  oxB : OexC K a.B
  iCB : PySem.W.findIn K (.ref a.B) "__init__" = some (some (.ref a.iB))
  tIB : PySem.W.typeIn K (.ref a.iB) = some (.type "function")
  nB : PySem.W.findIn K (.ref a.B) "cell" = some none
/-- an error of the class C with one field is raised -/
def Flies (H : Hp) (C : Addr) (f : Str) (v : V) (E : XK) : Prop := ∀ H' d, Same H H' → H d = none → H' d = some (.xd [(f, v)]) → E (.ref C) (some d) H'
theorem Flies.later {H H1 : Hp} {C : Addr} {f : Str} {v : V} {E : XK} (h : Flies H C f v E) (e : Same H H1) : Flies H1 C f v E := fun H' d e' n q => h H' d (e.trans e') (e.free n) q
/-- an instance with a number of cells -/
def LandC (C : Addr) (H : Hp) (p : Addr) (n : Nat) : Prop := ∃ dx fs, H p = some (.ins C dx fs) ∧ fs.lookup ("cells" : Str) = some (V.int (n : Nat))
theorem LandC.same {C : Addr} {H H' : Hp} {p : Addr} {n : Nat} (h : LandC C H p n) (e : Same H H') : LandC C H' p n := by
  obtain ⟨dx, fs, h1, h2⟩ := h
  exact ⟨dx, fs, e _ _ h1, h2⟩
section
variable {P : Program} {w : World} {K : PySem.W.Frag} {mg : Str → Option Value} {base : Heap} {a : AdL}
def spX (C : Addr) (f : Str) : Sp := fun vs H Q _ => ∃ (e : Addr) (y : V), vs = [.ref e, y] ∧ H e = some (exo e C none) ∧ ∀ d, H d = none → d ≠ e → Q .non (upd (upd H d (exd d [(f, y)])) e (exo e C (some d)))
theorem ok_iB (T : Tl K mg a) {f : Addr} {fd : FuncData} (F : Fun K "__init__" "BadCell.__init__" s_BadCell___init__ f fd) : FnOk P w K mg base (L2.CX P w) 1 f fd ["self", "cell"] (spX a.B "cell") := by
  refine F.okX sc_BadCell___init__ (fun vs H Q E h => ?_) (fun cdv A outer s H vs Q E hr h => ?_)
  · obtain ⟨e, y, rfl, _⟩ := h
    rfl
  · obtain ⟨e, y, rfl, he, q⟩ := h
    refine ⟨_, (pss_one (ps_ost (pv 0) (pv 1))), ?_⟩
    exact ⟨y, rfl, .ref e, rfl, e, a.B, rfl, T.oxB, T.nB, .inl ⟨he, fun d hd hn => q d hd hn⟩⟩
/-- the reading of «raise X(y)» -/
theorem flies_go {H : Hp} {C : Addr} {f : Str} {y : V} {E : XK} (h : Flies H C f y E) :
    ∀ e, H e = none → spX C f (.ref e :: ([y] ++ [])) (upd H e (exo e C none)) (fun v H2 => v = .non ∧ ∃ (d : Addr) (fs : List (Str × V)), H2 e = some (exo e C (some d)) ∧ H2 d = some (exd d fs) ∧ H d = none ∧ E (.ref C) (some d) (upd (del H2 e) d (.xd fs))) (fun _ _ _ => False) := by
  intro e he
  refine ⟨e, y, rfl, upd_same, fun d hd hne => ⟨rfl, d, _, upd_same, by rw [upd_ne hne, upd_same], ?_, ?_⟩⟩
  · rw [upd_ne hne] at hd
    exact hd
  · rw [upd_ne hne] at hd
    refine h _ d (fun b o hb => ?_) hd upd_same
    have h1 : b ≠ d := ne_of_none hb hd
    have h2 : b ≠ e := ne_of_none hb he
    rw [upd_ne h1, del_ne h2, upd_ne h2, upd_ne h1, upd_ne h2]
    exact hb
/-! is_cell -/
def spIsCell (C : Addr) : Sp := fun vs H Q _ => ∃ (p : Addr) (n : Nat) (x : V), vs = [.ref p, x] ∧ LandC C H p n ∧ Thing H x ∧ Q (.bl (wholeV x 0 ((n : Nat) - 1))) H
theorem ok_iscell (T : Tl K mg a) {f fW : Addr} {fd fdW : FuncData} (F : Fun K "is_cell" "is_cell" s_is_cell f fd)
    (Giw : FnOk P w K mg base CX0 1 fW fdW ["thing", "low", "high"] spWhole) (giw : mg "is_whole" = some (.ref fW)) (kiw : PySem.W.keepIn K (.ref fW) = true) (biw : Binds K fdW ["thing", "low", "high"] []) : FnOk P w K mg base CX0 2 f fd ["land", "thing"] (spIsCell a.C) := by
  refine F.ok sc_is_cell (fun vs H Q E h => ?_) (fun cdv A outer s H vs Q E hr h => ?_)
  · obtain ⟨p, n, x, rfl, _⟩ := h
    rfl
  · obtain ⟨p, n, x, rfl, ⟨dx, fs, hp, hl⟩, hx, q⟩ := h
    refine ⟨_, (pss_one (ps_ret (pe_call Giw (hr.mono (by decide)) (by rfl) giw kiw biw .nil pass0 (pa_cons (pv 1) (pa_cons pe_int (pa_cons (pe_op op_sub (pe_fld (pv 0) rfl) pe_int) pa_nil)))))), ?_⟩
    exact ⟨_, rfl, .ref p, rfl, p, a.C, dx, fs, _, rfl, hp, T.cl, T.nA _ (by decide), hl, _, _, rfl, rfl, x, 0, _, rfl, hx, q⟩
/-! check_cells -/
def AllIn (n : Nat) (xs : List V) : Prop := ∀ x ∈ xs, wholeV x 0 ((n : Nat) - 1) = true
def spCheck (a : AdL) : Sp := fun vs H Q E => ∃ (p : Addr) (n : Nat) (xs : List V), vs = .ref p :: xs ∧ LandC a.C H p n ∧ xs.length < 64 ∧
  (((∀ x ∈ xs, Thing H x) ∧ AllIn n xs ∧ ∀ H', Same H H' → Q .non H') ∨ (∃ ys x zs, xs = ys ++ x :: zs ∧ (∀ x ∈ ys, Thing H x) ∧ AllIn n ys ∧ Thing H x ∧ wholeV x 0 ((n : Nat) - 1) = false ∧ Flies H a.B "cell" x E))
theorem ok_check (T : Tl K mg a) {f fI : Addr} {fd fdI fdB : FuncData} (F : Fun K "check_cells" "check_cells" s_check_cells f fd)
    (Gic : FnOk P w K mg base CX0 2 fI fdI ["land", "thing"] (spIsCell a.C)) (gic : mg "is_cell" = some (.ref fI)) (kic : PySem.W.keepIn K (.ref fI) = true) (bic : Binds K fdI ["land", "thing"] [])
    (FB0 : Fun K "__init__" "BadCell.__init__" s_BadCell___init__ a.iB fdB) (bB : Binds K fdB ["self", "cell"] []) : FnR P w K mg base (L2.CX P w) 4 f (spCheck a) := by
  have FB : FnOk P w K mg base (L2.CX P w) 1 a.iB fdB ["self", "cell"] (spX a.B "cell") := ok_iB T FB0
  obtain ⟨oc, od, kV, doc, pm, an, cdv, ct, osl, rfl, lk, hcd⟩ := F.ex
  have G := StX.fn_star (CX := L2.CX P w) (P := P) (w := w) (mg := mg) (base := base) (k := 3) (ps := ["land"]) (pv := "things") (sp := fun vs H Q E => ∃ (p t : Addr) (n : Nat) (xs : List V), vs = [.ref p, .ref t] ∧ H t = some (.tup xs) ∧ LandC a.C H p n ∧ xs.length < 64 ∧
    (((∀ x ∈ xs, Thing H x) ∧ AllIn n xs ∧ ∀ H', Same H H' → Q .non H') ∨ (∃ ys x zs, xs = ys ++ x :: zs ∧ (∀ x ∈ ys, Thing H x) ∧ AllIn n ys ∧ Thing H x ∧ wholeV x 0 ((n : Nat) - 1) = false ∧ Flies H a.B "cell" x E))) lk hcd sc_check_cells StX.cxUp (StX.bind_star1 (B := fun l => bindArgs (PySem.W.fnOf "check_cells" "check_cells" (defArgs s_check_cells) (defBody s_check_cells) (defScope s_check_cells) .none kV doc pm an cdv ct) ⟨l, []⟩) (p1 := "land") (pv := "things") (fun _ => rfl) fun _ _ _ => rfl) ?_
  · refine G.imp fun vs H Q E h => ?_
    obtain ⟨p, n, xs, rfl, hl, h64, hh⟩ := h
    refine ⟨[.ref p], xs, rfl, rfl, by rw [sizeLine_eq]; omega, fun t ht => ⟨p, t, n, xs, rfl, upd_same, hl.same (same_new (Same.refl H) ht), h64, ?_⟩⟩
    have e := same_new (o := .tup xs) (Same.refl H) ht
    rcases hh with ⟨h1, h2, h3⟩ | ⟨ys, x, zs, h1, h2, h3, h4, h5, h6⟩
    · exact .inl ⟨fun x hx => (h1 x hx).same e, h2, fun H' e' => h3 H' (e.trans e')⟩
    · exact .inr ⟨ys, x, zs, h1, fun x hx => (h2 x hx).same e, h3, h4.same e, h5, h6.later e⟩
  · intro A outer s H vs Q E hr h
    obtain ⟨p, t, n, xs, rfl, ht, hl, h64, hh⟩ := h
    have hrx : Room (1 + 1) _ := hr.mono (by decide)
    refine ⟨_, (pss_one (ps_for (passes_of rfl) rfl (pi_tup (pv 1)) (pg_name (i := 2) sc_check_cells.nd rfl (by first | exact Or.inl rfl | exact Or.inr rfl))
  (pss_one (ps_if (pt_not (pt_val (pe_call Gic (hr.mono (by decide)) (by rfl) gic kic bic .nil pass0 (pa_cons (pv 0) (pa_cons (pv 2) pa_nil)))))
  (pss_one (ps_raise rfl (takes_of rfl rfl rfl rfl) (pmk_oex T.oxB T.iCB T.tIB FB hrx bB .nil passL (by rfl) T.gB (pa_cons (pv 2) pa_nil))))
  pss_nil)))), ?_⟩
    refine ⟨_, rfl, t, rfl, ⟨xs, .inl (.inl ht)⟩, for_tup (xs := xs) (fun j τ H1 => H1 = H ∧ AllIn n (xs.take j) ∧ ∃ y, τ = [some (.ref p), some (.ref t), y]) ⟨rfl, fun x hx => (nomatch hx), none, rfl⟩ (fun j τ H1 _ pv => ?_) (fun j x τ H1 hx pv => ?_) (fun τ H1 pv => ?_)⟩
    · obtain ⟨rfl, _⟩ := pv
      exact .inl (.inl ht)
    · obtain ⟨rfl, al, y, rfl⟩ := pv
      have fin : ∀ b, wholeV x 0 ((n : Nat) - 1) = b → Thing H1 x ∧ (b = false → Flies H1 a.B "cell" x E) := by
        intro b hb
        rcases hh with ⟨h1, h2, h3⟩ | ⟨ys, x', zs, rfl, h2, h3, h4, h5, h6⟩
        · refine ⟨h1 x (List.mem_of_getElem? hx), fun e => ?_⟩
          rw [h2 x (List.mem_of_getElem? hx)] at hb
          rw [← hb] at e
          cases e
        · rcases Nat.lt_trichotomy j ys.length with lt | e | gt
          · rw [List.getElem?_append_left lt] at hx
            have m := List.mem_of_getElem? hx
            refine ⟨h2 x m, fun e => ?_⟩
            rw [h3 x m] at hb
            rw [← hb] at e
            cases e
          · rw [List.getElem?_append_right (by omega), e, Nat.sub_self] at hx
            obtain rfl : x' = x := Option.some.inj hx
            exact ⟨h4, fun _ => h6⟩
          · have m : x' ∈ (ys ++ x' :: zs).take j := by
              rw [List.take_append, List.take_of_length_le (by omega)]
              exact List.mem_append_right _ (by
                obtain ⟨k, hk⟩ : ∃ k, j - ys.length = k + 1 := ⟨j - ys.length - 1, by omega⟩
                rw [hk]
                exact List.mem_cons_self)
            rw [al x' m] at h5
            cases h5
      obtain ⟨hth, hfl⟩ := fin _ rfl
      refine ⟨_, rfl, _, rfl, p, n, x, rfl, hl, hth, _, rfl, ?_⟩
      cases hb : wholeV x 0 ((n : Nat) - 1) with
      | true =>
        refine iteF ⟨rfl, fun z hz => ?_, _, rfl⟩
        rw [List.take_add_one, hx] at hz
        rcases List.mem_append.mp hz with hz | hz
        · exact al z hz
        · rw [List.mem_singleton.mp hz]
          exact hb
      | false => exact iteT ⟨_, rfl, by show 1 ≤ 1000; decide, flies_go (hfl hb)⟩
    · obtain ⟨rfl, al, y, rfl⟩ := pv
      rcases hh with ⟨h1, h2, h3⟩ | ⟨ys, x', zs, rfl, h2, h3, h4, h5, h6⟩
      · exact h3 _ (Same.refl _)
      · rw [List.take_length] at al
        rw [al x' (List.mem_append_right _ List.mem_cons_self)] at h5
        cases h5
end
end K7
end
/-! ## EV -/
section
namespace K7E
open PySem PySem.Spec PyProof.Rows L2
/-- the inner range of a comprehension of two -/
theorem in_range {lo : Int} {n : Nat} {g : TG} {tt : TT} {te : TE} {vs : List Nat} {τ : L2.St} {H4 : Hp} {D : Addr} {Nx : Hp → Prop} (Pw : Nat → Hp → Prop) (h0 : Pw 0 H4)
    (hs : ∀ j H, j < n → Pw j H → g (.int (lo + j)) (wipe τ vs) H fun t3 H5 => wipe t3 vs = wipe τ vs ∧ tt t3 H5 fun b H6 => if b = true then te t3 H6 fun y H7 => ∃ acc, H7 D = some (.lst acc) ∧ acc.length < sizeLine ∧ Pw (j + 1) (upd H7 D (.lst (acc ++ [y]))) else Pw (j + 1) H6) (hd : ∀ H, Pw n H → Nx H) :
    ∃ W1 : Nat → Nat → Hp → Prop, (∃ m, W1 0 m H4) ∧ ∀ j k H, W1 j k H → ((Itr lo n).stop j H ∧ Nx H) ∨ ((Itr lo n).go j H ∧ ∃ N1 : Hp → Prop, (∀ H', N1 H' → ∃ k', k' < k ∧ W1 (j + 1) k' H') ∧
      ∀ x H', (Itr lo n).yld j H x H' → g x (wipe τ vs) H' fun t3 H5 => wipe t3 vs = wipe τ vs ∧ tt t3 H5 fun b H6 => if b = true then te t3 H6 fun y H7 => ∃ acc, H7 D = some (.lst acc) ∧ acc.length < sizeLine ∧ N1 (upd H7 D (.lst (acc ++ [y]))) else N1 H6) := by
  refine ⟨fun j k H => k + j = n ∧ Pw j H, ⟨n, rfl, h0⟩, fun j k H z => ?_⟩
  obtain ⟨hk, p⟩ := z
  rcases Nat.lt_or_ge j n with lt | ge
  · refine .inr ⟨lt, Pw (j + 1), fun H' p' => ⟨k - 1, by omega, by omega, p'⟩, fun x H' y => ?_⟩
    obtain ⟨rfl, rfl⟩ := y
    exact hs j _ lt p
  · obtain rfl : j = n := by omega
    exact .inl ⟨Nat.le_refl _, hd H p⟩
/-- the outer one -/
theorem out_range {lo : Int} {n : Nat} {g : TG} {tt : TT} {inner : (Hp → Prop) → L2.St → Hp → Prop} {vs : List Nat} {τ : L2.St} {H1 : Hp} {D : Addr} {Qd : Hp → Prop} (Pv : Nat → Hp → Prop) (h0 : Pv 0 (upd H1 D (.lst [])))
    (hs : ∀ i H, i < n → Pv i H → g (.int (lo + i)) (wipe τ vs) H fun t2 H2 => wipe t2 vs = wipe τ vs ∧ tt t2 H2 fun b H3 => if b = true then inner (Pv (i + 1)) t2 H3 else Pv (i + 1) H3) (hd : ∀ H, Pv n H → Qd H) :
    ∃ W : Nat → Nat → Hp → Prop, (∃ m, W 0 m (upd H1 D (.lst []))) ∧ ∀ i m H, W i m H → ((Itr lo n).stop i H ∧ Qd H) ∨ ((Itr lo n).go i H ∧ ∃ Nx : Hp → Prop, (∀ H', Nx H' → ∃ m', m' < m ∧ W (i + 1) m' H') ∧
      ∀ x H', (Itr lo n).yld i H x H' → g x (wipe τ vs) H' fun t2 H2 => wipe t2 vs = wipe τ vs ∧ tt t2 H2 fun b H3 => if b = true then inner Nx t2 H3 else Nx H3) := by
  refine ⟨fun i m H => m + i = n ∧ Pv i H, ⟨n, rfl, h0⟩, fun i m H z => ?_⟩
  obtain ⟨hm, p⟩ := z
  rcases Nat.lt_or_ge i n with lt | ge
  · refine .inr ⟨lt, Pv (i + 1), fun H' p' => ⟨m - 1, by omega, by omega, p'⟩, fun x H' y => ?_⟩
    obtain ⟨rfl, rfl⟩ := y
    exact hs i _ lt p
  · obtain rfl : i = n := by omega
    exact .inl ⟨Nat.le_refl _, hd H p⟩
end K7E
end
/-! ## P12 -/
section
open PySem PySem.Spec PyProof.Rows L2
namespace K7
abbrev N_Land___init__ : List Str := ["self", "cells", "neighbours", "roads", "couples", "couple", "a", "b"]
abbrev s_Land___init__ : Stmt := inClass (topS 19) 0
theorem sc_Land___init__ : FnScope ["self", "cells", "neighbours", "roads", "couples", "couple", "a", "b"] ["self", "cells", "neighbours", "roads"] (defScope s_Land___init__) := ⟨rfl, rfl, rfl, by decide +kernel, rfl, by decide +kernel, by decide +kernel⟩
/-! ### a land is made -/
structure LandO (C : Addr) (H : Hp) (p : Addr) (n : Nat) (es : List (Nat × Nat)) (rd : List Nat) : Prop where
  at_ : ∃ dx an ar ay ac tn ty tc, H p = some (.ins C dx (landFs (n : Nat) an ar ay ac)) ∧ H an = some (.tup (tn.map V.ref)) ∧ TAt H tn (pairs es) ∧ H ar = some (.tup (ints_ rd)) ∧ H ay = some (.tup (ty.map V.ref)) ∧ TAt H ty (nearV n es) ∧ H ac = some (.tup (tc.map V.ref)) ∧ TAt H tc (pairs (KL.allC n))
  n2 : 2 ≤ n
  n5 : n ≤ 5
  ok : LandOk n es
  rlt : ∀ c ∈ rd, c < n
  rnd : rd.Nodup
  rso : rd.Pairwise (· ≤ ·)
  r0 : 0 < rd.length
  rn : rd.length < n
theorem LandO.same {C : Addr} {H H' : Hp} {p : Addr} {n : Nat} {es : List (Nat × Nat)} {rd : List Nat} (h : LandO C H p n es rd) (e : Same H H') : LandO C H' p n es rd := by
  obtain ⟨dx, an, ar, ay, ac, tn, ty, tc, h1, h2, h3, h4, h5, h6, h7, h8⟩ := h.at_
  exact ⟨⟨dx, an, ar, ay, ac, tn, ty, tc, e _ _ h1, e _ _ h2, h3.same e, e _ _ h4, e _ _ h5, h6.same e, e _ _ h7, h8.same e⟩, h.n2, h.n5, h.ok, h.rlt, h.rnd, h.rso, h.r0, h.rn⟩
theorem LandO.c {C : Addr} {H : Hp} {p : Addr} {n : Nat} {es : List (Nat × Nat)} {rd : List Nat} (h : LandO C H p n es rd) : LandC C H p n := by
  obtain ⟨dx, an, ar, ay, ac, tn, ty, tc, h1, _⟩ := h.at_
  exact ⟨dx, _, h1, rfl⟩
/-- a land is written while an object is made: what is not an instance stays -/
theorem keepNI {C dx x : Addr} {fs : List (Str × V)} {H : Hp} (hx : H x = some (.ins C dx fs)) {b : Addr} {o o' : HO} (hb : H b = some o) (no : ∀ C dx fs, o ≠ .ins C dx fs) : upd H x o' b = some o := by
  rw [upd_ne (fun e => by rw [e, hx] at hb; exact no _ _ _ (Option.some.inj hb).symm)]
  exact hb
theorem cells_lot {n : Nat} {lot : List Nat} (h1 : ∀ c ∈ lot, c < n) (h2 : lot.Nodup) (h3 : 0 < lot.length) : cellsV (n : Nat) (ints_ lot) 1 = true := by
  unfold cellsV
  have e1 : (ints_ lot).all (fun x => wholeV x 0 (((n : Nat) : Int) - 1)) = true := by
    refine List.all_eq_true.mpr fun x hx => ?_
    obtain ⟨c, hc, rfl⟩ := List.mem_map.mp hx
    have := h1 c hc
    rw [wholeV_int, decide_eq_true (by omega), decide_eq_true (by omega)]
    rfl
  have e2 : ((ints_ lot).map intOf).Nodup := by
    unfold ints_
    rw [List.map_map, List.nodup_iff_pairwise_ne, List.pairwise_map]
    refine (List.nodup_iff_pairwise_ne.mp h2).imp fun {a b} ne e => ne ?_
    have e : ((a : Nat) : Int) = ((b : Nat) : Int) := e
    omega
  have e3 : (ints_ lot).length = lot.length := List.length_map ..
  rw [e1, decide_eq_true e2, e3, decide_eq_true (by omega)]
  rfl
theorem ints_back {ms : List Int} {lot : List Nat} (p : ms.Perm (lot.map fun c => ((c : Nat) : Int))) : ms = (ms.map Int.toNat).map fun c => ((c : Nat) : Int) := by
  rw [List.map_map]
  refine (List.map_id ms).symm.trans (List.map_congr_left fun x hx => ?_)
  obtain ⟨c, _, rfl⟩ := List.mem_map.mp (p.mem_iff.mp hx)
  rfl
/-- one more couple of the comprehension of all of them -/
def rowC (n i j : Nat) : List (Nat × Nat) := ((List.range j).filter fun b => decide (i ≠ b)).map fun b => (i, b)
def upC (n i : Nat) : List (Nat × Nat) := (List.range i).flatMap fun a => rowC n a n
theorem upC_succ (n i : Nat) : upC n (i + 1) = upC n i ++ rowC n i n := by
  unfold upC
  rw [List.range_succ, List.flatMap_append, List.flatMap_cons, List.flatMap_nil, List.append_nil]
theorem rowC_succ (n i j : Nat) : rowC n i (j + 1) = rowC n i j ++ (if i ≠ j then [(i, j)] else []) := by
  unfold rowC
  rw [range_filter, List.map_append]
  by_cases h : i = j
  · rw [if_neg (by rw [decide_eq_false (by simpa using h)]; decide), if_neg (by simpa using h)]
    rfl
  · rw [if_pos (decide_eq_true h), if_pos h]
    rfl
theorem rowC_len (n i j : Nat) : (rowC n i j).length ≤ j := by
  unfold rowC
  rw [List.length_map]
  exact Nat.le_trans (List.length_filter_le _ _) (by rw [List.length_range]; exact Nat.le_refl _)
theorem upC_len (n : Nat) : ∀ i, (upC n i).length ≤ i * n
  | 0 => Nat.zero_le _
  | i + 1 => by
    rw [upC_succ, List.length_append, Nat.succ_mul]
    exact Nat.add_le_add (upC_len n i) (rowC_len n i n)
theorem SqOf.ni {C dx x : Addr} {fs : List (Str × V)} {H : Hp} (hx : H x = some (.ins C dx fs)) {b : Addr} {xs : List V} (h : SqOf H b xs) (o' : HO) : SqOf (upd H x o') b xs :=
  h.imp (fun z => keepNI hx z fun _ _ _ e => by cases e) fun z => keepNI hx z fun _ _ _ e => by cases e
theorem TAt.ni {C dx x : Addr} {fs : List (Str × V)} {H : Hp} (hx : H x = some (.ins C dx fs)) {ts : List Addr} {ls : List (List Nat)} (h : TAt H ts ls) (o' : HO) : TAt (upd H x o') ts ls := h.mono fun b xs hb => keepNI hx hb fun _ _ _ e => by cases e
theorem But.put {x : Addr} {H H' : Hp} (h : But x H H') (o : HO) : But x H (upd H' x o) := fun b o' nb hb => by rw [upd_ne nb]; exact h b o' nb hb
theorem But.new {x p : Addr} {H H' : Hp} (h : But x H H') (np : H' p = none) (o : HO) : But x H (upd H' p o) := fun b o' nb hb => by
  have z := h b o' nb hb
  rw [upd_ne (ne_of_none z np)]
  exact z
theorem But.same {x : Addr} {H H' H'' : Hp} (h : But x H H') (e : Same H' H'') : But x H H'' := fun b o nb hb => e _ _ (h b o nb hb)
theorem iteTo {c : Prop} [Decidable c] {p q : Prop} (h : c) (x : p) : if c then p else q := by rw [if_pos h]; exact x
theorem iteFo {b : Bool} {p q : Prop} (h : b = false) (x : q) : if b = true then p else q := by rw [h]; exact x
theorem ints_map (lot : List Nat) : ints_ lot = (lot.map fun c => ((c : Nat) : Int)).map V.int := by
  unfold ints_
  rw [List.map_map]
  rfl
section
variable {P : Program} {w : World} {K : PySem.W.Frag} {mg : Str → Option Value} {base : Heap} {a : AdL}
def spLandI (a : AdL) : Sp := fun vs H Q _ => ∃ (x dx : Addr) (n : Nat) (an : Addr) (ts : List Addr) (cs : List (Nat × Nat)) (ar : Addr) (lot : List Nat), vs = [.ref x, .int (n : Nat), .ref an, .ref ar] ∧ H x = some (.ins a.C dx []) ∧ 2 ≤ n ∧ n ≤ 5 ∧
  SqOf H an (ts.map V.ref) ∧ CoAll H ts cs ∧ Cos n cs ∧ KL.Conn n cs ∧ SqOf H ar (ints_ lot) ∧ (∀ c ∈ lot, c < n) ∧ lot.Nodup ∧ 0 < lot.length ∧ lot.length < n ∧
  ∀ H' es rd, But x H H' → LandO a.C H' x n es rd → es.Perm (cs.map KL.srt) → rd.Perm lot → Q .non H'
theorem ok_landI (T : Tl K mg a) {tM : Tok} (gM : mg "MOST_CELLS" = some (.int 5 tM)) {f fW fB fC fH fN : Addr} {fd fdW fdB fdC fdH fdN : FuncData} (F : Fun K "__init__" "Land.__init__" s_Land___init__ f fd)
    (Giw : FnOk P w K mg base CX0 1 fW fdW ["thing", "low", "high"] spWhole) (giw : mg "is_whole" = some (.ref fW)) (kiw : PySem.W.keepIn K (.ref fW) = true) (biw : Binds K fdW ["thing", "low", "high"] [])
    (Gnb : FnOk P w K mg base CX0 4 fB fdB ["cells", "thing"] spNbrs) (gnb : mg "_are_neighbours" = some (.ref fB)) (knb : PySem.W.keepIn K (.ref fB) = true) (bnb : Binds K fdB ["cells", "thing"] [])
    (Gac : FnOk P w K mg base CX0 2 fC fdC ["many", "thing", "least"] (spCells K)) (gac : mg "are_cells" = some (.ref fC)) (kac : PySem.W.keepIn K (.ref fC) = true) (bac : Binds K fdC ["many", "thing", "least"] [])
    (Ght : FnOk P w K mg base CX0 2 fH fdH ["cells", "couples"] spHang) (ght : mg "hang_together" = some (.ref fH)) (kht : PySem.W.keepIn K (.ref fH) = true) (bht : Binds K fdH ["cells", "couples"] [])
    (Gnc : FnOk P w K mg base CX0 1 fN fdN ["cells", "couples"] spNear) (gnc : mg "nearby_cells" = some (.ref fN)) (knc : PySem.W.keepIn K (.ref fN) = true) (bnc : Binds K fdN ["cells", "couples"] [])
    (m_len : mg "len" = none) (m_sorted : mg "sorted" = none) (m_tuple : mg "tuple" = none) (m_range : mg "range" = none) : FnOk P w K mg base CX0 5 f fd ["self", "cells", "neighbours", "roads"] (spLandI a) := by
  refine F.ok sc_Land___init__ (fun vs H Q E h => ?_) (fun cdv A outer s H vs Q E hr h => ?_)
  · obtain ⟨x, dx, n, an, ts, cs, ar, lot, rfl, _⟩ := h
    rfl
  · obtain ⟨x, dx, n, an, ts, cs, ar, lot, rfl, hx, n2, n5, han, hT, hc, cn, har, llt, lnd, l0, ln, q⟩ := h
    refine ⟨_, (pss_cons (ps_if (pt_not (pt_val (pe_call Giw (hr.mono (by decide)) (by rfl) giw kiw biw .nil pass0 (pa_cons (pv 1) (pa_cons pe_int (pa_cons (pe_glob (v := .int 5) rfl gM ⟨_, rfl⟩) pa_nil))))))
  (pss_one ps_never)
  pss_nil)
 (pss_cons (ps_if (pt_not (pt_val (pe_call Gnb (hr.mono (by decide)) (by rfl) gnb knb bnb .nil pass0 (pa_cons (pv 1) (pa_cons (pv 2) pa_nil)))))
  (pss_one ps_never)
  pss_nil)
 (pss_cons (ps_if (pw_or (pt_not (pt_val (pe_call Gac (hr.mono (by decide)) (by rfl) gac kac bac .nil pass0 (pa_cons (pv 1) (pa_cons (pv 3) (pa_cons pe_int pa_nil)))))) (pw_or1 (pt_cmpR op_eq (pe_callB call_len_seq (by rfl) m_len boot_len (pa_cons (pv 3) pa_nil)) (pv 1) (nomark _)))).pt
  (pss_one ps_never)
  pss_nil)
 (Evl.pss_cut (ps_set (i := 4) sc_Land___init__.nd rfl (by first | exact Or.inl rfl | exact Or.inr rfl) (pe_callB cr_sortedPO (by rfl) m_sorted boot_sorted (pa_cons (pe_lc (own := [("couple", 5)]) (g := gName 5) (tt := tYes) rfl sc_Land___init__.nd (K7E.pi_either (pi_tup (pv 2)) (pi_list (pv 2))) (blkOk_by (own := [("couple", 5)]) (N := N_Land___init__) (sc := defScope s_Land___init__) (by decide +kernel)) (fun _ _ _ _ _ => (pg_name (i := 5) sc_Land___init__.nd rfl (by first | exact Or.inl rfl | exact Or.inr rfl))) (fun _ _ _ _ _ => pts_nil) (fun _ _ _ _ _ => (pe_callTy (show CallR _ (.type "tuple") (rTup_ K) from call_tuple_of) (by rfl) m_tuple boot_tuple (pa_cons (pe_callB (show CallR _ (.builtin "sorted") (K7S.rSortA K) from K7S.cr_sortA) (by rfl) m_sorted boot_sorted (pa_cons (pv 5) pa_nil)) pa_nil)))) pa_nil)))
 (pss_cons (ps_if (pt_not (pt_val (pe_call Ght (hr.mono (by decide)) (by rfl) ght kht bht .nil pass0 (pa_cons (pv 1) (pa_cons (pv 4) pa_nil)))))
  (pss_one ps_never)
  pss_nil)
 (pss_cons (ps_fld (pv 0) (pv 1) rfl)
 (pss_cons (ps_fld (pv 0) (pe_callTy call_tuple_of (by rfl) m_tuple boot_tuple (pa_cons (pv 4) pa_nil)) rfl)
 (pss_cons (ps_fld (pv 0) (pe_callTy call_tuple_of (by rfl) m_tuple boot_tuple (pa_cons (pe_callB K7S.cr_sortA (by rfl) m_sorted boot_sorted (pa_cons (pv 3) pa_nil)) pa_nil)) rfl)
 (pss_cons (ps_fld (pv 0) (pe_call Gnc (hr.mono (by decide)) (by rfl) gnc knc bnc .nil pass0 (pa_cons (pv 1) (pa_cons (pv 4) pa_nil))) rfl)
 (pss_one (ps_fld (pv 0) (pe_callTy call_tuple_of (by rfl) m_tuple boot_tuple (pa_cons (pe_lc2 (own := [("a", 6), ("b", 7)]) (vs1 := [7]) (g := gName 6) (g1 := gName 7) (tt := tYes) rfl sc_Land___init__.nd (pi_range1 rfl m_range (pa_cons (pv 1) pa_nil)) (blkOk_by (own := [("a", 6), ("b", 7)]) (N := N_Land___init__) (sc := defScope s_Land___init__) (by decide +kernel)) (by decide) (fun _ _ _ _ _ => (pg_name (i := 6) sc_Land___init__.nd rfl (by first | exact Or.inl rfl | exact Or.inr rfl))) (fun _ _ _ _ _ => pts_nil) (fun _ _ _ _ _ => (pi_range1 rfl m_range (pa_cons (pv 1) pa_nil))) (fun _ _ _ _ _ => (pg_name (i := 7) sc_Land___init__.nd rfl (by first | exact Or.inl rfl | exact Or.inr rfl))) (fun _ _ _ _ _ => (pts_one (pt_cmpR op_ne (pv 6) (pv 7) (nomark _)))) (fun _ _ _ _ _ => (pe_tup (pa_cons (pv 6) (pa_cons (pv 7) pa_nil))))) pa_nil)) rfl))))))))))), ?_⟩
    have hl : ts.length = cs.length := hT.1
    have h32 := hc.len
    have lilen : (ints_ lot).length = lot.length := List.length_map ..
    refine ⟨_, rfl, .int (n : Nat), 2, 5, rfl, .flat (.int _), _, rfl, ?_⟩
    rw [wholeV_int, decide_eq_true (by omega), decide_eq_true (by omega)]
    refine iteF ?_
    refine ⟨_, rfl, _, rfl, n, an, ts, cs, rfl, han, hT, hc, fun H1 e1 => ⟨_, rfl, iteF ?_⟩⟩
    refine ⟨_, rfl, _, rfl, n, .ref ar, 1, rfl, .inr ⟨ar, ints_ lot, rfl, har.same e1, fun y hy => ?_, by rw [lilen]; omega, fun H2 e2 => ?_⟩⟩
    · obtain ⟨k, _, rfl⟩ := List.mem_map.mp hy
      exact .flat (.int _)
    rw [cells_lot llt lnd l0]
    have e02 := e1.trans e2
    refine ⟨_, rfl, _, rfl, ar, ints_ lot, rfl, (har.same e02).sq, _, rfl, rfl, _, rfl, ?_⟩
    rw [lilen, decide_eq_false (fun e => by injection e with e; omega)]
    refine iteF ?_
    have han2 := han.same e02
    have hT2 := hT.same e02
    -- the couples, in order
    refine ⟨fun σ' H' => ∃ p us es y5 y6 y7, σ' = [some (.ref x), some (.int (n : Nat)), some (.ref an), some (.ref ar), some (.ref p), y5, y6, y7] ∧ Same H H' ∧ H' p = some (.lst (us.map V.ref)) ∧ TAt H' us (pairs es) ∧ LandOk n es ∧ es.Perm (cs.map KL.srt), ?_, fun σ' H' hM => ?_⟩
    · rcases han2 with z | z
      · refine .inl ⟨_, rfl, an, rfl, ⟨_, .inl (.inl z)⟩, fun D hD => lc_tup (xs := ts.map V.ref) (fun j H3 => Same H2 H3 ∧ ∃ us, H3 D = some (.lst (us.map V.ref)) ∧ TAt H3 us (pairs ((cs.take j).map KL.srt)) ∧ us.length ≤ j) ⟨same_new (Same.refl H2) hD, [], upd_same, .nil, Nat.le_refl _⟩ (fun j H3 _ pv => .inl (.inl (pv.1 _ _ z))) (fun j y H3 hy pv => ?_) (fun H3 pv => ?_)⟩
        · obtain ⟨e3, us, hD3, tD, lu⟩ := pv
          rw [List.getElem?_map] at hy
          obtain ⟨t', ht', rfl⟩ := Option.map_eq_some_iff.mp hy
          have hj : j < cs.length := by rw [← hl]; exact (List.getElem?_eq_some_iff.mp ht').1
          have hco := (hT2.2 j t' _ ht' (List.getElem?_eq_getElem hj)).same e3
          refine ⟨rfl, _, rfl, t', [(cs[j].1 : Int), (cs[j].2 : Int)], rfl, hco.sq, by show 2 < 64; decide, fun ms p pm so np => ?_⟩
          have em := KL.two_sorted pm so
          subst em
          refine ⟨p, _, rfl, .inl ⟨.inl (.inl upd_same), fun l nl => ?_⟩⟩
          have s1 := same_new (o := .lst ([((min cs[j].1 cs[j].2 : Nat) : Int), ((max cs[j].1 cs[j].2 : Nat) : Int)].map V.int)) (Same.refl H3) np
          have s2 := same_new (o := .tup ([((min cs[j].1 cs[j].2 : Nat) : Int), ((max cs[j].1 cs[j].2 : Nat) : Int)].map V.int)) s1 nl
          have hD4 := s2 _ _ hD3
          refine ⟨_, hD4, by rw [List.length_map]; exact small1000 (by omega), fun b o hb => ?_, us ++ [l], by rw [upd_same, List.map_append]; rfl, ?_, by rw [List.length_append, List.length_singleton]; omega⟩
          · rw [upd_ne (ne_of_none hb hD)]
            exact s2 _ _ (e3 _ _ hb)
          · rw [List.take_add_one, List.getElem?_eq_getElem hj, List.map_append]
            unfold pairs
            rw [List.map_append]
            have up : ∀ b xs, upd (upd H3 p (.lst ([((min cs[j].1 cs[j].2 : Nat) : Int), ((max cs[j].1 cs[j].2 : Nat) : Int)].map V.int))) l (.tup ([((min cs[j].1 cs[j].2 : Nat) : Int), ((max cs[j].1 cs[j].2 : Nat) : Int)].map V.int)) b = some (.tup xs) → upd (upd (upd H3 p (.lst ([((min cs[j].1 cs[j].2 : Nat) : Int), ((max cs[j].1 cs[j].2 : Nat) : Int)].map V.int))) l (.tup ([((min cs[j].1 cs[j].2 : Nat) : Int), ((max cs[j].1 cs[j].2 : Nat) : Int)].map V.int))) D (.lst (us.map V.ref ++ [.ref l])) b = some (.tup xs) := fun b xs hb => by
              rw [upd_ne (fun e => by rw [e, hD4] at hb; cases hb)]
              exact hb
            exact ((tD.same s2).mono up).append (.cons (up _ _ upd_same) .nil)
        · obtain ⟨e3, us, hD3, tD, lu⟩ := pv
          rw [List.length_map, hl, List.take_length] at tD
          refine ⟨D, us.map V.ref, kfOf H3, rfl, .inl (.inl hD3), fun y hy => ?_, fun ys p srt stb np => ?_⟩
          · obtain ⟨b, e, rfl, hb⟩ := g_mem tD y hy
            exact ⟨b, rfl, by rw [kf_at hb]; exact hb⟩
          · have hys := fun y (hy : y ∈ ys) => g_mem tD y (stb.perm.mem_iff.mp hy)
            obtain ⟨us', rfl, tY⟩ := tat_of ys hys
            have pe : ((us'.map V.ref).map (gOf H3)).Perm (cs.map KL.srt) := by
              have z := stb.perm.map (gOf H3)
              rw [g_map tD] at z
              exact z
            have s4 := same_new (o := .lst (us'.map V.ref)) (Same.refl H3) np
            refine ⟨p, us', _, _, _, _, rfl, e02.trans (e3.trans s4), upd_same, tY.same s4, ⟨fun e he => ?_, pe.nodup_iff.mpr hc.nd, sorted_of _ hys srt, KL.conn_srt cn pe⟩, pe⟩
            obtain ⟨c, hcm, rfl⟩ := List.mem_map.mp (pe.mem_iff.mp he)
            obtain ⟨c1, c2, c3⟩ := hc.lt c hcm
            refine ⟨KL.srt_lt c3, ?_⟩
            unfold KL.srt
            simp only
            omega
      · refine .inr ⟨_, rfl, an, rfl, ⟨_, .inl (.inl z)⟩, fun D hD => lc_list (xs := ts.map V.ref) (fun j H3 => Same H2 H3 ∧ ∃ us, H3 D = some (.lst (us.map V.ref)) ∧ TAt H3 us (pairs ((cs.take j).map KL.srt)) ∧ us.length ≤ j) ⟨same_new (Same.refl H2) hD, [], upd_same, .nil, Nat.le_refl _⟩ (fun j H3 _ pv => .inl (.inl (pv.1 _ _ z))) (fun j y H3 hy pv => ?_) (fun H3 pv => ?_)⟩
        · obtain ⟨e3, us, hD3, tD, lu⟩ := pv
          rw [List.getElem?_map] at hy
          obtain ⟨t', ht', rfl⟩ := Option.map_eq_some_iff.mp hy
          have hj : j < cs.length := by rw [← hl]; exact (List.getElem?_eq_some_iff.mp ht').1
          have hco := (hT2.2 j t' _ ht' (List.getElem?_eq_getElem hj)).same e3
          refine ⟨rfl, _, rfl, t', [(cs[j].1 : Int), (cs[j].2 : Int)], rfl, hco.sq, by show 2 < 64; decide, fun ms p pm so np => ?_⟩
          have em := KL.two_sorted pm so
          subst em
          refine ⟨p, _, rfl, .inl ⟨.inl (.inl upd_same), fun l nl => ?_⟩⟩
          have s1 := same_new (o := .lst ([((min cs[j].1 cs[j].2 : Nat) : Int), ((max cs[j].1 cs[j].2 : Nat) : Int)].map V.int)) (Same.refl H3) np
          have s2 := same_new (o := .tup ([((min cs[j].1 cs[j].2 : Nat) : Int), ((max cs[j].1 cs[j].2 : Nat) : Int)].map V.int)) s1 nl
          have hD4 := s2 _ _ hD3
          refine ⟨_, hD4, by rw [List.length_map]; exact small1000 (by omega), fun b o hb => ?_, us ++ [l], by rw [upd_same, List.map_append]; rfl, ?_, by rw [List.length_append, List.length_singleton]; omega⟩
          · rw [upd_ne (ne_of_none hb hD)]
            exact s2 _ _ (e3 _ _ hb)
          · rw [List.take_add_one, List.getElem?_eq_getElem hj, List.map_append]
            unfold pairs
            rw [List.map_append]
            have up : ∀ b xs, upd (upd H3 p (.lst ([((min cs[j].1 cs[j].2 : Nat) : Int), ((max cs[j].1 cs[j].2 : Nat) : Int)].map V.int))) l (.tup ([((min cs[j].1 cs[j].2 : Nat) : Int), ((max cs[j].1 cs[j].2 : Nat) : Int)].map V.int)) b = some (.tup xs) → upd (upd (upd H3 p (.lst ([((min cs[j].1 cs[j].2 : Nat) : Int), ((max cs[j].1 cs[j].2 : Nat) : Int)].map V.int))) l (.tup ([((min cs[j].1 cs[j].2 : Nat) : Int), ((max cs[j].1 cs[j].2 : Nat) : Int)].map V.int))) D (.lst (us.map V.ref ++ [.ref l])) b = some (.tup xs) := fun b xs hb => by
              rw [upd_ne (fun e => by rw [e, hD4] at hb; cases hb)]
              exact hb
            exact ((tD.same s2).mono up).append (.cons (up _ _ upd_same) .nil)
        · obtain ⟨e3, us, hD3, tD, lu⟩ := pv
          rw [List.length_map, hl, List.take_length] at tD
          refine ⟨D, us.map V.ref, kfOf H3, rfl, .inl (.inl hD3), fun y hy => ?_, fun ys p srt stb np => ?_⟩
          · obtain ⟨b, e, rfl, hb⟩ := g_mem tD y hy
            exact ⟨b, rfl, by rw [kf_at hb]; exact hb⟩
          · have hys := fun y (hy : y ∈ ys) => g_mem tD y (stb.perm.mem_iff.mp hy)
            obtain ⟨us', rfl, tY⟩ := tat_of ys hys
            have pe : ((us'.map V.ref).map (gOf H3)).Perm (cs.map KL.srt) := by
              have z := stb.perm.map (gOf H3)
              rw [g_map tD] at z
              exact z
            have s4 := same_new (o := .lst (us'.map V.ref)) (Same.refl H3) np
            refine ⟨p, us', _, _, _, _, rfl, e02.trans (e3.trans s4), upd_same, tY.same s4, ⟨fun e he => ?_, pe.nodup_iff.mpr hc.nd, sorted_of _ hys srt, KL.conn_srt cn pe⟩, pe⟩
            obtain ⟨c, hcm, rfl⟩ := List.mem_map.mp (pe.mem_iff.mp he)
            obtain ⟨c1, c2, c3⟩ := hc.lt c hcm
            refine ⟨KL.srt_lt c3, ?_⟩
            unfold KL.srt
            simp only
            omega
    · obtain ⟨p, us, es, y5, y6, y7, rfl, eM, hp, tU, ok, pe⟩ := hM
      have esl : es.length = cs.length := by rw [pe.length_eq, List.length_map]
      refine ⟨_, rfl, _, rfl, n, p, us, es, rfl, by omega, n5, hp, tU, by omega, fun e he => ?_, ok.conn, fun H5 e5 => ⟨_, rfl, iteF ?_⟩⟩
      · obtain ⟨l1, l2⟩ := ok.lt e he
        exact ⟨by omega, l2⟩
      have b5 : But x H H5 := fun b o _ hb => e5 _ _ (eM _ _ hb)
      have hx5 := e5 _ _ (eM _ _ hx)
      have hp5 := e5 _ _ hp
      have tU5 := tU.same e5
      have har5 := (har.same eM).same e5
      -- cells
      refine ⟨_, rfl, _, rfl, x, a.C, dx, _, rfl, hx5, T.cl, T.nA _ (by decide), by show 0 < 1000; decide, ?_⟩
      have b6 := b5.put (.ins a.C dx (putF "cells" (.int (n : Nat)) []))
      have hx6 : upd H5 x (.ins a.C dx (putF "cells" (.int (n : Nat)) [])) x = _ := upd_same
      have hp6 := keepNI (o' := .ins a.C dx (putF "cells" (.int (n : Nat)) [])) hx5 hp5 fun _ _ _ e => by cases e
      have tU6 := tU5.ni hx5 (.ins a.C dx (putF "cells" (.int (n : Nat)) []))
      have har6 := har5.ni hx5 (.ins a.C dx (putF "cells" (.int (n : Nat)) []))
      generalize upd H5 x (.ins a.C dx (putF "cells" (.int (n : Nat)) [])) = H6 at b6 hx6 hp6 tU6 har6 ⊢
      -- neighbours
      refine ⟨_, rfl, p, us.map V.ref, rfl, .inl ⟨.inl (.inl hp6), fun tn ntn => ?_⟩⟩
      have s7 := same_new (o := .tup (us.map V.ref)) (Same.refl H6) ntn
      have b7 := b6.same s7
      have hx7 := s7 _ _ hx6
      refine ⟨_, rfl, x, a.C, dx, _, rfl, hx7, T.cl, T.nA _ (by decide), by show 1 < 1000; decide, ?_⟩
      have b8 := b7.put (.ins a.C dx (putF "neighbours" (.ref tn) (putF "cells" (.int (n : Nat)) [])))
      have hx8 : upd (upd H6 tn (.tup (us.map V.ref))) x (.ins a.C dx (putF "neighbours" (.ref tn) (putF "cells" (.int (n : Nat)) []))) x = _ := upd_same
      have hp8 := keepNI (o' := .ins a.C dx (putF "neighbours" (.ref tn) (putF "cells" (.int (n : Nat)) []))) hx7 (s7 _ _ hp6) fun _ _ _ e => by cases e
      have tU8 := (tU6.same s7).ni hx7 (.ins a.C dx (putF "neighbours" (.ref tn) (putF "cells" (.int (n : Nat)) [])))
      have har8 := (har6.same s7).ni hx7 (.ins a.C dx (putF "neighbours" (.ref tn) (putF "cells" (.int (n : Nat)) [])))
      have hn8 := keepNI (o' := .ins a.C dx (putF "neighbours" (.ref tn) (putF "cells" (.int (n : Nat)) []))) hx7 (show upd H6 tn (.tup (us.map V.ref)) tn = _ from upd_same) fun _ _ _ e => by cases e
      generalize upd (upd H6 tn (.tup (us.map V.ref))) x (.ins a.C dx (putF "neighbours" (.ref tn) (putF "cells" (.int (n : Nat)) []))) = H8 at b8 hx8 hp8 tU8 har8 hn8 ⊢
      -- roads
      have harI : SqOf H8 ar ((lot.map fun c => ((c : Nat) : Int)).map V.int) := by rw [← ints_map]; exact har8
      refine ⟨_, rfl, ar, lot.map fun c => ((c : Nat) : Int), rfl, harI.sq, by rw [List.length_map]; omega, fun ms pl pm so npl => ⟨pl, _, rfl, .inl ⟨.inl (.inl upd_same), fun tr ntr => ?_⟩⟩⟩
      have ems := ints_back pm
      have e12 : ms.map V.int = ints_ (ms.map Int.toNat) := by rw [ints_map, ← ems]
      rw [e12] at ntr ⊢
      have prd : (ms.map Int.toNat).Perm lot := by
        have z := pm.map Int.toNat
        rw [List.map_map] at z
        exact z.trans (List.Perm.of_eq ((List.map_congr_left fun c _ => rfl).trans (List.map_id lot)))
      have srd : (ms.map Int.toNat).Pairwise (· ≤ ·) := by
        rw [List.pairwise_map]
        exact so.imp fun {a b} h => by omega
      generalize ms.map Int.toNat = rd at prd srd ntr ⊢
      have s9 := same_new (o := .lst (ints_ rd)) (Same.refl H8) npl
      have s10 := same_new (o := .tup (ints_ rd)) s9 ntr
      have hr10 : upd (upd H8 pl (.lst (ints_ rd))) tr (.tup (ints_ rd)) tr = some (.tup (ints_ rd)) := upd_same
      generalize upd (upd H8 pl (.lst (ints_ rd))) tr (.tup (ints_ rd)) = H10 at s10 hr10 ⊢
      have hx10 := s10 _ _ hx8
      refine ⟨_, rfl, x, a.C, dx, _, rfl, hx10, T.cl, T.nA _ (by decide), by show 2 < 1000; decide, ?_⟩
      have b11 := (b8.same s10).put (.ins a.C dx (putF "roads" (.ref tr) (putF "neighbours" (.ref tn) (putF "cells" (.int (n : Nat)) []))))
      have hx11 : upd H10 x (.ins a.C dx (putF "roads" (.ref tr) (putF "neighbours" (.ref tn) (putF "cells" (.int (n : Nat)) [])))) x = _ := upd_same
      have hp11 := keepNI (o' := .ins a.C dx (putF "roads" (.ref tr) (putF "neighbours" (.ref tn) (putF "cells" (.int (n : Nat)) [])))) hx10 (s10 _ _ hp8) fun _ _ _ e => by cases e
      have tU11 := (tU8.same s10).ni hx10 (.ins a.C dx (putF "roads" (.ref tr) (putF "neighbours" (.ref tn) (putF "cells" (.int (n : Nat)) []))))
      have hn11 := keepNI (o' := .ins a.C dx (putF "roads" (.ref tr) (putF "neighbours" (.ref tn) (putF "cells" (.int (n : Nat)) [])))) hx10 (s10 _ _ hn8) fun _ _ _ e => by cases e
      have hr11 := keepNI (o' := .ins a.C dx (putF "roads" (.ref tr) (putF "neighbours" (.ref tn) (putF "cells" (.int (n : Nat)) [])))) hx10 hr10 fun _ _ _ e => by cases e
      generalize upd H10 x (.ins a.C dx (putF "roads" (.ref tr) (putF "neighbours" (.ref tn) (putF "cells" (.int (n : Nat)) [])))) = H11 at b11 hx11 hp11 tU11 hn11 hr11 ⊢
      -- nearby
      refine ⟨_, rfl, _, rfl, n, p, us, es, rfl, n5, hp11, tU11, by omega, fun H12 ty uy s12 nty hy12 tY12 => ?_⟩
      have hx12 := s12 _ _ hx11
      refine ⟨_, rfl, x, a.C, dx, _, rfl, hx12, T.cl, T.nA _ (by decide), by show 3 < 1000; decide, ?_⟩
      have b13 := (b11.same s12).put (.ins a.C dx (putF "nearby" (.ref ty) (putF "roads" (.ref tr) (putF "neighbours" (.ref tn) (putF "cells" (.int (n : Nat)) [])))))
      have hx13 : upd H12 x (.ins a.C dx (putF "nearby" (.ref ty) (putF "roads" (.ref tr) (putF "neighbours" (.ref tn) (putF "cells" (.int (n : Nat)) []))))) x = _ := upd_same
      have tU13 := (tU11.same s12).ni hx12 (.ins a.C dx (putF "nearby" (.ref ty) (putF "roads" (.ref tr) (putF "neighbours" (.ref tn) (putF "cells" (.int (n : Nat)) [])))))
      have tY13 := tY12.ni hx12 (.ins a.C dx (putF "nearby" (.ref ty) (putF "roads" (.ref tr) (putF "neighbours" (.ref tn) (putF "cells" (.int (n : Nat)) [])))))
      have hn13 := keepNI (o' := .ins a.C dx (putF "nearby" (.ref ty) (putF "roads" (.ref tr) (putF "neighbours" (.ref tn) (putF "cells" (.int (n : Nat)) []))))) hx12 (s12 _ _ hn11) fun _ _ _ e => by cases e
      have hr13 := keepNI (o' := .ins a.C dx (putF "nearby" (.ref ty) (putF "roads" (.ref tr) (putF "neighbours" (.ref tn) (putF "cells" (.int (n : Nat)) []))))) hx12 (s12 _ _ hr11) fun _ _ _ e => by cases e
      have hy13 := keepNI (o' := .ins a.C dx (putF "nearby" (.ref ty) (putF "roads" (.ref tr) (putF "neighbours" (.ref tn) (putF "cells" (.int (n : Nat)) []))))) hx12 hy12 fun _ _ _ e => by cases e
      generalize upd H12 x (.ins a.C dx (putF "nearby" (.ref ty) (putF "roads" (.ref tr) (putF "neighbours" (.ref tn) (putF "cells" (.int (n : Nat)) []))))) = H13 at b13 hx13 tU13 hn13 hr13 hy13 tY13 ⊢
      -- couples
      refine ⟨_, rfl, _, rfl, by omega, by omega, fun D hD => K7E.out_range (lo := 0) (n := n) (fun i H' => Same H13 H' ∧ ∃ vs, H' D = some (.lst (vs.map V.ref)) ∧ TAt H' vs (pairs (upC n i)) ∧ vs.length ≤ i * n) ⟨same_new (Same.refl H13) hD, [], upd_same, .nil, Nat.zero_le _⟩ (fun i H' hi pv => ?_) (fun H' pv => ?_)⟩
      · obtain ⟨e14, vs, hD14, tV, lv⟩ := pv
        refine ⟨rfl, _, rfl, _, rfl, by omega, by omega, K7E.in_range (lo := 0) (n := n) (fun j H'' => Same H13 H'' ∧ ∃ vs, H'' D = some (.lst (vs.map V.ref)) ∧ TAt H'' vs (pairs (upC n i ++ rowC n i j)) ∧ vs.length ≤ i * n + j) ⟨e14, vs, hD14, ?_, lv⟩ (fun j H'' hj pv => ?_) (fun H'' pv => ?_)⟩
        · show TAt H' vs (pairs (upC n i ++ []))
          rw [List.append_nil]
          exact tV
        · obtain ⟨e15, vs, hD15, tV, lv⟩ := pv
          refine ⟨rfl, _, rfl, _, rfl, rfl, _, rfl, ?_⟩
          by_cases hij : i = j
          · subst hij
            have er : rowC n i (i + 1) = rowC n i i := by rw [rowC_succ, if_neg (fun h => h rfl), List.append_nil]
            have e16 : (!decide (V.int (0 + (i : Nat)) = V.int (0 + (i : Nat)))) = false := by rw [decide_eq_true rfl]; rfl
            rw [e16]
            refine iteF ⟨e15, vs, hD15, ?_, by omega⟩
            rw [er]
            exact tV
          · have er : rowC n i (j + 1) = rowC n i j ++ [(i, j)] := by rw [rowC_succ, if_pos hij]
            have e16 : (!decide (V.int (0 + (i : Nat)) = V.int (0 + (j : Nat)))) = true := by
              rw [decide_eq_false (fun h => by injection h with h; exact hij (by omega))]
              rfl
            have hin : i * n ≤ 25 := Nat.le_trans (Nat.mul_le_mul (Nat.le_of_lt (Nat.lt_of_lt_of_le hi n5)) n5) (by decide)
            rw [e16]
            refine iteT ⟨_, rfl, _, rfl, by show 2 ≤ sizeLine; decide, fun t nt => ?_⟩
            rw [er]
            have sT := same_new (o := .tup [.int (0 + (i : Nat)), .int (0 + (j : Nat))]) (Same.refl H'') nt
            have up : ∀ b xs, upd H'' t (.tup [.int (0 + (i : Nat)), .int (0 + (j : Nat))]) b = some (.tup xs) → upd (upd H'' t (.tup [.int (0 + (i : Nat)), .int (0 + (j : Nat))])) D (.lst (vs.map V.ref ++ [.ref t])) b = some (.tup xs) := fun b xs hb => by
              rw [upd_ne (fun z => by rw [z, sT _ _ hD15] at hb; cases hb)]
              exact hb
            refine ⟨_, sT _ _ hD15, by rw [List.length_map]; exact small1000 (by omega), fun b o hb => ?_, vs ++ [t], by rw [upd_same, List.map_append]; rfl, ?_, by rw [List.length_append, List.length_singleton]; omega⟩
            · rw [upd_ne (ne_of_none hb hD)]
              exact sT _ _ (e15 _ _ hb)
            · rw [← List.append_assoc]
              unfold pairs
              rw [List.map_append]
              refine ((tV.same sT).mono up).append (.cons (up _ _ ?_) .nil)
              rw [upd_same, Int.zero_add, Int.zero_add]
              rfl
        · obtain ⟨e15, vs, hD15, tV, lv⟩ := pv
          exact ⟨e15, vs, hD15, by rw [upC_succ]; exact tV, by rw [Nat.succ_mul]; exact lv⟩
      · obtain ⟨e14, vs, hD14, tV, lv⟩ := pv
        refine ⟨D, vs.map V.ref, rfl, .inl ⟨.inl (.inl hD14), fun tc ntc => ?_⟩⟩
        have sC := same_new (o := .tup (vs.map V.ref)) e14 ntc
        have hc14 : upd H' tc (.tup (vs.map V.ref)) tc = some (.tup (vs.map V.ref)) := upd_same
        have tV14 := tV.same (same_new (o := .tup (vs.map V.ref)) (Same.refl H') ntc)
        generalize upd H' tc (.tup (vs.map V.ref)) = H15 at sC hc14 tV14 ⊢
        have hx15 := sC _ _ hx13
        refine ⟨_, rfl, x, a.C, dx, _, rfl, hx15, T.cl, T.nA _ (by decide), by show 4 < 1000; decide, ?_⟩
        have no : ∀ (xs : List V) (C dx : Addr) fs, HO.tup xs ≠ .ins C dx fs := fun _ _ _ _ e => by cases e
        exact q _ es rd ((b13.same sC).put _) ⟨⟨dx, tn, tr, ty, tc, us, uy, vs, upd_same, keepNI hx15 (sC _ _ hn13) (no _), (tU13.same sC).ni hx15 _, keepNI hx15 (sC _ _ hr13) (no _), keepNI hx15 (sC _ _ hy13) (no _), (tY13.same sC).ni hx15 _, keepNI hx15 hc14 (no _), tV14.ni hx15 _⟩,
          n2, n5, ok, fun c hc => llt c (prd.mem_iff.mp hc), prd.nodup_iff.mpr lnd, srd, by rw [prd.length_eq]; exact l0, by rw [prd.length_eq]; exact ln⟩ pe prd
end
end K7
end
/-! ## P13 -/
section
open PySem PySem.Spec PyProof.Rows L2
namespace K7
theorem near_get {n : Nat} {es : List (Nat × Nat)} {c : Nat} (h : c < n) : (nearV n es)[c]? = some ((List.range n).filter fun b => decide ((c, b) ∈ es) || decide ((b, c) ∈ es)) := by
  unfold nearV
  rw [List.getElem?_map, List.getElem?_range h]
  rfl
def nearOf (n : Nat) (es : List (Nat × Nat)) (c : Nat) : List Nat := (List.range n).filter fun b => decide ((c, b) ∈ es) || decide ((b, c) ∈ es)
/-- a cell, or what is no cell and is told so -/
def CellOr (B : Addr) (n : Nat) (H : Hp) (x : V) (E : XK) (q : Nat → Prop) : Prop := (∃ c, x = .int (c : Nat) ∧ c < n ∧ q c) ∨ (Thing H x ∧ wholeV x 0 ((n : Nat) - 1) = false ∧ Flies H B "cell" x E)
theorem whole_cell {n c : Nat} (h : c < n) : wholeV (.int (c : Nat)) 0 (((n : Nat) : Int) - 1) = true := by
  rw [wholeV_int, decide_eq_true (by omega), decide_eq_true (by omega)]
  rfl
theorem one_in {n c : Nat} (h : c < n) : AllIn n [.int (c : Nat)] := fun x hx => by
  rw [List.mem_singleton.mp hx]
  exact whole_cell h
/-! is_lot, is_couple -/
section
variable {P : Program} {w : World} {K : PySem.W.Frag} {mg : Str → Option Value} {base : Heap} {a : AdL}
def NoSeq (K : PySem.W.Frag) (H : Hp) (x : V) : Prop := ∃ t : String, (∀ H1, Same H H1 → TyX K H1 x (.type t)) ∧ PySem.W.kitAny K (.type t) [.type "list", .type "tuple"] = some false
def spIsLot (K : PySem.W.Frag) (C : Addr) : Sp := fun vs H Q _ => ∃ (p : Addr) (n : Nat) (x : V) (least : Int), vs = [.ref p, x, .int least] ∧ LandC C H p n ∧
  ((NoSeq K H x ∧ ∀ H1, Same H H1 → Q (.bl false) H1) ∨ (∃ (b : Addr) (xs : List V), x = .ref b ∧ SqOf H b xs ∧ (∀ y ∈ xs, Thing H y) ∧ xs.length < 64 ∧ ∀ H1, Same H H1 → Q (.bl (cellsV (n : Nat) xs least)) H1))
theorem ok_islot (T : Tl K mg a) {f fC : Addr} {fd fdC : FuncData} (F : Fun K "is_lot" "is_lot" s_is_lot f fd)
    (Gac : FnOk P w K mg base CX0 2 fC fdC ["many", "thing", "least"] (spCells K)) (gac : mg "are_cells" = some (.ref fC)) (kac : PySem.W.keepIn K (.ref fC) = true) (bac : Binds K fdC ["many", "thing", "least"] []) : FnOk P w K mg base CX0 3 f fd ["land", "thing", "least"] (spIsLot K a.C) := by
  refine F.ok sc_is_lot (fun vs H Q E h => ?_) (fun cdv A outer s H vs Q E hr h => ?_)
  · obtain ⟨p, n, x, l, rfl, _⟩ := h
    rfl
  · obtain ⟨p, n, x, l, rfl, ⟨dx, fs, hp, hl⟩, h⟩ := h
    refine ⟨_, (pss_one (ps_ret (pe_call Gac (hr.mono (by decide)) (by rfl) gac kac bac .nil pass0 (pa_cons (pe_fld (pv 0) rfl) (pa_cons (pv 1) (pa_cons (pv 2) pa_nil)))))), ?_⟩
    refine ⟨_, rfl, p, a.C, dx, fs, _, rfl, hp, T.cl, T.nA _ (by decide), hl, _, rfl, _, rfl, (n : Nat), x, l, rfl, ?_⟩
    rcases h with ⟨⟨t, ty, k⟩, q⟩ | ⟨b, xs, rfl, hb, th, h64, q⟩
    · exact .inl ⟨t, ty, k, q⟩
    · exact .inr ⟨b, xs, rfl, hb, th, h64, q⟩
end
end K7
end
/-! ## EN -/
section
/-! x == y, x != y by x's own __eq__, x an instance of an own class without a __ne__. -/
namespace K7E
open PySem PySem.Spec PyProof.Rows L2
theorem slot_obj_ne : Slot "object" "__ne__" "object.__ne__" := .of (owner := "object") (n := "__ne__") (by rw [typeLookup_type, builtinLookup_eq_fast]; kernel_rfl) (by decide +kernel) (by decide +kernel) (by decide +kernel) (.inl (by decide +kernel)) (by rw [isSubtype_type]; kernel_rfl)
section
variable {prog : Program} {w : World} {A : Around} {E : Value → Shared → Prop} {s : Shared} {K : PySem.W.Frag} {x C L f : Addr} {h₀ : Heap} {m : Str → Option Value} {ox : Obj} {od : Option Obj} {b tb : Value}
open PySem.W in
theorem ne_K {Q : Value → Shared → Prop} (hu : A.units + 1 < cLine) (FF : Fr h₀ L s.heap m) (X₀ : K.In h₀) (I : InstAt s.heap x ox C od) (hb : Looks (model prog w) s.heap (typeOf b) tb) (hn : notFirst K C tb = true) (hm : mroIn K C (.type "object") = some true)
    (hs : findIn K (.ref C) "__ne__" = some (some (.builtin "object.__ne__"))) (he : findIn K (.ref C) "__eq__" = some (some (.ref f))) (hf : isFn K (.ref f) = true)
    (h : wpAny (model prog w) A.in1 (call (.ref f) [.ref x, b]) (fun v s' => ∃ c, v = .bool c ∧ Q (.bool (!c)) s') E s) : wpAny (model prog w) A (richCompare .NotEq (.ref x) b) Q E s := by
  have X := X₀.keeps FF.keep
  have inner : wpAny (model prog w) A.in1 (Builtin.«object.__ne__» ⟨[.ref x, b], []⟩) (fun fin s' => ∃ c, fin = .done (.ret (.bool (!c))) ∧ Q (.bool (!c)) s') E s := by
    unfold Builtin.«object.__ne__»
    repeat (first
      | with_reducible refine wpAny_cRoomFor (show A.in1.units < cLine from hu) ?_
      | (refine wpAny_bind (m := callSpecialIfBound? (.ref x) (Str.ofString "__eq__") [b]) (ifBound_K X I he hf (wpAny_mono h (fun r s' hr => by
          obtain ⟨c, rfl, hq⟩ := hr
          repeat (first | exact ⟨c, rfl, hq⟩ | exact wpAny_pure ⟨c, rfl, hq⟩ | exact wpAny_truthy_bool ⟨c, rfl, hq⟩ | (refine wpAny_bind (m := truthy (.bool _)) (wpAny_truthy_bool ?_)) | wp_step)) fun _ _ e => e)))
      | wp_step)
  have mid : wpAny (model prog w) A (callSpecialIfBound? (.ref x) "__ne__" [b]) (fun r s' => ∃ c, r = some (.bool (!c)) ∧ Q (.bool (!c)) s') E s := by
    simp only [callSpecialIfBound?, bindSpecialIfBound?]
    refine wpAny_holding (wpAny_bind (wpAny_bind (wpAny_bind (I.type.here ((looks_findIn X hs).here ?_)))))
    simp only [slot_obj_ne.bind]
    refine wpAny_bind (wpAny_askSetting (wpAny_ite ?_))
    have fin : wpAny (model prog w) A (call (.builtin "object.__ne__") ([.ref x] ++ [b]) >>= fun v => pure (some v)) (fun r s' => ∃ c, r = some (.bool (!c)) ∧ Q (.bool (!c)) s') E s := by
      refine wpAny_bind (wpAny_call (codeAny_call_builtin slot_obj_ne.plain F.cmpEntry_ne (check_slot F.cmpKind_ne F.cmpSplit_ne (I.type.andThen (looks_mroIn X hm)) (F.cmpArgs_ne _ _) (wpAny_mono inner (fun fin s' z => ?_) fun _ _ e => e))))
      obtain ⟨c, rfl, hq⟩ := z
      exact wpAny_pure ⟨c, rfl, hq⟩
    split
    · exact wpAny_bind (wpAny_pure (wpAny_pure fin))
    · exact wpAny_tryCatch (wpAny_bind (wpAny_pure (wpAny_pure fin)))
  have one : wpAny (model prog w) A (tryCompare (.ref x) "__ne__" b) (fun r s' => ∃ c, r = some (.bool (!c)) ∧ Q (.bool (!c)) s') E s := by
    simp only [tryCompare]
    refine wpAny_bind (wpAny_mono mid (fun r s' ⟨c, er, hq⟩ => ?_) fun _ _ e => e)
    rw [er]
    exact wpAny_pure ⟨c, rfl, hq⟩
  unfold richCompare
  simp only [oneThing_ref]
  refine wpAny_holding (wpAny_bind (wpAny_cRoomFor (Nat.lt_of_succ_lt hu) (wpAny_bind (I.type.here (wpAny_bind (hb.here ?_))))))
  rw [cmpInfo_NotEq]
  dsimp only
  have last : wpAny (model prog w) A (tryCompare (.ref x) "__ne__" b) (fun r s' => ∃ c, r = some (.bool (!c)) ∧ Q (.bool (!c)) s') E s := one
  split
  · rename_i q
    have e : subIn K tb (.ref C) = some false := by
      rcases Bool.or_eq_true_iff.mp hn with e | e
      · rw [beq_iff_eq.mp e] at q; simp at q
      · exact beq_iff_eq.mp e
    refine wpAny_bind ((looks_subIn X e).here ?_)
    simp only [Bool.false_eq_true, if_false]
    refine wpAny_bind (wpAny_mono last (fun r s' ⟨c, er, hq⟩ => ?_) fun _ _ e => e)
    rw [er]
    exact wpAny_pure hq
  · refine wpAny_bind (wpAny_pure ?_)
    simp only [Bool.false_eq_true, if_false]
    refine wpAny_bind (wpAny_mono last (fun r s' ⟨c, er, hq⟩ => ?_) fun _ _ e => e)
    rw [er]
    exact wpAny_pure hq
end
/-! ### x == y by x's own __eq__ -/
def rEqO (K : PySem.W.Frag) (C : Addr) (sp : Sp) (E : XK) : R2 := fun x y H Q => ∃ (a dx : Addr) (fs : List (Str × V)) (b : Addr) (t : Value), x = .ref a ∧ y = .ref b ∧ H a = some (.ins C dx fs) ∧ TyX K H y t ∧ PySem.W.notFirst K C t = true ∧ sp [x, y] H Q E
section
variable {X : Cx}
theorem op_eqOwn {CX : CXT} {C g : Addr} {fd : FuncData} {ps : List Str} {sp : Sp} {E : XK} {n : Nat} (F : FnOk X.prog X.w X.K X.mg X.base CX n g fd ps sp) (hs : PySem.W.findIn X.K (.ref C) "__eq__" = some (some (.ref g))) (hf : PySem.W.isFn X.K (.ref g) = true) (hb : Binds X.K fd ps [])
    (hr : Room n X.A) (hx : Passes CX X E) : OpR X (compareOp .Eq) (rEqO X.K C sp E) := by
  intro pins s σ H x y v u Q I rx ry h
  obtain ⟨a, dx, fs, b, t, rfl, rfl, ha, ty, hn, q⟩ := h
  cases (show v = Value.ref a from rx)
  cases (show u = Value.ref b from ry)
  obtain ⟨mA, J, _⟩ := ins_get I.hok ha
  obtain ⟨od, J, _⟩ := J.look
  obtain ⟨P, Z, hp, hne⟩ := kit_of I (show RelV (.ref b) (Value.ref b) from rfl) ty
  obtain ⟨m, hF⟩ := I.fr
  have hl := F.len _ _ _ _ q
  have r2 : Vals [V.ref a, V.ref b] [Value.ref a, Value.ref b] := .cons rfl (.cons rfl .nil)
  refine PySem.W.cmp_K (op := .Eq) (tb := t) hr.units0 hF I.ok.mod.kin J (Z.ty _ _ I.kIn hp) hn hs hf ?_
  refine wpAny_mono (wpAny_call (run_fnR (us := [.ref a, .ref b]) (vs := [.ref a, .ref b]) (F.raw hb .nil) hr hx I r2 q)) (fun w s' z => ?_) fun _ _ x => x
  obtain ⟨z', H', I', rz, qz⟩ := z
  exact SlX.cmpback rz ⟨z', H', I', rz, qz⟩
/-- x != y -/
theorem op_neOwn {CX : CXT} {C g : Addr} {fd : FuncData} {ps : List Str} {sp : Sp} {E : XK} {n : Nat} (F : FnOk X.prog X.w X.K X.mg X.base CX n g fd ps sp) (hs : PySem.W.findIn X.K (.ref C) "__ne__" = some (some (.builtin "object.__ne__"))) (hm : PySem.W.mroIn X.K C (.type "object") = some true)
    (he : PySem.W.findIn X.K (.ref C) "__eq__" = some (some (.ref g))) (hf : PySem.W.isFn X.K (.ref g) = true) (hb : Binds X.K fd ps []) (hr : Room (n + 1) X.A) (hx : Passes CX X E) : OpR X (compareOp .NotEq) (fun x y H Q => ∃ (a dx : Addr) (fs : List (Str × V)) (b : Addr) (t : Value), x = .ref a ∧ y = .ref b ∧ H a = some (.ins C dx fs) ∧ TyX X.K H y t ∧ PySem.W.notFirst X.K C t = true ∧ sp [x, y] H (fun z H' => ∃ c, z = .bl c ∧ Q (.bl (!c)) H') E) := by
  intro pins s τ H x y v u Q I rx ry h
  obtain ⟨a, dx, fs, b, t, rfl, rfl, ha, ty, hn, q⟩ := h
  cases (show v = Value.ref a from rx)
  cases (show u = Value.ref b from ry)
  obtain ⟨mA, J, _⟩ := ins_get I.hok ha
  obtain ⟨od, J, _⟩ := J.look
  obtain ⟨P, Z, hp, hne⟩ := kit_of I (show RelV (.ref b) (Value.ref b) from rfl) ty
  obtain ⟨m, hF⟩ := I.fr
  have hl := F.len _ _ _ _ q
  have r2 : Vals [V.ref a, V.ref b] [Value.ref a, Value.ref b] := .cons rfl (.cons rfl .nil)
  have hu : X.A.units + 1 < cLine := by have := hr.un; omega
  refine ne_K (tb := t) hu hF I.ok.mod.kin J (Z.ty _ _ I.kIn hp) hn hm hs he hf ?_
  refine wpAny_call (codeAny_mono (F.run X.A.in1 X.stack s H ⟨[.ref a, .ref b], []⟩ [.ref a, .ref b] [.ref a, .ref b] _ E hr.in1 I.env0.in1 (hb s [.ref a, .ref b] I.kIn hl) r2 q) fun r s' hq => ?_)
  cases r with
  | error e => exact hx pins τ H s e s' I hq
  | ok fl =>
    cases fl with
    | ret u =>
      obtain ⟨z', H', I', rz, c, ez, qz⟩ := I.after hq
      subst ez
      cases (show u = Value.bool c from rz)
      exact ⟨c, rfl, .bl (!c), H', I', rfl, qz⟩
    | next => exact False.elim hq
    | brk => exact False.elim hq
    | cont => exact False.elim hq
end
end K7E
end
/-! ## WY -/
section
/-! ## ways over passing cells (no program in them) -/
namespace KW2
def lastN (w : List Nat) : Nat := w.getLastD 0
/-- shorter, or as long and not greater -/
def sle (u v : List Nat) : Prop := u.length < v.length ∨ (u.length = v.length ∧ ¬ v < u)
def slt (u v : List Nat) : Prop := u.length < v.length ∨ (u.length = v.length ∧ u < v)
theorem lt_cons {a b : Nat} {l m : List Nat} : a :: l < b :: m ↔ a < b ∨ a = b ∧ l < m := List.cons_lt_cons_iff
theorem lt_irr (u : List Nat) : ¬ u < u := by
  induction u with
  | nil => exact fun h => by cases h
  | cons a u ih => exact fun h => (lt_cons.mp h).elim (Nat.lt_irrefl a) fun z => ih z.2
theorem lt_tri : ∀ (u v : List Nat), u.length = v.length → u < v ∨ u = v ∨ v < u
  | [], [], _ => .inr (.inl rfl)
  | a :: u, b :: v, h => by
    rcases Nat.lt_trichotomy a b with z | z | z
    · exact .inl (lt_cons.mpr (.inl z))
    · subst z
      rcases lt_tri u v (Nat.succ.inj h) with y | y | y
      · exact .inl (lt_cons.mpr (.inr ⟨rfl, y⟩))
      · exact .inr (.inl (by rw [y]))
      · exact .inr (.inr (lt_cons.mpr (.inr ⟨rfl, y⟩)))
    · exact .inr (.inr (lt_cons.mpr (.inl z)))
theorem lt_tr : ∀ (u v w : List Nat), u < v → v < w → u < w
  | _, [], _, h, _ => by cases h
  | _, _ :: _, [], _, h => by cases h
  | [], b :: v, x :: w, _, _ => List.Lex.nil
  | a :: u, b :: v, x :: w, h1, h2 => by
    rcases lt_cons.mp h1 with y | ⟨y, z⟩ <;> rcases lt_cons.mp h2 with y' | ⟨y', z'⟩
    · exact lt_cons.mpr (.inl (by omega))
    · exact lt_cons.mpr (.inl (by omega))
    · exact lt_cons.mpr (.inl (by omega))
    · exact lt_cons.mpr (.inr ⟨by omega, lt_tr u v w z z'⟩)
theorem lt_app : ∀ (u v : List Nat) (a b : List Nat), u.length = v.length → u < v → u ++ a < v ++ b
  | [], [], _, _, _, h => absurd h (lt_irr [])
  | x :: u, y :: v, a, b, hl, h => by
    rcases lt_cons.mp h with z | ⟨z, z'⟩
    · exact lt_cons.mpr (.inl z)
    · exact lt_cons.mpr (.inr ⟨z, lt_app u v a b (Nat.succ.inj hl) z'⟩)
theorem lt_tail : ∀ (u : List Nat) {a b : Nat}, a < b → u ++ [a] < u ++ [b]
  | [], a, b, h => lt_cons.mpr (.inl h)
  | x :: u, a, b, h => lt_cons.mpr (.inr ⟨rfl, lt_tail u h⟩)
theorem sle_app {u v : List Nat} (h : sle u v) (x : Nat) : sle (u ++ [x]) (v ++ [x]) := by
  rcases h with h | ⟨h, z⟩
  · exact .inl (by simp only [List.length_append, List.length_singleton]; omega)
  · refine .inr ⟨by simp only [List.length_append, List.length_singleton]; omega, ?_⟩
    rcases lt_tri u v h with y | y | y
    · exact fun e => lt_irr _ (lt_tr _ _ _ e (lt_app u v [x] [x] h y))
    · subst y
      exact lt_irr _
    · exact absurd y z
theorem sle_refl (u : List Nat) : sle u u := .inr ⟨rfl, lt_irr u⟩
theorem sle_trans {u v w : List Nat} (h1 : sle u v) (h2 : sle v w) : sle u w := by
  rcases h1 with h1 | ⟨h1, z1⟩ <;> rcases h2 with h2 | ⟨h2, z2⟩
  · exact .inl (by omega)
  · exact .inl (by omega)
  · exact .inl (by omega)
  · refine .inr ⟨by omega, fun e => ?_⟩
    rcases lt_tri u v h1 with y | y | y
    · rcases lt_tri v w h2 with y' | y' | y'
      · exact lt_irr _ (lt_tr _ _ _ e (lt_tr _ _ _ y y'))
      · subst y'
        exact lt_irr _ (lt_tr _ _ _ e y)
      · exact z2 y'
    · subst y
      exact z2 e
    · exact z1 y
theorem slt_sle {u v : List Nat} (h : slt u v) : sle u v := h.imp id fun z => ⟨z.1, fun e => lt_irr _ (lt_tr _ _ _ e z.2)⟩
theorem slt_not {u v : List Nat} (h : slt u v) : ¬ sle v u := by
  rintro (z | ⟨z, y⟩)
  · rcases h with h | ⟨h, _⟩ <;> omega
  · rcases h with h | ⟨_, h⟩
    · omega
    · exact y h
theorem slt_app {u v : List Nat} (h : slt u v) (x y : Nat) : slt (u ++ [x]) (v ++ [y]) := by
  rcases h with h | ⟨h, z⟩
  · exact .inl (by simp only [List.length_append, List.length_singleton]; omega)
  · exact .inr ⟨by simp only [List.length_append, List.length_singleton]; omega, lt_app u v _ _ h z⟩
theorem last_app (w : List Nat) (b : Nat) : lastN (w ++ [b]) = b := by
  unfold lastN
  rw [List.getLastD_eq_getLast?, List.getLast?_append]
  rfl
section
variable {E : Nat → Nat → Prop} {ps : List Nat} {c : Nat}
/-- a walk over passing cells, and its end -/
inductive Wk (E : Nat → Nat → Prop) (ps : List Nat) (c : Nat) : List Nat → Nat → Prop
  | base : Wk E ps c [c] c
  | step {w : List Nat} {a b : Nat} (h : Wk E ps c w a) (e : E a b) (p : b ∈ ps) : Wk E ps c (w ++ [b]) b
/-- a way: no cell twice -/
inductive Wy (E : Nat → Nat → Prop) (ps : List Nat) (c : Nat) : List Nat → Nat → Prop
  | base : Wy E ps c [c] c
  | step {w : List Nat} {a b : Nat} (h : Wy E ps c w a) (e : E a b) (p : b ∈ ps) (n : b ∉ w) : Wy E ps c (w ++ [b]) b
theorem Wk.last {w : List Nat} {a : Nat} (h : Wk E ps c w a) : lastN w = a := by
  cases h with
  | base => rfl
  | step => exact last_app _ _
theorem Wk.pos {w : List Nat} {a : Nat} (h : Wk E ps c w a) : 0 < w.length := by
  cases h with
  | base => exact Nat.one_pos
  | step => simp
theorem Wy.wk {w : List Nat} {a : Nat} (h : Wy E ps c w a) : Wk E ps c w a := by
  induction h with
  | base => exact .base
  | step _ e p _ ih => exact .step ih e p
theorem Wy.nodup {w : List Nat} {a : Nat} (h : Wy E ps c w a) : w.Nodup := by
  induction h with
  | base => simp
  | @step w a b _ e p n ih =>
    rw [List.nodup_append]
    refine ⟨ih, by simp, fun x hx y hy => ?_⟩
    rw [List.mem_singleton.mp hy]
    exact fun e => n (e ▸ hx)
theorem Wy.lt {w : List Nat} {a n : Nat} (hc : c < n) (hp : ∀ x ∈ ps, x < n) (h : Wy E ps c w a) : ∀ x ∈ w, x < n := by
  induction h with
  | base => intro x hx; rw [List.mem_singleton.mp hx]; exact hc
  | step _ e p _ ih =>
    intro x hx
    rcases List.mem_append.mp hx with z | z
    · exact ih x z
    · rw [List.mem_singleton.mp z]; exact hp _ p
/-- a way to each cell of a way -/
theorem Wy.cut {w : List Nat} {a : Nat} (h : Wy E ps c w a) : ∀ b ∈ w, ∃ v, Wy E ps c v b := by
  induction h with
  | base => intro b hb; rw [List.mem_singleton.mp hb]; exact ⟨_, .base⟩
  | step h e p n ih =>
    intro x hx
    rcases List.mem_append.mp hx with z | z
    · exact ih x z
    · rw [List.mem_singleton.mp z]; exact ⟨_, .step h e p n⟩
theorem rch_way {x : Nat} (h : KL.Rch E ps c x) : ∃ w, Wy E ps c w x := by
  induction h with
  | base => exact ⟨_, .base⟩
  | @step a b _ e p ih =>
    obtain ⟨w, hw⟩ := ih
    by_cases hb : b ∈ w
    · exact hw.cut b hb
    · exact ⟨_, .step hw e p hb⟩
theorem wk_rch {w : List Nat} {x : Nat} (h : Wk E ps c w x) : KL.Rch E ps c x := by
  induction h with
  | base => exact .base
  | step _ e p ih => exact .step ih e p
/-! ### the first ways of all -/
/-- the ways found so far: d of them are gone through, all of whose ends are no goals -/
structure Bf (E : Nat → Nat → Prop) (ps : List Nat) (c : Nat) (rd : List Nat) (W : List (List Nat)) (d : Nat) : Prop where
  d0 : d ≤ W.length
  at0 : W[0]? = some [c]
  way : ∀ w ∈ W, Wy E ps c w (lastN w)
  sub : ∀ w ∈ W, ∀ x ∈ w, x ∈ W.map lastN
  nd : (W.map lastN).Nodup
  ord : W.Pairwise slt
  org : ∀ w ∈ W, w = [c] ∨ ∃ i u y, i < d ∧ W[i]? = some u ∧ w = u ++ [y]
  cl : ∀ i u, i < d → W[i]? = some u → ∀ x, E (lastN u) x → x ∈ ps → ∃ w ∈ W, lastN w = x ∧ sle w (u ++ [x])
  no : ∀ i u, i < d → W[i]? = some u → lastN u ∉ rd
theorem Bf.start {rd : List Nat} : Bf E ps c rd [[c]] 0 := by
  refine ⟨Nat.zero_le _, rfl, fun w hw => ?_, fun w hw x hx => ?_, by simp, by simp, fun w hw => .inl (List.mem_singleton.mp hw), fun i u h => absurd h (Nat.not_lt_zero _), fun i u h => absurd h (Nat.not_lt_zero _)⟩
  · rw [List.mem_singleton.mp hw]; exact .base
  · rw [List.mem_singleton.mp hw] at hx
    rw [List.mem_singleton.mp hx]
    exact List.mem_singleton.mpr rfl
def news (ps : List Nat) (W : List (List Nat)) (l : List Nat) : List Nat := l.filter fun b => decide (b ∈ ps) && !decide (b ∈ W.map lastN)
theorem Bf.step {rd : List Nat} {W : List (List Nat)} {d : Nat} {w : List Nat} {l : List Nat} (B : Bf E ps c rd W d) (hw : W[d]? = some w) (hr : lastN w ∉ rd) (hl : l.Pairwise (· < ·)) (he : ∀ b, b ∈ l ↔ E (lastN w) b) :
    Bf E ps c rd (W ++ (news ps W l).map fun b => w ++ [b]) (d + 1) := by
  have wm : w ∈ W := List.mem_of_getElem? hw
  have dl : d < W.length := (List.getElem?_eq_some_iff.mp hw).1
  have wy := B.way w wm
  have mp : (W ++ (news ps W l).map fun b => w ++ [b]).map lastN = W.map lastN ++ news ps W l := by
    rw [List.map_append, List.map_map]
    congr 1
    exact (List.map_congr_left fun b _ => last_app w b).trans (List.map_id _)
  have nw : ∀ b, b ∈ news ps W l ↔ b ∈ l ∧ b ∈ ps ∧ b ∉ W.map lastN := fun b => by
    unfold news
    rw [List.mem_filter, Bool.and_eq_true, decide_eq_true_eq, Bool.not_eq_true', decide_eq_false_iff_not]
  have old : ∀ {i : Nat} {u : List Nat}, W[i]? = some u → (W ++ (news ps W l).map fun b => w ++ [b])[i]? = some u := fun {i u} h => by
    rw [List.getElem?_append_left (List.getElem?_eq_some_iff.mp h).1]; exact h
  have back : ∀ {i : Nat} {u : List Nat}, i < d + 1 → (W ++ (news ps W l).map fun b => w ++ [b])[i]? = some u → W[i]? = some u := fun {i u} hi h => by
    rwa [List.getElem?_append_left (by omega)] at h
  have lows : ∀ v ∈ W, ∀ b, slt v (w ++ [b]) := by
    intro v hv b
    rcases B.org v hv with e | ⟨i, u, y, hi, hu, e⟩
    · rw [e]
      exact .inl (by have := wy.wk.pos; simp only [List.length_append, List.length_singleton]; omega)
    · rw [e]
      refine slt_app ?_ y b
      have il : i < W.length := (List.getElem?_eq_some_iff.mp hu).1
      have z := List.pairwise_iff_getElem.mp B.ord i d il dl hi
      rw [(List.getElem?_eq_some_iff.mp hu).2, (List.getElem?_eq_some_iff.mp hw).2] at z
      exact z
  refine ⟨by rw [List.length_append]; omega, old B.at0, fun v hv => ?_, fun v hv x hx => ?_, ?_, ?_, fun v hv => ?_, fun i u hi hu x ex px => ?_, fun i u hi hu => ?_⟩
  · rcases List.mem_append.mp hv with z | z
    · exact B.way v z
    · obtain ⟨b, hb, rfl⟩ := List.mem_map.mp z
      obtain ⟨b1, b2, b3⟩ := (nw b).mp hb
      rw [last_app]
      exact .step wy ((he b).mp b1) b2 fun hm => b3 (B.sub w wm b hm)
  · rw [mp]
    rcases List.mem_append.mp hv with z | z
    · exact List.mem_append_left _ (B.sub v z x hx)
    · obtain ⟨b, hb, rfl⟩ := List.mem_map.mp z
      rcases List.mem_append.mp hx with y | y
      · exact List.mem_append_left _ (B.sub w wm x y)
      · rw [List.mem_singleton.mp y]
        exact List.mem_append_right _ hb
  · rw [mp, List.nodup_append]
    refine ⟨B.nd, (List.nodup_iff_pairwise_ne.mpr (hl.imp fun h => Nat.ne_of_lt h)).filter _, fun x hx y hy e => ?_⟩
    exact ((nw y).mp hy).2.2 (e ▸ hx)
  · rw [List.pairwise_append]
    refine ⟨B.ord, ?_, fun v hv u hu => ?_⟩
    · rw [List.pairwise_map]
      refine List.Pairwise.imp (fun {x y} h => ?_) (List.Pairwise.filter _ hl)
      exact .inr ⟨by simp, lt_tail w h⟩
    · obtain ⟨b, _, rfl⟩ := List.mem_map.mp hu
      exact lows v hv b
  · rcases List.mem_append.mp hv with z | z
    · rcases B.org v z with e | ⟨i, u, y, hi, hu, e⟩
      · exact .inl e
      · exact .inr ⟨i, u, y, by omega, old hu, e⟩
    · obtain ⟨b, _, rfl⟩ := List.mem_map.mp z
      exact .inr ⟨d, w, b, by omega, old hw, rfl⟩
  · have hu := back hi hu
    rcases Nat.lt_or_ge i d with z | z
    · obtain ⟨v, hv, h1, h2⟩ := B.cl i u z hu x ex px
      exact ⟨v, List.mem_append_left _ hv, h1, h2⟩
    · obtain rfl : i = d := by omega
      rw [hw] at hu
      obtain rfl := Option.some.inj hu
      by_cases hm : x ∈ W.map lastN
      · obtain ⟨v, hv, e⟩ := List.mem_map.mp hm
        exact ⟨v, List.mem_append_left _ hv, e, slt_sle (lows v hv x)⟩
      · exact ⟨w ++ [x], List.mem_append_right _ (List.mem_map.mpr ⟨x, (nw x).mpr ⟨(he x).mpr ex, px, hm⟩, rfl⟩), last_app w x, sle_refl _⟩
  · have hu := back hi hu
    rcases Nat.lt_or_ge i d with z | z
    · exact B.no i u z hu
    · obtain rfl : i = d := by omega
      rw [hw] at hu
      obtain rfl := Option.some.inj hu
      exact hr
/-- each walk that is no later than what is gone through ends where one that is gone through does -/
theorem Bf.meets {rd : List Nat} {W : List (List Nat)} {d : Nat} (B : Bf E ps c rd W d) (bound : List Nat → Prop) (hb : ∀ u b, bound (u ++ [b]) → 0 < u.length → bound u) (hd : ∀ i u v, W[i]? = some u → sle u v → bound v → i < d) :
    ∀ v a, Wk E ps c v a → bound v → ∃ i u, i < d ∧ W[i]? = some u ∧ lastN u = a ∧ sle u v := by
  intro v a h
  induction h with
  | base => exact fun bv => ⟨0, [c], hd 0 [c] [c] B.at0 (sle_refl _) bv, B.at0, rfl, sle_refl _⟩
  | @step w a b h e p ih =>
    intro bv
    obtain ⟨i, u, hi, hu, hl, hs⟩ := ih (hb w b bv h.pos)
    obtain ⟨u', hu', e1, e2⟩ := B.cl i u hi hu b (by rw [hl]; exact e) p
    obtain ⟨j, hj, ej⟩ := List.getElem_of_mem hu'
    have hj' : W[j]? = some u' := by rw [List.getElem?_eq_getElem hj, ej]
    have s2 := sle_trans e2 (sle_app hs b)
    exact ⟨j, u', hd j u' _ hj' s2 bv, hj', e1, s2⟩
theorem Bf.none {rd : List Nat} {W : List (List Nat)} (B : Bf E ps c rd W W.length) {v : List Nat} {a : Nat} (h : Wk E ps c v a) : a ∉ rd := by
  obtain ⟨i, u, hi, hu, hl, _⟩ := B.meets (fun _ => True) (fun _ _ _ _ => trivial) (fun i u v hu _ _ => (List.getElem?_eq_some_iff.mp hu).1) v a h trivial
  rw [← hl]
  exact B.no i u hi hu
theorem Bf.least {rd : List Nat} {W : List (List Nat)} {d : Nat} {w : List Nat} (B : Bf E ps c rd W d) (hw : W[d]? = some w) {v : List Nat} {a : Nat} (h : Wk E ps c v a) (ha : a ∈ rd) : sle w v := by
  refine Classical.byContradiction fun hn => ?_
  have neg : ∀ x : List Nat, ¬ sle w x → slt x w := fun x hx => by
    rcases Nat.lt_trichotomy x.length w.length with z | z | z
    · exact .inl z
    · rcases lt_tri x w z with y | y | y
      · exact .inr ⟨z, y⟩
      · exact absurd (y ▸ sle_refl _) hx
      · exact absurd (.inr ⟨z.symm, fun e => lt_irr _ (lt_tr _ _ _ e y)⟩) hx
    · exact absurd (.inl z) hx
  have dl : d < W.length := (List.getElem?_eq_some_iff.mp hw).1
  obtain ⟨i, u, hi, hu, hl, _⟩ := B.meets (fun x => slt x w) (fun u b z h0 => by
    rcases z with z | ⟨z, _⟩
    · exact .inl (by rw [List.length_append, List.length_singleton] at z; omega)
    · exact .inl (by rw [List.length_append, List.length_singleton] at z; omega)) (fun i u v hu hs hb => Nat.not_le.mp fun hdi => by
      have il : i < W.length := (List.getElem?_eq_some_iff.mp hu).1
      have wu : sle w u := by
        rcases Nat.eq_or_lt_of_le hdi with e | e
        · subst e
          rw [hw] at hu
          obtain rfl := Option.some.inj hu
          exact sle_refl _
        · have z := List.pairwise_iff_getElem.mp B.ord d i dl il e
          rw [(List.getElem?_eq_some_iff.mp hu).2, (List.getElem?_eq_some_iff.mp hw).2] at z
          exact slt_sle z
      exact slt_not hb (sle_trans wu hs)) v a h (neg v hn)
  exact B.no i u hi hu (hl ▸ ha)
/-! ### all ways of a length -/
def grow (es : Nat → Nat → Bool) (ps : List Nat) (w : List Nat) : List (List Nat) := (ps.filter fun o => !decide (o ∈ w) && es (lastN w) o).map fun o => w ++ [o]
def lvl (es : Nat → Nat → Bool) (ps : List Nat) (c : Nat) : Nat → List (List Nat)
  | 0 => [[c]]
  | t + 1 => (lvl es ps c t).flatMap (grow es ps)
theorem lvl_iff {es : Nat → Nat → Bool} (he : ∀ a b, es a b = true ↔ E a b) : ∀ (t : Nat) (w : List Nat), w ∈ lvl es ps c t ↔ (∃ a, Wy E ps c w a) ∧ w.length = t + 1
  | 0, w => by
    constructor
    · intro h
      rw [List.mem_singleton.mp h]
      exact ⟨⟨_, .base⟩, rfl⟩
    · rintro ⟨⟨a, h⟩, hl⟩
      cases h with
      | base => exact List.mem_singleton.mpr rfl
      | step h e p n => have := h.wk.pos; rw [List.length_append, List.length_singleton] at hl; omega
  | t + 1, w => by
    show w ∈ (lvl es ps c t).flatMap (grow es ps) ↔ _
    rw [List.mem_flatMap]
    constructor
    · rintro ⟨u, hu, hw⟩
      obtain ⟨⟨a, ha⟩, hl⟩ := (lvl_iff he t u).mp hu
      obtain ⟨o, ho, rfl⟩ := List.mem_map.mp hw
      obtain ⟨o1, o2⟩ := List.mem_filter.mp ho
      rw [Bool.and_eq_true, Bool.not_eq_true', decide_eq_false_iff_not] at o2
      have e := (he _ _).mp o2.2
      rw [ha.wk.last] at e
      exact ⟨⟨_, .step ha e o1 o2.1⟩, by rw [List.length_append, hl]; rfl⟩
    · rintro ⟨⟨a, h⟩, hl⟩
      cases h with
      | base => simp at hl
      | @step u a b h e p n =>
        rw [List.length_append, List.length_singleton] at hl
        refine ⟨u, (lvl_iff he t u).mpr ⟨⟨_, h⟩, by omega⟩, List.mem_map.mpr ⟨_, List.mem_filter.mpr ⟨p, ?_⟩, rfl⟩⟩
        rw [Bool.and_eq_true, Bool.not_eq_true', decide_eq_false_iff_not]
        exact ⟨n, (he _ _).mpr (by rw [h.wk.last]; exact e)⟩
theorem grow_len (es : Nat → Nat → Bool) (ps : List Nat) (w : List Nat) : (grow es ps w).length ≤ ps.length := by
  unfold grow
  rw [List.length_map]
  exact List.length_filter_le _ _
theorem flat_len (es : Nat → Nat → Bool) (ps : List Nat) : ∀ ws : List (List Nat), (ws.flatMap (grow es ps)).length ≤ ws.length * ps.length
  | [] => by simp
  | w :: ws => by
    rw [List.flatMap_cons, List.length_append, List.length_cons, Nat.add_mul, Nat.one_mul]
    have := grow_len es ps w
    have := flat_len es ps ws
    omega
theorem lvl_len (es : Nat → Nat → Bool) {ps : List Nat} {c : Nat} (h : ps.length ≤ 5) : ∀ t, t ≤ 5 → (lvl es ps c t).length ≤ 5 ^ t
  | 0, _ => Nat.le_refl _
  | t + 1, ht => by
    have z := flat_len es ps (lvl es ps c t)
    have y := lvl_len es (c := c) h t (by omega)
    have x : (lvl es ps c t).length * ps.length ≤ 5 ^ t * 5 := Nat.mul_le_mul y h
    show ((lvl es ps c t).flatMap (grow es ps)).length ≤ 5 ^ t * 5
    omega
end
end KW2
end
/-! ## P14 -/
section
open PySem PySem.Spec PyProof.Rows L2
namespace K7
abbrev N_BadCells___init__ : List Str := ["self", "what"]
abbrev s_BadCells___init__ : Stmt := inClass (topS 5) 0
theorem sc_BadCells___init__ : FnScope ["self", "what"] ["self", "what"] (defScope s_BadCells___init__) := ⟨rfl, rfl, rfl, by decide +kernel, rfl, by decide +kernel, by decide +kernel⟩
abbrev N_opens : List Str := ["land", "cell", "passing", "b"]
abbrev s_opens : Stmt := topS 24
theorem sc_opens : FnScope ["land", "cell", "passing", "b"] ["land", "cell", "passing"] (defScope s_opens) := ⟨rfl, rfl, rfl, by decide +kernel, rfl, by decide +kernel, by decide +kernel⟩
abbrev N__check : List Str := ["land", "cell", "passing"]
abbrev s__check : Stmt := topS 23
theorem sc__check : FnScope ["land", "cell", "passing"] ["land", "cell", "passing"] (defScope s__check) := ⟨rfl, rfl, rfl, by decide +kernel, rfl, by decide +kernel, by decide +kernel⟩
/-! ### what a cell reaches -/
def edge (es : List (Nat × Nat)) (a b : Nat) : Prop := (a, b) ∈ es ∨ (b, a) ∈ es
theorem nb_edge {n : Nat} {es : List (Nat × Nat)} (ok : LandOk n es) {a b : Nat} : nbE (nearV n es) a b ↔ edge es a b := by
  constructor
  · rintro ⟨l, el, hb⟩
    have ha : a < n := by
      have z := (List.getElem?_eq_some_iff.mp el).1
      unfold nearV at z
      rw [List.length_map, List.length_range] at z
      exact z
    rw [near_get ha] at el
    obtain rfl := Option.some.inj el
    have z := (List.mem_filter.mp hb).2
    rcases Bool.or_eq_true_iff.mp z with q | q
    · exact .inl (of_decide_eq_true q)
    · exact .inr (of_decide_eq_true q)
  · intro h
    have lts : a < n ∧ b < n := by
      rcases h with z | z
      · obtain ⟨z1, z2⟩ := ok.lt _ z
        exact ⟨by have z1 : a < b := z1; have z2 : b < n := z2; omega, z2⟩
      · obtain ⟨z1, z2⟩ := ok.lt _ z
        exact ⟨z2, by have z1 : b < a := z1; have z2 : a < n := z2; omega⟩
    refine ⟨_, near_get lts.1, List.mem_filter.mpr ⟨List.mem_range.mpr lts.2, ?_⟩⟩
    rcases h with z | z
    · rw [decide_eq_true z]; rfl
    · rw [decide_eq_true z, Bool.or_true]
theorem found_iff {n : Nat} {es : List (Nat × Nat)} {ps fd : List Nat} {c : Nat} (ok : LandOk n es) (f : Found (nearV n es) ps c fd) (x : Nat) : x ∈ fd ↔ KL.Rch (edge es) ps c x := by
  constructor
  · exact fun h => (f.so x h).mono (fun a b => (nb_edge ok).mp) fun b hb => hb
  · intro h
    refine KL.Rch.mem h f.me fun a b ha e hp => ?_
    obtain ⟨l, el, hb⟩ := (nb_edge ok).mpr e
    exact f.cl a ha l el b hb hp
/-- the cells that are reached hold one of the road cells -/
def OpenV (es : List (Nat × Nat)) (rd ps : List Nat) (c : Nat) : Prop := ∃ x ∈ rd, KL.Rch (edge es) ps c x
section
variable {P : Program} {w : World} {K : PySem.W.Frag} {mg : Str → Option Value} {base : Heap} {a : AdL}
def spOpens (C : Addr) : Sp := fun vs H Q _ => ∃ (p : Addr) (n : Nat) (es : List (Nat × Nat)) (rd : List Nat) (c : Nat) (pa : Addr) (ps : List Nat), vs = [.ref p, .int (c : Nat), .ref pa] ∧ LandO C H p n es rd ∧ c < n ∧ SqOf H pa (ints_ ps) ∧
  ∀ H' b, Same H H' → (b = true ↔ OpenV es rd ps c) → Q (.bl b) H'
theorem ok_opens (T : Tl K mg a) {f fS : Addr} {fd fdS : FuncData} (F : Fun K "opens" "opens" s_opens f fd)
    (Gsp : FnOk P w K mg base CX0 1 fS fdS ["nearby", "cell", "passing"] spSpread) (gsp : mg "spread" = some (.ref fS)) (ksp : PySem.W.keepIn K (.ref fS) = true) (bsp : Binds K fdS ["nearby", "cell", "passing"] []) (m_any : mg "any" = none) : FnOk P w K mg base CX0 2 f fd ["land", "cell", "passing"] (spOpens a.C) := by
  refine F.ok sc_opens (fun vs H Q E h => ?_) (fun cdv A outer s H vs Q E hr h => ?_)
  · obtain ⟨p, n, es, rd, c, pa, ps, rfl, _⟩ := h
    rfl
  · obtain ⟨p, n, es, rd, c, pa, ps, rfl, L, hc, hpa, q⟩ := h
    refine ⟨_, (pss_one (ps_ret (pe_callB (cr_any rfl) (by rfl) m_any boot_any (pa_cons (pe_lc (own := [("b", 3)]) (g := gName 3) (tt := tYes) rfl sc_opens.nd (pi_list (pe_call Gsp (hr.mono (by decide)) (by rfl) gsp ksp bsp .nil pass0 (pa_cons (pe_fld (pv 0) rfl) (pa_cons (pv 1) (pa_cons (pv 2) pa_nil))))) (blkOk_by (own := [("b", 3)]) (N := N_opens) (sc := defScope s_opens) (by decide +kernel)) (fun _ _ _ _ _ => (pg_name (i := 3) sc_opens.nd rfl (by first | exact Or.inl rfl | exact Or.inr rfl))) (fun _ _ _ _ _ => pts_nil) (fun _ _ _ _ _ => (pe_cmpR (show OpR _ _ (rIn K false) from op_in_seq) (pv 3) (show PE _ _ (tFld K (tVar 0) "roads") from pe_fld (pv 0) rfl) (by with_unfolding_all rfl)))) pa_nil)))), ?_⟩
    have n5 := L.n5
    have L0 := L
    obtain ⟨dx, an, ar, ay, ac, tn, ty, tc, h1, h2, h3, h4, h5, h6, h7, h8⟩ := L.at_
    have ln : (nearV n es).length = n := by unfold nearV; rw [List.length_map, List.length_range]
    refine ⟨_, rfl, p, a.C, dx, _, _, rfl, h1, T.cl, T.nA _ (by decide), rfl, _, rfl, _, rfl, ay, ty, nearV n es, c, pa, ps, rfl, h5, h6, hpa, by omega, by omega, fun l hl x hx => ?_, fun H1 F0 fd e1 nF hF fo => ?_⟩
    · rw [ln]
      unfold nearV at hl
      obtain ⟨k, _, rfl⟩ := List.mem_map.mp hl
      exact List.mem_range.mp (List.mem_filter.mp hx).1
    · have fl : fd.length ≤ 5 := by
        have z := K7E.nodup_le fd (List.range n) fo.nd fun x hx => List.mem_range.mpr (by have z := fo.lt x hx; rw [ln] at z; exact z)
        rw [List.length_range] at z
        omega
      refine ⟨F0, rfl, ⟨_, .inl (.inl hF)⟩, fun D hD => lc_list (xs := ints_ fd) (fun j H2 => Same H1 H2 ∧ H2 D = some (.lst (((fd.take j).map fun x => decide (x ∈ rd)).map V.bl))) ⟨same_new (Same.refl H1) hD, upd_same⟩ (fun j H2 _ pv => .inl (.inl (pv.1 _ _ hF))) (fun j x H2 hx pv => ?_) (fun H2 pv => ?_)⟩
      · obtain ⟨e2, hD2⟩ := pv
        unfold ints_ at hx
        rw [List.getElem?_map] at hx
        obtain ⟨b, hb, rfl⟩ := Option.map_eq_some_iff.mp hx
        refine ⟨rfl, _, rfl, _, rfl, p, a.C, dx, _, _, rfl, e2 _ _ (e1 _ _ h1), T.cl, T.nA _ (by decide), rfl, ar, _, rfl, .inr (.inl (.inl (e2 _ _ (e1 _ _ h4)))), rfl, flat_ints rd, _, hD2, by rw [List.length_map, List.length_map, List.length_take]; exact small1000 (by omega), fun b o hb => ?_, ?_⟩
        · rw [upd_ne (ne_of_none hb hD)]
          exact e2 _ _ hb
        · rw [upd_same, List.take_add_one, hb, List.map_append, List.map_append]
          show some (HO.lst (_ ++ [V.bl (inV (.int (b : Nat)) (ints_ rd))])) = _
          rw [inV_ints]
          rfl
      · obtain ⟨e2, hD2⟩ := pv
        rw [show (ints_ fd).length = fd.length from List.length_map .., List.take_length] at hD2
        refine ⟨D, _, rfl, .inl (.inl hD2), q _ _ (e1.trans e2) ?_⟩
        rw [List.any_map, List.any_eq_true]
        constructor
        · rintro ⟨x, hx, hq⟩
          exact ⟨x, of_decide_eq_true hq, (found_iff L0.ok fo x).mp hx⟩
        · rintro ⟨x, hx, hq⟩
          exact ⟨x, (found_iff L0.ok fo x).mpr hq, decide_eq_true hx⟩
/-! near_roads -/
def nearR (n : Nat) (es : List (Nat × Nat)) (rd : List Nat) (c : Nat) : List Nat := (nearOf n es c).filter fun b => decide (b ∈ rd)
theorem filter_take {p : Nat → Bool} {l : List Nat} {j b : Nat} (h : l[j]? = some b) : (l.take (j + 1)).filter p = (l.take j).filter p ++ (if p b = true then [b] else []) := by
  rw [List.take_add_one, h, List.filter_append]
  show _ ++ ([b].filter p) = _
  rw [List.filter_cons]
  rfl
theorem nearR_len (n : Nat) (es : List (Nat × Nat)) (rd : List Nat) (c : Nat) : (nearOf n es c).length ≤ n := by
  unfold nearOf
  exact Nat.le_trans (List.length_filter_le _ _) (by rw [List.length_range]; exact Nat.le_refl _)
end
/-! BadCells, and the check of a cell and of a passing lot -/
section
variable {P : Program} {w : World} {K : PySem.W.Frag} {mg : Str → Option Value} {base : Heap} {a : AdL} {S iS : Addr}
structure Ts (K : PySem.W.Frag) (mg : Str → Option Value) (S iS : Addr) : Prop where
  g : mg "BadCells" = some (.ref S)
  ox : OexC K S
  iC : PySem.W.findIn K (.ref S) "__init__" = some (some (.ref iS))
  tI : PySem.W.typeIn K (.ref iS) = some (.type "function")
  no : PySem.W.findIn K (.ref S) "what" = some none
theorem ok_iS (T : Ts K mg S iS) {f : Addr} {fd : FuncData} (F : Fun K "__init__" "BadCells.__init__" s_BadCells___init__ f fd) : FnOk P w K mg base (L2.CX P w) 1 f fd ["self", "what"] (spX S "what") := by
  refine F.okX sc_BadCells___init__ (fun vs H Q E h => ?_) (fun cdv A outer s H vs Q E hr h => ?_)
  · obtain ⟨e, y, rfl, _⟩ := h
    rfl
  · obtain ⟨e, y, rfl, he, q⟩ := h
    refine ⟨_, (pss_one (ps_ost (pv 0) (pv 1))), ?_⟩
    exact ⟨y, rfl, .ref e, rfl, e, S, rfl, T.ox, T.no, .inl ⟨he, fun d hd hn => q d hd hn⟩⟩
theorem cells_lot0 {n : Nat} {lot : List Nat} (h1 : ∀ c ∈ lot, c < n) (h2 : lot.Nodup) : cellsV (n : Nat) (ints_ lot) 0 = true := by
  cases lot with
  | nil => rfl
  | cons x l =>
    have z := cells_lot h1 h2 (by show 0 < l.length + 1; omega)
    unfold cellsV at z ⊢
    rw [Bool.and_assoc, Bool.and_eq_true] at z
    rw [Bool.and_assoc, z.2, decide_eq_true (by omega)] <;> rfl
/-- a row that is no lot of cells -/
def BadLot (K : PySem.W.Frag) (n : Nat) (H : Hp) (y : V) : Prop := NoSeq K H y ∨ ∃ b xs, y = .ref b ∧ SqOf H b xs ∧ (∀ z ∈ xs, Thing H z) ∧ xs.length < 64 ∧ cellsV (n : Nat) xs 0 = false
theorem NoSeq.same {H H' : Hp} {x : V} (h : NoSeq K H x) (e : Same H H') : NoSeq K H' x := by
  obtain ⟨t, ty, k⟩ := h
  exact ⟨t, fun H1 e1 => ty H1 (e.trans e1), k⟩
theorem BadLot.same {n : Nat} {H H' : Hp} {y : V} (h : BadLot K n H y) (e : Same H H') : BadLot K n H' y := by
  rcases h with h | ⟨b, xs, rfl, h1, h2, h3, h4⟩
  · exact .inl (h.same e)
  · exact .inr ⟨b, xs, rfl, h1.same e, fun z hz => (h2 z hz).same e, h3, h4⟩
/-- a lot of cells, or what is none and is told so -/
def LotOr (K : PySem.W.Frag) (S : Addr) (n : Nat) (H : Hp) (y : V) (E : XK) (q : Addr → List Nat → Prop) : Prop :=
  (∃ pa ps, y = .ref pa ∧ SqOf H pa (ints_ ps) ∧ (∀ c ∈ ps, c < n) ∧ ps.Nodup ∧ q pa ps) ∨ (BadLot K n H y ∧ Flies H S "what" (.str "passing") E)
def spChk (K : PySem.W.Frag) (a : AdL) (S : Addr) : Sp := fun vs H Q E => ∃ (p : Addr) (n : Nat) (es : List (Nat × Nat)) (rd : List Nat) (x y : V), vs = [.ref p, x, y] ∧ LandO a.C H p n es rd ∧ CellOr a.B n H x E fun _ => LotOr K S n H y E fun _ _ => ∀ H', Same H H' → Q .non H'
variable {fk : Addr} (Gck : FnR P w K mg base (L2.CX P w) 4 fk (spCheck a)) (gck : mg "check_cells" = some (.ref fk)) (kck : PySem.W.keepIn K (.ref fk) = true)
include Gck gck kck in
theorem ok_chk (T : Tl K mg a) (TS : Ts K mg S iS) {f fL : Addr} {fd fdL fdB : FuncData} (F : Fun K "_check" "_check" s__check f fd)
    (Gil : FnOk P w K mg base CX0 3 fL fdL ["land", "thing", "least"] (spIsLot K a.C)) (gil : mg "is_lot" = some (.ref fL)) (kil : PySem.W.keepIn K (.ref fL) = true) (bil : Binds K fdL ["land", "thing", "least"] [])
    (FB0 : Fun K "__init__" "BadCells.__init__" s_BadCells___init__ iS fdB) (bB : Binds K fdB ["self", "what"] []) : FnOk P w K mg base (L2.CX P w) 5 f fd ["land", "cell", "passing"] (spChk K a S) := by
  have FB : FnOk P w K mg base (L2.CX P w) 1 iS fdB ["self", "what"] (spX S "what") := ok_iS TS FB0
  refine F.okX sc__check (fun vs H Q E h => ?_) (fun cdv A outer s H vs Q E hr h => ?_)
  · obtain ⟨p, n, es, rd, x, y, rfl, _⟩ := h
    rfl
  · obtain ⟨p, n, es, rd, x, y, rfl, L, h⟩ := h
    have hrx : Room (1 + 1) _ := hr.mono (by decide)
    refine ⟨_, (pss_cons (ps_expr (K7E.pe_callR0 Gck (hr.mono (by decide)) (by rfl) gck kck (passes_call (E := E) (takes_of rfl rfl rfl rfl) (fun _ _ _ _ h => h)) (pa_cons (pv 0) (pa_cons (pv 1) pa_nil))))
 (pss_one (ps_if (pt_not (pt_val (pe_call Gil (hr.mono (by decide)) (by rfl) gil kil bil .nil pass0 (pa_cons (pv 0) (pa_cons (pv 2) (pa_cons pe_int pa_nil))))))
  (pss_one (ps_raise rfl (takes_of rfl rfl rfl rfl) (pmk_oex TS.ox TS.iC TS.tI FB hrx bB .nil passL (by rfl) TS.g (pa_cons pe_str pa_nil))))
  pss_nil))), ?_⟩
    rcases h with ⟨c, rfl, hc, h⟩ | ⟨th, wf, fl⟩
    · refine ⟨_, rfl, _, rfl, p, n, [.int (c : Nat)], rfl, L.c, by show 1 < 64; decide, .inl ⟨fun y hy => by rw [List.mem_singleton.mp hy]; exact .flat (.int _), one_in hc, fun H1 e1 => ?_⟩⟩
      rcases h with ⟨pa, ps, rfl, hpa, plt, pnd, q⟩ | ⟨bl, fl⟩
      · have p5 : ps.length ≤ 5 := by
          have z := K7E.nodup_le ps (List.range n) pnd fun x hx => List.mem_range.mpr (plt x hx)
          rw [List.length_range] at z
          have := L.n5
          omega
        refine ⟨_, rfl, _, rfl, p, n, _, 0, rfl, (L.same e1).c, .inr ⟨pa, _, rfl, hpa.same e1, fun y hy => ?_, by unfold ints_; rw [List.length_map]; omega, fun H2 e2 => ?_⟩⟩
        · obtain ⟨z, _, rfl⟩ := List.mem_map.mp hy
          exact .flat (.int _)
        · rw [cells_lot0 plt pnd]
          refine ⟨_, rfl, ?_⟩
          exact iteFo rfl (q _ (e1.trans e2))
      · rcases bl with ns | ⟨b, xs, rfl, hb, hth, h64, cv⟩
        · refine ⟨_, rfl, _, rfl, p, n, _, 0, rfl, (L.same e1).c, .inl ⟨ns.same e1, fun H2 e2 => ?_⟩⟩
          refine ⟨_, rfl, iteT ?_⟩
          exact ⟨by show 1 ≤ 1000; decide, flies_go (fl.later (e1.trans e2))⟩
        · refine ⟨_, rfl, _, rfl, p, n, _, 0, rfl, (L.same e1).c, .inr ⟨b, xs, rfl, hb.same e1, fun y hy => (hth y hy).same e1, h64, fun H2 e2 => ?_⟩⟩
          rw [cv]
          refine ⟨_, rfl, iteT ?_⟩
          exact ⟨by show 1 ≤ 1000; decide, flies_go (fl.later (e1.trans e2))⟩
    · exact ⟨_, rfl, _, rfl, p, n, [x], rfl, L.c, by show 1 < 64; decide, .inr ⟨[], x, [], rfl, fun y hy => (nomatch hy), fun y hy => (nomatch hy), th, wf, fl⟩⟩
end

section
variable {K : PySem.W.Frag} {S : Addr}
theorem LotOr.mono {n : Nat} {H : Hp} {y : V} {E : XK} {q q' : Addr → List Nat → Prop} (h : LotOr K S n H y E q) (i : ∀ pa ps, y = .ref pa → SqOf H pa (ints_ ps) → (∀ c ∈ ps, c < n) → ps.Nodup → q pa ps → q' pa ps) : LotOr K S n H y E q' := by
  rcases h with ⟨pa, ps, rfl, h1, h2, h3, h4⟩ | h
  · exact .inl ⟨pa, ps, rfl, h1, h2, h3, i pa ps rfl h1 h2 h3 h4⟩
  · exact .inr h
theorem CellOr.mono {B : Addr} {n : Nat} {H : Hp} {x : V} {E : XK} {q q' : Nat → Prop} (h : CellOr B n H x E q) (i : ∀ c, x = .int (c : Nat) → c < n → q c → q' c) : CellOr B n H x E q' := by
  rcases h with ⟨c, rfl, h1, h2⟩ | h
  · exact .inl ⟨c, rfl, h1, i c rfl h1 h2⟩
  · exact .inr h
theorem near_lt {n : Nat} {es : List (Nat × Nat)} : ∀ l ∈ nearV n es, ∀ x ∈ l, x < (nearV n es).length := fun l hl x hx => by
  have ln : (nearV n es).length = n := by unfold nearV; rw [List.length_map, List.length_range]
  rw [ln]
  unfold nearV at hl
  obtain ⟨k, _, rfl⟩ := List.mem_map.mp hl
  exact List.mem_range.mp (List.mem_filter.mp hx).1
theorem near_ln {n : Nat} {es : List (Nat × Nat)} : (nearV n es).length = n := by unfold nearV; rw [List.length_map, List.length_range]
end
end K7
end
/-! ## P16 -/
section
open PySem PySem.Spec PyProof.Rows L2
namespace K7
abbrev N__law_comes : List Str := ["_law_land_here", "_law_cell", "_law_passing", "_law_seen", "_law_place", "_law_low", "_law_high"]
abbrev s__law_comes : Stmt := topS 34
theorem sc__law_comes : FnScope ["_law_land_here", "_law_cell", "_law_passing", "_law_seen", "_law_place", "_law_low", "_law_high"] ["_law_land_here", "_law_cell", "_law_passing"] (defScope s__law_comes) := ⟨rfl, rfl, rfl, by decide +kernel, rfl, by decide +kernel, by decide +kernel⟩
abbrev N__law_open : List Str := ["_law_land_here", "_law_cell", "_law_passing", "_law_here"]
abbrev s__law_open : Stmt := topS 35
theorem sc__law_open : FnScope ["_law_land_here", "_law_cell", "_law_passing", "_law_here"] ["_law_land_here", "_law_cell", "_law_passing"] (defScope s__law_open) := ⟨rfl, rfl, rfl, by decide +kernel, rfl, by decide +kernel, by decide +kernel⟩
/-! ### what the law reaches -/
structure SnOk (n : Nat) (es : List (Nat × Nat)) (ps : List Nat) (c : Nat) (sn : List Nat) : Prop where
  nd : sn.Nodup
  me : c ∈ sn
  lt : ∀ x ∈ sn, x < n
  so : ∀ x ∈ sn, KL.Rch (edge es) ps c x
theorem SnOk.add {n : Nat} {es : List (Nat × Nat)} {ps : List Nat} {c : Nat} {sn : List Nat} (h : SnOk n es ps c sn) {a b : Nat} (ha : a ∈ sn) (e : edge es a b) (hp : b ∈ ps) (hb : b < n) (hn : b ∉ sn) : SnOk n es ps c (sn ++ [b]) := by
  refine ⟨List.nodup_append.mpr ⟨h.nd, List.nodup_cons.mpr ⟨List.not_mem_nil, List.nodup_nil⟩, fun a' ha' b' hb' e => ?_⟩, List.mem_append_left _ h.me, fun x hx => ?_, fun x hx => ?_⟩
  · rw [List.mem_singleton] at hb'
    exact hn (by rw [← hb', ← e]; exact ha')
  · rcases List.mem_append.mp hx with hx | hx
    · exact h.lt x hx
    · rw [List.mem_singleton.mp hx]
      exact hb
  · rcases List.mem_append.mp hx with hx | hx
    · exact h.so x hx
    · rw [List.mem_singleton.mp hx]
      exact .step (h.so a ha) e hp
theorem SnOk.len {n : Nat} {es : List (Nat × Nat)} {ps : List Nat} {c : Nat} {sn : List Nat} (h : SnOk n es ps c sn) : sn.length ≤ n := by
  have z := K7E.nodup_le sn (List.range n) h.nd fun x hx => List.mem_range.mpr (h.lt x hx)
  rw [List.length_range] at z
  exact z
theorem snoc_ints (sn : List Nat) (b : Nat) : ints_ sn ++ [.int (b : Nat)] = ints_ (sn ++ [b]) := by
  unfold ints_
  rw [List.map_append]
  rfl
section
variable {P : Program} {w : World} {K : PySem.W.Frag} {mg : Str → Option Value} {base : Heap}
def spComes : Sp := fun vs H Q _ => ∃ (q : Addr) (n : Nat) (es : List (Nat × Nat)) (lot : List Nat) (c : Nat) (pa : Addr) (ps : List Nat), vs = [.ref q, .int (c : Nat), .ref pa] ∧ LandAt H q n es lot ∧ n ≤ 5 ∧ es.length ≤ 32 ∧ c < n ∧ SqOf H pa (ints_ ps) ∧
  ∀ H' r sn, Same H H' → H r = none → H' r = some (.lst (ints_ sn)) → sn.Nodup → sn.length ≤ 5 → (∀ x, x ∈ sn ↔ KL.Rch (edge es) ps c x) → Q (.ref r) H'
theorem ok_comes {f : Addr} {fd : FuncData} (F : Fun K "_law_comes" "_law_comes" s__law_comes f fd) (m_range : mg "range" = none) (m_len : mg "len" = none) : FnOk P w K mg base CX0 1 f fd ["_law_land_here", "_law_cell", "_law_passing"] spComes := by
  refine F.ok sc__law_comes (fun vs H Q E h => ?_) (fun cdv A outer s H vs Q E hr h => ?_)
  · obtain ⟨q, n, es, lot, c, pa, ps, rfl, _⟩ := h
    rfl
  · obtain ⟨q, n, es, lot, c, pa, ps, rfl, L, n5, e32, hc, hpa, k⟩ := h
    refine ⟨_, (pss_cons (ps_set (i := 3) sc__law_comes.nd rfl (by first | exact Or.inl rfl | exact Or.inr rfl) (pe_lst (pa_cons (pv 1) pa_nil)))
 (pss_cons (ps_for PassesOwn.never rfl (pi_range1 rfl m_range (pa_cons (pe_ix ix_tup (pv 0) pe_int (fun _ _ => rfl)) pa_nil)) (pg_name (i := 4) sc__law_comes.nd rfl (by first | exact Or.inl rfl | exact Or.inr rfl))
  (pss_one (ps_if (pt_cmpR op_lt (pv 4) (pe_callB call_len_seq (by rfl) m_len boot_len (pa_cons (pv 3) pa_nil)) (nomark _))
  (pss_one (ps_for PassesOwn.never rfl (pi_list (pe_ix ix_tup (pv 0) pe_int (fun _ _ => rfl))) (pg_tup rfl (pgs_cons (pg_name (i := 5) sc__law_comes.nd rfl (by first | exact Or.inl rfl | exact Or.inr rfl)) (pgs_cons (pg_name (i := 6) sc__law_comes.nd rfl (by first | exact Or.inl rfl | exact Or.inr rfl)) pgs_nil)))
  (Evl.pss_cut (ps_if (pw_and (pt_cmpR op_eq (pv 5) (pe_ix ix_list (pv 3) (pv 4) (fun _ _ => rfl)) (nomark _)) (pw_and (pt_cmpR op_in_seq (pv 6) (pv 2) (by with_unfolding_all rfl)) (pw_and1 (pt_cmpR op_notIn_seq (pv 6) (pv 3) (by with_unfolding_all rfl))))).pt
  (pss_one (ps_expr (pe_bm PySem.F.plainAttrs_list PySem.F.slot_list_append PySem.F.type_list_append mt_append (pv 3) (pa_cons (pv 6) pa_nil))))
  pss_nil)
 (pss_one (ps_if (pw_and (pt_cmpR op_eq (pv 6) (pe_ix ix_list (pv 3) (pv 4) (fun _ _ => rfl)) (nomark _)) (pw_and (pt_cmpR op_in_seq (pv 5) (pv 2) (by with_unfolding_all rfl)) (pw_and1 (pt_cmpR op_notIn_seq (pv 5) (pv 3) (by with_unfolding_all rfl))))).pt
  (pss_one (ps_expr (pe_bm PySem.F.plainAttrs_list PySem.F.slot_list_append PySem.F.type_list_append mt_append (pv 3) (pa_cons (pv 5) pa_nil))))
  pss_nil)))))
  pss_nil)))
 (pss_one (ps_ret (pv 3))))), ?_⟩
    obtain ⟨rA, sA, ts, h1, h2, h3, h4⟩ := L.at_
    have tl : ts.length = es.length := by rw [h3.len]; unfold pairs; rw [List.length_map]
    refine ⟨_, rfl, by show 1 ≤ sizeLine; decide, fun F0 nF => ?_⟩
    have sm : ∀ {H' : Hp}, But F0 H H' → Same H H' := fun b z o hz => b z o (ne_of_none hz nF) hz
    refine ⟨_, rfl, q, _, _, _, rfl, rfl, .inl (.inl (by rw [upd_ne (ne_of_none h1 nF)]; exact h1)), atI_nat (j := 0) rfl, ?_⟩
    refine ⟨_, rfl, by omega, by omega, for_range (lo := 0) (n := n) (fun i τ H' => ∃ (sn : List Nat) (y4 y5 y6 : Option V), τ = [some (.ref q), some (.int (c : Nat)), some (.ref pa), some (.ref F0), y4, y5, y6] ∧ But F0 H H' ∧ H' F0 = some (.lst (ints_ sn)) ∧ SnOk n es ps c sn ∧ ∀ j, j < i → ∀ a, sn[j]? = some a → ∀ b, edge es a b → b ∈ ps → b ∈ sn) ⟨[c], none, none, none, rfl, fun b o nb hb => by rw [upd_ne nb]; exact hb, upd_same, ⟨List.nodup_cons.mpr ⟨List.not_mem_nil, List.nodup_nil⟩, List.mem_singleton.mpr rfl, fun x hx => by rw [List.mem_singleton.mp hx]; exact hc, fun x hx => by rw [List.mem_singleton.mp hx]; exact .base⟩, fun j hj => absurd hj (Nat.not_lt_zero _)⟩ (fun i τ H' hi pv => ?_) (fun τ H' pv => ?_)⟩
    · obtain ⟨sn, y4, y5, y6, rfl, bt, hF, ok, cl⟩ := pv
      refine ⟨_, rfl, _, rfl, F0, _, rfl, .inl (.inl (.inl hF)), _, _, rfl, rfl, _, rfl, ite2 (fun c1 => ?_) (fun c1 => ?_)⟩
      · have c1' : i < sn.length := by
          have z : ((0 : Int) + (i : Nat)) < (((ints_ sn).length : Nat) : Int) := of_decide_eq_true c1
          rw [show (ints_ sn).length = sn.length from List.length_map ..] at z
          omega
        obtain ⟨a, ea⟩ : ∃ a, sn[i]? = some a := ⟨_, List.getElem?_eq_getElem c1'⟩
        have ma := List.mem_of_getElem? ea
        refine ⟨_, rfl, q, _, _, _, rfl, rfl, .inl (.inl (sm bt _ _ h1)), atI_nat (j := 1) rfl, rA, rfl, ⟨_, .inl (.inl (sm bt _ _ h2))⟩, for_list (xs := ts.map V.ref) (fun j τ H2 => ∃ (r : List Nat) (y5 y6 : Option V), τ = [some (.ref q), some (.int (c : Nat)), some (.ref pa), some (.ref F0), some (.int (0 + (i : Nat))), y5, y6] ∧ But F0 H H2 ∧ H2 F0 = some (.lst (ints_ (sn ++ r))) ∧ SnOk n es ps c (sn ++ r) ∧ ∀ e ∈ es.take j, (e.1 = a → e.2 ∈ ps → e.2 ∈ sn ++ r) ∧ (e.2 = a → e.1 ∈ ps → e.1 ∈ sn ++ r)) ⟨[], y5, y6, rfl, bt, by rw [List.append_nil]; exact hF, by rw [List.append_nil]; exact ok, fun e he => by cases he⟩ (fun j τ H2 _ pv => ?_) (fun j x τ H2 hx pv => ?_) (fun τ H2 pv => ?_)⟩
        · obtain ⟨r, y5, y6, _, bt2, _⟩ := pv
          exact .inl (.inl (sm bt2 _ _ h2))
        · obtain ⟨r, y5, y6, rfl, bt2, hF2, ok2, cl2⟩ := pv
          rw [List.getElem?_map] at hx
          obtain ⟨t, ht, rfl⟩ := Option.map_eq_some_iff.mp hx
          obtain ⟨l, el, hl⟩ := h3.get ht
          unfold pairs at el
          rw [List.getElem?_map] at el
          obtain ⟨ab, eab, rfl⟩ := Option.map_eq_some_iff.mp el
          obtain ⟨lo, hi'⟩ := ab
          have mem := List.mem_of_getElem? eab
          obtain ⟨l1, l2⟩ := L.ok.lt _ mem
          have l1 : lo < hi' := l1
          have l2 : hi' < n := l2
          have tk : es.take (j + 1) = es.take j ++ [(lo, hi')] := by rw [List.take_add_one, eab]; rfl
          have ixa : ∀ r : List Nat, atI (ints_ (sn ++ r)) (0 + (i : Nat)) = some (.int (a : Nat)) := fun r => by
            rw [Int.zero_add]
            refine atI_nat ?_
            unfold ints_
            rw [List.getElem?_map, List.getElem?_append_left c1', ea]
            rfl
          refine ⟨t, [.int (lo : Nat), .int (hi' : Nat)], rfl, .inl (.inl (sm bt2 _ _ hl)), rfl, _, _, rfl, _, _, rfl, rfl, ?_⟩
          refine ⟨fun τ' H3 => ∃ r, τ' = [some (.ref q), some (.int (c : Nat)), some (.ref pa), some (.ref F0), some (.int (0 + (i : Nat))), some (.int (lo : Nat)), some (.int (hi' : Nat))] ∧ But F0 H H3 ∧ H3 F0 = some (.lst (ints_ (sn ++ r))) ∧ SnOk n es ps c (sn ++ r) ∧ (∀ e ∈ es.take j, (e.1 = a → e.2 ∈ ps → e.2 ∈ sn ++ r) ∧ (e.2 = a → e.1 ∈ ps → e.1 ∈ sn ++ r)) ∧ (lo = a → hi' ∈ ps → hi' ∈ sn ++ r), ?_, fun τ' H3 hM => ?_⟩
          · refine ⟨_, rfl, _, rfl, _, rfl, F0, _, _, _, rfl, rfl, .inl (.inl hF2), ixa r, rfl, _, rfl, ite2 (fun d1 => ?_) (fun d1 => ?_)⟩
            · have hla : lo = a := by
                have z := of_decide_eq_true d1
                injection z with z
                omega
              refine ⟨_, rfl, _, rfl, pa, _, rfl, (hpa.same (sm bt2)).sq, rfl, flat_ints ps, _, rfl, ite2 (fun d2 => ?_) (fun d2 => ?_)⟩
              · have d2' : hi' ∈ ps := of_decide_eq_true ((inV_ints hi' ps).symm.trans d2)
                refine ⟨_, rfl, _, rfl, F0, _, rfl, .inl (.inl (.inl hF2)), rfl, flat_ints _, _, rfl, ite2 (fun d3 => ?_) (fun d3 => ?_)⟩
                · have d3' : hi' ∉ sn ++ r := fun hb => by
                    have z : (!inV (.int (hi' : Nat)) (ints_ (sn ++ r))) = true := d3
                    rw [inV_ints, decide_eq_true hb] at z
                    cases z
                  have ok3 := ok2.add (a := a) (List.mem_append_left _ ma) (.inl (by rw [← hla]; exact mem)) d2' l2 d3'
                  have len3 := ok2.len
                  refine ⟨_, rfl, .inl ⟨rfl, _, .inl (.inl hF2)⟩, _, rfl, F0, _, _, rfl, rfl, hF2, by unfold ints_; rw [List.length_map]; exact small1000 (by omega), r ++ [hi'], rfl, fun b' o hb' e => by rw [upd_ne hb']; exact bt2 b' o hb' e, by rw [upd_same, snoc_ints, List.append_assoc], by rw [← List.append_assoc]; exact ok3, fun e he => ?_, fun _ _ => ?_⟩
                  · rw [← List.append_assoc]
                    exact ⟨fun x1 x2 => List.mem_append_left _ ((cl2 e he).1 x1 x2), fun x1 x2 => List.mem_append_left _ ((cl2 e he).2 x1 x2)⟩
                  · rw [← List.append_assoc]
                    exact List.mem_append_right _ (List.mem_singleton.mpr rfl)
                · have d3' : hi' ∈ sn ++ r := Classical.byContradiction fun hn => d3 (by
                    show (!inV (.int (hi' : Nat)) (ints_ (sn ++ r))) = true
                    rw [inV_ints, decide_eq_false hn]
                    rfl)
                  exact ⟨r, rfl, bt2, hF2, ok2, cl2, fun _ _ => d3'⟩
              · have d2' : hi' ∉ ps := fun hb => d2 ((inV_ints hi' ps).trans (decide_eq_true hb))
                exact iteF ⟨r, rfl, bt2, hF2, ok2, cl2, fun _ x => absurd x d2'⟩
            · have hla : lo ≠ a := fun e => d1 (decide_eq_true (by rw [e]))
              exact iteF ⟨r, rfl, bt2, hF2, ok2, cl2, fun x _ => absurd x hla⟩
          · obtain ⟨r, rfl, bt2, hF2, ok2, cl2, fst⟩ := hM
            have fin : ∀ r', (∀ e ∈ es.take j, (e.1 = a → e.2 ∈ ps → e.2 ∈ sn ++ r') ∧ (e.2 = a → e.1 ∈ ps → e.1 ∈ sn ++ r')) → (lo = a → hi' ∈ ps → hi' ∈ sn ++ r') → (hi' = a → lo ∈ ps → lo ∈ sn ++ r') → ∀ e ∈ es.take (j + 1), (e.1 = a → e.2 ∈ ps → e.2 ∈ sn ++ r') ∧ (e.2 = a → e.1 ∈ ps → e.1 ∈ sn ++ r') := fun r' z1 z2 z3 e he => by
              rw [tk] at he
              rcases List.mem_append.mp he with he | he
              · exact z1 e he
              · rw [List.mem_singleton.mp he]
                exact ⟨z2, z3⟩
            refine ⟨_, rfl, _, rfl, _, rfl, F0, _, _, _, rfl, rfl, .inl (.inl hF2), ixa r, rfl, _, rfl, ite2 (fun d1 => ?_) (fun d1 => ?_)⟩
            · have hla : hi' = a := by
                have z := of_decide_eq_true d1
                injection z with z
                omega
              refine ⟨_, rfl, _, rfl, pa, _, rfl, (hpa.same (sm bt2)).sq, rfl, flat_ints ps, _, rfl, ite2 (fun d2 => ?_) (fun d2 => ?_)⟩
              · have d2' : lo ∈ ps := of_decide_eq_true ((inV_ints lo ps).symm.trans d2)
                refine ⟨_, rfl, _, rfl, F0, _, rfl, .inl (.inl (.inl hF2)), rfl, flat_ints _, _, rfl, ite2 (fun d3 => ?_) (fun d3 => ?_)⟩
                · have d3' : lo ∉ sn ++ r := fun hb => by
                    have z : (!inV (.int (lo : Nat)) (ints_ (sn ++ r))) = true := d3
                    rw [inV_ints, decide_eq_true hb] at z
                    cases z
                  have ok3 := ok2.add (a := a) (List.mem_append_left _ ma) (.inr (by rw [← hla]; exact mem)) d2' (by omega) d3'
                  have len3 := ok2.len
                  refine ⟨_, rfl, .inl ⟨rfl, _, .inl (.inl hF2)⟩, _, rfl, F0, _, _, rfl, rfl, hF2, by unfold ints_; rw [List.length_map]; exact small1000 (by omega), r ++ [lo], _, _, rfl, fun b' o hb' e => by rw [upd_ne hb']; exact bt2 b' o hb' e, by rw [upd_same, snoc_ints, List.append_assoc], by rw [← List.append_assoc]; exact ok3, fin _ (fun e he => ?_) (fun x1 x2 => ?_) (fun _ _ => ?_)⟩
                  · rw [← List.append_assoc]
                    exact ⟨fun x1 x2 => List.mem_append_left _ ((cl2 e he).1 x1 x2), fun x1 x2 => List.mem_append_left _ ((cl2 e he).2 x1 x2)⟩
                  · rw [← List.append_assoc]
                    exact List.mem_append_left _ (fst x1 x2)
                  · rw [← List.append_assoc]
                    exact List.mem_append_right _ (List.mem_singleton.mpr rfl)
                · have d3' : lo ∈ sn ++ r := Classical.byContradiction fun hn => d3 (by
                    show (!inV (.int (lo : Nat)) (ints_ (sn ++ r))) = true
                    rw [inV_ints, decide_eq_false hn]
                    rfl)
                  exact ⟨r, _, _, rfl, bt2, hF2, ok2, fin r cl2 fst fun _ _ => d3'⟩
              · have d2' : lo ∉ ps := fun hb => d2 ((inV_ints lo ps).trans (decide_eq_true hb))
                exact iteF ⟨r, _, _, rfl, bt2, hF2, ok2, fin r cl2 fst fun _ x => absurd x d2'⟩
            · have hla : hi' ≠ a := fun e => d1 (decide_eq_true (by rw [e]))
              exact iteF ⟨r, _, _, rfl, bt2, hF2, ok2, fin r cl2 fst fun x _ => absurd x hla⟩
        · obtain ⟨r, y5, y6, rfl, bt2, hF2, ok2, cl2⟩ := pv
          rw [List.length_map, tl, List.take_length] at cl2
          refine ⟨sn ++ r, _, y5, y6, rfl, bt2, hF2, ok2, fun j hj a' ea' b he hp => ?_⟩
          rw [List.getElem?_append_left (by omega)] at ea'
          rcases Nat.lt_or_ge j i with lt | ge
          · exact List.mem_append_left _ (cl j lt a' ea' b he hp)
          · obtain rfl : j = i := by omega
            rw [ea] at ea'
            obtain rfl := Option.some.inj ea'
            rcases he with he | he
            · exact (cl2 _ he).1 rfl hp
            · exact (cl2 _ he).2 rfl hp
      · have c1' : sn.length ≤ i := by
          refine Nat.not_lt.mp fun z => c1 (decide_eq_true ?_)
          rw [show (ints_ sn).length = sn.length from List.length_map ..]
          omega
        refine ⟨sn, _, y5, y6, rfl, bt, hF, ok, fun j hj a ea => ?_⟩
        have z := (List.getElem?_eq_some_iff.mp ea).1
        exact cl j (by omega) a ea
    · obtain ⟨sn, y4, y5, y6, rfl, bt, hF, ok, cl⟩ := pv
      have len := ok.len
      refine ⟨_, rfl, k H' F0 sn (sm bt) nF hF ok.nd (by omega) fun x => ⟨ok.so x, fun h => KL.Rch.mem h ok.me fun a b ha e hp => ?_⟩⟩
      obtain ⟨j, hj, e2⟩ := List.getElem_of_mem ha
      exact cl j (by omega) a (by rw [List.getElem?_eq_getElem hj, e2]) b e hp
end
end K7
end
/-! ## P17 -/
section
open PySem PySem.Spec PyProof.Rows L2
namespace K7
abbrev N__law_mixed : List Str := ["_law_hand_here", "_law_lot", "_law_left", "_law_row", "_law_k"]
abbrev s__law_mixed : Stmt := topS 37
theorem sc__law_mixed : FnScope ["_law_hand_here", "_law_lot", "_law_left", "_law_row", "_law_k"] ["_law_hand_here", "_law_lot"] (defScope s__law_mixed) := ⟨rfl, rfl, rfl, by decide +kernel, rfl, by decide +kernel, by decide +kernel⟩
section
variable {P : Program} {w : World} {K : PySem.W.Frag} {mg : Str → Option Value} {base : Heap}
/-! _law_open -/
def spLOpen : Sp := fun vs H Q _ => ∃ (q : Addr) (n : Nat) (es : List (Nat × Nat)) (lot : List Nat) (c : Nat) (pa : Addr) (ps : List Nat), vs = [.ref q, .int (c : Nat), .ref pa] ∧ LandAt H q n es lot ∧ n ≤ 5 ∧ es.length ≤ 32 ∧ c < n ∧ SqOf H pa (ints_ ps) ∧
  ∀ H' b, Same H H' → (b = true ↔ OpenV es lot ps c) → Q (.bl b) H'
theorem LandAt.same {H H' : Hp} {q : Addr} {n : Nat} {es : List (Nat × Nat)} {lot : List Nat} (h : LandAt H q n es lot) (e : Same H H') : LandAt H' q n es lot := by
  obtain ⟨rA, sA, ts, h1, h2, h3, h4⟩ := h.at_
  exact ⟨⟨rA, sA, ts, e _ _ h1, e _ _ h2, h3.same e, e _ _ h4⟩, h.ok, h.lot⟩
theorem ok_lopen {f fC : Addr} {fd fdC : FuncData} (F : Fun K "_law_open" "_law_open" s__law_open f fd)
    (Glc : FnOk P w K mg base CX0 1 fC fdC ["_law_land_here", "_law_cell", "_law_passing"] spComes) (glc : mg "_law_comes" = some (.ref fC)) (klc : PySem.W.keepIn K (.ref fC) = true) (blc : Binds K fdC ["_law_land_here", "_law_cell", "_law_passing"] [])
    (m_len : mg "len" = none) : FnOk P w K mg base CX0 2 f fd ["_law_land_here", "_law_cell", "_law_passing"] spLOpen := by
  refine F.ok sc__law_open (fun vs H Q E h => ?_) (fun cdv A outer s H vs Q E hr h => ?_)
  · obtain ⟨q, n, es, lot, c, pa, ps, rfl, _⟩ := h
    rfl
  · obtain ⟨q, n, es, lot, c, pa, ps, rfl, L, n5, e32, hc, hpa, k⟩ := h
    refine ⟨_, (pss_one (ps_ret (pe_cmpR op_gt (pe_callB call_len_seq (by rfl) m_len boot_len (pa_cons (pe_lc (own := [("_law_here", 3)]) (g := gName 3) rfl sc__law_open.nd (pi_list (pe_call Glc (hr.mono (by decide)) (by rfl) glc klc blc .nil pass0 (pa_cons (pv 0) (pa_cons (pv 1) (pa_cons (pv 2) pa_nil))))) (blkOk_by (own := [("_law_here", 3)]) (N := N__law_open) (sc := defScope s__law_open) (by decide +kernel)) (fun _ _ _ _ _ => (pg_name (i := 3) sc__law_open.nd rfl (by first | exact Or.inl rfl | exact Or.inr rfl))) (fun _ _ _ _ _ => (pts_one (pt_cmpR (show OpR _ _ (rIn K false) from op_in_seq) (pv 3) (pe_ix (show IxR _ (rIxT K) from ix_tup) (pv 0) pe_int (fun _ _ => rfl)) (by with_unfolding_all rfl)))) (fun _ _ _ _ _ => (pv 3))) pa_nil)) pe_int (nomark _)))), ?_⟩
    refine ⟨_, rfl, _, rfl, _, rfl, q, n, es, lot, c, pa, ps, rfl, L, n5, e32, hc, hpa, fun H1 r sn e1 nr hr1 nd l5 iff => ?_⟩
    obtain ⟨rA, sA, ts, h1, h2, h3, h4⟩ := (L.same e1).at_
    refine ⟨r, rfl, ⟨_, .inl (.inl hr1)⟩, fun D hD => lc_list (xs := ints_ sn) (fun j H2 => Same H1 H2 ∧ H2 D = some (.lst (ints_ ((sn.take j).filter fun b => decide (b ∈ lot))))) ⟨same_new (Same.refl H1) hD, upd_same⟩ (fun j H2 _ pv => .inl (.inl (pv.1 _ _ hr1))) (fun j x H2 hx pv => ?_) (fun H2 pv => ?_)⟩
    · obtain ⟨e2, hD2⟩ := pv
      unfold ints_ at hx
      rw [List.getElem?_map] at hx
      obtain ⟨b, hb, rfl⟩ := Option.map_eq_some_iff.mp hx
      refine ⟨rfl, _, rfl, _, rfl, q, _, _, _, rfl, rfl, .inl (.inl (e2 _ _ h1)), atI_nat (j := 2) rfl, ?_⟩
      refine ⟨sA, _, rfl, .inl (.inl (.inl (e2 _ _ h4))), rfl, flat_ints lot, _, rfl, ?_⟩
      rw [show inV (.int (b : Nat)) (ints_ lot) = decide (b ∈ lot) from inV_ints b lot]
      have ft := filter_take (p := fun b => decide (b ∈ lot)) hb
      by_cases hm : b ∈ lot
      · rw [decide_eq_true hm] at ft ⊢
        rw [if_pos rfl] at ft
        refine iteT ⟨_, rfl, _, hD2, by unfold ints_; rw [List.length_map]; exact small1000 (Nat.le_trans (List.length_filter_le _ _) (by rw [List.length_take]; omega)), fun b o hb => ?_, ?_⟩
        · rw [upd_ne (ne_of_none hb hD)]
          exact e2 _ _ hb
        · rw [upd_same, ft, ints_snoc]
      · rw [decide_eq_false hm] at ft ⊢
        rw [if_neg (by decide), List.append_nil] at ft
        refine iteF ⟨e2, ?_⟩
        rw [ft]
        exact hD2
    · obtain ⟨e2, hD2⟩ := pv
      rw [show (ints_ sn).length = sn.length from List.length_map .., List.take_length] at hD2
      refine ⟨D, _, rfl, .inl (.inl (.inl hD2)), _, _, rfl, rfl, k _ _ (e1.trans e2) ?_⟩
      rw [decide_eq_true_eq]
      constructor
      · intro h
        have h : (0 : Int) < (((ints_ (sn.filter fun b => decide (b ∈ lot))).length : Nat) : Int) := h
        rw [show (ints_ (sn.filter fun b => decide (b ∈ lot))).length = (sn.filter fun b => decide (b ∈ lot)).length from List.length_map ..] at h
        have hp : 0 < (sn.filter fun b => decide (b ∈ lot)).length := by omega
        obtain ⟨x, hx⟩ := List.exists_mem_of_length_pos hp
        obtain ⟨x1, x2⟩ := List.mem_filter.mp hx
        exact ⟨x, of_decide_eq_true x2, (iff x).mp x1⟩
      · rintro ⟨x, x1, x2⟩
        have hp : 0 < (sn.filter fun b => decide (b ∈ lot)).length := List.length_pos_of_mem (List.mem_filter.mpr ⟨(iff x).mpr x2, decide_eq_true x1⟩)
        show (0 : Int) < (((ints_ (sn.filter fun b => decide (b ∈ lot))).length : Nat) : Int)
        rw [show (ints_ (sn.filter fun b => decide (b ∈ lot))).length = (sn.filter fun b => decide (b ∈ lot)).length from List.length_map ..]
        omega
theorem mm_edge {n : Nat} {es : List (Nat × Nat)} (ok : LandOk n es) (b c : Nat) : (min b c, max b c) ∈ es ↔ edge es c b := by
  unfold edge
  rcases Nat.le_total b c with h | h
  · rw [Nat.min_eq_left h, Nat.max_eq_right h]
    refine ⟨.inr, fun z => z.elim (fun z => ?_) id⟩
    have q := (ok.lt _ z).1
    have q : c < b := q
    omega
  · rw [Nat.min_eq_right h, Nat.max_eq_left h]
    refine ⟨.inl, fun z => z.elim id fun z => ?_⟩
    have q := (ok.lt _ z).1
    have q : b < c := q
    omega
/-! _law_says, _law_mixed -/
theorem al {H : Hp} {o : HO} {b : Addr} (nb : H b = none) : Same H (upd H b o) := same_new (Same.refl H) nb
theorem n200 {n : Nat} (h : n ≤ 5) : ((n : Nat) : Int) < 2 ^ 200 := by
  have : (5 : Int) < 2 ^ 200 := by decide
  omega
theorem iteB {b : Bool} {p q : Prop} (h1 : b = true → p) (h2 : b = false → q) : if b = true then p else q := by
  cases b with
  | true => exact h1 rfl
  | false => exact h2 rfl
def spMixed : Sp := fun vs H Q _ => ∃ (h c t : Addr) (lot : List Nat), vs = [.ref h, .ref t] ∧ Hand H h c ∧ H t = some (.tup (ints_ lot)) ∧ lot.length ≤ 5 ∧ ∀ H' R row, Stay h c H H' → H R = none → H' R = some (.lst (ints_ row)) → row.Perm lot → Q (.ref R) H'
theorem ok_mixed {f fdr : Addr} {fd fddr : FuncData} (F : Fun K "_law_mixed" "_law_mixed" s__law_mixed f fd)
    (Gdr : FnOk P w K mg base CX0 2 fdr fddr ["_law_hand_here", "_law_many"] spDraw) (gdr : mg "_law_draw" = some (.ref fdr)) (kdr : PySem.W.keepIn K (.ref fdr) = true) (bdr : Binds K fddr ["_law_hand_here", "_law_many"] [])
    (m_range : mg "range" = none) (m_len : mg "len" = none) (m_list : mg "list" = none) : FnOk P w K mg base CX0 3 f fd ["_law_hand_here", "_law_lot"] spMixed := by
  refine F.ok sc__law_mixed (fun vs H Q E h => ?_) (fun cdv A outer s H vs Q E hr h => ?_)
  · obtain ⟨h, c, t, lot, rfl, _⟩ := h
    rfl
  · obtain ⟨h, c, t, lot, rfl, hh, ht, l5, q⟩ := h
    refine ⟨_, (pss_cons (ps_set (i := 2) sc__law_mixed.nd rfl (by first | exact Or.inl rfl | exact Or.inr rfl) (pe_callTy call_list_of (by rfl) m_list boot_list (pa_cons (pv 1) pa_nil)))
 (pss_cons (ps_set (i := 3) sc__law_mixed.nd rfl (by first | exact Or.inl rfl | exact Or.inr rfl) (pe_lst pa_nil))
 (pss_cons (ps_for PassesOwn.never rfl (pi_range1 rfl m_range (pa_cons (pe_callB call_len_seq (by rfl) m_len boot_len (pa_cons (pv 1) pa_nil)) pa_nil)) (pg_name (i := 4) sc__law_mixed.nd rfl (by first | exact Or.inl rfl | exact Or.inr rfl))
  (pss_one (ps_expr (pe_bm PySem.F.plainAttrs_list PySem.F.slot_list_append PySem.F.type_list_append mt_append (pv 3) (pa_cons (pe_bm PySem.F.plainAttrs_list PySem.F.slot_list_pop PySem.F.type_list_pop mt_popAt (pv 2) (pa_cons (pe_call Gdr (hr.mono (by decide)) (by rfl) gdr kdr bdr .nil pass0 (pa_cons (pv 0) (pa_cons (pe_callB call_len_seq (by rfl) m_len boot_len (pa_cons (pv 2) pa_nil)) pa_nil))) pa_nil)) pa_nil)))))
 (pss_one (ps_ret (pv 3)))))), ?_⟩
    have il : ∀ l : List Nat, (ints_ l).length = l.length := fun l => List.length_map ..
    refine ⟨_, rfl, t, _, rfl, .inr (.inl (.inl ht)), fun Lf nL => ?_⟩
    have e1 := al (o := .lst (ints_ lot)) nL
    have hL1 : upd H Lf (.lst (ints_ lot)) Lf = some (.lst (ints_ lot)) := upd_same
    obtain ⟨hLh, hLc⟩ := hh.ne nL
    generalize upd H Lf (.lst (ints_ lot)) = H1 at e1 hL1 ⊢
    refine ⟨by show 0 ≤ sizeLine; decide, fun R nR => ?_⟩
    have nR0 := e1.free nR
    obtain ⟨hRh, hRc⟩ := hh.ne nR0
    have e2 := al (o := .lst []) nR
    have nLR : Lf ≠ R := ne_of_none hL1 nR
    have hL2 := e2 _ _ hL1
    have hR2 : upd H1 R (.lst []) R = some (.lst []) := upd_same
    have e12 := e1.trans e2
    generalize upd H1 R (.lst []) = H2 at e2 hL2 hR2 e12 ⊢
    refine ⟨_, rfl, t, _, rfl, .inr (.inl (.inl (e12 _ _ ht))), _, rfl, by rw [il]; omega, by rw [il]; omega, for_range (lo := 0) (n := (ints_ lot).length) (fun k τ H' => k ≤ lot.length ∧ ∃ (nm lf : List Nat) (y4 : Option V), τ = [some (.ref h), some (.ref t), some (.ref Lf), some (.ref R), y4] ∧ Stay h c H H' ∧ H' R = some (.lst (ints_ nm)) ∧ H' Lf = some (.lst (ints_ lf)) ∧ (nm ++ lf).Perm lot ∧ nm.length = k)
        ⟨Nat.zero_le _, [], lot, none, rfl, .of_same hh e12, hR2, hL2, List.Perm.refl _, rfl⟩ (fun k τ H' hk pv => ?_) (fun τ H' pv => ?_)⟩
    · obtain ⟨_, nm, lf, y4, rfl, st, hN, hL, hp, hl⟩ := pv
      rw [il] at hk
      have hll : lf.length = lot.length - k := by
        have := hp.length_eq
        rw [List.length_append] at this
        omega
      refine ⟨_, rfl, .inl ⟨rfl, _, .inl (.inl hN)⟩, _, rfl, .inl ⟨rfl, _, .inl (.inl hL)⟩, _, rfl, _, rfl, Lf, _, rfl, .inl (.inl (.inl hL)), h, c, _, rfl, st.hand, by rw [il]; omega, ?_, fun H4 x d x0 x1 => ?_⟩
      · rw [il]
        exact n200 (by omega)
      obtain ⟨j, rfl⟩ : ∃ j : Nat, x = (j : Int) := ⟨x.toNat, by omega⟩
      have hj : j < lf.length := by rw [il] at x1; omega
      have hN4 : H4 R = some (.lst (ints_ nm)) := by rw [d.but R hRh]; exact hN
      have hL4 : H4 Lf = some (.lst (ints_ lf)) := by rw [d.but Lf hLh]; exact hL
      refine ⟨Lf, _, _, j, .int (lf[j] : Nat), rfl, rfl, hL4, by omega, by omega, (ixN_seq (ixN_nat (by rw [il]; omega))).1, ?_, ?_⟩
      · unfold ints_
        rw [List.getElem?_map, List.getElem?_eq_getElem hj]
        rfl
      have hN5 : upd H4 Lf (.lst ((ints_ lf).eraseIdx j)) R = some (.lst (ints_ nm)) := by rw [upd_ne nLR.symm]; exact hN4
      refine ⟨R, _, _, rfl, rfl, hN5, by rw [il]; exact small1000 (by omega), ?_⟩
      refine ⟨by omega, nm ++ [lf[j]], lf.eraseIdx j, _, rfl, ⟨fun b o nb hb => ?_, hh, ((d.hand.upd hLh hLc).upd hRh hRc)⟩, ?_, ?_, (KL.pop_perm hj).trans hp, by rw [List.length_append, hl]; rfl⟩
      · rw [upd_ne (ne_of_none hb nR0), upd_ne (ne_of_none hb nL), d.but b nb]
        exact st.but b o nb hb
      · rw [upd_same]
        unfold ints_
        rw [List.map_append]
        rfl
      · rw [upd_ne nLR, upd_same]
        unfold ints_
        rw [map_erase]
    · obtain ⟨_, nm, lf, y4, rfl, st, hN, hL, hp, hl⟩ := pv
      rw [il] at hl
      have l0 : lf = [] := by
        have := hp.length_eq
        rw [List.length_append] at this
        exact List.length_eq_zero_iff.mp (by omega)
      subst l0
      rw [List.append_nil] at hp
      exact ⟨_, rfl, q _ R nm st nR0 hN hp⟩
end
end K7
end
/-! ## SKL -/
section
/-! sorted(ts, key=lambda z: (len(z), z)), ts tuples of whole numbers -/
namespace K7E
open PySem PySem.Spec PyProof.Rows L2 LamX
/-- what the lambda's text is -/
structure LenKey (z : Str) (params : Arguments) (body : Expr) (scope : Scope) : Prop where
  text : ∃ (p1 p2 p3 p4 p5 : Pos) (x1 : Nat), body = .Tuple [.Call (.Name "len" p1) [.Name z p2] [] p3, .Name z p4] x1 p5
  kind : scope.kind = .function
  co : scope.isCoroutine = false
  gen : scope.isGenerator = false
  cells : ∀ y ∈ scope.names, y.2 ≠ .cell
  free : ∀ y ∈ scope.names, y.2 ≠ .free
  loc : scope.names.lookup z = some .local
  len : scope.names.lookup ("len" : Str) = some .globalImplicit
  zd : (z == ("__debug__" : Str)) = false
  bind : ∀ (q : Str) (cl : List (Str × Addr)) (pm cv ctv u : Value), bindArgs (PySem.W.kla_fn "<lambda>" q params body scope cl pm cv ctv) ⟨[u], []⟩ = pure [(z, u)]
def lenKey (ns : List Int) : PyData := .tuple [.int (ns.length : Nat), .tuple (ns.map PyData.int)]
theorem reads_ints {h : Heap} : ∀ {vs : List Value} {ns : List Int}, IntsAre vs ns → ReadsAll h vs (ns.map PyData.int) []
  | _, _, .nil => .nil
  | _, _, .cons n t i => .cons (as := []) (bs := []) (.int n t) (reads_ints i)
theorem ints_len_eq : ∀ {vs : List Value} {ns : List Int}, IntsAre vs ns → vs.length = ns.length
  | _, _, .nil => rfl
  | _, _, .cons n t i => congrArg (· + 1) (ints_len_eq i)
theorem lam_len {prog : Program} {w : World} {A : Around} {s : Shared} {K : PySem.W.Frag} {mg : Str → Option Value} {base : Heap} {f c' t : Addr} {q z : Str} {params : Arguments} {body : Expr} {scope : Scope} {pm ctv : Value} {its : List Value} {ns : List Int} {E : Value → Shared → Prop}
    (L : LenKey z params body scope) (hroom : A.depth < recursionLimit) (M : Mod K mg base) (bk : ∀ b o, base.get? b = some o → s.heap.get? b = some o) (hm : mg "len" = none)
    (of1 : s.heap.get? f = some (PySem.W.kla_obj "<lambda>" q params body scope [] pm c' ctv)) (hcd : s.heap.CodeRec (.ref c') q) (ht : IsTup s.heap t its.toArray) (hi : IntsAre its ns) (hz : its.length ≤ 1000) :
    wpAny (model prog w) A (call (.ref f) [.ref t]) (PySem.W.KeyPure (lenKey ns) s) E s := by
  refine wpAny_call ?_
  refine PySem.W.kla_callFunE hroom of1 rfl L.co L.gen rfl hcd ?_
  rw [L.bind]
  refine wpAny_pure (wpAny_newFunctionEnv L.cells (fun y hy => ?_) (fun h₁ hns hsb => ⟨(M.nolimit.keeps bk).fresh _ hsb, ?_⟩) L.kind)
  · rw [List.mem_singleton.mp hy]
    exact L.loc
  have hk₁ : ∀ b o, s.heap.get? b = some o → h₁.get? b = some o := fun b o e => hsb.extBut b o (Nat.ne_of_lt (Heap.lt_size e)) (Heap.get?_push_of_some _ e)
  have bk₁ : ∀ b o, base.get? b = some o → h₁.get? b = some o := fun b o e => hk₁ b o (bk b o e)
  show codeAny _ _ (.expr body (PySem.W.envX q scope s.heap.objs.size f (.ref c') [])) _ _
  refine PySem.W.kla_codeExpr ?_
  obtain ⟨p1, p2, p3, p4, p5, x1, eb⟩ := L.text
  rw [eb]
  obtain ⟨mb, b1, b2⟩ := M.blt
  have ezl : (fun x => ([(z, Value.ref t)] : List (Str × Value)).reverse.lookup x) z = some (Value.ref t) := by simp
  refine wpAny_Tuple_spliced ?_
  show wpAny _ _ (spliced ((false, eval (.Call (.Name "len" p1) [.Name z p2] [] p3) (PySem.W.envX q scope s.heap.objs.size f (.ref c') [])) :: backTo p5 (starEach [.Name z p4] (PySem.W.envX q scope s.heap.objs.size f (.ref c') [])))) _ _ _
  refine Calls.spliced_cons ?_
  refine wpAny_Call_Name_kw (Calls.Name_function_global L.kind L.len (Calls.loadGlobal_builtin (M.glob.keeps bk₁) hm (b1.keeps bk₁) ((b2 "len" (by decide)).trans boot_len) ?_) (by decide))
  refine PyProof.Rows.callWith_builtin1 ?_ (by rfl) (by rfl)
  show wpAny _ _ (spliced ((false, eval (.Name z p2) (PySem.W.envX q scope s.heap.objs.size f (.ref c') [])) :: backTo p3 (starEach [] (PySem.W.envX q scope s.heap.objs.size f (.ref c') [])))) _ _ _
  refine Calls.spliced_cons (wpAny_Name (wpAny_loadName_local L.kind L.loc hns ezl ?_) L.zd)
  refine Calls.spliced_nil ?_
  have hl : its.toArray.size = ns.length := by rw [List.size_toArray, ints_len_eq hi]
  refine len_tuple (ht.keeps hk₁) (by rw [List.size_toArray]; omega) ?_
  rw [hl]
  show wpAny _ _ (spliced ((false, eval (.Name z p4) (PySem.W.envX q scope s.heap.objs.size f (.ref c') [])) :: backTo p5 (starEach [] (PySem.W.envX q scope s.heap.objs.size f (.ref c') [])))) _ _ _
  refine Calls.spliced_cons (wpAny_Name (wpAny_loadName_local L.kind L.loc hns ezl ?_) L.zd)
  refine Calls.spliced_nil ⟨by show 2 ≤ sizeLine; decide, ?_⟩
  obtain ⟨o, ho, hc, n, hd⟩ := ht
  have kp : ∀ b ob, s.heap.get? b = some ob → (h₁.push { cls := .type "tuple", data := .seq (List.toArray [Value.int (ns.length : Nat) (s.toks + [(z, Value.ref t)].length + 1), Value.ref t]) }).get? b = some ob := fun b ob e => Heap.get?_push_of_some _ (hk₁ b ob e)
  refine ⟨_, _, rfl, kp, ?_⟩
  exact .tuple (as := []) (Heap.get?_push_size _ rfl) rfl rfl (.cons (as := []) (bs := []) (.int _ _) (.cons (as := []) (bs := []) (.tuple (as := []) (kp _ _ ho) hc hd (reads_ints (by simpa using hi))) .nil))
theorem clo_none {cells : List (Str × Addr)} : ∀ (ns : List (Str × NameKind)) (acc : List (Str × Addr)), (∀ y ∈ ns, y.2 ≠ .free) → cloFrom cells ns acc = acc
  | [], _, _ => rfl
  | (n, k) :: r, acc, h => by
    have hk : ¬ ((k == NameKind.free) = true) := fun e => h (n, k) List.mem_cons_self (by simpa using e)
    rw [cloFrom, if_neg hk]
    exact clo_none r acc fun y hy => h y (List.mem_cons_of_mem _ hy)
theorem alike_ints : ∀ ns ms : List Int, PySem.W.alikeAll (ns.map PyData.int) (ms.map PyData.int) = true
  | [], [] => by simp [PySem.W.alikeAll]
  | [], _ :: _ => by simp [PySem.W.alikeAll]
  | _ :: _, [] => by simp [PySem.W.alikeAll]
  | a :: ns, b :: ms => by simp [PySem.W.alikeAll, PySem.W.alike, alike_ints ns ms]
theorem depth_ints : ∀ ns : List Int, PyData.depthAll (ns.map PyData.int) = 0
  | [] => by simp [PyData.depthAll]
  | a :: ns => by simp [PyData.depthAll, PyData.depth, depth_ints ns]
theorem lenKey_depth (ns : List Int) : (lenKey ns).depth ≤ 2 := by
  unfold lenKey
  simp [PyData.depth, PyData.depthAll, depth_ints]
theorem lenKey_alike (ns ms : List Int) : PySem.W.alike (lenKey ns) (lenKey ms) = true := by
  unfold lenKey
  simp [PySem.W.alike, PySem.W.alikeAll, alike_ints]
/-- the key of the tuple at t -/
def lotKey (lo : Addr → List Int) (t : Addr) : PyData := lenKey (lo t)
def tSLK (T : List (Addr × Str)) (te : TE) : TE := fun σ H Q => te σ H fun x H1 => ∃ (a : Addr) (ts : List Addr) (lo : Addr → List Int), x = .ref a ∧ H1 a = some (.lst (ts.map V.ref)) ∧ (∀ t ∈ ts, H1 t = some (.tup ((lo t).map V.int)) ∧ (lo t).length ≤ 1000) ∧ Tabs T H1 ∧
  ∀ H2, ExtN H1 H2 → Tabs T H2 → ∀ p, H2 p = none → Q (.ref p) (upd H2 p (.lst ((ts.mergeSort (PySem.W.dataLe false (lotKey lo))).map V.ref)))
theorem each_refs : ∀ {ts : List Addr} {its : List Value}, Vals (ts.map V.ref) its → PySem.W.EachIs (fun v t => v = Value.ref t) its ts
  | [], _, .nil => .nil
  | _ :: _, _, .cons r rs => .cons r (each_refs rs)
theorem refs_each : ∀ {ts : List Addr} {its : List Value}, PySem.W.EachIs (fun v t => v = Value.ref t) its ts → Vals (ts.map V.ref) its
  | [], _, .nil => .nil
  | _ :: _, _, .cons r rs => .cons r (refs_each rs)
theorem pe_sortLK {X : Cx} {T : List (Addr × Str)} {c P : Addr} {z : Str} {params : Arguments} {body : Expr} {scope : Scope} {lpos p pos kpos : Pos} {e : Expr} {te : TE} {k : Nat} (hg : Gl X "sorted") (hm : X.mg "sorted" = none) (hml : X.mg "len" = none) (he : PE X e te) (TB : TabB X.base X.mg c P) (hcode : X.env.code = .ref c)
    (hmT : (P, X.env.qual ++ "<lambda>") ∈ T) (hu : ∀ p ∈ T, p.1 = P → p.2 = X.env.qual ++ "<lambda>") (hr : Room (k + 2) X.A) (L : LenKey z params body scope) (hdef : defaultsOf params X.env = ([], []))
    (hs : starEach [e] X.env = (false, eval e X.env) :: starEach [] X.env := by rfl) :
    PE X (.Call (.Name "sorted" p) [e] [⟨some "key", .Lambda params body scope lpos, kpos⟩] pos) (tSLK T te) := by
  refine ⟨fun pins s σ H Q I h => ?_⟩
  refine wpAny_Call_Name_kw (ld_blt I hg hm boot_sorted ?_ (by decide) (by decide))
  refine PyProof.Rows.callWith_kw ?_ (by rw [hs]; rfl) (by rw [hs]; rfl) (by rfl) (by rfl)
  refine thn ((pa_cons he pa_nil hs).run pos pins s σ H (fun vs H1 => match vs with | [x] => (∃ (a : Addr) (ts : List Addr) (lo : Addr → List Int), x = .ref a ∧ H1 a = some (.lst (ts.map V.ref)) ∧ (∀ t ∈ ts, H1 t = some (.tup ((lo t).map V.int)) ∧ (lo t).length ≤ 1000) ∧ Tabs T H1 ∧
    ∀ H2, ExtN H1 H2 → Tabs T H2 → ∀ p, H2 p = none → Q (.ref p) (upd H2 p (.lst ((ts.mergeSort (PySem.W.dataLe false (lotKey lo))).map V.ref)))) | _ => False) I h) fun us s1 ⟨vs, H1, I1, r1, q1⟩ => ?_
  obtain ⟨x, rfl⟩ : ∃ x, vs = [x] := by
    match vs, q1 with
    | [x], _ => exact ⟨x, rfl⟩
  obtain ⟨a, ts, lo, rfl, hl1, ht1, hT, q⟩ := q1
  obtain rfl := Vals.ref1 r1
  show wpAny _ _ (evalAll ((do let v ← eval (.Lambda params body scope lpos) X.env; standAt pos; pure v) :: (backToKw pos (keywordEach [] X.env)).map (·.2))) _ _ s1
  refine wpAny_evalAll_cons (wpAny_bind (lam_make2 I1 TB hcode hmT hu hT hdef (fun y hy e => absurd e (L.free y hy)) fun f c' pm ctv H2 s2 I2 eN T2 hf hfn hfr hco => wpAny_bind (wpAny_standAt (wpAny_pure ?_))))
  refine wpAny_evalAll_nil ?_
  show wpAny _ _ (call (.builtin "sorted") [.ref a] [(Str.ofString "key", .ref f)]) _ _ s2
  rw [clo_none _ _ L.free] at hf
  have hl2 := eN _ _ hl1 fun ps e => by cases e
  obtain ⟨its, rv, hl, hz⟩ := I2.list (.inl (.inl hl2))
  obtain ⟨⟨oc, vs', tq, hoc, hdc, hvc⟩, _, _⟩ := I2.hok c' _ hco
  have un := hr.un
  refine PySem.W.sorted_key_data (b := false) (R := fun v t => v = Value.ref t) (lotKey lo) hl.isList (each_refs rv) (PySem.W.AllAlike.of fun t t' => lenKey_alike _ _) (PySem.W.Sortable.tuples fun t => ⟨_, _, rfl⟩) (by rw [List.length_map] at hz; exact hz) (fun t _ => ?_) (PyProof.Rows.ksk_s1 _ _) (fun _ => PyProof.Rows.ksk_l1 _ _) (fun _ => PyProof.Rows.ksk_t1 _ _) (fun v t ev mt h tk kp => ?_) fun out c2 h' tk kp hnew hD hlen eo => ?_
  · have d := lenKey_depth (lo t)
    show X.A.units + 2 + (lenKey (lo t)).depth < cLine
    omega
  · subst ev
    obtain ⟨ht2, hlz⟩ := ht1 t mt
    have ht3 := eN _ _ ht2 fun ps e => by cases e
    obtain ⟨its2, rv2, htup, _⟩ := I2.tuple (.inl (.inl ht3))
    have hlen2 := rv2.length
    rw [List.length_map] at hlen2
    have r2 : Room k X.A.in1.in1 := (Room.in1 (Room.in1 hr))
    exact lam_len (s := { s2 with heap := h, toks := tk }) L r2.depth I2.mod (fun b o e => kp b o (I2.bk b o e)) hml (kp _ _ hf) ⟨c', oc, vs', tq, rfl, kp _ _ hoc, hdc, hvc⟩ (htup.keeps kp) rv2.ints (by omega)
  · have rv3 := refs_each eo
    have hl3 : ((ts.mergeSort (PySem.W.dataLe false (lotKey lo))).map V.ref).length ≤ sizeLine := by
      rw [List.length_map, List.length_mergeSort]
      rw [List.length_map] at hz
      exact hz
    exact ⟨.ref _, upd H2 (s2.heap.objs.size + 1) (.lst ((ts.mergeSort (PySem.W.dataLe false (lotKey lo))).map V.ref)), I2.laid (t' := tk) kp (Nat.le_succ _) ⟨hl3, _, c2, rv3, hD⟩, rfl, q H2 eN T2 _ (I2.hok.fresh (Nat.le_succ _))⟩
end K7E
end
/-! ## LOT -/
section
open PySem PySem.Spec PyProof.Rows L2
namespace K7
abbrev N_all_lots : List Str := ["cells", "lots", "cell", "lot"]
abbrev s_all_lots : Stmt := topS 21
theorem sc_all_lots : FnScope ["cells", "lots", "cell", "lot"] ["cells"] (defScope s_all_lots) := ⟨rfl, rfl, rfl, by decide +kernel, rfl, by decide +kernel, by decide +kernel⟩
/-! ### a def whose code object is known -/
structure FunC (K : PySem.W.Frag) (x qual : Str) (st : Stmt) (f : Addr) (fd : FuncData) (c : Addr) : Prop where
  ex : ∃ (oc : Value) (od : Option Addr) (kV doc pm : Value) (an : Option Addr) (ct : Value) (osl : Array (Option Value)),
    fd = PySem.W.fnOf x qual (defArgs st) (defBody st) (defScope st) .none kV doc pm an (.ref c) ct ∧ K.lookup f = some ⟨oc, od, .func fd, osl⟩ ∧ PySem.W.codeIn K (.ref c) qual = true
  kp : PySem.W.keepIn K (.ref f) = true
theorem FunC.fn {K : PySem.W.Frag} {x qual : Str} {st : Stmt} {f : Addr} {fd : FuncData} {c : Addr} (F : FunC K x qual st f fd c) : Fun K x qual st f fd := by
  obtain ⟨oc, od, kV, doc, pm, an, ct, osl, e1, e2, e3⟩ := F.ex
  exact ⟨⟨oc, od, kV, doc, pm, an, .ref c, ct, osl, e1, e2, e3⟩, F.kp⟩
theorem FunC.ok {P : Program} {w : World} {K : PySem.W.Frag} {mg : Str → Option Value} {base : Heap} {x qual : Str} {st : Stmt} {f : Addr} {fd : FuncData} {c : Addr} {N ps : List Str} {k : Nat} {sp : Sp} (F : FunC K x qual st f fd c) (S : FnScope N ps (defScope st)) (len : ∀ vs H Q E, sp vs H Q E → vs.length = ps.length)
    (hbody : ∀ (A : Around) (outer : List Env) (s : Shared) (H : Hp) (vs : List V) (Q : VK) (E : XK), Room k (A.deeper (envOfC qual (defScope st) s.heap.objs.size f (.ref c))) → sp vs H Q E →
      ∃ t, PSs (cxOf CX0 P w K mg base N qual (defScope st) f (.ref c) A outer s H E).nox (defBody st) t ∧ t { nx := fun _ H' => Q .non H', rt := Q } (start N vs) H) : FnOk P w K mg base CX0 (k + 1) f fd ps sp := by
  obtain ⟨oc, od, kV, doc, pm, an, ct, osl, rfl, lk, hcd⟩ := F.ex
  refine fn_of lk hcd S len fun A outer s H vs Q E hr hsp => ?_
  obtain ⟨t, h, q⟩ := hbody A outer s H vs Q E hr hsp
  exact ⟨t, h.nox, q⟩
/-! ### all lots -/
def subs (cs : List Int) : List (List Int) := cs.foldl (fun L c => L ++ L.map (· ++ [c])) [[]]
def sortedLots (cs : List Int) : List (List Int) := (subs cs).mergeSort (PySem.W.dataLe false K7E.lenKey)
theorem subs_snoc (cs : List Int) (c : Int) : subs (cs ++ [c]) = subs cs ++ (subs cs).map (· ++ [c]) := by
  unfold subs
  rw [List.foldl_append]
  rfl
theorem subs_gen : ∀ (cs : List Int) (L : List (List Int)), (cs.foldl (fun L c => L ++ L.map (· ++ [c])) L).length = L.length * 2 ^ cs.length ∧ ∀ l ∈ cs.foldl (fun L c => L ++ L.map (· ++ [c])) L, ∃ l0 ∈ L, l.length ≤ l0.length + cs.length
  | [], L => ⟨by simp, fun l hl => ⟨l, hl, Nat.le_refl _⟩⟩
  | c :: cs, L => by
    obtain ⟨h1, h2⟩ := subs_gen cs (L ++ L.map (· ++ [c]))
    refine ⟨?_, fun l hl => ?_⟩
    · show (cs.foldl (fun L c => L ++ L.map (· ++ [c])) (L ++ L.map (· ++ [c]))).length = _
      rw [h1, List.length_append, List.length_map, List.length_cons, Nat.pow_succ, ← Nat.two_mul, Nat.mul_comm 2, Nat.mul_assoc, Nat.mul_comm 2]
    · obtain ⟨l0, m0, z⟩ := h2 l hl
      rcases List.mem_append.mp m0 with m | m
      · exact ⟨l0, m, by rw [List.length_cons]; omega⟩
      · obtain ⟨l1, m1, rfl⟩ := List.mem_map.mp m
        rw [List.length_append, List.length_singleton] at z
        exact ⟨l1, m1, by rw [List.length_cons]; omega⟩
theorem subs_len (cs : List Int) : (subs cs).length = 2 ^ cs.length ∧ ∀ l ∈ subs cs, l.length ≤ cs.length := by
  obtain ⟨h1, h2⟩ := subs_gen cs [[]]
  refine ⟨by unfold subs; rw [h1]; simp, fun l hl => ?_⟩
  obtain ⟨l0, m0, z⟩ := h2 l hl
  rw [List.mem_singleton.mp m0] at z
  simpa using z
/-- tuples of whole numbers -/
inductive TI (H : Hp) : List Addr → List (List Int) → Prop
  | nil : TI H [] []
  | cons {t : Addr} {l : List Int} {ts : List Addr} {ls : List (List Int)} (h : H t = some (.tup (l.map V.int))) (r : TI H ts ls) : TI H (t :: ts) (l :: ls)
theorem TI.mono {H H' : Hp} (e : ∀ b xs, H b = some (.tup xs) → H' b = some (.tup xs)) : ∀ {ts ls}, TI H ts ls → TI H' ts ls
  | _, _, .nil => .nil
  | _, _, .cons h r => .cons (e _ _ h) (r.mono e)
theorem TI.same {H H' : Hp} {ts : List Addr} {ls : List (List Int)} (h : TI H ts ls) (e : Same H H') : TI H' ts ls := h.mono fun b xs => e b _
theorem TI.ext {H H' : Hp} {ts : List Addr} {ls : List (List Int)} (h : TI H ts ls) (e : LamX.ExtN H H') : TI H' ts ls := h.mono fun b xs hb => e b _ hb fun ps z => by cases z
theorem TI.append {H : Hp} : ∀ {ts ls us ms}, TI H ts ls → TI H us ms → TI H (ts ++ us) (ls ++ ms)
  | _, _, _, _, .nil, g => g
  | _, _, _, _, .cons h r, g => .cons h (r.append g)
theorem TI.len {H : Hp} : ∀ {ts ls}, TI H ts ls → ts.length = ls.length
  | _, _, .nil => rfl
  | _, _, .cons _ r => congrArg (· + 1) r.len
theorem TI.get {H : Hp} : ∀ {ts ls} {i : Nat} {t : Addr}, TI H ts ls → ts[i]? = some t → ∃ l, ls[i]? = some l ∧ H t = some (.tup (l.map V.int))
  | _, _, 0, _, .cons h _, e => by cases e; exact ⟨_, rfl, h⟩
  | _, _, i + 1, _, .cons _ r, e => r.get (i := i) e
/-- the numbers of the tuple at t -/
def lotOf (H : Hp) (t : Addr) : List Int := match H t with
  | some (.tup xs) => xs.map fun v => match v with | .int i => i | _ => 0
  | _ => []
theorem lotOf_at {H : Hp} {t : Addr} {l : List Int} (h : H t = some (.tup (l.map V.int))) : lotOf H t = l := by
  unfold lotOf
  rw [h]
  show (l.map V.int).map _ = l
  rw [List.map_map]
  exact (List.map_congr_left fun _ _ => rfl).trans (List.map_id l)
theorem TI.lots {H : Hp} : ∀ {ts ls}, TI H ts ls → ts.map (lotOf H) = ls
  | _, _, .nil => rfl
  | _, _, .cons h r => by rw [List.map_cons, lotOf_at h, r.lots]
theorem TI.mem {H : Hp} {ts : List Addr} {ls : List (List Int)} (h : TI H ts ls) : ∀ t ∈ ts, H t = some (.tup ((lotOf H t).map V.int)) ∧ lotOf H t ∈ ls := fun t ht => by
  obtain ⟨i, hi⟩ := List.getElem?_of_mem ht
  obtain ⟨l, e1, e2⟩ := h.get hi
  rw [lotOf_at e2]
  exact ⟨e2, List.mem_of_getElem? e1⟩
theorem TI.of {H : Hp} {lo : Addr → List Int} : ∀ {ts : List Addr}, (∀ t ∈ ts, H t = some (.tup ((lo t).map V.int))) → TI H ts (ts.map lo)
  | [], _ => .nil
  | t :: ts, h => .cons (h t List.mem_cons_self) (TI.of fun t' ht => h t' (List.mem_cons_of_mem _ ht))
def lamQ : Str := ("all_lots" : Str) ++ ".<locals>." ++ "<lambda>"
section
variable {P : Program} {w : World} {K : PySem.W.Frag} {mg : Str → Option Value} {base : Heap}
def spAllL (Pt : Addr) : Sp := fun vs H Q _ => ∃ (r : Addr) (cs : List Int), vs = [.ref r] ∧ H r = some (.lst (cs.map V.int)) ∧ cs.length ≤ 8 ∧ LamX.Tabs [(Pt, lamQ)] H ∧
  ∀ H' u ts, LamX.ExtN H H' → LamX.Tabs [(Pt, lamQ)] H' → H' u = some (.tup (ts.map V.ref)) → TI H' ts (sortedLots cs) → Q (.ref u) H'
theorem ok_alll {f c Pt : Addr} {fd : FuncData} (F : FunC K "all_lots" "all_lots" s_all_lots f fd c) (TB : LamX.TabB base mg c Pt) (m_sorted : mg "sorted" = none) (m_len : mg "len" = none) (m_tuple : mg "tuple" = none) : FnOk P w K mg base CX0 3 f fd ["cells"] (spAllL Pt) := by
  refine F.ok sc_all_lots (fun vs H Q E h => ?_) (fun A outer s H vs Q E hr h => ?_)
  · obtain ⟨r, cs, rfl, _⟩ := h
    rfl
  · obtain ⟨r, cs, rfl, hr0, hn, hT, q⟩ := h
    refine ⟨_, (pss_cons (ps_set (i := 1) sc_all_lots.nd rfl (by first | exact Or.inl rfl | exact Or.inr rfl) (pe_lst (pa_cons (pe_tup pa_nil) pa_nil)))
 (pss_cons (ps_for PassesOwn.never rfl (pi_list (pv 0)) (pg_name (i := 2) sc_all_lots.nd rfl (by first | exact Or.inl rfl | exact Or.inr rfl))
  (pss_one (ps_set (i := 1) sc_all_lots.nd rfl (by first | exact Or.inl rfl | exact Or.inr rfl) (pe_op op_cat (pv 1) (pe_lc (own := [("lot", 3)]) (g := gName 3) (tt := tYes) rfl sc_all_lots.nd (pi_list (pv 1)) (blkOk_by (own := [("lot", 3)]) (N := N_all_lots) (sc := defScope s_all_lots) (by decide +kernel)) (fun _ _ _ _ _ => (pg_name (i := 3) sc_all_lots.nd rfl (by first | exact Or.inl rfl | exact Or.inr rfl))) (fun _ _ _ _ _ => pts_nil) (fun _ _ _ _ _ => (pe_op (show OpR _ _ (rCatA K) from op_catA) (pv 3) (pe_tup (pa_cons (pv 2) pa_nil)))))))))
 (pss_one (ps_ret (pe_callTy call_tuple_of (by rfl) m_tuple boot_tuple (pa_cons (K7E.pe_sortLK (T := [(Pt, lamQ)]) (by rfl) m_sorted m_len (pv 1) TB rfl (List.mem_singleton.mpr rfl) (fun p hp _ => by rw [List.mem_singleton.mp hp]; rfl) hr (by exact ⟨⟨_, _, _, _, _, _, rfl⟩, rfl, rfl, rfl, by decide, by decide, rfl, rfl, rfl, fun _ _ _ _ _ _ => rfl⟩) rfl) pa_nil)))))), ?_⟩
    have p8 : ∀ i, (subs (cs.take i)).length ≤ 256 := fun i => by
      rw [(subs_len _).1]
      exact Nat.le_trans (Nat.pow_le_pow_right (by decide) (show (cs.take i).length ≤ 8 by rw [List.length_take]; omega)) (by decide)
    refine ⟨by show 0 ≤ sizeLine; decide, fun e0 ne0 => ⟨by show 1 ≤ sizeLine; decide, fun L0 nL0 => ?_⟩⟩
    have s1 : Same H (upd H e0 (.tup [])) := same_new (Same.refl H) ne0
    have s2 : Same H (upd (upd H e0 (.tup [])) L0 (.lst [.ref e0])) := same_new s1 nL0
    have he0 : upd (upd H e0 (.tup [])) L0 (.lst [.ref e0]) e0 = some (.tup []) := same_new (Same.refl _) nL0 _ _ upd_same
    have hL0 : upd (upd H e0 (.tup [])) L0 (.lst [.ref e0]) L0 = some (.lst [.ref e0]) := upd_same
    generalize upd (upd H e0 (.tup [])) L0 (.lst [.ref e0]) = H1 at s2 he0 hL0 ⊢
    refine ⟨_, rfl, r, rfl, ⟨_, .inl (.inl (s2 _ _ hr0))⟩, for_list (xs := cs.map V.int) (fun i σ H' => ∃ L us y2, σ = [some (.ref r), some (.ref L), y2, none] ∧ Same H H' ∧ H' L = some (.lst (us.map V.ref)) ∧ TI H' us (subs (cs.take i))) ⟨L0, [e0], none, rfl, s2, hL0, .cons he0 .nil⟩ (fun i σ H' _ pv => ?_) (fun i x σ H' hx pv => ?_) (fun σ H' pv => ?_)⟩
    · obtain ⟨L, us, y2, rfl, e, hL, tU⟩ := pv
      exact .inl (.inl (e _ _ hr0))
    · obtain ⟨L, us, y2, rfl, e, hL, tU⟩ := pv
      rw [List.getElem?_map] at hx
      obtain ⟨z, hz, rfl⟩ := Option.map_eq_some_iff.mp hx
      have ul := tU.len
      have u8 := p8 i
      have tk : subs (cs.take (i + 1)) = subs (cs.take i) ++ (subs (cs.take i)).map (· ++ [z]) := by
        rw [List.take_add_one, hz]
        exact subs_snoc _ _
      refine ⟨_, rfl, _, rfl, L, rfl, ⟨_, .inl (.inl hL)⟩, fun D hD => lc_list (xs := us.map V.ref) (fun j H2 => Same H' H2 ∧ ∃ vs, H2 D = some (.lst (vs.map V.ref)) ∧ TI H2 vs (((subs (cs.take i)).take j).map (· ++ [z])) ∧ vs.length ≤ j) ⟨same_new (Same.refl H') hD, [], upd_same, .nil, Nat.le_refl _⟩ (fun j H2 _ pv => .inl (.inl (pv.1 _ _ hL))) (fun j x H2 hx pv => ?_) (fun H2 pv => ?_)⟩
      · obtain ⟨e2, vs, hD2, tV, lv⟩ := pv
        rw [List.getElem?_map] at hx
        obtain ⟨t, ht, rfl⟩ := Option.map_eq_some_iff.mp hx
        obtain ⟨l, el, hl⟩ := tU.get ht
        have jl := (List.getElem?_eq_some_iff.mp ht).1
        have ll : l.length ≤ 8 := Nat.le_trans ((subs_len _).2 l (List.mem_of_getElem? el)) (by rw [List.length_take]; omega)
        have f1 : ((subs (cs.take i)).take (j + 1)).map (· ++ [z]) = ((subs (cs.take i)).take j).map (· ++ [z]) ++ [l ++ [z]] := by
          rw [List.take_add_one, el, List.map_append]
          rfl
        have put : ∀ H3 v, Same H2 H3 → H3 v = some (.tup ((l ++ [z]).map V.int)) → ∃ acc, H3 D = some (.lst acc) ∧ acc.length < sizeLine ∧ Same H' (upd H3 D (.lst (acc ++ [.ref v]))) ∧ ∃ vs', upd H3 D (.lst (acc ++ [.ref v])) D = some (.lst (vs'.map V.ref)) ∧ TI (upd H3 D (.lst (acc ++ [.ref v]))) vs' (((subs (cs.take i)).take (j + 1)).map (· ++ [z])) ∧ vs'.length ≤ j + 1 := fun H3 v e3 hv => by
          have hD3 := e3 _ _ hD2
          have up : ∀ b xs, H3 b = some (.tup xs) → upd H3 D (.lst (vs.map V.ref ++ [.ref v])) b = some (.tup xs) := fun b xs hb => by
            rw [upd_ne (fun w => by rw [w, hD3] at hb; cases hb)]
            exact hb
          refine ⟨_, hD3, by rw [List.length_map]; exact small1000 (by omega), fun b o hb => ?_, vs ++ [v], by rw [upd_same, List.map_append]; rfl, ?_, by rw [List.length_append, List.length_singleton]; omega⟩
          · rw [upd_ne (ne_of_none hb hD)]
            exact e3 _ _ (e2 _ _ hb)
          · rw [f1]
            exact ((tV.same e3).mono up).append (.cons (up _ _ hv) .nil)
        refine ⟨rfl, _, rfl, _, rfl, by show 1 ≤ sizeLine; decide, fun p np => ?_⟩
        have e3 : Same H2 (upd H2 p (.tup [.int z])) := same_new (Same.refl H2) np
        refine ⟨t, p, _, _, rfl, rfl, .inl (.inl (e3 _ _ (e2 _ _ hl))), .inl (.inl upd_same), ?_, fun w => ?_, (fun _ z2 => nomatch z2), fun z1 _ p2 np2 => ?_⟩
        · rw [List.length_map]
          exact Nat.le_trans (show l.length + 1 ≤ 1000 by omega) (by decide)
        · have l0 : l = [] := by simpa using w
          exact put _ p e3 (by rw [upd_same, l0]; rfl)
        · exact put _ p2 (e3.trans (same_new (Same.refl _) np2)) (by rw [upd_same, List.map_append]; rfl)
      · obtain ⟨e2, vs, hD2, tV, lv⟩ := pv
        rw [List.length_map, ul, List.take_length] at tV
        have vl := tV.len
        rw [List.length_map] at vl
        refine ⟨L, D, _, _, rfl, rfl, e2 _ _ hL, hD2, ?_, fun p np => ?_⟩
        · rw [List.length_map, List.length_map]
          exact Nat.le_of_lt (small1000 (by omega))
        · have e3 : Same H2 (upd H2 p (.lst (us.map V.ref ++ vs.map V.ref))) := same_new (Same.refl H2) np
          refine ⟨p, us ++ vs, _, rfl, (e.trans e2).trans e3, by rw [upd_same, List.map_append], ?_⟩
          rw [tk]
          exact ((tU.same e2).append tV).same e3
    · obtain ⟨L, us, y2, rfl, e, hL, tU⟩ := pv
      rw [List.length_map, List.take_length] at tU
      refine ⟨_, rfl, L, us, lotOf H', rfl, hL, fun t ht => ?_, hT.ext e, fun H2 eN T2 p np => ?_⟩
      · obtain ⟨h1, h2⟩ := tU.mem t ht
        exact ⟨h1, Nat.le_trans ((subs_len cs).2 _ h2) (by omega)⟩
      · have e3 : Same H2 (upd H2 p (.lst ((us.mergeSort (PySem.W.dataLe false (K7E.lotKey (lotOf H')))).map V.ref))) := same_new (Same.refl H2) np
        refine ⟨p, _, rfl, .inl ⟨.inl (.inl upd_same), fun u nu => ?_⟩⟩
        have e4 := e3.trans (same_new (o := .tup ((us.mergeSort (PySem.W.dataLe false (K7E.lotKey (lotOf H')))).map V.ref)) (Same.refl _) nu)
        refine q _ u (us.mergeSort (PySem.W.dataLe false (K7E.lotKey (lotOf H')))) (((LamX.ExtN.of e).trans eN).trans (LamX.ExtN.of e4)) (T2.ext e4) upd_same ?_
        have eq : (us.mergeSort (PySem.W.dataLe false (K7E.lotKey (lotOf H')))).map (lotOf H') = sortedLots cs := by
          unfold sortedLots
          rw [← tU.lots]
          exact List.map_mergeSort fun a _ b _ => rfl
        rw [← eq]
        refine TI.of fun t ht => ?_
        exact e4 _ _ (eN _ _ (tU.mem t (List.mem_mergeSort.mp ht)).1 fun ps z => by cases z)
end
end K7
end
/-! ## LZ -/
section
open PySem PySem.Spec PyProof.Rows L2
namespace K7
/-! ### all lots of any ascending numbers -/
def sel (cs : List Int) (l : List Nat) : List Int := l.map fun i => cs.getD i 0
def lotsZ (cs : List Int) : List (List Int) := (lotsTo (List.range cs.length) cs.length).map (sel cs)
theorem sel_mono {cs : List Int} (h : cs.Pairwise (· < ·)) {i j : Nat} (hi : i < cs.length) (hj : j < cs.length) : cs.getD i 0 < cs.getD j 0 ↔ i < j := by
  have g : ∀ k (hk : k < cs.length), cs.getD k 0 = cs[k] := fun k hk => by rw [List.getD_eq_getElem?_getD, List.getElem?_eq_getElem hk]; rfl
  have p := List.pairwise_iff_getElem.mp h
  rw [g i hi, g j hj]
  constructor
  · intro z
    rcases Nat.lt_trichotomy i j with y | y | y
    · exact y
    · subst y; omega
    · have := p j i hj hi y
      omega
  · exact fun z => p i j hi hj z
theorem lev_in : ∀ n : Fin 6, ∀ k : Fin 7, (level (List.range n.val) k.val).all (fun l => l.all (fun c => decide (c < n.val)) && decide (l.length ≤ 5)) = true := by decide +kernel
theorem lev_lt {n t i : Nat} {lot : List Nat} (hn : n ≤ 5) (ht : t ≤ 6) (h : (level (List.range n) t)[i]? = some lot) : (∀ c ∈ lot, c < n) ∧ lot.length ≤ 5 := by
  have z := List.all_eq_true.mp (lev_in ⟨n, by omega⟩ ⟨t, by omega⟩) lot (List.mem_of_getElem? h)
  obtain ⟨z1, z2⟩ := Bool.and_eq_true_iff.mp z
  exact ⟨fun c hc => of_decide_eq_true (List.all_eq_true.mp z1 c hc), of_decide_eq_true z2⟩
theorem last_atZ {cs : List Int} {l : List Nat} (h : l.isEmpty = false) : atI ((sel cs l).map V.int) (-1) = some (.int (cs.getD (l.getLastD 0) 0)) := by
  cases l with
  | nil => cases h
  | cons x r =>
    have hl : ((sel cs (x :: r)).map V.int).length = r.length + 1 := by unfold sel; rw [List.length_map, List.length_map]; rfl
    unfold atI
    rw [hl]
    have e : ixN (r.length + 1) (-1) = some r.length := by
      unfold ixN
      simp
      omega
    rw [e]
    show ((sel cs (x :: r)).map V.int)[r.length]? = _
    unfold sel
    rw [List.getElem?_map, List.getElem?_map]
    have e2 : (x :: r)[r.length]? = some ((x :: r).getLastD 0) := by
      rw [List.getLastD_cons]
      exact last_get r x
    rw [e2]
    rfl
theorem shapedI (l : List Int) : SeqAt.shaped ((PyData.tuple (l.map PyData.int))) = true := by
  have h1 : ∀ l : List Int, PyData.canLayAll0 (l.map PyData.int) = true ∧ PyData.depthAll (l.map PyData.int) = 0 := fun l => by
    induction l with
    | nil => exact ⟨by simp [PyData.canLayAll0], by simp [PyData.depthAll]⟩
    | cons x r ih => exact ⟨by simp [PyData.canLayAll0, PyData.canLay0, ih.1], by simp [PyData.depthAll, PyData.depth, ih.2]⟩
  show ((PyData.canLay0 ((PyData.tuple (l.map PyData.int)))) && decide (PyData.depth ((PyData.tuple (l.map PyData.int))) ≤ 64)) = true
  simp [PyData.canLay0, PyData.depth, (h1 l).1, (h1 l).2]
theorem dp_intsZ {K : PySem.W.Frag} {H : Hp} : ∀ l : List Int, DpAll K H (l.map V.int) (l.map PyData.int)
  | [] => .nil
  | x :: l => .cons (.int x) (dp_intsZ l)
theorem eqv_emptyZ (l : List Int) : PyData.eqv ((PyData.tuple (l.map PyData.int))) (.tuple []) = l.isEmpty := by
  cases l with
  | nil => simp [PyData.eqv, PyData.eqvAll]
  | cons x r => simp [PyData.eqv, PyData.eqvAll]
theorem sel_empty (cs : List Int) (l : List Nat) : (sel cs l).isEmpty = l.isEmpty := by cases l <;> rfl
theorem grow_step {n j : Nat} (hj : j < n) (lot : List Nat) : grow1 ((List.range n).take (j + 1)) lot = grow1 ((List.range n).take j) lot ++ (if (lot.isEmpty || decide (lot.getLastD 0 < j)) = true then [lot ++ [j]] else []) := by
  unfold grow1
  have hc : (List.range n)[j]? = some j := List.getElem?_range hj
  rw [List.take_add_one, hc, List.filter_append, List.map_append]
  congr 1
  show List.map _ (List.filter _ [j]) = _
  rw [List.filter_cons]
  split <;> rfl
section
variable {P : Program} {w : World} {K : PySem.W.Frag} {mg : Str → Option Value} {base : Heap}
def spLotsZ : Sp := fun vs H Q _ => ∃ (r : Addr) (cs : List Int), vs = [.ref r] ∧ cs.length ≤ 5 ∧ cs.Pairwise (· < ·) ∧ H r = some (.lst (cs.map V.int)) ∧ ∀ H' q ts, Same H H' → H q = none → H' q = some (.lst (ts.map V.ref)) → TI H' ts (lotsZ cs) → Q (.ref q) H'
theorem ok_lotsZ {f : Addr} {fd : FuncData} (F : Fun K "_law_lots" "_law_lots" s__law_lots f fd) (m_range : mg "range" = none) (m_len : mg "len" = none) (m_list : mg "list" = none) : FnOk P w K mg base CX0 1 f fd ["_law_cells"] spLotsZ := by
  refine F.ok sc__law_lots (fun vs H Q E h => ?_) (fun cdv A outer s H vs Q E hr h => ?_)
  · obtain ⟨r, cs, rfl, _⟩ := h
    rfl
  · obtain ⟨r, cs, rfl, hn, asc, hr0, q⟩ := h
    obtain ⟨n, hcn⟩ : ∃ n, cs.length = n := ⟨_, rfl⟩
    rw [hcn] at hn
    refine ⟨_, (pss_cons (ps_par (by rfl) sc__law_lots.nd (i := 1) (j := 2) rfl rfl (by decide) rfl rfl (pa_cons (pe_lst (pa_cons (pe_tup pa_nil) pa_nil)) (pa_cons (pe_lst (pa_cons (pe_tup pa_nil) pa_nil)) pa_nil)) (by rfl))
 (pss_cons (ps_for PassesOwn.never rfl (pi_range1 rfl m_range (pa_cons (pe_callB call_len_seq (by rfl) m_len boot_len (pa_cons (pv 0) pa_nil)) pa_nil)) (pg_name (i := 3) sc__law_lots.nd rfl (by first | exact Or.inl rfl | exact Or.inr rfl))
  (pss_cons (ps_set (i := 4) sc__law_lots.nd rfl (by first | exact Or.inl rfl | exact Or.inr rfl) (pe_lst pa_nil))
 (pss_cons (ps_for PassesOwn.never rfl (pi_list (pv 2)) (pg_name (i := 5) sc__law_lots.nd rfl (by first | exact Or.inl rfl | exact Or.inr rfl))
  (pss_one (ps_for PassesOwn.never rfl (pi_list (pv 0)) (pg_name (i := 6) sc__law_lots.nd rfl (by first | exact Or.inl rfl | exact Or.inr rfl))
  (pss_one (ps_if (pw_or (pt_cmpR (op_eqD hr.units) (pv 5) (pe_tup pa_nil) (nomark _)) (pw_or1 (pt_cmpR op_gt (pv 6) (pe_ix ix_tup (pv 5) (pe_un un_neg pe_int) (fun _ _ => rfl)) (nomark _)))).pt
  (pss_one (ps_expr (pe_bm PySem.F.plainAttrs_list PySem.F.slot_list_append PySem.F.type_list_append mt_append (pv 4) (pa_cons (pe_op op_catA (pv 5) (pe_tup (pa_cons (pv 6) pa_nil))) pa_nil))))
  pss_nil)))))
 (pss_cons (ps_expr (pe_bm PySem.F.plainAttrs_list PySem.F.slot_list_extend PySem.F.type_list_extend mt_extend (pv 1) (pa_cons (pv 4) pa_nil)))
 (pss_one (ps_set (i := 2) sc__law_lots.nd rfl (by first | exact Or.inl rfl | exact Or.inr rfl) (pe_callTy call_list_of (by rfl) m_list boot_list (pa_cons (pv 4) pa_nil))))))))
 (pss_one (ps_ret (pv 1))))), ?_⟩
    have hlen : (cs.map V.int).length = n := by rw [List.length_map, hcn]
    refine ⟨by show 0 ≤ sizeLine; decide, fun e0 ne0 => ⟨by show 1 ≤ sizeLine; decide, fun F0 nF0 => ⟨by show 0 ≤ sizeLine; decide, fun e1 ne1 => ⟨by show 1 ≤ sizeLine; decide, fun L0 nL0 => ?_⟩⟩⟩⟩
    have s1 : Same H (upd H e0 (.tup [])) := same_new (Same.refl H) ne0
    have s2 : Same (upd H e0 (.tup [])) (upd (upd H e0 (.tup [])) F0 (.lst [.ref e0])) := same_new (Same.refl _) nF0
    generalize hA : upd (upd H e0 (.tup [])) F0 (.lst [.ref e0]) = HA at s2 ne1 nL0 ⊢
    have hF : HA F0 = some (.lst [.ref e0]) := by rw [← hA]; exact upd_same
    have he0 : HA e0 = some (.tup []) := s2 _ _ upd_same
    have s3 : Same HA (upd HA e1 (.tup [])) := same_new (Same.refl _) ne1
    have s4 : Same (upd HA e1 (.tup [])) (upd (upd HA e1 (.tup [])) L0 (.lst [.ref e1])) := same_new (Same.refl _) nL0
    have hL : upd (upd HA e1 (.tup [])) L0 (.lst [.ref e1]) L0 = some (.lst [.ref e1]) := upd_same
    have he1 := s4 _ _ (show upd HA e1 (.tup []) e1 = some (.tup []) from upd_same)
    have hFL : F0 ≠ L0 := ne_of_none (s3 _ _ hF) nL0
    have hF2 := s4 _ _ (s3 _ _ hF)
    have he02 := s4 _ _ (s3 _ _ he0)
    have sB := s1.trans (s2.trans (s3.trans s4))
    generalize upd (upd HA e1 (.tup [])) L0 (.lst [.ref e1]) = HB at hL he1 hF2 he02 sB ⊢
    refine ⟨_, _, rfl, ?_⟩
    have hFn : H F0 = none := s1.free nF0
    refine ⟨_, rfl, r, _, rfl, .inl (.inl (.inl (sB _ _ hr0))), _, rfl, by omega, by omega, for_range (fun t σ H' => t ≤ n ∧ ∃ La fs las y3 y4 y5 y6, σ = [some (.ref r), some (.ref F0), some (.ref La), y3, y4, y5, y6] ∧ Same H H' ∧ H' F0 = some (.lst (fs.map V.ref)) ∧ H' La = some (.lst (las.map V.ref)) ∧ La ≠ F0 ∧ TI H' fs ((lotsTo (List.range n) t).map (sel cs)) ∧ TI H' las ((level (List.range n) t).map (sel cs))) ⟨Nat.zero_le _, L0, [e0], [e1], none, none, none, none, rfl, sB, hF2, hL, hFL.symm, .cons he02 .nil, .cons he1 .nil⟩ (fun t σ H' ht pv => ?_) (fun σ H' pv => ?_)⟩
    · obtain ⟨_, La, fs, las, y3, y4, y5, y6, rfl, e, hF', hLa, nLF, tF, tL⟩ := pv
      rw [hlen] at ht
      have ht : t < n := by simpa using ht
      refine ⟨by show 0 ≤ sizeLine; decide, fun G nG => ?_⟩
      have gF : F0 ≠ G := ne_of_none hF' nG
      have gL : La ≠ G := ne_of_none hLa nG
      have eG : Same H' (upd H' G (.lst [])) := same_new (Same.refl H') nG
      obtain ⟨lv, lt5⟩ := level_len ⟨n, by omega⟩ ⟨t, by omega⟩
      obtain ⟨lv2, lt6⟩ := level_len ⟨n, by omega⟩ ⟨t + 1, by omega⟩
      have lv : (level (List.range n) t).length ≤ 10 := lv
      refine ⟨_, rfl, La, rfl, ⟨_, .inl (.inl (eG _ _ hLa))⟩, for_list (xs := las.map V.ref) (fun i σ H2 => ∃ gs y5 y6, σ = [some (.ref r), some (.ref F0), some (.ref La), some (.int (0 + (t : Nat))), some (.ref G), y5, y6] ∧ But G H' H2 ∧ H2 G = some (.lst (gs.map V.ref)) ∧ TI H2 gs ((((level (List.range n) t).take i).flatMap (grow1 (List.range n))).map (sel cs)) ∧ gs.length ≤ 5 * i)
        ⟨[], y5, y6, rfl, fun b o hb hz => by rw [upd_ne hb]; exact hz, upd_same, .nil, Nat.le_refl _⟩ (fun i σ H2 _ pv => ?_) (fun i x σ H2 hx pv => ?_) (fun σ H2 pv => ?_)⟩
      · obtain ⟨gs, y5, y6, rfl, bt, hG, tG, hg⟩ := pv
        exact .inl (.inl (bt _ _ gL hLa))
      · obtain ⟨gs, y5, y6, rfl, bt, hG, tG, hg⟩ := pv
        rw [List.getElem?_map] at hx
        obtain ⟨ti, hti, rfl⟩ := Option.map_eq_some_iff.mp hx
        obtain ⟨lotz, elotz, hlot⟩ := tL.get hti
        rw [List.getElem?_map] at elotz
        obtain ⟨lot, elot, rfl⟩ := Option.map_eq_some_iff.mp elotz
        obtain ⟨llt, ll5⟩ := lev_lt hn (by omega) elot
        have hi10 : i < 10 := by
          have := (List.getElem?_eq_some_iff.mp elot).1
          omega
        have tG' : ∀ {b : Addr} {xs : List V}, H' b = some (.tup xs) → H2 b = some (.tup xs) := fun {b xs} hb => bt b _ (ne_of_none hb nG) hb
        have hr2 : H2 r = some (.lst (cs.map V.int)) := bt _ _ (ne_of_none (e _ _ hr0) nG) (e _ _ hr0)
        have nrG : r ≠ G := ne_of_none (e _ _ hr0) nG
        refine ⟨_, rfl, r, rfl, ⟨_, .inl (.inl hr2)⟩, for_list (xs := cs.map V.int) (fun j σ H3 => ∃ gs' y6, σ = [some (.ref r), some (.ref F0), some (.ref La), some (.int (0 + (t : Nat))), some (.ref G), some (.ref ti), y6] ∧ But G H' H3 ∧ H3 G = some (.lst (gs'.map V.ref)) ∧ TI H3 gs' ((((level (List.range n) t).take i).flatMap (grow1 (List.range n)) ++ grow1 ((List.range n).take j) lot).map (sel cs)) ∧ gs'.length ≤ 5 * i + j)
          ⟨gs, y6, rfl, bt, hG, by simpa [grow1] using tG, by omega⟩ (fun j σ H3 _ pv => ?_) (fun j x σ H3 hx pv => ?_) (fun σ H3 pv => ?_)⟩
        · obtain ⟨gs', y6, rfl, bt3, hG3, tG3, hg3⟩ := pv
          exact .inl (.inl (bt3 _ _ nrG (e _ _ hr0)))
        · obtain ⟨gs', y6, rfl, bt3, hG3, tG3, hg3⟩ := pv
          rw [List.getElem?_map] at hx
          obtain ⟨c, hc, rfl⟩ := Option.map_eq_some_iff.mp hx
          have hjn : j < n := by
            have := (List.getElem?_eq_some_iff.mp hc).1
            omega
          have cd : c = cs.getD j 0 := by rw [List.getD_eq_getElem?_getD, hc]; rfl
          have hlot3 : H3 ti = some (.tup ((sel cs lot).map V.int)) := bt3 ti _ (ne_of_none hlot nG) hlot
          have g1 := grow_step hjn lot
          have sl : (sel cs lot).length = lot.length := by unfold sel; rw [List.length_map]
          have snoc : sel cs (lot ++ [j]) = sel cs lot ++ [c] := by unfold sel; rw [List.map_append, cd]; rfl
          have endOk : ∀ (Hf : Hp) (v : Addr), Same H3 Hf → Hf v = some (.tup ((sel cs lot ++ [c]).map V.int)) → (lot.isEmpty || decide (lot.getLastD 0 < j)) = true →
              But G H' (upd Hf G (.lst (gs'.map V.ref ++ [.ref v]))) ∧ upd Hf G (.lst (gs'.map V.ref ++ [.ref v])) G = some (.lst ((gs' ++ [v]).map V.ref)) ∧
                TI (upd Hf G (.lst (gs'.map V.ref ++ [.ref v]))) (gs' ++ [v]) ((((level (List.range n) t).take i).flatMap (grow1 (List.range n)) ++ grow1 ((List.range n).take (j + 1)) lot).map (sel cs)) ∧ (gs' ++ [v]).length ≤ 5 * i + (j + 1) := by
            intro Hf v sF hv hcond
            have up : ∀ b xs, Hf b = some (.tup xs) → upd Hf G (.lst (gs'.map V.ref ++ [.ref v])) b = some (.tup xs) := fun b xs hb => by
              have n1 : b ≠ G := fun z => by rw [z, sF _ _ hG3] at hb; cases hb
              rw [upd_ne n1]; exact hb
            refine ⟨fun b o nb hb => by rw [upd_ne nb]; exact sF _ _ (bt3 b o nb hb), by rw [upd_same, List.map_append]; rfl, ?_, by rw [List.length_append, List.length_singleton]; omega⟩
            rw [g1, if_pos hcond, ← List.append_assoc, List.map_append]
            refine ((tG3.same sF).mono up).append (.cons (up _ _ ?_) .nil)
            rw [snoc]
            exact hv
          refine ⟨_, rfl, by show 0 ≤ sizeLine; decide, fun em nem => ?_⟩
          have sX := same_new (o := .tup []) (Same.refl H3) nem
          refine ⟨_, _, .tup (.inl (.inl (sX _ _ hlot3))) (dp_intsZ (sel cs lot)), .tup (.inl (.inl upd_same)) .nil, shapedI (sel cs lot), shapedI [], ?_⟩
          rw [show PyData.eqv (.tuple ((sel cs lot).map PyData.int)) (.tuple []) = lot.isEmpty from (eqv_emptyZ (sel cs lot)).trans (sel_empty cs lot)]
          refine ⟨_, rfl, ite2 (fun q1 => ?_) (fun q1 => ?_)⟩
          · have hcond : (lot.isEmpty || decide (lot.getLastD 0 < j)) = true := by rw [q1]; rfl
            have hG4 := sX _ _ hG3
            refine ⟨_, rfl, .inl ⟨rfl, _, .inl (.inl hG4)⟩, _, rfl, _, rfl, by show 1 ≤ sizeLine; decide, fun u nu => ?_⟩
            have sU := sX.trans (same_new (o := .tup [.int c]) (Same.refl _) nu)
            refine ⟨ti, u, _, _, rfl, rfl, .inl (.inl (sU _ _ hlot3)), .inl (.inl upd_same), ?_, fun z => ?_, (fun _ z2 => nomatch z2), fun z1 _ p np => ?_⟩
            · rw [List.length_map, sl]
              exact Nat.le_trans (show lot.length + 1 ≤ 1000 by omega) (by decide)
            · have lot0 : sel cs lot = [] := by simpa using z
              obtain ⟨k1, k2, k3, k4⟩ := endOk _ u sU (by rw [upd_same, lot0]; rfl) hcond
              exact ⟨G, _, _, rfl, rfl, sU _ _ hG3, by rw [List.length_map]; exact small1000 (by omega), gs' ++ [u], _, rfl, k1, k2, k3, k4⟩
            · obtain ⟨k1, k2, k3, k4⟩ := endOk _ p (sU.trans (same_new (Same.refl _) np)) (by rw [upd_same, List.map_append] <;> rfl) hcond
              exact ⟨G, _, _, rfl, rfl, (sU.trans (same_new (Same.refl _) np)) _ _ hG3, by rw [List.length_map]; exact small1000 (by omega), gs' ++ [p], _, rfl, k1, k2, k3, k4⟩
          · have q1' : lot.isEmpty = false := Bool.eq_false_iff.mpr q1
            have lastn : lot.getLastD 0 < n := by
              cases lot with
              | nil => cases q1'
              | cons x l => exact llt _ (List.mem_of_getElem? ((last_get l x).trans (by rw [List.getLastD_cons])))
            have lastlt : c > cs.getD (lot.getLastD 0) 0 ↔ lot.getLastD 0 < j := by
              rw [cd]
              exact sel_mono asc (by omega) (by omega)
            refine ⟨_, rfl, _, rfl, _, rfl, ti, _, _, .int (cs.getD (lot.getLastD 0) 0), rfl, rfl, .inl (.inl (sX _ _ hlot3)), last_atZ q1', _, _, rfl, rfl, _, rfl, ite2 (fun q2 => ?_) (fun q2 => ?_)⟩
            · have hcond : (lot.isEmpty || decide (lot.getLastD 0 < j)) = true := by
                rw [q1', Bool.false_or]
                exact decide_eq_true (lastlt.mp (of_decide_eq_true q2))
              have hG4 := sX _ _ hG3
              refine ⟨_, rfl, .inl ⟨rfl, _, .inl (.inl hG4)⟩, _, rfl, _, rfl, by show 1 ≤ sizeLine; decide, fun u nu => ?_⟩
              have sU := sX.trans (same_new (o := .tup [.int c]) (Same.refl _) nu)
              refine ⟨ti, u, _, _, rfl, rfl, .inl (.inl (sU _ _ hlot3)), .inl (.inl upd_same), ?_, fun z => ?_, (fun _ z2 => nomatch z2), fun z1 _ p np => ?_⟩
              · rw [List.length_map, sl]
                exact Nat.le_trans (show lot.length + 1 ≤ 1000 by omega) (by decide)
              · have lot0 : sel cs lot = [] := by simpa using z
                obtain ⟨k1, k2, k3, k4⟩ := endOk _ u sU (by rw [upd_same, lot0]; rfl) hcond
                exact ⟨G, _, _, rfl, rfl, sU _ _ hG3, by rw [List.length_map]; exact small1000 (by omega), gs' ++ [u], _, rfl, k1, k2, k3, k4⟩
              · obtain ⟨k1, k2, k3, k4⟩ := endOk _ p (sU.trans (same_new (Same.refl _) np)) (by rw [upd_same, List.map_append] <;> rfl) hcond
                exact ⟨G, _, _, rfl, rfl, (sU.trans (same_new (Same.refl _) np)) _ _ hG3, by rw [List.length_map]; exact small1000 (by omega), gs' ++ [p], _, rfl, k1, k2, k3, k4⟩
            · have hcond : ¬ (lot.isEmpty || decide (lot.getLastD 0 < j)) = true := by
                rw [q1', Bool.false_or]
                intro z
                exact q2 (decide_eq_true (lastlt.mpr (of_decide_eq_true z)))
              refine ⟨gs', _, rfl, fun b o nb hb => sX _ _ (bt3 b o nb hb), sX _ _ hG3, ?_, by omega⟩
              rw [g1, if_neg hcond, List.append_nil]
              exact tG3.same sX
        · obtain ⟨gs', y6, rfl, bt3, hG3, tG3, hg3⟩ := pv
          refine ⟨gs', _, _, rfl, bt3, hG3, ?_, ?_⟩
          · rw [hlen, show (List.range n).take n = List.range n from List.take_of_length_le (by rw [List.length_range]; exact Nat.le_refl n)] at tG3
            rw [List.take_add_one, elot, List.flatMap_append]
            simpa using tG3
          · rw [hlen] at hg3
            omega
      · obtain ⟨gs, y5, y6, rfl, bt, hG, tG, hg⟩ := pv
        rw [List.length_map] at tG hg
        have tLl := tL.len
        rw [List.length_map] at tLl
        rw [tLl, List.take_length] at tG
        have hF3 := bt _ _ gF hF'
        have lfs : fs.length ≤ 32 := by rw [tF.len, List.length_map]; exact (level_len ⟨n, by omega⟩ ⟨t, by omega⟩).2
        have lgs : gs.length ≤ 10 := by rw [tG.len, List.length_map]; exact lv2
        refine ⟨_, rfl, .inl ⟨rfl, _, .inl (.inl hF3)⟩, _, rfl, F0, G, _, _, rfl, rfl, hF3, hG, ?_, ?_⟩
        · rw [List.length_map, List.length_map]
          exact Nat.le_trans (show fs.length + gs.length ≤ 42 by omega) (by decide)
        have hG4 : upd H2 F0 (.lst (fs.map V.ref ++ gs.map V.ref)) G = some (.lst (gs.map V.ref)) := by rw [upd_ne gF.symm]; exact hG
        refine ⟨_, rfl, G, _, rfl, .inl (.inl (.inl hG4)), fun L2 nL2 => ?_⟩
        have hF4 : upd H2 F0 (.lst (fs.map V.ref ++ gs.map V.ref)) F0 = some (.lst ((fs ++ gs).map V.ref)) := by rw [upd_same, List.map_append]
        have nL2F : L2 ≠ F0 := fun z => by rw [z, hF4] at nL2; cases nL2
        have up : ∀ b xs, H2 b = some (.tup xs) → upd (upd H2 F0 (.lst (fs.map V.ref ++ gs.map V.ref))) L2 (.lst (gs.map V.ref)) b = some (.tup xs) := fun b xs hb => by
          have n1 : b ≠ F0 := fun z => by rw [z, hF3] at hb; cases hb
          have h1 : upd H2 F0 (.lst (fs.map V.ref ++ gs.map V.ref)) b = some (.tup xs) := by rw [upd_ne n1]; exact hb
          rw [upd_ne (ne_of_none h1 nL2)]
          exact h1
        have tF' : TI H2 fs ((lotsTo (List.range n) t).map (sel cs)) := tF.mono fun b xs hb => bt b _ (ne_of_none hb nG) hb
        refine ⟨by omega, L2, fs ++ gs, gs, _, _, _, _, rfl, fun b o hb => ?_, by rw [upd_ne nL2F.symm]; exact hF4, upd_same, nL2F, ?_, tG.mono up⟩
        · have n0 : b ≠ F0 := ne_of_none hb hFn
          have h1 := e _ _ hb
          have h2 := bt _ _ (ne_of_none h1 nG) h1
          have h3 : upd H2 F0 (.lst (fs.map V.ref ++ gs.map V.ref)) b = some o := by rw [upd_ne n0]; exact h2
          rw [upd_ne (ne_of_none h3 nL2)]
          exact h3
        · show TI _ _ ((lotsTo (List.range n) t ++ level (List.range n) (t + 1)).map (sel cs))
          rw [List.map_append]
          exact (tF'.mono up).append (tG.mono up)
    · obtain ⟨_, La, fs, las, y3, y4, y5, y6, rfl, e, hF', hLa, nLF, tF, tL⟩ := pv
      rw [hlen] at tF
      refine ⟨_, rfl, q H' F0 fs e hFn hF' ?_⟩
      unfold lotsZ
      rw [hcn]
      exact tF
end
end K7
end
/-! ## PZ -/
section
open PySem PySem.Spec PyProof.Rows L2
namespace K7
/-! ### the lots in order (no program in it) -/
def subsN (cs : List Nat) : List (List Nat) := cs.foldl (fun L c => L ++ L.map (· ++ [c])) [[]]
theorem subs_map_gen (f : Nat → Int) : ∀ (cs : List Nat) (L : List (List Nat)), (cs.map f).foldl (fun L c => L ++ L.map (· ++ [c])) (L.map (List.map f)) = (cs.foldl (fun L c => L ++ L.map (· ++ [c])) L).map (List.map f)
  | [], L => rfl
  | c :: cs, L => by
    rw [List.map_cons, List.foldl_cons, List.foldl_cons, ← subs_map_gen f cs]
    congr 1
    rw [List.map_append, List.map_map, List.map_map]
    congr 1
    refine List.map_congr_left fun l _ => ?_
    show List.map f l ++ [f c] = List.map f (l ++ [c])
    rw [List.map_append]
    rfl
theorem subs_map (f : Nat → Int) (cs : List Nat) : subs (cs.map f) = (subsN cs).map (List.map f) := by
  have z := subs_map_gen f cs [[]]
  exact z
theorem sel_range (cs : List Int) : sel cs (List.range cs.length) = cs := by
  unfold sel
  refine List.ext_getElem (by simp) fun i h1 h2 => ?_
  simp [List.getD_eq_getElem?_getD, h2]
theorem lots_perm : ∀ n : Fin 6, (lotsTo (List.range n.val) n.val).isPerm (subsN (List.range n.val)) = true := by decide +kernel
theorem lots_asc : ∀ n : Fin 6, (lotsTo (List.range n.val) n.val).Pairwise fun l m => l.length < m.length ∨ (l.length = m.length ∧ l < m) := by decide +kernel
theorem lots_lt : ∀ n : Fin 6, (lotsTo (List.range n.val) n.val).all (fun l => l.all (fun c => decide (c < n.val)) && decide (l.length ≤ 5)) = true := by decide +kernel
theorem sel_lt {cs : List Int} (asc : cs.Pairwise (· < ·)) : ∀ {l m : List Nat}, (∀ c ∈ l, c < cs.length) → (∀ c ∈ m, c < cs.length) → l < m → sel cs l < sel cs m
  | _, [], _, _, h => absurd h (List.not_lt_nil _)
  | [], _ :: _, _, _, _ => List.nil_lt_cons _ _
  | a :: l, b :: m, h1, h2, h => by
    have ha := h1 a List.mem_cons_self
    have hb := h2 b List.mem_cons_self
    show cs.getD a 0 :: sel cs l < cs.getD b 0 :: sel cs m
    rcases List.cons_lt_cons_iff.mp h with z | ⟨z, y⟩
    · exact List.cons_lt_cons_iff.mpr (.inl ((sel_mono asc ha hb).mpr z))
    · subst z
      exact List.cons_lt_cons_iff.mpr (.inr ⟨rfl, sel_lt asc (fun c hc => h1 c (List.mem_cons_of_mem _ hc)) (fun c hc => h2 c (List.mem_cons_of_mem _ hc)) y⟩)
theorem eqvI : ∀ l m : List Int, PyData.eqvAll (l.map PyData.int) (m.map PyData.int) = decide (l = m)
  | [], [] => rfl
  | [], _ :: _ => by simp [PyData.eqvAll]
  | _ :: _, [] => by simp [PyData.eqvAll]
  | x :: l, y :: m => by
    rw [List.map_cons, List.map_cons, PyData.eqvAll, eqvI l m]
    by_cases e : x = y
    · subst e
      simp [PyData.eqv]
    · simp [PyData.eqv, e]
theorem alikeI : ∀ u v : List Int, PySem.W.alikeAll (u.map PyData.int) (v.map PyData.int) = true
  | [], _ => by cases ‹List Int› <;> rfl
  | _ :: _, [] => rfl
  | a :: u, b :: v => by
    show (PySem.W.alike (.int a) (.int b) && PySem.W.alikeAll _ _) = true
    rw [alikeI u v]
    rfl
theorem key_lt (u v : List Int) : PySem.W.dataLt (K7E.lenKey u) (K7E.lenKey v) = decide (u.length < v.length ∨ (u.length = v.length ∧ u < v)) := by
  unfold K7E.lenKey
  rw [PySem.W.dataLt_pair (by simp [PySem.W.alike]) (show PySem.W.alike (.tuple (u.map PyData.int)) (.tuple (v.map PyData.int)) = true from alikeI u v), PySem.W.dataLt_int]
  have e1 : PyData.eqv (.int (u.length : Nat)) (.int (v.length : Nat)) = decide (u.length = v.length) := by
    by_cases h : u.length = v.length
    · rw [h]; simp [PyData.eqv]
    · have h2 : ¬ ((u.length : Nat) : Int) = (v.length : Nat) := by omega
      simp [PyData.eqv, h, h2]
  have e2 : PyData.eqv (.tuple (u.map PyData.int)) (.tuple (v.map PyData.int)) = decide (u = v) := by rw [PyData.eqv]; exact eqvI u v
  have e3 : PySem.W.dataLt (.tuple (u.map PyData.int)) (.tuple (v.map PyData.int)) = decide (u < v) := (PySem.W.dataLt_tuple _ _).trans (PySem.W.dataLt_ints u v)
  rw [e1, e2, e3]
  by_cases h : u.length = v.length
  · rw [if_pos (decide_eq_true h)]
    by_cases h2 : u = v
    · subst h2
      rw [if_pos (decide_eq_true rfl)]
      have : ¬ u < u := List.lt_irrefl u
      simp [this]
    · rw [if_neg (by simpa using h2)]
      simp [h]
  · rw [if_neg (by simpa using h)]
    have : ((u.length : Nat) : Int) < (v.length : Nat) ↔ u.length < v.length := by omega
    simp [h, this]
theorem key_le (u v : List Int) : PySem.W.dataLe false K7E.lenKey u v = !decide (v.length < u.length ∨ (v.length = u.length ∧ v < u)) := by
  show (!PySem.W.dataLt (K7E.lenKey v) (K7E.lenKey u)) = _
  rw [key_lt]
theorem key_anti (u v : List Int) (h1 : PySem.W.dataLe false K7E.lenKey u v = true) (h2 : PySem.W.dataLe false K7E.lenKey v u = true) : u = v := by
  rw [key_le] at h1 h2
  have h1 : ¬ (v.length < u.length ∨ (v.length = u.length ∧ v < u)) := fun z => by rw [decide_eq_true z] at h1; cases h1
  have h2 : ¬ (u.length < v.length ∨ (u.length = v.length ∧ u < v)) := fun z => by rw [decide_eq_true z] at h2; cases h2
  have e : u.length = v.length := by omega
  have a : ¬ v < u := fun z => h1 (.inr ⟨e.symm, z⟩)
  have b : ¬ u < v := fun z => h2 (.inr ⟨e, z⟩)
  exact List.le_antisymm (List.not_lt.mp a) (List.not_lt.mp b)
theorem lotsZ_asc {cs : List Int} (n5 : cs.length ≤ 5) (asc : cs.Pairwise (· < ·)) : (lotsZ cs).Pairwise fun u v => u.length < v.length ∨ (u.length = v.length ∧ u < v) := by
  unfold lotsZ
  rw [List.pairwise_map]
  have lt := List.all_eq_true.mp (lots_lt ⟨cs.length, by omega⟩)
  have im : ∀ l ∈ lotsTo (List.range cs.length) cs.length, ∀ c ∈ l, c < cs.length := fun l hl c hc => by
    have z := lt l hl
    rw [Bool.and_eq_true] at z
    exact of_decide_eq_true (List.all_eq_true.mp z.1 c hc)
  have sl : ∀ l, (sel cs l).length = l.length := fun l => List.length_map ..
  refine List.Pairwise.imp_of_mem (fun {l m} hl hm h => ?_) (lots_asc ⟨cs.length, by omega⟩)
  rw [sl, sl]
  exact h.imp id fun z => ⟨z.1, sel_lt asc (im l hl) (im m hm) z.2⟩
/-- what the program sorts is what the law goes through -/
theorem lots_eq {cs : List Int} (n5 : cs.length ≤ 5) (asc : cs.Pairwise (· < ·)) : sortedLots cs = lotsZ cs := by
  have pm : (subs cs).Perm (lotsZ cs) := by
    have z := List.isPerm_iff.mp (lots_perm ⟨cs.length, by omega⟩)
    have e : subs cs = (subsN (List.range cs.length)).map (sel cs) := by
      conv => lhs; rw [← sel_range cs]
      exact subs_map _ _
    rw [e]
    unfold lotsZ
    exact (z.symm.map _)
  have T := PySem.W.sortLe_total (PyProof.Rows.listOrd PyProof.Rows.itemOrd) false fun b : List Int => PySem.W.keyToks (K7E.lenKey b)
  unfold sortedLots
  refine KL.uniq (le := fun a b => PySem.W.dataLe false K7E.lenKey a b = true) key_anti ((List.mergeSort_perm _ _).trans pm) (List.pairwise_mergeSort T.trans (fun a b => by rw [Bool.or_eq_true]; exact T.total a b) _) ?_
  refine (lotsZ_asc n5 asc).imp fun {u v} h => ?_
  rw [key_le]
  have : ¬ (v.length < u.length ∨ (v.length = u.length ∧ v < u)) := by
    rintro (z | ⟨z, y⟩)
    · rcases h with h | h
      · omega
      · omega
    · rcases h with h | h
      · omega
      · exact List.lt_asymm h.2 y
  rw [decide_eq_false this]
  rfl
theorem subs_all_gen : ∀ (cs done : List Int) (L : List (List Int)), (∀ l, l.Sublist done → l ∈ L) → ∀ l, l.Sublist (done ++ cs) → l ∈ cs.foldl (fun L c => L ++ L.map (· ++ [c])) L
  | [], done, L, h, l, hl => by rw [List.append_nil] at hl; exact h l hl
  | c :: cs, done, L, h, l, hl => by
    refine subs_all_gen cs (done ++ [c]) _ (fun l' hl' => ?_) l (by rw [List.append_assoc]; exact hl)
    obtain ⟨l1, l2, rfl, s1, s2⟩ := List.sublist_append_iff.mp hl'
    have z : l2 = [] ∨ l2 = [c] := by
      cases s2 with
      | cons _ h => exact .inl (List.sublist_nil.mp h)
      | cons_cons _ h => exact .inr (by rw [List.sublist_nil.mp h])
    rcases z with rfl | rfl
    · rw [List.append_nil]
      exact List.mem_append_left _ (h l1 s1)
    · exact List.mem_append_right _ (List.mem_map.mpr ⟨l1, h l1 s1, rfl⟩)
theorem mem_subs {cs l : List Int} (h : l.Sublist cs) : l ∈ subs cs := by
  refine subs_all_gen cs [] [[]] (fun l hl => ?_) l h
  rw [List.sublist_nil.mp hl]
  exact List.mem_singleton.mpr rfl
theorem subs_sub_gen' : ∀ (cs done : List Int) (L : List (List Int)), (∀ l ∈ L, l.Sublist done) → ∀ l ∈ cs.foldl (fun L c => L ++ L.map (· ++ [c])) L, l.Sublist (done ++ cs)
  | [], done, L, h, l, hl => by rw [List.append_nil]; exact h l hl
  | c :: cs, done, L, h, l, hl => by
    have z := subs_sub_gen' cs (done ++ [c]) (L ++ L.map (· ++ [c])) (fun l' hl' => by
      rcases List.mem_append.mp hl' with m | m
      · exact (h l' m).trans (List.sublist_append_left _ _)
      · obtain ⟨l1, m1, rfl⟩ := List.mem_map.mp m
        exact List.Sublist.append (h l1 m1) (List.Sublist.refl _)) l hl
    rw [List.append_assoc] at z
    exact z
theorem subs_sub' {cs l : List Int} (h : l ∈ subs cs) : l.Sublist cs := by
  have z := subs_sub_gen' cs [] [[]] (fun l hl => by rw [List.mem_singleton.mp hl]; exact List.Sublist.refl _) l h
  exact z
theorem mem_lotsZ {cs l : List Int} (n5 : cs.length ≤ 5) (asc : cs.Pairwise (· < ·)) : l ∈ lotsZ cs ↔ l.Sublist cs := by
  rw [← lots_eq n5 asc]
  unfold sortedLots
  rw [List.mem_mergeSort]
  exact ⟨subs_sub', mem_subs⟩
theorem lotsZ_len {cs : List Int} (n5 : cs.length ≤ 5) : (lotsZ cs).length ≤ 32 := by
  unfold lotsZ
  rw [List.length_map]
  exact (level_len ⟨cs.length, by omega⟩ ⟨cs.length, by omega⟩).2
end K7
end
/-! ## P21x -/
section
open PySem PySem.Spec PyProof.Rows L2
namespace K7
/-! ### what stands over a call that makes a lambda -/
theorem TAt.ext {H H' : Hp} {ts : List Addr} {ls : List (List Nat)} (h : TAt H ts ls) (e : LamX.ExtN H H') : TAt H' ts ls := h.mono fun b xs hb => e b _ hb fun ps z => by cases z
theorem LandO.ext {C : Addr} {H H' : Hp} {p : Addr} {n : Nat} {es : List (Nat × Nat)} {rd : List Nat} (h : LandO C H p n es rd) (e : LamX.ExtN H H') : LandO C H' p n es rd := by
  obtain ⟨dx, an, ar, ay, ac, tn, ty, tc, h1, h2, h3, h4, h5, h6, h7, h8⟩ := h.at_
  have k : ∀ {b xs}, H b = some (.tup xs) → H' b = some (.tup xs) := fun hb => e _ _ hb fun ps z => by cases z
  exact ⟨⟨dx, an, ar, ay, ac, tn, ty, tc, e _ _ h1 (fun ps z => by cases z), k h2, h3.ext e, k h4, k h5, h6.ext e, k h7, h8.ext e⟩, h.n2, h.n5, h.ok, h.rlt, h.rnd, h.rso, h.r0, h.rn⟩
theorem LandAt.ext {H H' : Hp} {q : Addr} {n : Nat} {es : List (Nat × Nat)} {lot : List Nat} (h : LandAt H q n es lot) (e : LamX.ExtN H H') : LandAt H' q n es lot := by
  obtain ⟨rA, sA, ts, h1, h2, h3, h4⟩ := h.at_
  exact ⟨⟨rA, sA, ts, e _ _ h1 (fun ps z => by cases z), e _ _ h2 (fun ps z => by cases z), h3.ext e, e _ _ h4 (fun ps z => by cases z)⟩, h.ok, h.lot⟩

end K7
end
/-! ## P18 -/
section
open PySem PySem.Spec PyProof.Rows L2
namespace K7
abbrev N_least_lots : List Str := ["land", "cell", "passing", "among", "found", "lot", "b"]
abbrev s_least_lots : Stmt := topS 25
theorem sc_least_lots : FnScope ["land", "cell", "passing", "among", "found", "lot", "b"] ["land", "cell", "passing", "among"] (defScope s_least_lots) := ⟨rfl, rfl, rfl, by decide +kernel, rfl, by decide +kernel, by decide +kernel⟩
abbrev N_least_lot : List Str := ["land", "cell", "passing", "among", "lots"]
abbrev s_least_lot : Stmt := topS 26
theorem sc_least_lot : FnScope ["land", "cell", "passing", "among", "lots"] ["land", "cell", "passing", "among"] (defScope s_least_lot) := ⟨rfl, rfl, rfl, by decide +kernel, rfl, by decide +kernel, by decide +kernel⟩
/-! ### the least lots -/
def nz (l : List Nat) : List Int := l.map fun c => ((c : Nat) : Int)
def lotsN (as : List Nat) : List (List Nat) := (lotsTo (List.range as.length) as.length).map fun l => l.map fun i => as.getD i 0
theorem getD_nz (as : List Nat) (i : Nat) : (nz as).getD i 0 = ((as.getD i 0 : Nat) : Int) := by
  unfold nz
  rw [List.getD_eq_getElem?_getD, List.getElem?_map, List.getD_eq_getElem?_getD]
  cases as[i]? <;> rfl
theorem lotsZ_nz (as : List Nat) : lotsZ (nz as) = (lotsN as).map nz := by
  unfold lotsZ lotsN
  rw [show (nz as).length = as.length from List.length_map .., List.map_map]
  refine List.map_congr_left fun l _ => ?_
  show sel (nz as) l = nz (l.map fun i => as.getD i 0)
  unfold sel
  show _ = (l.map fun i => as.getD i 0).map _
  rw [List.map_map]
  exact List.map_congr_left fun i _ => getD_nz as i
theorem nz_ints (l : List Nat) : (nz l).map V.int = ints_ l := by unfold nz ints_; rw [List.map_map]; rfl
theorem ti_tat {H : Hp} : ∀ {ts : List Addr} {ls : List (List Nat)}, TI H ts (ls.map nz) → TAt H ts ls
  | [], [], _ => .nil
  | [], _ :: _, h => by cases h
  | _ :: _, [], h => by cases h
  | _ :: _, l :: _, .cons h r => .cons (by rw [nz_ints] at h; exact h) (ti_tat r)
theorem tat_ti {H : Hp} : ∀ {ts : List Addr} {ls : List (List Nat)}, TAt H ts ls → TI H ts (ls.map nz)
  | [], [], _ => .nil
  | _ :: _, l :: _, .cons h r => .cons (by rw [nz_ints]; exact h) (tat_ti r)
theorem nz_asc {as : List Nat} (h : as.Pairwise (· < ·)) : (nz as).Pairwise (· < ·) := by
  unfold nz
  rw [List.pairwise_map]
  exact h.imp fun h => by omega
theorem nz_len (as : List Nat) : (nz as).length = as.length := List.length_map ..
theorem lots_eqN {as : List Nat} (n5 : as.length ≤ 5) (asc : as.Pairwise (· < ·)) : sortedLots (nz as) = (lotsN as).map nz := (lots_eq (by rw [nz_len]; exact n5) (nz_asc asc)).trans (lotsZ_nz as)
theorem nz_inj : ∀ {l m : List Nat}, nz l = nz m → l = m
  | [], [], _ => rfl
  | [], _ :: _, h => by cases h
  | _ :: _, [], h => by cases h
  | a :: l, b :: m, h => by
    have h : ((a : Nat) : Int) :: nz l = ((b : Nat) : Int) :: nz m := h
    injection h with h1 h2
    rw [show a = b by omega, nz_inj h2]
theorem lotsN_asc {as : List Nat} (n5 : as.length ≤ 5) (asc : as.Pairwise (· < ·)) : (lotsN as).Pairwise fun u v => u.length ≤ v.length := by
  have z := lotsZ_asc (cs := nz as) (by rw [nz_len]; exact n5) (nz_asc asc)
  rw [lotsZ_nz, List.pairwise_map] at z
  refine z.imp fun {u v} h => ?_
  rw [nz_len, nz_len] at h
  omega
theorem nz_sub : ∀ {l as : List Nat}, (nz l).Sublist (nz as) → l.Sublist as := fun {l as} h => by
  have z := h.map Int.toNat
  unfold nz at z
  rw [List.map_map, List.map_map] at z
  have e : ∀ l : List Nat, l.map (Int.toNat ∘ fun c => ((c : Nat) : Int)) = l := fun l => (List.map_congr_left fun c _ => Int.toNat_natCast c).trans (List.map_id l)
  rw [e, e] at z
  exact z
theorem mem_lotsN {as l : List Nat} (n5 : as.length ≤ 5) (asc : as.Pairwise (· < ·)) : l ∈ lotsN as ↔ l.Sublist as := by
  have z := mem_lotsZ (cs := nz as) (l := nz l) (by rw [nz_len]; exact n5) (nz_asc asc)
  rw [lotsZ_nz] at z
  constructor
  · exact fun h => nz_sub (z.mp (List.mem_map.mpr ⟨l, h, rfl⟩))
  · intro h
    obtain ⟨m, hm, e⟩ := List.mem_map.mp (z.mpr (h.map _))
    rw [← nz_inj e]
    exact hm
theorem lotsN_len {as : List Nat} (n5 : as.length ≤ 5) : (lotsN as).length ≤ 32 := by
  have z := lotsZ_len (cs := nz as) (by rw [nz_len]; exact n5)
  rw [lotsZ_nz, List.length_map] at z
  exact z
/-- the cells among which to choose, less the cell itself, ascending -/
def ascOf (n : Nat) (qs : List Nat) (c : Nat) : List Nat := (List.range n).filter fun x => decide (x ∈ qs) && decide (x ≠ c)
theorem ascOf_asc (n : Nat) (qs : List Nat) (c : Nat) : (ascOf n qs c).Pairwise (· < ·) := List.Pairwise.filter _ List.pairwise_lt_range
theorem ascOf_len {n : Nat} {qs : List Nat} {c : Nat} : (ascOf n qs c).length ≤ n := Nat.le_trans (List.length_filter_le _ _) (by rw [List.length_range]; exact Nat.le_refl _)
theorem ascOf_mem {n : Nat} {qs : List Nat} {c x : Nat} (h : ∀ x ∈ qs, x < n) : x ∈ ascOf n qs c ↔ x ∈ qs ∧ x ≠ c := by
  unfold ascOf
  rw [List.mem_filter, Bool.and_eq_true, decide_eq_true_eq, decide_eq_true_eq, List.mem_range]
  exact ⟨fun z => z.2, fun z => ⟨h x z.1, z⟩⟩
/-- what sorted tells of them -/
theorem ascOf_is {n : Nat} {qs : List Nat} {c : Nat} {ms : List Int} (lt : ∀ x ∈ qs, x < n) (nd : qs.Nodup) (pm : ms.Perm (nz (qs.filter fun x => decide (x ≠ c)))) (so : ms.Pairwise (· ≤ ·)) : ms = nz (ascOf n qs c) := by
  have ndA : (ascOf n qs c).Nodup := List.nodup_iff_pairwise_ne.mpr ((ascOf_asc n qs c).imp fun h e => by omega)
  have p2 : (qs.filter fun x => decide (x ≠ c)).Perm (ascOf n qs c) := (List.perm_ext_iff_of_nodup (nd.filter _) ndA).mpr fun x => by
    rw [ascOf_mem lt, List.mem_filter, decide_eq_true_eq]
  have z : (nz (ascOf n qs c)).Pairwise (· ≤ ·) := (nz_asc (ascOf_asc n qs c)).imp fun h => by omega
  exact KL.uniq (fun a b (h1 : a ≤ b) (h2 : b ≤ a) => Int.le_antisymm h1 h2) (pm.trans (p2.map _)) so z
noncomputable def opB (es : List (Nat × Nat)) (rd ps : List Nat) (c : Nat) (l : List Nat) : Bool := @decide (OpenV es rd (ps ++ l) c) (Classical.propDecidable _)
theorem opB_iff {es : List (Nat × Nat)} {rd ps : List Nat} {c : Nat} {l : List Nat} {b : Bool} (h : b = true ↔ OpenV es rd (ps ++ l) c) : b = opB es rd ps c l := by
  unfold opB
  refine Bool.eq_iff_iff.mpr (h.trans ?_)
  exact (@decide_eq_true_iff _ (Classical.propDecidable _)).symm
def stepL (p : List Nat → Bool) (fd : List (List Nat)) (l : List Nat) : List (List Nat) := if (p l && (match fd with | [] => true | l0 :: _ => decide (l.length = l0.length))) = true then fd ++ [l] else fd
theorem stepL_cons (p : List Nat → Bool) (l0 : List Nat) (r : List (List Nat)) (l : List Nat) : stepL p (l0 :: r) l = if (p l && decide (l.length = l0.length)) = true then l0 :: r ++ [l] else l0 :: r := rfl
theorem stepL_nil (p : List Nat → Bool) (l : List Nat) : stepL p [] l = if (p l && true) = true then [l] else [] := rfl
theorem stepL_no {p : List Nat → Bool} {fd : List (List Nat)} {l : List Nat} (h : p l = false) : stepL p fd l = fd := by
  unfold stepL
  rw [h, Bool.false_and, if_neg (by decide)]
theorem stepL_yes {p : List Nat → Bool} {fd : List (List Nat)} {l : List Nat} (h : p l = true) (e : ∀ l0 r, fd = l0 :: r → l.length = l0.length) : stepL p fd l = fd ++ [l] := by
  cases fd with
  | nil => rw [stepL_nil, h, if_pos (by decide)]; rfl
  | cons l0 r => rw [stepL_cons, h, decide_eq_true (e l0 r rfl), if_pos (by decide)]
def leastOf (p : List Nat → Bool) (ls : List (List Nat)) : List (List Nat) := ls.foldl (stepL p) []
theorem leastOf_snoc (p : List Nat → Bool) (ls : List (List Nat)) (l : List Nat) : leastOf p (ls ++ [l]) = stepL p (leastOf p ls) l := by
  unfold leastOf
  rw [List.foldl_append]
  rfl
theorem leastOf_take {p : List Nat → Bool} {ls : List (List Nat)} {i : Nat} {l : List Nat} (h : ls[i]? = some l) : leastOf p (ls.take (i + 1)) = stepL p (leastOf p (ls.take i)) l := by
  rw [List.take_add_one, h]
  exact leastOf_snoc ..
structure LeastIs (p : List Nat → Bool) (ls fd : List (List Nat)) : Prop where
  mem : ∀ l ∈ fd, l ∈ ls ∧ p l = true
  non : fd = [] → ∀ l ∈ ls, p l = false
  low : ∀ l ∈ fd, ∀ m ∈ ls, p m = true → l.length ≤ m.length
theorem least_isG (p : List Nat → Bool) : ∀ (ls done : List (List Nat)) (fd : List (List Nat)), LeastIs p done fd → (done ++ ls).Pairwise (fun u v : List Nat => u.length ≤ v.length) → LeastIs p (done ++ ls) (ls.foldl (stepL p) fd)
  | [], done, fd, h, _ => by rw [List.append_nil]; exact h
  | l :: ls, done, fd, h, so => by
    have e : done ++ l :: ls = (done ++ [l]) ++ ls := by rw [List.append_assoc]; rfl
    rw [e] at so ⊢
    refine least_isG p ls (done ++ [l]) (stepL p fd l) ?_ so
    have le : ∀ m ∈ done, m.length ≤ l.length := fun m hm => by
      have z := (List.pairwise_append.mp (List.pairwise_append.mp so).1).2.2 m hm l (List.mem_singleton.mpr rfl)
      exact z
    by_cases hp : p l = true
    · cases fd with
      | nil =>
        rw [stepL_nil, hp, if_pos (by decide)]
        refine ⟨fun m hm => ?_, (fun z => by cases z), fun m hm k hk pk => ?_⟩
        · rw [List.mem_singleton] at hm
          subst hm
          exact ⟨List.mem_append_right _ (List.mem_singleton.mpr rfl), hp⟩
        · rw [List.mem_singleton] at hm
          subst hm
          rcases List.mem_append.mp hk with z | z
          · rw [h.non rfl k z] at pk; cases pk
          · rw [List.mem_singleton.mp z]; exact Nat.le_refl _
      | cons l0 r =>
        have m0 := h.mem l0 List.mem_cons_self
        have l0l := le l0 m0.1
        by_cases hl : l.length = l0.length
        · rw [stepL_cons, hp, if_pos (by rw [decide_eq_true hl]; rfl)]
          refine ⟨fun m hm => ?_, (fun z => by cases z), fun m hm k hk pk => ?_⟩
          · rcases List.mem_append.mp hm with z | z
            · exact ⟨List.mem_append_left _ (h.mem m z).1, (h.mem m z).2⟩
            · rw [List.mem_singleton.mp z]
              exact ⟨List.mem_append_right _ (List.mem_singleton.mpr rfl), hp⟩
          · rcases List.mem_append.mp hm with z | z
            · rcases List.mem_append.mp hk with y | y
              · exact h.low m z k y pk
              · rw [List.mem_singleton.mp y]
                exact le m (h.mem m z).1
            · rw [List.mem_singleton.mp z, hl]
              rcases List.mem_append.mp hk with y | y
              · exact h.low l0 List.mem_cons_self k y pk
              · rw [List.mem_singleton.mp y]; exact l0l
        · rw [stepL_cons, hp, if_neg (by rw [decide_eq_false hl]; decide)]
          refine ⟨fun m hm => ⟨List.mem_append_left _ (h.mem m hm).1, (h.mem m hm).2⟩, (fun z => by cases z), fun m hm k hk pk => ?_⟩
          rcases List.mem_append.mp hk with y | y
          · exact h.low m hm k y pk
          · rw [List.mem_singleton.mp y]
            exact le m (h.mem m hm).1
    · rw [stepL_no (Bool.eq_false_iff.mpr hp)]
      refine ⟨fun m hm => ⟨List.mem_append_left _ (h.mem m hm).1, (h.mem m hm).2⟩, fun z k hk => ?_, fun m hm k hk pk => ?_⟩
      · rcases List.mem_append.mp hk with y | y
        · exact h.non z k y
        · rw [List.mem_singleton.mp y]; exact Bool.eq_false_iff.mpr hp
      · rcases List.mem_append.mp hk with y | y
        · exact h.low m hm k y pk
        · rw [List.mem_singleton.mp y] at pk; exact absurd pk hp
theorem least_is {p : List Nat → Bool} {ls : List (List Nat)} (so : ls.Pairwise fun u v : List Nat => u.length ≤ v.length) : LeastIs p ls (leastOf p ls) := by
  have z := least_isG p ls [] [] ⟨fun l hl => (nomatch hl), fun _ l hl => (nomatch hl), fun l hl => (nomatch hl)⟩ so
  exact z
theorem take_so {ls : List (List Nat)} (so : ls.Pairwise fun u v : List Nat => u.length ≤ v.length) (i : Nat) : (ls.take i).Pairwise fun u v : List Nat => u.length ≤ v.length := so.sublist (List.take_sublist i ls)
/-- behind the first longer lot nothing comes any more -/
theorem least_stop {p : List Nat → Bool} {l0 : List Nat} {r : List (List Nat)} : ∀ ls : List (List Nat), (∀ l ∈ ls, l0.length < l.length) → ls.foldl (stepL p) (l0 :: r) = l0 :: r
  | [], _ => rfl
  | l :: ls, h => by
    rw [List.foldl_cons]
    have e : stepL p (l0 :: r) l = l0 :: r := by
      have hl := h l List.mem_cons_self
      have : ¬ l.length = l0.length := by omega
      rw [stepL_cons, decide_eq_false this, Bool.and_false, if_neg (by decide)]
    rw [e]
    exact least_stop ls fun m hm => h m (List.mem_cons_of_mem _ hm)
theorem least_break {p : List Nat → Bool} {ls : List (List Nat)} {i : Nat} {l l0 : List Nat} {r : List (List Nat)} (so : ls.Pairwise fun u v : List Nat => u.length ≤ v.length) (hi : ls[i]? = some l) (e : leastOf p (ls.take i) = l0 :: r) (h : l0.length < l.length) : leastOf p ls = l0 :: r := by
  have d := List.take_append_drop i ls
  have a : leastOf p ls = (ls.drop i).foldl (stepL p) (leastOf p (ls.take i)) := by
    conv => lhs; rw [← d]
    unfold leastOf
    rw [List.foldl_append]
  rw [a, e]
  obtain ⟨il, gl⟩ := List.getElem?_eq_some_iff.mp hi
  refine least_stop _ fun m hm => ?_
  have dr : ls.drop i = l :: ls.drop (i + 1) := by rw [List.drop_eq_getElem_cons il, gl]
  have so2 : (ls.drop i).Pairwise fun u v : List Nat => u.length ≤ v.length := so.sublist (List.drop_sublist i ls)
  rw [dr] at so2 hm
  rcases List.mem_cons.mp hm with rfl | hm
  · exact h
  · have := (List.pairwise_cons.mp so2).1 m hm
    omega
theorem tabs_but {T : List (Addr × Str)} {H H' : Hp} {D : Addr} {xs : List V} (hD : H D = some (.lst xs)) (e : But D H H') (t : LamX.Tabs T H) : LamX.Tabs T H' := fun p hp => by
  obtain ⟨ps, h1, h2, h3⟩ := t p hp
  refine ⟨ps, e _ _ (fun z => by rw [z, hD] at h1; cases h1) h1, h2, fun pos cv hc => ?_⟩
  obtain ⟨c, e1, e2⟩ := h3 pos cv hc
  exact ⟨c, e1, e _ _ (fun z => by rw [z, hD] at e2; cases e2) e2⟩
theorem sq_ext {H H' : Hp} {b : Addr} {xs : List V} (h : SqOf H b xs) (e : LamX.ExtN H H') : SqOf H' b xs := h.imp (fun z => e _ _ z fun ps w => by cases w) (fun z => e _ _ z fun ps w => by cases w)
theorem ext_but {H H4 H' : Hp} {D : Addr} (hD : H D = none) (e : LamX.ExtN H H4) (b : But D H4 H') : LamX.ExtN H H' := fun x o hx n => b _ _ (ne_of_none hx hD) (e _ _ hx n)
section
variable {P : Program} {w : World} {K : PySem.W.Frag} {mg : Str → Option Value} {base : Heap} {a : AdL} {S iS Pt : Addr}
/-- a lot of cells, or what is none and is told so with this word -/
def LotOrW (K : PySem.W.Frag) (S : Addr) (wd : Str) (n : Nat) (H : Hp) (y : V) (E : XK) (q : Addr → List Nat → Prop) : Prop :=
  (∃ pa ps, y = .ref pa ∧ SqOf H pa (ints_ ps) ∧ (∀ c ∈ ps, c < n) ∧ ps.Nodup ∧ q pa ps) ∨ (BadLot K n H y ∧ Flies H S "what" (.str wd) E)
def spLeast (K : PySem.W.Frag) (a : AdL) (S Pt : Addr) : Sp := fun vs H Q E => ∃ (p : Addr) (n : Nat) (es : List (Nat × Nat)) (rd : List Nat) (x y z : V), vs = [.ref p, x, y, z] ∧ LandO a.C H p n es rd ∧ LamX.Tabs [(Pt, lamQ)] H ∧ CellOr a.B n H x E fun c => LotOr K S n H y E fun _ ps => LotOrW K S "among" n H z E fun _ qs =>
  ∀ H' t us, LamX.ExtN H H' → LamX.Tabs [(Pt, lamQ)] H' → H' t = some (.tup (us.map V.ref)) → TAt H' us (leastOf (opB es rd ps c) (lotsN (ascOf n qs c))) → Q (.ref t) H'
variable {fc : Addr} {fdc : FuncData} (Gch : FnOk P w K mg base (L2.CX P w) 5 fc fdc ["land", "cell", "passing"] (spChk K a S)) (gch : mg "_check" = some (.ref fc)) (kch : PySem.W.keepIn K (.ref fc) = true) (bch : Binds K fdc ["land", "cell", "passing"] [])
include Gch gch kch bch in
theorem ok_least (T : Tl K mg a) (TS : Ts K mg S iS) {f fL fop fal : Addr} {fd fdL fdop fdal fdB : FuncData} (F : Fun K "least_lots" "least_lots" s_least_lots f fd)
    (Gil : FnOk P w K mg base CX0 3 fL fdL ["land", "thing", "least"] (spIsLot K a.C)) (gil : mg "is_lot" = some (.ref fL)) (kil : PySem.W.keepIn K (.ref fL) = true) (bil : Binds K fdL ["land", "thing", "least"] [])
    (Gop : FnOk P w K mg base CX0 2 fop fdop ["land", "cell", "passing"] (spOpens a.C)) (gop : mg "opens" = some (.ref fop)) (kop : PySem.W.keepIn K (.ref fop) = true) (bop : Binds K fdop ["land", "cell", "passing"] [])
    (Gal : FnOk P w K mg base CX0 3 fal fdal ["cells"] (spAllL Pt)) (gal : mg "all_lots" = some (.ref fal)) (kal : PySem.W.keepIn K (.ref fal) = true) (bal : Binds K fdal ["cells"] [])
    (FB0 : Fun K "__init__" "BadCells.__init__" s_BadCells___init__ iS fdB) (bB : Binds K fdB ["self", "what"] []) (m_sorted : mg "sorted" = none) (m_len : mg "len" = none) (m_tuple : mg "tuple" = none) : FnOk P w K mg base (L2.CX P w) 6 f fd ["land", "cell", "passing", "among"] (spLeast K a S Pt) := by
  have FB : FnOk P w K mg base (L2.CX P w) 1 iS fdB ["self", "what"] (spX S "what") := ok_iS TS FB0
  refine F.okX sc_least_lots (fun vs H Q E h => ?_) (fun cdv A outer s H vs Q E hr h => ?_)
  · obtain ⟨p, n, es, rd, x, y, z, rfl, _⟩ := h
    rfl
  · obtain ⟨p, n, es, rd, x, y, z, rfl, L, hT, h⟩ := h
    have hrx : Room (1 + 1) _ := hr.mono (by decide)
    refine ⟨_, (Evl.pss_cut (ps_expr (pe_call Gch (hr.mono (by decide)) (by rfl) gch kch bch .nil (passes_call (E := E) (takes_of rfl rfl rfl rfl) (fun _ _ _ _ h => h)) (pa_cons (pv 0) (pa_cons (pv 1) (pa_cons (pv 2) pa_nil)))))
 (Evl.pss_cut (ps_if (pt_not (pt_val (pe_call Gil (hr.mono (by decide)) (by rfl) gil kil bil .nil pass0 (pa_cons (pv 0) (pa_cons (pv 3) (pa_cons pe_int pa_nil))))))
  (pss_one (ps_raise rfl (takes_of rfl rfl rfl rfl) (pmk_oex TS.ox TS.iC TS.tI FB hrx bB .nil passL (by rfl) TS.g (pa_cons pe_str pa_nil))))
  pss_nil)
 (pss_cons (ps_set (i := 4) sc_least_lots.nd rfl (by first | exact Or.inl rfl | exact Or.inr rfl) (pe_lst pa_nil))
 (Evl.pss_cut (ps_for (passes_of rfl) rfl (pi_tup (pe_call Gal (hr.mono (by decide)) (by rfl) gal kal bal .nil pass0 (pa_cons (pe_callB K7S.cr_sortA (by rfl) m_sorted boot_sorted (pa_cons (pe_lc (own := [("b", 6)]) (g := gName 6) rfl sc_least_lots.nd (K7E.pi_either (pi_tup (pv 3)) (pi_list (pv 3))) (blkOk_by (own := [("b", 6)]) (N := N_least_lots) (sc := defScope s_least_lots) (by decide +kernel)) (fun _ _ _ _ _ => (pg_name (i := 6) sc_least_lots.nd rfl (by first | exact Or.inl rfl | exact Or.inr rfl))) (fun _ _ _ _ _ => (pts_one (pt_cmpR op_ne (pv 6) (pv 1) (nomark _)))) (fun _ _ _ _ _ => (pv 6))) pa_nil)) pa_nil))) (pg_name (i := 5) sc_least_lots.nd rfl (by first | exact Or.inl rfl | exact Or.inr rfl))
  (Evl.pss_cut (ps_if (pw_and (pt_truth (pv 4) (by intro _; rfl)) (pw_and1 (pt_cmpR op_gt (pe_callB call_len_seq (by rfl) m_len boot_len (pa_cons (pv 5) pa_nil)) (pe_callB call_len_seq (by rfl) m_len boot_len (pa_cons (pe_ix ix_list (pv 4) pe_int (fun _ _ => rfl)) pa_nil)) (nomark _)))).pt
  (pss_one ps_break)
  pss_nil)
 (pss_one (ps_if (pt_val (pe_call Gop (hr.mono (by decide)) (by rfl) gop kop bop .nil pass0 (pa_cons (pv 0) (pa_cons (pv 1) (pa_cons (pe_lst (StX.pa_star (pv 2) (StX.pa_star (pv 5) pa_nil))) pa_nil)))))
  (pss_one (ps_expr (pe_bm PySem.F.plainAttrs_list PySem.F.slot_list_append PySem.F.type_list_append mt_append (pv 4) (pa_cons (pv 5) pa_nil))))
  pss_nil))))
 (pss_one (ps_ret (pe_callTy call_tuple_of (by rfl) m_tuple boot_tuple (pa_cons (pv 4) pa_nil)))))))), ?_⟩
    have n5 := L.n5
    -- the check
    refine ⟨fun τ H' => ∃ c pa ps, x = .int (c : Nat) ∧ c < n ∧ y = .ref pa ∧ SqOf H pa (ints_ ps) ∧ (∀ c ∈ ps, c < n) ∧ ps.Nodup ∧ (LotOrW K S "among" n H z E fun _ qs => ∀ H' t us, LamX.ExtN H H' → LamX.Tabs [(Pt, lamQ)] H' → H' t = some (.tup (us.map V.ref)) → TAt H' us (leastOf (opB es rd ps c) (lotsN (ascOf n qs c))) → Q (.ref t) H') ∧ τ = [some (.ref p), some x, some y, some z, none, none, none] ∧ Same H H', ?_, fun τ H1 hM => ?_⟩
    · exact ⟨_, rfl, _, rfl, _, rfl, p, n, es, rd, x, y, rfl, L, h.mono fun c ex hc h => h.mono fun pa ps ey hpa plt pnd q H1 e1 => ⟨c, pa, ps, ex, hc, ey, hpa, plt, pnd, q, rfl, e1⟩⟩
    · obtain ⟨c, pa, ps, rfl, hc, rfl, hpa, plt, pnd, h, rfl, e1⟩ := hM
      have p5 : ps.length ≤ 5 := by
        have z := K7E.nodup_le ps (List.range n) pnd fun x hx => List.mem_range.mpr (plt x hx)
        rw [List.length_range] at z
        omega
      -- the lot to choose from
      refine ⟨fun τ H' => ∃ qa qs, z = .ref qa ∧ SqOf H qa (ints_ qs) ∧ (∀ c ∈ qs, c < n) ∧ qs.Nodup ∧ (∀ H' t us, LamX.ExtN H H' → LamX.Tabs [(Pt, lamQ)] H' → H' t = some (.tup (us.map V.ref)) → TAt H' us (leastOf (opB es rd ps c) (lotsN (ascOf n qs c))) → Q (.ref t) H') ∧ τ = [some (.ref p), some (.int (c : Nat)), some (.ref pa), some z, none, none, none] ∧ Same H H', ?_, fun τ H2 hM => ?_⟩
      · rcases h with ⟨qa, qs, rfl, hqa, qlt, qnd, q⟩ | ⟨bl, fl⟩
        · have q5 : qs.length ≤ 5 := by
            have z := K7E.nodup_le qs (List.range n) qnd fun x hx => List.mem_range.mpr (qlt x hx)
            rw [List.length_range] at z
            omega
          refine ⟨_, rfl, _, rfl, p, n, _, 0, rfl, (L.same e1).c, .inr ⟨qa, _, rfl, hqa.same e1, fun y hy => ?_, by unfold ints_; rw [List.length_map]; omega, fun H2 e2 => ?_⟩⟩
          · obtain ⟨z, _, rfl⟩ := List.mem_map.mp hy
            exact .flat (.int _)
          · rw [cells_lot0 qlt qnd]
            exact ⟨_, rfl, iteFo rfl ⟨qa, qs, rfl, hqa, qlt, qnd, q, rfl, e1.trans e2⟩⟩
        · rcases bl with ns | ⟨b, xs, rfl, hb, hth, h64, cv⟩
          · refine ⟨_, rfl, _, rfl, p, n, _, 0, rfl, (L.same e1).c, .inl ⟨ns.same e1, fun H2 e2 => ?_⟩⟩
            refine ⟨_, rfl, iteT ?_⟩
            exact ⟨by show 1 ≤ 1000; decide, flies_go (fl.later (e1.trans e2))⟩
          · refine ⟨_, rfl, _, rfl, p, n, _, 0, rfl, (L.same e1).c, .inr ⟨b, xs, rfl, hb.same e1, fun y hy => (hth y hy).same e1, h64, fun H2 e2 => ?_⟩⟩
            rw [cv]
            refine ⟨_, rfl, iteT ?_⟩
            exact ⟨by show 1 ≤ 1000; decide, flies_go (fl.later (e1.trans e2))⟩
      · obtain ⟨qa, qs, rfl, hqa, qlt, qnd, q, rfl, e2⟩ := hM
        clear e1 h
        have q5 : qs.length ≤ 5 := by
          have z := K7E.nodup_le qs (List.range n) qnd fun x hx => List.mem_range.mpr (qlt x hx)
          rw [List.length_range] at z
          omega
        obtain ⟨as, has⟩ : ∃ as, as = ascOf n qs c := ⟨_, rfl⟩
        have as5 : as.length ≤ 5 := by rw [has]; exact Nat.le_trans ascOf_len n5
        have asc : as.Pairwise (· < ·) := by rw [has]; exact ascOf_asc n qs c
        have so := lotsN_asc as5 asc
        have l32 := lotsN_len as5
        rw [← has] at q
        refine ⟨by show 0 ≤ sizeLine; decide, fun F0 nF0 => ?_⟩
        have e3 := e2.trans (same_new (o := .lst []) (Same.refl H2) nF0)
        have hF3 : upd H2 F0 (.lst []) F0 = some (.lst []) := upd_same
        have hFn : H F0 = none := e2.free nF0
        generalize upd H2 F0 (.lst []) = H3 at e3 hF3 ⊢
        refine ⟨fun τ H' => ∃ us y5 y6, τ = [some (.ref p), some (.int (c : Nat)), some (.ref pa), some (.ref qa), some (.ref F0), y5, y6] ∧ LamX.ExtN H H' ∧ LamX.Tabs [(Pt, lamQ)] H' ∧ H' F0 = some (.lst (us.map V.ref)) ∧ TAt H' us (leastOf (opB es rd ps c) (lotsN as)), ?_, fun τ H5 hM => ?_⟩
        · have hqa3 := hqa.same e3
          rcases hqa3 with z | z
          · refine .inl ⟨_, rfl, qa, rfl, ⟨_, .inl (.inl z)⟩, fun D hD => lc_tup (xs := ints_ qs) (fun j H4 => Same H3 H4 ∧ H4 D = some (.lst (ints_ ((qs.take j).filter fun x => decide (x ≠ c))))) ⟨same_new (Same.refl H3) hD, upd_same⟩ (fun j H4 _ pv => .inl (.inl (pv.1 _ _ z))) (fun j y H4 hy pv => ?_) (fun H4 pv => ?_)⟩
            · obtain ⟨e4, hD4⟩ := pv
              unfold ints_ at hy
              rw [List.getElem?_map] at hy
              obtain ⟨k, hk, rfl⟩ := Option.map_eq_some_iff.mp hy
              have ft := filter_take (p := fun x => decide (x ≠ c)) hk
              refine ⟨rfl, _, rfl, _, rfl, rfl, _, rfl, ?_⟩
              change if (!decide (V.int (k : Nat) = V.int (c : Nat))) = true then _ else _
              have ed : decide (V.int ((k : Nat) : Int) = V.int ((c : Nat) : Int)) = decide (k = c) := by
                by_cases z : k = c
                · subst z; rw [decide_eq_true rfl, decide_eq_true rfl]
                · rw [decide_eq_false z, decide_eq_false]
                  intro w
                  injection w with w
                  exact z (by omega)
              rw [ed]
              by_cases z : k = c
              · rw [decide_eq_true z]
                refine iteFo rfl ⟨e4, ?_⟩
                rw [ft, if_neg (by simpa using z), List.append_nil]
                exact hD4
              · rw [decide_eq_false z]
                refine iteTo rfl ⟨_, rfl, _, hD4, ?_, fun b o hb => ?_, ?_⟩
                · unfold ints_
                  rw [List.length_map]
                  exact small1000 (Nat.le_trans (List.length_filter_le _ _) (by rw [List.length_take]; omega))
                · rw [upd_ne (ne_of_none hb hD)]
                  exact e4 _ _ hb
                · rw [upd_same, ft, if_pos (by simpa using z), ints_snoc]
            · obtain ⟨e4, hD4⟩ := pv
              rw [show (ints_ qs).length = qs.length from List.length_map .., List.take_length] at hD4
              refine ⟨D, nz (qs.filter fun x => decide (x ≠ c)), rfl, .inl (.inl (.inl (by rw [nz_ints]; exact hD4))), ?_, fun ms t pm so2 nt => ?_⟩
              · rw [nz_len]
                exact Nat.lt_of_le_of_lt (List.length_filter_le _ _) (by omega)
              · have em := ascOf_is qlt qnd pm so2
                rw [← has] at em
                rw [em]
                have e5 := e4.trans (al (o := .lst ((nz as).map V.int)) nt)
                have ht : upd H4 t (.lst ((nz as).map V.int)) t = some (.lst ((nz as).map V.int)) := upd_same
                generalize upd H4 t (.lst ((nz as).map V.int)) = H5 at e5 ht ⊢
                have eX := LamX.ExtN.of (e3.trans e5)
                refine ⟨t, nz as, rfl, ht, by rw [nz_len]; omega, hT.ext (e3.trans e5), fun H6 u ts eN T6 hu tI => ?_⟩
                have e6 := eX.trans eN
                have hF6 : H6 F0 = some (.lst []) := eN _ _ (e5 _ _ hF3) fun ps w => by cases w
                rw [lots_eqN as5 asc] at tI
                have tA := ti_tat tI
                have tl := tA.len
                refine ⟨u, rfl, ⟨_, .inl (.inl hu)⟩, for_tup (xs := ts.map V.ref) (fun i σ H7 => ∃ us y5 y6, σ = [some (.ref p), some (.int (c : Nat)), some (.ref pa), some (.ref qa), some (.ref F0), y5, y6] ∧ But F0 H6 H7 ∧ H7 F0 = some (.lst (us.map V.ref)) ∧ TAt H7 us (leastOf (opB es rd ps c) ((lotsN as).take i)) ∧ us.length ≤ i) ⟨[], none, none, rfl, fun b o _ hb => hb, hF6, .nil, Nat.le_refl _⟩ (fun i σ H7 _ pv => ?_) (fun i y σ H7 hy pv => ?_) (fun σ H7 pv => ?_)⟩
                · obtain ⟨us, y5, y6, rfl, bt, _⟩ := pv
                  exact .inl (.inl (bt _ _ (fun z => by rw [z, hF6] at hu; cases hu) hu))
                · obtain ⟨us, y5, y6, rfl, bt, hF7, tU, lu⟩ := pv
                  rw [List.getElem?_map] at hy
                  obtain ⟨ti, hti, rfl⟩ := Option.map_eq_some_iff.mp hy
                  obtain ⟨l, el, hl⟩ := tA.get hti
                  have hi := (List.getElem?_eq_some_iff.mp el).1
                  have hl7 := bt _ _ (fun z => by rw [z, hF6] at hl; cases hl) hl
                  have ll : l.length ≤ 5 := by
                    have z := ((mem_lotsN as5 asc).mp (List.mem_of_getElem? el)).length_le
                    omega
                  have ts1 := leastOf_take (p := opB es rd ps c) el
                  have tul := tU.len
                  have e7 := ext_but hFn e6 bt
                  refine ⟨fun τ H' => τ = [some (.ref p), some (.int (c : Nat)), some (.ref pa), some (.ref qa), some (.ref F0), some (.ref ti), y6] ∧ H' = H7 ∧ ∀ l0 r, leastOf (opB es rd ps c) ((lotsN as).take i) = l0 :: r → l.length ≤ l0.length, ?_, fun τ H8 hM => ?_⟩
                  · refine ⟨_, rfl, _, .inl ⟨_, .inl (.inl hF7), rfl⟩, ?_⟩
                    cases us with
                    | nil =>
                      have e0 : leastOf (opB es rd ps c) ((lotsN as).take i) = [] := List.length_eq_zero_iff.mp tul.symm
                      refine iteFo rfl (iteFo rfl ⟨rfl, rfl, fun l0 r z => by rw [e0] at z; cases z⟩)
                    | cons u0 ur =>
                      obtain ⟨l0, el0, hl0⟩ := tU.get (i := 0) rfl
                      obtain ⟨fr, efr⟩ : ∃ fr, leastOf (opB es rd ps c) ((lotsN as).take i) = l0 :: fr := by
                        generalize leastOf (opB es rd ps c) ((lotsN as).take i) = ff at el0
                        cases ff with
                        | nil => cases el0
                        | cons x r => cases el0; exact ⟨r, rfl⟩
                      refine iteTo rfl ⟨_, rfl, ti, _, rfl, .inr (.inl (.inl hl7)), _, rfl, F0, _, _, _, rfl, rfl, .inl (.inl hF7), atI_nat (j := 0) rfl, u0, _, rfl, .inr (.inl (.inl hl0)), _, _, rfl, rfl, _, rfl, ite2 (fun q1 => ?_) (fun q1 => ?_)⟩
                      · have q1 := of_decide_eq_true q1
                        rw [List.length_map, List.length_map] at q1
                        have eb := least_break so el efr (by omega)
                        rw [efr] at tU
                        refine ⟨_, _, _, rfl, e7, tabs_but hF6 bt T6, hF7, ?_⟩
                        rw [eb]
                        exact tU
                      · refine ⟨rfl, rfl, fun l1 r z => ?_⟩
                        rw [efr] at z
                        injection z with z _
                        subst z
                        have q1 : ¬ _ := fun z => q1 (decide_eq_true z)
                        rw [List.length_map, List.length_map] at q1
                        omega
                  · obtain ⟨rfl, rfl, hle⟩ := hM
                    have hF8 := hF7
                    refine ⟨_, rfl, _, rfl, _, rfl, pa, _, rfl, (sq_ext hpa e7).imp (fun z => .inl (.inl z)) (fun z => .inl (.inl z)), _, rfl, ti, _, rfl, .inl (.inl (.inl hl7)), ?_, fun A nA => ?_⟩
                    · show (ints_ ps ++ (ints_ l ++ [])).length ≤ sizeLine
                      unfold ints_
                      rw [List.append_nil, List.length_append, List.length_map, List.length_map]
                      exact Nat.le_trans (show ps.length + l.length ≤ 1000 by omega) (by decide)
                    · have e8 := al (o := .lst (ints_ ps ++ (ints_ l ++ []))) nA
                      have hA : upd H8 A (.lst (ints_ ps ++ (ints_ l ++ []))) A = some (.lst (ints_ (ps ++ l))) := by
                        rw [upd_same, List.append_nil]
                        unfold ints_
                        rw [List.map_append]
                      refine ⟨p, n, es, rd, c, A, ps ++ l, rfl, (L.ext e7).same e8, hc, .inr hA, fun H9 b e9 hb => ⟨b, rfl, ?_⟩⟩
                      rw [opB_iff hb]
                      have e79 := e8.trans e9
                      have hF9 := e79 _ _ hF8
                      by_cases hp : opB es rd ps c l = true
                      · rw [hp]
                        have hst := stepL_yes (fd := leastOf (opB es rd ps c) ((lotsN as).take i)) hp fun l0 r z => by
                          have h1 := hle l0 r z
                          have m := (least_is (p := opB es rd ps c) (take_so so i)).mem l0 (by rw [z]; exact List.mem_cons_self)
                          obtain ⟨k, hk⟩ := List.getElem?_of_mem m.1
                          have kl := (List.getElem?_eq_some_iff.mp hk).1
                          rw [List.length_take] at kl
                          rw [List.getElem?_take_of_lt (by omega)] at hk
                          have h2 := List.pairwise_iff_getElem.mp so k i (by omega) hi (by omega)
                          rw [(List.getElem?_eq_some_iff.mp hk).2, (List.getElem?_eq_some_iff.mp el).2] at h2
                          omega
                        rw [hst] at ts1
                        refine iteT ⟨_, rfl, .inl ⟨rfl, _, .inl (.inl hF9)⟩, _, rfl, F0, _, _, rfl, rfl, hF9, by rw [List.length_map]; exact small1000 (by omega), us ++ [ti], _, _, rfl, fun b o nb hb => by rw [upd_ne nb]; exact e79 _ _ (bt b o nb hb), by rw [upd_same, List.map_append]; rfl, ?_, by rw [List.length_append, List.length_singleton]; omega⟩
                        rw [ts1]
                        have up : ∀ b xs, H9 b = some (.tup xs) → upd H9 F0 (.lst (us.map V.ref ++ [.ref ti])) b = some (.tup xs) := fun b xs hb => by
                          rw [upd_ne (fun z => by rw [z, hF9] at hb; cases hb)]
                          exact hb
                        exact ((tU.same e79).mono up).append (.cons (up _ _ (e79 _ _ hl7)) .nil)
                      · rw [Bool.eq_false_iff.mpr hp]
                        rw [stepL_no (Bool.eq_false_iff.mpr hp)] at ts1
                        refine iteF ⟨us, _, _, rfl, fun b o nb hb => e79 _ _ (bt b o nb hb), hF9, ?_, by omega⟩
                        rw [ts1]
                        exact tU.same e79
                · obtain ⟨us, y5, y6, rfl, bt, hF7, tU, lu⟩ := pv
                  rw [List.length_map, tl, List.take_length] at tU
                  exact ⟨us, _, _, rfl, ext_but hFn e6 bt, tabs_but hF6 bt T6, hF7, tU⟩
          · refine .inr ⟨_, rfl, qa, rfl, ⟨_, .inl (.inl z)⟩, fun D hD => lc_list (xs := ints_ qs) (fun j H4 => Same H3 H4 ∧ H4 D = some (.lst (ints_ ((qs.take j).filter fun x => decide (x ≠ c))))) ⟨same_new (Same.refl H3) hD, upd_same⟩ (fun j H4 _ pv => .inl (.inl (pv.1 _ _ z))) (fun j y H4 hy pv => ?_) (fun H4 pv => ?_)⟩
            · obtain ⟨e4, hD4⟩ := pv
              unfold ints_ at hy
              rw [List.getElem?_map] at hy
              obtain ⟨k, hk, rfl⟩ := Option.map_eq_some_iff.mp hy
              have ft := filter_take (p := fun x => decide (x ≠ c)) hk
              refine ⟨rfl, _, rfl, _, rfl, rfl, _, rfl, ?_⟩
              change if (!decide (V.int (k : Nat) = V.int (c : Nat))) = true then _ else _
              have ed : decide (V.int ((k : Nat) : Int) = V.int ((c : Nat) : Int)) = decide (k = c) := by
                by_cases z : k = c
                · subst z; rw [decide_eq_true rfl, decide_eq_true rfl]
                · rw [decide_eq_false z, decide_eq_false]
                  intro w
                  injection w with w
                  exact z (by omega)
              rw [ed]
              by_cases z : k = c
              · rw [decide_eq_true z]
                refine iteFo rfl ⟨e4, ?_⟩
                rw [ft, if_neg (by simpa using z), List.append_nil]
                exact hD4
              · rw [decide_eq_false z]
                refine iteTo rfl ⟨_, rfl, _, hD4, ?_, fun b o hb => ?_, ?_⟩
                · unfold ints_
                  rw [List.length_map]
                  exact small1000 (Nat.le_trans (List.length_filter_le _ _) (by rw [List.length_take]; omega))
                · rw [upd_ne (ne_of_none hb hD)]
                  exact e4 _ _ hb
                · rw [upd_same, ft, if_pos (by simpa using z), ints_snoc]
            · obtain ⟨e4, hD4⟩ := pv
              rw [show (ints_ qs).length = qs.length from List.length_map .., List.take_length] at hD4
              refine ⟨D, nz (qs.filter fun x => decide (x ≠ c)), rfl, .inl (.inl (.inl (by rw [nz_ints]; exact hD4))), ?_, fun ms t pm so2 nt => ?_⟩
              · rw [nz_len]
                exact Nat.lt_of_le_of_lt (List.length_filter_le _ _) (by omega)
              · have em := ascOf_is qlt qnd pm so2
                rw [← has] at em
                rw [em]
                have e5 := e4.trans (al (o := .lst ((nz as).map V.int)) nt)
                have ht : upd H4 t (.lst ((nz as).map V.int)) t = some (.lst ((nz as).map V.int)) := upd_same
                generalize upd H4 t (.lst ((nz as).map V.int)) = H5 at e5 ht ⊢
                have eX := LamX.ExtN.of (e3.trans e5)
                refine ⟨t, nz as, rfl, ht, by rw [nz_len]; omega, hT.ext (e3.trans e5), fun H6 u ts eN T6 hu tI => ?_⟩
                have e6 := eX.trans eN
                have hF6 : H6 F0 = some (.lst []) := eN _ _ (e5 _ _ hF3) fun ps w => by cases w
                rw [lots_eqN as5 asc] at tI
                have tA := ti_tat tI
                have tl := tA.len
                refine ⟨u, rfl, ⟨_, .inl (.inl hu)⟩, for_tup (xs := ts.map V.ref) (fun i σ H7 => ∃ us y5 y6, σ = [some (.ref p), some (.int (c : Nat)), some (.ref pa), some (.ref qa), some (.ref F0), y5, y6] ∧ But F0 H6 H7 ∧ H7 F0 = some (.lst (us.map V.ref)) ∧ TAt H7 us (leastOf (opB es rd ps c) ((lotsN as).take i)) ∧ us.length ≤ i) ⟨[], none, none, rfl, fun b o _ hb => hb, hF6, .nil, Nat.le_refl _⟩ (fun i σ H7 _ pv => ?_) (fun i y σ H7 hy pv => ?_) (fun σ H7 pv => ?_)⟩
                · obtain ⟨us, y5, y6, rfl, bt, _⟩ := pv
                  exact .inl (.inl (bt _ _ (fun z => by rw [z, hF6] at hu; cases hu) hu))
                · obtain ⟨us, y5, y6, rfl, bt, hF7, tU, lu⟩ := pv
                  rw [List.getElem?_map] at hy
                  obtain ⟨ti, hti, rfl⟩ := Option.map_eq_some_iff.mp hy
                  obtain ⟨l, el, hl⟩ := tA.get hti
                  have hi := (List.getElem?_eq_some_iff.mp el).1
                  have hl7 := bt _ _ (fun z => by rw [z, hF6] at hl; cases hl) hl
                  have ll : l.length ≤ 5 := by
                    have z := ((mem_lotsN as5 asc).mp (List.mem_of_getElem? el)).length_le
                    omega
                  have ts1 := leastOf_take (p := opB es rd ps c) el
                  have tul := tU.len
                  have e7 := ext_but hFn e6 bt
                  refine ⟨fun τ H' => τ = [some (.ref p), some (.int (c : Nat)), some (.ref pa), some (.ref qa), some (.ref F0), some (.ref ti), y6] ∧ H' = H7 ∧ ∀ l0 r, leastOf (opB es rd ps c) ((lotsN as).take i) = l0 :: r → l.length ≤ l0.length, ?_, fun τ H8 hM => ?_⟩
                  · refine ⟨_, rfl, _, .inl ⟨_, .inl (.inl hF7), rfl⟩, ?_⟩
                    cases us with
                    | nil =>
                      have e0 : leastOf (opB es rd ps c) ((lotsN as).take i) = [] := List.length_eq_zero_iff.mp tul.symm
                      refine iteFo rfl (iteFo rfl ⟨rfl, rfl, fun l0 r z => by rw [e0] at z; cases z⟩)
                    | cons u0 ur =>
                      obtain ⟨l0, el0, hl0⟩ := tU.get (i := 0) rfl
                      obtain ⟨fr, efr⟩ : ∃ fr, leastOf (opB es rd ps c) ((lotsN as).take i) = l0 :: fr := by
                        generalize leastOf (opB es rd ps c) ((lotsN as).take i) = ff at el0
                        cases ff with
                        | nil => cases el0
                        | cons x r => cases el0; exact ⟨r, rfl⟩
                      refine iteTo rfl ⟨_, rfl, ti, _, rfl, .inr (.inl (.inl hl7)), _, rfl, F0, _, _, _, rfl, rfl, .inl (.inl hF7), atI_nat (j := 0) rfl, u0, _, rfl, .inr (.inl (.inl hl0)), _, _, rfl, rfl, _, rfl, ite2 (fun q1 => ?_) (fun q1 => ?_)⟩
                      · have q1 := of_decide_eq_true q1
                        rw [List.length_map, List.length_map] at q1
                        have eb := least_break so el efr (by omega)
                        rw [efr] at tU
                        refine ⟨_, _, _, rfl, e7, tabs_but hF6 bt T6, hF7, ?_⟩
                        rw [eb]
                        exact tU
                      · refine ⟨rfl, rfl, fun l1 r z => ?_⟩
                        rw [efr] at z
                        injection z with z _
                        subst z
                        have q1 : ¬ _ := fun z => q1 (decide_eq_true z)
                        rw [List.length_map, List.length_map] at q1
                        omega
                  · obtain ⟨rfl, rfl, hle⟩ := hM
                    have hF8 := hF7
                    refine ⟨_, rfl, _, rfl, _, rfl, pa, _, rfl, (sq_ext hpa e7).imp (fun z => .inl (.inl z)) (fun z => .inl (.inl z)), _, rfl, ti, _, rfl, .inl (.inl (.inl hl7)), ?_, fun A nA => ?_⟩
                    · show (ints_ ps ++ (ints_ l ++ [])).length ≤ sizeLine
                      unfold ints_
                      rw [List.append_nil, List.length_append, List.length_map, List.length_map]
                      exact Nat.le_trans (show ps.length + l.length ≤ 1000 by omega) (by decide)
                    · have e8 := al (o := .lst (ints_ ps ++ (ints_ l ++ []))) nA
                      have hA : upd H8 A (.lst (ints_ ps ++ (ints_ l ++ []))) A = some (.lst (ints_ (ps ++ l))) := by
                        rw [upd_same, List.append_nil]
                        unfold ints_
                        rw [List.map_append]
                      refine ⟨p, n, es, rd, c, A, ps ++ l, rfl, (L.ext e7).same e8, hc, .inr hA, fun H9 b e9 hb => ⟨b, rfl, ?_⟩⟩
                      rw [opB_iff hb]
                      have e79 := e8.trans e9
                      have hF9 := e79 _ _ hF8
                      by_cases hp : opB es rd ps c l = true
                      · rw [hp]
                        have hst := stepL_yes (fd := leastOf (opB es rd ps c) ((lotsN as).take i)) hp fun l0 r z => by
                          have h1 := hle l0 r z
                          have m := (least_is (p := opB es rd ps c) (take_so so i)).mem l0 (by rw [z]; exact List.mem_cons_self)
                          obtain ⟨k, hk⟩ := List.getElem?_of_mem m.1
                          have kl := (List.getElem?_eq_some_iff.mp hk).1
                          rw [List.length_take] at kl
                          rw [List.getElem?_take_of_lt (by omega)] at hk
                          have h2 := List.pairwise_iff_getElem.mp so k i (by omega) hi (by omega)
                          rw [(List.getElem?_eq_some_iff.mp hk).2, (List.getElem?_eq_some_iff.mp el).2] at h2
                          omega
                        rw [hst] at ts1
                        refine iteT ⟨_, rfl, .inl ⟨rfl, _, .inl (.inl hF9)⟩, _, rfl, F0, _, _, rfl, rfl, hF9, by rw [List.length_map]; exact small1000 (by omega), us ++ [ti], _, _, rfl, fun b o nb hb => by rw [upd_ne nb]; exact e79 _ _ (bt b o nb hb), by rw [upd_same, List.map_append]; rfl, ?_, by rw [List.length_append, List.length_singleton]; omega⟩
                        rw [ts1]
                        have up : ∀ b xs, H9 b = some (.tup xs) → upd H9 F0 (.lst (us.map V.ref ++ [.ref ti])) b = some (.tup xs) := fun b xs hb => by
                          rw [upd_ne (fun z => by rw [z, hF9] at hb; cases hb)]
                          exact hb
                        exact ((tU.same e79).mono up).append (.cons (up _ _ (e79 _ _ hl7)) .nil)
                      · rw [Bool.eq_false_iff.mpr hp]
                        rw [stepL_no (Bool.eq_false_iff.mpr hp)] at ts1
                        refine iteF ⟨us, _, _, rfl, fun b o nb hb => e79 _ _ (bt b o nb hb), hF9, ?_, by omega⟩
                        rw [ts1]
                        exact tU.same e79
                · obtain ⟨us, y5, y6, rfl, bt, hF7, tU, lu⟩ := pv
                  rw [List.length_map, tl, List.take_length] at tU
                  exact ⟨us, _, _, rfl, ext_but hFn e6 bt, tabs_but hF6 bt T6, hF7, tU⟩
        · obtain ⟨us, y5, y6, rfl, e5, T5, hF5, tU⟩ := hM
          refine ⟨_, rfl, F0, _, rfl, .inl ⟨.inl (.inl hF5), fun t nt => ?_⟩⟩
          have e6 := same_new (o := .tup (us.map V.ref)) (Same.refl H5) nt
          exact q _ t us (e5.trans (LamX.ExtN.of e6)) (T5.ext e6) upd_same (tU.same e6)
end
end K7
end
/-! ## E3 -/
section
namespace PySem
open PySem PySem.Spec PyProof.Rows
theorem k7_meets_enumerate_newT (l : Addr) (items : Array Value) (n : Nat) (dct : Option Addr) (sl : Array (Option Value)) :
    Meets (Builtin.«enumerate.__new__» ⟨[.type "enumerate", .ref l], []⟩) (fun _ R s => s.heap.get? l = some { cls := .type "tuple", dict := dct, data := .seq items n, slots := sl } ∧
      R (.ok (.ret (.ref (s.heap.push { cls := .type "tuple_iterator", data := .fields #[.ref l, .int 0 0] }).objs.size)))
        { s with heap := (s.heap.push { cls := .type "tuple_iterator", data := .fields #[.ref l, .int 0 0] }).push { cls := .type "enumerate", data := .fields #[.none, .bool false, .ref s.heap.objs.size, rawInt 0, .none, .none] } }) :=
  .of_wp fun prog w A R s h => by
    obtain ⟨hp, g, d, tk, os⟩ := s; obtain ⟨hl, h⟩ := h
    have hsub := sub_enumerate
    have hL : Heap.IsTuple (Shared.heap ⟨hp, g, d, tk, os⟩) l items := ⟨_, hl, rfl, n, rfl⟩
    wp_walk using AutoSeq1.wpAny_loadPart' hl
    refine wpAny_stack_any fun st => wpAny_pure ?_
    split
    · rename_i c _ _ _ _ _
      cases (c == Value.type "enumerate")
      · wp_walk using AutoSeq1.wpAny_loadPart' hl, wpAny_pyIter_tuple hL
        exact ⟨_, rfl, h⟩
      · wp_walk using AutoSeq1.wpAny_loadPart' hl, wpAny_pyIter_tuple hL
        exact ⟨_, rfl, h⟩
    · wp_walk using AutoSeq1.wpAny_loadPart' hl, wpAny_pyIter_tuple hL
      exact ⟨_, rfl, h⟩
theorem k7_call_enumerate_tuple {prog : Program} {w : World} {A : Around} {E : Value → Shared → Prop} {s : Shared} {l : Addr} {items : Array Value} {Q : Value → Shared → Prop} (hL : s.heap.IsTuple l items)
    (h : ∀ h', IsEnum h' (s.heap.objs.size + 1) s.heap.objs.size 0 .none → h'.IsTupleIter s.heap.objs.size l 0 → h'.objs.size = s.heap.objs.size + 2 →
      (∀ b o, s.heap.get? b = some o → h'.get? b = some o) → Q (.ref (s.heap.objs.size + 1)) { s with heap := h' }) :
    wpAny (model prog w) A (call (.type "enumerate") [.ref l]) Q E s := by
  obtain ⟨⟨c, dct, dt, sl⟩, hl, hc, n, hd⟩ := hL
  replace hc : c = .type "tuple" := hc
  replace hd : dt = .seq items n := hd
  subst hc hd
  refine callType_new F.called_enumerate (by decide) (F.typeCall_enumerate_1 _) (F.newCall_enumerate_1 _) (fun obj => F.args_object_init_2 obj _) F.entry_enumerate_new
    (k7_meets_enumerate_newT l items n dct sl) ⟨hl, ?_⟩
  have hz : (s.heap.push { cls := .type "tuple_iterator", data := .fields #[.ref l, .int 0 0] }).objs.size = s.heap.objs.size + 1 := Heap.size_push ..
  show _ ∧ _
  rw [hz]
  have he : IsEnum ((s.heap.push { cls := .type "tuple_iterator", data := .fields #[.ref l, .int 0 0] }).push
      { cls := .type "enumerate", data := .fields #[.none, .bool false, .ref s.heap.objs.size, rawInt 0, .none, .none] }) (s.heap.objs.size + 1) s.heap.objs.size 0 .none := by
    have := Heap.get?_push_size (s.heap.push { cls := .type "tuple_iterator", data := .fields #[.ref l, .int 0 0] })
      (o := { cls := .type "enumerate", data := .fields #[.none, .bool false, .ref s.heap.objs.size, rawInt 0, .none, .none] }) rfl
    rw [hz] at this; exact this
  refine ⟨⟨_, he, rfl⟩, h _ he ⟨_, Heap.get?_push_of_some _ (Heap.get?_push_size _ rfl), rfl, rfl⟩ (by rw [Heap.size_push, hz]) fun b o x => Heap.get?_push_of_some _ (Heap.get?_push_of_some _ x)⟩
end PySem
namespace K7E
open PySem PySem.Spec PyProof.Rows L2
/-- the tuple at a as it stands at each turn, each item in a new pair -/
def IteT (K : PySem.W.Frag) (a : Addr) : It :=
  ⟨fun i H => ∃ (xs : List V) (x : V), SqT K H a xs ∧ xs[i]? = some x, fun i H v H' => ∃ T x, v = .ref T ∧ H T = none ∧ H' = upd H T (.tup [.int (i : Nat), x]) ∧ ∀ xs, SqT K H a xs → xs[i]? = some x, fun i H => ∃ xs : List V, SqT K H a xs ∧ xs.length = i⟩
theorem tup_ne {h : Heap} {a it : Addr} {items : Array Value} {i : Nat} (p : h.IsTuple a items) (q : h.IsTupleIter it a i) : a ≠ it := by
  intro e
  subst e
  obtain ⟨o, ho, hc, _⟩ := p
  obtain ⟨o2, ho2, hc2, _⟩ := q
  rw [ho] at ho2
  cases ho2
  rw [hc] at hc2
  exact absurd (Value.type.inj hc2) (by decide)
theorem turn_enumT {P : Program} {w : World} {K : PySem.W.Frag} {elts : List Expr} {kk : Nat} {tpos : Pos} (a e it : Addr) :
    Turn P w K (.Tuple elts kk tpos) (IteT K a) [e, it] e (fun i h => (∃ old, IsEnum h e it ((i : Nat) : Int) old) ∧ h.IsTupleIter it a i ∧ e ≠ it) where
  mem := by simp
  obj := fun i h st b hb => by
    obtain ⟨⟨old, he⟩, ⟨o, ho, hc, hd⟩, _⟩ := st
    have e' : b = e ∨ b = it := by simpa using hb
    rcases e' with z | z
    · rw [z]; exact ⟨_, he, fun v q => nomatch q⟩
    · rw [z]; exact ⟨o, ho, fun v q => by rw [hd] at q; cases q⟩
  keep := fun i h h' st k => let ⟨⟨old, he⟩, hi, hne⟩ := st; ⟨⟨old, k e (by simp) _ he⟩, hi.at fun o q => k it (by simp) o q, hne⟩
  item := by
    intro X hP hw hK hc i pins s σ H E I hf st hg
    subst hP hw hK
    obtain ⟨⟨old, he⟩, hit, hne⟩ := st
    obtain ⟨xs, x, hq, hx⟩ := hg
    obtain ⟨its, rv, p, hz⟩ := I.tuple hq
    obtain ⟨u, hu, ru⟩ := rv.get hx
    have hel : e < s.heap.objs.size := Heap.lt_size he
    have hil : it < s.heap.objs.size := by obtain ⟨_, q, _⟩ := hit; exact Heap.lt_size q
    have hat : a ≠ it := tup_ne p hit
    have hae : e ≠ a := fun q => by
      subst q
      obtain ⟨o, ho, hc', _⟩ := p
      rw [show s.heap.get? e = _ from he] at ho
      cases ho
      exact absurd (Value.type.inj hc') (by decide)
    have hlt : i < its.toArray.size := by
      have := (List.getElem?_eq_some_iff.mp hu).1
      simpa using this
    refine wpAny_pyNext_enum_itemD (Draws.tuple (A := X.A.in1) (I.ok.hd hc) it a hat its.toArray) he ⟨hit, p⟩ hlt hne (by simp [hne, hae]) fun u' h' tk hP ho hit' hT hsz hk => ?_
    have eu : u' = u := by
      have h1 : its.toArray[i]? = some u := by simpa using hu
      exact Option.some.inj (hP.symm.trans h1)
    subst eu
    refine ⟨_, rfl, wpAny_letOwnedTupleGo_enum (s := { s with heap := h', toks := tk + 1 }) ho fun h'' he' sb => ?_⟩
    have hT2 : h''.get? s.heap.objs.size = some { cls := .type "tuple", data := .seq #[.int i tk, u'] } := (sb.2 _ (Nat.ne_of_gt hel)).trans hT
    have new : ObjOk X.prog X.w (upd H s.heap.objs.size (.tup [.int (i : Nat), x])) h'' s.heap.objs.size (.tup [.int (i : Nat), x]) :=
      ⟨by show 2 ≤ sizeLine; decide, [.int i tk, u'], .cons ⟨_, rfl⟩ (.cons ru .nil), ⟨_, hT2, rfl, _, rfl⟩⟩
    have I1 : Inv X pins σ (upd H s.heap.objs.size (.tup [.int (i : Nat), x])) { s with heap := h'', toks := tk + 1 } :=
      I.turnedNew (ch := [e, it]) (fun b ob hb q => (sb.2 b (fun z => hb (by simp [z]))).trans (hk b ob (fun z => hb (by simp [z])) (fun z => hb (by simp [z])) q)) hf (Nat.le_refl _) new
    refine ⟨.ref s.heap.objs.size, _, I1, rfl, ⟨_, x, rfl, I.hok.fresh (Nat.le_refl _), rfl, fun ys hy => by rw [I.tuple_inj hy hq]; exact hx⟩, ⟨⟨u', ?_⟩, hit'.1.at fun o q => (sb.2 it (Ne.symm hne)).trans q, hne⟩, fun b hb => ?_⟩
    · have e1 : ((i + 1 : Nat) : Int) = (i : Int) + 1 := by omega
      rw [e1]; exact he'
    · have hb' : b < s.heap.objs.size := by
        have e' : b = e ∨ b = it := by simpa using hb
        rcases e' with z | z
        · rw [z]; exact hel
        · rw [z]; exact hil
      rw [upd_ne (Nat.ne_of_lt hb')]
      exact (hf b hb).1
  done := by
    intro X hP hw hK hc i pins s σ H E I hf st hg
    subst hP hw hK
    obtain ⟨⟨old, he⟩, hit, hne⟩ := st
    obtain ⟨xs, hq, hx⟩ := hg
    obtain ⟨its, rv, p, hz⟩ := I.tuple hq
    obtain ⟨f0, f1, f2, f3, f4, f5⟩ := hf it (by simp)
    have hl := rv.length
    have hat : a ≠ it := tup_ne p hit
    have en : its.toArray.size = i := by simp; omega
    exact wpAny_pyNext_enum_endD (Draws.tuple (A := X.A.in1) (I.ok.hd hc) it a hat its.toArray) he ⟨by rw [en]; exact hit, p⟩ fun h' eb => ⟨rfl, I.turned (t' := s.toks) (fun b o hb q => eb b o hb q) f0 f1 f3 f4 f5⟩
  self := fun A i s Q E st h => let ⟨⟨_, he⟩, _⟩ := st; wpAny_pyIter_enum he h
def iEnumT (K : PySem.W.Frag) (ta : TA) : TI := fun σ H R => ta σ H fun vs H1 => ∃ a xs, vs = [.ref a] ∧ SqT K H1 a xs ∧ R (IteT K a) H1
theorem pi_enumT {X : Cx} {e : Expr} {ta : TA} {p pos tpos : Pos} {elts : List Expr} {kk : Nat} (hg : Gl X "enumerate") (hm : X.mg "enumerate" = none) (ha : PA X [e] ta) (hs : starEach [e] X.env = [(false, eval e X.env)] := by rfl) :
    PI X (.Tuple elts kk tpos) (.Call (.Name "enumerate" p) [e] [] pos) (iEnumT X.K ta) := by
  refine ⟨fun pins s σ H R I h => ?_⟩
  refine Call_ (ld_blt I hg hm boot_enumerate (PyProof.Rows.callWith_type1 (thn (ha.run pos pins s σ H _ I h) fun us s1 ⟨vs, H1, I1, r1, q1⟩ => ?_) hs rfl))
  obtain ⟨a, xs, ex, hq, q⟩ := q1
  subst ex
  cases r1 with
  | cons r rr =>
    cases rr
    cases r
    obtain ⟨its, rv, p', hz⟩ := I1.tuple hq
    refine k7_call_enumerate_tuple p' fun h' he hit hsz hk => wpAny_pyIter_enum he ?_
    have I2 : Inv X pins σ H1 { s1 with heap := h' } := I1.kept (t' := s1.toks) hk
    refine ⟨s1.heap.objs.size + 1, [s1.heap.objs.size + 1, s1.heap.objs.size], _, _, H1, rfl, I2, turn_enumT a (s1.heap.objs.size + 1) s1.heap.objs.size, ⟨⟨.none, he⟩, hit, Nat.succ_ne_self _⟩, fun b hb => ?_, q⟩
    have e' : b = s1.heap.objs.size + 1 ∨ b = s1.heap.objs.size := by simpa using hb
    have hle : s1.heap.objs.size ≤ b := by
      rcases e' with z | z
      · rw [z]; exact Nat.le_add_right _ _
      · rw [z]; exact Nat.le_refl _
    exact I1.fpOk hle (I1.hok.fresh hle)
theorem walk_enumT {K : PySem.W.Frag} {a : Addr} {xs : List V} : Walk (IteT K a) xs.length (fun H => SqT K H a xs) (YPair (fun i => some (.int (i : Nat))) (fun i => xs[i]?)) :=
  ⟨fun i H hi hq => ⟨xs, _, hq, List.getElem?_eq_getElem hi⟩, fun H hq => ⟨xs, hq, rfl⟩, fun i H v H' hi hq hy => by
    obtain ⟨T, x, rfl, nT, rfl, f⟩ := hy
    exact ⟨T, _, x, rfl, nT, rfl, rfl, f _ hq⟩⟩
end K7E
end
/-! ## EX -/
section
namespace K7E
open PySem PySem.Spec PyProof.Rows L2
/-! a call under try: what it lets out is asked for where it stands -/
section
variable {X : Cx} {W : WX} {k : Nat} {f C : Addr} {fd : FuncData} {ps : List Str} {sp : Sp} {dvs : List V} {ds : List Value} {x m : Str} {p pos apos : Pos} {e o : Expr} {es : List Expr} {ta : TE} {t : TA}
theorem run_fnW {pins : List (Addr × Obj)} {σ : L2.St} {H : Hp} {s : Shared} {Q : VK} {us : List Value} {vs : List V} (F : FnOk X.prog X.w X.K X.mg X.base (L2.CX X.prog X.w) k f fd ps sp) (hr : Room k X.A) (hb : Binds X.K fd ps ds) (hd : Vals dvs ds) (tk : Takes X W)
    (I : Inv X pins σ H s) (r : Vals vs us) (h : sp (vs ++ dvs) H Q (fun cls d H' => W cls d σ H')) : wpAny (model X.prog X.w) X.A (call (.ref f) us) (EP X pins σ Q) X.xe s := by
  have r2 : Vals (vs ++ dvs) (us ++ ds) := r.append hd
  have hl : (us ++ ds).length = ps.length := by rw [← r2.length]; exact F.len _ _ _ _ h
  refine wpAny_call (codeAny_mono (F.run X.A X.stack s H ⟨us, []⟩ (us ++ ds) (vs ++ dvs) Q _ hr I.env0 (hb s us I.kIn hl) r2 h) fun r s' hq => ?_)
  cases r with
  | error e => exact tk e s' (XE.of_call (E := fun cls d H' => W cls d σ H') I (fun cls d H' h => h) hq)
  | ok fl =>
    cases fl with
    | ret u => exact I.after hq
    | next => exact False.elim hq
    | brk => exact False.elim hq
    | cont => exact False.elim hq
theorem pe_callW (F : FnOk X.prog X.w X.K X.mg X.base (L2.CX X.prog X.w) k f fd ps sp) (hr : Room k X.A) (hg : Gl X x) (hm : X.mg x = some (.ref f)) (hk : PySem.W.keepIn X.K (.ref f) = true) (hb : Binds X.K fd ps ds) (hd : Vals dvs ds) (tk : Takes X W)
    (ha : PA X (e :: es) t) (hdb : (x == ("__debug__" : Str)) = false := by decide) (he : starEach (e :: es) X.env = (false, eval e X.env) :: starEach es X.env := by rfl) (hpl : (backTo pos (starEach es X.env)).any (·.1) = false := by rfl) :
    PE X (.Call (.Name x p) (e :: es) [] pos) (fun σ H Q => t σ H fun vs H1 => sp (vs ++ dvs) H1 Q (fun cls d H' => W cls d σ H')) := by
  refine ⟨fun pins s σ H Q I h => ?_⟩
  refine wpAny_Call_Name_kw (ld_glob I hg hm ?_ hdb)
  refine PySem.W.callWith_K (h₀ := X.base) I.ok.mod.kin hk (thn (ha.run pos pins s σ H _ I h) fun us s1 ⟨vs, H1, I1, r, q⟩ => ⟨I1.kIn, ?_⟩) he hpl
  exact run_fnW F hr hb hd tk I1 r q
theorem pe_methW {pl : Sem Bool} (he : PE X o ta) (c : Cls X.K C) (hm : Meth X.K C m f) (F : FnOk X.prog X.w X.K X.mg X.base (L2.CX X.prog X.w) k f fd ps sp) (hr : Room k X.A) (hb : Binds X.K fd ps ds) (hd : Vals dvs ds) (tk : Takes X W) (ha : PA X (e :: es) t)
    (hst : starEach (e :: es) X.env = (false, eval e X.env) :: starEach es X.env := by rfl) (hpl : (backTo pos (starEach es X.env)).any (·.1) = false := by rfl)
    (ht : eval (.Call (.Attribute o m apos) (e :: es) [] pos) X.env = (do
      let ov ← eval o X.env
      standAt apos.atName
      let (f, first) ← holding [ov] (getMethod ov m pl)
      callWith pos f first (backTo pos (starEach (e :: es) X.env)) (backToKw pos (keywordEach [] X.env))) := by rfl) :
    PE X (.Call (.Attribute o m apos) (e :: es) [] pos) (fun σ H Q => ta σ H fun x H1 => ∃ a dx fs, x = .ref a ∧ H1 a = some (.ins C dx fs) ∧ fs.lookup m = none ∧
      t σ H1 fun vs H2 => sp (x :: (vs ++ dvs)) H2 Q (fun cls d H' => W cls d σ H')) := by
  refine ⟨fun pins s σ H Q I h => ?_⟩
  refine PySem.W.methodCall_KW (pl := pl) (thn (he.run pins s σ H _ I h) fun u s1 ⟨x, H1, I1, rx, a, dx, fs, ex, ea, l, q⟩ => ?_) ht
  subst ex
  obtain rfl : u = Value.ref a := rx
  refine getmeth_ok I1 ea c hm l ?_
  refine PySem.W.callWith_K (first := [.ref a]) (h₀ := X.base) I.ok.mod.kin hm.kp (thn (ha.run pos pins s1 σ H1 _ I1 q) fun us s2 ⟨vs, H2, I2, r, q2⟩ => ⟨I2.kIn, ?_⟩) hst hpl
  exact run_fnW (us := .ref a :: us) (vs := .ref a :: vs) F hr hb hd tk I2 (.cons rfl r) q2
end
/-! ### isinstance(e, c), e the exception that the suite holds, with fields of its own -/
section
variable {X : Cx}
theorem call_isEd {a D d : Addr} {oe : Obj} {pn : List (Addr × Obj)} (C : ExcC X.K D) (hz : Zc (.ref D) (some d) oe) (hf : ∃ vs, oe.data = .fields vs) : CallR (X.suite a ((a, oe) :: pn)) (.builtin "isinstance") (fun xs H Q => ∃ (c : V) (cv : Value) (b : Bool) (fs : List (Str × V)), xs = [.ref a, c] ∧ (∀ u, RelV c u → u = cv) ∧ PySem.W.kitOne X.K (.ref D) cv = some b ∧ H d = some (.xd fs) ∧ Q (.bl b) H) := by
  intro pins s σ H xs us Q I r h
  obtain ⟨c, cv, b, fs, rfl, hcv, e, hd, q⟩ := h
  cases r with
  | cons rx rr =>
    cases rr with
    | cons rt rr =>
      cases rr
      cases rx
      have ec := hcv _ rt
      subst ec
      obtain ⟨hget, _⟩ := I.pin (a, oe) (List.mem_append.mpr (.inl List.mem_cons_self))
      obtain ⟨vs, hv⟩ := hf
      have hx : ObjOk X.prog X.w H s.heap d (.xd fs) := I.hok d _ hd
      obtain ⟨mA, hns, hrr⟩ := hx
      obtain ⟨od, ho, hl⟩ := lookIn_ns hns
      have J : PySem.W.InstAt s.heap a oe D (some od) := ⟨hget, hz.1, by unfold PySem.W.notCls; rw [hv] <;> rfl, by rw [hz.2]; exact ho⟩
      obtain ⟨cd, hcc, _⟩ := PySem.W.any_some C.hd
      exact PySem.W.kia_one (PySem.W.kitx_exc (gt := none) (by rw [hcc]; rfl) C.hg C.hk C.hs C.ha C.hn C.ht C.hm) I.kIn J e (fun z => nomatch z) fun tk => ⟨.bl b, H, I.kept (t' := tk) fun _ _ z => z, rfl, q⟩
end
theorem call_isEdX {X : Cx} {a D : Addr} {cls : Value} {d : Option Addr} {oe : Obj} {pn : List (Addr × Obj)} (C : ExcC X.K D) (hz : Zc cls d oe) (hf : ∃ vs, oe.data = .fields vs) : CallR (X.suite a ((a, oe) :: pn)) (.builtin "isinstance") (fun xs H Q => cls = .ref D ∧ ∃ dd, d = some dd ∧ ∃ (c : V) (cv : Value) (b : Bool) (fs : List (Str × V)), xs = [.ref a, c] ∧ (∀ u, RelV c u → u = cv) ∧ PySem.W.kitOne X.K (.ref D) cv = some b ∧ H dd = some (.xd fs) ∧ Q (.bl b) H) := by
  intro pins s σ H xs us Q I r h
  obtain ⟨rfl, dd, rfl, h⟩ := h
  exact call_isEd C hz hf pins s σ H xs us Q I r h
/-! repr of a plain thing -/
def reprV : V → Str
  | .non => "None"
  | .bl b => if b then "True" else "False"
  | .int i => toString i
  | .str z => reprText z
  | _ => ""
def reprOk : V → Prop
  | .non => True
  | .bl b => True
  | .int i => i.natAbs.log2 < 1920
  | .str z => (reprText z).length ≤ sizeLine
  | _ => False
theorem call_reprF {X : Cx} : CallR X (.builtin "repr") (fun xs H Q => ∃ v, xs = [v] ∧ reprOk v ∧ Q (.str (reprV v)) H) := by
  intro pins s σ H xs us Q I r h
  obtain ⟨v, rfl, hz, q⟩ := h
  obtain ⟨u, rfl, ru⟩ := r.one
  cases v with
  | non => cases ru; exact PySem.P.repr_of_none ⟨.str _, H, I.tok _, ⟨_, rfl⟩, q⟩
  | bl b => cases ru; exact PySem.P.repr_of_bool ⟨.str _, H, I.tok _, ⟨_, rfl⟩, q⟩
  | int i => obtain ⟨t, rfl⟩ := ru; exact PySem.P.repr_of_int hz ⟨.str _, H, I.tok _, ⟨_, rfl⟩, q⟩
  | str z => obtain ⟨t, rfl⟩ := ru; exact PySem.P.repr_of_str ⟨.str _, H, I.tok _, ⟨_, rfl⟩, q⟩ hz
  | _ => exact hz.elim
end K7E
end
/-! ## KG -/
section
/-! ## promises kept where no repr is under way -/
namespace K7E
open PySem PySem.Spec PyProof.Rows L2
structure FnG (P : Program) (w : World) (K : PySem.W.Frag) (mg : Str → Option Value) (base : Heap) (CX : CXT) (k : Nat) (f : Addr) (fd : FuncData) (ps : List Str) (sp : Sp) : Prop where
  len : ∀ vs H Q E, sp vs H Q E → vs.length = ps.length
  run : ∀ (A : Around) (outer : List Env) (s : Shared) (H : Hp) (args : Args) (us : List Value) (vs : List V) (Q : VK) (E : XK), A.guards = some [] → Room k A → Env0 P w K mg base A outer s H → BindsTo s fd args (ps.zip us) → Vals vs us → sp vs H Q E →
    codeAny (model P w) A (.call (.ref f) args) (CR CX outer P w H s Q E) s
theorem fn_ofG {CX : CXT} {P : Program} {w : World} {K : PySem.W.Frag} {mg : Str → Option Value} {base : Heap} {k : Nat} {f : Addr} {name qual : Str} {params : Arguments} {body : List Stmt} {scope : Scope} {dV kV doc pm cdv ct oc : Value} {an od : Option Addr} {osl : Array (Option Value)} {N ps : List Str} {sp : Sp}
    (lk : K.lookup f = some ⟨oc, od, .func (PySem.W.fnOf name qual params body scope dV kV doc pm an cdv ct), osl⟩) (hcd : PySem.W.codeIn K cdv qual = true) (S : FnScope N ps scope) (len : ∀ vs H Q E, sp vs H Q E → vs.length = ps.length)
    (hbody : ∀ (A : Around) (outer : List Env) (s : Shared) (H : Hp) (vs : List V) (Q : VK) (E : XK), A.guards = some [] → Room k (A.deeper (envOfC qual scope s.heap.objs.size f cdv)) → sp vs H Q E → ∃ t, PSs (cxOf CX P w K mg base N qual scope f cdv A outer s H E) body t ∧ t ⟨fun _ H' => Q .non H', Q, fun _ _ => False, fun _ _ => False⟩ (L2.start N vs) H) :
    FnG P w K mg base CX (k + 1) f (PySem.W.fnOf name qual params body scope dV kV doc pm an cdv ct) ps sp := by
  refine ⟨len, fun A outer s H args us vs Q E gA hr e0 hbd rv hsp => ?_⟩
  have lenV := len vs H Q E hsp
  have inS : K.In s.heap := PySem.W.Frag.In.keeps e0.mod.kin fun b o e => (e0.bs b o e).1
  have noL : s.heap.NoLimit := Heap.NoLimit.keeps e0.mod.nolimit fun b o e => (e0.bs b o e).1
  have kinds : ∀ x : Str × Value, x ∈ ps.zip us → List.lookup x.1 scope.names = some .local ∨ (List.lookup x.1 scope.names = some .cell ∧ (List.lookup x.1 (cellsFrom (s.heap.objs.size + 1) scope.names [])).isSome = true) := by
    rintro ⟨n, v⟩ hy
    rcases S.par n (List.of_mem_zip hy).1 with c | c
    · exact .inl c
    · exact .inr ⟨c, PySem.W.cellsFrom_some scope.names (s.heap.objs.size + 1) [] (.inl c)⟩
  refine codeAny_call_function hr.depth (inS f _ lk) rfl S.co S.gen rfl (PySem.W.codeRec_of inS hcd) (hbd (model P w) A.in1 _ _ (wpAny_newFunctionEnv_cells S.kind kinds fun env he s1 x => ?_))
  subst he
  refine ⟨Heap.NoLimit.keeps noL x.toInCall.keep, codeAny_func ?_⟩
  obtain ⟨t, ht, hq⟩ := hbody A outer s H vs Q E gA (hr.deeper _) hsp
  have I := inv_start (CX := CX) (E := E) S hr.hd e0 lenV rv x
  refine wpAny_mono (ht.run [] s1 (L2.start N vs) H _ I hq) (fun fl s' hs => ?_) fun e s' hs => hs
  cases fl with
  | next =>
    obtain ⟨σ', H', J, q⟩ := hs
    exact ⟨.non, H', J.os, J.bare, J.base, J.hok, (show RelV .non Value.none from rfl), q⟩
  | ret u =>
    obtain ⟨v, σ', H', J, ru, q⟩ := hs
    exact ⟨v, H', J.os, J.bare, J.base, J.hok, ru, q⟩
  | _ =>
    obtain ⟨_, _, _, q⟩ := hs
    exact q.elim
theorem okG {P : Program} {w : World} {K : PySem.W.Frag} {mg : Str → Option Value} {base : Heap} {x qual : Str} {st : Stmt} {f : Addr} {fd : FuncData} {N ps : List Str} {k : Nat} {sp : Sp} (F : Fun K x qual st f fd) (S : FnScope N ps (defScope st)) (len : ∀ vs H Q E, sp vs H Q E → vs.length = ps.length)
    (hbody : ∀ (cdv : Value) (A : Around) (outer : List Env) (s : Shared) (H : Hp) (vs : List V) (Q : VK) (E : XK), A.guards = some [] → Room k (A.deeper (envOfC qual (defScope st) s.heap.objs.size f cdv)) → sp vs H Q E → ∃ t, PSs (cxOf CX0 P w K mg base N qual (defScope st) f cdv A outer s H E).nox (defBody st) t ∧ t ⟨fun _ H' => Q .non H', Q, fun _ _ => False, fun _ _ => False⟩ (L2.start N vs) H) : FnG P w K mg base CX0 (k + 1) f fd ps sp := by
  obtain ⟨oc, od, kV, doc, pm, an, cdv, ct, osl, rfl, lk, hcd⟩ := F.ex
  refine fn_ofG lk hcd S len fun A outer s H vs Q E g hr hsp => ?_
  obtain ⟨t, h, q⟩ := hbody cdv A outer s H vs Q E g hr hsp
  exact ⟨t, h.nox, q⟩
theorem ofOk {P : Program} {w : World} {K : PySem.W.Frag} {mg : Str → Option Value} {base : Heap} {CX : CXT} {k : Nat} {f : Addr} {fd : FuncData} {ps : List Str} {sp : Sp} (F : FnOk P w K mg base CX k f fd ps sp) : FnG P w K mg base CX k f fd ps sp :=
  ⟨F.len, fun A outer s H args us vs Q E _ hr e0 hb r h => F.run A outer s H args us vs Q E hr e0 hb r h⟩
section
variable {X : Cx} {CX : CXT} {k : Nat} {f : Addr} {fd : FuncData} {ps : List Str} {sp : Sp} {dvs : List V} {ds : List Value} {E : XK} {x : Str} {e : Expr} {es : List Expr} {t : TA} {p pos : Pos}
theorem run_fnG {pins : List (Addr × Obj)} {σ : L2.St} {H : Hp} {s : Shared} {Q : VK} {us : List Value} {vs : List V} (gA : X.A.guards = some []) (F : FnG X.prog X.w X.K X.mg X.base CX k f fd ps sp) (hr : Room k X.A) (hb : Binds X.K fd ps ds) (hd : Vals dvs ds) (hx : Passes CX X E) (I : L2.Inv X pins σ H s) (r : Vals vs us) (h : sp (vs ++ dvs) H Q E) :
    wpAny (model X.prog X.w) X.A (call (.ref f) us) (EP X pins σ Q) X.xe s := by
  have r2 := Vals.append r hd
  have hl : (us ++ ds).length = ps.length := by rw [← r2.length]; exact F.len _ _ _ _ h
  refine wpAny_call (codeAny_mono (F.run X.A X.stack s H ⟨us, []⟩ (us ++ ds) (vs ++ dvs) Q E gA hr I.env0 (hb s us I.kIn hl) r2 h) fun r' s' hq => ?_)
  cases r' with
  | error e => exact hx pins σ H s e s' I hq
  | ok fl =>
    cases fl with
    | ret v => exact I.after hq
    | _ => exact hq.elim
/-- x(e, ..) by such a promise -/
theorem pe_callG (gA : X.A.guards = some []) (F : FnG X.prog X.w X.K X.mg X.base CX k f fd ps sp) (hr : Room k X.A) (hg : Gl X x) (hm : X.mg x = some (.ref f)) (hk : PySem.W.keepIn X.K (.ref f) = true) (hb : Binds X.K fd ps ds) (hd : Vals dvs ds) (hx : Passes CX X E) (ha : PA X (e :: es) t) (hdb : (x == ("__debug__" : Str)) = false := by decide)
    (h1 : starEach (e :: es) X.env = (false, eval e X.env) :: starEach es X.env := by rfl) (h2 : (backTo pos (starEach es X.env)).any (·.1) = false := by rfl) : PE X (.Call (.Name x p) (e :: es) [] pos) (tCall sp dvs E t) :=
  ⟨fun pins s τ H Q I h => wpAny_Call_Name_kw (ld_glob I hg hm (PySem.W.callWith_K (h₀ := X.base) I.ok.mod.kin hk (thn (ha.run pos pins s τ H (fun vs H1 => sp (vs ++ dvs) H1 Q E) I h) fun us s1 ⟨vs, H1, I1, r, q⟩ => ⟨I1.kIn, run_fnG gA F hr hb hd hx I1 r q⟩) h1 h2) hdb)⟩
end
/-- repr of nested data -/
theorem call_reprG {X : Cx} (gA : X.A.guards = some []) (hu : X.A.units + 64 < cLine) : CallR X (.builtin "repr") (fun xs H Q => ∃ a d, xs = [.ref a] ∧ Dp X.K H (.ref a) d ∧ d.showable = true ∧ d.hasDict = false ∧ d.depth ≤ 32 ∧ d.shown.length ≤ sizeLine ∧ Q (.str d.shown) H) := by
  intro pins s σ H xs us Q I r h
  obtain ⟨a, d, rfl, dp, sh, nd, de, hl, q⟩ := h
  obtain ⟨u, rfl, ru⟩ := r.one
  cases (show u = Value.ref a from ru)
  obtain ⟨as, rd⟩ := Dp.reads I d (.ref a) (.ref a) dp rfl
  refine repr_of_reads' rd sh (fun z => by rw [nd] at z; cases z) gA (by omega) (fun b o e => e) (fun h' u tk keep => ?_) hl
  exact ⟨.str _, H, I.kept keep, ⟨_, rfl⟩, q⟩
/-- what repr shows of a value -/
inductive Rpr (K : PySem.W.Frag) (H : Hp) : V → Str → Prop where
  | flat {v : V} (h : reprOk v) : Rpr K H v (reprV v)
  | dat {a : Addr} {d : PyData} (h : Dp K H (.ref a) d) (sh : d.showable = true) (nd : d.hasDict = false) (de : d.depth ≤ 32) (hl : d.shown.length ≤ sizeLine) : Rpr K H (.ref a) d.shown
  | emp {a : Addr} (h : H a = some (.dK [])) : Rpr K H (.ref a) (PyData.dict []).shown
theorem call_repr {X : Cx} (gA : X.A.guards = some []) (hu : X.A.units + 64 < cLine) : CallR X (.builtin "repr") (fun xs H Q => ∃ v z, xs = [v] ∧ Rpr X.K H v z ∧ Q (.str z) H) := by
  intro pins s σ H xs us Q I r h
  obtain ⟨v, z, rfl, rp, q⟩ := h
  cases rp with
  | flat h => exact call_reprF pins s σ H _ us Q I r ⟨v, rfl, h, q⟩
  | dat h sh nd de hl => exact call_reprG gA hu pins s σ H _ us Q I r ⟨_, _, rfl, h, sh, nd, de, hl, q⟩
  | @emp a h =>
    obtain ⟨u, rfl, ru⟩ := r.one
    cases (show u = Value.ref a from ru)
    obtain ⟨_, ns, vs, kv, o, es, ep, g, ex, dd, ko, prs, nd⟩ := I.hok a _ h
    have hv : vs = [] := by cases kv; rfl
    subst hv
    have he : es.toList = [] := by
      cases hE : es.toList with
      | nil => rfl
      | cons e l =>
        rw [hE] at prs
        cases prs
    have rd : Reads s.heap (.ref a) (.dict []) (a :: [] ++ []) := .dict (as := []) (bs := []) g ex.1 dd (by rw [he]; exact .nil) (by rw [he]; exact .nil)
    have dp : PyData.depth (.dict []) ≤ 1 := by decide
    refine repr_of_reads' rd (by decide) (fun _ m => ?_) gA (by omega) (fun b o e => e) (fun h' u tk keep => ?_) (by decide)
    · simp only [List.append_nil, List.mem_singleton] at m
      rw [← m] at ns
      simp at ns
    · exact ⟨.str _, H, I.kept keep, ⟨_, rfl⟩, q⟩
theorem call_reprS {X : Cx} {b : Addr} {pn : List (Addr × Obj)} (gA : X.A.guards = some []) (hu : X.A.units + 64 < cLine) : CallR (X.suite b pn) (.builtin "repr") (fun xs H Q => ∃ v z, xs = [v] ∧ Rpr X.K H v z ∧ Q (.str z) H) := call_repr (X := X.suite b pn) gA hu
/-! ## a law's own call -/
theorem law_callG {P : Program} {w : World} {K : PySem.W.Frag} {mg mb : Str → Option Value} {CX : CXT} {k : Nat} {fa a : Addr} {fd : FuncData} {x : Str} {sp : Sp} {s₁ : Shared} {vs : List Value} {ns : List Int}
    (inS : K.In s₁.heap) (hns : s₁.heap.Ns mainGlobals mg) (hb : s₁.heap.Ns builtinsNs mb) (hbb : ∀ x : Str, x ≠ "__name__" → mb x = bootBuiltins x) (hlim : s₁.heap.NoLimit) (hg : s₁.gens = #[]) (ha : s₁.heap.get? a = some { cls := .type "list", data := .seq vs.toArray }) (hi : IntsAre vs ns) (hl : ns.length ≤ sizeLine) (hr : Room k callerA)
    (F : ∀ base : Heap, K.In base → base.Ns mainGlobals mg → FnG P w K mg base CX k fa fd [x] sp) (hbind : ∀ (s : Shared) (u : Value), BindsTo s fd ⟨[u], []⟩ [(x, u)])
    (hsp : ∀ H, Only H → SqL K H a (ns.map V.int) → sp [.ref a] H (fun v _ => v = .bl true) (fun _ _ _ => False)) (hCX : ∀ H e s', CX [] H s₁ (fun _ _ _ => False) e s' → False) :
    codeAny (model P w) callerA (.call (.ref fa) ⟨[.ref a], []⟩) (fun r s' => r = .ok (.ret (.bool true)) ∧ OldK s₁.heap s'.heap ∧ s'.os = s₁.os ∧ AllBare s'.gens) s₁ := by
  have rv := vals_ints hi
  have lenV : vs.length = ns.length := hi.length
  have core : ∀ H : Hp, Only H → SqL K H a (ns.map V.int) → HOk P w H s₁.heap → (∀ b, H b ≠ none → b = a) → (H a ≠ none → K.lookup a = none) →
      codeAny (model P w) callerA (.call (.ref fa) ⟨[.ref a], []⟩) (fun r s' => r = .ok (.ret (.bool true)) ∧ OldK s₁.heap s'.heap ∧ s'.os = s₁.os ∧ AllBare s'.gens) s₁ := by
    intro H hO hS hok only hK
    have other : ∀ {b : Addr} {u : HO}, H b = some u → b = a := fun {b u} q => only b (by rw [q]; exact Option.some_ne_none u)
    have noD : ∀ {b : Addr} {o : Obj} {es ep}, s₁.heap.get? b = some o → o.data = .dict es ep → H b = none := by
      intro b o es ep e d
      cases q : H b with
      | none => rfl
      | some u =>
        obtain rfl := other q
        rw [ha] at e
        cases e
        cases d
    have nsH : ∀ {b : Addr} {m : Str → Option Value}, s₁.heap.Ns b m → (hidT s₁.heap H).Ns b m := by
      rintro b m ⟨o, es, ep, e, d, r⟩
      exact ⟨o, es, ep, hidT_get e (noD e d), d, r⟩
    have inH : K.In (hidT s₁.heap H) := by
      intro b o e
      refine hidT_get (inS b o e) ?_
      cases q : H b with
      | none => rfl
      | some u =>
        obtain rfl := other q
        have z := hK (by rw [q]; exact Option.some_ne_none u)
        rw [z] at e
        cases e
    have md : L2.Mod K mg (hidT s₁.heap H) := ⟨inH, nsH hns, ⟨mb, nsH hb, hbb⟩, by
      obtain ⟨mc, h1, h2⟩ := hlim
      exact ⟨mc, nsH h1, h2⟩⟩
    have e0 : Env0 P w K mg (hidT s₁.heap H) callerA [] s₁ H := { frames := rfl, mod := md, bs := fun b o e => of_hidT e, bsz := Nat.le_of_eq (hidT_size s₁.heap H), funs := trivial, frf := fun b hb => absurd hb List.not_mem_nil, hok := hok, bare := AllBare.of_eq hg }
    refine codeAny_mono ((F (hidT s₁.heap H) inH (nsH hns)).run callerA [] s₁ H ⟨[.ref a], []⟩ [.ref a] [.ref a] (fun v _ => v = .bl true) (fun _ _ _ => False) rfl hr e0 (hbind s₁ _) (.cons rfl .nil) (hsp H hO hS)) fun r s' h => ?_
    cases r with
    | error e => exact (hCX H e s' h).elim
    | ok fl =>
      cases fl with
      | ret u =>
        obtain ⟨v, H', os, bare, un, hok', rr, rfl⟩ := h
        cases (show u = Value.bool true from rr)
        refine ⟨rfl, OldK.of_keep fun b o e => ?_, os, bare⟩
        cases q : H b with
        | none => exact un.keep b o e q (fun z => absurd z List.not_mem_nil) (fun z => absurd z List.not_mem_nil)
        | some u =>
          rcases hO b with z | ⟨ob, xs, z⟩
          · rw [q] at z
            cases z
          · have h1 : s₁.heap.get? b = some ob := (hok b _ z).1
            have h2 : s'.heap.get? b = some ob := (hok' b _ (un.frzs b ob _ z)).1
            rw [h2, ← h1, e]
      | _ => exact h.elim
  cases hk : K.lookup a with
  | none =>
    refine core (fun b => if b = a then some (.frz { cls := .type "list", data := .seq vs.toArray } (.lst (ns.map V.int))) else none) (fun b => ?_) (.inl (.inr ⟨_, if_pos rfl⟩)) (fun b u z => ?_) (fun b z => ?_) (fun _ => hk)
    · by_cases e : b = a
      · exact .inr ⟨_, _, if_pos e⟩
      · exact .inl (if_neg e)
    · by_cases e : b = a
      · subst e
        have z' := (if_pos rfl).symm.trans z
        cases z'
        exact ⟨ha, by rw [List.length_map]; exact hl, vs, 0, rv, ha⟩
      · have z' := (if_neg e).symm.trans z
        cases z'
    · by_cases e : b = a
      · exact e
      · exact absurd (if_neg e) z
  | some o =>
    have e := inS a o hk
    rw [ha] at e
    cases e
    exact core (fun _ => none) (fun _ => .inl rfl) (.inr ⟨_, vs.toArray, 0, hk, rfl, rfl, rfl, by rw [List.size_toArray, lenV]; exact hl, rv⟩) (fun b u z => nomatch z) (fun b z => absurd rfl z) (fun z => absurd rfl z)
end K7E
end
/-! ## KS -/
section
namespace K7E
open PySem PySem.Spec PyProof.Rows L2
theorem ts_pos {i : Int} (h0 : 0 ≤ i) : 0 < (Str.ofString (toString i)).length := by
  rw [PySem.ofString_length]
  obtain ⟨n, rfl⟩ : ∃ n : Nat, i = (n : Int) := ⟨i.toNat, by omega⟩
  refine Nat.pos_of_ne_zero fun e => ?_
  have e2 : toString ((n : Nat) : Int) = Nat.repr n := rfl
  rw [e2] at e
  exact Nat.repr_ne_empty (String.length_eq_zero_iff.mp e)
theorem strOk_of (s : String) : PyData.strOk (Str.ofString s) = true := by
  unfold PyData.strOk
  rw [Str.ofString_eq_toList]
  simp only [List.all_toArray, List.all_map, List.all_eq_true]
  intro c _
  have := c.valid
  simp only [Function.comp, decide_eq_true_eq]
  show c.val.toNat < 0x110000
  rcases this with h | ⟨_, h⟩
  · exact Nat.lt_trans h (by decide)
  · exact h
theorem strOk_app (a b : Str) (ha : PyData.strOk a = true) (hb : PyData.strOk b = true) : PyData.strOk (a ++ b) = true := by
  unfold PyData.strOk at *
  rw [Str.cps_append, Array.all_append, ha, hb]
  rfl
theorem longer_ne {a b c : Str} (h : c.length < a.length + b.length) : a ++ b ≠ c := fun e => by
  have := congrArg Str.length e
  rw [Str.length_append] at this
  omega
theorem eqv_str_ne {x y : Str} (h : x ≠ y) : PyData.eqv (.str x) (.str y) = false := by
  simp [PyData.eqv, h]
theorem log_ok {i : Int} (h0 : 0 ≤ i) (h1 : i < 10 ^ 30) : i.natAbs.log2 < 1920 := by
  rcases Nat.eq_zero_or_pos i.natAbs with z | z
  · rw [z]; decide
  · have : i.natAbs < 2 ^ 1920 := Nat.lt_of_lt_of_le (m := 10 ^ 30) (by omega) (by decide +kernel)
    exact (Nat.log2_lt (by omega)).mpr this
theorem short_ok {i : Int} (h0 : 0 ≤ i) (h1 : i < 10 ^ 30) : ("bound" : Str).length + (Str.ofString (toString i)).length ≤ sizeLine := by
  have h : (Str.ofString (toString i)).length ≤ 30 := by
    rw [PySem.ofString_length]
    obtain ⟨n, rfl⟩ : ∃ n : Nat, i = (n : Int) := ⟨i.toNat, by omega⟩
    show (Nat.repr n).length ≤ 30
    exact (Nat.length_repr_le_iff (by decide)).mpr (by omega)
  have h5 : ("bound" : Str).length = 5 := by decide +kernel
  have hs : (35 : Nat) ≤ sizeLine := by decide
  omega
end K7E
end
/-! ## OB -/
section
open PySem PySem.Spec PyProof.Rows L2
namespace K7
theorem notHand_refs : ∀ ts : List Addr, notHand (ts.map V.ref) = true
  | [] => rfl
  | [_] => rfl
  | [_, _] => rfl
  | [_, _, _] => rfl
  | [_, _, _, _] => rfl
  | _ :: _ :: _ :: _ :: _ :: _ => by rfl
theorem notHand_ints : ∀ ts : List Nat, notHand (ints_ ts) = true
  | [] => rfl
  | [_] => rfl
  | [_, _] => rfl
  | [_, _, _] => rfl
  | [_, _, _, _] => rfl
  | _ :: _ :: _ :: _ :: _ :: _ => by rfl
section
variable {h c : Addr} {H H' : Hp}
theorem Stay.tup {b : Addr} {xs : List V} (x : Stay h c H H') (hb : H b = some (.tup xs)) : H' b = some (.tup xs) := x.but b _ (x.hand0.net hb) hb
theorem Stay.tat (x : Stay h c H H') {ts : List Addr} {ls : List (List Nat)} (t : TAt H ts ls) : TAt H' ts ls := t.mono fun b xs hb => x.tup hb
theorem Stay.la (x : Stay h c H H') {q : Addr} {n : Nat} {es : List (Nat × Nat)} {lot : List Nat} (L : LandAt H q n es lot) : LandAt H' q n es lot := by
  obtain ⟨rA, sA, ts, h1, h2, h3, h4⟩ := L.at_
  exact ⟨⟨rA, sA, ts, x.tup h1, x.lst h2 (notHand_refs _), x.tat h3, x.lst h4 (notHand_ints _)⟩, L.ok, L.lot⟩
theorem Stay.lo (x : Stay h c H H') {C p : Addr} {n : Nat} {es : List (Nat × Nat)} {rd : List Nat} (L : LandO C H p n es rd) : LandO C H' p n es rd := by
  obtain ⟨dx, an, ar, ay, ac, tn, ty, tc, h1, h2, h3, h4, h5, h6, h7, h8⟩ := L.at_
  exact ⟨⟨dx, an, ar, ay, ac, tn, ty, tc, x.but p _ (x.hand0.nei h1) h1, x.tup h2, x.tat h3, x.tup h4, x.tup h5, x.tat h6, x.tup h7, x.tat h8⟩, L.n2, L.n5, L.ok, L.rlt, L.rnd, L.rso, L.r0, L.rn⟩
end
theorem es_len {n : Nat} {es : List (Nat × Nat)} (ok : LandOk n es) (hn : n ≤ 5) : es.length ≤ 32 := by
  have z := K7E.nodup_le es ((List.range 5).flatMap fun a => (List.range 5).map fun b => (a, b)) ok.nd fun e he => by
    obtain ⟨a, b⟩ := e
    obtain ⟨l1, l2⟩ := ok.lt _ he
    have l1 : a < b := l1
    have l2 : b < n := l2
    exact List.mem_flatMap.mpr ⟨a, List.mem_range.mpr (by omega), List.mem_map.mpr ⟨b, List.mem_range.mpr (by omega), rfl⟩⟩
  have e : ((List.range 5).flatMap fun a => (List.range 5).map fun b => (a, b)).length = 25 := by decide
  rw [e] at z
  omega
/-! ### what the law draws: things and rows of things -/
inductive Th1 (H : Hp) : V → PyData → Prop where
  | non : Th1 H .non .none
  | bl (b : Bool) : Th1 H (.bl b) (.bool b)
  | int (i : Int) (hi : i.natAbs < 10 ^ 40) : Th1 H (.int i) (.int i)
  | str (z : Str) (hz : (reprText z).length ≤ 64) : Th1 H (.str z) (.str z)
  | tupI {a : Addr} (h : H a = some (.tup [.int 0])) : Th1 H (.ref a) (.tuple [.int 0])
  | lstI {a : Addr} (h : H a = some (.lst [.int 0])) : Th1 H (.ref a) (.list [.int 0])
theorem Th1.dp {K : PySem.W.Frag} {H : Hp} {v : V} {d : PyData} (t : Th1 H v d) : Dp K H v d := by
  cases t with
  | non => exact .non
  | bl b => exact .bl b
  | int i _ => exact .int i
  | str z _ => exact .str z
  | tupI h => exact .tup (.inl (.inl h)) (.cons (.int 0) .nil)
  | lstI h => exact .lst (.inl (.inl h)) (.cons (.int 0) .nil)
theorem Th1.thing {H : Hp} {v : V} {d : PyData} (t : Th1 H v d) : Thing H v := by
  cases t with
  | non => exact .flat .non
  | bl b => exact .flat (.bl b)
  | int i _ => exact .flat (.int i)
  | str z _ => exact .flat (.str z)
  | tupI h => exact .tup h
  | lstI h => exact .lst h
theorem Th1.same {H H' : Hp} {v : V} {d : PyData} (t : Th1 H v d) (e : Same H H') : Th1 H' v d := by
  cases t with
  | non => exact .non
  | bl b => exact .bl b
  | int i k => exact .int i k
  | str z k => exact .str z k
  | tupI h => exact .tupI (e _ _ h)
  | lstI h => exact .lstI (e _ _ h)
theorem log_of {i : Int} (h : i.natAbs < 10 ^ 40) : i.natAbs.log2 < 1920 := by
  rcases Nat.eq_zero_or_pos i.natAbs with z | z
  · rw [z]; decide
  · have : i.natAbs < 2 ^ 1920 := Nat.lt_of_lt_of_le h (by decide +kernel)
    exact (Nat.log2_lt (by omega)).mpr this
theorem int_short {i : Int} (h : i.natAbs < 10 ^ 40) : (Str.ofString (toString i)).length ≤ 64 := by
  rw [PySem.ofString_length]
  have k : ∀ n : Nat, n < 10 ^ 40 → (Nat.repr n).length ≤ 40 := fun n hn => (Nat.length_repr_le_iff (by decide)).mpr hn
  cases i with
  | ofNat n =>
    have := k n h
    show (Nat.repr n).length ≤ 64
    omega
  | negSucc n =>
    have := k (n + 1) h
    show ("-" ++ Nat.repr (n + 1)).length ≤ 64
    rw [String.length_append]
    have : ("-" : String).length = 1 := by decide
    omega
theorem Th1.shown {H : Hp} {v : V} {d : PyData} (t : Th1 H v d) : d.showable = true ∧ d.hasDict = false ∧ d.depth ≤ 1 ∧ d.shown.length ≤ 64 := by
  cases t with
  | non => exact ⟨rfl, rfl, by decide, by decide⟩
  | bl b => cases b <;> exact ⟨rfl, rfl, by decide, by decide +kernel⟩
  | int i k => exact ⟨decide_eq_true (log_of k), rfl, Nat.zero_le _, int_short k⟩
  | str z k => exact ⟨rfl, rfl, Nat.zero_le _, k⟩
  | tupI h => exact ⟨by decide, by decide, by decide, by decide +kernel⟩
  | lstI h => exact ⟨by decide, by decide, by decide, by decide +kernel⟩
theorem Th1.rpr {K : PySem.W.Frag} {H : Hp} {v : V} {d : PyData} (t : Th1 H v d) : K7E.Rpr K H v d.shown := by
  have s := t.shown
  cases t with
  | non => exact .flat (v := .non) trivial
  | bl b => cases b <;> exact .flat (v := .bl _) trivial
  | int i k => exact .flat (v := .int i) (log_of k)
  | str z k => exact .flat (v := .str z) (Nat.le_trans k (by decide))
  | tupI h => exact .dat (Th1.tupI h).dp s.1 s.2.1 (by omega) (Nat.le_trans s.2.2.2 (by decide))
  | lstI h => exact .dat (Th1.lstI h).dp s.1 s.2.1 (by omega) (Nat.le_trans s.2.2.2 (by decide))
theorem Th1.stay {h c : Addr} {H H' : Hp} {v : V} {d : PyData} (t : Th1 H v d) (e : Stay h c H H') : Th1 H' v d := by
  cases t with
  | non => exact .non
  | bl b => exact .bl b
  | int i k => exact .int i k
  | str z k => exact .str z k
  | tupI h => exact .tupI (e.tup h)
  | lstI h => exact .lstI (e.lst h rfl)
inductive OAll (H : Hp) : List V → List PyData → Prop where
  | nil : OAll H [] []
  | cons {v : V} {d : PyData} {vs : List V} {ds : List PyData} (h : Th1 H v d) (r : OAll H vs ds) : OAll H (v :: vs) (d :: ds)
theorem OAll.snoc {H : Hp} {v : V} {d : PyData} (h : Th1 H v d) : ∀ {vs : List V} {ds : List PyData}, OAll H vs ds → OAll H (vs ++ [v]) (ds ++ [d])
  | _, _, .nil => .cons h .nil
  | _, _, .cons x r => .cons x (r.snoc h)
theorem OAll.same {H H' : Hp} (e : Same H H') : ∀ {vs : List V} {ds : List PyData}, OAll H vs ds → OAll H' vs ds
  | _, _, .nil => .nil
  | _, _, .cons x r => .cons (x.same e) (r.same e)
theorem OAll.stay {h c : Addr} {H H' : Hp} (e : Stay h c H H') : ∀ {vs : List V} {ds : List PyData}, OAll H vs ds → OAll H' vs ds
  | _, _, .nil => .nil
  | _, _, .cons x r => .cons (x.stay e) (r.stay e)
theorem OAll.dp {K : PySem.W.Frag} {H : Hp} : ∀ {vs : List V} {ds : List PyData}, OAll H vs ds → DpAll K H vs ds
  | _, _, .nil => .nil
  | _, _, .cons x r => .cons x.dp r.dp
theorem OAll.thing {H : Hp} : ∀ {vs : List V} {ds : List PyData}, OAll H vs ds → ∀ y ∈ vs, Thing H y
  | _, _, .nil => fun _ m => nomatch m
  | _, _, .cons x r => fun y m => by
    rcases List.mem_cons.mp m with rfl | m
    · exact x.thing
    · exact r.thing y m
theorem OAll.len {H : Hp} : ∀ {vs : List V} {ds : List PyData}, OAll H vs ds → vs.length = ds.length
  | _, _, .nil => rfl
  | _, _, .cons _ r => congrArg (· + 1) r.len
theorem OAll.shown {H : Hp} : ∀ {vs : List V} {ds : List PyData}, OAll H vs ds → PyData.showableAll ds = true ∧ PyData.hasDictAll ds = false ∧ PyData.depthAll ds ≤ 1 ∧ ((PyData.shownAll ds).map fun x => x.length).sum ≤ 64 * ds.length ∧ (PyData.shownAll ds).length = ds.length
  | _, _, .nil => ⟨rfl, rfl, by decide, by decide, rfl⟩
  | _, d :: ds, .cons x r => by
    obtain ⟨a1, a2, a3, a4⟩ := x.shown
    obtain ⟨b1, b2, b3, b4, b5⟩ := r.shown
    refine ⟨?_, ?_, ?_, ?_, ?_⟩
    · simp only [PyData.showableAll, a1, b1, Bool.and_self]
    · simp only [PyData.hasDictAll, a2, b2, Bool.or_self]
    · simp only [PyData.depthAll]
      omega
    · simp only [PyData.shownAll, List.map_cons, List.sum_cons, List.length_cons]
      omega
    · simp only [PyData.shownAll, List.length_cons, b5]
theorem OAll.rprL {K : PySem.W.Frag} {H : Hp} {a : Addr} {vs : List V} {ds : List PyData} (o : OAll H vs ds) (hl : ds.length ≤ 1000) (h : H a = some (.lst vs)) : K7E.Rpr K H (.ref a) (PyData.list ds).shown := by
  obtain ⟨b1, b2, b3, b4, b5⟩ := o.shown
  refine .dat (.lst (.inl (.inl h)) o.dp) (by simp only [PyData.showable]; exact b1) (by simp only [PyData.hasDict]; exact b2) (by simp only [PyData.depth]; omega) ?_
  have e : (PyData.list ds).shown = listText (PyData.shownAll ds) := by simp only [PyData.shown]
  have t := PySem.textFrom_len_le (PyData.shownAll ds) 0 "["
  have hs : (100000 : Nat) ≤ sizeLine := by decide
  have l1 : ("[" : Str).length = 1 := by decide +kernel
  have l2 : ("]" : Str).length = 1 := by decide +kernel
  rw [e]
  unfold PySem.listText
  rw [Str.length_append]
  omega
theorem OAll.rprT {K : PySem.W.Frag} {H : Hp} {a : Addr} {vs : List V} {ds : List PyData} (o : OAll H vs ds) (hl : ds.length ≤ 1000) (h : H a = some (.tup vs)) : K7E.Rpr K H (.ref a) (PyData.tuple ds).shown := by
  obtain ⟨b1, b2, b3, b4, b5⟩ := o.shown
  refine .dat (.tup (.inl (.inl h)) o.dp) (by simp only [PyData.showable]; exact b1) (by simp only [PyData.hasDict]; exact b2) (by simp only [PyData.depth]; omega) ?_
  have e : (PyData.tuple ds).shown = tupleText (PyData.shownAll ds) := by simp only [PyData.shown]
  have t := PySem.StrLaws.join_length_le ", " (PyData.shownAll ds)
  have hs : (100000 : Nat) ≤ sizeLine := by decide
  have l1 : ("(" : Str).length = 1 := by decide +kernel
  have l2 : (", " : Str).length = 2 := by decide +kernel
  have l3 : (Str.ofString (if ((PyData.shownAll ds).length == 1) = true then ",)" else ")")).length ≤ 2 := by split <;> decide +kernel
  rw [e]
  unfold PySem.tupleText
  rw [Str.length_append, Str.length_append]
  rw [l2] at t
  omega
/-- a row as the law draws it; a list is not the hand -/
inductive RowIs (h : Addr) (H : Hp) : V → Prop where
  | non : RowIs h H .non
  | bl (b : Bool) : RowIs h H (.bl b)
  | int (i : Int) (k : i.natAbs < 10 ^ 40) : RowIs h H (.int i)
  | str (z : Str) (k : (reprText z).length ≤ 64) : RowIs h H (.str z)
  | emp {a : Addr} (e : H a = some (.dK [])) : RowIs h H (.ref a)
  | lst {a : Addr} {xs : List V} {ds : List PyData} (e : H a = some (.lst xs)) (o : OAll H xs ds) (l : xs.length ≤ 32) (n : a ≠ h) : RowIs h H (.ref a)
  | tup {a : Addr} {xs : List V} {ds : List PyData} (e : H a = some (.tup xs)) (o : OAll H xs ds) (l : xs.length ≤ 32) : RowIs h H (.ref a)
theorem RowIs.same {h : Addr} {H H' : Hp} {v : V} (r : RowIs h H v) (e : Same H H') : RowIs h H' v := by
  cases r with
  | non => exact .non
  | bl b => exact .bl b
  | int i k => exact .int i k
  | str z k => exact .str z k
  | emp g => exact .emp (e _ _ g)
  | lst g o l n => exact .lst (e _ _ g) (o.same e) l n
  | tup g o l => exact .tup (e _ _ g) (o.same e) l
theorem RowIs.stay {h c : Addr} {H H' : Hp} {v : V} (r : RowIs h H v) (e : Stay h c H H') : RowIs h H' v := by
  cases r with
  | non => exact .non
  | bl b => exact .bl b
  | int i k => exact .int i k
  | str z k => exact .str z k
  | emp g => exact .emp (e.but _ _ (e.hand0.ned g) g)
  | lst g o l n => exact .lst (e.but _ _ n g) (o.stay e) l n
  | tup g o l => exact .tup (e.tup g) (o.stay e) l
end K7
end
/-! ## P19 -/
section
open PySem PySem.Spec PyProof.Rows L2
namespace K7
abbrev N__law_all_least : List Str := ["_law_plain", "_law_cell", "_law_passing", "_law_among", "_law_found", "_law_lot", "_law_b"]
abbrev s__law_all_least : Stmt := topS 38
theorem sc__law_all_least : FnScope ["_law_plain", "_law_cell", "_law_passing", "_law_among", "_law_found", "_law_lot", "_law_b"] ["_law_plain", "_law_cell", "_law_passing", "_law_among"] (defScope s__law_all_least) := ⟨rfl, rfl, rfl, by decide +kernel, rfl, by decide +kernel, by decide +kernel⟩
abbrev N__law_least : List Str := ["_law_land_here", "_law_cell", "_law_passing", "_law_among", "_law_lot", "_law_other"]
abbrev s__law_least : Stmt := topS 36
theorem sc__law_least : FnScope ["_law_land_here", "_law_cell", "_law_passing", "_law_among", "_law_lot", "_law_other"] ["_law_land_here", "_law_cell", "_law_passing", "_law_among"] (defScope s__law_least) := ⟨rfl, rfl, rfl, by decide +kernel, rfl, by decide +kernel, by decide +kernel⟩
theorem eqv_lnil (xs : List PyData) : PyData.eqv (.list xs) (.list []) = xs.isEmpty := by
  cases xs with
  | nil => simp [PyData.eqv, PyData.eqvAll]
  | cons x r => simp [PyData.eqv, PyData.eqvAll]
theorem dec_int (k c : Nat) : decide (V.int ((k : Nat) : Int) = V.int ((c : Nat) : Int)) = decide (k = c) := by
  by_cases z : k = c
  · subst z; rw [decide_eq_true rfl, decide_eq_true rfl]
  · rw [decide_eq_false z, decide_eq_false]
    intro w
    injection w with w
    exact z (by omega)
section
variable {P : Program} {w : World} {K : PySem.W.Frag} {mg : Str → Option Value} {base : Heap} {a : AdL} {S iS Pt : Addr}
theorem LotOrW.mono {wd : Str} {n : Nat} {H : Hp} {y : V} {E : XK} {q q' : Addr → List Nat → Prop} (h : LotOrW K S wd n H y E q) (i : ∀ pa ps, y = .ref pa → SqOf H pa (ints_ ps) → (∀ c ∈ ps, c < n) → ps.Nodup → q pa ps → q' pa ps) : LotOrW K S wd n H y E q' := by
  rcases h with ⟨pa, ps, rfl, h1, h2, h3, h4⟩ | h
  · exact .inl ⟨pa, ps, rfl, h1, h2, h3, i pa ps rfl h1 h2 h3 h4⟩
  · exact .inr h
def spLeast1 (K : PySem.W.Frag) (a : AdL) (S Pt : Addr) : Sp := fun vs H Q E => ∃ (p : Addr) (n : Nat) (es : List (Nat × Nat)) (rd : List Nat) (x y z : V), vs = [.ref p, x, y, z] ∧ LandO a.C H p n es rd ∧ LamX.Tabs [(Pt, lamQ)] H ∧ CellOr a.B n H x E fun c => LotOr K S n H y E fun _ ps => LotOrW K S "among" n H z E fun _ qs =>
  (∀ H' t l r, LamX.ExtN H H' → LamX.Tabs [(Pt, lamQ)] H' → H' t = some (.tup (ints_ l)) → leastOf (opB es rd ps c) (lotsN (ascOf n qs c)) = l :: r → Q (.ref t) H') ∧
  (∀ H', LamX.ExtN H H' → LamX.Tabs [(Pt, lamQ)] H' → leastOf (opB es rd ps c) (lotsN (ascOf n qs c)) = [] → Q .non H')
theorem ok_least1 {f fle : Addr} {fd fdle : FuncData} (F : Fun K "least_lot" "least_lot" s_least_lot f fd)
    (Gle : FnOk P w K mg base (L2.CX P w) 6 fle fdle ["land", "cell", "passing", "among"] (spLeast K a S Pt)) (gle : mg "least_lots" = some (.ref fle)) (kle : PySem.W.keepIn K (.ref fle) = true) (ble : Binds K fdle ["land", "cell", "passing", "among"] []) : FnOk P w K mg base (L2.CX P w) 7 f fd ["land", "cell", "passing", "among"] (spLeast1 K a S Pt) := by
  refine F.okX sc_least_lot (fun vs H Q E h => ?_) (fun cdv A outer s H vs Q E hr h => ?_)
  · obtain ⟨p, n, es, rd, x, y, z, rfl, _⟩ := h
    rfl
  · obtain ⟨p, n, es, rd, x, y, z, rfl, L, hT, h⟩ := h
    refine ⟨_, (pss_cons (ps_set (i := 4) sc_least_lot.nd rfl (by first | exact Or.inl rfl | exact Or.inr rfl) (pe_call Gle (hr.mono (by decide)) (by rfl) gle kle ble .nil (passes_call (E := E) (takes_of rfl rfl rfl rfl) (fun _ _ _ _ h => h)) (pa_cons (pv 0) (pa_cons (pv 1) (pa_cons (pv 2) (pa_cons (pv 3) pa_nil))))))
 (pss_one (ps_ret (pe_ifExp (pt_truth (pv 4) (by intro _; rfl)) (pe_ix ix_tup (pv 4) pe_int (fun _ _ => rfl)) pe_non)))), ?_⟩
    refine ⟨_, rfl, _, rfl, _, rfl, _, rfl, p, n, es, rd, x, y, z, rfl, L, hT, h.mono fun c ex hc h => h.mono fun pa ps ey hpa plt pnd h => h.mono fun qa qs ez hqa qlt qnd q H1 t us e1 T1 ht tU => ?_⟩
    refine ⟨_, rfl, _, .inr (.inl ⟨_, .inl (.inl ht), rfl⟩), ?_⟩
    cases us with
    | nil =>
      have e0 := List.length_eq_zero_iff.mp tU.len.symm
      exact iteFo rfl (q.2 _ e1 T1 e0)
    | cons u0 ur =>
      obtain ⟨l0, el0, hl0⟩ := tU.get (i := 0) rfl
      obtain ⟨fr, efr⟩ : ∃ fr, leastOf (opB es rd ps c) (lotsN (ascOf n qs c)) = l0 :: fr := by
        generalize leastOf (opB es rd ps c) (lotsN (ascOf n qs c)) = ff at el0
        cases ff with
        | nil => cases el0
        | cons x r => cases el0; exact ⟨r, rfl⟩
      exact iteTo rfl ⟨_, rfl, t, _, _, _, rfl, rfl, .inl (.inl ht), atI_nat (j := 0) rfl, q.1 _ _ _ _ e1 T1 hl0 efr⟩
end
section
variable {P : Program} {w : World} {K : PySem.W.Frag} {mg : Str → Option Value} {base : Heap}
/-- the law's own: all least lots -/
def spLAll : Sp := fun vs H Q _ => ∃ (q0 : Addr) (n : Nat) (es : List (Nat × Nat)) (lot : List Nat) (c : Nat) (pa : Addr) (ps : List Nat) (qa : Addr) (qs : List Nat), vs = [.ref q0, .int (c : Nat), .ref pa, .ref qa] ∧ LandAt H q0 n es lot ∧ n ≤ 5 ∧ c < n ∧ SqOf H pa (ints_ ps) ∧ ps.length ≤ 5 ∧ H qa = some (.lst (ints_ qs)) ∧ (∀ x ∈ qs, x < n) ∧ qs.Nodup ∧
  ∀ H' t us, Same H H' → H' t = some (.tup (us.map V.ref)) → TAt H' us (leastOf (opB es lot ps c) (lotsN (ascOf n qs c))) → Q (.ref t) H'
theorem ok_lall {f flo flts : Addr} {fd fdlo fdlts : FuncData} (F : Fun K "_law_all_least" "_law_all_least" s__law_all_least f fd)
    (Glo : FnOk P w K mg base CX0 2 flo fdlo ["_law_land_here", "_law_cell", "_law_passing"] spLOpen) (glo : mg "_law_open" = some (.ref flo)) (klo : PySem.W.keepIn K (.ref flo) = true) (blo : Binds K fdlo ["_law_land_here", "_law_cell", "_law_passing"] [])
    (Glts : FnOk P w K mg base CX0 1 flts fdlts ["_law_cells"] spLotsZ) (glts : mg "_law_lots" = some (.ref flts)) (klts : PySem.W.keepIn K (.ref flts) = true) (blts : Binds K fdlts ["_law_cells"] [])
    (m_sorted : mg "sorted" = none) (m_len : mg "len" = none) (m_tuple : mg "tuple" = none) (m_list : mg "list" = none) : FnOk P w K mg base CX0 3 f fd ["_law_plain", "_law_cell", "_law_passing", "_law_among"] spLAll := by
  refine F.ok sc__law_all_least (fun vs H Q E h => ?_) (fun cdv A outer s H vs Q E hr h => ?_)
  · obtain ⟨q0, n, es, lot, c, pa, ps, qa, qs, rfl, _⟩ := h
    rfl
  · obtain ⟨q0, n, es, lot, c, pa, ps, qa, qs, rfl, La, n5, hc, hpa, p5, hqa, qlt, qnd, q⟩ := h
    refine ⟨_, (Evl.pss_cut (ps_set (i := 4) sc__law_all_least.nd rfl (by first | exact Or.inl rfl | exact Or.inr rfl) (pe_lst pa_nil))
 (pss_cons (ps_for PassesOwn.never rfl (pi_list (pe_call Glts (hr.mono (by decide)) (by rfl) glts klts blts .nil pass0 (pa_cons (pe_callB K7S.cr_sortA (by rfl) m_sorted boot_sorted (pa_cons (pe_lc (own := [("_law_b", 6)]) (g := gName 6) rfl sc__law_all_least.nd (pi_list (pv 3)) (blkOk_by (own := [("_law_b", 6)]) (N := N__law_all_least) (sc := defScope s__law_all_least) (by decide +kernel)) (fun _ _ _ _ _ => (pg_name (i := 6) sc__law_all_least.nd rfl (by first | exact Or.inl rfl | exact Or.inr rfl))) (fun _ _ _ _ _ => (pts_one (pt_cmpR op_ne (pv 6) (pv 1) (nomark _)))) (fun _ _ _ _ _ => (pv 6))) pa_nil)) pa_nil))) (pg_name (i := 5) sc__law_all_least.nd rfl (by first | exact Or.inl rfl | exact Or.inr rfl))
  (pss_one (ps_if (pt_val (pe_call Glo (hr.mono (by decide)) (by rfl) glo klo blo .nil pass0 (pa_cons (pv 0) (pa_cons (pv 1) (pa_cons (pe_op op_cat (pe_callTy call_list_of (by rfl) m_list boot_list (pa_cons (pv 2) pa_nil)) (pe_callTy call_list_of (by rfl) m_list boot_list (pa_cons (pv 5) pa_nil))) pa_nil)))))
  (pss_one (ps_if (pw_or (pt_cmpR (op_eqD hr.units) (pv 4) (pe_lst pa_nil) (nomark _)) (pw_or1 (pt_cmpR op_eq (pe_callB call_len_seq (by rfl) m_len boot_len (pa_cons (pv 5) pa_nil)) (pe_callB call_len_seq (by rfl) m_len boot_len (pa_cons (pe_ix ix_list (pv 4) pe_int (fun _ _ => rfl)) pa_nil)) (nomark _)))).pt
  (pss_one (ps_expr (pe_bm PySem.F.plainAttrs_list PySem.F.slot_list_append PySem.F.type_list_append mt_append (pv 4) (pa_cons (pv 5) pa_nil))))
  pss_nil))
  pss_nil)))
 (pss_one (ps_ret (pe_callTy call_tuple_of (by rfl) m_tuple boot_tuple (pa_cons (pv 4) pa_nil)))))), ?_⟩
    have q5 : qs.length ≤ 5 := by
      have z := K7E.nodup_le qs (List.range n) qnd fun x hx => List.mem_range.mpr (qlt x hx)
      rw [List.length_range] at z
      omega
    have e32 := es_len La.ok n5
    obtain ⟨as, has⟩ : ∃ as, as = ascOf n qs c := ⟨_, rfl⟩
    have as5 : as.length ≤ 5 := by rw [has]; exact Nat.le_trans ascOf_len n5
    have asc : as.Pairwise (· < ·) := by rw [has]; exact ascOf_asc n qs c
    have so := lotsN_asc as5 asc
    have l32 := lotsN_len as5
    rw [← has] at q
    refine ⟨fun τ H' => ∃ F0, τ = [some (.ref q0), some (.int (c : Nat)), some (.ref pa), some (.ref qa), some (.ref F0), none, none] ∧ Same H H' ∧ H F0 = none ∧ H' F0 = some (.lst []), ⟨by show 0 ≤ sizeLine; decide, fun F0 nF0 => ⟨F0, rfl, al nF0, nF0, upd_same⟩⟩, fun τ H3 hM => ?_⟩
    obtain ⟨F0, rfl, e3, hFn, hF3⟩ := hM
    have z := e3 _ _ hqa
    refine ⟨_, rfl, qa, rfl, ⟨_, .inl (.inl z)⟩, fun D hD => lc_list (xs := ints_ qs) (fun j H4 => Same H3 H4 ∧ H4 D = some (.lst (ints_ ((qs.take j).filter fun x => decide (x ≠ c))))) ⟨same_new (Same.refl H3) hD, upd_same⟩ (fun j H4 _ pv => .inl (.inl (pv.1 _ _ z))) (fun j y H4 hy pv => ?_) (fun H4 pv => ?_)⟩
    · obtain ⟨e4, hD4⟩ := pv
      unfold ints_ at hy
      rw [List.getElem?_map] at hy
      obtain ⟨k, hk, rfl⟩ := Option.map_eq_some_iff.mp hy
      have ft := filter_take (p := fun x => decide (x ≠ c)) hk
      refine ⟨rfl, _, rfl, _, rfl, rfl, _, rfl, ?_⟩
      change if (!decide (V.int (k : Nat) = V.int (c : Nat))) = true then _ else _
      rw [dec_int]
      by_cases z : k = c
      · rw [decide_eq_true z]
        refine iteFo rfl ⟨e4, ?_⟩
        rw [ft, if_neg (by simpa using z), List.append_nil]
        exact hD4
      · rw [decide_eq_false z]
        refine iteTo rfl ⟨_, rfl, _, hD4, ?_, fun b o hb => ?_, ?_⟩
        · unfold ints_
          rw [List.length_map]
          exact small1000 (Nat.le_trans (List.length_filter_le _ _) (by rw [List.length_take]; omega))
        · rw [upd_ne (ne_of_none hb hD)]
          exact e4 _ _ hb
        · rw [upd_same, ft, if_pos (by simpa using z), ints_snoc]
    · obtain ⟨e4, hD4⟩ := pv
      rw [show (ints_ qs).length = qs.length from List.length_map .., List.take_length] at hD4
      refine ⟨D, nz (qs.filter fun x => decide (x ≠ c)), rfl, .inl (.inl (.inl (by rw [nz_ints]; exact hD4))), ?_, fun ms t pm so2 nt => ?_⟩
      · rw [nz_len]
        exact Nat.lt_of_le_of_lt (List.length_filter_le _ _) (by omega)
      · have em := ascOf_is qlt qnd pm so2
        rw [← has] at em
        rw [em]
        have e5 := e4.trans (al (o := .lst ((nz as).map V.int)) nt)
        have ht : upd H4 t (.lst ((nz as).map V.int)) t = some (.lst ((nz as).map V.int)) := upd_same
        generalize upd H4 t (.lst ((nz as).map V.int)) = H5 at e5 ht ⊢
        refine ⟨t, nz as, rfl, by rw [nz_len]; omega, nz_asc asc, ht, fun H6 u ts e6' nu hu tI => ?_⟩
        have e6 := e3.trans (e5.trans e6')
        have hF6 : H6 F0 = some (.lst []) := e6' _ _ (e5 _ _ hF3)
        rw [lotsZ_nz] at tI
        have tA := ti_tat tI
        have tl := tA.len
        have nuF : u ≠ F0 := fun z => by rw [z] at nu; rw [e5 _ _ hF3] at nu; cases nu
        refine ⟨u, rfl, ⟨_, .inl (.inl hu)⟩, for_list (xs := ts.map V.ref) (fun i σ H7 => ∃ us y5 y6, σ = [some (.ref q0), some (.int (c : Nat)), some (.ref pa), some (.ref qa), some (.ref F0), y5, y6] ∧ But F0 H6 H7 ∧ H7 F0 = some (.lst (us.map V.ref)) ∧ TAt H7 us (leastOf (opB es lot ps c) ((lotsN as).take i)) ∧ us.length ≤ i) ⟨[], none, none, rfl, fun b o _ hb => hb, hF6, .nil, Nat.le_refl _⟩ (fun i σ H7 _ pv => ?_) (fun i y σ H7 hy pv => ?_) (fun σ H7 pv => ?_)⟩
        · obtain ⟨us, y5, y6, rfl, bt, _⟩ := pv
          exact .inl (.inl (bt _ _ nuF hu))
        · obtain ⟨us, y5, y6, rfl, bt, hF7, tU, lu⟩ := pv
          rw [List.getElem?_map] at hy
          obtain ⟨ti, hti, rfl⟩ := Option.map_eq_some_iff.mp hy
          obtain ⟨l, el, hl⟩ := tA.get hti
          have hi := (List.getElem?_eq_some_iff.mp el).1
          have hl7 := bt _ _ (fun z => by rw [z, hF6] at hl; cases hl) hl
          have ll : l.length ≤ 5 := by
            have z := ((mem_lotsN as5 asc).mp (List.mem_of_getElem? el)).length_le
            omega
          have ts1 := leastOf_take (p := opB es lot ps c) el
          have tul := tU.len
          have e7 : Same H H7 := fun b o hb => bt _ _ (ne_of_none hb hFn) (e6 _ _ hb)
          refine ⟨_, rfl, _, rfl, _, rfl, pa, _, rfl, (hpa.same e7).symm.imp (fun z => .inl (.inl z)) (fun z => .inl (.inl z)), fun A nA => ?_⟩
          have e8 := al (o := .lst (ints_ ps)) nA
          refine ⟨_, rfl, ti, _, rfl, .inr (.inl (.inl (e8 _ _ hl7))), fun B nB => ?_⟩
          have e9 := al (o := .lst (ints_ l)) nB
          refine ⟨A, B, _, _, rfl, rfl, e9 _ _ upd_same, upd_same, ?_, fun C nC => ?_⟩
          · unfold ints_
            rw [List.length_map, List.length_map]
            exact Nat.le_trans (show ps.length + l.length ≤ 1000 by omega) (by decide)
          · have hC : ∀ H8, upd H8 C (.lst (ints_ ps ++ ints_ l)) C = some (.lst (ints_ (ps ++ l))) := fun H8 => by
              rw [upd_same]
              unfold ints_
              rw [List.map_append]
            have e10 := (e8.trans e9).trans (al (o := .lst (ints_ ps ++ ints_ l)) nC)
            refine ⟨q0, n, es, lot, c, C, ps ++ l, rfl, La.same (e7.trans e10), n5, e32, hc, .inr (hC _), fun H9 b e11 hb => ⟨b, rfl, ?_⟩⟩
            rw [opB_iff hb]
            have e79 := e10.trans e11
            have hF9 := e79 _ _ hF7
            by_cases hp : opB es lot ps c l = true
            · rw [hp]
              refine iteTo rfl ?_
              refine ⟨_, rfl, by show 0 ≤ sizeLine; decide, fun Z nZ => ?_⟩
              have e12 := al (o := .lst []) nZ
              have tU9 := tU.same e79
              refine ⟨.list ((leastOf (opB es lot ps c) ((lotsN as).take i)).map intD), .list [], .lst (.inl (.inl (e12 _ _ hF9))) (dp_rows (tU9.same e12)), .lst (.inl (.inl upd_same)) .nil, shaped_rows _, shaped_rows [], _, rfl, ?_⟩
              rw [eqv_lnil]
              have hF10 := e12 _ _ hF9
              have tU10 := tU9.same e12
              have e70 := e79.trans e12
              have hl10 := e70 _ _ hl7
              generalize upd H9 Z (.lst []) = H10 at hF10 tU10 e70 hl10 ⊢
              have fin : leastOf (opB es lot ps c) ((lotsN as).take (i + 1)) = leastOf (opB es lot ps c) ((lotsN as).take i) ++ [l] → But F0 H6 (upd H10 F0 (.lst (us.map V.ref ++ [.ref ti]))) ∧ upd H10 F0 (.lst (us.map V.ref ++ [.ref ti])) F0 = some (.lst ((us ++ [ti]).map V.ref)) ∧ TAt (upd H10 F0 (.lst (us.map V.ref ++ [.ref ti]))) (us ++ [ti]) (leastOf (opB es lot ps c) ((lotsN as).take (i + 1))) ∧ (us ++ [ti]).length ≤ i + 1 := fun et => by
                refine ⟨fun b o nb hb => by rw [upd_ne nb]; exact e70 _ _ (bt b o nb hb), by rw [upd_same, List.map_append]; rfl, ?_, by rw [List.length_append, List.length_singleton]; omega⟩
                rw [et]
                have up : ∀ b xs, H10 b = some (.tup xs) → upd H10 F0 (.lst (us.map V.ref ++ [.ref ti])) b = some (.tup xs) := fun b xs hb => by
                  rw [upd_ne (fun z => by rw [z, hF10] at hb; cases hb)]
                  exact hb
                exact (tU10.mono up).append (.cons (up _ _ hl10) .nil)
              cases hff : leastOf (opB es lot ps c) ((lotsN as).take i) with
              | nil =>
                obtain ⟨k1, k2, k3, k4⟩ := fin (ts1.trans (stepL_yes hp fun l0 r z => by rw [hff] at z; cases z))
                exact iteTo rfl (iteTo rfl ⟨_, rfl, .inl ⟨rfl, _, .inl (.inl hF10)⟩, _, rfl, F0, _, _, rfl, rfl, hF10, by rw [List.length_map]; exact small1000 (by omega), us ++ [ti], _, _, rfl, k1, k2, k3, k4⟩)
              | cons l0 fr =>
                obtain ⟨u0, ur, rfl⟩ : ∃ u0 ur, us = u0 :: ur := by
                  cases us with
                  | nil => rw [hff] at tul; cases tul
                  | cons u0 ur => exact ⟨u0, ur, rfl⟩
                obtain ⟨l1, el1, hl1⟩ := tU10.get (i := 0) rfl
                rw [hff] at el1
                obtain rfl : l0 = l1 := Option.some.inj el1
                refine iteFo rfl ⟨_, rfl, ti, _, rfl, .inr (.inl (.inl hl10)), _, rfl, F0, _, _, _, rfl, rfl, .inl (.inl hF10), atI_nat (j := 0) rfl, u0, _, rfl, .inr (.inl (.inl hl1)), rfl, _, rfl, ?_⟩
                rw [show (List.map (fun c => V.int ((c : Nat) : Int)) l).length = l.length from List.length_map .., show (List.map (fun c => V.int ((c : Nat) : Int)) l0).length = l0.length from List.length_map .., dec_int]
                by_cases hq : l.length = l0.length
                · rw [decide_eq_true hq]
                  obtain ⟨k1, k2, k3, k4⟩ := fin (ts1.trans (stepL_yes hp fun l2 r z => by rw [hff] at z; cases z; exact hq))
                  exact iteTo rfl ⟨_, rfl, .inl ⟨rfl, _, .inl (.inl hF10)⟩, _, rfl, F0, _, _, rfl, rfl, hF10, by rw [List.length_map]; exact small1000 (by omega), _, _, _, rfl, k1, k2, k3, k4⟩
                · rw [decide_eq_false hq]
                  have en : leastOf (opB es lot ps c) ((lotsN as).take (i + 1)) = leastOf (opB es lot ps c) ((lotsN as).take i) := by
                    rw [ts1, hff, stepL_cons, decide_eq_false hq, Bool.and_false, if_neg (by decide)]
                  refine iteFo rfl ⟨_, _, _, rfl, fun b o nb hb => e70 _ _ (bt b o nb hb), hF10, ?_, by omega⟩
                  rw [en]
                  exact tU10
            · rw [Bool.eq_false_iff.mpr hp]
              rw [stepL_no (Bool.eq_false_iff.mpr hp)] at ts1
              refine iteFo rfl ⟨us, _, _, rfl, fun b o nb hb => e79 _ _ (bt b o nb hb), hF9, ?_, by omega⟩
              rw [ts1]
              exact tU.same e79
        · obtain ⟨us, y5, y6, rfl, bt, hF7, tU, lu⟩ := pv
          rw [List.length_map, tl, List.take_length] at tU
          refine ⟨_, rfl, F0, _, rfl, .inl ⟨.inl (.inl hF7), fun t nt => ?_⟩⟩
          have e7 : Same H H7 := fun b o hb => bt _ _ (ne_of_none hb hFn) (e6 _ _ hb)
          exact q _ t us (e7.trans (al nt)) upd_same (tU.same (al nt))
def spLLeast1 : Sp := fun vs H Q _ => ∃ (q0 : Addr) (n : Nat) (es : List (Nat × Nat)) (lot : List Nat) (c : Nat) (pa : Addr) (ps : List Nat) (qa : Addr) (qs : List Nat), vs = [.ref q0, .int (c : Nat), .ref pa, .ref qa] ∧ LandAt H q0 n es lot ∧ n ≤ 5 ∧ c < n ∧ SqOf H pa (ints_ ps) ∧ ps.length ≤ 5 ∧ H qa = some (.lst (ints_ qs)) ∧ (∀ x ∈ qs, x < n) ∧ qs.Nodup ∧
  leastOf (opB es lot ps c) (lotsN (ascOf n qs c)) = [] ∧ ∀ H', Same H H' → Q .non H'
theorem ok_lleast1 {f flo flts : Addr} {fd fdlo fdlts : FuncData} (F : Fun K "_law_least" "_law_least" s__law_least f fd)
    (Glo : FnOk P w K mg base CX0 2 flo fdlo ["_law_land_here", "_law_cell", "_law_passing"] spLOpen) (glo : mg "_law_open" = some (.ref flo)) (klo : PySem.W.keepIn K (.ref flo) = true) (blo : Binds K fdlo ["_law_land_here", "_law_cell", "_law_passing"] [])
    (Glts : FnOk P w K mg base CX0 1 flts fdlts ["_law_cells"] spLotsZ) (glts : mg "_law_lots" = some (.ref flts)) (klts : PySem.W.keepIn K (.ref flts) = true) (blts : Binds K fdlts ["_law_cells"] [])
    (m_sorted : mg "sorted" = none) (m_list : mg "list" = none) : FnOk P w K mg base CX0 3 f fd ["_law_land_here", "_law_cell", "_law_passing", "_law_among"] spLLeast1 := by
  refine F.ok sc__law_least (fun vs H Q E h => ?_) (fun cdv A outer s H vs Q E hr h => ?_)
  · obtain ⟨q0, n, es, lot, c, pa, ps, qa, qs, rfl, _⟩ := h
    rfl
  · obtain ⟨q0, n, es, lot, c, pa, ps, qa, qs, rfl, La, n5, hc, hpa, p5, hqa, qlt, qnd, none0, q⟩ := h
    refine ⟨_, (pss_cons (ps_for PassesOwn.never rfl (pi_list (pe_call Glts (hr.mono (by decide)) (by rfl) glts klts blts .nil pass0 (pa_cons (pe_callB K7S.cr_sortA (by rfl) m_sorted boot_sorted (pa_cons (pe_lc (own := [("_law_other", 5)]) (g := gName 5) rfl sc__law_least.nd (pi_list (pv 3)) (blkOk_by (own := [("_law_other", 5)]) (N := N__law_least) (sc := defScope s__law_least) (by decide +kernel)) (fun _ _ _ _ _ => (pg_name (i := 5) sc__law_least.nd rfl (by first | exact Or.inl rfl | exact Or.inr rfl))) (fun _ _ _ _ _ => (pts_one (pt_cmpR op_ne (pv 5) (pv 1) (nomark _)))) (fun _ _ _ _ _ => (pv 5))) pa_nil)) pa_nil))) (pg_name (i := 4) sc__law_least.nd rfl (by first | exact Or.inl rfl | exact Or.inr rfl))
  (pss_one (ps_if (pt_val (pe_call Glo (hr.mono (by decide)) (by rfl) glo klo blo .nil pass0 (pa_cons (pv 0) (pa_cons (pv 1) (pa_cons (pe_op op_cat (pe_callTy call_list_of (by rfl) m_list boot_list (pa_cons (pv 2) pa_nil)) (pe_callTy call_list_of (by rfl) m_list boot_list (pa_cons (pv 4) pa_nil))) pa_nil)))))
  (pss_one (ps_ret (pv 4)))
  pss_nil)))
 (pss_one (ps_ret pe_non))), ?_⟩
    have q5 : qs.length ≤ 5 := by
      have z := K7E.nodup_le qs (List.range n) qnd fun x hx => List.mem_range.mpr (qlt x hx)
      rw [List.length_range] at z
      omega
    have e32 := es_len La.ok n5
    obtain ⟨as, has⟩ : ∃ as, as = ascOf n qs c := ⟨_, rfl⟩
    have as5 : as.length ≤ 5 := by rw [has]; exact Nat.le_trans ascOf_len n5
    have asc : as.Pairwise (· < ·) := by rw [has]; exact ascOf_asc n qs c
    have so := lotsN_asc as5 asc
    rw [← has] at none0
    have non := (least_is (p := opB es lot ps c) so).non none0
    refine ⟨_, rfl, qa, rfl, ⟨_, .inl (.inl hqa)⟩, fun D hD => lc_list (xs := ints_ qs) (fun j H4 => Same H H4 ∧ H4 D = some (.lst (ints_ ((qs.take j).filter fun x => decide (x ≠ c))))) ⟨same_new (Same.refl H) hD, upd_same⟩ (fun j H4 _ pv => .inl (.inl (pv.1 _ _ hqa))) (fun j y H4 hy pv => ?_) (fun H4 pv => ?_)⟩
    · obtain ⟨e4, hD4⟩ := pv
      unfold ints_ at hy
      rw [List.getElem?_map] at hy
      obtain ⟨k, hk, rfl⟩ := Option.map_eq_some_iff.mp hy
      have ft := filter_take (p := fun x => decide (x ≠ c)) hk
      refine ⟨rfl, _, rfl, _, rfl, rfl, _, rfl, ?_⟩
      change if (!decide (V.int (k : Nat) = V.int (c : Nat))) = true then _ else _
      rw [dec_int]
      by_cases z : k = c
      · rw [decide_eq_true z]
        refine iteFo rfl ⟨e4, ?_⟩
        rw [ft, if_neg (by simpa using z), List.append_nil]
        exact hD4
      · rw [decide_eq_false z]
        refine iteTo rfl ⟨_, rfl, _, hD4, ?_, fun b o hb => ?_, ?_⟩
        · unfold ints_
          rw [List.length_map]
          exact small1000 (Nat.le_trans (List.length_filter_le _ _) (by rw [List.length_take]; omega))
        · rw [upd_ne (ne_of_none hb hD)]
          exact e4 _ _ hb
        · rw [upd_same, ft, if_pos (by simpa using z), ints_snoc]
    · obtain ⟨e4, hD4⟩ := pv
      rw [show (ints_ qs).length = qs.length from List.length_map .., List.take_length] at hD4
      refine ⟨D, nz (qs.filter fun x => decide (x ≠ c)), rfl, .inl (.inl (.inl (by rw [nz_ints]; exact hD4))), ?_, fun ms t pm so2 nt => ?_⟩
      · rw [nz_len]
        exact Nat.lt_of_le_of_lt (List.length_filter_le _ _) (by omega)
      · have em := ascOf_is qlt qnd pm so2
        rw [← has] at em
        rw [em]
        have e5 := e4.trans (al (o := .lst ((nz as).map V.int)) nt)
        have ht : upd H4 t (.lst ((nz as).map V.int)) t = some (.lst ((nz as).map V.int)) := upd_same
        generalize upd H4 t (.lst ((nz as).map V.int)) = H5 at e5 ht ⊢
        refine ⟨t, nz as, rfl, by rw [nz_len]; omega, nz_asc asc, ht, fun H6 u ts e6' nu hu tI => ?_⟩
        have e6 := e5.trans e6'
        rw [lotsZ_nz] at tI
        have tA := ti_tat tI
        refine ⟨u, rfl, ⟨_, .inl (.inl hu)⟩, for_list (xs := ts.map V.ref) (fun i σ H7 => ∃ y5 y6, σ = [some (.ref q0), some (.int (c : Nat)), some (.ref pa), some (.ref qa), y5, y6] ∧ Same H6 H7) ⟨none, none, rfl, Same.refl H6⟩ (fun i σ H7 _ pv => ?_) (fun i y σ H7 hy pv => ?_) (fun σ H7 pv => ?_)⟩
        · obtain ⟨y5, y6, rfl, e7⟩ := pv
          exact .inl (.inl (e7 _ _ hu))
        · obtain ⟨y5, y6, rfl, e7⟩ := pv
          rw [List.getElem?_map] at hy
          obtain ⟨ti, hti, rfl⟩ := Option.map_eq_some_iff.mp hy
          obtain ⟨l, el, hl⟩ := tA.get hti
          have hl7 := e7 _ _ hl
          have ll : l.length ≤ 5 := by
            have z := ((mem_lotsN as5 asc).mp (List.mem_of_getElem? el)).length_le
            omega
          have e07 := e6.trans e7
          refine ⟨_, rfl, _, rfl, _, rfl, pa, _, rfl, (hpa.same e07).symm.imp (fun z => .inl (.inl z)) (fun z => .inl (.inl z)), fun A nA => ?_⟩
          have e8 := al (o := .lst (ints_ ps)) nA
          refine ⟨_, rfl, ti, _, rfl, .inr (.inl (.inl (e8 _ _ hl7))), fun B nB => ?_⟩
          have e9 := al (o := .lst (ints_ l)) nB
          refine ⟨A, B, _, _, rfl, rfl, e9 _ _ upd_same, upd_same, ?_, fun C nC => ?_⟩
          · unfold ints_
            rw [List.length_map, List.length_map]
            exact Nat.le_trans (show ps.length + l.length ≤ 1000 by omega) (by decide)
          · have hC : ∀ H8, upd H8 C (.lst (ints_ ps ++ ints_ l)) C = some (.lst (ints_ (ps ++ l))) := fun H8 => by
              rw [upd_same]
              unfold ints_
              rw [List.map_append]
            have e10 := (e8.trans e9).trans (al (o := .lst (ints_ ps ++ ints_ l)) nC)
            refine ⟨q0, n, es, lot, c, C, ps ++ l, rfl, La.same (e07.trans e10), n5, e32, hc, .inr (hC _), fun H9 b e11 hb => ⟨b, rfl, ?_⟩⟩
            rw [opB_iff hb, non l (List.mem_of_getElem? el)]
            exact iteFo rfl ⟨_, _, rfl, (e7.trans e10).trans e11⟩
        · obtain ⟨y5, y6, rfl, e7⟩ := pv
          exact q _ (e6.trans e7)
end
end K7
end
/-! ## P20 -/
section
open PySem PySem.Spec PyProof.Rows L2
namespace K7
abbrev N__law_told : List Str := ["_law_sort", "_law_land_here", "_law_cell", "_law_passing", "_law_among", "_law_told_here", "_law_answer", "e"]
abbrev s__law_told : Stmt := topS 39
theorem sc__law_told : FnScope ["_law_sort", "_law_land_here", "_law_cell", "_law_passing", "_law_among", "_law_told_here", "_law_answer", "e"] ["_law_sort", "_law_land_here", "_law_cell", "_law_passing", "_law_among"] (defScope s__law_told) := ⟨rfl, rfl, rfl, by decide +kernel, rfl, by decide +kernel, by decide +kernel⟩
/-- what the top says of errors -/
structure Te (K : PySem.W.Frag) (mg : Str → Option Value) (B S L : Addr) : Prop where
  gL : mg "LandError" = some (.ref L)
  exB : ExcC K B
  exS : ExcC K S
  xfB : XfC K B
  xfS : XfC K S
  mB : PySem.W.exmOne K (.ref B) (.ref L) = some true
  mS : PySem.W.exmOne K (.ref S) (.ref L) = some true
  kBB : PySem.W.kitOne K (.ref B) (.ref B) = some true
  kSS : PySem.W.kitOne K (.ref S) (.ref S) = some true
  kBS : PySem.W.kitOne K (.ref B) (.ref S) = some false
  kSB : PySem.W.kitOne K (.ref S) (.ref B) = some false
section
variable {P : Program} {w : World} {K : PySem.W.Frag} {mg : Str → Option Value} {base : Heap} {a : AdL} {S iS L Pt : Addr}
/-- what is told of a refusal -/
def spTold (K : PySem.W.Frag) (a : AdL) (Pt : Addr) : Sp := fun vs H Q _ => ∃ (p : Addr) (n : Nat) (es : List (Nat × Nat)) (rd : List Nat) (sort : Int) (x y z : V), vs = [.int sort, .ref p, x, y, z] ∧ LandO a.C H p n es rd ∧ LamX.Tabs [(Pt, lamQ)] H ∧
  ((Thing H x ∧ wholeV x 0 ((n : Nat) - 1) = false ∧ K7E.reprOk x ∧ ∀ H' t, Same H H' → H' t = some (.tup [.bl true, .bl false, .str (K7E.reprV x)]) → Q (.ref t) H') ∨
   (∃ c : Nat, x = .int (c : Nat) ∧ c < n ∧ BadLot K n H y ∧ ∀ H' t, Same H H' → H' t = some (.tup [.bl false, .bl true, .str "passing"]) → Q (.ref t) H') ∨
   (∃ (c : Nat) (pa : Addr) (ps : List Nat), x = .int (c : Nat) ∧ c < n ∧ y = .ref pa ∧ SqOf H pa (ints_ ps) ∧ (∀ x ∈ ps, x < n) ∧ ps.Nodup ∧ BadLot K n H z ∧ ∀ H' t, Same H H' → H' t = some (.tup [.bl false, .bl true, .str "among"]) → Q (.ref t) H'))
theorem ok_told (T : Tl K mg a) (TS : Ts K mg S iS) (T3 : Te K mg a.B S L) {f fl1 fle : Addr} {fd fdl1 fdle : FuncData} (F : Fun K "_law_told" "_law_told" s__law_told f fd)
    (Gl1 : FnOk P w K mg base (L2.CX P w) 7 fl1 fdl1 ["land", "cell", "passing", "among"] (spLeast1 K a S Pt)) (gl1 : mg "least_lot" = some (.ref fl1)) (kl1 : PySem.W.keepIn K (.ref fl1) = true) (bl1 : Binds K fdl1 ["land", "cell", "passing", "among"] [])
    (Gle : FnOk P w K mg base (L2.CX P w) 6 fle fdle ["land", "cell", "passing", "among"] (spLeast K a S Pt)) (gle : mg "least_lots" = some (.ref fle)) (kle : PySem.W.keepIn K (.ref fle) = true) (ble : Binds K fdle ["land", "cell", "passing", "among"] [])
    (m_isinstance : mg "isinstance" = none) (m_repr : mg "repr" = none) : FnOk P w K mg base CX0 8 f fd ["_law_sort", "_law_land_here", "_law_cell", "_law_passing", "_law_among"] (spTold K a Pt) := by
  refine F.ok sc__law_told (fun vs H Q E h => ?_) (fun cdv A outer s H vs Q E hr h => ?_)
  · obtain ⟨p, n, es, rd, k, x, y, z, rfl, _⟩ := h
    rfl
  · obtain ⟨p, n, es, rd, sort, x, y, z, rfl, Lo, hT, h⟩ := h
    refine ⟨_, (pss_cons (ps_set (i := 5) sc__law_told.nd rfl (by first | exact Or.inl rfl | exact Or.inr rfl) pe_non)
 (pss_cons (ps_try_as (i := 7) rfl rfl sc__law_told.nd rfl rfl ⟨rfl, by decide, .inl T3.gL⟩ takes0 (fun W pn xe tk _ => (pss_one (ps_if (pt_cmpR op_eq (pv 0) pe_int (nomark _))
  (pss_one (ps_set (i := 6) sc__law_told.nd rfl (by first | exact Or.inl rfl | exact Or.inr rfl) (K7E.pe_callW Gl1 (hr.mono (by decide)) (by rfl) gl1 kl1 bl1 .nil tk (pa_cons (pv 1) (pa_cons (pv 2) (pa_cons (pv 3) (pa_cons (pv 4) pa_nil)))))))
  (pss_one (ps_set (i := 6) sc__law_told.nd rfl (by first | exact Or.inl rfl | exact Or.inr rfl) (K7E.pe_callW Gle (hr.mono (by decide)) (by rfl) gle kle ble .nil tk (pa_cons (pv 1) (pa_cons (pv 2) (pa_cons (pv 3) (pa_cons (pv 4) pa_nil)))))))))) (fun b oe cls d pn hz hf => (pss_one (ps_set (i := 5) sc__law_told.nd rfl (by first | exact Or.inl rfl | exact Or.inr rfl) (pe_tup (pa_cons (pe_callB ((K7E.call_isEdX T3.exB hz hf).or (K7E.call_isEdX T3.exS hz hf)) (by rfl) m_isinstance boot_isinstance (pa_cons (pv 7) (pa_cons (pe_glob (v := .ref _) rfl T.gB rfl) pa_nil))) (pa_cons (pe_callB ((K7E.call_isEdX T3.exB hz hf).or (K7E.call_isEdX T3.exS hz hf)) (by rfl) m_isinstance boot_isinstance (pa_cons (pv 7) (pa_cons (pe_glob (v := .ref _) rfl TS.g rfl) pa_nil))) (pa_cons (pe_ifExp (pt_val (pe_callB ((K7E.call_isEdX T3.exB hz hf).or (K7E.call_isEdX T3.exS hz hf)) (by rfl) m_isinstance boot_isinstance (pa_cons (pv 7) (pa_cons (pe_glob (v := .ref _) rfl T.gB rfl) pa_nil)))) (pe_callB K7E.call_reprF (by rfl) m_repr boot_repr (pa_cons (pe_xf T3.xfB T.nB hz hf (pv 7)) pa_nil)) (pe_xf T3.xfS TS.no hz hf (pv 7))) pa_nil))))))))
 (pss_one (ps_ret (pv 5))))), ?_⟩
    refine ⟨_, rfl, rfl, _, rfl, ?_⟩
    rcases h with ⟨th, wf, rp, q⟩ | ⟨c, rfl, hc, bl, q⟩ | ⟨c, pa, ps, rfl, hc, rfl, hpa, plt, pnd, bl, q⟩
    · refine ite2 (fun c1 => ?_) (fun c1 => ?_)
      · refine ⟨_, rfl, _, rfl, _, rfl, _, rfl, p, n, es, rd, _, _, _, rfl, Lo, hT, .inr ⟨th, wf, fun H' d' e nd hd => ?_⟩⟩
        refine ⟨true, T3.mB, fun _ b hb' => ?_, fun z => nomatch z⟩
        refine ⟨_, rfl, .inl ⟨rfl, d', rfl, .ref a.B, .ref a.B, true, _, rfl, fun u h => h, T3.kBB, hd, ?_⟩⟩
        refine ⟨_, rfl, .inl ⟨rfl, d', rfl, .ref S, .ref S, false, _, rfl, fun u h => h, T3.kBS, hd, ?_⟩⟩
        refine ⟨_, rfl, .inl ⟨rfl, d', rfl, .ref a.B, .ref a.B, true, _, rfl, fun u h => h, T3.kBB, hd, ?_⟩⟩
        refine ⟨_, rfl, iteT ?_⟩
        refine ⟨_, rfl, rfl, rfl, d', _, _, rfl, hd, rfl, x, rfl, rp, ?_⟩
        refine ⟨by show 3 ≤ sizeLine; decide, fun t nt => ?_⟩
        exact ⟨_, rfl, q _ t (e.trans (al nt)) upd_same⟩
      · refine ⟨_, rfl, _, rfl, _, rfl, _, rfl, p, n, es, rd, _, _, _, rfl, Lo, hT, .inr ⟨th, wf, fun H' d' e nd hd => ?_⟩⟩
        refine ⟨true, T3.mB, fun _ b hb' => ?_, fun z => nomatch z⟩
        refine ⟨_, rfl, .inl ⟨rfl, d', rfl, .ref a.B, .ref a.B, true, _, rfl, fun u h => h, T3.kBB, hd, ?_⟩⟩
        refine ⟨_, rfl, .inl ⟨rfl, d', rfl, .ref S, .ref S, false, _, rfl, fun u h => h, T3.kBS, hd, ?_⟩⟩
        refine ⟨_, rfl, .inl ⟨rfl, d', rfl, .ref a.B, .ref a.B, true, _, rfl, fun u h => h, T3.kBB, hd, ?_⟩⟩
        refine ⟨_, rfl, iteT ?_⟩
        refine ⟨_, rfl, rfl, rfl, d', _, _, rfl, hd, rfl, x, rfl, rp, ?_⟩
        refine ⟨by show 3 ≤ sizeLine; decide, fun t nt => ?_⟩
        exact ⟨_, rfl, q _ t (e.trans (al nt)) upd_same⟩
    · refine ite2 (fun c1 => ?_) (fun c1 => ?_)
      · refine ⟨_, rfl, _, rfl, _, rfl, _, rfl, p, n, es, rd, _, _, _, rfl, Lo, hT, .inl ⟨c, rfl, hc, .inr ⟨bl, fun H' d' e nd hd => ?_⟩⟩⟩
        refine ⟨true, T3.mS, fun _ b hb' => ?_, fun z => nomatch z⟩
        refine ⟨_, rfl, .inr ⟨rfl, d', rfl, .ref a.B, .ref a.B, false, _, rfl, fun u h => h, T3.kSB, hd, ?_⟩⟩
        refine ⟨_, rfl, .inr ⟨rfl, d', rfl, .ref S, .ref S, true, _, rfl, fun u h => h, T3.kSS, hd, ?_⟩⟩
        refine ⟨_, rfl, .inr ⟨rfl, d', rfl, .ref a.B, .ref a.B, false, _, rfl, fun u h => h, T3.kSB, hd, ?_⟩⟩
        refine ⟨_, rfl, iteF ?_⟩
        refine ⟨_, rfl, rfl, rfl, d', _, _, rfl, hd, rfl, ?_⟩
        refine ⟨by show 3 ≤ sizeLine; decide, fun t nt => ?_⟩
        exact ⟨_, rfl, q _ t (e.trans (al nt)) upd_same⟩
      · refine ⟨_, rfl, _, rfl, _, rfl, _, rfl, p, n, es, rd, _, _, _, rfl, Lo, hT, .inl ⟨c, rfl, hc, .inr ⟨bl, fun H' d' e nd hd => ?_⟩⟩⟩
        refine ⟨true, T3.mS, fun _ b hb' => ?_, fun z => nomatch z⟩
        refine ⟨_, rfl, .inr ⟨rfl, d', rfl, .ref a.B, .ref a.B, false, _, rfl, fun u h => h, T3.kSB, hd, ?_⟩⟩
        refine ⟨_, rfl, .inr ⟨rfl, d', rfl, .ref S, .ref S, true, _, rfl, fun u h => h, T3.kSS, hd, ?_⟩⟩
        refine ⟨_, rfl, .inr ⟨rfl, d', rfl, .ref a.B, .ref a.B, false, _, rfl, fun u h => h, T3.kSB, hd, ?_⟩⟩
        refine ⟨_, rfl, iteF ?_⟩
        refine ⟨_, rfl, rfl, rfl, d', _, _, rfl, hd, rfl, ?_⟩
        refine ⟨by show 3 ≤ sizeLine; decide, fun t nt => ?_⟩
        exact ⟨_, rfl, q _ t (e.trans (al nt)) upd_same⟩
    · refine ite2 (fun c1 => ?_) (fun c1 => ?_)
      · refine ⟨_, rfl, _, rfl, _, rfl, _, rfl, p, n, es, rd, _, _, _, rfl, Lo, hT, .inl ⟨c, rfl, hc, .inl ⟨pa, ps, rfl, hpa, plt, pnd, .inr ⟨bl, fun H' d' e nd hd => ?_⟩⟩⟩⟩
        refine ⟨true, T3.mS, fun _ b hb' => ?_, fun z => nomatch z⟩
        refine ⟨_, rfl, .inr ⟨rfl, d', rfl, .ref a.B, .ref a.B, false, _, rfl, fun u h => h, T3.kSB, hd, ?_⟩⟩
        refine ⟨_, rfl, .inr ⟨rfl, d', rfl, .ref S, .ref S, true, _, rfl, fun u h => h, T3.kSS, hd, ?_⟩⟩
        refine ⟨_, rfl, .inr ⟨rfl, d', rfl, .ref a.B, .ref a.B, false, _, rfl, fun u h => h, T3.kSB, hd, ?_⟩⟩
        refine ⟨_, rfl, iteF ?_⟩
        refine ⟨_, rfl, rfl, rfl, d', _, _, rfl, hd, rfl, ?_⟩
        refine ⟨by show 3 ≤ sizeLine; decide, fun t nt => ?_⟩
        exact ⟨_, rfl, q _ t (e.trans (al nt)) upd_same⟩
      · refine ⟨_, rfl, _, rfl, _, rfl, _, rfl, p, n, es, rd, _, _, _, rfl, Lo, hT, .inl ⟨c, rfl, hc, .inl ⟨pa, ps, rfl, hpa, plt, pnd, .inr ⟨bl, fun H' d' e nd hd => ?_⟩⟩⟩⟩
        refine ⟨true, T3.mS, fun _ b hb' => ?_, fun z => nomatch z⟩
        refine ⟨_, rfl, .inr ⟨rfl, d', rfl, .ref a.B, .ref a.B, false, _, rfl, fun u h => h, T3.kSB, hd, ?_⟩⟩
        refine ⟨_, rfl, .inr ⟨rfl, d', rfl, .ref S, .ref S, true, _, rfl, fun u h => h, T3.kSS, hd, ?_⟩⟩
        refine ⟨_, rfl, .inr ⟨rfl, d', rfl, .ref a.B, .ref a.B, false, _, rfl, fun u h => h, T3.kSB, hd, ?_⟩⟩
        refine ⟨_, rfl, iteF ?_⟩
        refine ⟨_, rfl, rfl, rfl, d', _, _, rfl, hd, rfl, ?_⟩
        refine ⟨by show 3 ≤ sizeLine; decide, fun t nt => ?_⟩
        exact ⟨_, rfl, q _ t (e.trans (al nt)) upd_same⟩
end
end K7
end
/-! ## P21 -/
section
open PySem PySem.Spec PyProof.Rows L2
namespace K7
abbrev N__law_right : List Str := ["_law_plain", "_law_land_here", "_law_cell", "_law_passing", "_law_among", "_law_first", "_law_second", "_law_due", "_law_told_here", "_law_lot", "_law_spared", "_law_b"]
abbrev s__law_right : Stmt := topS 40
theorem sc__law_right : FnScope ["_law_plain", "_law_land_here", "_law_cell", "_law_passing", "_law_among", "_law_first", "_law_second", "_law_due", "_law_told_here", "_law_lot", "_law_spared", "_law_b"] ["_law_plain", "_law_land_here", "_law_cell", "_law_passing", "_law_among"] (defScope s__law_right) := ⟨rfl, rfl, rfl, by decide +kernel, rfl, by decide +kernel, by decide +kernel⟩
theorem shapedT (ls : List (List Nat)) : SeqAt.shaped (.tuple (ls.map intD)) = true := by
  have z : ((PyData.canLay0 (.list (ls.map intD))) && decide (PyData.depth (.list (ls.map intD)) ≤ 64)) = true := shaped_rows ls
  show ((PyData.canLay0 (.tuple (ls.map intD))) && decide (PyData.depth (.tuple (ls.map intD)) ≤ 64)) = true
  simpa [PyData.canLay0, PyData.depth] using z
theorem shaped_self {d : PyData} (h : SeqAt.shaped d = true) : PyData.eqv d d = true := by
  have z : (PyData.canLay0 d && decide (PyData.depth d ≤ 64)) = true := h
  exact PySem.SeqAt.eqv_refl _ (Bool.and_eq_true_iff.mp z).1
theorem eqvT_nil (ls : List (List Nat)) : PyData.eqv (.tuple (ls.map intD)) (.tuple []) = ls.isEmpty := by
  cases ls with
  | nil => simp [PyData.eqv, PyData.eqvAll]
  | cons x r => simp [PyData.eqv, PyData.eqvAll]
theorem lay_ints (l : List Nat) : PyData.canLayAll0 (l.map fun c => PyData.int (c : Nat)) = true ∧ PyData.depthAll (l.map fun c => PyData.int (c : Nat)) = 0 := by
  induction l with
  | nil => exact ⟨by simp [PyData.canLayAll0], by simp [PyData.depthAll]⟩
  | cons x r ih => exact ⟨by simp [PyData.canLayAll0, PyData.canLay0, ih.1], by simp [PyData.depthAll, PyData.depth, ih.2]⟩
theorem shaped2 (l m : List Nat) : SeqAt.shaped (.tuple [.list (l.map fun c => PyData.int (c : Nat)), .list (m.map fun c => PyData.int (c : Nat))]) = true := by
  show (PyData.canLay0 (.tuple [.list (l.map fun c => PyData.int (c : Nat)), .list (m.map fun c => PyData.int (c : Nat))]) && decide (PyData.depth (.tuple [.list (l.map fun c => PyData.int (c : Nat)), .list (m.map fun c => PyData.int (c : Nat))]) ≤ 64)) = true
  simp [PyData.canLay0, PyData.canLayAll0, PyData.depth, PyData.depthAll, (lay_ints l).1, (lay_ints l).2, (lay_ints m).1, (lay_ints m).2]
/-- with one of its cells less a least lot opens no more -/
theorem least_spared {es : List (Nat × Nat)} {rd ps : List Nat} {c : Nat} {as l : List Nat} {x : Nat} (n5 : as.length ≤ 5) (asc : as.Pairwise (· < ·)) (h : l ∈ leastOf (opB es rd ps c) (lotsN as)) (hx : x ∈ l) : opB es rd ps c (l.filter fun b => decide (b ≠ x)) = false := by
  have L := least_is (p := opB es rd ps c) (lotsN_asc n5 asc)
  have sub := (mem_lotsN n5 asc).mp (L.mem l h).1
  refine Bool.eq_false_iff.mpr fun z => ?_
  have m := (mem_lotsN (l := l.filter fun b => decide (b ≠ x)) n5 asc).mpr ((List.filter_sublist).trans sub)
  have low := L.low l h _ m z
  have lt : (l.filter fun b => decide (b ≠ x)).length < l.length := by
    rcases Nat.lt_or_ge (l.filter fun b => decide (b ≠ x)).length l.length with y | y
    · exact y
    · have e := List.Sublist.eq_of_length_le (List.filter_sublist (p := fun b => decide (b ≠ x)) (l := l)) y
      rw [← e] at hx
      have := (List.mem_filter.mp hx).2
      simp at this
  omega
section
variable {P : Program} {w : World} {K : PySem.W.Frag} {mg : Str → Option Value} {base : Heap} {a : AdL} {S iS L Pt : Addr}
def spRight (a : AdL) (Pt : Addr) : Sp := fun vs H Q _ => ∃ (q0 p : Addr) (n : Nat) (es : List (Nat × Nat)) (lot : List Nat) (c : Nat) (pa : Addr) (ps : List Nat) (qa : Addr) (qs : List Nat), vs = [.ref q0, .ref p, .int (c : Nat), .ref pa, .ref qa] ∧ LandAt H q0 n es lot ∧ n ≤ 5 ∧ LandO a.C H p n es lot ∧ c < n ∧
  H pa = some (.lst (ints_ ps)) ∧ (∀ x ∈ ps, x < n) ∧ ps.Nodup ∧ H qa = some (.lst (ints_ qs)) ∧ (∀ x ∈ qs, x < n) ∧ qs.Nodup ∧ LamX.Tabs [(Pt, lamQ)] H ∧ ∀ H', LamX.ExtN H H' → LamX.Tabs [(Pt, lamQ)] H' → Q (.bl true) H'
theorem ok_right {f faal falo fle fl1 flo : Addr} {fd fdaal fdalo fdle fdl1 fdlo : FuncData} (F : Fun K "_law_right" "_law_right" s__law_right f fd)
    (Gaal : FnOk P w K mg base CX0 3 faal fdaal ["_law_plain", "_law_cell", "_law_passing", "_law_among"] spLAll) (gaal : mg "_law_all_least" = some (.ref faal)) (kaal : PySem.W.keepIn K (.ref faal) = true) (baal : Binds K fdaal ["_law_plain", "_law_cell", "_law_passing", "_law_among"] [])
    (Galo : FnOk P w K mg base CX0 3 falo fdalo ["_law_land_here", "_law_cell", "_law_passing", "_law_among"] spLLeast1) (galo : mg "_law_least" = some (.ref falo)) (kalo : PySem.W.keepIn K (.ref falo) = true) (balo : Binds K fdalo ["_law_land_here", "_law_cell", "_law_passing", "_law_among"] [])
    (Gle : FnOk P w K mg base (L2.CX P w) 6 fle fdle ["land", "cell", "passing", "among"] (spLeast K a S Pt)) (gle : mg "least_lots" = some (.ref fle)) (kle : PySem.W.keepIn K (.ref fle) = true) (ble : Binds K fdle ["land", "cell", "passing", "among"] [])
    (Gl1 : FnOk P w K mg base (L2.CX P w) 7 fl1 fdl1 ["land", "cell", "passing", "among"] (spLeast1 K a S Pt)) (gl1 : mg "least_lot" = some (.ref fl1)) (kl1 : PySem.W.keepIn K (.ref fl1) = true) (bl1 : Binds K fdl1 ["land", "cell", "passing", "among"] [])
    (Glo : FnOk P w K mg base CX0 2 flo fdlo ["_law_land_here", "_law_cell", "_law_passing"] spLOpen) (glo : mg "_law_open" = some (.ref flo)) (klo : PySem.W.keepIn K (.ref flo) = true) (blo : Binds K fdlo ["_law_land_here", "_law_cell", "_law_passing"] [])
    (m_isinstance : mg "isinstance" = none) (m_tuple : mg "tuple" = none) (m_list : mg "list" = none) : FnOk P w K mg base CX0 8 f fd ["_law_plain", "_law_land_here", "_law_cell", "_law_passing", "_law_among"] (spRight a Pt) := by
  refine F.ok sc__law_right (fun vs H Q E h => ?_) (fun cdv A outer s H vs Q E hr h => ?_)
  · obtain ⟨q0, p, n, es, lot, c, pa, ps, qa, qs, rfl, _⟩ := h
    rfl
  · obtain ⟨q0, p, n, es, lot, c, pa, ps, qa, qs, rfl, La, n5, Lo, hc, hpa, plt, pnd, hqa, qlt, qnd, hT, k⟩ := h
    refine ⟨_, (Evl.pss_cut (ps_par (by rfl) sc__law_right.nd (i := 5) (j := 6) rfl rfl (by decide) rfl rfl (pa_cons (pe_callTy call_list_of (by rfl) m_list boot_list (pa_cons (pv 3) pa_nil)) (pa_cons (pe_callTy call_list_of (by rfl) m_list boot_list (pa_cons (pv 4) pa_nil)) pa_nil)) (by rfl))
 (Evl.pss_cut (ps_set (i := 7) sc__law_right.nd rfl (by first | exact Or.inl rfl | exact Or.inr rfl) (pe_call Gaal (hr.mono (by decide)) (by rfl) gaal kaal baal .nil pass0 (pa_cons (pv 0) (pa_cons (pv 2) (pa_cons (pv 3) (pa_cons (pv 4) pa_nil))))))
 (Evl.pss_cut (ps_set (i := 8) sc__law_right.nd rfl (by first | exact Or.inl rfl | exact Or.inr rfl) (pe_call Gle (hr.mono (by decide)) (by rfl) gle kle ble .nil passL (pa_cons (pv 1) (pa_cons (pv 2) (pa_cons (pv 5) (pa_cons (pv 6) pa_nil))))))
 (Evl.pss_cut (ps_if (pw_or (pt_not (pt_val (pe_callB call_isi (by rfl) m_isinstance boot_isinstance (pa_cons (pv 8) (pa_cons (pe_bltn (v := .ty "tuple") (by rfl) m_tuple boot_tuple rfl) pa_nil))))) (pw_or1 (pt_cmpR (op_neD hr.units) (pv 8) (pv 7) (nomark _)))).pt
  (pss_one (ps_ret pe_bl))
  pss_nil)
 (Evl.pss_cut (ps_for PassesOwn.never rfl (pi_tup (pv 8)) (pg_name (i := 9) sc__law_right.nd rfl (by first | exact Or.inl rfl | exact Or.inr rfl))
  (Evl.pss_cut (ps_if (pw_or (pt_not (pt_val (pe_callB call_isi (by rfl) m_isinstance boot_isinstance (pa_cons (pv 9) (pa_cons (pe_bltn (v := .ty "tuple") (by rfl) m_tuple boot_tuple rfl) pa_nil))))) (pw_or1 (pt_not (pt_val (pe_call Glo (hr.mono (by decide)) (by rfl) glo klo blo .nil pass0 (pa_cons (pv 0) (pa_cons (pv 2) (pa_cons (pe_op op_cat (pv 5) (pe_callTy call_list_of (by rfl) m_list boot_list (pa_cons (pv 9) pa_nil))) pa_nil)))))))).pt
  (pss_one (ps_ret pe_bl))
  pss_nil)
 (pss_one (ps_for PassesOwn.never rfl (pi_tup (pv 9)) (pg_name (i := 10) sc__law_right.nd rfl (by first | exact Or.inl rfl | exact Or.inr rfl))
  (pss_one (ps_if (pt_val (pe_call Glo (hr.mono (by decide)) (by rfl) glo klo blo .nil pass0 (pa_cons (pv 0) (pa_cons (pv 2) (pa_cons (pe_op op_cat (pv 5) (pe_lc (own := [("_law_b", 11)]) (g := gName 11) rfl sc__law_right.nd (pi_tup (pv 9)) (blkOk_by (own := [("_law_b", 11)]) (N := N__law_right) (sc := defScope s__law_right) (by decide +kernel)) (fun _ _ _ _ _ => (pg_name (i := 11) sc__law_right.nd rfl (by first | exact Or.inl rfl | exact Or.inr rfl))) (fun _ _ _ _ _ => (pts_one (pt_cmpR op_ne (pv 11) (pv 10) (nomark _)))) (fun _ _ _ _ _ => (pv 11)))) pa_nil)))))
  (pss_one (ps_ret pe_bl))
  pss_nil))))))
 (Evl.pss_cut (ps_set (i := 9) sc__law_right.nd rfl (by first | exact Or.inl rfl | exact Or.inr rfl) (pe_call Gl1 (hr.mono (by decide)) (by rfl) gl1 kl1 bl1 .nil passL (pa_cons (pv 1) (pa_cons (pv 2) (pa_cons (pe_callTy call_tuple_of (by rfl) m_tuple boot_tuple (pa_cons (pv 5) pa_nil)) (pa_cons (pv 6) pa_nil))))))
 (pss_cons (ps_if (pt_cmpR op_isN (pv 9) pe_non (nomark _))
  (pss_one (ps_ret (pe_and (pe_cmpR (op_eqD hr.units) (pv 7) (pe_tup pa_nil) (nomark _)) (pe_one (pe_cmpR op_isN (pe_call Galo (hr.mono (by decide)) (by rfl) galo kalo balo .nil pass0 (pa_cons (pv 0) (pa_cons (pv 2) (pa_cons (pv 3) (pa_cons (pv 4) pa_nil))))) pe_non (nomark _))))))
  pss_nil)
 (pss_one (ps_ret (pe_and (pe_callB call_isi (by rfl) m_isinstance boot_isinstance (pa_cons (pv 9) (pa_cons (pe_bltn (v := .ty "tuple") (by rfl) m_tuple boot_tuple rfl) pa_nil))) (pe_and (pe_cmpR (op_neD hr.units) (pv 7) (pe_tup pa_nil) (nomark _)) (pe_and (pe_cmpR (op_eqD hr.units) (pv 9) (pe_ix ix_tup (pv 7) pe_int (fun _ _ => rfl)) (nomark _)) (pe_one (pe_cmpR (op_eqD hr.units) (pe_tup (pa_cons (pv 5) (pa_cons (pv 6) pa_nil))) (pe_tup (pa_cons (pe_callTy call_list_of (by rfl) m_list boot_list (pa_cons (pv 3) pa_nil)) (pa_cons (pe_callTy call_list_of (by rfl) m_list boot_list (pa_cons (pv 4) pa_nil)) pa_nil))) (nomark _))))))))))))))), ?_⟩
    have e32 := es_len La.ok n5
    have il : ∀ l : List Nat, (ints_ l).length = l.length := fun l => List.length_map ..
    have len5 : ∀ l : List Nat, l.Nodup → (∀ x ∈ l, x < n) → l.length ≤ 5 := fun l nd lt => by
      have z := K7E.nodup_le l (List.range n) nd fun x hx => List.mem_range.mpr (lt x hx)
      rw [List.length_range] at z
      omega
    have p5 := len5 ps pnd plt
    have q5 := len5 qs qnd qlt
    obtain ⟨as, has⟩ : ∃ as, as = ascOf n qs c := ⟨_, rfl⟩
    have as5 : as.length ≤ 5 := by rw [has]; exact Nat.le_trans ascOf_len n5
    have asc : as.Pairwise (· < ·) := by rw [has]; exact ascOf_asc n qs c
    obtain ⟨ls, hls⟩ : ∃ ls, ls = leastOf (opB es lot ps c) (lotsN as) := ⟨_, rfl⟩
    have LI := least_is (p := opB es lot ps c) (lotsN_asc as5 asc)
    rw [← hls] at LI
    -- rows of its own
    refine ⟨fun τ H' => ∃ A B, τ = [some (.ref q0), some (.ref p), some (.int (c : Nat)), some (.ref pa), some (.ref qa), some (.ref A), some (.ref B), none, none, none, none, none] ∧ Same H H' ∧ H' A = some (.lst (ints_ ps)) ∧ H' B = some (.lst (ints_ qs)), ?_, fun τ H1 hM => ?_⟩
    · refine ⟨_, rfl, pa, _, rfl, .inl (.inl (.inl hpa)), fun A nA => ?_⟩
      have s1 := al (o := .lst (ints_ ps)) nA
      refine ⟨_, rfl, qa, _, rfl, .inl (.inl (.inl (s1 _ _ hqa))), fun B nB => ?_⟩
      have s2 := al (o := .lst (ints_ qs)) nB
      exact ⟨_, _, rfl, A, B, rfl, s1.trans s2, s2 _ _ upd_same, upd_same⟩
    obtain ⟨A, B, rfl, e1, hA1, hB1⟩ := hM
    -- what is due
    refine ⟨fun τ H' => ∃ D ds, τ = [some (.ref q0), some (.ref p), some (.int (c : Nat)), some (.ref pa), some (.ref qa), some (.ref A), some (.ref B), some (.ref D), none, none, none, none] ∧ Same H1 H' ∧ H' D = some (.tup (ds.map V.ref)) ∧ TAt H' ds ls, ?_, fun τ H2 hM => ?_⟩
    · exact ⟨_, rfl, _, rfl, _, rfl, _, rfl, q0, n, es, lot, c, pa, ps, qa, qs, rfl, La.same e1, n5, hc, .inr (e1 _ _ hpa), p5, e1 _ _ hqa, qlt, qnd, fun H2 t us e2 ht tU => ⟨t, us, rfl, e2, ht, by rw [hls, has]; exact tU⟩⟩
    obtain ⟨D, ds, rfl, e2, hD2, tD⟩ := hM
    have e12 := e1.trans e2
    -- what is told
    refine ⟨fun τ H' => ∃ T ts, τ = [some (.ref q0), some (.ref p), some (.int (c : Nat)), some (.ref pa), some (.ref qa), some (.ref A), some (.ref B), some (.ref D), some (.ref T), none, none, none] ∧ LamX.ExtN H2 H' ∧ LamX.Tabs [(Pt, lamQ)] H' ∧ H' T = some (.tup (ts.map V.ref)) ∧ TAt H' ts ls, ?_, fun τ H3 hM => ?_⟩
    · exact ⟨_, rfl, _, rfl, _, rfl, _, rfl, p, n, es, lot, _, _, _, rfl, Lo.same e12, hT.ext e12, .inl ⟨c, rfl, hc, .inl ⟨A, ps, rfl, .inr (e2 _ _ hA1), plt, pnd, .inl ⟨B, qs, rfl, .inr (e2 _ _ hB1), qlt, qnd, fun H3 t us e3 T3 ht tU => ⟨t, us, rfl, e3, T3, ht, by rw [hls, has]; exact tU⟩⟩⟩⟩⟩
    obtain ⟨T, ts, rfl, e3, T3, hT3, tT⟩ := hM
    have lst_e : ∀ {H H' : Hp} {b : Addr} {xs : List V}, LamX.ExtN H H' → H b = some (.lst xs) → H' b = some (.lst xs) := fun e h => e _ _ h fun ps w => by cases w
    have tup_e : ∀ {H H' : Hp} {b : Addr} {xs : List V}, LamX.ExtN H H' → H b = some (.tup xs) → H' b = some (.tup xs) := fun e h => e _ _ h fun ps w => by cases w
    have e13 := (LamX.ExtN.of e12).trans e3
    have hD3 := tup_e e3 hD2
    have tD3 := tD.ext e3
    have hA3 := lst_e e3 (e2 _ _ hA1)
    have hB3 := lst_e e3 (e2 _ _ hB1)
    have La3 := La.ext e13
    have Lo3 := Lo.ext e13
    refine ⟨fun τ H' => τ = [some (.ref q0), some (.ref p), some (.int (c : Nat)), some (.ref pa), some (.ref qa), some (.ref A), some (.ref B), some (.ref D), some (.ref T), none, none, none] ∧ H' = H3, ?_, fun τ H4 hM => ?_⟩
    · refine ⟨_, rfl, _, _, _, _, _, rfl, .ty _, .base (.tup hT3), kit_ty (r := true) (by decide +kernel), _, rfl, ?_⟩
      refine iteFo rfl ?_
      refine ⟨_, rfl, _, rfl, .tuple (ls.map intD), .tuple (ls.map intD), .tup (.inl (.inl hT3)) (dp_rows tT), .tup (.inl (.inl hD3)) (dp_rows tD3), shapedT ls, shapedT ls, _, rfl, ?_⟩
      rw [shaped_self (shapedT ls)]
      exact iteFo rfl ⟨rfl, rfl⟩
    obtain ⟨rfl, rfl⟩ := hM
    -- each of them opens, and none with one cell less
    refine ⟨fun τ H' => ∃ y9 y10 y11, τ = [some (.ref q0), some (.ref p), some (.int (c : Nat)), some (.ref pa), some (.ref qa), some (.ref A), some (.ref B), some (.ref D), some (.ref T), y9, y10, y11] ∧ Same H4 H', ?_, fun τ H5 hM => ?_⟩
    · refine ⟨_, rfl, T, rfl, ⟨_, .inl (.inl hT3)⟩, for_tup (xs := ts.map V.ref) (fun i τ H' => ∃ y9 y10 y11, τ = [some (.ref q0), some (.ref p), some (.int (c : Nat)), some (.ref pa), some (.ref qa), some (.ref A), some (.ref B), some (.ref D), some (.ref T), y9, y10, y11] ∧ Same H4 H') ⟨none, none, none, rfl, Same.refl _⟩ (fun i τ H' _ pv => ?_) (fun i v τ H' hv pv => ?_) (fun τ H' pv => pv)⟩
      · obtain ⟨y9, y10, y11, rfl, e⟩ := pv
        exact .inl (.inl (e _ _ hT3))
      · obtain ⟨y9, y10, y11, rfl, e⟩ := pv
        rw [List.getElem?_map] at hv
        obtain ⟨ti, hti, rfl⟩ := Option.map_eq_some_iff.mp hv
        obtain ⟨l, el, hl0⟩ := tT.get hti
        have ml := List.mem_of_getElem? el
        have hl := e _ _ hl0
        have sub := (mem_lotsN as5 asc).mp (LI.mem l ml).1
        have ll : l.length ≤ 5 := by have := sub.length_le; omega
        have hop := (LI.mem l ml).2
        have hA := e _ _ hA3
        refine ⟨fun τ H'' => τ = [some (.ref q0), some (.ref p), some (.int (c : Nat)), some (.ref pa), some (.ref qa), some (.ref A), some (.ref B), some (.ref D), some (.ref T), some (.ref ti), y10, y11] ∧ Same H' H'', ?_, fun τ H6 hM => ?_⟩
        · refine ⟨_, rfl, _, _, _, _, _, rfl, .ty _, .base (.tup hl), kit_ty (r := true) (by decide +kernel), _, rfl, ?_⟩
          refine iteFo rfl ?_
          refine ⟨_, rfl, _, rfl, _, rfl, _, rfl, ti, _, rfl, .inr (.inl (.inl hl)), fun X nX => ?_⟩
          have s1 := al (o := .lst (ints_ l)) nX
          refine ⟨A, X, _, _, rfl, rfl, s1 _ _ hA, upd_same, ?_, fun C nC => ?_⟩
          · rw [il, show (List.map (fun c => V.int ((c : Nat) : Int)) l).length = l.length from List.length_map ..]
            exact Nat.le_trans (show ps.length + l.length ≤ 1000 by omega) (by decide)
          · have s2 := s1.trans (al (o := .lst (ints_ ps ++ ints_ l)) nC)
            refine ⟨q0, n, es, lot, c, C, ps ++ l, rfl, La3.same (e.trans s2), n5, e32, hc, .inr (by rw [upd_same]; unfold ints_; rw [List.map_append]), fun H6 b e6 hb => ⟨b, rfl, ?_⟩⟩
            rw [opB_iff hb, hop]
            exact iteFo rfl ⟨rfl, s2.trans e6⟩
        · obtain ⟨rfl, e6⟩ := hM
          have e46 := e.trans e6
          have hl6 := e6 _ _ hl
          refine ⟨_, rfl, ti, rfl, ⟨_, .inl (.inl hl6)⟩, for_tup (xs := ints_ l) (fun i τ H' => ∃ y10 y11, τ = [some (.ref q0), some (.ref p), some (.int (c : Nat)), some (.ref pa), some (.ref qa), some (.ref A), some (.ref B), some (.ref D), some (.ref T), some (.ref ti), y10, y11] ∧ Same H6 H') ⟨_, _, rfl, Same.refl _⟩ (fun j τ H7 _ pv => ?_) (fun j v τ H7 hv pv => ?_) (fun τ H7 pv => ?_)⟩
          · obtain ⟨y10, y11, rfl, e7⟩ := pv
            exact .inl (.inl (e7 _ _ hl6))
          · obtain ⟨y10, y11, rfl, e7⟩ := pv
            unfold ints_ at hv
            rw [List.getElem?_map] at hv
            obtain ⟨x, hx, rfl⟩ := Option.map_eq_some_iff.mp hv
            have hl7 := e7 _ _ hl6
            have hA7 := e7 _ _ (e6 _ _ hA)
            refine ⟨_, rfl, _, rfl, _, rfl, _, rfl, ti, rfl, ⟨_, .inl (.inl hl7)⟩, fun X hX => lc_tup (xs := ints_ l) (fun j H8 => Same H7 H8 ∧ H8 X = some (.lst (ints_ ((l.take j).filter fun b => decide (b ≠ x))))) ⟨same_new (Same.refl H7) hX, upd_same⟩ (fun j H8 _ pv => .inl (.inl (pv.1 _ _ hl7))) (fun j y H8 hy pv => ?_) (fun H8 pv => ?_)⟩
            · obtain ⟨e8, hX8⟩ := pv
              unfold ints_ at hy
              rw [List.getElem?_map] at hy
              obtain ⟨k', hk, rfl⟩ := Option.map_eq_some_iff.mp hy
              have ft := filter_take (p := fun b => decide (b ≠ x)) hk
              refine ⟨rfl, _, rfl, _, rfl, rfl, _, rfl, ?_⟩
              change if (!decide (V.int (k' : Nat) = V.int (x : Nat))) = true then _ else _
              rw [dec_int]
              by_cases z : k' = x
              · rw [decide_eq_true z]
                refine iteFo rfl ⟨e8, ?_⟩
                rw [ft, if_neg (by simpa using z), List.append_nil]
                exact hX8
              · rw [decide_eq_false z]
                refine iteTo rfl ⟨_, rfl, _, hX8, ?_, fun b o hb => ?_, ?_⟩
                · rw [il]
                  exact small1000 (Nat.le_trans (List.length_filter_le _ _) (by rw [List.length_take]; omega))
                · rw [upd_ne (ne_of_none hb hX)]
                  exact e8 _ _ hb
                · rw [upd_same, ft, if_pos (by simpa using z), ints_snoc]
            · obtain ⟨e8, hX8⟩ := pv
              rw [il, List.take_length] at hX8
              refine ⟨A, X, _, _, rfl, rfl, e8 _ _ hA7, hX8, ?_, fun C nC => ?_⟩
              · rw [il, il]
                have := List.length_filter_le (fun b => decide (b ≠ x)) l
                exact Nat.le_trans (show ps.length + (l.filter fun b => decide (b ≠ x)).length ≤ 1000 by omega) (by decide)
              · have s2 := e8.trans (al (o := .lst (ints_ ps ++ ints_ (l.filter fun b => decide (b ≠ x)))) nC)
                refine ⟨q0, n, es, lot, c, C, ps ++ l.filter fun b => decide (b ≠ x), rfl, La3.same (e46.trans (e7.trans s2)), n5, e32, hc, .inr (by rw [upd_same]; unfold ints_; rw [List.map_append]), fun H9 b e9 hb => ⟨b, rfl, ?_⟩⟩
                rw [opB_iff hb, least_spared as5 asc (by rw [← hls]; exact ml) (List.mem_of_getElem? hx)]
                exact iteFo rfl ⟨_, _, rfl, e7.trans (s2.trans e9)⟩
          · obtain ⟨y10, y11, rfl, e7⟩ := pv
            exact ⟨_, _, _, rfl, e46.trans e7⟩
    obtain ⟨y9, y10, y11, rfl, e5⟩ := hM
    have e15 := e13.trans (LamX.ExtN.of e5)
    have Lo5 := Lo.ext e15
    have hA5 := e5 _ _ hA3
    have hB5 := e5 _ _ hB3
    -- the first of them
    refine ⟨fun τ H' => ∃ v, τ = [some (.ref q0), some (.ref p), some (.int (c : Nat)), some (.ref pa), some (.ref qa), some (.ref A), some (.ref B), some (.ref D), some (.ref T), some v, y10, y11] ∧ LamX.ExtN H5 H' ∧ LamX.Tabs [(Pt, lamQ)] H' ∧ ((∃ t l r, v = .ref t ∧ H' t = some (.tup (ints_ l)) ∧ ls = l :: r) ∨ (v = .non ∧ ls = [])), ?_, fun τ H6 hM => ?_⟩
    · refine ⟨_, rfl, _, rfl, _, rfl, A, _, rfl, .inl ⟨.inl (.inl hA5), fun U nU => ?_⟩⟩
      have s1 := al (o := .tup (ints_ ps)) nU
      exact ⟨_, rfl, p, n, es, lot, _, _, _, rfl, Lo5.same s1, (T3.ext e5).ext s1, .inl ⟨c, rfl, hc, .inl ⟨U, ps, rfl, .inl upd_same, plt, pnd, .inl ⟨B, qs, rfl, .inr (s1 _ _ hB5), qlt, qnd, (fun H' t l r e T' ht eq => ⟨_, rfl, (LamX.ExtN.of s1).trans e, T', .inl ⟨t, l, r, rfl, ht, by rw [hls, has]; exact eq⟩⟩), (fun H' e T' eq => ⟨_, rfl, (LamX.ExtN.of s1).trans e, T', .inr ⟨rfl, by rw [hls, has]; exact eq⟩⟩)⟩⟩⟩⟩
    obtain ⟨v, rfl, e6, T6, hv⟩ := hM
    have e16 := e15.trans e6
    have hD6 := tup_e e6 (e5 _ _ hD3)
    have tD6 := (tD3.same e5).ext e6
    have hA6 := lst_e e6 hA5
    have hB6 := lst_e e6 hB5
    have La6 := La.ext e16
    have hpa6 := lst_e e16 hpa
    have hqa6 := lst_e e16 hqa
    rcases hv with ⟨t, l, r, rfl, ht, el⟩ | ⟨rfl, el⟩
    · refine ⟨_, rfl, rfl, _, rfl, ?_⟩
      rw [decide_eq_false (by intro z; cases z)]
      refine iteFo rfl ?_
      refine ⟨_, rfl, _, _, _, _, _, rfl, .ty _, .base (.tup ht), kit_ty (r := true) (by decide +kernel), _, rfl, iteTo rfl ?_⟩
      refine ⟨_, rfl, by show 0 ≤ sizeLine; decide, fun Z nZ => ?_⟩
      have s1 := al (o := .tup []) nZ
      refine ⟨.tuple (ls.map intD), .tuple [], .tup (.inl (.inl (s1 _ _ hD6))) (dp_rows (tD6.same s1)), .tup (.inl (.inl upd_same)) .nil, shapedT ls, shapedT [], ?_⟩
      rw [eqvT_nil, el]
      have ht7 := s1 _ _ ht
      have hD7 := s1 _ _ hD6
      have tD7 := tD6.same s1
      generalize upd H6 Z (.tup []) = H7 at s1 ht7 hD7 tD7 ⊢
      rw [el] at tD7
      obtain ⟨d0, dr, rfl⟩ : ∃ d0 dr, ds = d0 :: dr := by
        cases tD7 with
        | cons h _ => exact ⟨_, _, rfl⟩
      obtain ⟨l1, el1, hl1⟩ := tD7.get (i := 0) rfl
      obtain rfl : l = l1 := Option.some.inj el1
      refine ⟨_, rfl, iteTo rfl ⟨_, rfl, _, rfl, D, _, _, _, rfl, rfl, .inl (.inl hD7), atI_nat (j := 0) rfl, intD l, intD l, .tup (.inl (.inl ht7)) (dp_ints l), .tup (.inl (.inl hl1)) (dp_ints l), shaped_ints l, shaped_ints l, ?_⟩⟩
      rw [shaped_self (shaped_ints l)]
      refine ⟨_, rfl, iteTo rfl ⟨_, rfl, _, rfl, by show 2 ≤ sizeLine; decide, fun W nW => ?_⟩⟩
      have s2 := s1.trans (al (o := .tup [.ref A, .ref B]) nW)
      have hW : upd H7 W (.tup [.ref A, .ref B]) W = some (.tup [.ref A, .ref B]) := upd_same
      generalize upd H7 W (.tup [.ref A, .ref B]) = H8 at s2 hW ⊢
      refine ⟨_, rfl, pa, _, rfl, .inl (.inl (.inl (s2 _ _ hpa6))), fun X nX => ?_⟩
      have s3 := s2.trans (al (o := .lst (ints_ ps)) nX)
      have f3 := al (o := .lst (ints_ ps)) nX
      refine ⟨_, rfl, qa, _, rfl, .inl (.inl (.inl (s3 _ _ hqa6))), fun Y nY => ?_⟩
      have f4 := al (o := .lst (ints_ qs)) nY
      have s4 := s3.trans f4
      refine ⟨by show 2 ≤ sizeLine; decide, fun Z' nZ' => ?_⟩
      have f5 := al (o := .tup [.ref X, .ref Y]) nZ'
      have s5 := s4.trans f5
      refine ⟨_, _, .tup (.inl (.inl (f5 _ _ (f4 _ _ (f3 _ _ hW))))) (.cons (.lst (.inl (.inl (s5 _ _ hA6))) (dp_ints ps)) (.cons (.lst (.inl (.inl (s5 _ _ hB6))) (dp_ints qs)) .nil)), .tup (.inl (.inl upd_same)) (.cons (.lst (.inl (.inl (f5 _ _ (f4 _ _ upd_same)))) (dp_ints ps)) (.cons (.lst (.inl (.inl (f5 _ _ upd_same))) (dp_ints qs)) .nil)), shaped2 ps qs, shaped2 ps qs, ?_⟩
      rw [shaped_self (shaped2 ps qs)]
      exact k _ (e16.trans (LamX.ExtN.of s5)) (T6.ext s5)
    · refine ⟨_, rfl, rfl, _, rfl, ?_⟩
      rw [decide_eq_true rfl]
      refine iteTo rfl ?_
      refine ⟨_, rfl, by show 0 ≤ sizeLine; decide, fun Z nZ => ?_⟩
      have s1 := al (o := .tup []) nZ
      refine ⟨.tuple (ls.map intD), .tuple [], .tup (.inl (.inl (s1 _ _ hD6))) (dp_rows (tD6.same s1)), .tup (.inl (.inl upd_same)) .nil, shapedT ls, shapedT [], ?_⟩
      rw [eqvT_nil, el]
      refine ⟨_, rfl, iteTo rfl ⟨_, rfl, _, rfl, _, rfl, _, rfl, q0, n, es, lot, c, pa, ps, qa, qs, rfl, La6.same s1, n5, hc, .inr (s1 _ _ hpa6), p5, s1 _ _ hqa6, qlt, qnd, by rw [← has, ← hls]; exact el, fun H7 e7 => ?_⟩⟩
      refine ⟨rfl, ?_⟩
      rw [decide_eq_true rfl]
      have s2 := s1.trans e7
      exact k _ (e16.trans (LamX.ExtN.of s2)) (T6.ext s2)
end
end K7
end
/-! ## P22 -/
section
open PySem PySem.Spec PyProof.Rows L2
namespace K7
abbrev N_law : List Str := ["_law_script", "_law_hand_here", "_law_plain", "_law_n", "_law_land_here", "_law_lots_here", "_law_cell", "_law_away", "_law_b", "_law_passing", "_law_among", "_law_numbers", "_law_k", "_law_told_here", "_law_bad", "_law_wrong", "_law_sort"]
abbrev s_law : Stmt := topS 41
theorem sc_law : FnScope ["_law_script", "_law_hand_here", "_law_plain", "_law_n", "_law_land_here", "_law_lots_here", "_law_cell", "_law_away", "_law_b", "_law_passing", "_law_among", "_law_numbers", "_law_k", "_law_told_here", "_law_bad", "_law_wrong", "_law_sort"] ["_law_script"] (defScope s_law) := ⟨rfl, rfl, rfl, by decide +kernel, rfl, by decide +kernel, by decide +kernel⟩
section
variable {a : AdL}
theorem new_land {H1 : Hp} {Q : VK} {E : XK} {n : Nat} {an : Addr} {ts : List Addr} {cs : List (Nat × Nat)} {ar : Addr} {lot : List Nat} (n2 : 2 ≤ n) (n5 : n ≤ 5) (han : SqOf H1 an (ts.map V.ref)) (hT : CoAll H1 ts cs) (hc : Cos n cs) (cn : KL.Conn n cs) (har : SqOf H1 ar (ints_ lot)) (llt : ∀ c ∈ lot, c < n) (lnd : lot.Nodup) (l0 : 0 < lot.length) (ln : lot.length < n)
    (q : ∀ H' x es rd, Same H1 H' → H1 x = none → LandO a.C H' x n es rd → es.Perm (cs.map KL.srt) → rd.Perm lot → Q (.ref x) H') :
    ∀ x dx, H1 x = none → H1 dx = none → dx ≠ x → spLandI a (.ref x :: ([.int (n : Nat), .ref an, .ref ar] ++ [])) (upd (upd H1 dx (.own x)) x (.ins a.C dx [])) (fun v H2 => v = .non ∧ Q (.ref x) H2) E := by
  intro x dx hx hdx hne
  have e : Same H1 (upd (upd H1 dx (.own x)) x (.ins a.C dx [])) := same_new (same_new (Same.refl H1) hdx) (by rw [upd_ne hne.symm]; exact hx)
  refine ⟨x, dx, n, an, ts, cs, ar, lot, rfl, upd_same, n2, n5, han.same e, hT.same e, hc, cn, har.same e, llt, lnd, l0, ln, fun H' es rd b L pe pr => ⟨rfl, q H' x es rd (fun z o hz => ?_) hx L pe pr⟩⟩
  exact b z o (ne_of_none hz hx) (e _ _ hz)
theorem es_is {n : Nat} {es cs : List (Nat × Nat)} (ok : LandOk n es) (p : es.Perm cs) (hs : cs.Pairwise KL.lexLe) : es = cs := KL.uniq KL.lex_anti p (ok.sorted.imp fun h => h) hs
theorem rd_is {rd lot : List Nat} (hr : rd.Pairwise (· ≤ ·)) (p : rd.Perm lot) (hs : lot.Pairwise (· ≤ ·)) : rd = lot := KL.uniq (fun a b (h1 : a ≤ b) (h2 : b ≤ a) => Nat.le_antisymm h1 h2) p hr hs
end
theorem co_lit {H : Hp} {ts : List Addr} {cs : List (Nat × Nat)} (h : TAt H ts (pairs cs)) : CoAll H ts cs := by
  refine ⟨by rw [h.len]; unfold pairs; rw [List.length_map], fun i t c ht hc => ?_⟩
  obtain ⟨l, el, hl⟩ := h.get ht
  unfold pairs at el
  rw [List.getElem?_map, hc] at el
  obtain rfl := Option.some.inj el
  exact .inl hl
theorem lot_lt {n : Nat} (hn : n ≤ 5) {lot : List Nat} (h : lot ∈ lotsTo (List.range n) n) : (∀ c ∈ lot, c < n) ∧ lot.Pairwise (· < ·) := by
  have all : ∀ n : Fin 6, (lotsTo (List.range n.val) n.val).all (fun l => l.all (fun c => decide (c < n.val)) && decide (l.Pairwise (· < ·))) = true := by decide +kernel
  have z := List.all_eq_true.mp (all ⟨n, by omega⟩) lot h
  obtain ⟨z1, z2⟩ := Bool.and_eq_true_iff.mp z
  exact ⟨fun c hc => of_decide_eq_true (List.all_eq_true.mp z1 c hc), of_decide_eq_true z2⟩
theorem srt_map {n : Nat} {es : List (Nat × Nat)} (ok : LandOk n es) : es.map KL.srt = es := by
  refine (List.map_congr_left fun e he => ?_).trans (List.map_id es)
  exact KL.srt_of (ok.lt e he).1
theorem cos_es {n : Nat} {es : List (Nat × Nat)} (ok : LandOk n es) (hn : n ≤ 5) : Cos n es := by
  refine ⟨fun c hc => ?_, by rw [srt_map ok]; exact ok.nd, es_len ok hn⟩
  obtain ⟨l1, l2⟩ := ok.lt c hc
  exact ⟨by omega, l2, by omega⟩


def sg (pre : List (Option V)) : L2.St := pre ++ List.replicate (17 - pre.length) none
section
variable {K : PySem.W.Frag}
theorem any_ty {t : String} (h1 : PySem.W.kitOne K (.type t) (.type "list") = some false) (h2 : PySem.W.kitOne K (.type t) (.type "tuple") = some false) : PySem.W.kitAny K (.type t) [.type "list", .type "tuple"] = some false := kitAny_cons (b := false) h1 (fun _ => kitAny_cons (b := false) h2 (fun _ => kitAny_nil) (fun z => nomatch z)) (fun z => nomatch z)
/-- what is no lot of cells -/
inductive Wrong (n : Nat) (H : Hp) (h : Addr) : V → Prop
  | flat {v : V} (f : Flat4 v) : Wrong n H h v
  | row {b : Addr} {xs : List V} (hb : H b = some (.lst xs)) (ne : b ≠ h) (fl : ∀ x ∈ xs, Flat4 x) (l : xs.length < 64) (cv : cellsV (n : Nat) xs 0 = false) : Wrong n H h (.ref b)
  | tup {b : Addr} {xs : List V} (hb : H b = some (.tup xs)) (ne : b ≠ h) (fl : ∀ x ∈ xs, Flat4 x) (l : xs.length < 64) (cv : cellsV (n : Nat) xs 0 = false) : Wrong n H h (.ref b)
theorem Wrong.stay {n : Nat} {H H' : Hp} {h c : Addr} {v : V} (w : Wrong n H h v) (s : Stay h c H H') : Wrong n H' h v := by
  cases w with
  | flat f => exact .flat f
  | row hb ne fl l cv => exact .row (s.but _ _ ne hb) ne fl l cv
  | tup hb ne fl l cv => exact .tup (s.but _ _ ne hb) ne fl l cv
theorem Wrong.same {n : Nat} {H H' : Hp} {h : Addr} {v : V} (w : Wrong n H h v) (e : Same H H') : Wrong n H' h v := by
  cases w with
  | flat f => exact .flat f
  | row hb ne fl l cv => exact .row (e _ _ hb) ne fl l cv
  | tup hb ne fl l cv => exact .tup (e _ _ hb) ne fl l cv
theorem Wrong.bad {n : Nat} {H : Hp} {h : Addr} {v : V} (w : Wrong n H h v) : BadLot K n H v := by
  cases w with
  | row hb ne fl l cv => exact .inr ⟨_, _, rfl, .inr hb, fun z hz => .flat (fl z hz), l, cv⟩
  | tup hb ne fl l cv => exact .inr ⟨_, _, rfl, .inl hb, fun z hz => .flat (fl z hz), l, cv⟩
  | flat f =>
    cases f with
    | non => exact .inl ⟨"NoneType", fun _ _ => .base .non, any_ty (kit_ty (by decide +kernel)) (kit_ty (by decide +kernel))⟩
    | bl b => exact .inl ⟨"bool", fun _ _ => .base (.bl b), any_ty (kit_ty (by decide +kernel)) (kit_ty (by decide +kernel))⟩
    | int i => exact .inl ⟨"int", fun _ _ => .base (.int i), any_ty (kit_ty (by decide +kernel)) (kit_ty (by decide +kernel))⟩
    | str z => exact .inl ⟨"str", fun _ _ => .base (.str z), any_ty (kit_ty (by decide +kernel)) (kit_ty (by decide +kernel))⟩
theorem one_bad {n : Nat} {x : V} (h : wholeV x 0 ((n : Nat) - 1) = false) : cellsV (n : Nat) [x] 0 = false := by
  unfold cellsV
  rw [show ([x].all fun x => wholeV x 0 ((n : Nat) - 1)) = false by show (wholeV x 0 ((n : Nat) - 1) && true) = false; rw [h]; rfl]
  rw [Bool.and_false, Bool.false_and]
theorem two_bad {n : Nat} (ps : List Nat) (c : Nat) : cellsV (n : Nat) (ints_ (ps ++ [c, c])) 0 = false := by
  unfold cellsV
  have : ¬ ((ints_ (ps ++ [c, c])).map intOf).Nodup := by
    unfold ints_
    rw [List.map_map, List.map_append]
    intro h
    have z := (List.nodup_append.mp h).2.1
    rw [List.map_cons, List.map_cons] at z
    exact (List.nodup_cons.mp z).1 (List.mem_cons_self ..)
  rw [decide_eq_false this, Bool.and_false]
theorem three_ok {b d : Bool} {z : Str} (ok : PyData.strOk z = true) : SeqAt.shaped (.tuple [.bool b, .bool d, .str z]) = true ∧ PyData.canLay0 (.tuple [.bool b, .bool d, .str z]) = true := by
  have h : PyData.canLay0 (.tuple [.bool b, .bool d, .str z]) = true := by simp [PyData.canLay0, PyData.canLayAll0, ok]
  refine ⟨?_, h⟩
  show (PyData.canLay0 (.tuple [.bool b, .bool d, .str z]) && decide (PyData.depth (.tuple [.bool b, .bool d, .str z]) ≤ 64)) = true
  rw [h]
  simp [PyData.depth, PyData.depthAll]
theorem lots_all : ∀ n : Fin 6, 2 ≤ n.val → 0 < (lotsTo (List.range n.val) n.val).length ∧ (lotsTo (List.range n.val) n.val).length ≤ 1000 ∧ (lotsTo (List.range n.val) n.val).all (fun l => decide (l.length ≤ 5)) = true := by decide +kernel
end
theorem cut_mem {xs : List V} {lo hi : Option Int} : ∀ z ∈ cutV xs lo hi, z ∈ xs := fun z hz => by
  unfold cutV at hz
  exact List.mem_of_mem_drop (List.mem_of_mem_take hz)
theorem cut_hi {xs : List V} {k : Nat} (h : 0 < xs.length) (hk : 0 < k) : 0 < (cutV xs none (some ((k : Nat) : Int))).length := by
  unfold cutV
  rw [HT.sIx_nat, HT.sIx_none, List.length_take, List.length_drop]
  omega
theorem cut_lo {xs : List V} {k : Nat} (h : k < xs.length) : 0 < (cutV xs (some ((k : Nat) : Int)) none).length := by
  unfold cutV
  rw [HT.sIx_nat, HT.sIx_none, List.length_take, List.length_drop]
  omega
theorem away_some {n : Nat} {lot : List Nat} (h : lot.length < n) : 0 < ((List.range n).filter fun b => !decide (b ∈ lot)).length := by
  refine Nat.pos_of_ne_zero fun z => ?_
  have e := List.length_eq_zero_iff.mp z
  have all : ∀ b ∈ List.range n, b ∈ lot := fun b hb => by
    have y := List.filter_eq_nil_iff.mp e b hb
    by_cases m : b ∈ lot
    · exact m
    · rw [decide_eq_false m] at y
      exact absurd rfl y
  have y := K7E.nodup_le (List.range n) lot List.nodup_range all
  rw [List.length_range] at y
  omega
theorem range_flt (p : Nat → Bool) (i : Nat) : (List.range (i + 1)).filter p = (List.range i).filter p ++ (if p i = true then [i] else []) := by
  rw [List.range_succ, List.filter_append]
  congr 1
  show [i].filter p = _
  rw [List.filter_cons]
  rfl
theorem repr_ok : K7E.reprOk (.str "0") ∧ PyData.strOk (K7E.reprV (.str "0")) = true ∧ PyData.strOk (K7E.reprV .non) = true ∧ ∀ b, PyData.strOk (K7E.reprV (.bl b)) = true := by
  refine ⟨?_, by decide +kernel, by decide +kernel, by decide +kernel⟩
  show (reprText "0").length ≤ sizeLine
  decide +kernel
theorem repr_int (i : Int) : PyData.strOk (K7E.reprV (.int i)) = true := K7E.strOk_of _
theorem log_ok {i : Int} (h : i.natAbs < 2 ^ 200) : i.natAbs.log2 < 1920 := by
  by_cases e : i.natAbs = 0
  · rw [e]; decide
  · rw [Nat.log2_lt e]
    exact Nat.lt_trans h (Nat.pow_lt_pow_right (a := 2) (by decide) (by decide))
/-- numbers that differ in what is left over five -/
theorem fives {zs : List Int} (h5 : zs.length ≤ 5) (h : ∀ (j : Nat) z, zs[j]? = some z → ∃ d : Int, z = d * 5 + j) {ms : List Int} (pm : ms.Perm zs) (so : ms.Pairwise (· ≤ ·)) : ms.length ≤ 5 ∧ ms.Pairwise (· < ·) := by
  refine ⟨by rw [pm.length_eq]; exact h5, ?_⟩
  have nd : zs.Nodup := List.nodup_iff_pairwise_ne.mpr (List.pairwise_iff_getElem.mpr fun i j hi hj ij e => by
    obtain ⟨d, hd⟩ := h i _ (List.getElem?_eq_getElem hi)
    obtain ⟨d', hd'⟩ := h j _ (List.getElem?_eq_getElem hj)
    rw [hd, hd'] at e
    omega)
  have nd2 := pm.nodup_iff.mpr nd
  exact (so.and (List.nodup_iff_pairwise_ne.mp nd2)).imp fun h => by omega
def dI (l : List Int) : PyData := .tuple (l.map PyData.int)
theorem dp_TI {K : PySem.W.Frag} {H : Hp} : ∀ {ts : List Addr} {ls : List (List Int)}, TI H ts ls → DpAll K H (ts.map V.ref) (ls.map dI)
  | [], [], _ => .nil
  | _ :: _, _ :: _, .cons h r => .cons (.tup (.inl (.inl h)) (dp_intsZ _)) (dp_TI r)
theorem lay_I (l : List Int) : PyData.canLayAll0 (l.map PyData.int) = true ∧ PyData.depthAll (l.map PyData.int) = 0 := by
  induction l with
  | nil => exact ⟨by simp [PyData.canLayAll0], by simp [PyData.depthAll]⟩
  | cons x r ih => exact ⟨by simp [PyData.canLayAll0, PyData.canLay0, ih.1], by simp [PyData.depthAll, PyData.depth, ih.2]⟩
theorem lay_II (ls : List (List Int)) : PyData.canLayAll0 (ls.map dI) = true ∧ PyData.depthAll (ls.map dI) ≤ 1 := by
  induction ls with
  | nil => exact ⟨by simp [PyData.canLayAll0], by simp [PyData.depthAll]⟩
  | cons x r ih =>
    have e1 : PyData.canLay0 (dI x) = true := by unfold dI; simp [PyData.canLay0, (lay_I x).1]
    have e2 : PyData.depth (dI x) = 1 := by unfold dI; simp [PyData.depth, (lay_I x).2]
    refine ⟨by rw [List.map_cons, PyData.canLayAll0, e1, ih.1]; rfl, ?_⟩
    rw [List.map_cons, PyData.depthAll, e2]
    omega
theorem shaped_II (ls : List (List Int)) : SeqAt.shaped (.tuple (ls.map dI)) = true := by
  obtain ⟨h1, h2⟩ := lay_II ls
  show (PyData.canLay0 (.tuple (ls.map dI)) && decide (PyData.depth (.tuple (ls.map dI)) ≤ 64)) = true
  have e1 : PyData.canLay0 (.tuple (ls.map dI)) = true := by simp [PyData.canLay0, h1]
  have e2 : PyData.depth (.tuple (ls.map dI)) ≤ 64 := by simp only [PyData.depth]; omega
  rw [e1, decide_eq_true e2]
  rfl
theorem Stay.put {h c D : Addr} {H H' : Hp} {o : HO} (x : Stay h c H H') (hD : H D = none) : Stay h c H (upd H' D o) := by
  have n := x.hand0.ne hD
  refine ⟨fun b o' nb hb => ?_, x.hand0, ?_⟩
  · rw [upd_ne (ne_of_none hb hD)]
    exact x.but b o' nb hb
  · obtain ⟨ns, i, z, t, h1, h2, B⟩ := x.hand
    exact ⟨ns, i, z, t, by rw [upd_ne n.1.symm]; exact h1, by rw [upd_ne n.2.symm]; exact h2, B⟩
theorem Hand.ext {H H' : Hp} {h c : Addr} (x : Hand H h c) (e : LamX.ExtN H H') : Hand H' h c := by
  obtain ⟨ns, i, x, t, h1, h2, B⟩ := x
  exact ⟨ns, i, x, t, e _ _ h1 (fun ps z => by cases z), e _ _ h2 (fun ps z => by cases z), B⟩
theorem tabs_stay {T : List (Addr × Str)} {h c : Addr} {H H' : Hp} (s : Stay h c H H') (t : LamX.Tabs T H) : LamX.Tabs T H' := by
  obtain ⟨ns, i, x, y, h1, _, _⟩ := s.hand0
  exact tabs_but h1 s.but t
/-- all that the law holds on to -/
structure Lw (Cl Pt h c q0 p Lo : Addr) (n : Nat) (es : List (Nat × Nat)) (lot : List Nat) (ts : List Addr) (rs : List (Addr × List Nat)) (H : Hp) : Prop where
  hand : Hand H h c
  la : LandAt H q0 n es lot
  lo : LandO Cl H p n es lot
  lots : H Lo = some (.lst (ts.map V.ref))
  tl : TAt H ts (lotsTo (List.range n) n)
  rows : ∀ r ∈ rs, H r.1 = some (.lst (ints_ r.2))
  tb : LamX.Tabs [(Pt, lamQ)] H
section
variable {Cl Pt h c q0 p Lo : Addr} {n : Nat} {es : List (Nat × Nat)} {lot : List Nat} {ts : List Addr} {rs : List (Addr × List Nat)} {H H' : Hp}
theorem Lw.stay (x : Lw Cl Pt h c q0 p Lo n es lot ts rs H) (s : Stay h c H H') : Lw Cl Pt h c q0 p Lo n es lot ts rs H' := ⟨s.hand, s.la x.la, s.lo x.lo, s.lst x.lots (notHand_refs _), s.tat x.tl, fun r hr => s.lst (x.rows r hr) (notHand_ints _), tabs_stay s x.tb⟩
theorem Lw.same (x : Lw Cl Pt h c q0 p Lo n es lot ts rs H) (s : Same H H') : Lw Cl Pt h c q0 p Lo n es lot ts rs H' := x.stay (.of_same x.hand s)
theorem Lw.drawn (x : Lw Cl Pt h c q0 p Lo n es lot ts rs H) (s : Drawn H H' h c) : Lw Cl Pt h c q0 p Lo n es lot ts rs H' := x.stay (.of_drawn x.hand s)
theorem Lw.ext (x : Lw Cl Pt h c q0 p Lo n es lot ts rs H) (e : LamX.ExtN H H') (t : LamX.Tabs [(Pt, lamQ)] H') : Lw Cl Pt h c q0 p Lo n es lot ts rs H' := ⟨x.hand.ext e, x.la.ext e, x.lo.ext e, e _ _ x.lots (fun ps z => by cases z), x.tl.ext e, fun r hr => e _ _ (x.rows r hr) (fun ps z => by cases z), t⟩
theorem Lw.bare (x : Lw Cl Pt h c q0 p Lo n es lot ts rs H) : Lw Cl Pt h c q0 p Lo n es lot ts [] H := ⟨x.hand, x.la, x.lo, x.lots, x.tl, (fun r hr => nomatch hr), x.tb⟩
theorem Lw.add (x : Lw Cl Pt h c q0 p Lo n es lot ts rs H) {R : Addr} {l : List Nat} (hR : H R = some (.lst (ints_ l))) : Lw Cl Pt h c q0 p Lo n es lot ts (rs ++ [(R, l)]) H := ⟨x.hand, x.la, x.lo, x.lots, x.tl, fun r hr => (List.mem_append.mp hr).elim (x.rows r) fun z => by rw [List.mem_singleton.mp z]; exact hR, x.tb⟩
end
section
variable {P : Program} {w : World} {K : PySem.W.Frag} {mg : Str → Option Value} {base : Heap} {a : AdL} {S Pt : Addr}
def spLaw (K : PySem.W.Frag) (Pt : Addr) : Sp := fun vs H Q _ => ∃ (s : Addr) (ns : List Int), vs = [.ref s] ∧ SqL K H s (ns.map V.int) ∧ ns.length ≤ 63 ∧ LamX.Tabs [(Pt, lamQ)] H ∧ ∀ H', Q (.bl true) H'
theorem ok_law (T : Tl K mg a) {f fha fld fpk fdr flts fmx frt fto fal fI : Addr} {fd fdha fdld fdpk fddr fdlts fdmx fdrt fdto fdal fdI : FuncData} (F : Fun K "law" "law" s_law f fd)
    (Gha : FnOk P w K mg base CX0 1 fha fdha ["_law_script"] (spHand K)) (gha : mg "_law_hand" = some (.ref fha)) (kha : PySem.W.keepIn K (.ref fha) = true) (bha : Binds K fdha ["_law_script"] [])
    (Gld : FnOk P w K mg base CX0 4 fld fdld ["_law_hand_here", "_law_n"] spLand) (gld : mg "_law_land" = some (.ref fld)) (kld : PySem.W.keepIn K (.ref fld) = true) (bld : Binds K fdld ["_law_hand_here", "_law_n"] [])
    (Gpk : FnOk P w K mg base CX0 3 fpk fdpk ["_law_hand_here", "_law_things"] spPick) (gpk : mg "_law_pick" = some (.ref fpk)) (kpk : PySem.W.keepIn K (.ref fpk) = true) (bpk : Binds K fdpk ["_law_hand_here", "_law_things"] [])
    (Gdr : FnOk P w K mg base CX0 2 fdr fddr ["_law_hand_here", "_law_many"] spDraw) (gdr : mg "_law_draw" = some (.ref fdr)) (kdr : PySem.W.keepIn K (.ref fdr) = true) (bdr : Binds K fddr ["_law_hand_here", "_law_many"] [])
    (Glts : FnOk P w K mg base CX0 1 flts fdlts ["_law_cells"] spLots) (glts : mg "_law_lots" = some (.ref flts)) (klts : PySem.W.keepIn K (.ref flts) = true) (blts : Binds K fdlts ["_law_cells"] [])
    (Gltz : FnOk P w K mg base CX0 1 flts fdlts ["_law_cells"] spLotsZ) (gltz : mg "_law_lots" = some (.ref flts)) (kltz : PySem.W.keepIn K (.ref flts) = true) (bltz : Binds K fdlts ["_law_cells"] [])
    (Gmx : FnOk P w K mg base CX0 3 fmx fdmx ["_law_hand_here", "_law_lot"] spMixed) (gmx : mg "_law_mixed" = some (.ref fmx)) (kmx : PySem.W.keepIn K (.ref fmx) = true) (bmx : Binds K fdmx ["_law_hand_here", "_law_lot"] [])
    (Grt : FnOk P w K mg base CX0 8 frt fdrt ["_law_plain", "_law_land_here", "_law_cell", "_law_passing", "_law_among"] (spRight a Pt)) (grt : mg "_law_right" = some (.ref frt)) (krt : PySem.W.keepIn K (.ref frt) = true) (brt : Binds K fdrt ["_law_plain", "_law_land_here", "_law_cell", "_law_passing", "_law_among"] [])
    (Gto : FnOk P w K mg base CX0 8 fto fdto ["_law_sort", "_law_land_here", "_law_cell", "_law_passing", "_law_among"] (spTold K a Pt)) (gto : mg "_law_told" = some (.ref fto)) (kto : PySem.W.keepIn K (.ref fto) = true) (bto : Binds K fdto ["_law_sort", "_law_land_here", "_law_cell", "_law_passing", "_law_among"] [])
    (Gal : FnOk P w K mg base CX0 3 fal fdal ["cells"] (spAllL Pt)) (gal : mg "all_lots" = some (.ref fal)) (kal : PySem.W.keepIn K (.ref fal) = true) (bal : Binds K fdal ["cells"] [])
    (MC : Mk K a.C fI) (GI : FnOk P w K mg base CX0 5 fI fdI ["self", "cells", "neighbours", "roads"] (spLandI a)) (bI : Binds K fdI ["self", "cells", "neighbours", "roads"] [])
    (m_list : mg "list" = none) (m_range : mg "range" = none) (m_tuple : mg "tuple" = none) (m_repr : mg "repr" = none) (m_len : mg "len" = none) (m_sorted : mg "sorted" = none) (m_isinstance : mg "isinstance" = none) : FnOk P w K mg base CX0 9 f fd ["_law_script"] (spLaw K Pt) := by
  refine F.ok sc_law (fun vs H Q E h => ?_) (fun cdv A outer s H vs Q E hr h => ?_)
  · obtain ⟨s, ns, rfl, _⟩ := h
    rfl
  · obtain ⟨s0, ns, rfl, hS, hl, hT, q⟩ := h
    refine ⟨_, (pss_cons (ps_set (i := 1) sc_law.nd rfl (by first | exact Or.inl rfl | exact Or.inr rfl) (pe_call Gha (hr.mono (by decide)) (by rfl) gha kha bha .nil pass0 (pa_cons (pv 0) pa_nil)))
 (pss_cons (ps_set (i := 2) sc_law.nd rfl (by first | exact Or.inl rfl | exact Or.inr rfl) (pe_call Gld (hr.mono (by decide)) (by rfl) gld kld bld .nil pass0 (pa_cons (pv 1) (pa_cons (pe_op op_add pe_int (pe_call Gdr (hr.mono (by decide)) (by rfl) gdr kdr bdr .nil pass0 (pa_cons (pv 1) (pa_cons pe_int pa_nil)))) pa_nil))))
 (pss_cons (ps_set (i := 3) sc_law.nd rfl (by first | exact Or.inl rfl | exact Or.inr rfl) (pe_ix ix_tup (pv 2) pe_int (fun _ _ => rfl)))
 (Evl.pss_cut (ps_set (i := 4) sc_law.nd rfl (by first | exact Or.inl rfl | exact Or.inr rfl) (pe_make MC GI (hr.mono (by decide)) (by rfl) T.gC bI .nil pass0 (pa_cons (pv 3) (pa_cons (pe_callTy call_tuple_of (by rfl) m_tuple boot_tuple (pa_cons (pe_ix ix_tup (pv 2) pe_int (fun _ _ => rfl)) pa_nil)) (pa_cons (pe_callTy call_list_of (by rfl) m_list boot_list (pa_cons (pe_ix ix_tup (pv 2) pe_int (fun _ _ => rfl)) pa_nil)) pa_nil)))))
 (Evl.pss_cut (ps_set (i := 5) sc_law.nd rfl (by first | exact Or.inl rfl | exact Or.inr rfl) (pe_call Glts (hr.mono (by decide)) (by rfl) glts klts blts .nil pass0 (pa_cons (pe_callTy (K7E.cr_list_rng rfl) (by rfl) m_list boot_list (pa_cons (pe_callTy K7E.cr_range1 (by rfl) m_range boot_range (pa_cons (pv 3) pa_nil)) pa_nil)) pa_nil)))
 (Evl.pss_cut (ps_set (i := 6) sc_law.nd rfl (by first | exact Or.inl rfl | exact Or.inr rfl) (pe_call Gdr (hr.mono (by decide)) (by rfl) gdr kdr bdr .nil pass0 (pa_cons (pv 1) (pa_cons (pv 3) pa_nil))))
 (Evl.pss_cut (ps_setLc (i := 7) (own := [("_law_b", 8)]) (g := gName 8) rfl sc_law.nd rfl rfl (sw_true rfl rfl rfl (by decide +kernel)) (pi_range1 rfl m_range (pa_cons (pv 3) pa_nil)) (blkOk_by (own := [("_law_b", 8)]) (N := N_law) (sc := defScope s_law) (by decide +kernel)) (fun _ _ _ _ _ => (pg_name (i := 8) sc_law.nd rfl (by first | exact Or.inl rfl | exact Or.inr rfl))) (fun _ _ _ _ _ => (pts_one (pt_cmpR (show OpR _ _ (rIn K true) from op_notIn_seq) (pv 8) (pe_ix (show IxR _ (rIxT K) from ix_tup) (pv 2) pe_int (fun _ _ => rfl)) (by with_unfolding_all rfl)))) (fun _ _ _ _ _ => (pv 8)))
 (Evl.pss_cut (ps_if (pt_cmpR op_gt (pe_call Gdr (hr.mono (by decide)) (by rfl) gdr kdr bdr .nil pass0 (pa_cons (pv 1) (pa_cons pe_int pa_nil))) pe_int (nomark _))
  (pss_one (ps_set (i := 6) sc_law.nd rfl (by first | exact Or.inl rfl | exact Or.inr rfl) (pe_call Gpk (hr.mono (by decide)) (by rfl) gpk kpk bpk .nil pass0 (pa_cons (pv 1) (pa_cons (pv 7) pa_nil)))))
  pss_nil)
 (Evl.pss_cut (ps_set (i := 9) sc_law.nd rfl (by first | exact Or.inl rfl | exact Or.inr rfl) (pe_call Gmx (hr.mono (by decide)) (by rfl) gmx kmx bmx .nil pass0 (pa_cons (pv 1) (pa_cons (pe_call Gpk (hr.mono (by decide)) (by rfl) gpk kpk bpk .nil pass0 (pa_cons (pv 1) (pa_cons (pe_slice sl_list (pv 5) po_none (po_some (pe_op op_add pe_int (pe_op op_fdiv (pe_callB call_len_seq (by rfl) m_len boot_len (pa_cons (pv 5) pa_nil)) pe_int)))) pa_nil))) pa_nil))))
 (Evl.pss_cut (ps_set (i := 10) sc_law.nd rfl (by first | exact Or.inl rfl | exact Or.inr rfl) (pe_call Gmx (hr.mono (by decide)) (by rfl) gmx kmx bmx .nil pass0 (pa_cons (pv 1) (pa_cons (pe_call Gpk (hr.mono (by decide)) (by rfl) gpk kpk bpk .nil pass0 (pa_cons (pv 1) (pa_cons (pe_slice sl_list (pv 5) (po_some (pe_op op_fdiv (pe_callB call_len_seq (by rfl) m_len boot_len (pa_cons (pv 5) pa_nil)) pe_int)) po_none) pa_nil))) pa_nil))))
 (Evl.pss_cut (ps_if (pt_not (pt_val (pe_call Grt (hr.mono (by decide)) (by rfl) grt krt brt .nil pass0 (pa_cons (pv 2) (pa_cons (pv 4) (pa_cons (pv 6) (pa_cons (pv 9) (pa_cons (pv 10) pa_nil))))))))
  (pss_one (ps_ret pe_bl))
  pss_nil)
 (Evl.pss_cut (ps_if (pw_or (pt_not (pt_val (pe_call Grt (hr.mono (by decide)) (by rfl) grt krt brt .nil pass0 (pa_cons (pv 2) (pa_cons (pv 4) (pa_cons (pv 6) (pa_cons (pe_lst pa_nil) (pa_cons (pe_callTy (K7E.cr_list_rng rfl) (by rfl) m_list boot_list (pa_cons (pe_callTy K7E.cr_range1 (by rfl) m_range boot_range (pa_cons (pv 3) pa_nil)) pa_nil)) pa_nil)))))))) (pw_or1 (pt_not (pt_val (pe_call Grt (hr.mono (by decide)) (by rfl) grt krt brt .nil pass0 (pa_cons (pv 2) (pa_cons (pv 4) (pa_cons (pv 6) (pa_cons (pv 10) (pa_cons (pe_lst pa_nil) pa_nil)))))))))).pt
  (pss_one (ps_ret pe_bl))
  pss_nil)
 (Evl.pss_cut (ps_if (pt_not (pt_val (pe_call Grt (hr.mono (by decide)) (by rfl) grt krt brt .nil pass0 (pa_cons (pv 2) (pa_cons (pv 4) (pa_cons (pe_call Gdr (hr.mono (by decide)) (by rfl) gdr kdr bdr .nil pass0 (pa_cons (pv 1) (pa_cons (pv 3) pa_nil))) (pa_cons (pv 10) (pa_cons (pv 9) pa_nil))))))))
  (pss_one (ps_ret pe_bl))
  pss_nil)
 (Evl.pss_cut (ps_set (i := 11) sc_law.nd rfl (by first | exact Or.inl rfl | exact Or.inr rfl) (pe_callB K7S.cr_sortA (by rfl) m_sorted boot_sorted (pa_cons (pe_lc (own := [("_law_k", 12)]) (g := gName 12) (tt := tYes) rfl sc_law.nd (pi_range1 rfl m_range (pa_cons (pe_call Gdr (hr.mono (by decide)) (by rfl) gdr kdr bdr .nil pass0 (pa_cons (pv 1) (pa_cons pe_int pa_nil))) pa_nil)) (blkOk_by (own := [("_law_k", 12)]) (N := N_law) (sc := defScope s_law) (by decide +kernel)) (fun _ _ _ _ _ => (pg_name (i := 12) sc_law.nd rfl (by first | exact Or.inl rfl | exact Or.inr rfl))) (fun _ _ _ _ _ => pts_nil) (fun _ _ _ _ _ => (pe_op op_add (pe_op op_mul (pe_op op_sub (pe_call Gdr (hr.mono (by decide)) (by rfl) gdr kdr bdr .nil pass0 (pa_cons (pv 1) (pa_cons (pe_op op_pow pe_int pe_int) pa_nil))) (pe_call Gdr (hr.mono (by decide)) (by rfl) gdr kdr bdr .nil pass0 (pa_cons (pv 1) (pa_cons (pe_op op_pow pe_int pe_int) pa_nil)))) pe_int) (pv 12)))) pa_nil)))
 (Evl.pss_cut (ps_set (i := 13) sc_law.nd rfl (by first | exact Or.inl rfl | exact Or.inr rfl) (pe_call Gal (hr.mono (by decide)) (by rfl) gal kal bal .nil pass0 (pa_cons (pe_callTy call_list_of (by rfl) m_list boot_list (pa_cons (pv 11) pa_nil)) pa_nil)))
 (Evl.pss_cut (ps_if (pw_or (pt_not (pt_val (pe_callB call_isi (by rfl) m_isinstance boot_isinstance (pa_cons (pv 13) (pa_cons (pe_bltn (v := .ty "tuple") (by rfl) m_tuple boot_tuple rfl) pa_nil))))) (pw_or1 (pt_cmpR (op_neD hr.units) (pv 13) (pe_callTy call_tuple_of (by rfl) m_tuple boot_tuple (pa_cons (pe_call Gltz (hr.mono (by decide)) (by rfl) gltz kltz bltz .nil pass0 (pa_cons (pv 11) pa_nil)) pa_nil)) (nomark _)))).pt
  (pss_one (ps_ret pe_bl))
  pss_nil)
 (Evl.pss_cut (ps_set (i := 14) sc_law.nd rfl (by first | exact Or.inl rfl | exact Or.inr rfl) (pe_call Gpk (hr.mono (by decide)) (by rfl) gpk kpk bpk .nil pass0 (pa_cons (pv 1) (pa_cons (pe_lst (pa_cons (pv 3) (pa_cons (pe_un un_neg pe_int) (pa_cons pe_bl (pa_cons pe_non (pa_cons pe_str (pa_cons (pe_op op_add (pv 3) (pe_call Gdr (hr.mono (by decide)) (by rfl) gdr kdr bdr .nil pass0 (pa_cons (pv 1) (pa_cons (pe_op op_pow pe_int pe_int) pa_nil)))) pa_nil))))))) pa_nil))))
 (Evl.pss_cut (ps_set (i := 15) sc_law.nd rfl (by first | exact Or.inl rfl | exact Or.inr rfl) (pe_call Gpk (hr.mono (by decide)) (by rfl) gpk kpk bpk .nil pass0 (pa_cons (pv 1) (pa_cons (pe_lst (pa_cons pe_non (pa_cons pe_str (pa_cons (pe_lst (pa_cons (pv 3) pa_nil)) (pa_cons (pe_lst (pa_cons (pe_un un_neg pe_int) pa_nil)) (pa_cons (pe_tup (pa_cons pe_bl pa_nil)) (pa_cons (pe_lst (pa_cons (pv 6) (pa_cons (pv 6) pa_nil))) (pa_cons (pe_lst (pa_cons pe_non pa_nil)) (pa_cons pe_int pa_nil))))))))) pa_nil))))
 (Evl.pss_cut (ps_set (i := 16) sc_law.nd rfl (by first | exact Or.inl rfl | exact Or.inr rfl) (pe_call Gdr (hr.mono (by decide)) (by rfl) gdr kdr bdr .nil pass0 (pa_cons (pv 1) (pa_cons pe_int pa_nil))))
 (Evl.pss_cut (ps_if (pt_cmpR (op_neD hr.units) (pe_call Gto (hr.mono (by decide)) (by rfl) gto kto bto .nil pass0 (pa_cons (pv 16) (pa_cons (pv 4) (pa_cons (pv 14) (pa_cons (pv 15) (pa_cons (pv 15) pa_nil)))))) (pe_tup (pa_cons pe_bl (pa_cons pe_bl (pa_cons (pe_callB K7E.call_reprF (by rfl) m_repr boot_repr (pa_cons (pv 14) pa_nil)) pa_nil)))) (nomark _))
  (pss_one (ps_ret pe_bl))
  pss_nil)
 (Evl.pss_cut (ps_if (pt_cmpR (op_neD hr.units) (pe_call Gto (hr.mono (by decide)) (by rfl) gto kto bto .nil pass0 (pa_cons (pv 16) (pa_cons (pv 4) (pa_cons (pv 6) (pa_cons (pv 15) (pa_cons (pv 15) pa_nil)))))) (pe_tup (pa_cons pe_bl (pa_cons pe_bl (pa_cons pe_str pa_nil)))) (nomark _))
  (pss_one (ps_ret pe_bl))
  pss_nil)
 (Evl.pss_cut (ps_if (pt_cmpR (op_neD hr.units) (pe_call Gto (hr.mono (by decide)) (by rfl) gto kto bto .nil pass0 (pa_cons (pv 16) (pa_cons (pv 4) (pa_cons (pv 6) (pa_cons (pe_callTy call_list_of (by rfl) m_list boot_list (pa_cons (pv 9) pa_nil)) (pa_cons (pv 15) pa_nil)))))) (pe_tup (pa_cons pe_bl (pa_cons pe_bl (pa_cons pe_str pa_nil)))) (nomark _))
  (pss_one (ps_ret pe_bl))
  pss_nil)
 (pss_one (ps_ret (pe_call Grt (hr.mono (by decide)) (by rfl) grt krt brt .nil pass0 (pa_cons (pv 2) (pa_cons (pv 4) (pa_cons (pv 6) (pa_cons (pv 9) (pa_cons (pv 10) pa_nil)))))))))))))))))))))))))))))), ?_⟩
    refine ⟨_, rfl, s0, ns, rfl, hS, hl, fun H1 h c e1 nh nc hh1 => ?_⟩
    have T1 := hT.ext e1
    -- a land
    refine ⟨_, rfl, _, rfl, h, c, 4, rfl, hh1, by decide, by decide, fun H2 r d2 r0 r1 => ?_⟩
    have T2 := tabs_stay (.of_drawn hh1 d2) T1
    obtain ⟨k, rfl⟩ : ∃ k : Nat, r = (k : Nat) := ⟨r.toNat, by omega⟩
    refine ⟨_, _, rfl, rfl, ?_⟩
    obtain ⟨n, hn⟩ : ∃ n, n = k + 2 := ⟨_, rfl⟩
    have n2 : 2 ≤ n := by omega
    have n5 : n ≤ 5 := by omega
    refine ⟨h, c, n, congrArg (fun z => [V.ref h, V.int z]) (show (2 : Int) + ((k : Nat) : Int) = ((n : Nat) : Int) by omega), d2.hand, n2, n5, fun H3 q0 es lot st nq La => ?_⟩
    have T3 := tabs_stay st T2
    obtain ⟨rA, sA, ts, h1, h2, h3, h4⟩ := La.at_
    have hand3 := st.hand
    obtain ⟨llt, lsd⟩ := lot_lt n5 La.lot.1
    have lso : lot.Pairwise (· ≤ ·) := lsd.imp fun h => Nat.le_of_lt h
    have lnd : lot.Nodup := List.nodup_iff_pairwise_ne.mpr (lsd.imp fun h e => by rw [e] at h; exact Nat.lt_irrefl _ h)
    have lo0 := La.lot.2.1
    have lon := La.lot.2.2
    refine ⟨_, rfl, q0, _, _, _, rfl, rfl, .inl (.inl h1), atI_nat (j := 0) rfl, ?_⟩
    -- the land told
    refine ⟨fun τ H' => ∃ p, τ = sg [some (.ref s0), some (.ref h), some (.ref q0), some (.int (n : Nat)), some (.ref p)] ∧ Hand H' h c ∧ LandAt H' q0 n es lot ∧ LandO a.C H' p n es lot ∧ LamX.Tabs [(Pt, lamQ)] H', ?_, fun τ H4 hM => ?_⟩
    · refine ⟨_, rfl, _, rfl, q0, _, _, _, rfl, rfl, .inl (.inl h1), atI_nat (j := 1) rfl, rA, _, rfl, .inl ⟨.inl (.inl h2), fun A1 nA1 => ?_⟩⟩
      have s4 := al (o := .tup (ts.map V.ref)) nA1
      refine ⟨_, rfl, q0, _, _, _, rfl, rfl, .inl (.inl (s4 _ _ h1)), atI_nat (j := 2) rfl, sA, _, rfl, .inl (.inl (.inl (s4 _ _ h4))), fun B1 nB1 => ?_⟩
      have s5 := s4.trans (al (o := .lst (ints_ lot)) nB1)
      have hA5 := al (o := .lst (ints_ lot)) nB1 A1 _ (upd_same (H := H3) (a := A1))
      have hB5 : upd (upd H3 A1 (.tup (ts.map V.ref))) B1 (.lst (ints_ lot)) B1 = _ := upd_same
      generalize upd (upd H3 A1 (.tup (ts.map V.ref))) B1 (.lst (ints_ lot)) = H5 at s5 hA5 hB5 ⊢
      refine new_land (a := a) (Q := fun w H1 => ∃ p, (sg [some (.ref s0), some (.ref h), some (.ref q0), some (.int (n : Nat))]).set 4 (some w) = sg [some (.ref s0), some (.ref h), some (.ref q0), some (.int (n : Nat)), some (.ref p)] ∧ Hand H1 h c ∧ LandAt H1 q0 n es lot ∧ LandO a.C H1 p n es lot ∧ LamX.Tabs [(Pt, lamQ)] H1) n2 n5 (.inl hA5) (co_lit (h3.same s5)) (cos_es La.ok n5) La.ok.conn (.inr hB5) llt lnd lo0 lon fun H' x es' rd e nx Lo pe pr => ?_
      rw [srt_map La.ok] at pe
      obtain rfl := es_is Lo.ok pe (La.ok.sorted.imp fun h => h)
      obtain rfl := rd_is Lo.rso pr lso
      have e6 := s5.trans e
      exact ⟨x, rfl, hand3.same e6, La.same e6, Lo, T3.ext e6⟩
    obtain ⟨p, rfl, hand4, La4, Lo4, T4⟩ := hM
    clear hand3 T1 T2 T3 h1 h2 h3 h4 hh1
    -- all lots
    refine ⟨fun τ H' => ∃ Lo us, τ = sg [some (.ref s0), some (.ref h), some (.ref q0), some (.int (n : Nat)), some (.ref p), some (.ref Lo)] ∧ Lw a.C Pt h c q0 p Lo n es lot us [] H', ?_, fun τ H5 hM => ?_⟩
    · refine ⟨_, rfl, n, rfl, fun p1 np1 => ?_⟩
      refine ⟨p1, n, rfl, upd_same, by omega, fun p2 np2 => ?_⟩
      have s1 := (al (o := .rng 0 n) np1).trans (al (o := .lst (K7E.upTo n)) np2)
      have hps : upd (upd H4 p1 (.rng 0 n)) p2 (.lst (K7E.upTo n)) p2 = some (.lst (ints_ (List.range n))) := upd_same
      generalize upd (upd H4 p1 (.rng 0 n)) p2 (.lst (K7E.upTo n)) = H5 at s1 hps ⊢
      refine ⟨p2, n, rfl, n5, hps, fun H6 Lo us e6 nLo hLo tl => ?_⟩
      have s2 := s1.trans e6
      exact ⟨Lo, us, rfl, hand4.same s2, La4.same s2, Lo4.same s2, hLo, tl, (fun r hr => nomatch hr), T4.ext s2⟩
    obtain ⟨Lo, us, rfl, W⟩ := hM
    clear hand4 La4 Lo4 T4
    -- a cell
    refine ⟨fun τ H' => ∃ x : Nat, τ = sg [some (.ref s0), some (.ref h), some (.ref q0), some (.int (n : Nat)), some (.ref p), some (.ref Lo), some (.int (x : Nat))] ∧ x < n ∧ Lw a.C Pt h c q0 p Lo n es lot us [] H', ?_, fun τ H6 hM => ?_⟩
    · refine ⟨_, rfl, _, rfl, h, c, (n : Nat), rfl, W.hand, by omega, n200 n5, fun H4 r d4 r0 r1 => ?_⟩
      obtain ⟨x, rfl⟩ : ∃ k : Nat, r = (k : Nat) := ⟨r.toNat, by omega⟩
      exact ⟨x, rfl, by omega, W.drawn d4⟩
    clear W
    obtain ⟨x0, rfl, hx0, W⟩ := hM
    -- those away from the road
    refine ⟨fun τ H' => ∃ Aw aw, τ = sg [some (.ref s0), some (.ref h), some (.ref q0), some (.int (n : Nat)), some (.ref p), some (.ref Lo), some (.int (x0 : Nat)), some (.ref Aw)] ∧ Lw a.C Pt h c q0 p Lo n es lot us [(Aw, aw)] H' ∧ (∀ y ∈ aw, y < n) ∧ 0 < aw.length ∧ aw.length ≤ 5, ?_, fun τ H7 hM => ?_⟩
    · refine ⟨_, rfl, _, rfl, by omega, by omega, fun D hD => lc_range (lo := 0) (n := n) (fun i H' => Same H6 H' ∧ H' D = some (.lst (ints_ ((List.range i).filter fun b => !decide (b ∈ lot))))) ⟨al hD, upd_same⟩ (fun i H' hi pv => ?_) (fun H' pv => ?_)⟩
      · obtain ⟨e, hD'⟩ := pv
        obtain ⟨rA, sA, ts, h1, h2, h3, h4⟩ := (W.la.same e).at_
        have rf := range_flt (fun b => !decide (b ∈ lot)) i
        refine ⟨rfl, _, rfl, _, rfl, q0, _, _, _, rfl, rfl, .inl (.inl h1), atI_nat (j := 2) rfl, sA, _, rfl, .inl (.inl (.inl h4)), rfl, flat_ints lot, _, rfl, ?_⟩
        rw [show inV (.int (0 + (i : Nat))) (ints_ lot) = decide (i ∈ lot) from by rw [Int.zero_add]; exact inV_ints i lot]
        by_cases hm : (!decide (i ∈ lot)) = true
        · rw [if_pos hm] at rf
          rw [hm]
          refine iteT ⟨_, rfl, _, hD', ?_, fun b o hb => ?_, ?_⟩
          · unfold ints_
            rw [List.length_map]
            exact small1000 (Nat.le_trans (List.length_filter_le _ _) (by rw [List.length_range]; omega))
          · rw [upd_ne (ne_of_none hb hD)]
            exact e _ _ hb
          · rw [upd_same, rf, ints_snoc, Int.zero_add]
        · rw [if_neg hm, List.append_nil] at rf
          rw [Bool.eq_false_iff.mpr hm]
          refine iteF ⟨e, ?_⟩
          rw [rf]
          exact hD'
      · obtain ⟨e, hD'⟩ := pv
        refine ⟨D, _, rfl, (W.same e).add hD', fun y hy => List.mem_range.mp (List.mem_filter.mp hy).1, away_some lon, Nat.le_trans (List.length_filter_le _ _) (by rw [List.length_range]; exact n5)⟩
    clear W
    obtain ⟨Aw, aw, rfl, W, awlt, aw0, aw5⟩ := hM
    -- the cell
    refine ⟨fun τ H' => ∃ x : Nat, τ = sg [some (.ref s0), some (.ref h), some (.ref q0), some (.int (n : Nat)), some (.ref p), some (.ref Lo), some (.int (x : Nat)), some (.ref Aw)] ∧ x < n ∧ Lw a.C Pt h c q0 p Lo n es lot us [] H', ?_, fun τ H8 hM => ?_⟩
    · refine ⟨_, rfl, h, c, 3, rfl, W.hand, by decide, by decide, fun H8 r d r0 r1 => ⟨_, _, rfl, rfl, _, rfl, ite2 (fun _ => ?_) (fun _ => ?_)⟩⟩
      · have W8 := W.drawn d
        have hAw := W8.rows (Aw, aw) (List.mem_cons_self ..)
        refine ⟨_, rfl, _, rfl, h, c, Aw, _, rfl, W8.hand, W8.hand.nel hAw (notHand_ints _), hAw, by unfold ints_; rw [List.length_map]; exact aw0, by unfold ints_; rw [List.length_map]; exact Nat.le_trans aw5 (by decide), fun H9 j v d9 hv => ?_⟩
        unfold ints_ at hv
        rw [List.getElem?_map] at hv
        obtain ⟨y, hy, rfl⟩ := Option.map_eq_some_iff.mp hv
        exact ⟨y, rfl, awlt y (List.mem_of_getElem? hy), (W8.drawn d9).bare⟩
      · exact ⟨x0, rfl, hx0, (W.drawn d).bare⟩
    clear W
    obtain ⟨x, rfl, hx, W⟩ := hM
    obtain ⟨la0, la1, la5⟩ := lots_all ⟨n, by omega⟩ n2
    have ul : ∀ {rs H'}, Lw a.C Pt h c q0 p Lo n es lot us rs H' → (us.map V.ref).length = (lotsTo (List.range n) n).length := fun {rs H'} W => by rw [List.length_map, W.tl.len]
    have got : ∀ {rs H' v} (W : Lw a.C Pt h c q0 p Lo n es lot us rs H'), v ∈ us.map V.ref → ∃ t l, v = V.ref t ∧ H' t = some (.tup (ints_ l)) ∧ l.length ≤ 5 ∧ (∀ y ∈ l, y < n) ∧ l.Nodup := fun {rs H' v} W hv => by
      obtain ⟨t, ht, rfl⟩ := List.mem_map.mp hv
      obtain ⟨j, hj⟩ := List.getElem?_of_mem ht
      obtain ⟨l, el, hl⟩ := W.tl.get hj
      have lm := List.mem_of_getElem? el
      obtain ⟨l1, l2⟩ := lot_lt n5 lm
      exact ⟨t, l, rfl, hl, of_decide_eq_true (List.all_eq_true.mp la5 l lm), l1, List.nodup_iff_pairwise_ne.mpr (l2.imp fun h e => by rw [e] at h; exact Nat.lt_irrefl _ h)⟩
    have la0 : 0 < (lotsTo (List.range n) n).length := la0
    have la1 : (lotsTo (List.range n) n).length ≤ 1000 := la1
    -- passing cells
    refine ⟨fun τ H' => ∃ pa ps, τ = sg [some (.ref s0), some (.ref h), some (.ref q0), some (.int (n : Nat)), some (.ref p), some (.ref Lo), some (.int (x : Nat)), some (.ref Aw), none, some (.ref pa)] ∧ (∀ y ∈ ps, y < n) ∧ ps.Nodup ∧ Lw a.C Pt h c q0 p Lo n es lot us [(pa, ps)] H', ?_, fun τ H9 hM => ?_⟩
    · have e2 : 2 + (((us.map V.ref).length : Nat) : Int) / 2 = ((2 + (us.map V.ref).length / 2 : Nat) : Int) := by omega
      refine ⟨_, rfl, _, rfl, _, rfl, _, rfl, Lo, _, rfl, .inl (.inl (.inl W.lots)), _, _, rfl, rfl, ⟨by decide, by decide⟩, _, _, rfl, rfl, ?_⟩
      refine ⟨_, rfl, Lo, _, rfl, .inl (.inl W.lots), fun N nN => ?_⟩
      have cm := cut_mem (xs := us.map V.ref) (lo := none) (hi := (some (2 + (((us.map V.ref).length : Nat) : Int) / 2)))
      have cl := cutV_length (us.map V.ref) none (some (2 + (((us.map V.ref).length : Nat) : Int) / 2))
      have cp : 0 < (cutV (us.map V.ref) none (some (2 + (((us.map V.ref).length : Nat) : Int) / 2))).length := by rw [e2]; exact cut_hi (by rw [ul W]; exact la0) (by omega)
      generalize cutV (us.map V.ref) none (some (2 + (((us.map V.ref).length : Nat) : Int) / 2)) = xs at cm cl cp ⊢
      have WN := W.same (al (o := .lst xs) nN)
      rw [ul W] at cl
      refine ⟨h, c, N, xs, rfl, WN.hand, (W.hand.ne nN).1, upd_same, cp, Nat.le_trans cl la1, fun H10 j v d hv => ?_⟩
      have WD := WN.drawn d
      obtain ⟨t, l, rfl, ht, l5, lt, nd⟩ := got WD (cm v (List.mem_of_getElem? hv))
      refine ⟨h, c, t, l, rfl, WD.hand, ht, l5, fun H11 R row st nR hR pm => ?_⟩
      exact ⟨R, row, rfl, fun y hy => lt y (pm.mem_iff.mp hy), pm.nodup_iff.mpr nd, (WD.stay st).add hR⟩
    clear W
    obtain ⟨pa, ps, rfl, plt, pnd, W⟩ := hM
    -- others
    refine ⟨fun τ H' => ∃ pb qs, τ = sg [some (.ref s0), some (.ref h), some (.ref q0), some (.int (n : Nat)), some (.ref p), some (.ref Lo), some (.int (x : Nat)), some (.ref Aw), none, some (.ref pa), some (.ref pb)] ∧ (∀ y ∈ qs, y < n) ∧ qs.Nodup ∧ Lw a.C Pt h c q0 p Lo n es lot us [(pa, ps), (pb, qs)] H', ?_, fun τ H10 hM => ?_⟩
    · have e2 : (((us.map V.ref).length : Nat) : Int) / 3 = (((us.map V.ref).length / 3 : Nat) : Int) := by omega
      refine ⟨_, rfl, _, rfl, _, rfl, _, rfl, Lo, _, rfl, .inl (.inl (.inl W.lots)), _, _, rfl, rfl, ⟨by decide, by decide⟩, ?_⟩
      refine ⟨_, rfl, Lo, _, rfl, .inl (.inl W.lots), fun N nN => ?_⟩
      have cm := cut_mem (xs := us.map V.ref) (lo := (some ((((us.map V.ref).length : Nat) : Int) / 3))) (hi := none)
      have cl := cutV_length (us.map V.ref) (some ((((us.map V.ref).length : Nat) : Int) / 3)) none
      have cp : 0 < (cutV (us.map V.ref) (some ((((us.map V.ref).length : Nat) : Int) / 3)) none).length := by rw [e2]; exact cut_lo (by rw [ul W]; omega)
      generalize cutV (us.map V.ref) (some ((((us.map V.ref).length : Nat) : Int) / 3)) none = xs at cm cl cp ⊢
      have WN := W.same (al (o := .lst xs) nN)
      rw [ul W] at cl
      refine ⟨h, c, N, xs, rfl, WN.hand, (W.hand.ne nN).1, upd_same, cp, Nat.le_trans cl la1, fun H10 j v d hv => ?_⟩
      have WD := WN.drawn d
      obtain ⟨t, l, rfl, ht, l5, lt, nd⟩ := got WD (cm v (List.mem_of_getElem? hv))
      refine ⟨h, c, t, l, rfl, WD.hand, ht, l5, fun H11 R row st nR hR pm => ?_⟩
      exact ⟨R, row, rfl, fun y hy => lt y (pm.mem_iff.mp hy), pm.nodup_iff.mpr nd, (WD.stay st).add hR⟩
    clear W
    obtain ⟨pb, qs, rfl, qlt, qnd, W⟩ := hM
    have rwA : ∀ {H'}, Lw a.C Pt h c q0 p Lo n es lot us [(pa, ps), (pb, qs)] H' → H' pa = some (.lst (ints_ ps)) := fun W => W.rows (pa, ps) (List.mem_cons_self ..)
    have rwB : ∀ {H'}, Lw a.C Pt h c q0 p Lo n es lot us [(pa, ps), (pb, qs)] H' → H' pb = some (.lst (ints_ qs)) := fun W => W.rows (pb, qs) (List.mem_cons_of_mem _ (List.mem_cons_self ..))
    -- right over both
    refine ⟨fun τ H' => τ = sg [some (.ref s0), some (.ref h), some (.ref q0), some (.int (n : Nat)), some (.ref p), some (.ref Lo), some (.int (x : Nat)), some (.ref Aw), none, some (.ref pa), some (.ref pb)] ∧ Lw a.C Pt h c q0 p Lo n es lot us [(pa, ps), (pb, qs)] H', ?_, fun τ H11 hM => ?_⟩
    · refine ⟨_, rfl, _, rfl, _, rfl, _, rfl, _, rfl, q0, p, n, es, lot, x, pa, ps, pb, qs, rfl, W.la, n5, W.lo, hx, rwA W, plt, pnd, rwB W, qlt, qnd, W.tb, fun H7 e7 T7 => ?_⟩
      exact ⟨_, rfl, iteFo rfl ⟨rfl, W.ext e7 T7⟩⟩
    clear W
    obtain ⟨rfl, W⟩ := hM
    -- over none, and among none
    refine ⟨fun τ H' => τ = sg [some (.ref s0), some (.ref h), some (.ref q0), some (.int (n : Nat)), some (.ref p), some (.ref Lo), some (.int (x : Nat)), some (.ref Aw), none, some (.ref pa), some (.ref pb)] ∧ Lw a.C Pt h c q0 p Lo n es lot us [(pa, ps), (pb, qs)] H', ?_, fun τ H12 hM => ?_⟩
    · refine ⟨_, rfl, _, rfl, _, rfl, by show 0 ≤ sizeLine; decide, fun A nA => ?_⟩
      have s0' := al (o := .lst []) nA
      refine ⟨_, rfl, n, rfl, fun p1 np1 => ⟨p1, n, rfl, upd_same, by omega, fun p2 np2 => ?_⟩⟩
      have s1 := (al (o := .rng 0 n) np1).trans (al (o := .lst (K7E.upTo n)) np2)
      have hA := s1 _ _ (upd_same (H := H11) (a := A) (o := .lst []))
      have s2 := s0'.trans s1
      have hps : upd (upd (upd H11 A (.lst [])) p1 (.rng 0 n)) p2 (.lst (K7E.upTo n)) p2 = some (.lst (ints_ (List.range n))) := upd_same
      generalize upd (upd (upd H11 A (.lst [])) p1 (.rng 0 n)) p2 (.lst (K7E.upTo n)) = H6 at s2 hps hA ⊢
      have W6 := W.same s2
      refine ⟨q0, p, n, es, lot, x, A, [], p2, List.range n, rfl, W6.la, n5, W6.lo, hx, hA, (fun y hy => nomatch hy), List.nodup_nil, hps, (fun y hy => List.mem_range.mp hy), List.nodup_range, W6.tb, fun H7 e7 T7 => ?_⟩
      refine ⟨_, rfl, iteFo rfl ?_⟩
      have W7 := W6.ext e7 T7
      refine ⟨_, rfl, _, rfl, _, rfl, _, rfl, by show 0 ≤ sizeLine; decide, fun B nB => ?_⟩
      have W8 := W7.same (al (o := .lst []) nB)
      refine ⟨q0, p, n, es, lot, x, pb, qs, B, [], rfl, W8.la, n5, W8.lo, hx, rwB W8, qlt, qnd, upd_same, (fun y hy => nomatch hy), List.nodup_nil, W8.tb, fun H9 e9 T9 => ?_⟩
      exact ⟨_, rfl, iteFo rfl ⟨rfl, W8.ext e9 T9⟩⟩
    clear W
    obtain ⟨rfl, W⟩ := hM
    -- another cell
    refine ⟨fun τ H' => τ = sg [some (.ref s0), some (.ref h), some (.ref q0), some (.int (n : Nat)), some (.ref p), some (.ref Lo), some (.int (x : Nat)), some (.ref Aw), none, some (.ref pa), some (.ref pb)] ∧ Lw a.C Pt h c q0 p Lo n es lot us [(pa, ps), (pb, qs)] H', ?_, fun τ H13 hM => ?_⟩
    · refine ⟨_, rfl, _, rfl, _, rfl, _, rfl, h, c, (n : Nat), rfl, W.hand, by omega, n200 n5, fun H8 r d8 r0 r1 => ?_⟩
      obtain ⟨y, rfl⟩ : ∃ k : Nat, r = (k : Nat) := ⟨r.toNat, by omega⟩
      have W8 := W.drawn d8
      refine ⟨_, rfl, _, rfl, q0, p, n, es, lot, y, pb, qs, pa, ps, rfl, W8.la, n5, W8.lo, by omega, rwB W8, qlt, qnd, rwA W8, plt, pnd, W8.tb, fun H9 e9 T9 => ?_⟩
      exact ⟨_, rfl, iteFo rfl ⟨rfl, W8.ext e9 T9⟩⟩
    clear W
    obtain ⟨rfl, W⟩ := hM
    -- numbers
    refine ⟨fun τ H' => ∃ (N : Addr) (ns : List Int), τ = sg [some (.ref s0), some (.ref h), some (.ref q0), some (.int (n : Nat)), some (.ref p), some (.ref Lo), some (.int (x : Nat)), some (.ref Aw), none, some (.ref pa), some (.ref pb), some (.ref N)] ∧ H' N = some (.lst (ns.map V.int)) ∧ ns.length ≤ 5 ∧ ns.Pairwise (· < ·) ∧ Lw a.C Pt h c q0 p Lo n es lot us [(pa, ps), (pb, qs)] H', ?_, fun τ H14 hM => ?_⟩
    · refine ⟨_, rfl, h, c, 6, rfl, W.hand, by decide, by decide, fun H8 r d8 r0 r1 => ?_⟩
      obtain ⟨m, rfl⟩ : ∃ k : Nat, r = (k : Nat) := ⟨r.toNat, by omega⟩
      have W8 := W.drawn d8
      have big : (10 : Int) ^ (30 : Int).toNat = 10 ^ 30 := by decide
      refine ⟨_, rfl, by omega, by omega, fun D hD => lc_range (lo := 0) (n := m) (fun i H' => Stay h c H8 H' ∧ ∃ zs : List Int, H' D = some (.lst (zs.map V.int)) ∧ zs.length = i ∧ (∀ (j : Nat) z, zs[j]? = some z → ∃ d : Int, z = d * 5 + j) ∧ H8 D = none ∧ D ≠ h) ⟨.of_same W8.hand (al hD), [], upd_same, rfl, (fun j z hz => nomatch hz), hD, (W8.hand.ne hD).1⟩ (fun i H' hi pv => ?_) (fun H' pv => ?_)⟩
      · obtain ⟨st, zs, hD', zl, zm, nD, Dh⟩ := pv
        refine ⟨rfl, _, rfl, _, _, rfl, rfl, ⟨by decide, by decide, by decide⟩, h, c, _, rfl, st.hand, by decide, by decide, fun H9 r9 d9 _ _ => ?_⟩
        have st9 := st.trans (.of_drawn st.hand d9)
        refine ⟨_, rfl, _, _, rfl, rfl, ⟨by decide, by decide, by decide⟩, h, c, _, rfl, st9.hand, by decide, by decide, fun H10 r10 d10 _ _ => ?_⟩
        have st10 := st9.trans (.of_drawn st9.hand d10)
        have hD10 : H10 D = some (.lst (zs.map V.int)) := by rw [d10.but D Dh, d9.but D Dh]; exact hD'
        refine ⟨_, _, rfl, rfl, _, _, rfl, rfl, .inr ⟨by decide, by decide⟩, _, rfl, _, _, rfl, rfl, _, hD10, by rw [List.length_map]; exact small1000 (by omega), st10.put nD, zs ++ [(r9 - r10) * 5 + (0 + (i : Nat))], by rw [upd_same, List.map_append]; rfl, by rw [List.length_append, List.length_singleton, zl], fun j z hz => ?_, nD, Dh⟩
        rcases Nat.lt_or_ge j zs.length with y | y
        · rw [List.getElem?_append_left y] at hz
          exact zm j z hz
        · rw [List.getElem?_append_right y] at hz
          have j0 : j - zs.length = 0 := by
            have := (List.getElem?_eq_some_iff.mp hz).1
            rw [List.length_singleton] at this
            omega
          rw [j0] at hz
          have hz : (r9 - r10) * 5 + (0 + ((i : Nat) : Int)) = z := Option.some.inj hz
          exact ⟨r9 - r10, by rw [← hz]; omega⟩
      · obtain ⟨st, zs, hD', zl, zm, nD, Dh⟩ := pv
        have W' := W8.stay st
        refine ⟨D, zs, rfl, .inl (.inl (.inl hD')), by omega, fun ms t pm so nt => ?_⟩
        obtain ⟨q1, q2⟩ := fives (by omega) zm pm so
        exact ⟨t, ms, rfl, upd_same, q1, q2, W'.same (al nt)⟩
    clear W
    obtain ⟨N, ms, rfl, hN, ms5, msA, W⟩ := hM
    -- all lots of them
    refine ⟨fun τ H' => ∃ (U : Addr) (ts : List Addr), τ = sg [some (.ref s0), some (.ref h), some (.ref q0), some (.int (n : Nat)), some (.ref p), some (.ref Lo), some (.int (x : Nat)), some (.ref Aw), none, some (.ref pa), some (.ref pb), some (.ref N), none, some (.ref U)] ∧ H' N = some (.lst (ms.map V.int)) ∧ H' U = some (.tup (ts.map V.ref)) ∧ TI H' ts (lotsZ ms) ∧ Lw a.C Pt h c q0 p Lo n es lot us [(pa, ps), (pb, qs)] H', ?_, fun τ H15 hM => ?_⟩
    · refine ⟨_, rfl, N, _, rfl, .inl (.inl (.inl hN)), fun R nR => ?_⟩
      have s1 := al (o := .lst (ms.map V.int)) nR
      refine ⟨R, ms, rfl, upd_same, by omega, W.tb.ext s1, fun H' u ts eN T' hu tI => ?_⟩
      have e := (LamX.ExtN.of s1).trans eN
      exact ⟨u, ts, rfl, e _ _ hN (fun ps z => by cases z), hu, by rw [← lots_eq ms5 msA]; exact tI, W.ext e T'⟩
    clear W hN
    obtain ⟨U, ts', rfl, hN, hU, tU, W⟩ := hM
    refine ⟨fun τ H' => τ = sg [some (.ref s0), some (.ref h), some (.ref q0), some (.int (n : Nat)), some (.ref p), some (.ref Lo), some (.int (x : Nat)), some (.ref Aw), none, some (.ref pa), some (.ref pb), some (.ref N), none, some (.ref U)] ∧ Lw a.C Pt h c q0 p Lo n es lot us [(pa, ps), (pb, qs)] H', ?_, fun τ H16 hM => ?_⟩
    · refine ⟨_, rfl, _, _, _, _, _, rfl, .ty _, .base (.tup hU), kit_ty (r := true) (by decide +kernel), _, rfl, iteFo rfl ?_⟩
      refine ⟨_, rfl, _, rfl, N, ms, rfl, ms5, msA, hN, fun H' q' ts2 e nq hq tq => ?_⟩
      refine ⟨q', _, rfl, .inl ⟨.inl (.inl hq), fun V' nV => ?_⟩⟩
      have s1 := al (o := .tup (ts2.map V.ref)) nV
      refine ⟨.tuple ((lotsZ ms).map dI), .tuple ((lotsZ ms).map dI), .tup (.inl (.inl (s1 _ _ (e _ _ hU)))) (dp_TI ((tU.same e).same s1)), .tup (.inl (.inl upd_same)) (dp_TI (tq.same s1)), shaped_II _, shaped_II _, _, rfl, ?_⟩
      rw [shaped_self (shaped_II _)]
      exact iteFo rfl ⟨rfl, W.same (e.trans s1)⟩
    clear W hN hU tU
    obtain ⟨rfl, W⟩ := hM
    -- a bad cell
    refine ⟨fun τ H' => ∃ v, τ = sg [some (.ref s0), some (.ref h), some (.ref q0), some (.int (n : Nat)), some (.ref p), some (.ref Lo), some (.int (x : Nat)), some (.ref Aw), none, some (.ref pa), some (.ref pb), some (.ref N), none, some (.ref U), some v] ∧ Flat4 v ∧ wholeV v 0 ((n : Nat) - 1) = false ∧ K7E.reprOk v ∧ PyData.strOk (K7E.reprV v) = true ∧ Lw a.C Pt h c q0 p Lo n es lot us [(pa, ps), (pb, qs)] H', ?_, fun τ H17 hM => ?_⟩
    · refine ⟨_, rfl, _, rfl, _, rfl, _, rfl, _, rfl, _, _, rfl, rfl, ⟨by decide, by decide, by decide⟩, h, c, _, rfl, W.hand, by decide, by decide, fun H9 r9 d9 r0 r1 => ⟨_, _, rfl, rfl, ?_⟩⟩
      have big : (10 : Int) ^ (30 : Int).toNat = 10 ^ 30 := by decide
      rw [big] at r1
      have W9 := W.drawn d9
      refine ⟨by show 6 ≤ sizeLine; decide, fun l8 nl8 => ?_⟩
      refine ⟨h, c, l8, _, rfl, W9.hand.same (al nl8), (W9.hand.ne nl8).1, upd_same, (show 0 < 6 by decide), (show 6 ≤ 1000 by decide), fun H10 j v d10 hv => ?_⟩
      have W10 := (W9.same (al nl8)).drawn d10
      have b200 : (10 : Nat) ^ 30 + 10 < 2 ^ 200 := by decide
      have m := List.mem_of_getElem? hv
      simp only [List.mem_cons, List.not_mem_nil, or_false] at m
      rcases m with rfl | rfl | rfl | rfl | rfl | rfl
      · exact ⟨_, rfl, .int _, by rw [wholeV_int, decide_eq_false (p := ((n : Nat) : Int) ≤ (n : Nat) - 1) (by omega), Bool.and_false], log_ok (by omega), repr_int _, W10⟩
      · exact ⟨_, rfl, .int _, rfl, log_ok (by decide), repr_int _, W10⟩
      · exact ⟨_, rfl, .bl _, rfl, trivial, repr_ok.2.2.2 true, W10⟩
      · exact ⟨_, rfl, .non, rfl, trivial, repr_ok.2.2.1, W10⟩
      · exact ⟨_, rfl, .str _, rfl, repr_ok.1, repr_ok.2.1, W10⟩
      · exact ⟨_, rfl, .int _, by rw [wholeV_int, decide_eq_false (p := ((n : Nat) : Int) + r9 ≤ (n : Nat) - 1) (by omega), Bool.and_false], log_ok (by omega), repr_int _, W10⟩
    clear W
    obtain ⟨v, rfl, fl, wf, rp, sk, W⟩ := hM
    -- a wrong row
    refine ⟨fun τ H' => ∃ u, τ = sg [some (.ref s0), some (.ref h), some (.ref q0), some (.int (n : Nat)), some (.ref p), some (.ref Lo), some (.int (x : Nat)), some (.ref Aw), none, some (.ref pa), some (.ref pb), some (.ref N), none, some (.ref U), some v, some u] ∧ Wrong n H' h u ∧ Lw a.C Pt h c q0 p Lo n es lot us [(pa, ps), (pb, qs)] H', ?_, fun τ H18 hM => ?_⟩
    · refine ⟨_, rfl, _, rfl, by show 1 ≤ sizeLine; decide, fun a1 n1 => ?_⟩
      have f1 := al (o := .lst [.int (n : Nat)]) n1
      have g1 : upd H17 a1 (.lst [.int (n : Nat)]) a1 = some (.lst [.int (n : Nat)]) := upd_same
      have W1 := W.same f1
      have m1 := (W.hand.ne n1).1
      generalize upd H17 a1 (.lst [.int (n : Nat)]) = H1' at f1 g1 W1 ⊢
      refine ⟨_, rfl, by show 1 ≤ sizeLine; decide, fun a2 n2' => ?_⟩
      have f2 := al (o := .lst [.int (-1)]) n2'
      have g2 : upd H1' a2 (.lst [.int (-1)]) a2 = some (.lst [.int (-1)]) := upd_same
      have W2 := W1.same f2
      have m2 := (W1.hand.ne n2').1
      generalize upd H1' a2 (.lst [.int (-1)]) = H2' at f2 g2 W2 ⊢
      refine ⟨by show 1 ≤ sizeLine; decide, fun a3 n3 => ?_⟩
      have f3 := al (o := .tup [.bl true]) n3
      have g3 : upd H2' a3 (.tup [.bl true]) a3 = some (.tup [.bl true]) := upd_same
      have W3 := W2.same f3
      have m3 := (W2.hand.ne n3).1
      generalize upd H2' a3 (.tup [.bl true]) = H3' at f3 g3 W3 ⊢
      refine ⟨_, rfl, _, rfl, by show 2 ≤ sizeLine; decide, fun a4 n4 => ?_⟩
      have f4 := al (o := .lst [.int (x : Nat), .int (x : Nat)]) n4
      have g4 : upd H3' a4 (.lst [.int (x : Nat), .int (x : Nat)]) a4 = some (.lst (ints_ ([] ++ [x, x]))) := upd_same
      have W4 := W3.same f4
      have m4 := (W3.hand.ne n4).1
      generalize upd H3' a4 (.lst [.int (x : Nat), .int (x : Nat)]) = H4' at f4 g4 W4 ⊢
      refine ⟨by show 1 ≤ sizeLine; decide, fun a6 n6 => ?_⟩
      have f6 := al (o := .lst [V.non]) n6
      have g6 : upd H4' a6 (.lst [V.non]) a6 = some (.lst [V.non]) := upd_same
      have W6 := W4.same f6
      have m6 := (W4.hand.ne n6).1
      generalize upd H4' a6 (.lst [V.non]) = H6' at f6 g6 W6 ⊢
      refine ⟨by show 8 ≤ sizeLine; decide, fun l8 nl8 => ?_⟩
      refine ⟨h, c, l8, _, rfl, W6.hand.same (al nl8), (W6.hand.ne nl8).1, upd_same, (show 0 < 8 by decide), (show 8 ≤ 1000 by decide), fun H10 j u d10 hu => ?_⟩
      have s10 := Stay.of_drawn (W6.hand.same (al nl8)) d10
      have W10 := (W6.same (al nl8)).drawn d10
      have f46 := f4.trans f6
      have f36 := f3.trans f46
      have f26 := f2.trans f36
      have wr : ∀ {b : Addr} {xs : List V}, H6' b = some (.lst xs) → b ≠ h → (∀ z ∈ xs, Flat4 z) → xs.length < 64 → cellsV (n : Nat) xs 0 = false → Wrong n H10 h (.ref b) := fun hb ne fl l cv => .row (s10.but _ _ ne (al nl8 _ _ hb)) ne fl l cv
      refine ⟨u, rfl, ?_, W10⟩
      have m := List.mem_of_getElem? hu
      simp only [List.mem_cons, List.not_mem_nil, or_false] at m
      rcases m with rfl | rfl | rfl | rfl | rfl | rfl | rfl | rfl
      · exact .flat .non
      · exact .flat (.str _)
      · exact wr (f26 _ _ g1) m1 (fun z hz => by rw [List.mem_singleton.mp hz]; exact .int _) (by show 1 < 64; decide) (one_bad (by rw [wholeV_int, decide_eq_false (p := ((n : Nat) : Int) ≤ (n : Nat) - 1) (by omega), Bool.and_false]))
      · exact wr (f36 _ _ g2) m2 (fun z hz => by rw [List.mem_singleton.mp hz]; exact .int _) (by show 1 < 64; decide) (one_bad rfl)
      · exact .tup (s10.but _ _ m3 (al nl8 _ _ (f46 _ _ g3))) m3 (fun z hz => by rw [List.mem_singleton.mp hz]; exact .bl _) (by show 1 < 64; decide) (one_bad rfl)
      · exact wr (f6 _ _ g4) m4 (fun z hz => by obtain ⟨y, _, rfl⟩ := List.mem_map.mp hz; exact .int _) (by show 2 < 64; decide) (two_bad [] x)
      · exact wr g6 m6 (fun z hz => by rw [List.mem_singleton.mp hz]; exact .non) (by show 1 < 64; decide) (one_bad rfl)
      · exact .flat (.int _)
    clear W
    obtain ⟨u, rfl, wr, W⟩ := hM
    refine ⟨fun τ H' => ∃ k : Int, τ = sg [some (.ref s0), some (.ref h), some (.ref q0), some (.int (n : Nat)), some (.ref p), some (.ref Lo), some (.int (x : Nat)), some (.ref Aw), none, some (.ref pa), some (.ref pb), some (.ref N), none, some (.ref U), some v, some u, some (.int k)] ∧ Wrong n H' h u ∧ Lw a.C Pt h c q0 p Lo n es lot us [(pa, ps), (pb, qs)] H', ?_, fun τ H19 hM => ?_⟩
    · refine ⟨_, rfl, h, c, 2, rfl, W.hand, by decide, by decide, fun H8 r d8 r0 r1 => ?_⟩
      exact ⟨r, rfl, wr.stay (.of_drawn W.hand d8), W.drawn d8⟩
    clear W wr
    obtain ⟨k', rfl, wr, W⟩ := hM
    obtain ⟨sh, cl⟩ := three_ok (b := true) (d := false) sk
    -- refused: the cell
    refine ⟨fun τ H' => τ = sg [some (.ref s0), some (.ref h), some (.ref q0), some (.int (n : Nat)), some (.ref p), some (.ref Lo), some (.int (x : Nat)), some (.ref Aw), none, some (.ref pa), some (.ref pb), some (.ref N), none, some (.ref U), some v, some u, some (.int k')] ∧ Wrong n H' h u ∧ Lw a.C Pt h c q0 p Lo n es lot us [(pa, ps), (pb, qs)] H', ?_, fun τ H20 hM => ?_⟩
    · refine ⟨_, rfl, _, rfl, _, rfl, _, rfl, _, rfl, p, n, es, lot, k', v, u, u, rfl, W.lo, W.tb, .inl ⟨.flat fl, wf, rp, fun H9 t e9 ht => ?_⟩⟩
      refine ⟨_, rfl, v, rfl, rp, by show 3 ≤ sizeLine; decide, fun t2 nt2 => ?_⟩
      have e14 := al (o := .tup [.bl true, .bl false, .str (K7E.reprV v)]) nt2
      refine ⟨_, _, .tup (.inl (.inl (e14 _ _ ht))) (.cons (.bl true) (.cons (.bl false) (.cons (.str _) .nil))), .tup (.inl (.inl upd_same)) (.cons (.bl true) (.cons (.bl false) (.cons (.str _) .nil))), sh, sh, _, rfl, ?_⟩
      rw [PySem.SeqAt.eqv_refl _ cl]
      have e := e9.trans e14
      exact iteFo rfl ⟨rfl, wr.same e, W.same e⟩
    clear W wr sh cl
    obtain ⟨rfl, wr, W⟩ := hM
    obtain ⟨sh, cl⟩ := three_ok (b := false) (d := true) (z := "passing") (by decide +kernel)
    -- refused: the passing row
    refine ⟨fun τ H' => τ = sg [some (.ref s0), some (.ref h), some (.ref q0), some (.int (n : Nat)), some (.ref p), some (.ref Lo), some (.int (x : Nat)), some (.ref Aw), none, some (.ref pa), some (.ref pb), some (.ref N), none, some (.ref U), some v, some u, some (.int k')] ∧ Wrong n H' h u ∧ Lw a.C Pt h c q0 p Lo n es lot us [(pa, ps), (pb, qs)] H', ?_, fun τ H21 hM => ?_⟩
    · refine ⟨_, rfl, _, rfl, _, rfl, _, rfl, _, rfl, p, n, es, lot, k', _, u, u, rfl, W.lo, W.tb, .inr (.inl ⟨x, rfl, hx, wr.bad, fun H9 t e9 ht => ?_⟩)⟩
      refine ⟨by show 3 ≤ sizeLine; decide, fun t2 nt2 => ?_⟩
      have e14 := al (o := .tup [.bl false, .bl true, .str "passing"]) nt2
      refine ⟨_, _, .tup (.inl (.inl (e14 _ _ ht))) (.cons (.bl false) (.cons (.bl true) (.cons (.str _) .nil))), .tup (.inl (.inl upd_same)) (.cons (.bl false) (.cons (.bl true) (.cons (.str _) .nil))), sh, sh, _, rfl, ?_⟩
      rw [PySem.SeqAt.eqv_refl _ cl]
      have e := e9.trans e14
      exact iteFo rfl ⟨rfl, wr.same e, W.same e⟩
    clear W wr sh cl
    obtain ⟨rfl, wr, W⟩ := hM
    obtain ⟨sh, cl⟩ := three_ok (b := false) (d := true) (z := "among") (by decide +kernel)
    -- refused: the other row
    refine ⟨fun τ H' => τ = sg [some (.ref s0), some (.ref h), some (.ref q0), some (.int (n : Nat)), some (.ref p), some (.ref Lo), some (.int (x : Nat)), some (.ref Aw), none, some (.ref pa), some (.ref pb), some (.ref N), none, some (.ref U), some v, some u, some (.int k')] ∧ Lw a.C Pt h c q0 p Lo n es lot us [(pa, ps), (pb, qs)] H', ?_, fun τ H22 hM => ?_⟩
    · refine ⟨_, rfl, _, rfl, _, rfl, _, rfl, pa, _, rfl, .inl (.inl (.inl (rwA W))), fun A nA => ?_⟩
      have e8 := al (o := .lst (ints_ ps)) nA
      refine ⟨_, rfl, p, n, es, lot, k', _, _, u, rfl, W.lo.same e8, W.tb.ext e8, .inr (.inr ⟨x, A, ps, rfl, hx, rfl, .inr upd_same, plt, pnd, (wr.same e8).bad, fun H9 t e9 ht => ?_⟩)⟩
      refine ⟨by show 3 ≤ sizeLine; decide, fun t2 nt2 => ?_⟩
      have e14 := al (o := .tup [.bl false, .bl true, .str "among"]) nt2
      refine ⟨_, _, .tup (.inl (.inl (e14 _ _ ht))) (.cons (.bl false) (.cons (.bl true) (.cons (.str _) .nil))), .tup (.inl (.inl upd_same)) (.cons (.bl false) (.cons (.bl true) (.cons (.str _) .nil))), sh, sh, _, rfl, ?_⟩
      rw [PySem.SeqAt.eqv_refl _ cl]
      exact iteFo rfl ⟨rfl, W.same ((e8.trans e9).trans e14)⟩
    clear W wr sh cl
    obtain ⟨rfl, W⟩ := hM
    exact ⟨_, rfl, _, rfl, _, rfl, _, rfl, _, rfl, q0, p, n, es, lot, x, pa, ps, pb, qs, rfl, W.la, n5, W.lo, hx, rwA W, plt, pnd, rwB W, qlt, qnd, W.tb, fun H7 e7 T7 => q _⟩
end
end K7
end
/-! ## TB -/
section
namespace K7T
open PySem PySem.Spec PyProof.Rows L2 LamX
/-- the end of a law over which one def makes lambdas: its code object and its table are found in the top -/
theorem walk_tab {l : PySem.W.OpenLaw} {n k : Nat} {q : Program} {loose : List Str} {XP : (Str → Option Value) → Heap → Prop} {YP : World → Heap → Prop} {d : DefRec} {ts : List Addr} {K : Params → PySem.W.Frag} {CX : World → CXT} {x : Str}
    (hn : l.most = some n) (hn2 : n ≤ sizeLine) (hdf : d.params.defaults = []) (hr : Room k callerA) (hY : ∀ (w : World) (h : Heap), YP w h → (K w.params).In h)
    (hP : ∀ (w : World) (h : Heap), YP w h → ∀ P ∈ ts, h.get? P = some (PySem.W.tabObj #[]))
    (F : ∀ (w : World) (mg : Str → Option Value) (fa : Addr) (h : Heap), (K w.params).In h → h.Ns mainGlobals mg → mg d.name = some (.ref fa) → ∃ (fd : FuncData) (c Pt : Addr) (sp : Sp), PySem.W.codeHdIn (K w.params) c Pt = true ∧ Pt ∈ ts ∧ (K w.params).lookup Pt = none ∧
      (∀ (s : Shared) (u : Value), BindsTo s fd ⟨[u], []⟩ [(x, u)]) ∧ (∀ (H : Hp) (a : Addr) (ns : List Int), ns.length ≤ n → H Pt = some (.tbl #[]) → SqL (K w.params) H a (ns.map V.int) → sp [.ref a] H (fun v _ => v = .bl true) fun _ _ _ => False) ∧
      ∀ base : Heap, (K w.params).In base → base.Ns mainGlobals mg → TabB base mg c Pt → FnOk l.prog w (K w.params) mg base (CX w) k fa fd [x] sp)
    (hCX : ∀ (w : World) (H : Hp) (s : Shared) (e : Value) (s' : Shared), CX w [] H s (fun _ _ _ => False) e s' → False) :
    PySem.W.WalkO q loose XP YP l.row.toRowW d [] (fun f vs => PySem.call f vs) := by
  refine Att.attach_callB hn hdf fun w s₀ s₁ mg mb fa o pm cd doc a vs ns G Y ho hd hcd hmg hobj hints hlen hbits hg => ?_
  have KX := hY w _ Y
  obtain ⟨fd, c, Pt, sp, ht, mT, nT, hb, hsp, hF⟩ := F w mg fa _ KX G.T.g hmg
  have C := PySem.W.codeHd_of_K KX ht
  have hT := hP w _ Y Pt mT
  have one : ∀ p ∈ [(c, Pt)], p = (c, Pt) := fun p hp => List.mem_singleton.mp hp
  exact law_callTs (cs := [(c, Pt)]) KX G.T.g G.T.b G.T.builtins G.T.nolimit hg (fun p hp => by rw [one p hp]; exact hT) (fun p hp => by rw [one p hp]; exact nT) (fun p hp => by rw [one p hp]; exact C) G.T.bmain hobj hints (Nat.le_trans hlen hn2) hr
    (fun base k1 k2 TB => hF base k1 k2 (TB _ (List.mem_singleton.mpr rfl))) hb (fun H hH hS => hsp H a ns hlen (hH _ (List.mem_singleton.mpr rfl)) hS) fun H e s' => hCX w H s₁ e s'
end K7T
end
/-! ## P23 -/
section
open PySem PySem.Spec PyProof.Rows L2
namespace K7
theorem all_mk {P : Program} {w : World} {K : PySem.W.Frag} {h : Heap} {mg : Str → Option Value} {fa : Addr} (X : K.In h) (G : h.Ns mainGlobals mg) (hfa : mg "law" = some (.ref fa))
  {f_sq : Addr}
  (a_sq : PySem.W.nsIn K mainGlobals "is_sequence" = some (some (.ref f_sq)))
  {od_sq an_sq : Option Addr}
  {sl_sq : Array (Option Value)}
  {oc_sq kV_sq dc_sq pm_sq cd_sq ct_sq : Value}
  (l_sq : K.lookup f_sq = some ⟨oc_sq, od_sq, .func (PySem.W.fnOf "is_sequence" "is_sequence" (defArgs s_is_sequence) (defBody s_is_sequence) (defScope s_is_sequence) .none kV_sq dc_sq pm_sq an_sq cd_sq ct_sq), sl_sq⟩)
  (c_sq : PySem.W.codeIn K cd_sq "is_sequence" = true)
  (k_sq : PySem.W.keepIn K (.ref f_sq) = true)
  {f_isw : Addr}
  (a_isw : PySem.W.nsIn K mainGlobals "is_whole" = some (some (.ref f_isw)))
  {od_isw an_isw : Option Addr}
  {sl_isw : Array (Option Value)}
  {oc_isw kV_isw dc_isw pm_isw cd_isw ct_isw : Value}
  (l_isw : K.lookup f_isw = some ⟨oc_isw, od_isw, .func (PySem.W.fnOf "is_whole" "is_whole" (defArgs s_is_whole) (defBody s_is_whole) (defScope s_is_whole) .none kV_isw dc_isw pm_isw an_isw cd_isw ct_isw), sl_isw⟩)
  (c_isw : PySem.W.codeIn K cd_isw "is_whole" = true)
  (k_isw : PySem.W.keepIn K (.ref f_isw) = true)
  {f_ac : Addr}
  (a_ac : PySem.W.nsIn K mainGlobals "are_cells" = some (some (.ref f_ac)))
  {od_ac an_ac : Option Addr}
  {sl_ac : Array (Option Value)}
  {oc_ac kV_ac dc_ac pm_ac cd_ac ct_ac : Value}
  (l_ac : K.lookup f_ac = some ⟨oc_ac, od_ac, .func (PySem.W.fnOf "are_cells" "are_cells" (defArgs s_are_cells) (defBody s_are_cells) (defScope s_are_cells) .none kV_ac dc_ac pm_ac an_ac cd_ac ct_ac), sl_ac⟩)
  (c_ac : PySem.W.codeIn K cd_ac "are_cells" = true)
  (k_ac : PySem.W.keepIn K (.ref f_ac) = true)
  {f_a2 : Addr}
  (a_a2 : PySem.W.nsIn K mainGlobals "are_two_cells" = some (some (.ref f_a2)))
  {od_a2 an_a2 : Option Addr}
  {sl_a2 : Array (Option Value)}
  {oc_a2 kV_a2 dc_a2 pm_a2 cd_a2 ct_a2 : Value}
  (l_a2 : K.lookup f_a2 = some ⟨oc_a2, od_a2, .func (PySem.W.fnOf "are_two_cells" "are_two_cells" (defArgs s_are_two_cells) (defBody s_are_two_cells) (defScope s_are_two_cells) .none kV_a2 dc_a2 pm_a2 an_a2 cd_a2 ct_a2), sl_a2⟩)
  (c_a2 : PySem.W.codeIn K cd_a2 "are_two_cells" = true)
  (k_a2 : PySem.W.keepIn K (.ref f_a2) = true)
  {f_ic : Addr}
  (a_ic : PySem.W.nsIn K mainGlobals "is_cell" = some (some (.ref f_ic)))
  {od_ic an_ic : Option Addr}
  {sl_ic : Array (Option Value)}
  {oc_ic kV_ic dc_ic pm_ic cd_ic ct_ic : Value}
  (l_ic : K.lookup f_ic = some ⟨oc_ic, od_ic, .func (PySem.W.fnOf "is_cell" "is_cell" (defArgs s_is_cell) (defBody s_is_cell) (defScope s_is_cell) .none kV_ic dc_ic pm_ic an_ic cd_ic ct_ic), sl_ic⟩)
  (c_ic : PySem.W.codeIn K cd_ic "is_cell" = true)
  (k_ic : PySem.W.keepIn K (.ref f_ic) = true)
  {f_il : Addr}
  (a_il : PySem.W.nsIn K mainGlobals "is_lot" = some (some (.ref f_il)))
  {od_il an_il : Option Addr}
  {sl_il : Array (Option Value)}
  {oc_il kV_il dc_il pm_il cd_il ct_il : Value}
  (l_il : K.lookup f_il = some ⟨oc_il, od_il, .func (PySem.W.fnOf "is_lot" "is_lot" (defArgs s_is_lot) (defBody s_is_lot) (defScope s_is_lot) .none kV_il dc_il pm_il an_il cd_il ct_il), sl_il⟩)
  (c_il : PySem.W.codeIn K cd_il "is_lot" = true)
  (k_il : PySem.W.keepIn K (.ref f_il) = true)
  {f_ck : Addr}
  (a_ck : PySem.W.nsIn K mainGlobals "check_cells" = some (some (.ref f_ck)))
  {od_ck an_ck : Option Addr}
  {sl_ck : Array (Option Value)}
  {oc_ck kV_ck dc_ck pm_ck cd_ck ct_ck : Value}
  (l_ck : K.lookup f_ck = some ⟨oc_ck, od_ck, .func (PySem.W.fnOf "check_cells" "check_cells" (defArgs s_check_cells) (defBody s_check_cells) (defScope s_check_cells) .none kV_ck dc_ck pm_ck an_ck cd_ck ct_ck), sl_ck⟩)
  (c_ck : PySem.W.codeIn K cd_ck "check_cells" = true)
  (k_ck : PySem.W.keepIn K (.ref f_ck) = true)
  {f_sp : Addr}
  (a_sp : PySem.W.nsIn K mainGlobals "spread" = some (some (.ref f_sp)))
  {od_sp an_sp : Option Addr}
  {sl_sp : Array (Option Value)}
  {oc_sp kV_sp dc_sp pm_sp cd_sp ct_sp : Value}
  (l_sp : K.lookup f_sp = some ⟨oc_sp, od_sp, .func (PySem.W.fnOf "spread" "spread" (defArgs s_spread) (defBody s_spread) (defScope s_spread) .none kV_sp dc_sp pm_sp an_sp cd_sp ct_sp), sl_sp⟩)
  (c_sp : PySem.W.codeIn K cd_sp "spread" = true)
  (k_sp : PySem.W.keepIn K (.ref f_sp) = true)
  {f_ny : Addr}
  (a_ny : PySem.W.nsIn K mainGlobals "nearby_cells" = some (some (.ref f_ny)))
  {od_ny an_ny : Option Addr}
  {sl_ny : Array (Option Value)}
  {oc_ny kV_ny dc_ny pm_ny cd_ny ct_ny : Value}
  (l_ny : K.lookup f_ny = some ⟨oc_ny, od_ny, .func (PySem.W.fnOf "nearby_cells" "nearby_cells" (defArgs s_nearby_cells) (defBody s_nearby_cells) (defScope s_nearby_cells) .none kV_ny dc_ny pm_ny an_ny cd_ny ct_ny), sl_ny⟩)
  (c_ny : PySem.W.codeIn K cd_ny "nearby_cells" = true)
  (k_ny : PySem.W.keepIn K (.ref f_ny) = true)
  {f_ht : Addr}
  (a_ht : PySem.W.nsIn K mainGlobals "hang_together" = some (some (.ref f_ht)))
  {od_ht an_ht : Option Addr}
  {sl_ht : Array (Option Value)}
  {oc_ht kV_ht dc_ht pm_ht cd_ht ct_ht : Value}
  (l_ht : K.lookup f_ht = some ⟨oc_ht, od_ht, .func (PySem.W.fnOf "hang_together" "hang_together" (defArgs s_hang_together) (defBody s_hang_together) (defScope s_hang_together) .none kV_ht dc_ht pm_ht an_ht cd_ht ct_ht), sl_ht⟩)
  (c_ht : PySem.W.codeIn K cd_ht "hang_together" = true)
  (k_ht : PySem.W.keepIn K (.ref f_ht) = true)
  {f_nb : Addr}
  (a_nb : PySem.W.nsIn K mainGlobals "_are_neighbours" = some (some (.ref f_nb)))
  {od_nb an_nb : Option Addr}
  {sl_nb : Array (Option Value)}
  {oc_nb kV_nb dc_nb pm_nb cd_nb ct_nb : Value}
  (l_nb : K.lookup f_nb = some ⟨oc_nb, od_nb, .func (PySem.W.fnOf "_are_neighbours" "_are_neighbours" (defArgs s__are_neighbours) (defBody s__are_neighbours) (defScope s__are_neighbours) .none kV_nb dc_nb pm_nb an_nb cd_nb ct_nb), sl_nb⟩)
  (c_nb : PySem.W.codeIn K cd_nb "_are_neighbours" = true)
  (k_nb : PySem.W.keepIn K (.ref f_nb) = true)
  {f_ch : Addr}
  (a_ch : PySem.W.nsIn K mainGlobals "_check" = some (some (.ref f_ch)))
  {od_ch an_ch : Option Addr}
  {sl_ch : Array (Option Value)}
  {oc_ch kV_ch dc_ch pm_ch cd_ch ct_ch : Value}
  (l_ch : K.lookup f_ch = some ⟨oc_ch, od_ch, .func (PySem.W.fnOf "_check" "_check" (defArgs s__check) (defBody s__check) (defScope s__check) .none kV_ch dc_ch pm_ch an_ch cd_ch ct_ch), sl_ch⟩)
  (c_ch : PySem.W.codeIn K cd_ch "_check" = true)
  (k_ch : PySem.W.keepIn K (.ref f_ch) = true)
  {f_op : Addr}
  (a_op : PySem.W.nsIn K mainGlobals "opens" = some (some (.ref f_op)))
  {od_op an_op : Option Addr}
  {sl_op : Array (Option Value)}
  {oc_op kV_op dc_op pm_op cd_op ct_op : Value}
  (l_op : K.lookup f_op = some ⟨oc_op, od_op, .func (PySem.W.fnOf "opens" "opens" (defArgs s_opens) (defBody s_opens) (defScope s_opens) .none kV_op dc_op pm_op an_op cd_op ct_op), sl_op⟩)
  (c_op : PySem.W.codeIn K cd_op "opens" = true)
  (k_op : PySem.W.keepIn K (.ref f_op) = true)
  {f_le : Addr}
  (a_le : PySem.W.nsIn K mainGlobals "least_lots" = some (some (.ref f_le)))
  {od_le an_le : Option Addr}
  {sl_le : Array (Option Value)}
  {oc_le kV_le dc_le pm_le cd_le ct_le : Value}
  (l_le : K.lookup f_le = some ⟨oc_le, od_le, .func (PySem.W.fnOf "least_lots" "least_lots" (defArgs s_least_lots) (defBody s_least_lots) (defScope s_least_lots) .none kV_le dc_le pm_le an_le cd_le ct_le), sl_le⟩)
  (c_le : PySem.W.codeIn K cd_le "least_lots" = true)
  (k_le : PySem.W.keepIn K (.ref f_le) = true)
  {f_l1 : Addr}
  (a_l1 : PySem.W.nsIn K mainGlobals "least_lot" = some (some (.ref f_l1)))
  {od_l1 an_l1 : Option Addr}
  {sl_l1 : Array (Option Value)}
  {oc_l1 kV_l1 dc_l1 pm_l1 cd_l1 ct_l1 : Value}
  (l_l1 : K.lookup f_l1 = some ⟨oc_l1, od_l1, .func (PySem.W.fnOf "least_lot" "least_lot" (defArgs s_least_lot) (defBody s_least_lot) (defScope s_least_lot) .none kV_l1 dc_l1 pm_l1 an_l1 cd_l1 ct_l1), sl_l1⟩)
  (c_l1 : PySem.W.codeIn K cd_l1 "least_lot" = true)
  (k_l1 : PySem.W.keepIn K (.ref f_l1) = true)
  {f_mi : Addr}
  (a_mi : PySem.W.nsIn K mainGlobals "_law_mix" = some (some (.ref f_mi)))
  {od_mi an_mi : Option Addr}
  {sl_mi : Array (Option Value)}
  {oc_mi kV_mi dc_mi pm_mi cd_mi ct_mi : Value}
  (l_mi : K.lookup f_mi = some ⟨oc_mi, od_mi, .func (PySem.W.fnOf "_law_mix" "_law_mix" (defArgs s__law_mix) (defBody s__law_mix) (defScope s__law_mix) .none kV_mi dc_mi pm_mi an_mi cd_mi ct_mi), sl_mi⟩)
  (c_mi : PySem.W.codeIn K cd_mi "_law_mix" = true)
  (k_mi : PySem.W.keepIn K (.ref f_mi) = true)
  {f_ha : Addr}
  (a_ha : PySem.W.nsIn K mainGlobals "_law_hand" = some (some (.ref f_ha)))
  {od_ha an_ha : Option Addr}
  {sl_ha : Array (Option Value)}
  {oc_ha kV_ha dc_ha pm_ha cd_ha ct_ha : Value}
  (l_ha : K.lookup f_ha = some ⟨oc_ha, od_ha, .func (PySem.W.fnOf "_law_hand" "_law_hand" (defArgs s__law_hand) (defBody s__law_hand) (defScope s__law_hand) .none kV_ha dc_ha pm_ha an_ha cd_ha ct_ha), sl_ha⟩)
  (c_ha : PySem.W.codeIn K cd_ha "_law_hand" = true)
  (k_ha : PySem.W.keepIn K (.ref f_ha) = true)
  {f_dr : Addr}
  (a_dr : PySem.W.nsIn K mainGlobals "_law_draw" = some (some (.ref f_dr)))
  {od_dr an_dr : Option Addr}
  {sl_dr : Array (Option Value)}
  {oc_dr kV_dr dc_dr pm_dr cd_dr ct_dr : Value}
  (l_dr : K.lookup f_dr = some ⟨oc_dr, od_dr, .func (PySem.W.fnOf "_law_draw" "_law_draw" (defArgs s__law_draw) (defBody s__law_draw) (defScope s__law_draw) .none kV_dr dc_dr pm_dr an_dr cd_dr ct_dr), sl_dr⟩)
  (c_dr : PySem.W.codeIn K cd_dr "_law_draw" = true)
  (k_dr : PySem.W.keepIn K (.ref f_dr) = true)
  {f_pk : Addr}
  (a_pk : PySem.W.nsIn K mainGlobals "_law_pick" = some (some (.ref f_pk)))
  {od_pk an_pk : Option Addr}
  {sl_pk : Array (Option Value)}
  {oc_pk kV_pk dc_pk pm_pk cd_pk ct_pk : Value}
  (l_pk : K.lookup f_pk = some ⟨oc_pk, od_pk, .func (PySem.W.fnOf "_law_pick" "_law_pick" (defArgs s__law_pick) (defBody s__law_pick) (defScope s__law_pick) .none kV_pk dc_pk pm_pk an_pk cd_pk ct_pk), sl_pk⟩)
  (c_pk : PySem.W.codeIn K cd_pk "_law_pick" = true)
  (k_pk : PySem.W.keepIn K (.ref f_pk) = true)
  {f_lo : Addr}
  (a_lo : PySem.W.nsIn K mainGlobals "_law_lots" = some (some (.ref f_lo)))
  {od_lo an_lo : Option Addr}
  {sl_lo : Array (Option Value)}
  {oc_lo kV_lo dc_lo pm_lo cd_lo ct_lo : Value}
  (l_lo : K.lookup f_lo = some ⟨oc_lo, od_lo, .func (PySem.W.fnOf "_law_lots" "_law_lots" (defArgs s__law_lots) (defBody s__law_lots) (defScope s__law_lots) .none kV_lo dc_lo pm_lo an_lo cd_lo ct_lo), sl_lo⟩)
  (c_lo : PySem.W.codeIn K cd_lo "_law_lots" = true)
  (k_lo : PySem.W.keepIn K (.ref f_lo) = true)
  {f_ld : Addr}
  (a_ld : PySem.W.nsIn K mainGlobals "_law_land" = some (some (.ref f_ld)))
  {od_ld an_ld : Option Addr}
  {sl_ld : Array (Option Value)}
  {oc_ld kV_ld dc_ld pm_ld cd_ld ct_ld : Value}
  (l_ld : K.lookup f_ld = some ⟨oc_ld, od_ld, .func (PySem.W.fnOf "_law_land" "_law_land" (defArgs s__law_land) (defBody s__law_land) (defScope s__law_land) .none kV_ld dc_ld pm_ld an_ld cd_ld ct_ld), sl_ld⟩)
  (c_ld : PySem.W.codeIn K cd_ld "_law_land" = true)
  (k_ld : PySem.W.keepIn K (.ref f_ld) = true)
  {f_lc : Addr}
  (a_lc : PySem.W.nsIn K mainGlobals "_law_comes" = some (some (.ref f_lc)))
  {od_lc an_lc : Option Addr}
  {sl_lc : Array (Option Value)}
  {oc_lc kV_lc dc_lc pm_lc cd_lc ct_lc : Value}
  (l_lc : K.lookup f_lc = some ⟨oc_lc, od_lc, .func (PySem.W.fnOf "_law_comes" "_law_comes" (defArgs s__law_comes) (defBody s__law_comes) (defScope s__law_comes) .none kV_lc dc_lc pm_lc an_lc cd_lc ct_lc), sl_lc⟩)
  (c_lc : PySem.W.codeIn K cd_lc "_law_comes" = true)
  (k_lc : PySem.W.keepIn K (.ref f_lc) = true)
  {f_lp : Addr}
  (a_lp : PySem.W.nsIn K mainGlobals "_law_open" = some (some (.ref f_lp)))
  {od_lp an_lp : Option Addr}
  {sl_lp : Array (Option Value)}
  {oc_lp kV_lp dc_lp pm_lp cd_lp ct_lp : Value}
  (l_lp : K.lookup f_lp = some ⟨oc_lp, od_lp, .func (PySem.W.fnOf "_law_open" "_law_open" (defArgs s__law_open) (defBody s__law_open) (defScope s__law_open) .none kV_lp dc_lp pm_lp an_lp cd_lp ct_lp), sl_lp⟩)
  (c_lp : PySem.W.codeIn K cd_lp "_law_open" = true)
  (k_lp : PySem.W.keepIn K (.ref f_lp) = true)
  {f_alo : Addr}
  (a_alo : PySem.W.nsIn K mainGlobals "_law_least" = some (some (.ref f_alo)))
  {od_alo an_alo : Option Addr}
  {sl_alo : Array (Option Value)}
  {oc_alo kV_alo dc_alo pm_alo cd_alo ct_alo : Value}
  (l_alo : K.lookup f_alo = some ⟨oc_alo, od_alo, .func (PySem.W.fnOf "_law_least" "_law_least" (defArgs s__law_least) (defBody s__law_least) (defScope s__law_least) .none kV_alo dc_alo pm_alo an_alo cd_alo ct_alo), sl_alo⟩)
  (c_alo : PySem.W.codeIn K cd_alo "_law_least" = true)
  (k_alo : PySem.W.keepIn K (.ref f_alo) = true)
  {f_mx : Addr}
  (a_mx : PySem.W.nsIn K mainGlobals "_law_mixed" = some (some (.ref f_mx)))
  {od_mx an_mx : Option Addr}
  {sl_mx : Array (Option Value)}
  {oc_mx kV_mx dc_mx pm_mx cd_mx ct_mx : Value}
  (l_mx : K.lookup f_mx = some ⟨oc_mx, od_mx, .func (PySem.W.fnOf "_law_mixed" "_law_mixed" (defArgs s__law_mixed) (defBody s__law_mixed) (defScope s__law_mixed) .none kV_mx dc_mx pm_mx an_mx cd_mx ct_mx), sl_mx⟩)
  (c_mx : PySem.W.codeIn K cd_mx "_law_mixed" = true)
  (k_mx : PySem.W.keepIn K (.ref f_mx) = true)
  {f_aal : Addr}
  (a_aal : PySem.W.nsIn K mainGlobals "_law_all_least" = some (some (.ref f_aal)))
  {od_aal an_aal : Option Addr}
  {sl_aal : Array (Option Value)}
  {oc_aal kV_aal dc_aal pm_aal cd_aal ct_aal : Value}
  (l_aal : K.lookup f_aal = some ⟨oc_aal, od_aal, .func (PySem.W.fnOf "_law_all_least" "_law_all_least" (defArgs s__law_all_least) (defBody s__law_all_least) (defScope s__law_all_least) .none kV_aal dc_aal pm_aal an_aal cd_aal ct_aal), sl_aal⟩)
  (c_aal : PySem.W.codeIn K cd_aal "_law_all_least" = true)
  (k_aal : PySem.W.keepIn K (.ref f_aal) = true)
  {f_to : Addr}
  (a_to : PySem.W.nsIn K mainGlobals "_law_told" = some (some (.ref f_to)))
  {od_to an_to : Option Addr}
  {sl_to : Array (Option Value)}
  {oc_to kV_to dc_to pm_to cd_to ct_to : Value}
  (l_to : K.lookup f_to = some ⟨oc_to, od_to, .func (PySem.W.fnOf "_law_told" "_law_told" (defArgs s__law_told) (defBody s__law_told) (defScope s__law_told) .none kV_to dc_to pm_to an_to cd_to ct_to), sl_to⟩)
  (c_to : PySem.W.codeIn K cd_to "_law_told" = true)
  (k_to : PySem.W.keepIn K (.ref f_to) = true)
  {f_rt : Addr}
  (a_rt : PySem.W.nsIn K mainGlobals "_law_right" = some (some (.ref f_rt)))
  {od_rt an_rt : Option Addr}
  {sl_rt : Array (Option Value)}
  {oc_rt kV_rt dc_rt pm_rt cd_rt ct_rt : Value}
  (l_rt : K.lookup f_rt = some ⟨oc_rt, od_rt, .func (PySem.W.fnOf "_law_right" "_law_right" (defArgs s__law_right) (defBody s__law_right) (defScope s__law_right) .none kV_rt dc_rt pm_rt an_rt cd_rt ct_rt), sl_rt⟩)
  (c_rt : PySem.W.codeIn K cd_rt "_law_right" = true)
  (k_rt : PySem.W.keepIn K (.ref f_rt) = true)
  {f_la : Addr}
  (a_la : PySem.W.nsIn K mainGlobals "law" = some (some (.ref f_la)))
  {od_la an_la : Option Addr}
  {sl_la : Array (Option Value)}
  {oc_la kV_la dc_la pm_la cd_la ct_la : Value}
  (l_la : K.lookup f_la = some ⟨oc_la, od_la, .func (PySem.W.fnOf "law" "law" (defArgs s_law) (defBody s_law) (defScope s_law) .none kV_la dc_la pm_la an_la cd_la ct_la), sl_la⟩)
  (c_la : PySem.W.codeIn K cd_la "law" = true)
  (k_la : PySem.W.keepIn K (.ref f_la) = true)
  {f_al cc_al Pt : Addr}
  (a_al : PySem.W.nsIn K mainGlobals "all_lots" = some (some (.ref f_al)))
  {od_al an_al : Option Addr}
  {sl_al : Array (Option Value)}
  {oc_al kV_al dc_al pm_al ct_al : Value}
  {tbs : List Addr}
  (m_al : Pt ∈ tbs)
  (l_al : K.lookup f_al = some ⟨oc_al, od_al, .func (PySem.W.fnOf "all_lots" "all_lots" (defArgs s_all_lots) (defBody s_all_lots) (defScope s_all_lots) .none kV_al dc_al pm_al an_al (.ref cc_al) ct_al), sl_al⟩)
  (c_al : PySem.W.codeIn K (.ref cc_al) "all_lots" = true)
  (k_al : PySem.W.keepIn K (.ref f_al) = true)
  (t_al : PySem.W.codeHdIn K cc_al Pt = true)
  (n_al : K.lookup Pt = none)
  {L : Addr}
  (aL : PySem.W.nsIn K mainGlobals "LandError" = some (some (.ref L)))
  (eL : PySem.W.subIn K (.ref L) (.type "BaseException") = some true)
  (dL : PySem.W.hasDictIn K L = true)
  (tL : PySem.W.typeIn K (.ref L) = some (.type "type"))
  (icL : PySem.W.isClsIn K L = true)
  (hnO : PySem.W.specialIn K (.builtin "object.__class__") "__get__" = some (some (.builtin "getset_descriptor.__get__")))
  (htO : PySem.W.takesIn K (.builtin "object.__class__") = some true)
  {LC : Addr}
  (aLC : PySem.W.nsIn K mainGlobals "Land" = some (some (.ref LC)))
  (pgLC : PySem.W.plainGet K LC Str.empty = true)
  (hdLC : PySem.W.hasDictIn K LC = true)
  (poLC : PySem.W.plainOver K LC = true)
  (saLC : PySem.W.findIn K (.ref LC) "__setattr__" = some (some (.builtin "object.__setattr__")))
  (mkLC : PySem.W.makesIn K LC = true)
  (kcLC : PySem.W.keepIn K (.ref LC) = true)
  (haLC : PySem.W.findIn K (.ref LC) "__class__" = some (some (.builtin "object.__class__")))
  (hmLC : PySem.W.mroIn K LC (.type "object") = some true)
  (n_LC_cells : PySem.W.findIn K (.ref LC) "cells" = some none)
  (n_LC_neighbours : PySem.W.findIn K (.ref LC) "neighbours" = some none)
  (n_LC_roads : PySem.W.findIn K (.ref LC) "roads" = some none)
  (n_LC_nearby : PySem.W.findIn K (.ref LC) "nearby" = some none)
  (n_LC__couples : PySem.W.findIn K (.ref LC) "_couples" = some none)
  {f_cI : Addr}
  (a_cI : PySem.W.findIn K (.ref LC) "__init__" = some (some (.ref f_cI)))
  (i_cI : PySem.W.isFn K (.ref f_cI) = true)
  {od_cI an_cI : Option Addr}
  {sl_cI : Array (Option Value)}
  {oc_cI kV_cI dc_cI pm_cI cd_cI ct_cI : Value}
  (l_cI : K.lookup f_cI = some ⟨oc_cI, od_cI, .func (PySem.W.fnOf "__init__" "Land.__init__" (defArgs s_Land___init__) (defBody s_Land___init__) (defScope s_Land___init__) .none kV_cI dc_cI pm_cI an_cI cd_cI ct_cI), sl_cI⟩)
  (c_cI : PySem.W.codeIn K cd_cI "Land.__init__" = true)
  (k_cI : PySem.W.keepIn K (.ref f_cI) = true)
  {B : Addr}
  (aB : PySem.W.nsIn K mainGlobals "BadCell" = some (some (.ref B)))
  {nmB qB : Str}
  {N_B : Addr}
  {bsB bmB subB : List Value}
  {snB : List Str}
  {abB : Bool}
  {colB : Option Bool}
  {ddB : Option Addr}
  {m0B m1B m2B m3B m5B : Option Value}
  (xB : K.lookup B = some (excClassObj nmB qB B N_B bsB bmB true snB subB abB colB ddB m0B m1B m2B m3B m5B "ValueError.__new__"))
  (rB : PySem.HandSPX.refsVE bmB = true)
  (saB : PySem.W.findIn K (.ref B) "__setattr__" = some (some (.builtin "object.__setattr__")))
  (exB : PySem.W.subIn K (.ref B) (.type "BaseException") = some true)
  (tyB : PySem.W.typeIn K (.ref B) = some (.type "type"))
  (kpB : PySem.W.keepIn K (.ref B) = true)
  (hgB : PySem.W.findIn K (.ref B) "__getattribute__" = some (some (.builtin "BaseException.__getattribute__")))
  (hkB : PySem.W.findIn K (.ref B) "__getattr__" = some none)
  (hdB : PySem.W.hasDictIn K B = true)
  (haB : PySem.W.findIn K (.ref B) "__class__" = some (some (.builtin "object.__class__")))
  (hmB : PySem.W.mroIn K B (.type "object") = some true)
  (icB : PySem.W.isClsIn K B = true)
  (ssB : PySem.W.subIn K (.ref B) (.ref B) = some true)
  (suB : PySem.W.subIn K (.ref B) (.ref L) = some true)
  (noB : PySem.W.findIn K (.ref B) "cell" = some none)
  {f_iB : Addr}
  (a_iB : PySem.W.findIn K (.ref B) "__init__" = some (some (.ref f_iB)))
  (t_iB : PySem.W.typeIn K (.ref f_iB) = some (.type "function"))
  {od_iB an_iB : Option Addr}
  {sl_iB : Array (Option Value)}
  {oc_iB kV_iB dc_iB pm_iB cd_iB ct_iB : Value}
  (l_iB : K.lookup f_iB = some ⟨oc_iB, od_iB, .func (PySem.W.fnOf "__init__" "BadCell.__init__" (defArgs s_BadCell___init__) (defBody s_BadCell___init__) (defScope s_BadCell___init__) .none kV_iB dc_iB pm_iB an_iB cd_iB ct_iB), sl_iB⟩)
  (c_iB : PySem.W.codeIn K cd_iB "BadCell.__init__" = true)
  (k_iB : PySem.W.keepIn K (.ref f_iB) = true)
  {S : Addr}
  (aS : PySem.W.nsIn K mainGlobals "BadCells" = some (some (.ref S)))
  {nmS qS : Str}
  {N_S : Addr}
  {bsS bmS subS : List Value}
  {snS : List Str}
  {abS : Bool}
  {colS : Option Bool}
  {ddS : Option Addr}
  {m0S m1S m2S m3S m5S : Option Value}
  (xS : K.lookup S = some (excClassObj nmS qS S N_S bsS bmS true snS subS abS colS ddS m0S m1S m2S m3S m5S "ValueError.__new__"))
  (rS : PySem.HandSPX.refsVE bmS = true)
  (saS : PySem.W.findIn K (.ref S) "__setattr__" = some (some (.builtin "object.__setattr__")))
  (exS : PySem.W.subIn K (.ref S) (.type "BaseException") = some true)
  (tyS : PySem.W.typeIn K (.ref S) = some (.type "type"))
  (kpS : PySem.W.keepIn K (.ref S) = true)
  (hgS : PySem.W.findIn K (.ref S) "__getattribute__" = some (some (.builtin "BaseException.__getattribute__")))
  (hkS : PySem.W.findIn K (.ref S) "__getattr__" = some none)
  (hdS : PySem.W.hasDictIn K S = true)
  (haS : PySem.W.findIn K (.ref S) "__class__" = some (some (.builtin "object.__class__")))
  (hmS : PySem.W.mroIn K S (.type "object") = some true)
  (icS : PySem.W.isClsIn K S = true)
  (ssS : PySem.W.subIn K (.ref S) (.ref S) = some true)
  (suS : PySem.W.subIn K (.ref S) (.ref L) = some true)
  (noS : PySem.W.findIn K (.ref S) "what" = some none)
  {f_iS : Addr}
  (a_iS : PySem.W.findIn K (.ref S) "__init__" = some (some (.ref f_iS)))
  (t_iS : PySem.W.typeIn K (.ref f_iS) = some (.type "function"))
  {od_iS an_iS : Option Addr}
  {sl_iS : Array (Option Value)}
  {oc_iS kV_iS dc_iS pm_iS cd_iS ct_iS : Value}
  (l_iS : K.lookup f_iS = some ⟨oc_iS, od_iS, .func (PySem.W.fnOf "__init__" "BadCells.__init__" (defArgs s_BadCells___init__) (defBody s_BadCells___init__) (defScope s_BadCells___init__) .none kV_iS dc_iS pm_iS an_iS cd_iS ct_iS), sl_iS⟩)
  (c_iS : PySem.W.codeIn K cd_iS "BadCells.__init__" = true)
  (k_iS : PySem.W.keepIn K (.ref f_iS) = true)
  (suBS : PySem.W.subIn K (.ref B) (.ref S) = some false)
  (suSB : PySem.W.subIn K (.ref S) (.ref B) = some false)
  {t_M : Tok}
  (a_M : PySem.W.nsIn K mainGlobals "MOST_CELLS" = some (some (.int 5 t_M)))
  (z_isinstance : PySem.W.nsIn K mainGlobals "isinstance" = some none)
  (z_int : PySem.W.nsIn K mainGlobals "int" = some none)
  (z_bool : PySem.W.nsIn K mainGlobals "bool" = some none)
  (z_tuple : PySem.W.nsIn K mainGlobals "tuple" = some none)
  (z_list : PySem.W.nsIn K mainGlobals "list" = some none)
  (z_enumerate : PySem.W.nsIn K mainGlobals "enumerate" = some none)
  (z_len : PySem.W.nsIn K mainGlobals "len" = some none)
  (z_abs : PySem.W.nsIn K mainGlobals "abs" = some none)
  (z_range : PySem.W.nsIn K mainGlobals "range" = some none)
  (z_min : PySem.W.nsIn K mainGlobals "min" = some none)
  (z_max : PySem.W.nsIn K mainGlobals "max" = some none)
  (z_sorted : PySem.W.nsIn K mainGlobals "sorted" = some none)
  (z_set : PySem.W.nsIn K mainGlobals "set" = some none)
  (z_all : PySem.W.nsIn K mainGlobals "all" = some none)
  (z_any : PySem.W.nsIn K mainGlobals "any" = some none)
  (z_repr : PySem.W.nsIn K mainGlobals "repr" = some none) :
    ∃ (fd : FuncData) (c Pt : Addr) (sp : Sp), PySem.W.codeHdIn K c Pt = true ∧ Pt ∈ tbs ∧ K.lookup Pt = none ∧ (∀ (s : Shared) (u : Value), BindsTo s fd ⟨[u], []⟩ [("_law_script", u)]) ∧
      (∀ (H : Hp) (a : Addr) (ns : List Int), ns.length ≤ 63 → H Pt = some (.tbl #[]) → SqL K H a (ns.map V.int) → sp [.ref a] H (fun v _ => v = .bl true) fun _ _ _ => False) ∧
      ∀ base : Heap, K.In base → base.Ns mainGlobals mg → LamX.TabB base mg c Pt → FnOk P w K mg base CX0 9 fa fd ["_law_script"] sp := by
  have e := hfa.symm.trans (PySem.W.mg_of X G a_la)
  cases e
  have F_sq := fun_mk (st := s_is_sequence) l_sq c_sq k_sq
  have b_sq := F_sq.binds (ps := ["thing"]) fun _ _ _ _ _ _ us hl => match us, hl with | [_], _ => rfl
  have g_sq := PySem.W.mg_of X G a_sq
  have F_isw := fun_mk (st := s_is_whole) l_isw c_isw k_isw
  have b_isw := F_isw.binds (ps := ["thing", "low", "high"]) fun _ _ _ _ _ _ us hl => match us, hl with | [_, _, _], _ => rfl
  have g_isw := PySem.W.mg_of X G a_isw
  have F_ac := fun_mk (st := s_are_cells) l_ac c_ac k_ac
  have b_ac := F_ac.binds (ps := ["many", "thing", "least"]) fun _ _ _ _ _ _ us hl => match us, hl with | [_, _, _], _ => rfl
  have g_ac := PySem.W.mg_of X G a_ac
  have F_a2 := fun_mk (st := s_are_two_cells) l_a2 c_a2 k_a2
  have b_a2 := F_a2.binds (ps := ["many", "thing"]) fun _ _ _ _ _ _ us hl => match us, hl with | [_, _], _ => rfl
  have g_a2 := PySem.W.mg_of X G a_a2
  have F_ic := fun_mk (st := s_is_cell) l_ic c_ic k_ic
  have b_ic := F_ic.binds (ps := ["land", "thing"]) fun _ _ _ _ _ _ us hl => match us, hl with | [_, _], _ => rfl
  have g_ic := PySem.W.mg_of X G a_ic
  have F_il := fun_mk (st := s_is_lot) l_il c_il k_il
  have b_il := F_il.binds (ps := ["land", "thing", "least"]) fun _ _ _ _ _ _ us hl => match us, hl with | [_, _, _], _ => rfl
  have g_il := PySem.W.mg_of X G a_il
  have F_ck := fun_mk (st := s_check_cells) l_ck c_ck k_ck
  have g_ck := PySem.W.mg_of X G a_ck
  have F_sp := fun_mk (st := s_spread) l_sp c_sp k_sp
  have b_sp := F_sp.binds (ps := ["nearby", "cell", "passing"]) fun _ _ _ _ _ _ us hl => match us, hl with | [_, _, _], _ => rfl
  have g_sp := PySem.W.mg_of X G a_sp
  have F_ny := fun_mk (st := s_nearby_cells) l_ny c_ny k_ny
  have b_ny := F_ny.binds (ps := ["cells", "couples"]) fun _ _ _ _ _ _ us hl => match us, hl with | [_, _], _ => rfl
  have g_ny := PySem.W.mg_of X G a_ny
  have F_ht := fun_mk (st := s_hang_together) l_ht c_ht k_ht
  have b_ht := F_ht.binds (ps := ["cells", "couples"]) fun _ _ _ _ _ _ us hl => match us, hl with | [_, _], _ => rfl
  have g_ht := PySem.W.mg_of X G a_ht
  have F_nb := fun_mk (st := s__are_neighbours) l_nb c_nb k_nb
  have b_nb := F_nb.binds (ps := ["cells", "thing"]) fun _ _ _ _ _ _ us hl => match us, hl with | [_, _], _ => rfl
  have g_nb := PySem.W.mg_of X G a_nb
  have F_ch := fun_mk (st := s__check) l_ch c_ch k_ch
  have b_ch := F_ch.binds (ps := ["land", "cell", "passing"]) fun _ _ _ _ _ _ us hl => match us, hl with | [_, _, _], _ => rfl
  have g_ch := PySem.W.mg_of X G a_ch
  have F_op := fun_mk (st := s_opens) l_op c_op k_op
  have b_op := F_op.binds (ps := ["land", "cell", "passing"]) fun _ _ _ _ _ _ us hl => match us, hl with | [_, _, _], _ => rfl
  have g_op := PySem.W.mg_of X G a_op
  have F_le := fun_mk (st := s_least_lots) l_le c_le k_le
  have b_le := F_le.binds (ps := ["land", "cell", "passing", "among"]) fun _ _ _ _ _ _ us hl => match us, hl with | [_, _, _, _], _ => rfl
  have g_le := PySem.W.mg_of X G a_le
  have F_l1 := fun_mk (st := s_least_lot) l_l1 c_l1 k_l1
  have b_l1 := F_l1.binds (ps := ["land", "cell", "passing", "among"]) fun _ _ _ _ _ _ us hl => match us, hl with | [_, _, _, _], _ => rfl
  have g_l1 := PySem.W.mg_of X G a_l1
  have F_mi := fun_mk (st := s__law_mix) l_mi c_mi k_mi
  have b_mi := F_mi.binds (ps := ["_law_number", "_law_turn"]) fun _ _ _ _ _ _ us hl => match us, hl with | [_, _], _ => rfl
  have g_mi := PySem.W.mg_of X G a_mi
  have F_ha := fun_mk (st := s__law_hand) l_ha c_ha k_ha
  have b_ha := F_ha.binds (ps := ["_law_script"]) fun _ _ _ _ _ _ us hl => match us, hl with | [_], _ => rfl
  have g_ha := PySem.W.mg_of X G a_ha
  have F_dr := fun_mk (st := s__law_draw) l_dr c_dr k_dr
  have b_dr := F_dr.binds (ps := ["_law_hand_here", "_law_many"]) fun _ _ _ _ _ _ us hl => match us, hl with | [_, _], _ => rfl
  have g_dr := PySem.W.mg_of X G a_dr
  have F_pk := fun_mk (st := s__law_pick) l_pk c_pk k_pk
  have b_pk := F_pk.binds (ps := ["_law_hand_here", "_law_things"]) fun _ _ _ _ _ _ us hl => match us, hl with | [_, _], _ => rfl
  have g_pk := PySem.W.mg_of X G a_pk
  have F_lo := fun_mk (st := s__law_lots) l_lo c_lo k_lo
  have b_lo := F_lo.binds (ps := ["_law_cells"]) fun _ _ _ _ _ _ us hl => match us, hl with | [_], _ => rfl
  have g_lo := PySem.W.mg_of X G a_lo
  have F_ld := fun_mk (st := s__law_land) l_ld c_ld k_ld
  have b_ld := F_ld.binds (ps := ["_law_hand_here", "_law_n"]) fun _ _ _ _ _ _ us hl => match us, hl with | [_, _], _ => rfl
  have g_ld := PySem.W.mg_of X G a_ld
  have F_lc := fun_mk (st := s__law_comes) l_lc c_lc k_lc
  have b_lc := F_lc.binds (ps := ["_law_land_here", "_law_cell", "_law_passing"]) fun _ _ _ _ _ _ us hl => match us, hl with | [_, _, _], _ => rfl
  have g_lc := PySem.W.mg_of X G a_lc
  have F_lp := fun_mk (st := s__law_open) l_lp c_lp k_lp
  have b_lp := F_lp.binds (ps := ["_law_land_here", "_law_cell", "_law_passing"]) fun _ _ _ _ _ _ us hl => match us, hl with | [_, _, _], _ => rfl
  have g_lp := PySem.W.mg_of X G a_lp
  have F_alo := fun_mk (st := s__law_least) l_alo c_alo k_alo
  have b_alo := F_alo.binds (ps := ["_law_land_here", "_law_cell", "_law_passing", "_law_among"]) fun _ _ _ _ _ _ us hl => match us, hl with | [_, _, _, _], _ => rfl
  have g_alo := PySem.W.mg_of X G a_alo
  have F_mx := fun_mk (st := s__law_mixed) l_mx c_mx k_mx
  have b_mx := F_mx.binds (ps := ["_law_hand_here", "_law_lot"]) fun _ _ _ _ _ _ us hl => match us, hl with | [_, _], _ => rfl
  have g_mx := PySem.W.mg_of X G a_mx
  have F_aal := fun_mk (st := s__law_all_least) l_aal c_aal k_aal
  have b_aal := F_aal.binds (ps := ["_law_plain", "_law_cell", "_law_passing", "_law_among"]) fun _ _ _ _ _ _ us hl => match us, hl with | [_, _, _, _], _ => rfl
  have g_aal := PySem.W.mg_of X G a_aal
  have F_to := fun_mk (st := s__law_told) l_to c_to k_to
  have b_to := F_to.binds (ps := ["_law_sort", "_law_land_here", "_law_cell", "_law_passing", "_law_among"]) fun _ _ _ _ _ _ us hl => match us, hl with | [_, _, _, _, _], _ => rfl
  have g_to := PySem.W.mg_of X G a_to
  have F_rt := fun_mk (st := s__law_right) l_rt c_rt k_rt
  have b_rt := F_rt.binds (ps := ["_law_plain", "_law_land_here", "_law_cell", "_law_passing", "_law_among"]) fun _ _ _ _ _ _ us hl => match us, hl with | [_, _, _, _, _], _ => rfl
  have g_rt := PySem.W.mg_of X G a_rt
  have F_la := fun_mk (st := s_law) l_la c_la k_la
  have b_la := F_la.binds (ps := ["_law_script"]) fun _ _ _ _ _ _ us hl => match us, hl with | [_], _ => rfl
  have g_la := PySem.W.mg_of X G a_la
  have F_al : FunC K "all_lots" "all_lots" s_all_lots f_al _ cc_al := ⟨⟨_, _, _, _, _, _, _, _, rfl, l_al, c_al⟩, k_al⟩
  have b_al := F_al.fn.binds (ps := ["cells"]) fun _ _ _ _ _ _ us hl => match us, hl with | [_], _ => rfl
  have g_al := PySem.W.mg_of X G a_al
  have gcL := PySem.W.mg_of X G aL
  have F_cI := fun_mk (st := s_Land___init__) l_cI c_cI k_cI
  have b_cI := F_cI.binds (ps := ["self", "cells", "neighbours", "roads"]) fun _ _ _ _ _ _ us hl => match us, hl with | [_, _, _, _], _ => rfl
  have M_LC : Mk K LC f_cI := ⟨mkLC, a_cI, i_cI, kcLC⟩
  have clsLC : Cls K LC := ⟨pgLC, hdLC, poLC, saLC⟩
  have gcLC := PySem.W.mg_of X G aLC
  have F_iB := fun_mk (st := s_BadCell___init__) l_iB c_iB k_iB
  have b_iB := F_iB.binds (ps := ["self", "cell"]) fun _ _ _ _ _ _ us hl => match us, hl with | [_, _], _ => rfl
  have oxB : OexC K B := ⟨⟨_, _, _, _, _, _, _, _, _, _, _, _, _, _, _, xB, rB⟩, saB, exB, tyB, kpB⟩
  have gcB := PySem.W.mg_of X G aB
  have emB : PySem.W.exmOne K (.ref B) (.ref B) = some true := PySem.W.exm_ref exB hdB tyB ssB
  have F_iS := fun_mk (st := s_BadCells___init__) l_iS c_iS k_iS
  have b_iS := F_iS.binds (ps := ["self", "what"]) fun _ _ _ _ _ _ us hl => match us, hl with | [_, _], _ => rfl
  have oxS : OexC K S := ⟨⟨_, _, _, _, _, _, _, _, _, _, _, _, _, _, _, xS, rS⟩, saS, exS, tyS, kpS⟩
  have gcS := PySem.W.mg_of X G aS
  have emS : PySem.W.exmOne K (.ref S) (.ref S) = some true := PySem.W.exm_ref exS hdS tyS ssS
  have g_M := PySem.W.mg_of X G a_M
  have m_isinstance := PySem.W.mg_none_of X G z_isinstance
  have m_int := PySem.W.mg_none_of X G z_int
  have m_bool := PySem.W.mg_none_of X G z_bool
  have m_tuple := PySem.W.mg_none_of X G z_tuple
  have m_list := PySem.W.mg_none_of X G z_list
  have m_enumerate := PySem.W.mg_none_of X G z_enumerate
  have m_len := PySem.W.mg_none_of X G z_len
  have m_abs := PySem.W.mg_none_of X G z_abs
  have m_range := PySem.W.mg_none_of X G z_range
  have m_min := PySem.W.mg_none_of X G z_min
  have m_max := PySem.W.mg_none_of X G z_max
  have m_sorted := PySem.W.mg_none_of X G z_sorted
  have m_set := PySem.W.mg_none_of X G z_set
  have m_all := PySem.W.mg_none_of X G z_all
  have m_any := PySem.W.mg_none_of X G z_any
  have m_repr := PySem.W.mg_none_of X G z_repr
  have self : ∀ c : Addr, PySem.W.kitOne K (.ref c) (.ref c) = some true := fun c => by simp [PySem.W.kitOne]
  have kcls : ∀ t : Value, ∀ c : Addr, PySem.W.isClsIn K c = true → PySem.W.typeIn K (.ref c) = some (.type "type") → PySem.W.kitCls K t (.ref c) = PySem.W.subIn K t (.ref c) := fun t c i y => by
    have e1 : ((PySem.W.clsIn K c).isSome && PySem.W.typeIn K (.ref c) == some (.type "type")) = true := by rw [show (PySem.W.clsIn K c).isSome = true from i, y] <;> rfl
    show (if ((PySem.W.clsIn K c).isSome && PySem.W.typeIn K (.ref c) == some (.type "type")) = true then PySem.W.subIn K t (.ref c) else none) = _
    rw [if_pos e1]
  have kT : ∀ t c : Addr, PySem.W.isClsIn K c = true → PySem.W.typeIn K (.ref c) = some (.type "type") → PySem.W.subIn K (.ref t) (.ref c) = some true → PySem.W.kitOne K (.ref t) (.ref c) = some true := fun t c i y s => by
    unfold PySem.W.kitOne
    rw [kcls _ c i y, s]
    split <;> rfl
  have kF : ∀ t c : Addr, PySem.W.isClsIn K c = true → PySem.W.typeIn K (.ref c) = some (.type "type") → PySem.W.subIn K (.ref t) (.ref c) = some false → PySem.W.subIn K (.ref t) (.ref t) = some true → PySem.W.kitOne K (.ref t) (.ref c) = some false := fun t c i y s ss => by
    have hn : ¬ ((Value.ref t == Value.ref c) = true) := fun e => by
      have e' : t = c := by simpa using e
      subst e'
      rw [ss] at s
      cases s
    unfold PySem.W.kitOne
    rw [if_neg hn, kcls _ c i y, s]
  have kTy : ∀ t : String, ∀ c : Addr, PySem.W.isClsIn K c = true → PySem.W.typeIn K (.ref c) = some (.type "type") → PySem.W.subIn K (.type t) (.ref c) = some false → PySem.W.kitOne K (.type t) (.ref c) = some false := fun t c i y s => by
    have e1 : ((PySem.W.clsIn K c).isSome && PySem.W.typeIn K (.ref c) == some (.type "type")) = true := by rw [show (PySem.W.clsIn K c).isSome = true from i, y] <;> rfl
    show (if ((PySem.W.clsIn K c).isSome && PySem.W.typeIn K (.ref c) == some (.type "type")) = true then PySem.W.subIn K (.type t) (.ref c) else none) = some false
    rw [if_pos e1]
    exact s
  have TL : Tl K mg ⟨LC, B, f_iB⟩ :=
    { gC := gcLC, cl := clsLC, gB := gcB, oxB := oxB, iCB := a_iB, tIB := t_iB, nB := noB, nA := fun f hf => by
        simp only [lfields, List.mem_cons, List.not_mem_nil, or_false] at hf
        rcases hf with rfl | rfl | rfl | rfl | rfl
        · exact n_LC_cells
        · exact n_LC_neighbours
        · exact n_LC_roads
        · exact n_LC_nearby
        · exact n_LC__couples }
  have TS : Ts K mg S f_iS := ⟨gcS, oxS, a_iS, t_iS, noS⟩
  have T3 : Te K mg B S L := ⟨gcL, ⟨hgB, hkB, exB, hdB, haB, hnO, htO, hmB⟩, ⟨hgS, hkS, exS, hdS, haS, hnO, htO, hmS⟩, ⟨hgB, hkB, exB, hdB⟩, ⟨hgS, hkS, exS, hdS⟩, PySem.W.exm_ref eL dL tL suB, PySem.W.exm_ref eL dL tL suS, self B, self S, kF B S icS tyS suBS ssB, kF S B icB tyB suSB ssS⟩
  refine ⟨PySem.W.fnOf "law" "law" (defArgs s_law) (defBody s_law) (defScope s_law) .none kV_la dc_la pm_la an_la cd_la ct_la, cc_al, Pt, spLaw K Pt, t_al, m_al, n_al, fun s u => .of_eq rfl, fun H a ns hl hP hS => ⟨a, ns, rfl, hS, hl, (fun p hp => by rw [List.mem_singleton.mp hp]; exact LamX.TabS.nil hP), fun _ => rfl⟩, fun base _ _ TB => ?_⟩
  have G_mi := ok_mix (P := P) (w := w) (mg := mg) (base := base)  F_mi m_int
  have G_ha := ok_hand (P := P) (w := w) (mg := mg) (base := base)  F_ha m_int m_abs m_enumerate
  have G_dr := ok_draw (P := P) (w := w) (mg := mg) (base := base)  F_dr F_mi g_mi b_mi m_int m_len
  have G_pk := ok_pick (P := P) (w := w) (mg := mg) (base := base)  F_pk k_dr G_dr g_dr b_dr m_len
  have G_lo := ok_lots (P := P) (w := w) (mg := mg) (base := base)  F_lo m_range m_len m_list
  have G_loz := ok_lotsZ (P := P) (w := w) (mg := mg) (base := base)  F_lo m_range m_len m_list
  have G_ld := ok_land (P := P) (w := w) (mg := mg) (base := base)  F_ld G_dr g_dr k_dr b_dr G_pk g_pk k_pk b_pk G_lo g_lo k_lo b_lo m_range m_len m_list m_min m_max m_sorted
  have G_isw := ok_whole (P := P) (w := w) (mg := mg) (base := base)  F_isw m_isinstance m_int m_bool
  have G_sq := ok_seq (P := P) (w := w) (mg := mg) (base := base)  F_sq m_isinstance m_list m_tuple
  have G_ac := ok_cells (P := P) (w := w) (mg := mg) (base := base)  F_ac G_sq g_sq k_sq b_sq G_isw g_isw k_isw b_isw m_len m_set m_all
  have G_a2 := ok_two (P := P) (w := w) (mg := mg) (base := base)  F_a2 G_ac g_ac k_ac b_ac m_len
  have G_sp := ok_spread (P := P) (w := w) (mg := mg) (base := base)  F_sp m_len
  have G_ny := ok_near (P := P) (w := w) (mg := mg) (base := base)  F_ny m_range m_tuple
  have G_ht := ok_hang (P := P) (w := w) (mg := mg) (base := base)  F_ht G_ny g_ny k_ny b_ny G_sp g_sp k_sp b_sp m_len m_list m_range
  have G_nb := ok_nbrs (P := P) (w := w) (mg := mg) (base := base)  F_nb G_sq g_sq k_sq b_sq G_a2 g_a2 k_a2 b_a2 m_len m_all m_tuple m_sorted
  have G_ic := ok_iscell (P := P) (w := w) (mg := mg) (base := base)  TL F_ic G_isw g_isw k_isw b_isw
  have G_il := ok_islot (P := P) (w := w) (mg := mg) (base := base)  TL F_il G_ac g_ac k_ac b_ac
  have G_ck := ok_check (P := P) (w := w) (mg := mg) (base := base)  TL F_ck G_ic g_ic k_ic b_ic F_iB b_iB
  have G_cI := ok_landI (P := P) (w := w) (mg := mg) (base := base)  TL g_M F_cI G_isw g_isw k_isw b_isw G_nb g_nb k_nb b_nb G_ac g_ac k_ac b_ac G_ht g_ht k_ht b_ht G_ny g_ny k_ny b_ny m_len m_sorted m_tuple m_range
  have G_op := ok_opens (P := P) (w := w) (mg := mg) (base := base)  TL F_op G_sp g_sp k_sp b_sp m_any
  have G_ch := ok_chk (P := P) (w := w) (mg := mg) (base := base)  G_ck g_ck k_ck TL TS F_ch G_il g_il k_il b_il F_iS b_iS
  have G_al := ok_alll (P := P) (w := w) (mg := mg) (base := base)  F_al TB m_sorted m_len m_tuple
  have G_le := ok_least (P := P) (w := w) (mg := mg) (base := base)  G_ch g_ch k_ch b_ch TL TS F_le G_il g_il k_il b_il G_op g_op k_op b_op G_al g_al k_al b_al F_iS b_iS m_sorted m_len m_tuple
  have G_l1 := ok_least1 (P := P) (w := w) (mg := mg) (base := base)  F_l1 G_le g_le k_le b_le
  have G_lc := ok_comes (P := P) (w := w) (mg := mg) (base := base)  F_lc m_range m_len
  have G_lp := ok_lopen (P := P) (w := w) (mg := mg) (base := base)  F_lp G_lc g_lc k_lc b_lc m_len
  have G_mx := ok_mixed (P := P) (w := w) (mg := mg) (base := base)  F_mx G_dr g_dr k_dr b_dr m_range m_len m_list
  have G_aal := ok_lall (P := P) (w := w) (mg := mg) (base := base)  F_aal G_lp g_lp k_lp b_lp G_loz g_lo k_lo b_lo m_sorted m_len m_tuple m_list
  have G_alo := ok_lleast1 (P := P) (w := w) (mg := mg) (base := base)  F_alo G_lp g_lp k_lp b_lp G_loz g_lo k_lo b_lo m_sorted m_list
  have G_to := ok_told (P := P) (w := w) (mg := mg) (base := base)  TL TS T3 F_to G_l1 g_l1 k_l1 b_l1 G_le g_le k_le b_le m_isinstance m_repr
  have G_rt := ok_right (P := P) (w := w) (mg := mg) (base := base)  F_rt G_aal g_aal k_aal b_aal G_alo g_alo k_alo b_alo G_le g_le k_le b_le G_l1 g_l1 k_l1 b_l1 G_lp g_lp k_lp b_lp m_isinstance m_tuple m_list
  exact ok_law TL F_la G_ha g_ha k_ha b_ha G_ld g_ld k_ld b_ld G_pk g_pk k_pk b_pk G_dr g_dr k_dr b_dr G_lo g_lo k_lo b_lo G_loz g_lo k_lo b_lo G_mx g_mx k_mx b_mx G_rt g_rt k_rt b_rt G_to g_to k_to b_to G_al g_al k_al b_al M_LC G_cI b_cI m_list m_range m_tuple m_repr m_len m_sorted m_isinstance
end K7
end
open PySem PySem.W PyProof.Rows
set_option maxHeartbeats 0 in
theorem PySem.Challenge.cw_landways_k03_least_lots_open_a_cell_holds : PySem.Challenge.rw_landways_k03_least_lots_open_a_cell.Holds := by
  w_on; o_law; k_head; (case hw => w_witness2)
  k_fill
  refine K7T.walk_tab (l := PySem.Challenge.rw_landways_k03_least_lots_open_a_cell) (n := 63) (k := 9) (x := "_law_script") (CX := fun _ => L2.CX0) rfl (by decide) rfl ⟨rfl, by decide, by decide⟩ (fun w h Y => PySem.W.km_in_of Y) (fun w h Y => PySem.W.km_tabs_of Y) ?F (fun _ _ _ _ _ h => h)
  case F =>
    intro w mg fa h KX G hmg
    refine' K7.all_mk KX G hmg ?a_sq ?l_sq ?c_sq ?k_sq ?a_isw ?l_isw ?c_isw ?k_isw ?a_ac ?l_ac ?c_ac ?k_ac ?a_a2 ?l_a2 ?c_a2 ?k_a2 ?a_ic ?l_ic ?c_ic ?k_ic ?a_il ?l_il ?c_il ?k_il ?a_ck ?l_ck ?c_ck ?k_ck ?a_sp ?l_sp ?c_sp ?k_sp ?a_ny ?l_ny ?c_ny ?k_ny ?a_ht ?l_ht ?c_ht ?k_ht ?a_nb ?l_nb ?c_nb ?k_nb ?a_ch ?l_ch ?c_ch ?k_ch ?a_op ?l_op ?c_op ?k_op ?a_le ?l_le ?c_le ?k_le ?a_l1 ?l_l1 ?c_l1 ?k_l1 ?a_mi ?l_mi ?c_mi ?k_mi ?a_ha ?l_ha ?c_ha ?k_ha ?a_dr ?l_dr ?c_dr ?k_dr ?a_pk ?l_pk ?c_pk ?k_pk ?a_lo ?l_lo ?c_lo ?k_lo ?a_ld ?l_ld ?c_ld ?k_ld ?a_lc ?l_lc ?c_lc ?k_lc ?a_lp ?l_lp ?c_lp ?k_lp ?a_alo ?l_alo ?c_alo ?k_alo ?a_mx ?l_mx ?c_mx ?k_mx ?a_aal ?l_aal ?c_aal ?k_aal ?a_to ?l_to ?c_to ?k_to ?a_rt ?l_rt ?c_rt ?k_rt ?a_la ?l_la ?c_la ?k_la ?a_al ?m_al ?l_al ?c_al ?k_al ?t_al ?n_al ?aL ?eL ?dL ?tL ?icL ?hnO ?htO ?aLC ?pgLC ?hdLC ?poLC ?saLC ?mkLC ?kcLC ?haLC ?hmLC ?n_LC_cells ?n_LC_neighbours ?n_LC_roads ?n_LC_nearby ?n_LC__couples ?a_cI ?i_cI ?l_cI ?c_cI ?k_cI ?aB ?xB ?rB ?saB ?exB ?tyB ?kpB ?hgB ?hkB ?hdB ?haB ?hmB ?icB ?ssB ?suB ?noB ?a_iB ?t_iB ?l_iB ?c_iB ?k_iB ?aS ?xS ?rS ?saS ?exS ?tyS ?kpS ?hgS ?hkS ?hdS ?haS ?hmS ?icS ?ssS ?suS ?noS ?a_iS ?t_iS ?l_iS ?c_iS ?k_iS ?suBS ?suSB ?a_M ?z_isinstance ?z_int ?z_bool ?z_tuple ?z_list ?z_enumerate ?z_len ?z_abs ?z_range ?z_min ?z_max ?z_sorted ?z_set ?z_all ?z_any ?z_repr
    (case a_sq => k_is)
    (case l_sq => k_is)
    (case c_sq => k_is)
    (case k_sq => k_is)
    (case a_isw => k_is)
    (case l_isw => k_is)
    (case c_isw => k_is)
    (case k_isw => k_is)
    (case a_ac => k_is)
    (case l_ac => k_is)
    (case c_ac => k_is)
    (case k_ac => k_is)
    (case a_a2 => k_is)
    (case l_a2 => k_is)
    (case c_a2 => k_is)
    (case k_a2 => k_is)
    (case a_ic => k_is)
    (case l_ic => k_is)
    (case c_ic => k_is)
    (case k_ic => k_is)
    (case a_il => k_is)
    (case l_il => k_is)
    (case c_il => k_is)
    (case k_il => k_is)
    (case a_ck => k_is)
    (case l_ck => k_is)
    (case c_ck => k_is)
    (case k_ck => k_is)
    (case a_sp => k_is)
    (case l_sp => k_is)
    (case c_sp => k_is)
    (case k_sp => k_is)
    (case a_ny => k_is)
    (case l_ny => k_is)
    (case c_ny => k_is)
    (case k_ny => k_is)
    (case a_ht => k_is)
    (case l_ht => k_is)
    (case c_ht => k_is)
    (case k_ht => k_is)
    (case a_nb => k_is)
    (case l_nb => k_is)
    (case c_nb => k_is)
    (case k_nb => k_is)
    (case a_ch => k_is)
    (case l_ch => k_is)
    (case c_ch => k_is)
    (case k_ch => k_is)
    (case a_op => k_is)
    (case l_op => k_is)
    (case c_op => k_is)
    (case k_op => k_is)
    (case a_le => k_is)
    (case l_le => k_is)
    (case c_le => k_is)
    (case k_le => k_is)
    (case a_l1 => k_is)
    (case l_l1 => k_is)
    (case c_l1 => k_is)
    (case k_l1 => k_is)
    (case a_mi => k_is)
    (case l_mi => k_is)
    (case c_mi => k_is)
    (case k_mi => k_is)
    (case a_ha => k_is)
    (case l_ha => k_is)
    (case c_ha => k_is)
    (case k_ha => k_is)
    (case a_dr => k_is)
    (case l_dr => k_is)
    (case c_dr => k_is)
    (case k_dr => k_is)
    (case a_pk => k_is)
    (case l_pk => k_is)
    (case c_pk => k_is)
    (case k_pk => k_is)
    (case a_lo => k_is)
    (case l_lo => k_is)
    (case c_lo => k_is)
    (case k_lo => k_is)
    (case a_ld => k_is)
    (case l_ld => k_is)
    (case c_ld => k_is)
    (case k_ld => k_is)
    (case a_lc => k_is)
    (case l_lc => k_is)
    (case c_lc => k_is)
    (case k_lc => k_is)
    (case a_lp => k_is)
    (case l_lp => k_is)
    (case c_lp => k_is)
    (case k_lp => k_is)
    (case a_alo => k_is)
    (case l_alo => k_is)
    (case c_alo => k_is)
    (case k_alo => k_is)
    (case a_mx => k_is)
    (case l_mx => k_is)
    (case c_mx => k_is)
    (case k_mx => k_is)
    (case a_aal => k_is)
    (case l_aal => k_is)
    (case c_aal => k_is)
    (case k_aal => k_is)
    (case a_to => k_is)
    (case l_to => k_is)
    (case c_to => k_is)
    (case k_to => k_is)
    (case a_rt => k_is)
    (case l_rt => k_is)
    (case c_rt => k_is)
    (case k_rt => k_is)
    (case a_la => k_is)
    (case l_la => k_is)
    (case c_la => k_is)
    (case k_la => k_is)
    (case a_al => k_is)
    (case m_al => exact List.mem_cons_self ..)
    (case l_al => k_is)
    (case c_al => k_is)
    (case k_al => k_is)
    (case t_al => kernel_rfl)
    (case n_al => kernel_rfl)
    (case aL => k_is)
    (case eL => k_is)
    (case dL => k_is)
    (case tL => k_is)
    (case icL => k_is)
    (case hnO => k_is)
    (case htO => k_is)
    (case aLC => k_is)
    (case pgLC => k_is)
    (case hdLC => k_is)
    (case poLC => k_is)
    (case saLC => k_is)
    (case mkLC => k_is)
    (case kcLC => k_is)
    (case haLC => k_is)
    (case hmLC => k_is)
    (case n_LC_cells => k_is)
    (case n_LC_neighbours => k_is)
    (case n_LC_roads => k_is)
    (case n_LC_nearby => k_is)
    (case n_LC__couples => k_is)
    (case a_cI => k_is)
    (case i_cI => k_is)
    (case l_cI => k_is)
    (case c_cI => k_is)
    (case k_cI => k_is)
    (case aB => k_is)
    (case xB => k_is)
    (case rB => decide +kernel)
    (case saB => k_is)
    (case exB => k_is)
    (case tyB => k_is)
    (case kpB => k_is)
    (case hgB => k_is)
    (case hkB => k_is)
    (case hdB => k_is)
    (case haB => k_is)
    (case hmB => k_is)
    (case icB => k_is)
    (case ssB => k_is)
    (case suB => k_is)
    (case noB => k_is)
    (case a_iB => k_is)
    (case t_iB => k_is)
    (case l_iB => k_is)
    (case c_iB => k_is)
    (case k_iB => k_is)
    (case aS => k_is)
    (case xS => k_is)
    (case rS => decide +kernel)
    (case saS => k_is)
    (case exS => k_is)
    (case tyS => k_is)
    (case kpS => k_is)
    (case hgS => k_is)
    (case hkS => k_is)
    (case hdS => k_is)
    (case haS => k_is)
    (case hmS => k_is)
    (case icS => k_is)
    (case ssS => k_is)
    (case suS => k_is)
    (case noS => k_is)
    (case a_iS => k_is)
    (case t_iS => k_is)
    (case l_iS => k_is)
    (case c_iS => k_is)
    (case k_iS => k_is)
    (case suBS => k_is)
    (case suSB => k_is)
    (case a_M => k_is)
    (case z_isinstance => k_is)
    (case z_int => k_is)
    (case z_bool => k_is)
    (case z_tuple => k_is)
    (case z_list => k_is)
    (case z_enumerate => k_is)
    (case z_len => k_is)
    (case z_abs => k_is)
    (case z_range => k_is)
    (case z_min => k_is)
    (case z_max => k_is)
    (case z_sorted => k_is)
    (case z_set => k_is)
    (case z_all => k_is)
    (case z_any => k_is)
    (case z_repr => k_is)

