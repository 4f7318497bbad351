import PyProof.Rows.All
import Wide.All
import OpenK.AllK
import Wide.FinOn
import PySem.Challenge.RW_landways_k02_open_over_passing_cells
import HandS.ForMost
import HandS.Wide
import HandS.Evl
import HandS.Walk
import HandS.Zip
import HandS.TupAny
import HandS.Sort
import PyProof.ListRange
import HandS.Deep
import HandS.SortRule
import HandS.Star
import HandS.IsInst
import HandS.TupSets
import HandS.SetFor
import HandS.SetBool
import PyProof.TupleOfSeq
import HandS.Property
import HandS.ExcIs
import HandS.ExcField
import HandS.ForExc
import HandS.ExcInit
import HandS.SlotsOwn
import HandS.OwnEq
import PyProof.InstEq
import HandS.Flow
import HandS.Style
import HandS.Iter
import KE.GoesMore
import KE.GoesEnum
import HandS.RaiseMore
import KE.KExcIs
import HandS.EndBits
import PyProof.Rows.ReprOcc
import PyProof.Rows.StrJoinMade
import KE.DataMinMax
import KE.SortData
import HandS.EndBits
set_option Elab.async false
set_option linter.all false
set_option maxRecDepth 100000
set_option maxHeartbeats 4000000
/-! ## P1 -/
section
open PySem PySem.Spec PyProof.Rows L2
namespace K7

def topS (i : Nat) : Stmt := PySem.Challenge.pw_landways_k02_open_over_passing_cells.main.body.getD i (.Pass ⟨0, 0, 0, 0⟩)
abbrev N__law_mix : List Str := ["_law_number", "_law_turn", "_law_once", "_law_twice"]
abbrev s__law_mix : Stmt := topS 27
theorem sc__law_mix : FnScope ["_law_number", "_law_turn", "_law_once", "_law_twice"] ["_law_number", "_law_turn"] (defScope s__law_mix) := ⟨rfl, rfl, rfl, by decide +kernel, rfl, by decide +kernel, by decide +kernel⟩

abbrev N__law_draw : List Str := ["_law_hand_here", "_law_many", "_law_cell", "_law_rest"]
abbrev s__law_draw : Stmt := topS 29
theorem sc__law_draw : FnScope ["_law_hand_here", "_law_many", "_law_cell", "_law_rest"] ["_law_hand_here", "_law_many"] (defScope s__law_draw) := ⟨rfl, rfl, rfl, by decide +kernel, rfl, by decide +kernel, by decide +kernel⟩

abbrev N__law_pick : List Str := ["_law_hand_here", "_law_things"]
abbrev s__law_pick : Stmt := topS 30
theorem sc__law_pick : FnScope ["_law_hand_here", "_law_things"] ["_law_hand_here", "_law_things"] (defScope s__law_pick) := ⟨rfl, rfl, rfl, by decide +kernel, rfl, by decide +kernel, by decide +kernel⟩

abbrev N__law_hand : List Str := ["_law_script", "_law_total", "_law_k", "_law_cell"]
abbrev s__law_hand : Stmt := topS 28
theorem sc__law_hand : FnScope ["_law_script", "_law_total", "_law_k", "_law_cell"] ["_law_script"] (defScope s__law_hand) := ⟨rfl, rfl, rfl, by decide +kernel, rfl, by decide +kernel, by decide +kernel⟩

section
variable {P : Program} {w : World} {K : PySem.W.Frag} {mg : Str → Option Value} {base : Heap}
/-! mix: some number from 0 on -/
def spMix : Sp := fun vs H Q _ => ∃ n t : Int, vs = [.int n, .int t] ∧ ∀ r : Int, 0 ≤ r → Q (.int r) H
theorem ok_mix {f : Addr} {fd : FuncData} (F : Fun K "_law_mix" "_law_mix" s__law_mix f fd) (m_int : mg "int" = none) : FnOk P w K mg base CX0 1 f fd ["_law_number", "_law_turn"] spMix := by
  refine F.ok sc__law_mix (fun vs H Q E h => ?_) (fun cdv A outer s H vs Q E hr h => ?_)
  · obtain ⟨n, t, rfl, _⟩ := h
    rfl
  · obtain ⟨n, t, rfl, q⟩ := h
    refine ⟨_, (pss_cons (ps_set (i := 2) sc__law_mix.nd rfl (by first | exact Or.inl rfl | exact Or.inr rfl) (pe_op op_mod (pe_callTy call_int1 (by rfl) m_int boot_int (pa_cons (pe_op op_add (pe_op op_add (pe_op op_mul (pv 0) pe_int) (pe_op op_mul (pv 1) pe_int)) pe_int) pa_nil)) pe_int))
 (pss_cons (ps_set (i := 3) sc__law_mix.nd rfl (by first | exact Or.inl rfl | exact Or.inr rfl) (pe_op op_mod (pe_callTy call_int1 (by rfl) m_int boot_int (pa_cons (pe_op op_add (pe_op op_add (pe_op op_mul (pv 2) (pv 2)) (pe_op op_mul (pe_op op_fdiv (pv 2) pe_int) pe_int)) (pe_op op_mul (pv 1) pe_int)) pa_nil)) pe_int))
 (pss_one (ps_ret (pe_op op_fdiv (pe_op op_mod (pe_callTy call_int1 (by rfl) m_int boot_int (pa_cons (pe_op op_add (pe_op op_fdiv (pe_op op_mul (pv 3) (pv 3)) pe_int) (pv 2)) pa_nil)) pe_int) pe_int))))), ?_⟩
    have e1 : ∀ z : Int, 0 ≤ z % 2147483647 ∧ z % 2147483647 < 2147483647 := fun z => ⟨Int.emod_nonneg _ (by decide), Int.emod_lt_of_pos _ (by decide)⟩
    have e2 : ∀ z : Int, 0 ≤ z % 2147483399 ∧ z % 2147483399 < 2147483399 := fun z => ⟨Int.emod_nonneg _ (by decide), Int.emod_lt_of_pos _ (by decide)⟩
    refine ⟨_, rfl, _, _, rfl, rfl, .inr ⟨by decide, by decide⟩, _, rfl, _, _, rfl, rfl, .inr ⟨by decide, by decide⟩, _, _, rfl, rfl, _, _, rfl, rfl, .inl ⟨_, rfl, ?_⟩⟩
    refine ⟨_, _, rfl, rfl, show (0 : Int) < _ by decide, ?_⟩
    have b1 := e1 (n * 48271 + t * 16807 + 11)
    refine ⟨_, rfl, _, rfl, _, _, rfl, rfl, .inl ⟨by omega, by omega⟩, _, rfl, _, _, rfl, rfl, ⟨by decide, by decide⟩, _, _, rfl, rfl, .inr ⟨by decide, by decide⟩, _, _, rfl, rfl, _, rfl, _, _, rfl, rfl, .inr ⟨by decide, by decide⟩, _, _, rfl, rfl, .inl ⟨_, rfl, ?_⟩⟩
    refine ⟨_, _, rfl, rfl, show (0 : Int) < _ by decide, ?_⟩
    refine ⟨_, rfl, _, rfl, _, _, rfl, rfl, .inl ⟨by omega, by omega⟩, _, _, rfl, rfl, ⟨by decide, by decide⟩, _, rfl, _, _, rfl, rfl, .inl ⟨_, rfl, _, _, rfl, rfl, show (0 : Int) < _ by decide, _, _, rfl, rfl, ⟨by decide, by decide⟩, ?_⟩⟩
    exact q _ (Int.ediv_nonneg (Int.emod_nonneg _ (by decide)) (by decide))
/-! the hand -/
structure HandB (ns : List Int) (i x t : Int) : Prop where
  len : ns.length ≤ 63
  lo : 0 ≤ i
  hi : i ≤ ns.length
  x0 : 0 ≤ x
  t0 : 0 ≤ t
  pos : ∀ n ∈ ns, 0 ≤ n
def HandO (c : Addr) (i x t : Int) : HO := .lst [.ref c, .int i, .int x, .int t]
def Hand (H : Hp) (a c : Addr) : Prop := ∃ ns i x t, H a = some (HandO c i x t) ∧ H c = some (.lst (ns.map V.int)) ∧ HandB ns i x t
/-- H' is H but for the hand at a, which is a hand still -/
structure Drawn (H H' : Hp) (a c : Addr) : Prop where
  but : ∀ b, b ≠ a → H' b = H b
  hand : Hand H' a c
def spDraw : Sp := fun vs H Q _ => ∃ (a c : Addr) (many : Int), vs = [.ref a, .int many] ∧ Hand H a c ∧ 0 < many ∧ many < 2 ^ 200 ∧ ∀ H' r, Drawn H H' a c → 0 ≤ r → r < many → Q (.int r) H'
theorem hand_ne {H : Hp} {a c : Addr} {ns : List Int} {i x t : Int} (h1 : H a = some (HandO c i x t)) (h2 : H c = some (.lst (ns.map V.int))) : c ≠ a := by
  intro e
  subst e
  rw [h1] at h2
  unfold HandO at h2
  injection h2 with h2
  injection h2 with h2
  cases ns with
  | nil => cases h2
  | cons n r => rw [List.map_cons] at h2; injection h2 with h3 h4; cases h3
theorem drawn_of {H H0 : Hp} {a c : Addr} {ns : List Int} {i x t : Int} (hb : ∀ b, b ≠ a → H0 b = H b) (hc : c ≠ a) (h2 : H c = some (.lst (ns.map V.int))) (B : HandB ns i x t) : Drawn H (upd H0 a (HandO c i x t)) a c :=
  ⟨fun b h => by rw [upd_ne h]; exact hb b h, ⟨ns, i, x, t, upd_same, by rw [upd_ne hc, hb c hc]; exact h2, B⟩⟩
theorem wide200 {many : Int} (h0 : 0 < many) (h1 : many < 2 ^ 200) (i : Int) : CDivW i many := wide_div (b := 200) h0 (by omega) (by decide) (by decide)
theorem ok_draw {f fM : Addr} {fd fdM : FuncData} (F : Fun K "_law_draw" "_law_draw" s__law_draw f fd) (FM : Fun K "_law_mix" "_law_mix" s__law_mix fM fdM) (g_law_mix : mg "_law_mix" = some (.ref fM)) (b_law_mix : Binds K fdM ["_law_number", "_law_turn"] [])
    (m_int : mg "int" = none) (m_len : mg "len" = none) : FnOk P w K mg base CX0 2 f fd ["_law_hand_here", "_law_many"] spDraw := by
  have G_law_mix : FnOk P w K mg base CX0 1 fM fdM ["_law_number", "_law_turn"] spMix := ok_mix FM m_int
  have k_law_mix := FM.kp
  refine F.ok sc__law_draw (fun vs H Q E h => ?_) (fun cdv A outer s H vs Q E hr h => ?_)
  · obtain ⟨a, c, n, rfl, _⟩ := h
    rfl
  · obtain ⟨a, c, many, rfl, ⟨ns, i, x, t, h1, h2, B⟩, hm0, hm1, q⟩ := h
    have hr_law_mix := hr
    have hc := hand_ne h1 h2
    refine ⟨_, (Evl.pss_cut (ps_if (pw_and (pt_cmpR op_eq (pe_ix ix_list (pv 0) pe_int (fun _ _ => rfl)) pe_int (nomark _)) (pw_and1 (pt_cmpR op_lt (pe_ix ix_list (pv 0) pe_int (fun _ _ => rfl)) (pe_callB call_len_seq (by rfl) m_len boot_len (pa_cons (pe_ix ix_list (pv 0) pe_int (fun _ _ => rfl)) pa_nil)) (nomark _)))).pt
  (pss_cons (ps_set (i := 2) sc__law_draw.nd rfl (by first | exact Or.inl rfl | exact Or.inr rfl) (pe_ix ix_list (pe_ix ix_list (pv 0) pe_int (fun _ _ => rfl)) (pe_ix ix_list (pv 0) pe_int (fun _ _ => rfl)) (fun _ _ => rfl)))
 (pss_cons (ps_asg (pe_op op_add (pe_ix ix_list (pv 0) pe_int (fun _ _ => rfl)) pe_int) (pg_sub (pv 0) pe_int set_list))
 (pss_cons (ps_if (pt_cmpR op_lt (pv 2) (pe_op op_pow pe_int pe_int) (nomark _))
  (pss_one (ps_ret (pe_op op_mod (pe_callTy call_int1 (by rfl) m_int boot_int (pa_cons (pe_call G_law_mix hr_law_mix (by rfl) g_law_mix k_law_mix b_law_mix .nil pass0 (pa_cons (pe_op op_mod (pe_callTy call_int1 (by rfl) m_int boot_int (pa_cons (pv 2) pa_nil)) pe_int) (pa_cons (pe_ix ix_list (pv 0) pe_int (fun _ _ => rfl)) pa_nil))) pa_nil)) (pv 1))))
  pss_nil)
 (pss_one (ps_asg (pv 2) (pg_sub (pv 0) pe_int set_list))))))
  pss_nil)
 (pss_cons (ps_if (pt_cmpR op_gt (pe_ix ix_list (pv 0) pe_int (fun _ _ => rfl)) pe_int (nomark _))
  (pss_cons (ps_set (i := 3) sc__law_draw.nd rfl (by first | exact Or.inl rfl | exact Or.inr rfl) (pe_ix ix_list (pv 0) pe_int (fun _ _ => rfl)))
 (pss_cons (ps_asg (pe_op op_fdivW (pv 3) (pv 1)) (pg_sub (pv 0) pe_int set_list))
 (pss_one (ps_ret (pe_op op_mod (pe_callTy call_int1 (by rfl) m_int boot_int (pa_cons (pv 3) pa_nil)) (pv 1))))))
  pss_nil)
 (pss_cons (ps_asg (pe_op op_mod (pe_callTy call_int1 (by rfl) m_int boot_int (pa_cons (pe_op op_add (pe_ix ix_list (pv 0) pe_int (fun _ _ => rfl)) pe_int) pa_nil)) pe_int) (pg_sub (pv 0) pe_int set_list))
 (pss_one (ps_ret (pe_op op_mod (pe_callTy call_int1 (by rfl) m_int boot_int (pa_cons (pe_call G_law_mix hr_law_mix (by rfl) g_law_mix k_law_mix b_law_mix .nil pass0 (pa_cons (pe_ix ix_list (pv 0) pe_int (fun _ _ => rfl)) (pa_cons (pe_ix ix_list (pv 0) pe_int (fun _ _ => rfl)) pa_nil))) pa_nil)) (pv 1))))))), ?_⟩
    have hS : SqL K H a [.ref c, .int i, .int x, .int t] := .inl (.inl h1)
    have hC : SqL K H c (ns.map V.int) := .inl (.inl h2)
    have last : ∀ (i' : Int) (σ : L2.St) , 0 ≤ i' → i' ≤ ns.length → True := fun _ _ _ _ => trivial
    refine ⟨fun σ' H' => ∃ i' x' y2, σ' = [some (.ref a), some (.int many), y2, none] ∧ (∀ b, b ≠ a → H' b = H b) ∧ H' a = some (HandO c i' x' t) ∧ HandB ns i' x' t, ?_, fun σ' H' hM => ?_⟩
    refine ⟨.ref a, rfl, a, _, _, _, rfl, rfl, hS, rfl, rfl, _, rfl, ite2 (fun e => ?_) (fun e => ?_)⟩
    · have ex : x = 0 := V.int.inj (of_decide_eq_true e)
      subst ex
      refine ⟨.ref a, rfl, a, _, _, _, rfl, rfl, hS, rfl, .ref a, rfl, a, _, _, _, rfl, rfl, hS, rfl, c, _, rfl, .inl hC, _, _, rfl, rfl, _, rfl, ite2 (fun e => ?_) (fun e => ?_)⟩
      · have hi : i < ((ns.map V.int).length : Int) := of_decide_eq_true e
        rw [List.length_map] at hi
        have hlo := B.lo
        obtain ⟨j, rfl⟩ : ∃ j : Nat, i = (j : Int) := ⟨i.toNat, by omega⟩
        have hj : j < ns.length := by omega
        have gj : (ns.map V.int)[j]? = some (.int ns[j]) := by
          rw [List.getElem?_map, List.getElem?_eq_getElem hj]
          rfl
        have p0 : 0 ≤ ns[j] := B.pos _ (List.getElem_mem hj)
        refine ⟨.ref a, rfl, a, _, _, _, rfl, rfl, hS, rfl, .ref a, rfl, a, _, _, _, rfl, rfl, hS, rfl, c, _, _, _, rfl, rfl, hC, atI_nat gj, ?_⟩
        refine ⟨.ref a, rfl, a, _, _, _, rfl, rfl, hS, rfl, _, _, rfl, rfl, .ref a, rfl, a, _, _, _, rfl, rfl, h1, rfl, ?_⟩
        have hS2 : SqL K (upd H a (HandO c (j + 1) 0 t)) a [.ref c, .int (j + 1), .int 0, .int t] := .inl (.inl upd_same)
        refine ⟨_, rfl, _, _, rfl, rfl, ⟨by decide, by decide, by decide⟩, _, _, rfl, rfl, _, rfl, ite2 (fun e => ?_) (fun e => ?_)⟩
        · refine ⟨_, rfl, .inl ⟨_, rfl, _, _, rfl, rfl, show (0 : Int) < _ by decide, .ref a, rfl, a, _, _, _, rfl, rfl, hS2, rfl, _, _, rfl, fun r r0 => .inl ⟨_, rfl, _, rfl, _, _, rfl, rfl, hm0, ?_⟩⟩⟩
          exact q _ _ (drawn_of (H0 := H) (fun _ _ => rfl) hc h2 ⟨B.len, by omega, by omega, by decide, B.t0, B.pos⟩) (Int.emod_nonneg _ (by omega)) (Int.emod_lt_of_pos _ hm0)
        · refine ⟨_, rfl, .ref a, rfl, a, _, _, _, rfl, rfl, upd_same, rfl, ?_⟩
          refine ⟨_, _, _, rfl, fun b hb => by rw [upd_ne hb, upd_ne hb], upd_same, ⟨B.len, by omega, by omega, p0, B.t0, B.pos⟩⟩
      · exact ⟨i, 0, none, rfl, fun _ _ => rfl, h1, B⟩
    · exact ⟨i, x, none, rfl, fun _ _ => rfl, h1, B⟩
    · obtain ⟨i', x', y2, rfl, hb, h1', B'⟩ := hM
      have h2' : H' c = some (.lst (ns.map V.int)) := by rw [hb c hc]; exact h2
      have hS' : SqL K H' a [.ref c, .int i', .int x', .int t] := .inl (.inl h1')
      refine ⟨.ref a, rfl, a, _, _, _, rfl, rfl, hS', rfl, _, _, rfl, rfl, _, rfl, ite2 (fun e => ?_) (fun e => ?_)⟩
      · refine ⟨.ref a, rfl, a, _, _, _, rfl, rfl, hS', rfl, _, rfl, _, rfl, _, _, rfl, rfl, wide200 hm0 hm1 _, .ref a, rfl, a, _, _, _, rfl, rfl, h1', rfl, ?_⟩
        refine ⟨_, rfl, .inl ⟨_, rfl, _, rfl, _, _, rfl, rfl, hm0, ?_⟩⟩
        exact q _ _ (drawn_of (H0 := H') hb hc h2 ⟨B.len, B'.lo, B'.hi, Int.ediv_nonneg B'.x0 (by omega), B.t0, B.pos⟩) (Int.emod_nonneg _ (by omega)) (Int.emod_lt_of_pos _ hm0)
      · refine ⟨.ref a, rfl, a, _, _, _, rfl, rfl, hS', rfl, _, _, rfl, rfl, .inl ⟨_, rfl, _, _, rfl, rfl, show (0 : Int) < _ by decide, .ref a, rfl, a, _, _, _, rfl, rfl, h1', rfl, ?_⟩⟩
        have hS3 : SqL K (upd H' a (HandO c i' x' ((t + 1) % 2147483629))) a [.ref c, .int i', .int x', .int ((t + 1) % 2147483629)] := .inl (.inl upd_same)
        refine ⟨.ref a, rfl, a, _, _, _, rfl, rfl, hS3, rfl, .ref a, rfl, a, _, _, _, rfl, rfl, hS3, rfl, _, _, rfl, fun r r0 => .inl ⟨_, rfl, _, rfl, _, _, rfl, rfl, hm0, ?_⟩⟩
        exact q _ _ (drawn_of (H0 := H') hb hc h2 ⟨B.len, B'.lo, B'.hi, B'.x0, Int.emod_nonneg _ (by decide), B.pos⟩) (Int.emod_nonneg _ (by omega)) (Int.emod_lt_of_pos _ hm0)
theorem Hand.same {H H' : Hp} {a c : Addr} (h : Hand H a c) (e : Same H H') : Hand H' a c := by
  obtain ⟨ns, i, x, t, h1, h2, B⟩ := h
  exact ⟨ns, i, x, t, e _ _ h1, e _ _ h2, B⟩
theorem Hand.upd {H : Hp} {a c l : Addr} {o : HO} (h : Hand H a c) (h1 : l ≠ a) (h2 : l ≠ c) : Hand (upd H l o) a c := by
  obtain ⟨ns, i, x, t, e1, e2, B⟩ := h
  exact ⟨ns, i, x, t, by rw [upd_ne h1.symm]; exact e1, by rw [upd_ne h2.symm]; exact e2, B⟩
theorem Hand.ne {H : Hp} {a c l : Addr} (h : Hand H a c) (n : H l = none) : l ≠ a ∧ l ≠ c := by
  obtain ⟨ns, i, x, t, e1, e2, B⟩ := h
  exact ⟨(ne_of_none e1 n).symm, (ne_of_none e2 n).symm⟩
/-- an item of a list -/
def spPick : Sp := fun vs H Q _ => ∃ (a c l : Addr) (xs : List V), vs = [.ref a, .ref l] ∧ Hand H a c ∧ l ≠ a ∧ H l = some (.lst xs) ∧ 0 < xs.length ∧ xs.length ≤ 1000 ∧ ∀ H' (j : Nat) v, Drawn H H' a c → xs[j]? = some v → Q v H'
theorem ok_pick {f fD : Addr} {fd fdD : FuncData} (F : Fun K "_law_pick" "_law_pick" s__law_pick f fd) (k_law_draw : PySem.W.keepIn K (.ref fD) = true) (G_law_draw : FnOk P w K mg base CX0 2 fD fdD ["_law_hand_here", "_law_many"] spDraw) (g_law_draw : mg "_law_draw" = some (.ref fD)) (b_law_draw : Binds K fdD ["_law_hand_here", "_law_many"] [])
    (m_len : mg "len" = none) : FnOk P w K mg base CX0 3 f fd ["_law_hand_here", "_law_things"] spPick := by
  refine F.ok sc__law_pick (fun vs H Q E h => ?_) (fun cdv A outer s H vs Q E hr h => ?_)
  · obtain ⟨a, c, l, xs, rfl, _⟩ := h
    rfl
  · obtain ⟨a, c, l, xs, rfl, hh, hla, hl, h0, h1, q⟩ := h
    have hr_law_draw := hr
    refine ⟨_, (pss_one (ps_ret (pe_ix ix_list (pv 1) (pe_call G_law_draw hr_law_draw (by rfl) g_law_draw k_law_draw b_law_draw .nil pass0 (pa_cons (pv 0) (pa_cons (pe_callB call_len_seq (by rfl) m_len boot_len (pa_cons (pv 1) pa_nil)) pa_nil))) (fun _ _ => rfl)))), ?_⟩
    have hm : ((xs.length : Nat) : Int) < 2 ^ 200 := Int.lt_of_le_of_lt (show ((xs.length : Nat) : Int) ≤ 1000 by omega) (by decide)
    refine ⟨.ref l, rfl, .ref a, rfl, .ref l, rfl, l, _, rfl, .inl (.inl (.inl hl)), a, c, _, rfl, hh, by omega, hm, fun H' r d r0 r1 => ?_⟩
    obtain ⟨j, rfl⟩ : ∃ j : Nat, r = (j : Int) := ⟨r.toNat, by omega⟩
    have hj : j < xs.length := by omega
    have e : xs[j]? = some xs[j] := List.getElem?_eq_getElem hj
    have hl' : H' l = some (.lst xs) := by rw [d.but l hla]; exact hl
    exact ⟨l, xs, _, _, rfl, rfl, .inl (.inl hl'), atI_nat e, q H' j _ d e⟩
/-- the hand of a script -/
def spHand (K : PySem.W.Frag) : Sp := fun vs H Q _ => ∃ (s : Addr) (ns : List Int), vs = [.ref s] ∧ SqL K H s (ns.map V.int) ∧ ns.length ≤ 63 ∧ ∀ H' a c, Same H H' → H a = none → H c = none → Hand H' a c → Q (.ref a) H'
theorem ok_hand {f : Addr} {fd : FuncData} (F : Fun K "_law_hand" "_law_hand" s__law_hand f fd) (m_int : mg "int" = none) (m_abs : mg "abs" = none) (m_enumerate : mg "enumerate" = none) : FnOk P w K mg base CX0 1 f fd ["_law_script"] (spHand K) := by
  refine F.ok sc__law_hand (fun vs H Q E h => ?_) (fun cdv A outer s H vs Q E hr h => ?_)
  · obtain ⟨a, ns, rfl, _⟩ := h
    rfl
  · obtain ⟨a, ns, rfl, hS, hlen, q⟩ := h
    refine ⟨_, (pss_cons (ps_set (i := 1) sc__law_hand.nd rfl (by first | exact Or.inl rfl | exact Or.inr rfl) pe_int)
 (pss_cons (ps_for PassesOwn.never rfl (pi_enum (by rfl) m_enumerate (pa_cons (pv 0) pa_nil)) (pg_tup rfl (pgs_cons (pg_name (i := 2) sc__law_hand.nd rfl (by first | exact Or.inl rfl | exact Or.inr rfl)) (pgs_cons (pg_name (i := 3) sc__law_hand.nd rfl (by first | exact Or.inl rfl | exact Or.inr rfl)) pgs_nil)))
  (pss_one (ps_set (i := 1) sc__law_hand.nd rfl (by first | exact Or.inl rfl | exact Or.inr rfl) (pe_op op_mod (pe_callTy call_int1 (by rfl) m_int boot_int (pa_cons (pe_op op_add (pe_op op_mul (pv 1) pe_int) (pe_op op_mul (pe_callTy call_int1 (by rfl) m_int boot_int (pa_cons (pv 3) pa_nil)) (pe_op op_add (pv 2) pe_int))) pa_nil)) pe_int))))
 (pss_one (ps_ret (pe_lst (pa_cons (pe_lc (own := [("_law_cell", 3)]) (g := gName 3) (tt := tYes) rfl sc__law_hand.nd (pi_list (pv 0)) (blkOk_by (own := [("_law_cell", 3)]) (N := N__law_hand) (sc := defScope s__law_hand) (by decide +kernel)) (fun _ _ _ _ _ => (pg_name (i := 3) sc__law_hand.nd rfl (by first | exact Or.inl rfl | exact Or.inr rfl))) (fun _ _ _ _ _ => pts_nil) (fun _ _ _ _ _ => (pe_callB call_abs (by rfl) m_abs boot_abs (pa_cons (pe_callTy call_int1 (by rfl) m_int boot_int (pa_cons (pv 3) pa_nil)) pa_nil)))) (pa_cons pe_int (pa_cons pe_int (pa_cons (pv 1) pa_nil))))))))), ?_⟩
    have hlen' : (ns.map V.int).length = ns.length := List.length_map ..
    refine ⟨.ref a, rfl, a, _, rfl, hS, for_it (walk_enum (xs := ns.map V.int)) (fun i σ H' => ∃ tot y2 y3, σ = [some (.ref a), some (.int tot), y2, y3] ∧ 0 ≤ tot ∧ tot < 2147483629 ∧ Same H H') ⟨0, none, none, rfl, by decide, by decide, Same.refl H⟩ (fun i σ H' _ p => ?_) (fun i v σ H' H'' hi p y => ?_) (fun σ H1 p => ?_)⟩
    · obtain ⟨tot, y2, y3, rfl, _, _, e⟩ := p
      exact e.seq hS
    · obtain ⟨tot, y2, y3, rfl, t0, t1, e⟩ := p
      obtain ⟨T, x, y, rfl, nT, rfl, ex, ey⟩ := y
      rw [hlen'] at hi
      obtain rfl : .int (i : Nat) = x := Option.some.inj ex
      obtain ⟨n, rfl⟩ : ∃ n : Int, y = .int n := by
        have ey : (ns.map V.int)[i]? = some y := ey
        rw [List.getElem?_map, List.getElem?_eq_getElem hi] at ey
        exact ⟨_, (Option.some.inj ey).symm⟩
      refine ⟨T, _, rfl, .inl (.inl upd_same), rfl, _, _, rfl, _, _, rfl, rfl, ?_⟩
      refine ⟨_, rfl, _, _, rfl, rfl, .inr ⟨by decide, by decide⟩, _, rfl, .inl ⟨_, rfl, _, rfl, _, _, rfl, rfl, _, _, rfl, rfl, .inr ⟨by omega, by omega⟩, _, _, rfl, rfl, .inl ⟨_, rfl, _, _, rfl, rfl, show (0 : Int) < _ by decide, ?_⟩⟩⟩
      refine ⟨_, _, _, rfl, Int.emod_nonneg _ (by decide), Int.emod_lt_of_pos _ (by decide), e.trans fun b z hz => ?_⟩
      rw [upd_ne (ne_of_none hz nT)]
      exact hz
    · obtain ⟨tot, y2, y3, rfl, t0, t1, e⟩ := p
      have hS1 : SqL K H1 a (ns.map V.int) := e.seq hS
      refine ⟨.ref a, rfl, a, rfl, ⟨_, hS1⟩, fun D hD => lc_list (xs := ns.map V.int) (fun i H2 => Same H1 H2 ∧ H2 D = some (.lst ((ns.take i).map fun n => .int (if n < 0 then -n else n)))) ⟨fun b z hz => ?_, upd_same⟩ (fun i H2 _ p => p.1.seq hS1) (fun i x H2 hx p => ?_) (fun H2 p => ?_)⟩
      · rw [upd_ne (ne_of_none hz hD)]
        exact hz
      · obtain ⟨e2, hd⟩ := p
        rw [List.getElem?_map] at hx
        obtain ⟨n, hn, rfl⟩ := Option.map_eq_some_iff.mp hx
        refine ⟨rfl, ?_⟩
        refine ⟨_, rfl, .inl ⟨_, rfl, _, rfl, _, hd, ?_, fun b z hz => ?_, ?_⟩⟩
        · rw [List.length_map, List.length_take]
          exact Nat.lt_of_le_of_lt (Nat.min_le_right _ _) (small1000 (by omega))
        · rw [upd_ne (ne_of_none hz hD)]
          exact e2 _ _ hz
        · rw [upd_same, List.take_add_one, hn, List.map_append]
          rfl
      · obtain ⟨e2, hd⟩ := p
        rw [hlen', List.take_length] at hd
        refine ⟨_, rfl, by show 4 ≤ sizeLine; decide, fun p hp => ?_⟩
        have npD : D ≠ p := ne_of_none hd hp
        refine q _ p D ?_ ((e.trans e2).free hp) (e.free hD) ⟨ns.map fun n => if n < 0 then -n else n, 0, 0, tot, upd_same, ?_, ?_⟩
        · exact fun b z hz => by
            rw [upd_ne (ne_of_none ((e.trans e2) _ _ hz) hp)]
            exact (e.trans e2) _ _ hz
        · rw [upd_ne npD, hd, List.map_map]
          rfl
        · refine ⟨by rw [List.length_map]; exact hlen, by decide, by omega, by decide, t0, fun n hn => ?_⟩
          obtain ⟨m, _, rfl⟩ := List.mem_map.mp hn
          split <;> omega
end
end K7
end
/-! ## P2 -/
section
open PySem PySem.Spec PyProof.Rows L2
namespace K7
abbrev N__law_lots : List Str := ["_law_cells", "_law_found", "_law_last", "_law_turn", "_law_grown", "_law_lot", "_law_cell"]
abbrev s__law_lots : Stmt := topS 31
theorem sc__law_lots : FnScope ["_law_cells", "_law_found", "_law_last", "_law_turn", "_law_grown", "_law_lot", "_law_cell"] ["_law_cells"] (defScope s__law_lots) := ⟨rfl, rfl, rfl, by decide +kernel, rfl, by decide +kernel, by decide +kernel⟩

theorem same_new {H H' : Hp} {p : Addr} {o : HO} (e : Same H H') (h : H' p = none) : Same H (upd H' p o) := fun b z hz => by
  have h2 := e _ _ hz
  rw [upd_ne (ne_of_none h2 h)]
  exact h2
def But (x : Addr) (H H' : Hp) : Prop := ∀ b o, b ≠ x → H b = some o → H' b = some o
/-! ### all lots of the cells -/
def grow1 (cells lot : List Nat) : List (List Nat) := (cells.filter fun c => lot.isEmpty || decide (lot.getLastD 0 < c)).map fun c => lot ++ [c]
def level (cells : List Nat) : Nat → List (List Nat)
  | 0 => [[]]
  | k + 1 => (level cells k).flatMap (grow1 cells)
def lotsTo (cells : List Nat) : Nat → List (List Nat)
  | 0 => [[]]
  | k + 1 => lotsTo cells k ++ level cells (k + 1)
theorem level_len : ∀ n : Fin 6, ∀ k : Fin 7, (level (List.range n.val) k.val).length ≤ 10 ∧ (lotsTo (List.range n.val) k.val).length ≤ 32 := by decide +kernel
theorem level_lot : ∀ n : Fin 6, ∀ k : Fin 7, (level (List.range n.val) k.val).all (fun l => decide (l.length ≤ 990)) = true := by decide +kernel
theorem lot_len {n t i : Nat} {lot : List Nat} (hn : n ≤ 5) (ht : t ≤ 6) (h : (level (List.range n) t)[i]? = some lot) : lot.length ≤ 990 := by
  have := List.all_eq_true.mp (level_lot ⟨n, by omega⟩ ⟨t, by omega⟩) lot (List.mem_of_getElem? h)
  exact of_decide_eq_true this
/-- tuples of cells at these places -/
inductive TAt (H : Hp) : List Addr → List (List Nat) → Prop
  | nil : TAt H [] []
  | cons {t : Addr} {l : List Nat} {ts : List Addr} {ls : List (List Nat)} (h : H t = some (.tup (l.map fun c => .int (c : Nat)))) (r : TAt H ts ls) : TAt H (t :: ts) (l :: ls)
theorem TAt.same {H H' : Hp} (e : Same H H') : ∀ {ts ls}, TAt H ts ls → TAt H' ts ls
  | _, _, .nil => .nil
  | _, _, .cons h r => .cons (e _ _ h) (r.same e)
theorem TAt.mono {H H' : Hp} (e : ∀ b xs, H b = some (.tup xs) → H' b = some (.tup xs)) : ∀ {ts ls}, TAt H ts ls → TAt H' ts ls
  | _, _, .nil => .nil
  | _, _, .cons h r => .cons (e _ _ h) (r.mono e)
theorem TAt.append {H : Hp} : ∀ {ts ls us ms}, TAt H ts ls → TAt H us ms → TAt H (ts ++ us) (ls ++ ms)
  | _, _, _, _, .nil, r => r
  | _, _, _, _, .cons h q, r => .cons h (q.append r)
theorem TAt.len {H : Hp} : ∀ {ts ls}, TAt H ts ls → ts.length = ls.length
  | _, _, .nil => rfl
  | _, _, .cons _ r => congrArg Nat.succ r.len
theorem TAt.get {H : Hp} : ∀ {ts ls} {i : Nat} {t : Addr}, TAt H ts ls → ts[i]? = some t → ∃ l, ls[i]? = some l ∧ H t = some (.tup (l.map fun c => .int (c : Nat)))
  | _, _, 0, _, .cons h r, e => by
    cases e
    exact ⟨_, rfl, h⟩
  | _, _, i + 1, _, .cons h r, e => r.get (i := i) e
def ints_ (l : List Nat) : List V := l.map fun c => .int (c : Nat)
def intD (l : List Nat) : PyData := .tuple (l.map fun c => .int (c : Nat))
theorem dp_ints {K : PySem.W.Frag} {H : Hp} : ∀ l : List Nat, DpAll K H (l.map fun c => .int (c : Nat)) (l.map fun c => PyData.int (c : Nat))
  | [] => .nil
  | x :: l => .cons (.int _) (dp_ints l)
theorem shaped_ints (l : List Nat) : SeqAt.shaped (intD l) = true := by
  have h1 : ∀ l : List Nat, PyData.canLayAll0 (l.map fun c => PyData.int (c : Nat)) = true ∧ PyData.depthAll (l.map fun c => PyData.int (c : Nat)) = 0 := fun l => by
    induction l with
    | nil => exact ⟨by simp [PyData.canLayAll0], by simp [PyData.depthAll]⟩
    | cons x r ih => exact ⟨by simp [PyData.canLayAll0, PyData.canLay0, ih.1], by simp [PyData.depthAll, PyData.depth, ih.2]⟩
  show ((PyData.canLay0 (intD l)) && decide (PyData.depth (intD l) ≤ 64)) = true
  simp [intD, PyData.canLay0, PyData.depth, (h1 l).1, (h1 l).2]
theorem eqv_empty (l : List Nat) : PyData.eqv (intD l) (.tuple []) = l.isEmpty := by
  cases l with
  | nil => simp [intD, PyData.eqv, PyData.eqvAll]
  | cons x r => simp [intD, PyData.eqv, PyData.eqvAll]
theorem last_get : ∀ (r : List Nat) (x : Nat), (x :: r)[r.length]? = some (r.getLastD x)
  | [], x => rfl
  | y :: r, x => by
    rw [List.getLastD_cons]
    exact last_get r y
theorem last_at {l : List Nat} (h : l.isEmpty = false) : atI (ints_ l) (-1) = some (.int (l.getLastD 0 : Nat)) := by
  cases l with
  | nil => cases h
  | cons x r =>
    have hl : (ints_ (x :: r)).length = r.length + 1 := by unfold ints_; rw [List.length_map]; rfl
    unfold atI
    rw [hl]
    have e : ixN (r.length + 1) (-1) = some r.length := by
      unfold ixN
      simp
      omega
    rw [e]
    show (ints_ (x :: r))[r.length]? = _
    unfold ints_
    rw [List.getElem?_map]
    have e2 : (x :: r)[r.length]? = some ((x :: r).getLastD 0) := by
      rw [List.getLastD_cons]
      exact last_get r x
    rw [e2]
    rfl
section
variable {P : Program} {w : World} {K : PySem.W.Frag} {mg : Str → Option Value} {base : Heap}
def spLots : Sp := fun vs H Q _ => ∃ (r : Addr) (n : Nat), vs = [.ref r] ∧ n ≤ 5 ∧ H r = some (.lst (ints_ (List.range n))) ∧ ∀ H' q ts, Same H H' → H q = none → H' q = some (.lst (ts.map V.ref)) → TAt H' ts (lotsTo (List.range n) n) → Q (.ref q) H'
theorem ok_lots {f : Addr} {fd : FuncData} (F : Fun K "_law_lots" "_law_lots" s__law_lots f fd) (m_range : mg "range" = none) (m_len : mg "len" = none) (m_list : mg "list" = none) : FnOk P w K mg base CX0 1 f fd ["_law_cells"] spLots := by
  refine F.ok sc__law_lots (fun vs H Q E h => ?_) (fun cdv A outer s H vs Q E hr h => ?_)
  · obtain ⟨r, n, rfl, _⟩ := h
    rfl
  · obtain ⟨r, n, rfl, hn, hr0, q⟩ := h
    refine ⟨_, (pss_cons (ps_par (by rfl) sc__law_lots.nd (i := 1) (j := 2) rfl rfl (by decide) rfl rfl (pa_cons (pe_lst (pa_cons (pe_tup pa_nil) pa_nil)) (pa_cons (pe_lst (pa_cons (pe_tup pa_nil) pa_nil)) pa_nil)) (by rfl))
 (pss_cons (ps_for PassesOwn.never rfl (pi_range1 rfl m_range (pa_cons (pe_callB call_len_seq (by rfl) m_len boot_len (pa_cons (pv 0) pa_nil)) pa_nil)) (pg_name (i := 3) sc__law_lots.nd rfl (by first | exact Or.inl rfl | exact Or.inr rfl))
  (pss_cons (ps_set (i := 4) sc__law_lots.nd rfl (by first | exact Or.inl rfl | exact Or.inr rfl) (pe_lst pa_nil))
 (pss_cons (ps_for PassesOwn.never rfl (pi_list (pv 2)) (pg_name (i := 5) sc__law_lots.nd rfl (by first | exact Or.inl rfl | exact Or.inr rfl))
  (pss_one (ps_for PassesOwn.never rfl (pi_list (pv 0)) (pg_name (i := 6) sc__law_lots.nd rfl (by first | exact Or.inl rfl | exact Or.inr rfl))
  (pss_one (ps_if (pw_or (pt_cmpR (op_eqD hr.units) (pv 5) (pe_tup pa_nil) (nomark _)) (pw_or1 (pt_cmpR op_gt (pv 6) (pe_ix ix_tup (pv 5) (pe_un un_neg pe_int) (fun _ _ => rfl)) (nomark _)))).pt
  (pss_one (ps_expr (pe_bm PySem.F.plainAttrs_list PySem.F.slot_list_append PySem.F.type_list_append mt_append (pv 4) (pa_cons (pe_op op_catA (pv 5) (pe_tup (pa_cons (pv 6) pa_nil))) pa_nil))))
  pss_nil)))))
 (pss_cons (ps_expr (pe_bm PySem.F.plainAttrs_list PySem.F.slot_list_extend PySem.F.type_list_extend mt_extend (pv 1) (pa_cons (pv 4) pa_nil)))
 (pss_one (ps_set (i := 2) sc__law_lots.nd rfl (by first | exact Or.inl rfl | exact Or.inr rfl) (pe_callTy call_list_of (by rfl) m_list boot_list (pa_cons (pv 4) pa_nil))))))))
 (pss_one (ps_ret (pv 1))))), ?_⟩
    have hlen : (ints_ (List.range n)).length = n := by unfold ints_; rw [List.length_map, List.length_range]
    refine ⟨by show 0 ≤ sizeLine; decide, fun e0 ne0 => ⟨by show 1 ≤ sizeLine; decide, fun F0 nF0 => ⟨by show 0 ≤ sizeLine; decide, fun e1 ne1 => ⟨by show 1 ≤ sizeLine; decide, fun L0 nL0 => ?_⟩⟩⟩⟩
    have s1 : Same H (upd H e0 (.tup [])) := same_new (Same.refl H) ne0
    have s2 : Same (upd H e0 (.tup [])) (upd (upd H e0 (.tup [])) F0 (.lst [.ref e0])) := same_new (Same.refl _) nF0
    generalize hA : upd (upd H e0 (.tup [])) F0 (.lst [.ref e0]) = HA at s2 ne1 nL0 ⊢
    have hF : HA F0 = some (.lst [.ref e0]) := by rw [← hA]; exact upd_same
    have he0 : HA e0 = some (.tup []) := s2 _ _ upd_same
    have s3 : Same HA (upd HA e1 (.tup [])) := same_new (Same.refl _) ne1
    have s4 : Same (upd HA e1 (.tup [])) (upd (upd HA e1 (.tup [])) L0 (.lst [.ref e1])) := same_new (Same.refl _) nL0
    have hL : upd (upd HA e1 (.tup [])) L0 (.lst [.ref e1]) L0 = some (.lst [.ref e1]) := upd_same
    have he1 := s4 _ _ (show upd HA e1 (.tup []) e1 = some (.tup []) from upd_same)
    have hFL : F0 ≠ L0 := ne_of_none (s3 _ _ hF) nL0
    have hF2 := s4 _ _ (s3 _ _ hF)
    have he02 := s4 _ _ (s3 _ _ he0)
    have sB := s1.trans (s2.trans (s3.trans s4))
    generalize upd (upd HA e1 (.tup [])) L0 (.lst [.ref e1]) = HB at hL he1 hF2 he02 sB ⊢
    refine ⟨_, _, rfl, ?_⟩
    have hFn : H F0 = none := s1.free nF0
    refine ⟨_, rfl, r, _, rfl, .inl (.inl (.inl (sB _ _ hr0))), _, rfl, by omega, by omega, for_range (fun t σ H' => t ≤ n ∧ ∃ La fs las y3 y4 y5 y6, σ = [some (.ref r), some (.ref F0), some (.ref La), y3, y4, y5, y6] ∧ Same H H' ∧ H' F0 = some (.lst (fs.map V.ref)) ∧ H' La = some (.lst (las.map V.ref)) ∧ La ≠ F0 ∧ TAt H' fs (lotsTo (List.range n) t) ∧ TAt H' las (level (List.range n) t)) ⟨Nat.zero_le _, L0, [e0], [e1], none, none, none, none, rfl, sB, hF2, hL, hFL.symm, .cons he02 .nil, .cons he1 .nil⟩ (fun t σ H' ht pv => ?_) (fun σ H' pv => ?_)⟩
    · obtain ⟨_, La, fs, las, y3, y4, y5, y6, rfl, e, hF', hLa, nLF, tF, tL⟩ := pv
      rw [hlen] at ht
      have ht : t < n := by simpa using ht
      refine ⟨by show 0 ≤ sizeLine; decide, fun G nG => ?_⟩
      have gF : F0 ≠ G := ne_of_none hF' nG
      have gL : La ≠ G := ne_of_none hLa nG
      have eG : Same H' (upd H' G (.lst [])) := same_new (Same.refl H') nG
      obtain ⟨lv, lt5⟩ := level_len ⟨n, by omega⟩ ⟨t, by omega⟩
      obtain ⟨lv2, lt6⟩ := level_len ⟨n, by omega⟩ ⟨t + 1, by omega⟩
      have lv : (level (List.range n) t).length ≤ 10 := lv
      refine ⟨_, rfl, La, rfl, ⟨_, .inl (.inl (eG _ _ hLa))⟩, for_list (xs := las.map V.ref) (fun i σ H2 => ∃ gs y5 y6, σ = [some (.ref r), some (.ref F0), some (.ref La), some (.int (0 + (t : Nat))), some (.ref G), y5, y6] ∧ But G H' H2 ∧ H2 G = some (.lst (gs.map V.ref)) ∧ TAt H2 gs (((level (List.range n) t).take i).flatMap (grow1 (List.range n))) ∧ gs.length ≤ 5 * i)
        ⟨[], y5, y6, rfl, fun b o hb hz => by rw [upd_ne hb]; exact hz, upd_same, .nil, Nat.le_refl _⟩ (fun i σ H2 _ pv => ?_) (fun i x σ H2 hx pv => ?_) (fun σ H2 pv => ?_)⟩
      · obtain ⟨gs, y5, y6, rfl, bt, hG, tG, hg⟩ := pv
        exact .inl (.inl (bt _ _ gL hLa))
      · obtain ⟨gs, y5, y6, rfl, bt, hG, tG, hg⟩ := pv
        rw [List.getElem?_map] at hx
        obtain ⟨ti, hti, rfl⟩ := Option.map_eq_some_iff.mp hx
        obtain ⟨lot, elot, hlot⟩ := tL.get hti
        have hi10 : i < 10 := by
          have := (List.getElem?_eq_some_iff.mp elot).1
          omega
        have tG' : ∀ {b : Addr} {xs : List V}, H' b = some (.tup xs) → H2 b = some (.tup xs) := fun {b xs} hb => bt b _ (ne_of_none hb nG) hb
        have hr2 : H2 r = some (.lst (ints_ (List.range n))) := bt _ _ (ne_of_none (e _ _ hr0) nG) (e _ _ hr0)
        have nrG : r ≠ G := ne_of_none (e _ _ hr0) nG
        refine ⟨_, rfl, r, rfl, ⟨_, .inl (.inl hr2)⟩, for_list (xs := ints_ (List.range n)) (fun j σ H3 => ∃ gs' y6, σ = [some (.ref r), some (.ref F0), some (.ref La), some (.int (0 + (t : Nat))), some (.ref G), some (.ref ti), y6] ∧ But G H' H3 ∧ H3 G = some (.lst (gs'.map V.ref)) ∧ TAt H3 gs' (((level (List.range n) t).take i).flatMap (grow1 (List.range n)) ++ grow1 ((List.range n).take j) lot) ∧ gs'.length ≤ 5 * i + j)
          ⟨gs, y6, rfl, bt, hG, by simpa [grow1] using tG, by omega⟩ (fun j σ H3 _ pv => ?_) (fun j x σ H3 hx pv => ?_) (fun σ H3 pv => ?_)⟩
        · obtain ⟨gs', y6, rfl, bt3, hG3, tG3, hg3⟩ := pv
          exact .inl (.inl (bt3 _ _ nrG (e _ _ hr0)))
        · obtain ⟨gs', y6, rfl, bt3, hG3, tG3, hg3⟩ := pv
          unfold ints_ at hx
          rw [List.getElem?_map] at hx
          obtain ⟨c, hc, rfl⟩ := Option.map_eq_some_iff.mp hx
          have hj5 : j < 5 := by
            have := (List.getElem?_eq_some_iff.mp hc).1
            rw [List.length_range] at this
            omega
          have hlot3 : H3 ti = some (.tup (lot.map fun c => .int (c : Nat))) := bt3 ti _ (ne_of_none hlot nG) hlot
          have hll : lot.length ≤ 990 := lot_len hn (by omega) elot
          have g1 : grow1 ((List.range n).take (j + 1)) lot = grow1 ((List.range n).take j) lot ++ (if (lot.isEmpty || decide (lot.getLastD 0 < c)) = true then [lot ++ [c]] else []) := by
            unfold grow1
            rw [List.take_add_one, hc, List.filter_append, List.map_append]
            congr 1
            by_cases z : (lot.isEmpty || decide (lot.getLastD 0 < c)) = true
            · rw [if_pos z]
              show List.map _ (List.filter _ [c]) = _
              rw [List.filter_cons, if_pos z]
              rfl
            · rw [if_neg z]
              show List.map _ (List.filter _ [c]) = _
              rw [List.filter_cons, if_neg z]
              rfl
          have endOk : ∀ (Hf : Hp) (v : Addr), Same H3 Hf → Hf v = some (.tup ((lot ++ [c]).map fun c => .int (c : Nat))) → (lot.isEmpty || decide (lot.getLastD 0 < c)) = true →
              But G H' (upd Hf G (.lst (gs'.map V.ref ++ [.ref v]))) ∧ upd Hf G (.lst (gs'.map V.ref ++ [.ref v])) G = some (.lst ((gs' ++ [v]).map V.ref)) ∧
                TAt (upd Hf G (.lst (gs'.map V.ref ++ [.ref v]))) (gs' ++ [v]) (((level (List.range n) t).take i).flatMap (grow1 (List.range n)) ++ grow1 ((List.range n).take (j + 1)) lot) ∧ (gs' ++ [v]).length ≤ 5 * i + (j + 1) := by
            intro Hf v sF hv hcond
            have up : ∀ b xs, Hf b = some (.tup xs) → upd Hf G (.lst (gs'.map V.ref ++ [.ref v])) b = some (.tup xs) := fun b xs hb => by
              have n1 : b ≠ G := fun z => by rw [z, sF _ _ hG3] at hb; cases hb
              rw [upd_ne n1]; exact hb
            refine ⟨fun b o nb hb => by rw [upd_ne nb]; exact sF _ _ (bt3 b o nb hb), by rw [upd_same, List.map_append]; rfl, ?_, by rw [List.length_append, List.length_singleton]; omega⟩
            rw [g1, if_pos hcond, ← List.append_assoc]
            exact ((tG3.same sF).mono up).append (.cons (up _ _ hv) .nil)
          refine ⟨_, rfl, by show 0 ≤ sizeLine; decide, fun em nem => ?_⟩
          have sX := same_new (o := .tup []) (Same.refl H3) nem
          refine ⟨_, _, .tup (.inl (.inl (sX _ _ hlot3))) (dp_ints lot), .tup (.inl (.inl upd_same)) .nil, shaped_ints lot, shaped_ints [], ?_⟩
          rw [show PyData.eqv (.tuple (lot.map fun c => PyData.int (c : Nat))) (.tuple []) = lot.isEmpty from eqv_empty lot]
          refine ⟨_, rfl, ite2 (fun q1 => ?_) (fun q1 => ?_)⟩
          · have hcond : (lot.isEmpty || decide (lot.getLastD 0 < c)) = true := by rw [q1]; rfl
            have hG4 := sX _ _ hG3
            refine ⟨_, rfl, .inl ⟨rfl, _, .inl (.inl hG4)⟩, _, rfl, _, rfl, by show 1 ≤ sizeLine; decide, fun u nu => ?_⟩
            have sU := sX.trans (same_new (o := .tup [.int (c : Nat)]) (Same.refl _) nu)
            refine ⟨ti, u, _, _, rfl, rfl, .inl (.inl (sU _ _ hlot3)), .inl (.inl upd_same), ?_, fun z => ?_, (fun _ z2 => nomatch z2), fun z1 _ p np => ?_⟩
            · rw [List.length_map]
              exact Nat.le_trans (show lot.length + 1 ≤ 1000 by omega) (by decide)
            · have lot0 : lot = [] := by simpa using z
              obtain ⟨k1, k2, k3, k4⟩ := endOk _ u sU (by rw [upd_same, lot0]; rfl) hcond
              exact ⟨G, _, _, rfl, rfl, sU _ _ hG3, by rw [List.length_map]; exact small1000 (by omega), gs' ++ [u], _, rfl, k1, k2, k3, k4⟩
            · obtain ⟨k1, k2, k3, k4⟩ := endOk _ p (sU.trans (same_new (Same.refl _) np)) (by rw [upd_same, List.map_append]) hcond
              exact ⟨G, _, _, rfl, rfl, (sU.trans (same_new (Same.refl _) np)) _ _ hG3, by rw [List.length_map]; exact small1000 (by omega), gs' ++ [p], _, rfl, k1, k2, k3, k4⟩
          · have q1' : lot.isEmpty = false := Bool.eq_false_iff.mpr q1
            refine ⟨_, rfl, _, rfl, _, rfl, ti, _, _, .int (lot.getLastD 0 : Nat), rfl, rfl, .inl (.inl (sX _ _ hlot3)), last_at q1', _, _, rfl, rfl, _, rfl, ite2 (fun q2 => ?_) (fun q2 => ?_)⟩
            · have hcond : (lot.isEmpty || decide (lot.getLastD 0 < c)) = true := by
                rw [q1', Bool.false_or]
                have := of_decide_eq_true q2
                exact decide_eq_true (by omega)
              have hG4 := sX _ _ hG3
              refine ⟨_, rfl, .inl ⟨rfl, _, .inl (.inl hG4)⟩, _, rfl, _, rfl, by show 1 ≤ sizeLine; decide, fun u nu => ?_⟩
              have sU := sX.trans (same_new (o := .tup [.int (c : Nat)]) (Same.refl _) nu)
              refine ⟨ti, u, _, _, rfl, rfl, .inl (.inl (sU _ _ hlot3)), .inl (.inl upd_same), ?_, fun z => ?_, (fun _ z2 => nomatch z2), fun z1 _ p np => ?_⟩
              · rw [List.length_map]
                exact Nat.le_trans (show lot.length + 1 ≤ 1000 by omega) (by decide)
              · have lot0 : lot = [] := by simpa using z
                obtain ⟨k1, k2, k3, k4⟩ := endOk _ u sU (by rw [upd_same, lot0]; rfl) hcond
                exact ⟨G, _, _, rfl, rfl, sU _ _ hG3, by rw [List.length_map]; exact small1000 (by omega), gs' ++ [u], _, rfl, k1, k2, k3, k4⟩
              · obtain ⟨k1, k2, k3, k4⟩ := endOk _ p (sU.trans (same_new (Same.refl _) np)) (by rw [upd_same, List.map_append]) hcond
                exact ⟨G, _, _, rfl, rfl, (sU.trans (same_new (Same.refl _) np)) _ _ hG3, by rw [List.length_map]; exact small1000 (by omega), gs' ++ [p], _, rfl, k1, k2, k3, k4⟩
            · have hcond : ¬ (lot.isEmpty || decide (lot.getLastD 0 < c)) = true := by
                rw [q1', Bool.false_or]
                intro z
                have z' := of_decide_eq_true z
                exact q2 (decide_eq_true (by omega))
              refine ⟨gs', _, rfl, fun b o nb hb => sX _ _ (bt3 b o nb hb), sX _ _ hG3, ?_, by omega⟩
              rw [g1, if_neg hcond, List.append_nil]
              exact tG3.same sX
        · obtain ⟨gs', y6, rfl, bt3, hG3, tG3, hg3⟩ := pv
          refine ⟨gs', _, _, rfl, bt3, hG3, ?_, ?_⟩
          · rw [hlen, show (List.range n).take n = List.range n from List.take_of_length_le (by rw [List.length_range]; exact Nat.le_refl n)] at tG3
            rw [List.take_add_one, elot, List.flatMap_append]
            simpa using tG3
          · rw [hlen] at hg3
            omega
      · obtain ⟨gs, y5, y6, rfl, bt, hG, tG, hg⟩ := pv
        rw [List.length_map] at tG hg
        rw [tL.len, List.take_length] at tG
        have hF3 := bt _ _ gF hF'
        have lfs : fs.length ≤ 32 := by rw [tF.len]; exact (level_len ⟨n, by omega⟩ ⟨t, by omega⟩).2
        have lgs : gs.length ≤ 10 := by rw [tG.len]; exact lv2
        refine ⟨_, rfl, .inl ⟨rfl, _, .inl (.inl hF3)⟩, _, rfl, F0, G, _, _, rfl, rfl, hF3, hG, ?_, ?_⟩
        · rw [List.length_map, List.length_map]
          exact Nat.le_trans (show fs.length + gs.length ≤ 42 by omega) (by decide)
        have hG4 : upd H2 F0 (.lst (fs.map V.ref ++ gs.map V.ref)) G = some (.lst (gs.map V.ref)) := by rw [upd_ne gF.symm]; exact hG
        refine ⟨_, rfl, G, _, rfl, .inl (.inl (.inl hG4)), fun L2 nL2 => ?_⟩
        have hF4 : upd H2 F0 (.lst (fs.map V.ref ++ gs.map V.ref)) F0 = some (.lst ((fs ++ gs).map V.ref)) := by rw [upd_same, List.map_append]
        have nL2F : L2 ≠ F0 := fun z => by rw [z, hF4] at nL2; cases nL2
        have up : ∀ b xs, H2 b = some (.tup xs) → upd (upd H2 F0 (.lst (fs.map V.ref ++ gs.map V.ref))) L2 (.lst (gs.map V.ref)) b = some (.tup xs) := fun b xs hb => by
          have n1 : b ≠ F0 := fun z => by rw [z, hF3] at hb; cases hb
          have h1 : upd H2 F0 (.lst (fs.map V.ref ++ gs.map V.ref)) b = some (.tup xs) := by rw [upd_ne n1]; exact hb
          rw [upd_ne (ne_of_none h1 nL2)]
          exact h1
        have tF' : TAt H2 fs (lotsTo (List.range n) t) := tF.mono fun b xs hb => bt b _ (ne_of_none hb nG) hb
        refine ⟨by omega, L2, fs ++ gs, gs, _, _, _, _, rfl, fun b o hb => ?_, by rw [upd_ne nL2F.symm]; exact hF4, upd_same, nL2F, (tF'.mono up).append (tG.mono up), tG.mono up⟩
        have n0 : b ≠ F0 := ne_of_none hb hFn
        have h1 := e _ _ hb
        have h2 := bt _ _ (ne_of_none h1 nG) h1
        have h3 : upd H2 F0 (.lst (fs.map V.ref ++ gs.map V.ref)) b = some o := by rw [upd_ne n0]; exact h2
        rw [upd_ne (ne_of_none h3 nL2)]
        exact h3
    · obtain ⟨_, La, fs, las, y3, y4, y5, y6, rfl, e, hF', hLa, nLF, tF, tL⟩ := pv
      rw [hlen] at tF
      exact ⟨_, rfl, q H' F0 fs e hFn hF' (by simpa using tF)⟩
end
end K7
end
/-! ## KL -/
section
/-! ## pure facts about drawn lands (no program in them) -/
namespace KL
/-- every set that holds cell 0 and is not left over any couple holds all cells -/
def Conn (n : Nat) (es : List (Nat × Nat)) : Prop := ∀ S : Nat → Bool, S 0 = true → (∀ e ∈ es, S e.1 = S e.2) → ∀ c, c < n → S c = true
theorem erase_perm {α : Type} : ∀ (l : List α) (j : Nat) (h : j < l.length), (l[j] :: l.eraseIdx j).Perm l
  | x :: l, 0, _ => List.Perm.refl _
  | x :: l, j + 1, h => (List.Perm.swap x (l[j]'(Nat.lt_of_succ_lt_succ h)) (l.eraseIdx j)).trans (List.Perm.cons x (erase_perm l j (Nat.lt_of_succ_lt_succ h)))
/-- one item drawn out of what is left -/
theorem pop_perm {names left : List Nat} {j : Nat} (h : j < left.length) : ((names ++ [left[j]]) ++ left.eraseIdx j).Perm (names ++ left) := by
  rw [List.append_assoc]
  refine List.Perm.append_left names ?_
  exact erase_perm left j h
def couple (names : List Nat) (a b : Nat) : Nat × Nat := (min (names.getD a 0) (names.getD b 0), max (names.getD a 0) (names.getD b 0))
theorem couple_mem {names : List Nat} {n : Nat} (hp : names.Perm (List.range n)) {a : Nat} (ha : a < n) : names.getD a 0 < n := by
  have hl : names.length = n := by rw [hp.length_eq, List.length_range]
  have e : names.getD a 0 = names[a]'(by omega) := by
    rw [List.getD_eq_getElem?_getD, List.getElem?_eq_getElem (by omega)]
    rfl
  rw [e]
  exact List.mem_range.mp (hp.mem_iff.mp (List.getElem_mem _))
/-- a tree under drawn names hangs together -/
theorem conn_tree {n : Nat} {names : List Nat} (hp : names.Perm (List.range n)) {es : List (Nat × Nat)} (h : ∀ k, 0 < k → k < n → ∃ d, d < k ∧ couple names k d ∈ es) : Conn n es := by
  intro S h0 hS c hc
  have hl : names.length = n := by rw [hp.length_eq, List.length_range]
  have step : ∀ k d, couple names k d ∈ es → S (names.getD k 0) = S (names.getD d 0) := by
    intro k d m
    have e := hS _ m
    unfold couple at e
    simp only at e
    by_cases q : names.getD k 0 ≤ names.getD d 0
    · rw [Nat.min_eq_left q, Nat.max_eq_right q] at e
      exact e
    · rw [Nat.min_eq_right (by omega), Nat.max_eq_left (by omega)] at e
      exact e.symm
  have all : ∀ k, k < n → S (names.getD k 0) = S (names.getD 0 0) := by
    intro k
    induction k using Nat.strongRecOn with
    | _ k ih =>
      intro hk
      by_cases z : k = 0
      · rw [z]
      · obtain ⟨d, hd, m⟩ := h k (by omega) hk
        rw [step k d m]
        exact ih d hd (by omega)
  have at_ : ∀ x, x < n → ∃ k, k < n ∧ names.getD k 0 = x := by
    intro x hx
    have m : x ∈ names := hp.mem_iff.mpr (List.mem_range.mpr hx)
    obtain ⟨k, hk, e⟩ := List.mem_iff_getElem.mp m
    refine ⟨k, by omega, ?_⟩
    rw [List.getD_eq_getElem?_getD, List.getElem?_eq_getElem hk, e]
    rfl
  obtain ⟨k0, hk0, e0⟩ := at_ 0 (by omega)
  obtain ⟨k, hk, e⟩ := at_ c hc
  have r0 := all k0 hk0
  rw [e0, h0] at r0
  rw [← e, all k hk, ← r0]
/-- a list of cells that is closed under the couples and holds cell 0 holds all cells -/
theorem conn_closed {n : Nat} {es : List (Nat × Nat)} (h : Conn n es) {found : List Nat} (h0 : 0 ∈ found) (hc : ∀ a b, ((a, b) ∈ es ∨ (b, a) ∈ es) → a ∈ found → b ∈ found) : ∀ c, c < n → c ∈ found := by
  intro c hc'
  have := h (fun x => decide (x ∈ found)) (by simpa using h0) (fun e he => by
    have e1 : e.1 ∈ found ↔ e.2 ∈ found := ⟨fun q => hc e.1 e.2 (.inl he) q, fun q => hc e.2 e.1 (.inr he) q⟩
    exact decide_eq_decide.mpr e1) c hc'
  simpa using this
/-- as many as there are cells, none twice: all cells -/
theorem all_len {n : Nat} {found : List Nat} (hn : found.Nodup) (hb : ∀ c ∈ found, c < n) (ha : ∀ c, c < n → c ∈ found) : found.length = n := by
  have hp : found.Perm (List.range n) := by
    rw [List.perm_ext_iff_of_nodup hn List.nodup_range]
    intro a
    exact ⟨fun q => List.mem_range.mpr (hb a q), fun q => ha a (List.mem_range.mp q)⟩
  rw [hp.length_eq, List.length_range]
end KL
namespace KL
theorem couple_inj {names : List Nat} {n : Nat} (hp : names.Perm (List.range n)) {a b a' b' : Nat} (h1 : b < a) (h2 : a < n) (h1' : b' < a') (h2' : a' < n) (e : couple names a b = couple names a' b') : (a, b) = (a', b') := by
  have hl : names.length = n := by rw [hp.length_eq, List.length_range]
  have nd : names.Nodup := hp.nodup_iff.mpr List.nodup_range
  have inj : ∀ x y, x < n → y < n → names.getD x 0 = names.getD y 0 → x = y := by
    intro x y hx hy q
    rw [List.getD_eq_getElem?_getD, List.getD_eq_getElem?_getD, List.getElem?_eq_getElem (by omega), List.getElem?_eq_getElem (by omega)] at q
    exact (List.getElem_inj nd).mp q
  have ne : ∀ x y, x < n → y < n → x ≠ y → names.getD x 0 ≠ names.getD y 0 := fun x y hx hy q z => q (inj x y hx hy z)
  unfold couple at e
  injection e with e1 e2
  have q1 := ne a b h2 (by omega) (by omega)
  have q2 := ne a' b' h2' (by omega) (by omega)
  by_cases c1 : names.getD a 0 ≤ names.getD b 0
  · rw [Nat.min_eq_left c1] at e1
    rw [Nat.max_eq_right c1] at e2
    by_cases c2 : names.getD a' 0 ≤ names.getD b' 0
    · rw [Nat.min_eq_left c2] at e1
      rw [Nat.max_eq_right c2] at e2
      rw [inj a a' h2 h2' e1, inj b b' (by omega) (by omega) e2]
    · rw [Nat.min_eq_right (by omega)] at e1
      rw [Nat.max_eq_left (by omega)] at e2
      have r1 := inj a b' h2 (by omega) e1
      have r2 := inj b a' (by omega) h2' e2
      omega
  · rw [Nat.min_eq_right (by omega)] at e1
    rw [Nat.max_eq_left (by omega)] at e2
    by_cases c2 : names.getD a' 0 ≤ names.getD b' 0
    · rw [Nat.min_eq_left c2] at e1
      rw [Nat.max_eq_right c2] at e2
      have r1 := inj b a' (by omega) h2' e1
      have r2 := inj a b' h2 (by omega) e2
      omega
    · rw [Nat.min_eq_right (by omega)] at e1
      rw [Nat.max_eq_left (by omega)] at e2
      rw [inj a a' h2 h2' e2, inj b b' (by omega) (by omega) e1]
end KL
end
/-! ## ER -/
section
namespace K7E
open PySem PySem.Spec PyProof.Rows L2
theorem cr_range1 {X : Cx} : CallR X (.type "range") (fun vs H Q => ∃ j, vs = [V.int j] ∧ ∀ p, H p = none → Q (.ref p) (upd H p (.rng 0 j))) := by
  intro pins s σ H vs us Q I r h
  obtain ⟨j, rfl, q⟩ := h
  obtain ⟨u1, rfl, t, rfl⟩ := r.one
  refine call_range_1 ⟨.ref s.heap.objs.size, upd H s.heap.objs.size (.rng 0 j), I.laid (t' := s.toks + 1 + 1) (fun b o e => Heap.get?_push_of_some _ e) (Nat.le_refl _) ?_, rfl, q _ (I.hok.fresh (Nat.le_refl _))⟩
  exact ⟨s.toks, t, s.toks + 1, Heap.get?_push_size _ rfl⟩
def upTo (n : Nat) : List V := (List.range n).map fun i => .int (i : Nat)
theorem vals_upTo : ∀ (n : Nat) (us : List Value), us.length = n → (∀ (j : Nat) v, us[j]? = some v → ∃ t, v = .int (j : Nat) t) → Vals (upTo n) us := by
  intro n
  induction n with
  | zero => intro us h _; cases us with | nil => exact .nil | cons => cases h
  | succ n ih =>
    intro us h hv
    have e : us = us.take n ++ [us[n]'(by omega)] := by
      have := List.take_append_getElem (l := us) (i := n) (by omega)
      rw [this, List.take_of_length_le (by omega)]
    have e2 : upTo (n + 1) = upTo n ++ [.int (n : Nat)] := by
      unfold upTo
      rw [List.range_succ, List.map_append]
      rfl
    rw [e, e2]
    refine (ih _ (by rw [List.length_take]; omega) fun j v hj => ?_).append (.cons ?_ .nil)
    · rw [List.getElem?_take] at hj
      split at hj
      · exact hv j v hj
      · cases hj
    · exact hv n _ (List.getElem?_eq_getElem (by omega))
theorem small_all : ∀ k : Fin 1001, Builtin.Range.small 0 (k.val : Int) 1 = true := by decide +kernel
theorem cr_list_rng {X : Cx} (hc : X.calm = true) : CallR X (.type "list") (fun vs H Q => ∃ (r : Addr) (n : Nat), vs = [V.ref r] ∧ H r = some (.rng 0 n) ∧ n ≤ 1000 ∧ ∀ l, H l = none → Q (.ref l) (upd H l (.lst (upTo n)))) := by
  intro pins s σ H vs us Q I rv h
  obtain ⟨r, n, rfl, hr, hn, q⟩ := h
  obtain ⟨u, rfl, ru⟩ := rv.one
  cases ru
  obtain ⟨t, u, v, hg⟩ := I.hok r _ hr
  refine call_list_range (n := n) (I.ok.hd hc) (show IsRange s.heap r 0 n 1 t u v from hg) ?_ ?_ ?_ fun h' tk acc' c' hk hl hi => ?_
  · have h1 : (0 : Int) ≤ n := by omega
    have h2 : (n : Int) ≤ 1000 := by omega
    exact small_all ⟨n, by omega⟩
  · show (if (0 : Int) < (n : Int) then ((n : Int) - 0 - 1) / 1 + 1 else 0) = (n : Int)
    split <;> omega
  · exact Nat.le_trans hn (by decide)
  · refine ⟨.ref s.heap.objs.size, upd H s.heap.objs.size (.lst (upTo n)), I.laid (t' := tk) hk (Nat.le_refl _) ⟨?_, acc'.toList, c', vals_upTo n _ ?_ fun j w hj => ?_, ?_⟩, rfl, q _ (I.hok.fresh (Nat.le_refl _))⟩
    · unfold upTo; rw [List.length_map, List.length_range]; exact Nat.le_trans hn (by decide)
    · simpa using hi.1
    · obtain ⟨t', e⟩ := hi.2 j w (by simpa using hj)
      exact ⟨t', by rw [e]; simp⟩
    · simpa using hl
end K7E
end
/-! ## P3 -/
section
open PySem PySem.Spec PyProof.Rows L2
namespace K7L
theorem hu65 {k : Nat} {A : Around} (hr : Room k A) : A.units + 65 < cLine := by have := hr.un; omega
end K7L
namespace K7
abbrev N__law_land : List Str := ["_law_hand_here", "_law_n", "_law_names", "_law_left", "_law_k", "_law_couples", "_law_high", "_law_low", "_law_rows", "_law_a", "_law_b", "_law_lots_here", "_law_lot"]
abbrev s__law_land : Stmt := topS 32
theorem sc__law_land : FnScope ["_law_hand_here", "_law_n", "_law_names", "_law_left", "_law_k", "_law_couples", "_law_high", "_law_low", "_law_rows", "_law_a", "_law_b", "_law_lots_here", "_law_lot"] ["_law_hand_here", "_law_n"] (defScope s__law_land) := ⟨rfl, rfl, rfl, by decide +kernel, rfl, by decide +kernel, by decide +kernel⟩
/-! ### what stays -/
def notHand : List V → Bool
  | [.ref _, .int _, .int _, .int _] => false
  | _ => true
theorem notHand_strs : ∀ ss : List Str, notHand (ss.map V.str) = true
  | [] => rfl
  | [_] => rfl
  | [_, _] => rfl
  | [_, _, _] => rfl
  | [_, _, _, _] => rfl
  | _ :: _ :: _ :: _ :: _ :: _ => rfl
theorem notHand_len : ∀ xs : List V, xs.length ≠ 4 → notHand xs = true
  | [], _ => rfl
  | [_], _ => by unfold notHand; split <;> first | rfl | (rename_i h; cases h)
  | [_, _], _ => by unfold notHand; split <;> first | rfl | (rename_i h; cases h)
  | [_, _, _], _ => by unfold notHand; split <;> first | rfl | (rename_i h; cases h)
  | [_, _, _, _], h => absurd rfl h
  | _ :: _ :: _ :: _ :: _ :: _, _ => by unfold notHand; split <;> first | rfl | (rename_i h; cases h)
/-- all but the hand at h is as it was, and the hand is a hand -/
structure Stay (h c : Addr) (H H' : Hp) : Prop where
  but : But h H H'
  hand0 : Hand H h c
  hand : Hand H' h c
theorem Stay.of_same {h c : Addr} {H H' : Hp} (hh : Hand H h c) (e : Same H H') : Stay h c H H' := ⟨fun b o _ z => e b o z, hh, hh.same e⟩
theorem Stay.of_drawn {h c : Addr} {H H' : Hp} (hh : Hand H h c) (d : Drawn H H' h c) : Stay h c H H' := ⟨fun b o nb z => by rw [d.but b nb]; exact z, hh, d.hand⟩
theorem Stay.trans {h c : Addr} {H H' H'' : Hp} (x : Stay h c H H') (y : Stay h c H' H'') : Stay h c H H'' := ⟨fun b o nb z => y.but b o nb (x.but b o nb z), x.hand0, y.hand⟩
theorem Stay.same {h c : Addr} {H H' H'' : Hp} (x : Stay h c H H') (e : Same H' H'') : Stay h c H H'' := x.trans (.of_same x.hand e)
theorem Stay.drawn {h c : Addr} {H H' H'' : Hp} (x : Stay h c H H') (e : Drawn H' H'' h c) : Stay h c H H'' := x.trans (.of_drawn x.hand e)
theorem Hand.nel {h c b : Addr} {H : Hp} {xs : List V} (hh : Hand H h c) (hb : H b = some (.lst xs)) (hx : notHand xs = true) : b ≠ h := by
  intro e
  subst e
  obtain ⟨ns, i, x, t, h1, _, _⟩ := hh
  rw [hb] at h1
  injection h1 with h1
  unfold HandO at h1
  injection h1 with h1
  subst h1
  cases hx
theorem Hand.nei {h c b C dx : Addr} {H : Hp} {fs : List (Str × V)} (hh : Hand H h c) (hb : H b = some (.ins C dx fs)) : b ≠ h := by
  intro e
  subst e
  obtain ⟨ns, i, x, t, h1, _, _⟩ := hh
  rw [hb] at h1
  cases h1
theorem Hand.net {h c b : Addr} {H : Hp} {xs : List V} (hh : Hand H h c) (hb : H b = some (.tup xs)) : b ≠ h := by
  intro e
  subst e
  obtain ⟨ns, i, x, t, h1, _, _⟩ := hh
  rw [hb] at h1
  cases h1
theorem Hand.ned {h c b : Addr} {H : Hp} {kvs : List (Key × V)} (hh : Hand H h c) (hb : H b = some (.dK kvs)) : b ≠ h := by
  intro e
  subst e
  obtain ⟨ns, i, x, t, h1, _, _⟩ := hh
  rw [hb] at h1
  cases h1
section
variable {h c : Addr} {H H' : Hp}
theorem Stay.lst {b : Addr} {xs : List V} (x : Stay h c H H') (hb : H b = some (.lst xs)) (hx : notHand xs = true) : H' b = some (.lst xs) := x.but b _ (x.hand0.nel hb hx) hb
theorem Stay.row {b : Addr} {ss : List Str} (x : Stay h c H H') (hb : H b = some (.lst (ss.map V.str))) : H' b = some (.lst (ss.map V.str)) := x.lst hb (notHand_strs ss)
end
theorem map_erase {α β : Type} (f : α → β) : ∀ (l : List α) (j : Nat), (l.map f).eraseIdx j = (l.eraseIdx j).map f
  | [], _ => rfl
  | x :: l, 0 => rfl
  | x :: l, j + 1 => congrArg (f x :: ·) (map_erase f l j)
theorem ixN_nat {n i : Nat} (h : i < n) : ixN n (i : Int) = some i := by
  have e : (List.range n)[i]? = some i := by rw [List.getElem?_range h]
  have := atI_nat e
  unfold atI at this
  rw [List.length_range] at this
  cases q : ixN n (i : Int) with
  | none => rw [q] at this; cases this
  | some j =>
    rw [q] at this
    have h2 : (List.range n)[j]? = some i := this
    rw [List.getElem?_eq_some_iff] at h2
    obtain ⟨h3, h4⟩ := h2
    rw [List.getElem_range] at h4
    rw [h4]
section
variable {P : Program} {w : World} {K : PySem.W.Frag} {mg : Str → Option Value} {base : Heap}
def rLen_ (K : PySem.W.Frag) : List V → Hp → VK → Prop := fun xs H Q => ∃ p ys, xs = [.ref p] ∧ (SqL K H p ys ∨ SqT K H p ys) ∧ Q (.int ys.length) H
def pairs (es : List (Nat × Nat)) : List (List Nat) := es.map fun e => [e.1, e.2]
/-- couples before the cells have their names: each cell below m hangs on a lower one -/
structure Tree (n m : Nat) (cs : List (Nat × Nat)) : Prop where
  lt : ∀ e ∈ cs, e.2 < e.1 ∧ e.1 < m ∧ e.1 < n
  nd : cs.Nodup
  low : ∀ k, 0 < k → k < m → ∃ d, d < k ∧ (k, d) ∈ cs
theorem Tree.nil (n : Nat) : Tree n 1 [] := ⟨fun e h => (nomatch h), List.nodup_nil, fun k h0 h1 => by omega⟩
theorem Tree.add {n k j : Nat} {cs : List (Nat × Nat)} (t : Tree n (k + 1) cs) (hk : k + 1 < n) (hj : j < k + 1) : Tree n (k + 1 + 1) (cs ++ [(k + 1, j)]) := by
  refine ⟨fun e h => ?_, ?_, fun x x0 x1 => ?_⟩
  · rcases List.mem_append.mp h with q | q
    · obtain ⟨a, b, c⟩ := t.lt e q
      exact ⟨a, by omega, c⟩
    · rw [List.mem_singleton.mp q]
      exact ⟨hj, by show k + 1 < k + 1 + 1; omega, hk⟩
  · rw [List.nodup_append]
    refine ⟨t.nd, by simp, fun a ha b hb => ?_⟩
    rw [List.mem_singleton.mp hb]
    intro z
    rw [z] at ha
    have := (t.lt _ ha).2.1
    simp only at this
    omega
  · by_cases z : x = k + 1
    · exact ⟨j, by omega, List.mem_append_right _ (by rw [z]; exact List.mem_singleton.mpr rfl)⟩
    · obtain ⟨d, d1, d2⟩ := t.low x x0 (by omega)
      exact ⟨d, d1, List.mem_append_left _ d2⟩
theorem Tree.more {n a b : Nat} {cs : List (Nat × Nat)} (t : Tree n n cs) (h1 : b < a) (h2 : a < n) (h3 : (a, b) ∉ cs) : Tree n n (cs ++ [(a, b)]) := by
  refine ⟨fun e h => ?_, ?_, fun x x0 x1 => ?_⟩
  · rcases List.mem_append.mp h with q | q
    · exact t.lt e q
    · rw [List.mem_singleton.mp q]
      exact ⟨h1, h2, h2⟩
  · rw [List.nodup_append]
    refine ⟨t.nd, by simp, fun x hx y hy => ?_⟩
    rw [List.mem_singleton.mp hy]
    intro z
    exact h3 (z ▸ hx)
  · obtain ⟨d, d1, d2⟩ := t.low x x0 x1
    exact ⟨d, d1, List.mem_append_left _ d2⟩
/-! ### couples as data -/
theorem dp_pair {K : PySem.W.Frag} {H : Hp} (k j : Nat) : DpAll K H [.int (2 + (k : Nat)), .int (0 + (j : Nat))] [.int ((2 + k : Nat) : Int), .int (j : Nat)] := by
  rw [show (2 : Int) + (k : Nat) = ((2 + k : Nat) : Int) by omega, Int.zero_add]
  exact .cons (.int _) (.cons (.int _) .nil)
theorem dp_rows {K : PySem.W.Frag} {H : Hp} : ∀ {ts : List Addr} {ls : List (List Nat)}, TAt H ts ls → DpAll K H (ts.map V.ref) (ls.map intD)
  | _, _, .nil => .nil
  | _, _, .cons h r => .cons (.tup (.inl (.inl h)) (dp_ints _)) (dp_rows r)
theorem shaped_rows (ls : List (List Nat)) : SeqAt.shaped (.list (ls.map intD)) = true := by
  have h1 : ∀ l : List Nat, PyData.canLay0 (intD l) = true ∧ PyData.depth (intD l) ≤ 1 := fun l => by
    have z := shaped_ints l
    have z : ((PyData.canLay0 (intD l)) && decide (PyData.depth (intD l) ≤ 64)) = true := z
    refine ⟨(Bool.and_eq_true_iff.mp z).1, ?_⟩
    have : ∀ l : List Nat, PyData.depthAll (l.map fun c => PyData.int (c : Nat)) = 0 := fun l => by
      induction l with
      | nil => simp [PyData.depthAll]
      | cons x r ih => simp [PyData.depthAll, PyData.depth, ih]
    simp [intD, PyData.depth, this l]
  have h2 : ∀ ls : List (List Nat), PyData.canLayAll0 (ls.map intD) = true ∧ PyData.depthAll (ls.map intD) ≤ 1 := fun ls => by
    induction ls with
    | nil => exact ⟨by simp [PyData.canLayAll0], by simp [PyData.depthAll]⟩
    | cons x r ih =>
      refine ⟨by simp [PyData.canLayAll0, (h1 x).1, ih.1], ?_⟩
      rw [List.map_cons, PyData.depthAll]
      exact Nat.max_le.mpr ⟨(h1 x).2, ih.2⟩
  show ((PyData.canLay0 (.list (ls.map intD))) && decide (PyData.depth (.list (ls.map intD)) ≤ 64)) = true
  have d : PyData.depth (.list (ls.map intD)) ≤ 64 := by
    rw [PyData.depth]
    have := (h2 ls).2
    omega
  simp [PyData.canLay0, (h2 ls).1, d]
theorem any_rows (cs : List (Nat × Nat)) (a b : Nat) : ((pairs cs).map intD).any (fun z => PyData.eqv z (intD [a, b])) = decide ((a, b) ∈ cs) := by
  induction cs with
  | nil => rfl
  | cons e cs ih =>
    show (PyData.eqv (intD [e.1, e.2]) (intD [a, b]) || ((pairs cs).map intD).any (fun z => PyData.eqv z (intD [a, b]))) = _
    rw [ih]
    have h : PyData.eqv (intD [e.1, e.2]) (intD [a, b]) = decide (e = (a, b)) := by
      obtain ⟨x, y⟩ := e
      simp [intD, PyData.eqv, PyData.eqvAll]
      by_cases z1 : x = a <;> by_cases z2 : y = b <;> simp [z1, z2] <;> omega
    rw [h]
    by_cases z : e = (a, b)
    · simp [z]
    · have z2 : ¬ (a, b) = e := fun q => z q.symm
      simp [z, z2]
structure LandOk (n : Nat) (es : List (Nat × Nat)) : Prop where
  lt : ∀ e ∈ es, e.1 < e.2 ∧ e.2 < n
  nd : es.Nodup
  sorted : es.Pairwise fun a b => a.1 < b.1 ∨ (a.1 = b.1 ∧ a.2 ≤ b.2)
  conn : KL.Conn n es
structure LandOk0 (n : Nat) (es : List (Nat × Nat)) : Prop where
  lt : ∀ e ∈ es, e.1 < e.2 ∧ e.2 < n
  nd : es.Nodup
  conn : KL.Conn n es
theorem tree_land {n : Nat} {nm : List Nat} {cs : List (Nat × Nat)} (hp : nm.Perm (List.range n)) (t : Tree n n cs) : LandOk0 n (cs.map fun e => KL.couple nm e.1 e.2) := by
  have nd : nm.Nodup := hp.nodup_iff.mpr List.nodup_range
  have hl : nm.length = n := by rw [hp.length_eq, List.length_range]
  refine ⟨fun e he => ?_, ?_, ?_⟩
  · obtain ⟨x, hx, rfl⟩ := List.mem_map.mp he
    obtain ⟨t1, t2, t3⟩ := t.lt x hx
    have m1 := KL.couple_mem hp (a := x.1) t3
    have m2 := KL.couple_mem hp (a := x.2) (by omega)
    have ne : nm.getD x.1 0 ≠ nm.getD x.2 0 := by
      intro z
      rw [List.getD_eq_getElem?_getD, List.getD_eq_getElem?_getD, List.getElem?_eq_getElem (by omega), List.getElem?_eq_getElem (by omega)] at z
      have := (List.getElem_inj nd).mp z
      omega
    show min _ _ < max _ _ ∧ max _ _ < n
    omega
  · rw [List.nodup_iff_pairwise_ne, List.pairwise_map]
    refine (List.nodup_iff_pairwise_ne.mp t.nd).imp_of_mem fun {a b} ha hb hab z => ?_
    obtain ⟨a1, a2, a3⟩ := t.lt a ha
    obtain ⟨b1, b2, b3⟩ := t.lt b hb
    exact hab (KL.couple_inj hp a1 a3 b1 b3 z)
  · refine KL.conn_tree hp fun k k0 k1 => ?_
    obtain ⟨d, d1, d2⟩ := t.low k k0 k1
    exact ⟨d, d1, List.mem_map.mpr ⟨(k, d), d2, rfl⟩⟩
/-- the two numbers of a couple's tuple -/
def kfOf (H : Hp) : V → Int × Int
  | .ref a => (match H a with | some (.tup [.int i, .int j]) => (i, j) | _ => (0, 0))
  | _ => (0, 0)
def gOf (H : Hp) (x : V) : Nat × Nat := ((kfOf H x).1.toNat, (kfOf H x).2.toNat)
theorem kf_at {H : Hp} {a : Addr} {x y : Nat} (h : H a = some (.tup [.int (x : Nat), .int (y : Nat)])) : kfOf H (.ref a) = ((x : Int), (y : Int)) := by
  unfold kfOf
  simp only [h]
theorem g_at {H : Hp} {a : Addr} {e : Nat × Nat} (h : H a = some (.tup [.int (e.1 : Nat), .int (e.2 : Nat)])) : gOf H (.ref a) = e := by
  unfold gOf
  rw [kf_at h]
  rfl
theorem g_map {H : Hp} : ∀ {us : List Addr} {es : List (Nat × Nat)}, TAt H us (pairs es) → (us.map V.ref).map (gOf H) = es
  | [], [], _ => rfl
  | _ :: _, [], h => nomatch h
  | [], _ :: _, h => nomatch h
  | u :: us, e :: es, .cons h r => by
    show gOf H (.ref u) :: (us.map V.ref).map (gOf H) = _
    rw [g_at h, g_map r]
theorem g_mem {H : Hp} {us : List Addr} {es : List (Nat × Nat)} (t : TAt H us (pairs es)) : ∀ x ∈ us.map V.ref, ∃ (a : Addr) (e : Nat × Nat), x = V.ref a ∧ H a = some (.tup [.int (e.1 : Nat), .int (e.2 : Nat)]) := by
  intro x hx
  obtain ⟨a, ha, rfl⟩ := List.mem_map.mp hx
  obtain ⟨i, hi, e⟩ := List.mem_iff_getElem.mp ha
  obtain ⟨l, el, hl⟩ := t.get (i := i) (t := a) (by rw [List.getElem?_eq_getElem hi, e])
  unfold pairs at el
  rw [List.getElem?_map] at el
  obtain ⟨ab, eab, rfl⟩ := Option.map_eq_some_iff.mp el
  exact ⟨a, ab, rfl, hl⟩
theorem tat_of {H : Hp} : ∀ ys : List V, (∀ x ∈ ys, ∃ (a : Addr) (e : Nat × Nat), x = V.ref a ∧ H a = some (.tup [.int (e.1 : Nat), .int (e.2 : Nat)])) → ∃ ts, ys = ts.map V.ref ∧ TAt H ts (pairs (ys.map (gOf H)))
  | [], _ => ⟨[], rfl, .nil⟩
  | y :: ys, h => by
    obtain ⟨a, e, rfl, ha⟩ := h y List.mem_cons_self
    obtain ⟨ts, rfl, t⟩ := tat_of ys fun x hx => h x (List.mem_cons_of_mem _ hx)
    refine ⟨a :: ts, rfl, ?_⟩
    show TAt H (a :: ts) ([(gOf H (.ref a)).1, (gOf H (.ref a)).2] :: _)
    rw [g_at ha]
    exact .cons ha t
theorem sorted_of {H : Hp} : ∀ ys : List V, (∀ x ∈ ys, ∃ (a : Addr) (e : Nat × Nat), x = V.ref a ∧ H a = some (.tup [.int (e.1 : Nat), .int (e.2 : Nat)])) → SrtO.Srtd (ltP (kfOf H)) ys → (ys.map (gOf H)).Pairwise fun a b => a.1 < b.1 ∨ (a.1 = b.1 ∧ a.2 ≤ b.2) := by
  intro ys h s
  rw [List.pairwise_map]
  refine List.Pairwise.imp_of_mem (fun {x y} hx hy q => ?_) s
  obtain ⟨a, e, rfl, ha⟩ := h x hx
  obtain ⟨b, e', rfl, hb⟩ := h y hy
  rw [g_at ha, g_at hb]
  have q : SrtO.lexB (kfOf H (.ref b)) (kfOf H (.ref a)) = false := q
  rw [kf_at ha, kf_at hb] at q
  have z : ¬ ((e'.1 : Int) < e.1 ∨ ((e'.1 : Int) = e.1 ∧ (e'.2 : Int) < e.2)) := fun z => by
    rw [SrtO.lexB_iff.mpr z] at q
    cases q
  omega
theorem Stay.free {h c b : Addr} {H H' : Hp} (y : Stay h c H H') (n : H' b = none) : H b = none := by
  cases z : H b with
  | none => rfl
  | some o =>
    by_cases e : b = h
    · subst e
      obtain ⟨ns, i, x, t, h1, _, _⟩ := y.hand
      rw [h1] at n
      cases n
    · rw [y.but b o e z] at n
      cases n
theorem lots_some : ∀ n : Fin 6, 2 ≤ n.val → ((lotsTo (List.range n.val) n.val).filter fun l => decide (0 < l.length) && decide (l.length < n.val)).length ≠ 4 ∧ 0 < ((lotsTo (List.range n.val) n.val).filter fun l => decide (0 < l.length) && decide (l.length < n.val)).length ∧
    ((lotsTo (List.range n.val) n.val).filter fun l => decide (0 < l.length) && decide (l.length < n.val)).length ≤ 32 := by decide +kernel
/-- a drawn land: its number of cells, its couples, its roads -/
structure LandAt (H : Hp) (q : Addr) (n : Nat) (es : List (Nat × Nat)) (lot : List Nat) : Prop where
  at_ : ∃ rA sA ts, H q = some (.tup [.int (n : Nat), .ref rA, .ref sA]) ∧ H rA = some (.lst (ts.map V.ref)) ∧ TAt H ts (pairs es) ∧ H sA = some (.lst (ints_ lot))
  ok : LandOk n es
  lot : lot ∈ lotsTo (List.range n) n ∧ 0 < lot.length ∧ lot.length < n
def spLand : Sp := fun vs H Q _ => ∃ (h c : Addr) (n : Nat), vs = [.ref h, .int (n : Nat)] ∧ Hand H h c ∧ 2 ≤ n ∧ n ≤ 5 ∧ ∀ H' q es lot, Stay h c H H' → H q = none → LandAt H' q n es lot → Q (.ref q) H'
theorem ok_land {f fdr fpk flo : Addr} {fd fddr fdpk fdlo : FuncData} (F : Fun K "_law_land" "_law_land" s__law_land f fd)
    (Gdr : FnOk P w K mg base CX0 2 fdr fddr ["_law_hand_here", "_law_many"] spDraw) (gdr : mg "_law_draw" = some (.ref fdr)) (kdr : PySem.W.keepIn K (.ref fdr) = true) (bdr : Binds K fddr ["_law_hand_here", "_law_many"] [])
    (Gpk : FnOk P w K mg base CX0 3 fpk fdpk ["_law_hand_here", "_law_things"] spPick) (gpk : mg "_law_pick" = some (.ref fpk)) (kpk : PySem.W.keepIn K (.ref fpk) = true) (bpk : Binds K fdpk ["_law_hand_here", "_law_things"] [])
    (Glo : FnOk P w K mg base CX0 1 flo fdlo ["_law_cells"] spLots) (glo : mg "_law_lots" = some (.ref flo)) (klo : PySem.W.keepIn K (.ref flo) = true) (blo : Binds K fdlo ["_law_cells"] [])
    (m_range : mg "range" = none) (m_len : mg "len" = none) (m_list : mg "list" = none) (m_min : mg "min" = none) (m_max : mg "max" = none) (m_sorted : mg "sorted" = none) :
    FnOk P w K mg base CX0 4 f fd ["_law_hand_here", "_law_n"] spLand := by
  refine F.ok sc__law_land (fun vs H Q E h => ?_) (fun cdv A outer s H vs Q E hr h => ?_)
  · obtain ⟨h, c, n, rfl, _⟩ := h
    rfl
  · obtain ⟨h, c, n, rfl, hh, n2, n5, q⟩ := h
    refine ⟨_, (pss_cons (ps_set (i := 2) sc__law_land.nd rfl (by first | exact Or.inl rfl | exact Or.inr rfl) (pe_lst pa_nil))
 (pss_cons (ps_set (i := 3) sc__law_land.nd rfl (by first | exact Or.inl rfl | exact Or.inr rfl) (pe_callTy (K7E.cr_list_rng rfl) (by rfl) m_list boot_list (pa_cons (pe_callTy K7E.cr_range1 (by rfl) m_range boot_range (pa_cons (pv 1) pa_nil)) pa_nil)))
 (Evl.pss_cut (ps_for PassesOwn.never rfl (pi_range1 rfl m_range (pa_cons (pv 1) pa_nil)) (pg_name (i := 4) sc__law_land.nd rfl (by first | exact Or.inl rfl | exact Or.inr rfl))
  (pss_one (ps_expr (pe_bm PySem.F.plainAttrs_list PySem.F.slot_list_append PySem.F.type_list_append mt_append (pv 2) (pa_cons (pe_bm PySem.F.plainAttrs_list PySem.F.slot_list_pop PySem.F.type_list_pop mt_popAt (pv 3) (pa_cons (pe_call Gdr (hr.mono (by decide)) (by rfl) gdr kdr bdr .nil pass0 (pa_cons (pv 0) (pa_cons (pe_callB call_len_seq (by rfl) m_len boot_len (pa_cons (pv 3) pa_nil)) pa_nil))) pa_nil)) pa_nil)))))
 (pss_cons (ps_set (i := 5) sc__law_land.nd rfl (by first | exact Or.inl rfl | exact Or.inr rfl) (pe_lst pa_nil))
 (Evl.pss_cut (ps_for PassesOwn.never rfl (pi_range2 rfl m_range (pa_cons pe_int (pa_cons (pv 1) pa_nil))) (pg_name (i := 4) sc__law_land.nd rfl (by first | exact Or.inl rfl | exact Or.inr rfl))
  (pss_one (ps_expr (pe_bm PySem.F.plainAttrs_list PySem.F.slot_list_append PySem.F.type_list_append mt_append (pv 5) (pa_cons (pe_tup (pa_cons (pv 4) (pa_cons (pe_call Gdr (hr.mono (by decide)) (by rfl) gdr kdr bdr .nil pass0 (pa_cons (pv 0) (pa_cons (pv 4) pa_nil))) pa_nil))) pa_nil)))))
 (Evl.pss_cut (ps_for PassesOwn.never rfl (pi_range2 rfl m_range (pa_cons pe_int (pa_cons (pv 1) pa_nil))) (pg_name (i := 6) sc__law_land.nd rfl (by first | exact Or.inl rfl | exact Or.inr rfl))
  (pss_one (ps_for PassesOwn.never rfl (pi_range1 rfl m_range (pa_cons (pv 6) pa_nil)) (pg_name (i := 7) sc__law_land.nd rfl (by first | exact Or.inl rfl | exact Or.inr rfl))
  (pss_one (ps_if (pw_and (pt_cmpR (op_notInD (K7L.hu65 hr)) (pe_tup (pa_cons (pv 6) (pa_cons (pv 7) pa_nil))) (pv 5) (by with_unfolding_all rfl)) (pw_and1 (pt_cmpR op_eq (pe_call Gdr (hr.mono (by decide)) (by rfl) gdr kdr bdr .nil pass0 (pa_cons (pv 0) (pa_cons pe_int pa_nil))) pe_int (nomark _)))).pt
  (pss_one (ps_expr (pe_bm PySem.F.plainAttrs_list PySem.F.slot_list_append PySem.F.type_list_append mt_append (pv 5) (pa_cons (pe_tup (pa_cons (pv 6) (pa_cons (pv 7) pa_nil))) pa_nil))))
  pss_nil)))))
 (pss_cons (ps_setLc (i := 8) (own := [("_law_a", 9), ("_law_b", 10)]) (g := gTup K 2 (gCons (gName 9) (gCons (gName 10) (gNil)))) (tt := tYes) rfl sc__law_land.nd rfl rfl (sw_true rfl rfl rfl (by decide +kernel)) (pi_list (pv 5)) (blkOk_by (own := [("_law_a", 9), ("_law_b", 10)]) (N := N__law_land) (sc := defScope s__law_land) (by decide +kernel)) (fun _ _ _ _ _ => (pg_tup rfl (pgs_cons (pg_name (i := 9) sc__law_land.nd rfl (by first | exact Or.inl rfl | exact Or.inr rfl)) (pgs_cons (pg_name (i := 10) sc__law_land.nd rfl (by first | exact Or.inl rfl | exact Or.inr rfl)) pgs_nil)))) (fun _ _ _ _ _ => pts_nil) (fun _ _ _ _ _ => (pe_tup (pa_cons (pe_callB (call_min2 rfl) (by rfl) m_min boot_min (pa_cons (pe_ix (show IxR _ (rIxL K) from ix_list) (pv 2) (pv 9) (fun _ _ => rfl)) (pa_cons (pe_ix (show IxR _ (rIxL K) from ix_list) (pv 2) (pv 10) (fun _ _ => rfl)) pa_nil))) (pa_cons (pe_callB (call_max2 rfl) (by rfl) m_max boot_max (pa_cons (pe_ix (show IxR _ (rIxL K) from ix_list) (pv 2) (pv 9) (fun _ _ => rfl)) (pa_cons (pe_ix (show IxR _ (rIxL K) from ix_list) (pv 2) (pv 10) (fun _ _ => rfl)) pa_nil))) pa_nil)))))
 (pss_cons (ps_setLc (i := 11) (own := [("_law_lot", 12)]) (g := gName 12) rfl sc__law_land.nd rfl rfl (sw_true rfl rfl rfl (by decide +kernel)) (pi_list (pe_call Glo (hr.mono (by decide)) (by rfl) glo klo blo .nil pass0 (pa_cons (pe_callTy (K7E.cr_list_rng rfl) (by rfl) m_list boot_list (pa_cons (pe_callTy K7E.cr_range1 (by rfl) m_range boot_range (pa_cons (pv 1) pa_nil)) pa_nil)) pa_nil))) (blkOk_by (own := [("_law_lot", 12)]) (N := N__law_land) (sc := defScope s__law_land) (by decide +kernel)) (fun _ _ _ _ _ => (pg_name (i := 12) sc__law_land.nd rfl (by first | exact Or.inl rfl | exact Or.inr rfl))) (fun _ _ _ _ _ => (pts_one (pt_chain op_lt op_lt pe_int (pe_callB (show CallR _ (.builtin "len") (rLen_ K) from call_len_seq) (by rfl) m_len boot_len (pa_cons (pv 12) pa_nil)) (pv 1)))) (fun _ _ _ _ _ => (pv 12)))
 (pss_one (ps_ret (pe_tup (pa_cons (pv 1) (pa_cons (pe_callB cr_sortedPO (by rfl) m_sorted boot_sorted (pa_cons (pv 8) pa_nil)) (pa_cons (pe_callTy call_list_of (by rfl) m_list boot_list (pa_cons (pe_call Gpk (hr.mono (by decide)) (by rfl) gpk kpk bpk .nil pass0 (pa_cons (pv 0) (pa_cons (pv 11) pa_nil))) pa_nil)) pa_nil)))))))))))))), ?_⟩
    have l10 : ∀ {xs : List Nat} {k : Nat}, xs.length ≤ k → k ≤ 1000 → (ints_ xs).length < sizeLine := fun {xs k} h1 h2 => by
      unfold ints_; rw [List.length_map]; exact small1000 (Nat.le_trans h1 h2)
    refine ⟨by show 0 ≤ sizeLine; decide, fun N0 nN => ?_⟩
    refine ⟨_, rfl, _, rfl, fun rg nrg => ?_⟩
    refine ⟨rg, n, rfl, upd_same, by omega, fun Lf nLf => ?_⟩
    have e1 : Same H (upd H N0 (.lst [])) := same_new (Same.refl H) nN
    have e2 : Same H (upd (upd H N0 (.lst [])) rg (.rng 0 n)) := same_new e1 nrg
    have e3 : Same H (upd (upd (upd H N0 (.lst [])) rg (.rng 0 n)) Lf (.lst (K7E.upTo n))) := same_new e2 nLf
    have hN3 : upd (upd (upd H N0 (.lst [])) rg (.rng 0 n)) Lf (.lst (K7E.upTo n)) N0 = some (.lst []) := same_new (Same.refl _) nLf _ _ (same_new (Same.refl _) nrg _ _ upd_same)
    have hL3 : upd (upd (upd H N0 (.lst [])) rg (.rng 0 n)) Lf (.lst (K7E.upTo n)) Lf = some (.lst (ints_ (List.range n))) := upd_same
    have fN : H N0 = none := nN
    have fL : H Lf = none := e2.free nLf
    have nNL : N0 ≠ Lf := ne_of_none (same_new (o := .rng 0 n) (Same.refl _) nrg _ _ upd_same) nLf
    obtain ⟨hNh, hNc⟩ := hh.ne fN
    obtain ⟨hLh, hLc⟩ := hh.ne fL
    generalize upd (upd (upd H N0 (.lst [])) rg (.rng 0 n)) Lf (.lst (K7E.upTo n)) = H3 at e3 hN3 hL3 ⊢
    refine ⟨fun σ' H' => ∃ nm y4, σ' = [some (.ref h), some (.int (n : Nat)), some (.ref N0), some (.ref Lf), y4, none, none, none, none, none, none, none, none] ∧ Stay h c H H' ∧ H' N0 = some (.lst (ints_ nm)) ∧ nm.Perm (List.range n), ?_, ?_⟩
    · refine ⟨_, rfl, _, rfl, by omega, by omega, for_range (fun k σ' H' => k ≤ n ∧ ∃ nm lf y4, σ' = [some (.ref h), some (.int (n : Nat)), some (.ref N0), some (.ref Lf), y4, none, none, none, none, none, none, none, none] ∧ Stay h c H H' ∧ H' N0 = some (.lst (ints_ nm)) ∧ H' Lf = some (.lst (ints_ lf)) ∧ (nm ++ lf).Perm (List.range n) ∧ nm.length = k)
        ⟨Nat.zero_le _, [], List.range n, none, rfl, .of_same hh e3, hN3, hL3, List.Perm.refl _, rfl⟩ (fun k σ' H' hk pv => ?_) (fun σ' H' pv => ?_)⟩
      · obtain ⟨_, nm, lf, y4, rfl, st, hN, hL, hp, hl⟩ := pv
        have hk : k < n := by simpa using hk
        have hll : lf.length = n - k := by
          have := hp.length_eq
          rw [List.length_append, List.length_range] at this
          omega
        have hil : (ints_ lf).length = lf.length := by unfold ints_; rw [List.length_map]
        refine ⟨_, rfl, .inl ⟨rfl, _, .inl (.inl hN)⟩, _, rfl, .inl ⟨rfl, _, .inl (.inl hL)⟩, _, rfl, _, rfl, Lf, _, rfl, .inl (.inl (.inl hL)), h, c, _, rfl, st.hand, by omega, ?_, fun H4 x d x0 x1 => ?_⟩
        · exact Int.lt_of_le_of_lt (show (((ints_ lf).length : Nat) : Int) ≤ 1000 by omega) (by decide)
        obtain ⟨j, rfl⟩ : ∃ j : Nat, x = (j : Int) := ⟨x.toNat, by omega⟩
        have hj : j < lf.length := by omega
        have hN4 : H4 N0 = some (.lst (ints_ nm)) := by rw [d.but N0 hNh]; exact hN
        have hL4 : H4 Lf = some (.lst (ints_ lf)) := by rw [d.but Lf hLh]; exact hL
        refine ⟨Lf, _, _, j, .int (lf[j] : Nat), rfl, rfl, hL4, by omega, by omega, (ixN_seq (ixN_nat (by omega))).1, ?_, ?_⟩
        · unfold ints_
          rw [List.getElem?_map, List.getElem?_eq_getElem hj]
          rfl
        have hN5 : upd H4 Lf (.lst ((ints_ lf).eraseIdx j)) N0 = some (.lst (ints_ nm)) := by rw [upd_ne nNL]; exact hN4
        refine ⟨N0, _, _, rfl, rfl, hN5, l10 (Nat.le_of_eq hl) (by omega), ?_⟩
        refine ⟨by omega, nm ++ [lf[j]], lf.eraseIdx j, _, rfl, ⟨fun b o nb hb => ?_, hh, ((d.hand.upd hLh hLc).upd hNh hNc)⟩, ?_, ?_, (KL.pop_perm hj).trans hp, by rw [List.length_append, hl]; rfl⟩
        · rw [upd_ne (ne_of_none hb fN), upd_ne (ne_of_none hb fL), d.but b nb]
          exact st.but b o nb hb
        · rw [upd_same]
          unfold ints_
          rw [List.map_append]
          rfl
        · rw [upd_ne nNL.symm, upd_same]
          unfold ints_
          rw [map_erase]
      · obtain ⟨_, nm, lf, y4, rfl, st, hN, hL, hp, hl⟩ := pv
        have hl : nm.length = n := by simpa using hl
        have l0 : lf = [] := by
          have := hp.length_eq
          rw [List.length_append, List.length_range] at this
          exact List.length_eq_zero_iff.mp (by omega)
        subst l0
        rw [List.append_nil] at hp
        exact ⟨nm, y4, rfl, st, hN, hp⟩
    rintro _ H4 ⟨nm, y4, rfl, st4, hN, hp⟩
    -- the tree
    refine ⟨by show 0 ≤ sizeLine; decide, fun C0 nC => ?_⟩
    have hC5 : upd H4 C0 (.lst []) C0 = some (.lst []) := upd_same
    have hN5 : upd H4 C0 (.lst []) N0 = some (.lst (ints_ nm)) := by rw [upd_ne (ne_of_none hN nC)]; exact hN
    obtain ⟨hCh, hCc⟩ := st4.hand.ne nC
    have st5 := st4.same (same_new (o := .lst []) (Same.refl H4) nC)
    have fC : H C0 = none := by
      cases z : H C0 with
      | none => rfl
      | some o =>
        have h1 := st4.but C0 o hCh z
        rw [nC] at h1
        cases h1
    have nNC : N0 ≠ C0 := ne_of_none hN nC
    generalize upd H4 C0 (.lst []) = H5 at hC5 hN5 st5 ⊢
    refine ⟨fun σ' H' => ∃ ts cs y4, σ' = [some (.ref h), some (.int (n : Nat)), some (.ref N0), some (.ref Lf), y4, some (.ref C0), none, none, none, none, none, none, none] ∧ Stay h c H H' ∧ H' N0 = some (.lst (ints_ nm)) ∧ H' C0 = some (.lst (ts.map V.ref)) ∧ TAt H' ts (pairs cs) ∧ Tree n n cs ∧ cs.length ≤ 10, ?_, ?_⟩
    · refine ⟨_, rfl, 1, _, rfl, ⟨by decide, by decide, by omega, by omega⟩, for_range (lo := 1) (fun k σ' H' => k + 1 ≤ n ∧ ∃ ts cs y4, σ' = [some (.ref h), some (.int (n : Nat)), some (.ref N0), some (.ref Lf), y4, some (.ref C0), none, none, none, none, none, none, none] ∧ Stay h c H H' ∧ H' N0 = some (.lst (ints_ nm)) ∧ H' C0 = some (.lst (ts.map V.ref)) ∧ TAt H' ts (pairs cs) ∧ Tree n (k + 1) cs ∧ cs.length = k)
        ⟨by omega, [], [], y4, rfl, st5, hN5, hC5, .nil, Tree.nil n, rfl⟩ (fun k σ' H' hk pv => ?_) (fun σ' H' pv => ?_)⟩
      · obtain ⟨_, ts, cs, y4, rfl, st, hN, hC, tC, tr, hl⟩ := pv
        have hk : k + 1 < n := by omega
        refine ⟨_, rfl, .inl ⟨rfl, _, .inl (.inl hC)⟩, _, rfl, _, rfl, _, rfl, h, c, _, rfl, st.hand, by omega, ?_, fun H6 x d x0 x1 => ?_⟩
        · exact Int.lt_of_le_of_lt (show (1 : Int) + (k : Nat) ≤ 1000 by omega) (by decide)
        obtain ⟨j, rfl⟩ : ∃ j : Nat, x = (j : Int) := ⟨x.toNat, by omega⟩
        have hj : j < k + 1 := by omega
        refine ⟨by show 2 ≤ sizeLine; decide, fun t nt => ?_⟩
        have y6 := (Stay.of_drawn st.hand d).same (same_new (o := .tup [.int (1 + (k : Nat)), .int (j : Nat)]) (Same.refl H6) nt)
        have hC6 := y6.but C0 _ hCh hC
        have hN6 := y6.but N0 _ hNh hN
        have ltx : ts.length = k := by rw [tC.len]; unfold pairs; rw [List.length_map, hl]
        refine ⟨C0, _, _, rfl, rfl, hC6, by rw [List.length_map, ltx]; exact small1000 (by omega), ?_⟩
        have up : ∀ b xs, upd H6 t (.tup [.int (1 + (k : Nat)), .int (j : Nat)]) b = some (.tup xs) → upd (upd H6 t (.tup [.int (1 + (k : Nat)), .int (j : Nat)])) C0 (.lst (ts.map V.ref ++ [.ref t])) b = some (.tup xs) := fun b xs hb => by
          rw [upd_ne (fun z => by rw [z, hC6] at hb; cases hb)]
          exact hb
        have tC6 : TAt (upd H6 t (.tup [.int (1 + (k : Nat)), .int (j : Nat)])) ts (pairs cs) := tC.mono fun b xs hb => y6.but b _ (st.hand.net hb) hb
        refine ⟨by omega, ts ++ [t], cs ++ [(k + 1, j)], _, rfl, ⟨fun b o nb hb => ?_, hh, y6.hand.upd hCh hCc⟩, ?_, ?_, ?_, tr.add hk hj, by rw [List.length_append, hl]; rfl⟩
        · rw [upd_ne (ne_of_none hb fC)]
          exact y6.but b o nb (st.but b o nb hb)
        · rw [upd_ne nNC]; exact hN6
        · rw [upd_same, List.map_append]; rfl
        · unfold pairs
          rw [List.map_append]
          refine (tC6.mono up).append (.cons (up _ _ ?_) .nil)
          rw [upd_same, show (1 : Int) + (k : Nat) = ((k + 1 : Nat) : Int) by omega]
          rfl
      · obtain ⟨hk, ts, cs, y4, rfl, st, hN, hC, tC, tr, hl⟩ := pv
        refine ⟨ts, cs, y4, rfl, st, hN, hC, tC, ?_, by omega⟩
        have e : ((n : Int) - 1).toNat + 1 = n := by omega
        rw [e] at tr
        exact tr
    rintro _ H6 ⟨ts, cs, y4, rfl, st6, hN6, hC6, tC6, tr6, ln6⟩
    -- more couples
    refine ⟨fun σ' H' => ∃ ts cs y6 y7, σ' = [some (.ref h), some (.int (n : Nat)), some (.ref N0), some (.ref Lf), y4, some (.ref C0), y6, y7, none, none, none, none, none] ∧ Stay h c H H' ∧ H' N0 = some (.lst (ints_ nm)) ∧ H' C0 = some (.lst (ts.map V.ref)) ∧ TAt H' ts (pairs cs) ∧ Tree n n cs ∧ cs.length ≤ 60, ?_, ?_⟩
    · refine ⟨_, rfl, 2, _, rfl, ⟨by decide, by decide, by omega, by omega⟩, for_range (lo := 2) (fun k σ' H' => k ≤ 5 ∧ ∃ ts cs y6 y7, σ' = [some (.ref h), some (.int (n : Nat)), some (.ref N0), some (.ref Lf), y4, some (.ref C0), y6, y7, none, none, none, none, none] ∧ Stay h c H H' ∧ H' N0 = some (.lst (ints_ nm)) ∧ H' C0 = some (.lst (ts.map V.ref)) ∧ TAt H' ts (pairs cs) ∧ Tree n n cs ∧ cs.length ≤ 10 + 10 * k)
        ⟨by omega, ts, cs, none, none, rfl, st6, hN6, hC6, tC6, tr6, ln6⟩ (fun k σ' H' hk pv => ?_) (fun σ' H' pv => ?_)⟩
      · obtain ⟨_, ts, cs, y6, y7, rfl, st, hN, hC, tC, tr, ln⟩ := pv
        have hk : 2 + k < n := by omega
        refine ⟨_, rfl, _, rfl, by omega, by omega, for_range (fun j σ' H' => ∃ ts cs y7, σ' = [some (.ref h), some (.int (n : Nat)), some (.ref N0), some (.ref Lf), y4, some (.ref C0), some (.int (2 + (k : Nat))), y7, none, none, none, none, none] ∧ Stay h c H H' ∧ H' N0 = some (.lst (ints_ nm)) ∧ H' C0 = some (.lst (ts.map V.ref)) ∧ TAt H' ts (pairs cs) ∧ Tree n n cs ∧ cs.length ≤ 10 + 10 * k + j)
          ⟨ts, cs, y7, rfl, st, hN, hC, tC, tr, by omega⟩ (fun j σ' H' hj pv => ?_) (fun σ' H' pv => ?_)⟩
        · obtain ⟨ts, cs, y7, rfl, st, hN, hC, tC, tr, ln⟩ := pv
          have hj : j < 2 + k := by omega
          have ltx : ts.length = cs.length := by rw [tC.len]; unfold pairs; rw [List.length_map]
          refine ⟨_, rfl, _, rfl, by show 2 ≤ sizeLine; decide, fun t nt => ?_⟩
          have sT := same_new (o := .tup [.int (2 + (k : Nat)), .int (0 + (j : Nat))]) (Same.refl H') nt
          have stT := st.same sT
          refine ⟨_, rfl, intD [2 + k, j], _, .tup (xs := [.int (2 + (k : Nat)), .int (0 + (j : Nat))]) (.inl (.inl upd_same)) (dp_pair k j), .lst (.inl (.inl (sT _ _ hC))) (dp_rows (tC.same sT)), shaped_ints _, shaped_rows _, ?_⟩
          rw [any_rows]
          refine ⟨_, rfl, ite2 (fun q1 => ?_) (fun q1 => ?_)⟩
          · have hnm : (2 + k, j) ∉ cs := by
              intro z
              rw [decide_eq_true z] at q1
              cases q1
            refine ⟨_, rfl, h, c, _, rfl, stT.hand, by decide, by decide, fun H7 x d x0 x1 => ?_⟩
            have st7 := stT.drawn d
            have hC7 : H7 C0 = some (.lst (ts.map V.ref)) := by rw [d.but C0 hCh]; exact sT _ _ hC
            have hN7 : H7 N0 = some (.lst (ints_ nm)) := by rw [d.but N0 hNh]; exact sT _ _ hN
            have tC7 : TAt H7 ts (pairs cs) := (tC.same sT).mono fun b xs hb => by rw [d.but b (stT.hand.net hb)]; exact hb
            refine ⟨rfl, _, rfl, ite2 (fun q2 => ?_) (fun q2 => ?_)⟩
            · refine ⟨_, rfl, .inl ⟨rfl, _, .inl (.inl hC7)⟩, _, rfl, _, rfl, by show 2 ≤ sizeLine; decide, fun t2 nt2 => ?_⟩
              have sU := same_new (o := .tup [.int (2 + (k : Nat)), .int (0 + (j : Nat))]) (Same.refl H7) nt2
              refine ⟨C0, _, _, rfl, rfl, sU _ _ hC7, by rw [List.length_map, ltx]; exact small1000 (by omega), ?_⟩
              have up : ∀ b xs, upd H7 t2 (.tup [.int (2 + (k : Nat)), .int (0 + (j : Nat))]) b = some (.tup xs) → upd (upd H7 t2 (.tup [.int (2 + (k : Nat)), .int (0 + (j : Nat))])) C0 (.lst (ts.map V.ref ++ [.ref t2])) b = some (.tup xs) := fun b xs hb => by
                rw [upd_ne (fun z => by rw [z, sU _ _ hC7] at hb; cases hb)]
                exact hb
              refine ⟨ts ++ [t2], cs ++ [(2 + k, j)], _, rfl, ⟨fun b o nb hb => ?_, hh, (st7.same sU).hand.upd hCh hCc⟩, ?_, ?_, ?_, tr.more hj hk hnm, by rw [List.length_append, List.length_singleton]; omega⟩
              · rw [upd_ne (ne_of_none hb fC)]
                exact (st7.same sU).but b o nb hb
              · rw [upd_ne nNC]; exact sU _ _ hN7
              · rw [upd_same, List.map_append]; rfl
              · unfold pairs
                rw [List.map_append]
                refine ((tC7.same sU).mono up).append (.cons (up _ _ ?_) .nil)
                rw [upd_same, show (2 : Int) + (k : Nat) = ((2 + k : Nat) : Int) by omega, Int.zero_add]
                rfl
            · exact ⟨ts, cs, _, rfl, st7, hN7, hC7, tC7, tr, by omega⟩
          · exact ⟨ts, cs, _, rfl, stT, sT _ _ hN, sT _ _ hC, tC.same sT, tr, by omega⟩
        · obtain ⟨ts, cs, y7, rfl, st, hN, hC, tC, tr, ln⟩ := pv
          exact ⟨by omega, ts, cs, _, _, rfl, st, hN, hC, tC, tr, by omega⟩
      · obtain ⟨hk, ts, cs, y6, y7, rfl, st, hN, hC, tC, tr, ln⟩ := pv
        exact ⟨ts, cs, y6, y7, rfl, st, hN, hC, tC, tr, by omega⟩
    rintro _ H8 ⟨ts, cs, y6, y7, rfl, st8, hN8, hC8, tC8, tr8, ln8⟩
    -- under their names
    have nml : nm.length = n := by rw [hp.length_eq, List.length_range]
    have ltx : ts.length = cs.length := by rw [tC8.len]; unfold pairs; rw [List.length_map]
    refine ⟨_, rfl, C0, rfl, ⟨_, .inl (.inl hC8)⟩, fun D hD => lc_list (xs := ts.map V.ref) (fun j H2 => Same H8 H2 ∧ ∃ us, H2 D = some (.lst (us.map V.ref)) ∧ TAt H2 us (pairs ((cs.take j).map fun e => KL.couple nm e.1 e.2)) ∧ us.length ≤ j) ⟨same_new (Same.refl H8) hD, [], upd_same, .nil, Nat.le_refl _⟩ (fun j H2 _ pv => .inl (.inl (pv.1 _ _ hC8))) (fun j x H2 hx pv => ?_) (fun H9 pv => ?_)⟩
    · obtain ⟨e, us, hD2, tD, lu⟩ := pv
      rw [List.getElem?_map] at hx
      obtain ⟨t, ht, rfl⟩ := Option.map_eq_some_iff.mp hx
      obtain ⟨l, el, hl⟩ := tC8.get ht
      unfold pairs at el
      rw [List.getElem?_map] at el
      obtain ⟨ab, eab, rfl⟩ := Option.map_eq_some_iff.mp el
      obtain ⟨a, b'⟩ := ab
      obtain ⟨t1, t2, t3⟩ := tr8.lt _ (List.mem_of_getElem? eab)
      have t1 : b' < a := t1
      have t3 : a < n := t3
      have jl : j < 60 := by
        have := (List.getElem?_eq_some_iff.mp eab).1
        omega
      have at_ : ∀ x, x < n → atI (ints_ nm) ((x : Nat) : Int) = some (.int (nm.getD x 0 : Nat)) := fun x hx' => by
        refine atI_nat ?_
        unfold ints_
        rw [List.getElem?_map, List.getElem?_eq_getElem (by omega), List.getD_eq_getElem?_getD, List.getElem?_eq_getElem (by omega)]
        rfl
      have hN9 := e _ _ hN8
      refine ⟨t, [.int (a : Nat), .int (b' : Nat)], rfl, .inl (.inl (e _ _ hl)), rfl, _, _, rfl, _, _, rfl, rfl, rfl, ?_⟩
      refine ⟨_, rfl, _, rfl, N0, _, _, _, rfl, rfl, .inl (.inl hN9), at_ a t3, _, rfl, _, rfl, N0, _, _, _, rfl, rfl, .inl (.inl hN9), at_ b' (by omega), _, _, rfl, ?_⟩
      refine ⟨_, rfl, _, rfl, N0, _, _, _, rfl, rfl, .inl (.inl hN9), at_ a t3, _, rfl, _, rfl, N0, _, _, _, rfl, rfl, .inl (.inl hN9), at_ b' (by omega), _, _, rfl, ?_⟩
      refine ⟨by show 2 ≤ sizeLine; decide, fun u nu => ?_⟩
      have nDu : D ≠ u := ne_of_none hD2 nu
      refine ⟨_, by rw [upd_ne nDu]; exact hD2, by rw [List.length_map]; exact small1000 (by omega), fun b o hb => ?_, us ++ [u], by rw [upd_same, List.map_append]; rfl, ?_, by rw [List.length_append, List.length_singleton]; omega⟩
      · have h1 := e _ _ hb
        rw [upd_ne (ne_of_none hb hD), upd_ne (ne_of_none h1 nu)]
        exact h1
      · rw [List.take_add_one, eab, List.map_append]
        unfold pairs at tD ⊢
        rw [List.map_append]
        refine (tD.mono fun b xs hb => ?_).append (.cons ?_ .nil)
        · rw [upd_ne (fun z => by rw [z, hD2] at hb; cases hb), upd_ne (ne_of_none hb nu)]
          exact hb
        · have m1 : ∀ x y : Nat, (if (y : Int) < (x : Int) then (y : Int) else (x : Int)) = ((min x y : Nat) : Int) := fun x y => by split <;> omega
          have m2 : ∀ x y : Nat, (if (y : Int) > (x : Int) then (y : Int) else (x : Int)) = ((max x y : Nat) : Int) := fun x y => by split <;> omega
          rw [upd_ne nDu.symm, upd_same, m1, m2]
          rfl
    obtain ⟨e9, us, hD9, tD9, lu9⟩ := pv
    rw [List.length_map, ltx, List.take_length] at tD9
    rw [List.length_map, ltx] at lu9
    have st9 := st8.same e9
    -- the lots
    refine ⟨_, rfl, _, rfl, fun rg nrg => ?_⟩
    refine ⟨rg, n, rfl, upd_same, by omega, fun l0 nl0 => ?_⟩
    have s10 : Same H9 (upd (upd H9 rg (.rng 0 n)) l0 (.lst (K7E.upTo n))) := same_new (same_new (Same.refl H9) nrg) nl0
    refine ⟨l0, n, rfl, n5, upd_same, fun H11 lo ls e11 nlo hlo tlo => ?_⟩
    have e11 := s10.trans e11
    refine ⟨lo, rfl, ⟨_, .inl (.inl hlo)⟩, fun D2 hD2 => lc_list (xs := ls.map V.ref) (fun j H2 => Same H11 H2 ∧ ∃ us, H2 D2 = some (.lst (us.map V.ref)) ∧ TAt H2 us (((lotsTo (List.range n) n).take j).filter fun l => decide (0 < l.length) && decide (l.length < n)) ∧ us.length ≤ j) ⟨same_new (Same.refl H11) hD2, [], upd_same, .nil, Nat.le_refl _⟩ (fun j H2 _ pv => .inl (.inl (pv.1 _ _ hlo))) (fun j x H2 hx pv => ?_) (fun H12 pv => ?_)⟩
    · obtain ⟨e, us, hD3, tD, lu⟩ := pv
      rw [List.getElem?_map] at hx
      obtain ⟨t, ht, rfl⟩ := Option.map_eq_some_iff.mp hx
      obtain ⟨l, el, hl⟩ := tlo.get ht
      have jl : j < 32 := by
        have h1 := (List.getElem?_eq_some_iff.mp el).1
        have h2 : (lotsTo (List.range n) n).length ≤ 32 := (level_len ⟨n, by omega⟩ ⟨n, by omega⟩).2
        omega
      have hll : (l.map fun c => V.int (c : Nat)).length = l.length := List.length_map ..
      have hl2 := e _ _ hl
      have f1 : ((lotsTo (List.range n) n).take (j + 1)).filter (fun l => decide (0 < l.length) && decide (l.length < n)) = ((lotsTo (List.range n) n).take j).filter (fun l => decide (0 < l.length) && decide (l.length < n)) ++ (if (decide (0 < l.length) && decide (l.length < n)) = true then [l] else []) := by
        rw [List.take_add_one, el, List.filter_append]
        congr 1
        show List.filter _ [l] = _
        rw [List.filter_cons]
        rfl
      refine ⟨rfl, _, rfl, t, _, rfl, .inr (.inl (.inl hl2)), _, _, rfl, rfl, _, rfl, ite2 (fun q1 => ?_) (fun q1 => ?_)⟩
      · have q1' : 0 < l.length := by
          have z : (0 : Int) < (((l.map fun c => V.int (c : Nat)).length : Nat) : Int) := of_decide_eq_true q1
          omega
        refine ⟨_, rfl, _, _, rfl, rfl, _, rfl, ite2 (fun q2 => ?_) (fun q2 => ?_)⟩
        · have q2' : l.length < n := by
            have z : (((l.map fun c => V.int (c : Nat)).length : Nat) : Int) < (n : Nat) := of_decide_eq_true q2
            omega
          refine ⟨_, rfl, _, hD3, by rw [List.length_map]; exact small1000 (by omega), fun b o hb => ?_, us ++ [t], by rw [upd_same, List.map_append]; rfl, ?_, by rw [List.length_append, List.length_singleton]; omega⟩
          · rw [upd_ne (ne_of_none hb hD2)]
            exact e _ _ hb
          · rw [f1, if_pos (by rw [decide_eq_true q1', decide_eq_true q2']; rfl)]
            have up : ∀ b xs, H2 b = some (.tup xs) → upd H2 D2 (.lst (us.map V.ref ++ [.ref t])) b = some (.tup xs) := fun b xs hb => by
              rw [upd_ne (fun z => by rw [z, hD3] at hb; cases hb)]
              exact hb
            exact (tD.mono up).append (.cons (up _ _ hl2) .nil)
        · have q2' : ¬ l.length < n := fun z => q2 (decide_eq_true (by omega))
          refine ⟨e, us, hD3, ?_, by omega⟩
          rw [f1, if_neg (by rw [decide_eq_false q2', Bool.and_false]; decide), List.append_nil]
          exact tD
      · have q1' : ¬ 0 < l.length := fun z => q1 (decide_eq_true (by omega))
        refine ⟨_, rfl, iteF ?_⟩
        refine ⟨e, us, hD3, ?_, by omega⟩
        rw [f1, if_neg (by rw [decide_eq_false q1', Bool.false_and]; decide), List.append_nil]
        exact tD
    obtain ⟨e12, vs, hD12, tD12, lv12⟩ := pv
    have e12 := e11.trans e12
    have lsl : ls.length = (lotsTo (List.range n) n).length := tlo.len
    rw [List.length_map, lsl, List.take_length] at tD12
    have st12 := st9.same e12
    have hR12 := e12 _ _ hD9
    have tR12 := tD9.same e12
    -- the land
    have okl : LandOk0 n (cs.map fun e => KL.couple nm e.1 e.2) := tree_land hp tr8
    refine ⟨_, rfl, _, rfl, D, _, kfOf H12, rfl, .inl (.inl hR12), fun x hx => ?_, fun ys p srt stb np => ?_⟩
    · obtain ⟨a, e, rfl, ha⟩ := g_mem tR12 x hx
      exact ⟨a, rfl, by rw [kf_at ha]; exact ha⟩
    have hys := fun x (hx : x ∈ ys) => g_mem tR12 x (stb.perm.mem_iff.mp hx)
    obtain ⟨ts', rfl, tY⟩ := tat_of ys hys
    have pe : ((ts'.map V.ref).map (gOf H12)).Perm (cs.map fun e => KL.couple nm e.1 e.2) := by
      rw [← g_map tR12]
      exact stb.perm.map _
    have ok : LandOk n ((ts'.map V.ref).map (gOf H12)) := ⟨fun e he => okl.lt e (pe.mem_iff.mp he), pe.nodup_iff.mpr okl.nd, sorted_of _ hys srt, fun S h0 hS => okl.conn S h0 fun e he => hS e (pe.mem_iff.mpr he)⟩
    have s13 := same_new (o := .lst (ts'.map V.ref)) (Same.refl H12) np
    obtain ⟨hph, _⟩ := st12.hand.ne np
    have st13 := st12.same s13
    have hp13 : upd H12 p (.lst (ts'.map V.ref)) p = some (.lst (ts'.map V.ref)) := upd_same
    have tY13 := tY.same s13
    have hD13 := s13 _ _ hD12
    have tD13 := tD12.same s13
    generalize (ts'.map V.ref).map (gOf H12) = es at ok tY13 pe tY
    generalize upd H12 p (.lst (ts'.map V.ref)) = H13 at s13 st13 hp13 tY13 hD13 tD13 ⊢
    obtain ⟨k4, k0, k32⟩ := lots_some ⟨n, by omega⟩ n2
    have hvl : vs.length = ((lotsTo (List.range n) n).filter fun l => decide (0 < l.length) && decide (l.length < n)).length := tD13.len
    have k4 : vs.length ≠ 4 := by rw [hvl]; exact k4
    have k0 : 0 < vs.length := by rw [hvl]; exact k0
    have k32 : vs.length ≤ 32 := by rw [hvl]; exact k32
    refine ⟨_, rfl, _, rfl, h, c, D2, _, rfl, st13.hand, st13.hand.nel hD13 (notHand_len _ (by rw [List.length_map]; exact k4)), hD13, by rw [List.length_map]; exact k0, by rw [List.length_map]; omega, fun H14 j v d ej => ?_⟩
    rw [List.getElem?_map] at ej
    obtain ⟨t, ht, rfl⟩ := Option.map_eq_some_iff.mp ej
    obtain ⟨lot, elot, hlot⟩ := tD13.get ht
    have st14 := st13.drawn d
    have keep : ∀ {b : Addr} {xs : List V}, H13 b = some (.tup xs) → H14 b = some (.tup xs) := fun {b xs} hb => by rw [d.but b (st13.hand.net hb)]; exact hb
    have hp14 : H14 p = some (.lst (ts'.map V.ref)) := by rw [d.but p hph]; exact hp13
    have tY14 := tY13.mono fun b xs hb => keep hb
    refine ⟨t, _, rfl, .inr (.inl (.inl (keep hlot))), fun sA nsA => ?_⟩
    refine ⟨by show 3 ≤ sizeLine; decide, fun q0 nq0 => ?_⟩
    have s15 := same_new (o := .lst (lot.map fun c => .int (c : Nat))) (Same.refl H14) nsA
    have s16 := same_new (o := .tup [.int (n : Nat), .ref p, .ref sA]) s15 nq0
    have nsq : sA ≠ q0 := ne_of_none (show upd H14 sA (.lst (lot.map fun c => .int (c : Nat))) sA = some (.lst (lot.map fun c => .int (c : Nat))) from upd_same) nq0
    have hmem := List.mem_filter.mp (List.mem_of_getElem? elot)
    obtain ⟨hm1, hm2⟩ := hmem
    have hm2 := Bool.and_eq_true_iff.mp hm2
    exact q _ q0 es lot (st14.same s16) ((st14.same s15).free nq0) ⟨⟨p, sA, ts', upd_same, s16 _ _ hp14, tY14.same s16, by rw [upd_ne nsq, upd_same]; rfl⟩, ok, hm1, of_decide_eq_true hm2.1, of_decide_eq_true hm2.2⟩
end
end K7
end
/-! ## P4 -/
section
open PySem PySem.Spec PyProof.Rows L2
namespace K7
abbrev N_is_whole : List Str := ["thing", "low", "high"]
abbrev s_is_whole : Stmt := topS 9
theorem sc_is_whole : FnScope ["thing", "low", "high"] ["thing", "low", "high"] (defScope s_is_whole) := ⟨rfl, rfl, rfl, by decide +kernel, rfl, by decide +kernel, by decide +kernel⟩
abbrev N_is_sequence : List Str := ["thing"]
abbrev s_is_sequence : Stmt := topS 8
theorem sc_is_sequence : FnScope ["thing"] ["thing"] (defScope s_is_sequence) := ⟨rfl, rfl, rfl, by decide +kernel, rfl, by decide +kernel, by decide +kernel⟩
section
variable {P : Program} {w : World} {K : PySem.W.Frag} {mg : Str → Option Value} {base : Heap}
/-! is_whole -/
def wholeV (x : V) (lo hi : Int) : Bool := match x with
  | .int i => decide (lo ≤ i) && decide (i ≤ hi)
  | _ => false
theorem wholeV_int (i lo hi : Int) : wholeV (.int i) lo hi = (decide (lo ≤ i) && decide (i ≤ hi)) := rfl
inductive Flat4 : V → Prop where
  | non : Flat4 .non
  | bl (b : Bool) : Flat4 (.bl b)
  | int (i : Int) : Flat4 (.int i)
  | str (z : Str) : Flat4 (.str z)
/-- what a row of the law holds -/
inductive Thing (H : Hp) : V → Prop where
  | flat {x : V} (h : Flat4 x) : Thing H x
  | tup {a : Addr} {xs : List V} (h : H a = some (.tup xs)) : Thing H (.ref a)
  | lst {a : Addr} {xs : List V} (h : H a = some (.lst xs)) : Thing H (.ref a)
theorem Thing.same {H H' : Hp} {x : V} (h : Thing H x) (e : Same H H') : Thing H' x := by
  cases h with
  | flat h => exact .flat h
  | tup h => exact .tup (e _ _ h)
  | lst h => exact .lst (e _ _ h)
def spWhole : Sp := fun vs H Q _ => ∃ (x : V) (lo hi : Int), vs = [x, .int lo, .int hi] ∧ Thing H x ∧ Q (.bl (wholeV x lo hi)) H
theorem ok_whole {f : Addr} {fd : FuncData} (F : Fun K "is_whole" "is_whole" s_is_whole f fd) (m_isinstance : mg "isinstance" = none) (m_int : mg "int" = none) (m_bool : mg "bool" = none) : FnOk P w K mg base CX0 1 f fd ["thing", "low", "high"] spWhole := by
  refine F.ok sc_is_whole (fun vs H Q E h => ?_) (fun cdv A outer s H vs Q E hr h => ?_)
  · obtain ⟨x, lo, hi, rfl, _⟩ := h
    rfl
  · obtain ⟨x, lo, hi, rfl, hx, q⟩ := h
    refine ⟨_, (pss_one (ps_ret (pe_and (pe_callB call_isi (by rfl) m_isinstance boot_isinstance (pa_cons (pv 0) (pa_cons (pe_bltn (v := .ty "int") (by rfl) m_int boot_int rfl) pa_nil))) (pe_and (pe_not (pe_callB call_isi (by rfl) m_isinstance boot_isinstance (pa_cons (pv 0) (pa_cons (pe_bltn (v := .ty "bool") (by rfl) m_bool boot_bool rfl) pa_nil)))) (pe_one (pe_chain op_le op_le (pv 1) (pv 0) (pv 2))))))), ?_⟩
    rcases hx with ⟨hx⟩ | hx | hx
    rotate_left
    · exact ⟨_, rfl, _, _, _, _, _, rfl, .ty _, .base (.tup hx), kit_ty (r := false) (by decide +kernel), false, rfl, q⟩
    · exact ⟨_, rfl, _, _, _, _, _, rfl, .ty _, .base (.lst hx), kit_ty (r := false) (by decide +kernel), false, rfl, q⟩
    cases hx with
    | non => exact ⟨_, rfl, _, _, _, _, _, rfl, .ty _, .base .non, kit_ty (r := false) (by decide +kernel), false, rfl, q⟩
    | bl b => 
      refine ⟨_, rfl, _, _, _, _, _, rfl, .ty _, .base (.bl b), kit_ty (r := true) (by decide +kernel), true, rfl, ?_⟩
      exact ⟨_, rfl, _, _, _, _, _, rfl, .ty _, .base (.bl b), kit_ty (r := true) (by decide +kernel), _, rfl, _, rfl, q⟩
    | str z => exact ⟨_, rfl, _, _, _, _, _, rfl, .ty _, .base (.str z), kit_ty (r := false) (by decide +kernel), false, rfl, q⟩
    | int i =>
      refine ⟨_, rfl, _, _, _, _, _, rfl, .ty _, .base (.int i), kit_ty (r := true) (by decide +kernel), true, rfl, ?_⟩
      refine ⟨_, rfl, _, _, _, _, _, rfl, .ty _, .base (.int i), kit_ty (r := false) (by decide +kernel), _, rfl, _, rfl, ?_⟩
      refine ⟨_, rfl, _, rfl, _, _, rfl, rfl, _, rfl, ite2 (fun e => ?_) (fun e => ?_)⟩
      · rw [wholeV_int, e, Bool.true_and] at q
        exact ⟨_, rfl, _, _, rfl, rfl, q⟩
      · rw [wholeV_int, Bool.eq_false_iff.mpr e, Bool.false_and] at q
        exact q

/-! is_sequence -/
/-- a tuple or a list -/
def SqA (K : PySem.W.Frag) (H : Hp) (a : Addr) (xs : List V) : Prop := SqL K H a xs ∨ SqT K H a xs
def spSeq (K : PySem.W.Frag) : Sp := fun vs H Q _ => ∃ (x : V) (t : String) (b : Bool), vs = [x] ∧ (∀ H1, Same H H1 → TyX K H1 x (.type t)) ∧ PySem.W.kitAny K (.type t) [.type "list", .type "tuple"] = some b ∧ ∀ H1, Same H H1 → Q (.bl b) H1
theorem ok_seq {f : Addr} {fd : FuncData} (F : Fun K "is_sequence" "is_sequence" s_is_sequence f fd) (m_isinstance : mg "isinstance" = none) (m_list : mg "list" = none) (m_tuple : mg "tuple" = none) : FnOk P w K mg base CX0 1 f fd ["thing"] (spSeq K) := by
  refine F.ok sc_is_sequence (fun vs H Q E h => ?_) (fun cdv A outer s H vs Q E hr h => ?_)
  · obtain ⟨x, t, b, rfl, _⟩ := h
    rfl
  · obtain ⟨x, t, b, rfl, ty, k, q⟩ := h
    refine ⟨_, (pss_one (ps_ret (pe_callB call_isiT (by rfl) m_isinstance boot_isinstance (pa_cons (pv 0) (pa_cons (pe_tup (pa_cons (pe_bltn (v := .ty "list") (by rfl) m_list boot_list rfl) (pa_cons (pe_bltn (v := .ty "tuple") (by rfl) m_tuple boot_tuple rfl) pa_nil))) pa_nil))))), ?_⟩
    refine ⟨_, rfl, by show 2 ≤ sizeLine; decide, fun tp np => ?_⟩
    have s1 := same_new (o := .tup [.ty "list", .ty "tuple"]) (Same.refl H) np
    exact ⟨x, tp, _, .type t, _, b, rfl, upd_same, .cons (.ty _) (.cons (.ty _) .nil), ty _ s1, k, q _ s1⟩
theorem any_tup : PySem.W.kitAny K (.type "tuple") [.type "list", .type "tuple"] = some true := kitAny_cons (b := false) (kit_ty (by decide +kernel)) (fun _ => kitAny_cons (b := true) (kit_ty (by decide +kernel)) (fun z => nomatch z) (fun _ => rfl)) (fun z => nomatch z)
theorem any_lst : PySem.W.kitAny K (.type "list") [.type "list", .type "tuple"] = some true := kitAny_cons (b := true) (kit_ty (by decide +kernel)) (fun z => nomatch z) (fun _ => rfl)
theorem any_int : PySem.W.kitAny K (.type "int") [.type "list", .type "tuple"] = some false := kitAny_cons (b := false) (kit_ty (by decide +kernel)) (fun _ => kitAny_cons (b := false) (kit_ty (by decide +kernel)) (fun _ => kitAny_nil) (fun z => nomatch z)) (fun z => nomatch z)
theorem any_str : PySem.W.kitAny K (.type "str") [.type "list", .type "tuple"] = some false := kitAny_cons (b := false) (kit_ty (by decide +kernel)) (fun _ => kitAny_cons (b := false) (kit_ty (by decide +kernel)) (fun _ => kitAny_nil) (fun z => nomatch z)) (fun z => nomatch z)
theorem any_non : PySem.W.kitAny K (.type "NoneType") [.type "list", .type "tuple"] = some false := kitAny_cons (b := false) (kit_ty (by decide +kernel)) (fun _ => kitAny_cons (b := false) (kit_ty (by decide +kernel)) (fun _ => kitAny_nil) (fun z => nomatch z)) (fun z => nomatch z)
theorem any_bool : PySem.W.kitAny K (.type "bool") [.type "list", .type "tuple"] = some false := kitAny_cons (b := false) (kit_ty (by decide +kernel)) (fun _ => kitAny_cons (b := false) (kit_ty (by decide +kernel)) (fun _ => kitAny_nil) (fun z => nomatch z)) (fun z => nomatch z)
end
end K7
end
/-! ## EL -/
section
open PySem PySem.Spec PyProof.Rows L2
namespace K7E
theorem nodup_le {α : Type} [DecidableEq α] : ∀ (l D : List α), l.Nodup → (∀ x ∈ l, x ∈ D) → l.length ≤ D.length
  | [], _, _, _ => Nat.zero_le _
  | x :: l, D, h, m => by
    obtain ⟨h1, h2⟩ := List.nodup_cons.mp h
    have hx := m x List.mem_cons_self
    have z := nodup_le l (D.erase x) h2 fun y hy => (List.mem_erase_of_ne (fun (e : y = x) => h1 (by rw [← e]; exact hy))).mpr (m y (List.mem_cons_of_mem _ hy))
    rw [List.length_erase_of_mem hx] at z
    have := List.length_pos_of_mem hx
    rw [List.length_cons]
    omega
theorem nodup_of_le {α : Type} [DecidableEq α] : ∀ (l D : List α), l.Nodup → (∀ x ∈ l, x ∈ D) → D.length ≤ l.length → D.Nodup
  | [], [], _, _, _ => List.nodup_nil
  | [], _ :: _, _, _, z => absurd z (by rw [List.length_cons, List.length_nil]; omega)
  | x :: l, D, h, m, z => by
    obtain ⟨h1, h2⟩ := List.nodup_cons.mp h
    have hx := m x List.mem_cons_self
    have hl := List.length_erase_of_mem hx
    have sub : ∀ y ∈ l, y ∈ D.erase x := fun y hy => (List.mem_erase_of_ne (fun (e : y = x) => h1 (by rw [← e]; exact hy))).mpr (m y (List.mem_cons_of_mem _ hy))
    rw [List.length_cons] at z
    have hp := List.length_pos_of_mem hx
    have hd := nodup_of_le l (D.erase x) h2 sub (by omega)
    rw [(List.perm_cons_erase hx).nodup_iff, List.nodup_cons]
    refine ⟨fun hm => ?_, hd⟩
    have w := nodup_le (x :: l) (D.erase x) h fun y hy => by
      rcases List.mem_cons.mp hy with rfl | hy
      · exact hm
      · exact sub y hy
    rw [List.length_cons] at w
    omega
section
variable {X : Cx}
/-- len(set(x)), x a tuple of ints: how many there are of them, and all of them only if no two are the same -/
def tLenSetT (K : PySem.W.Frag) (ta : TE) : TE := fun σ H Q => ta σ H fun x H1 => ∃ (l : Addr) (ns : List Int), x = V.ref l ∧ SqT K H1 l (ns.map V.int) ∧ ns.length < 64 ∧ ∀ c : Nat, c ≤ ns.length → (c = ns.length ↔ ns.Nodup) → Q (.int c) H1
theorem pe_lenSetT {a : Expr} {ta : TE} {p p2 q pos : Pos} (hc : X.calm = true) (hg : Gl X "len") (hm : X.mg "len" = none) (hg2 : Gl X "set") (hm2 : X.mg "set" = none) (ha : PE X a ta)
    (na : starEach [a] X.env = (false, eval a X.env) :: starEach [] X.env := by rfl) : PE X (.Call (.Name "len" p) [.Call (.Name "set" p2) [a] [] q] [] pos) (tLenSetT X.K ta) := by
  refine ⟨fun pins s σ H Q I h => ?_⟩
  refine Call_ (ld_blt I hg hm PySem.boot_len ?_)
  refine PyProof.Rows.callWith_builtin1 (PyProof.Rows.args_cons ?_ rfl) rfl rfl
  refine Call_ (ld_blt I hg2 hm2 PyProof.Rows.boot_set ?_)
  refine PyProof.Rows.callWith_type1 (PyProof.Rows.args_cons (thn (ha.run pins s σ H _ I h) fun v s1 ⟨x, H1, I1, r1, q1⟩ => PyProof.Rows.args_nil ?_) na) na rfl
  obtain ⟨l, ns, rfl, hq, h1, q1⟩ := q1
  cases r1
  obtain ⟨its, r, pl, hz⟩ := I1.tuple hq
  have hi : IntsAre its.toArray.toList ns := ints_of_vals r
  refine call_set_tupI ns (I1.ok.hd hc) (show s1.heap.IsTuple l its.toArray from pl) hi (by unfold scanBound; omega) fun h' tk c hS hcn hk => ?_
  refine PyProof.Rows.args_nil ?_
  obtain ⟨o, es, ep, t, ho, hex, hd, g, nd, hm2, hb, hf, hn, hr, hl2⟩ := hS
  have I2 : Inv X pins σ H1 { s1 with heap := h', toks := tk } := I1.kept fun b o e => hk b o e
  have hmem : ∀ k, k ∈ es.toList.map keyOf ↔ k ∈ ns := fun k => by rw [← hm2 k, decide_eq_true_eq]
  have hlen : (es.toList.map keyOf).length = c := by rw [List.length_map, Array.length_toList, hn]
  have key : c = ns.length ↔ ns.Nodup := by
    constructor
    · intro e
      exact nodup_of_le _ _ nd (fun k hk => (hmem k).mp hk) (by rw [hlen, e]; exact Nat.le_refl _)
    · intro hn2
      have w := nodup_le _ _ hn2 fun k hk => (hmem k).mpr hk
      rw [hlen] at w
      omega
  refine call_len_set ho hex hd hf (by rw [hn] <;> omega) ⟨.int c, H1, I2.tok _, ⟨_, by rw [hn]⟩, q1 c hcn key⟩
/-- the same over a list -/
theorem firstMet_nd (val : Nat → Int) : ∀ i, (firstMet val i).Nodup
  | 0 => List.nodup_nil
  | i + 1 => by
    rw [firstMet_succ]
    unfold step_dedup
    split
    · exact firstMet_nd val i
    · rename_i h
      refine List.nodup_append.mpr ⟨firstMet_nd val i, List.nodup_cons.mpr ⟨List.not_mem_nil, List.nodup_nil⟩, fun a ha b hb e => h ?_⟩
      rw [List.mem_singleton] at hb
      exact List.any_eq_true.mpr ⟨a, ha, by rw [e, hb]; exact beq_self_eq_true _⟩
theorem firstMet_mem (ns : List Int) (k : Int) : k ∈ firstMet (fun i => ns.getD i 0) ns.length ↔ k ∈ ns := by
  have e := firstMet_any (fun i => ns.getD i 0) ns.length k
  have em : (List.range ns.length).map (fun i => ns.getD i 0) = ns := by
    refine List.ext_getElem (by rw [List.length_map, List.length_range]) fun j h1 h2 => ?_
    rw [List.getElem_map, List.getElem_range, List.getD_eq_getElem?_getD, List.getElem?_eq_getElem h2]
    rfl
  rw [em] at e
  have w : ∀ l : List Int, l.any (· == k) = true ↔ k ∈ l := fun l => by
    rw [List.any_eq_true]
    exact ⟨fun ⟨x, hx, ex⟩ => by rw [← beq_iff_eq.mp ex]; exact hx, fun hx => ⟨k, hx, beq_self_eq_true _⟩⟩
  rw [← w, ← w, e]
def tLenSetL (K : PySem.W.Frag) (ta : TE) : TE := fun σ H Q => ta σ H fun x H1 => ∃ (l : Addr) (ns : List Int), x = V.ref l ∧ SqL K H1 l (ns.map V.int) ∧ ns.length < 64 ∧ ∀ c : Nat, c ≤ ns.length → (c = ns.length ↔ ns.Nodup) → Q (.int c) H1
theorem pe_lenSetL {a : Expr} {ta : TE} {p p2 q pos : Pos} (hc : X.calm = true) (hg : Gl X "len") (hm : X.mg "len" = none) (hg2 : Gl X "set") (hm2 : X.mg "set" = none) (ha : PE X a ta)
    (na : starEach [a] X.env = (false, eval a X.env) :: starEach [] X.env := by rfl) : PE X (.Call (.Name "len" p) [.Call (.Name "set" p2) [a] [] q] [] pos) (tLenSetL X.K ta) := by
  refine ⟨fun pins s σ H Q I h => ?_⟩
  refine Call_ (ld_blt I hg hm PySem.boot_len ?_)
  refine PyProof.Rows.callWith_builtin1 (PyProof.Rows.args_cons ?_ rfl) rfl rfl
  refine Call_ (ld_blt I hg2 hm2 PyProof.Rows.boot_set ?_)
  refine PyProof.Rows.callWith_type1 (PyProof.Rows.args_cons (thn (ha.run pins s σ H _ I h) fun v s1 ⟨x, H1, I1, r1, q1⟩ => PyProof.Rows.args_nil ?_) na) na rfl
  obtain ⟨l, ns, rfl, hq, h1, q1⟩ := q1
  cases r1
  obtain ⟨its, r, pl, hz⟩ := I1.list hq
  have hl : its.toArray.size = ns.length := by rw [List.size_toArray, ← r.length, List.length_map]
  refine call_set_list (I1.ok.hd hc) pl.isList (ns := ns) (by simpa using r.ints) (by unfold scanBound; omega) fun h' tk hS hk => ?_
  rw [hl] at hS
  have nd := firstMet_nd (fun i => ns.getD i 0) ns.length
  have mm := firstMet_mem ns
  have hcn := firstMet_length_le (fun i => ns.getD i 0) ns.length
  generalize firstMet (fun i => ns.getD i 0) ns.length = L at hS nd mm hcn
  refine PyProof.Rows.args_nil ?_
  obtain ⟨o, es, ep, t, ho, hex, hd, _, _, _, hf, hn⟩ := hS
  have I2 : Inv X pins σ H1 { s1 with heap := h', toks := tk } := I1.kept fun b o e => hk b o (Heap.lt_size e) e
  have key : L.length = ns.length ↔ ns.Nodup := by
    constructor
    · intro e
      exact nodup_of_le _ _ nd (fun k hk => (mm k).mp hk) (by rw [e]; exact Nat.le_refl _)
    · intro hn2
      have w := nodup_le _ _ hn2 fun k hk => (mm k).mpr hk
      omega
  refine call_len_set ho hex hd hf (by rw [hn] <;> omega) ⟨.int L.length, H1, I2.tok _, ⟨_, by rw [hn]⟩, q1 _ hcn key⟩
/-- one of two readings -/
theorem pe_either {e : Expr} {t1 t2 : TE} (a : PE X e t1) (b : PE X e t2) : PE X e (fun σ H Q => t1 σ H Q ∨ t2 σ H Q) := ⟨fun pins s σ H Q I h => h.elim (a.run pins s σ H Q I) (b.run pins s σ H Q I)⟩
theorem pi_either {tg e : Expr} {t1 t2 : TI} (a : PI X tg e t1) (b : PI X tg e t2) : PI X tg e (fun σ H R => t1 σ H R ∨ t2 σ H R) := ⟨fun pins s σ H R I h => h.elim (a.run pins s σ H R I) (b.run pins s σ H R I)⟩
end
end K7E
end
/-! ## P5 -/
section
open PySem PySem.Spec PyProof.Rows L2
namespace K7
abbrev N_are_cells : List Str := ["many", "thing", "least", "cell"]
abbrev s_are_cells : Stmt := topS 10
theorem sc_are_cells : FnScope ["many", "thing", "least", "cell"] ["many", "thing", "least"] (defScope s_are_cells) := ⟨rfl, rfl, rfl, by decide +kernel, rfl, by decide +kernel, by decide +kernel⟩
section
variable {P : Program} {w : World} {K : PySem.W.Frag} {mg : Str → Option Value} {base : Heap}
def intOf : V → Int | .int i => i | _ => 0
/-- what are_cells says of a row -/
def cellsV (many : Int) (xs : List V) (least : Int) : Bool := decide (least ≤ (xs.length : Nat)) && xs.all (fun x => wholeV x 0 (many - 1)) && decide (xs.map intOf).Nodup
theorem whole_int {x : V} {lo hi : Int} (h : wholeV x lo hi = true) : x = .int (intOf x) := by
  unfold wholeV at h
  split at h
  · rfl
  · cases h
def spCells (K : PySem.W.Frag) : Sp := fun vs H Q _ => ∃ (many : Int) (x : V) (least : Int), vs = [.int many, x, .int least] ∧
  ((∃ t : String, (∀ H1, Same H H1 → TyX K H1 x (.type t)) ∧ PySem.W.kitAny K (.type t) [.type "list", .type "tuple"] = some false ∧ ∀ H1, Same H H1 → Q (.bl false) H1) ∨
   (∃ (a : Addr) (xs : List V), x = .ref a ∧ (H a = some (.tup xs) ∨ H a = some (.lst xs)) ∧ (∀ y ∈ xs, Thing H y) ∧ xs.length < 64 ∧ ∀ H1, Same H H1 → Q (.bl (cellsV many xs least)) H1))
theorem ok_cells {f fS fW : Addr} {fd fdS fdW : FuncData} (F : Fun K "are_cells" "are_cells" s_are_cells f fd)
    (Gsq : FnOk P w K mg base CX0 1 fS fdS ["thing"] (spSeq K)) (gsq : mg "is_sequence" = some (.ref fS)) (ksq : PySem.W.keepIn K (.ref fS) = true) (bsq : Binds K fdS ["thing"] [])
    (Giw : FnOk P w K mg base CX0 1 fW fdW ["thing", "low", "high"] spWhole) (giw : mg "is_whole" = some (.ref fW)) (kiw : PySem.W.keepIn K (.ref fW) = true) (biw : Binds K fdW ["thing", "low", "high"] [])
    (m_len : mg "len" = none) (m_set : mg "set" = none) (m_all : mg "all" = none) : FnOk P w K mg base CX0 2 f fd ["many", "thing", "least"] (spCells K) := by
  refine F.ok sc_are_cells (fun vs H Q E h => ?_) (fun cdv A outer s H vs Q E hr h => ?_)
  · obtain ⟨m, x, l, rfl, _⟩ := h
    rfl
  · obtain ⟨m, x, l, rfl, h⟩ := h
    refine ⟨_, (pss_cons (ps_if (pw_or (pt_not (pt_val (pe_call Gsq (hr.mono (by decide)) (by rfl) gsq ksq bsq .nil pass0 (pa_cons (pv 1) pa_nil)))) (pw_or1 (pt_cmpR op_lt (pe_callB call_len_seq (by rfl) m_len boot_len (pa_cons (pv 1) pa_nil)) (pv 2) (nomark _)))).pt
  (pss_one (ps_ret pe_bl))
  pss_nil)
 (pss_cons (ps_if (pt_not (pt_val (pe_callB (cr_all rfl) (by rfl) m_all boot_all (pa_cons (pe_lc (own := [("cell", 3)]) (g := gName 3) (tt := tYes) rfl sc_are_cells.nd (K7E.pi_either (pi_tup (pv 1)) (pi_list (pv 1))) (blkOk_by (own := [("cell", 3)]) (N := N_are_cells) (sc := defScope s_are_cells) (by decide +kernel)) (fun _ _ _ _ _ => (pg_name (i := 3) sc_are_cells.nd rfl (by first | exact Or.inl rfl | exact Or.inr rfl))) (fun _ _ _ _ _ => pts_nil) (fun _ _ _ _ _ => (pe_call Giw (hr.mono (by decide)) (by rfl) giw kiw biw .nil pass0 (pa_cons (pv 3) (pa_cons pe_int (pa_cons (pe_op op_sub (pv 0) pe_int) pa_nil)))))) pa_nil))))
  (pss_one (ps_ret pe_bl))
  pss_nil)
 (pss_one (ps_ret (pe_cmpR op_eq (K7E.pe_either (K7E.pe_lenSetT rfl (by rfl) m_len (by rfl) m_set (pv 1)) (K7E.pe_lenSetL rfl (by rfl) m_len (by rfl) m_set (pv 1))) (pe_callB call_len_seq (by rfl) m_len boot_len (pa_cons (pv 1) pa_nil)) (nomark _)))))), ?_⟩
    rcases h with ⟨t, ty, k, q⟩ | ⟨a, xs, rfl, ha, th, h64, q⟩
    · refine ⟨_, rfl, x, t, false, rfl, ty, k, fun H1 e1 => ?_⟩
      exact ⟨_, rfl, q H1 e1⟩
    · have sq : ∀ H1, Same H H1 → (SqL K H1 a xs ∨ SqT K H1 a xs) := fun H1 e1 => ha.elim (fun z => .inr (.inl (.inl (e1 _ _ z)))) (fun z => .inl (.inl (.inl (e1 _ _ z))))
      have ex : ∃ t : String, (∀ H1, Same H H1 → TyX K H1 (.ref a) (.type t)) ∧ PySem.W.kitAny K (.type t) [.type "list", .type "tuple"] = some true := by
        rcases ha with z | z
        · exact ⟨"tuple", fun H1 e1 => .base (.tup (e1 _ _ z)), any_tup⟩
        · exact ⟨"list", fun H1 e1 => .base (.lst (e1 _ _ z)), any_lst⟩
      obtain ⟨t, ty, kk⟩ := ex
      refine ⟨_, rfl, _, t, true, rfl, ty, kk, fun H1 e1 => ⟨_, rfl, ?_⟩⟩
      refine ⟨_, rfl, a, xs, rfl, sq H1 e1, _, rfl, _, _, rfl, rfl, _, rfl, ite2 (fun c1 => ?_) (fun c1 => ?_)⟩
      · have c1' : ((xs.length : Nat) : Int) < l := of_decide_eq_true c1
        have z := q H1 e1
        have e0 : cellsV m xs l = false := by
          unfold cellsV
          rw [decide_eq_false (show ¬ l ≤ ((xs.length : Nat) : Int) by omega), Bool.false_and, Bool.false_and]
        rw [e0] at z
        exact z
      · have c1' : ¬ ((xs.length : Nat) : Int) < l := fun z => c1 (decide_eq_true z)
        have c2 : decide (l ≤ ((xs.length : Nat) : Int)) = true := decide_eq_true (by omega)
        rcases ha with z | z
        · refine .inl ⟨_, rfl, a, rfl, ⟨xs, .inl (.inl (e1 _ _ z))⟩, fun D hD => lc_tup (xs := xs) (fun j H2 => Same H1 H2 ∧ H2 D = some (.lst (((xs.take j).map fun x => wholeV x 0 (m - 1)).map V.bl))) ⟨same_new (Same.refl H1) hD, upd_same⟩ (fun j H2 _ pv => .inl (.inl (pv.1 _ _ (e1 _ _ z)))) (fun j x H2 hx pv => ?_) (fun H2 pv => ?_)⟩
          · obtain ⟨e2, hD2⟩ := pv
            have hm := th x (List.mem_of_getElem? hx)
            have hj : j < xs.length := (List.getElem?_eq_some_iff.mp hx).1
            refine ⟨rfl, _, rfl, _, rfl, _, _, rfl, rfl, x, 0, m - 1, rfl, hm.same (e1.trans e2), _, hD2, by rw [List.length_map, List.length_map, List.length_take]; exact small1000 (by omega), fun b o hb => ?_, ?_⟩
            · rw [upd_ne (ne_of_none hb hD)]
              exact e2 _ _ hb
            · rw [upd_same, List.take_add_one, hx, List.map_append, List.map_append]
              rfl
          · obtain ⟨e2, hD2⟩ := pv
            rw [List.take_length] at hD2
            refine ⟨D, xs.map fun x => wholeV x 0 (m - 1), rfl, .inl (.inl hD2), _, rfl, ?_⟩
            have call_ : (xs.map fun x => wholeV x 0 (m - 1)).all id = xs.all fun x => wholeV x 0 (m - 1) := by rw [List.all_map]; rfl
            refine ite2 (fun c3 => ?_) (fun c3 => ?_)
            rotate_left
            · have w : xs.all (fun x => wholeV x 0 (m - 1)) = true := by
                rw [← call_]
                cases hq : (xs.map fun x => wholeV x 0 (m - 1)).all id with
                | true => rfl
                | false => exact absurd (by rw [hq]; rfl) c3
              have exs : xs = (xs.map intOf).map V.int := by
                rw [List.map_map]
                refine (List.map_id xs).symm.trans (List.map_congr_left fun y hy => ?_)
                exact whole_int (List.all_eq_true.mp w y hy)
              refine Or.inl ⟨_, rfl, a, xs.map intOf, rfl, by rw [← exs]; exact .inl (.inl (e2 _ _ (e1 _ _ z))), by rw [List.length_map]; exact h64, fun c hc1 hc2 => ?_⟩
              refine ⟨_, rfl, a, xs, rfl, sq H2 (e1.trans e2), rfl, ?_⟩
              have zz := q H2 (e1.trans e2)
              unfold cellsV at zz
              rw [c2, w, Bool.true_and, Bool.true_and] at zz
              rw [List.length_map] at hc2
              have ee : decide (V.int (c : Nat) = V.int (xs.length : Nat)) = decide (xs.map intOf).Nodup := by
                refine decide_eq_decide.mpr ⟨fun e => hc2.mp ?_, fun e => by rw [hc2.mpr e]⟩
                injection e with e
                omega
              rw [← ee] at zz
              exact zz
            · have w : xs.all (fun x => wholeV x 0 (m - 1)) = false := by
                rw [← call_]
                cases hq : (xs.map fun x => wholeV x 0 (m - 1)).all id with
                | false => rfl
                | true => rw [hq] at c3; cases c3
              have zz := q H2 (e1.trans e2)
              unfold cellsV at zz
              rw [w, Bool.and_false, Bool.false_and] at zz
              exact zz
        · refine .inr ⟨_, rfl, a, rfl, ⟨xs, .inl (.inl (e1 _ _ z))⟩, fun D hD => lc_list (xs := xs) (fun j H2 => Same H1 H2 ∧ H2 D = some (.lst (((xs.take j).map fun x => wholeV x 0 (m - 1)).map V.bl))) ⟨same_new (Same.refl H1) hD, upd_same⟩ (fun j H2 _ pv => .inl (.inl (pv.1 _ _ (e1 _ _ z)))) (fun j x H2 hx pv => ?_) (fun H2 pv => ?_)⟩
          · obtain ⟨e2, hD2⟩ := pv
            have hm := th x (List.mem_of_getElem? hx)
            have hj : j < xs.length := (List.getElem?_eq_some_iff.mp hx).1
            refine ⟨rfl, _, rfl, _, rfl, _, _, rfl, rfl, x, 0, m - 1, rfl, hm.same (e1.trans e2), _, hD2, by rw [List.length_map, List.length_map, List.length_take]; exact small1000 (by omega), fun b o hb => ?_, ?_⟩
            · rw [upd_ne (ne_of_none hb hD)]
              exact e2 _ _ hb
            · rw [upd_same, List.take_add_one, hx, List.map_append, List.map_append]
              rfl
          · obtain ⟨e2, hD2⟩ := pv
            rw [List.take_length] at hD2
            refine ⟨D, xs.map fun x => wholeV x 0 (m - 1), rfl, .inl (.inl hD2), _, rfl, ?_⟩
            have call_ : (xs.map fun x => wholeV x 0 (m - 1)).all id = xs.all fun x => wholeV x 0 (m - 1) := by rw [List.all_map]; rfl
            refine ite2 (fun c3 => ?_) (fun c3 => ?_)
            rotate_left
            · have w : xs.all (fun x => wholeV x 0 (m - 1)) = true := by
                rw [← call_]
                cases hq : (xs.map fun x => wholeV x 0 (m - 1)).all id with
                | true => rfl
                | false => exact absurd (by rw [hq]; rfl) c3
              have exs : xs = (xs.map intOf).map V.int := by
                rw [List.map_map]
                refine (List.map_id xs).symm.trans (List.map_congr_left fun y hy => ?_)
                exact whole_int (List.all_eq_true.mp w y hy)
              refine Or.inr ⟨_, rfl, a, xs.map intOf, rfl, by rw [← exs]; exact .inl (.inl (e2 _ _ (e1 _ _ z))), by rw [List.length_map]; exact h64, fun c hc1 hc2 => ?_⟩
              refine ⟨_, rfl, a, xs, rfl, sq H2 (e1.trans e2), rfl, ?_⟩
              have zz := q H2 (e1.trans e2)
              unfold cellsV at zz
              rw [c2, w, Bool.true_and, Bool.true_and] at zz
              rw [List.length_map] at hc2
              have ee : decide (V.int (c : Nat) = V.int (xs.length : Nat)) = decide (xs.map intOf).Nodup := by
                refine decide_eq_decide.mpr ⟨fun e => hc2.mp ?_, fun e => by rw [hc2.mpr e]⟩
                injection e with e
                omega
              rw [← ee] at zz
              exact zz
            · have w : xs.all (fun x => wholeV x 0 (m - 1)) = false := by
                rw [← call_]
                cases hq : (xs.map fun x => wholeV x 0 (m - 1)).all id with
                | false => rfl
                | true => rw [hq] at c3; cases c3
              have zz := q H2 (e1.trans e2)
              unfold cellsV at zz
              rw [w, Bool.and_false, Bool.false_and] at zz
              exact zz
end
end K7
end
/-! ## P6 -/
section
open PySem PySem.Spec PyProof.Rows L2
namespace K7
abbrev N_are_two_cells : List Str := ["many", "thing"]
abbrev s_are_two_cells : Stmt := topS 11
theorem sc_are_two_cells : FnScope ["many", "thing"] ["many", "thing"] (defScope s_are_two_cells) := ⟨rfl, rfl, rfl, by decide +kernel, rfl, by decide +kernel, by decide +kernel⟩
section
variable {P : Program} {w : World} {K : PySem.W.Frag} {mg : Str → Option Value} {base : Heap}
/-- what are_two_cells says of a row -/
def twoV (many : Int) (xs : List V) : Bool := cellsV many xs 2 && decide (xs.length = 2)
def spTwo (K : PySem.W.Frag) : Sp := fun vs H Q _ => ∃ (many : Int) (x : V), vs = [.int many, x] ∧
  ((∃ t : String, (∀ H1, Same H H1 → TyX K H1 x (.type t)) ∧ PySem.W.kitAny K (.type t) [.type "list", .type "tuple"] = some false ∧ ∀ H1, Same H H1 → Q (.bl false) H1) ∨
   (∃ (a : Addr) (xs : List V), x = .ref a ∧ (H a = some (.tup xs) ∨ H a = some (.lst xs)) ∧ (∀ y ∈ xs, Thing H y) ∧ xs.length < 64 ∧ ∀ H1, Same H H1 → Q (.bl (twoV many xs)) H1))
theorem ok_two {f fC : Addr} {fd fdC : FuncData} (F : Fun K "are_two_cells" "are_two_cells" s_are_two_cells f fd)
    (Gac : FnOk P w K mg base CX0 2 fC fdC ["many", "thing", "least"] (spCells K)) (gac : mg "are_cells" = some (.ref fC)) (kac : PySem.W.keepIn K (.ref fC) = true) (bac : Binds K fdC ["many", "thing", "least"] [])
    (m_len : mg "len" = none) : FnOk P w K mg base CX0 3 f fd ["many", "thing"] (spTwo K) := by
  refine F.ok sc_are_two_cells (fun vs H Q E h => ?_) (fun cdv A outer s H vs Q E hr h => ?_)
  · obtain ⟨m, x, rfl, _⟩ := h
    rfl
  · obtain ⟨m, x, rfl, h⟩ := h
    refine ⟨_, (pss_one (ps_ret (pe_and (pe_call Gac (hr.mono (by decide)) (by rfl) gac kac bac .nil pass0 (pa_cons (pv 0) (pa_cons (pv 1) (pa_cons pe_int pa_nil)))) (pe_one (pe_cmpR op_eq (pe_callB call_len_seq (by rfl) m_len boot_len (pa_cons (pv 1) pa_nil)) pe_int (nomark _)))))), ?_⟩
    refine ⟨_, rfl, _, rfl, m, x, 2, rfl, ?_⟩
    rcases h with ⟨t, ty, k, q⟩ | ⟨a, xs, rfl, ha, th, h64, q⟩
    · exact .inl ⟨t, ty, k, fun H1 e1 => ⟨false, rfl, q H1 e1⟩⟩
    · refine .inr ⟨a, xs, rfl, ha, th, h64, fun H1 e1 => ⟨_, rfl, ite2 (fun c1 => ?_) (fun c1 => ?_)⟩⟩
      · refine ⟨_, rfl, a, xs, rfl, ha.elim (fun z => .inr (.inl (.inl (e1 _ _ z)))) (fun z => .inl (.inl (.inl (e1 _ _ z)))), rfl, ?_⟩
        have zz := q H1 e1
        unfold twoV at zz
        rw [c1, Bool.true_and] at zz
        have ee : decide (V.int (xs.length : Nat) = V.int 2) = decide (xs.length = 2) := by
          refine decide_eq_decide.mpr ⟨fun e => ?_, fun e => by rw [e]; rfl⟩
          injection e with e
          omega
        rw [← ee] at zz
        exact zz
      · have zz := q H1 e1
        unfold twoV at zz
        rw [Bool.eq_false_iff.mpr c1, Bool.false_and] at zz
        exact zz
end
end K7
end
/-! ## KM -/
section
/-! ## more pure facts: couples put in order -/
namespace KL
def srt (c : Nat × Nat) : Nat × Nat := (min c.1 c.2, max c.1 c.2)
theorem srt_le (c : Nat × Nat) : (srt c).1 ≤ (srt c).2 := by unfold srt; simp only; omega
theorem srt_lt {c : Nat × Nat} (h : c.1 ≠ c.2) : (srt c).1 < (srt c).2 := by unfold srt; simp only; omega
theorem srt_of {c : Nat × Nat} (h : c.1 < c.2) : srt c = c := by
  obtain ⟨a, b⟩ := c
  unfold srt
  simp only at h ⊢
  rw [Nat.min_eq_left (by omega), Nat.max_eq_right (by omega)]
/-- two numbers put in order -/
theorem two_sorted {ms : List Int} {x y : Nat} (p : ms.Perm [(x : Int), (y : Int)]) (s : ms.Pairwise (· ≤ ·)) : ms = [((min x y : Nat) : Int), ((max x y : Nat) : Int)] := by
  have hl := p.length_eq
  match ms, hl with
  | [u, v], _ =>
    have huv : u ≤ v := (List.pairwise_cons.mp s).1 v (List.mem_singleton.mpr rfl)
    have hu : u ∈ [(x : Int), (y : Int)] := p.mem_iff.mp List.mem_cons_self
    rcases List.mem_cons.mp hu with e | e
    · subst e
      have := (List.Perm.cons_inv p).eq_singleton
      injection this with e
      subst e
      have hxy : x ≤ y := by omega
      rw [Nat.min_eq_left hxy, Nat.max_eq_right hxy]
    · rw [List.mem_singleton] at e
      subst e
      have p2 : [(y : Int), v].Perm [(y : Int), (x : Int)] := p.trans (List.Perm.swap ..)
      have := (List.Perm.cons_inv p2).eq_singleton
      injection this with e
      subst e
      have hxy : y ≤ x := by omega
      rw [Nat.min_eq_right hxy, Nat.max_eq_left hxy]
def lexLe (a b : Nat × Nat) : Prop := a.1 < b.1 ∨ (a.1 = b.1 ∧ a.2 ≤ b.2)
/-- a sorted list is told by its items -/
theorem uniq {α : Type} {le : α → α → Prop} (anti : ∀ a b, le a b → le b a → a = b) : ∀ {l m : List α}, l.Perm m → l.Pairwise le → m.Pairwise le → l = m
  | [], m, p, _, _ => p.symm.eq_nil.symm
  | x :: l, [], p, _, _ => absurd p.length_eq (by simp)
  | x :: l, y :: m, p, hl, hm => by
    have e : x = y := by
      rcases List.mem_cons.mp (p.mem_iff.mp (List.mem_cons_self (a := x) (l := l))) with e | hx
      · exact e
      · rcases List.mem_cons.mp (p.mem_iff.mpr (List.mem_cons_self (a := y) (l := m))) with e | hy
        · exact e.symm
        · exact anti _ _ ((List.pairwise_cons.mp hl).1 y hy) ((List.pairwise_cons.mp hm).1 x hx)
    subst e
    rw [uniq anti p.cons_inv (List.pairwise_cons.mp hl).2 (List.pairwise_cons.mp hm).2]
theorem lex_anti (a b : Nat × Nat) (h1 : lexLe a b) (h2 : lexLe b a) : a = b := by
  unfold lexLe at h1 h2
  exact Prod.ext (by omega) (by omega)
theorem int_anti (a b : Int) (h1 : a ≤ b) (h2 : b ≤ a) : a = b := by omega
/-- all couples of n cells -/
def allC (n : Nat) : List (Nat × Nat) := (List.range n).flatMap fun a => ((List.range n).filter fun b => decide (a ≠ b)).map fun b => (a, b)
/-- couples taken either way round hang together as the ordered ones do -/
theorem conn_srt {n : Nat} {cs es : List (Nat × Nat)} (h : Conn n cs) (hp : es.Perm (cs.map srt)) : Conn n es := by
  intro S h0 he
  refine h S h0 fun c hc => ?_
  have z := he (srt c) (hp.mem_iff.mpr (List.mem_map.mpr ⟨c, hc, rfl⟩))
  unfold srt at z
  simp only at z
  rcases Nat.le_total c.1 c.2 with q | q
  · rw [Nat.min_eq_left q, Nat.max_eq_right q] at z
    exact z
  · rw [Nat.min_eq_right q, Nat.max_eq_left q] at z
    exact z.symm
/-- what is reached from c over passing cells -/
inductive Rch (E : Nat → Nat → Prop) (ps : List Nat) (c : Nat) : Nat → Prop
  | base : Rch E ps c c
  | step {a b : Nat} (h : Rch E ps c a) (e : E a b) (p : b ∈ ps) : Rch E ps c b
theorem Rch.mono {E E' : Nat → Nat → Prop} {ps ps' : List Nat} {c x : Nat} (h : Rch E ps c x) (he : ∀ a b, E a b → E' a b) (hp : ∀ b ∈ ps, b ∈ ps') : Rch E' ps' c x := by
  induction h with
  | base => exact .base
  | step _ e p ih => exact .step ih (he _ _ e) (hp _ p)
/-- a closed list that holds c holds what is reached -/
theorem Rch.mem {E : Nat → Nat → Prop} {ps : List Nat} {c x : Nat} {fd : List Nat} (h : Rch E ps c x) (h0 : c ∈ fd) (hc : ∀ a b, a ∈ fd → E a b → b ∈ ps → b ∈ fd) : x ∈ fd := by
  induction h with
  | base => exact h0
  | step _ e p ih => exact hc _ _ ih e p
end KL
end
/-! ## P7 -/
section
open PySem PySem.Spec PyProof.Rows L2
namespace K7
abbrev N_spread : List Str := ["nearby", "cell", "passing", "found", "done", "here", "b"]
abbrev s_spread : Stmt := topS 15
theorem sc_spread : FnScope ["nearby", "cell", "passing", "found", "done", "here", "b"] ["nearby", "cell", "passing"] (defScope s_spread) := ⟨rfl, rfl, rfl, by decide +kernel, rfl, by decide +kernel, by decide +kernel⟩
theorem flat_ints : ∀ l : List Nat, (ints_ l).all flatV = true
  | [] => rfl
  | _ :: l => flat_ints l
theorem inV_ints (c : Nat) : ∀ l : List Nat, inV (.int (c : Nat)) (ints_ l) = decide (c ∈ l)
  | [] => rfl
  | y :: l => by
    show (eqV (.int (y : Nat)) (.int (c : Nat)) || inV (.int (c : Nat)) (ints_ l)) = _
    rw [inV_ints c l]
    have e : eqV (.int (y : Nat)) (.int (c : Nat)) = decide (c = y) := by
      show decide ((y : Int) = (c : Int)) = _
      exact decide_eq_decide.mpr (by omega)
    rw [e, ← Bool.decide_or]
    exact decide_eq_decide.mpr List.mem_cons.symm
section
variable {P : Program} {w : World} {K : PySem.W.Frag} {mg : Str → Option Value} {base : Heap}
def SqOf (H : Hp) (a : Addr) (xs : List V) : Prop := H a = some (.tup xs) ∨ H a = some (.lst xs)
theorem SqOf.same {H H' : Hp} {a : Addr} {xs : List V} (h : SqOf H a xs) (e : Same H H') : SqOf H' a xs := h.imp (e _ _) (e _ _)
theorem SqOf.sq {H : Hp} {a : Addr} {xs : List V} (h : SqOf H a xs) : SqL K H a xs ∨ SqT K H a xs := h.elim (fun z => .inr (.inl (.inl z))) fun z => .inl (.inl (.inl z))
def nbE (Nb : List (List Nat)) (a b : Nat) : Prop := ∃ l, Nb[a]? = some l ∧ b ∈ l
def SpInv (H : Hp) (nb pa F0 : Addr) (Nb : List (List Nat)) (ps : List Nat) (c m : Nat) (σ' : L2.St) (H' : Hp) : Prop := ∃ (fd : List Nat) (d : Nat) (y5 y6 : Option V), σ' = [some (.ref nb), some (.int (c : Nat)), some (.ref pa), some (.ref F0), some (.int (d : Nat)), y5, y6] ∧ But F0 H H' ∧ H' F0 = some (.lst (ints_ fd)) ∧ fd.Nodup ∧ c ∈ fd ∧ (∀ x ∈ fd, x < Nb.length) ∧ d ≤ fd.length ∧
      (∀ i a, i < d → fd[i]? = some a → ∀ l, Nb[a]? = some l → ∀ b ∈ l, b ∈ ps → b ∈ fd) ∧ m + d = Nb.length ∧ ∀ x ∈ fd, KL.Rch (nbE Nb) ps c x
/-- what spread finds: the cell, and all that is near to what is found -/
structure Found (Nb : List (List Nat)) (ps : List Nat) (c : Nat) (fd : List Nat) : Prop where
  nd : fd.Nodup
  me : c ∈ fd
  lt : ∀ x ∈ fd, x < Nb.length
  cl : ∀ a ∈ fd, ∀ l, Nb[a]? = some l → ∀ b ∈ l, b ∈ ps → b ∈ fd
  so : ∀ x ∈ fd, KL.Rch (nbE Nb) ps c x
def spSpread : Sp := fun vs H Q _ => ∃ (nb : Addr) (ts : List Addr) (Nb : List (List Nat)) (c : Nat) (pa : Addr) (ps : List Nat), vs = [.ref nb, .int c, .ref pa] ∧ H nb = some (.tup (ts.map V.ref)) ∧ TAt H ts Nb ∧ SqOf H pa (ints_ ps) ∧
  Nb.length ≤ 5 ∧ c < Nb.length ∧ (∀ l ∈ Nb, ∀ x ∈ l, x < Nb.length) ∧ ∀ H' q fd, Same H H' → H q = none → H' q = some (.lst (ints_ fd)) → Found Nb ps c fd → Q (.ref q) H'
theorem ok_spread {f : Addr} {fd : FuncData} (F : Fun K "spread" "spread" s_spread f fd) (m_len : mg "len" = none) : FnOk P w K mg base CX0 1 f fd ["nearby", "cell", "passing"] spSpread := by
  refine F.ok sc_spread (fun vs H Q E h => ?_) (fun cdv A outer s H vs Q E hr h => ?_)
  · obtain ⟨nb, ts, Nb, c, pa, ps, rfl, _⟩ := h
    rfl
  · obtain ⟨nb, ts, Nb, c, pa, ps, rfl, hnb, tN, hpa, h5, hc, hlt, q⟩ := h
    refine ⟨_, (pss_cons (ps_set (i := 3) sc_spread.nd rfl (by first | exact Or.inl rfl | exact Or.inr rfl) (pe_lst (pa_cons (pv 1) pa_nil)))
 (pss_cons (ps_set (i := 4) sc_spread.nd rfl (by first | exact Or.inl rfl | exact Or.inr rfl) pe_int)
 (pss_cons (ps_while PassesOwn.never (pt_cmpR op_lt (pv 4) (pe_callB call_len_seq (by rfl) m_len boot_len (pa_cons (pv 3) pa_nil)) (nomark _))
  (pss_cons (ps_set (i := 5) sc_spread.nd rfl (by first | exact Or.inl rfl | exact Or.inr rfl) (pe_ix ix_list (pv 3) (pv 4) (fun _ _ => rfl)))
 (pss_cons (ps_for PassesOwn.never rfl (pi_tup (pe_ix ix_tup (pv 0) (pv 5) (fun _ _ => rfl))) (pg_name (i := 6) sc_spread.nd rfl (by first | exact Or.inl rfl | exact Or.inr rfl))
  (pss_one (ps_if (pw_and (pt_cmpR op_in_seq (pv 6) (pv 2) (by with_unfolding_all rfl)) (pw_and1 (pt_cmpR op_notIn_seq (pv 6) (pv 3) (by with_unfolding_all rfl)))).pt
  (pss_one (ps_expr (pe_bm PySem.F.plainAttrs_list PySem.F.slot_list_append PySem.F.type_list_append mt_append (pv 3) (pa_cons (pv 6) pa_nil))))
  pss_nil)))
 (pss_one (ps_aug (i := 4) sc_spread.nd rfl (by first | exact Or.inl rfl | exact Or.inr rfl) pe_int ip_add)))))
 (pss_one (ps_ret (pv 3)))))), ?_⟩
    refine ⟨_, rfl, by show 1 ≤ sizeLine; decide, fun F0 nF => ?_⟩
    refine ⟨SpInv H nb pa F0 Nb ps c, ⟨Nb.length, [c], 0, none, none, rfl, ?_, upd_same, ?_, List.mem_singleton.mpr rfl, ?_, Nat.zero_le _, ?_, rfl, fun x hx => by rw [List.mem_singleton.mp hx]; exact .base⟩, fun m σ' H' wv => ?_⟩
    · exact fun b o hb e => by rw [upd_ne hb]; exact e
    · exact List.nodup_cons.mpr ⟨List.not_mem_nil, List.nodup_nil⟩
    · intro x hx
      rw [List.mem_singleton] at hx
      rw [hx]
      exact hc
    · exact fun i a hi => absurd hi (Nat.not_lt_zero _)
    · obtain ⟨fd, d, y5, y6, rfl, bt, hF, nd, hcm, lt, hd, cl, hm, so⟩ := wv
      have h1 : fd.length ≤ Nb.length := by
        have z := K7E.nodup_le fd (List.range Nb.length) nd fun x hx => List.mem_range.mpr (lt x hx)
        rw [List.length_range] at z
        exact z
      refine ⟨_, rfl, _, rfl, F0, _, rfl, .inl (.inl (.inl hF)), _, _, rfl, rfl, _, rfl, ite2 (fun c1 => ?_) (fun c1 => ?_)⟩
      · have c1' : d < fd.length := by
          have z : ((d : Nat) : Int) < (((ints_ fd).length : Nat) : Int) := of_decide_eq_true c1
          rw [show (ints_ fd).length = fd.length from List.length_map ..] at z
          omega
        refine ⟨SpInv H nb pa F0 Nb ps c (m - 1), fun σ2 H2 z => ⟨m - 1, by omega, z⟩, ?_⟩
        obtain ⟨a, ea⟩ : ∃ a, fd[d]? = some a := ⟨_, List.getElem?_eq_getElem c1'⟩
        have ma := List.mem_of_getElem? ea
        have la := lt a ma
        obtain ⟨l, el⟩ : ∃ l, Nb[a]? = some l := ⟨_, List.getElem?_eq_getElem la⟩
        have ltsl : a < ts.length := by rw [tN.len]; exact la
        obtain ⟨t, et⟩ : ∃ t, ts[a]? = some t := ⟨_, List.getElem?_eq_getElem ltsl⟩
        obtain ⟨l', el', ht⟩ := tN.get et
        have : l' = l := by rw [el] at el'; injection el' with e; exact e.symm
        subst this
        have sm : Same H H' := fun b o hb => bt b o (ne_of_none hb nF) hb
        refine ⟨_, rfl, _, rfl, F0, _, _, .int (a : Nat), rfl, rfl, .inl (.inl hF), atI_nat (by unfold ints_; rw [List.getElem?_map, ea]; rfl), ?_⟩
        refine ⟨_, rfl, _, rfl, nb, _, _, .ref t, rfl, rfl, .inl (.inl (sm _ _ hnb)), atI_nat (by rw [List.getElem?_map, et]; rfl), t, rfl, ⟨_, .inl (.inl (sm _ _ ht))⟩, for_tup (xs := ints_ l') (fun j σ2 H2 => ∃ (fd2 r : List Nat) (y6 : Option V), σ2 = [some (.ref nb), some (.int (c : Nat)), some (.ref pa), some (.ref F0), some (.int (d : Nat)), some (.int (a : Nat)), y6] ∧ But F0 H H2 ∧ H2 F0 = some (.lst (ints_ fd2)) ∧ fd2.Nodup ∧ fd2 = fd ++ r ∧ (∀ x ∈ fd2, x < Nb.length) ∧ (∀ b ∈ l'.take j, b ∈ ps → b ∈ fd2) ∧ ∀ x ∈ fd2, KL.Rch (nbE Nb) ps c x)
          ⟨fd, [], y6, rfl, bt, hF, nd, (List.append_nil _).symm, lt, fun b hb => (by cases hb), so⟩ (fun j σ2 H2 _ pv => ?_) (fun j x σ2 H2 hx pv => ?_) (fun σ2 H2 pv => ?_)⟩
        · obtain ⟨fd2, r, y6, _, bt2, _⟩ := pv
          exact .inl (.inl (bt2 t _ (ne_of_none ht nF) ht))
        · obtain ⟨fd2, r, y6, rfl, bt2, hF2, nd2, rfl, lt2, cl2, so2⟩ := pv
          have sm2 : Same H H2 := fun b o hb => bt2 b o (ne_of_none hb nF) hb
          unfold ints_ at hx
          rw [List.getElem?_map] at hx
          obtain ⟨b, eb, rfl⟩ := Option.map_eq_some_iff.mp hx
          have hbl := hlt l' (List.mem_of_getElem? el) b (List.mem_of_getElem? eb)
          have tk : l'.take (j + 1) = l'.take j ++ [b] := by rw [List.take_add_one, eb]; rfl
          refine ⟨_, rfl, _, rfl, pa, _, rfl, (hpa.same sm2).sq, rfl, flat_ints ps, _, rfl, ite2 (fun q1 => ?_) (fun q1 => ?_)⟩
          · have q1' : b ∈ ps := of_decide_eq_true ((inV_ints b ps).symm.trans q1)
            refine ⟨_, rfl, _, rfl, F0, _, rfl, .inl (.inl (.inl hF2)), rfl, flat_ints _, _, rfl, ite2 (fun q2 => ?_) (fun q2 => ?_)⟩
            · have q2' : b ∉ fd ++ r := by
                intro hb2
                have z : (!inV (.int (b : Nat)) (ints_ (fd ++ r))) = true := q2
                rw [inV_ints, decide_eq_true hb2] at z
                cases z
              have hl2 : (fd ++ r).length ≤ 5 := by
                have z := K7E.nodup_le (fd ++ r) (List.range Nb.length) nd2 fun x hx => List.mem_range.mpr (lt2 x hx)
                rw [List.length_range] at z
                omega
              refine ⟨_, rfl, .inl ⟨rfl, _, .inl (.inl hF2)⟩, _, rfl, F0, _, _, rfl, rfl, hF2, by unfold ints_; rw [List.length_map]; exact small1000 (by omega), ?_⟩
              refine ⟨(fd ++ r) ++ [b], r ++ [b], some (.int (b : Nat)), rfl, fun b' o hb' e => by rw [upd_ne hb']; exact bt2 b' o hb' e, by rw [upd_same]; exact congrArg (fun z => some (HO.lst z)) (List.map_append (f := fun c : Nat => V.int (c : Nat)) (l₁ := fd ++ r) (l₂ := [b])).symm, ?_, List.append_assoc .., fun x hx => ?_, fun x hx hp => ?_, fun x hx => ?_⟩
              · exact List.nodup_append.mpr ⟨nd2, List.nodup_cons.mpr ⟨List.not_mem_nil, List.nodup_nil⟩, fun a' ha' b' hb' e => by rw [List.mem_singleton] at hb'; exact q2' (by rw [← hb', ← e]; exact ha')⟩
              · rcases List.mem_append.mp hx with hx | hx
                · exact lt2 x hx
                · rw [List.mem_singleton] at hx
                  rw [hx]
                  exact hbl
              · rw [tk] at hx
                rcases List.mem_append.mp hx with hx | hx
                · exact List.mem_append_left _ (cl2 x hx hp)
                · exact List.mem_append_right _ hx
              · rcases List.mem_append.mp hx with hx | hx
                · exact so2 x hx
                · rw [List.mem_singleton.mp hx]
                  exact .step (so a ma) ⟨_, el, List.mem_of_getElem? eb⟩ q1'
            · have q2' : b ∈ fd ++ r := by
                refine Classical.byContradiction fun hn => q2 ?_
                show (!inV (.int (b : Nat)) (ints_ (fd ++ r))) = true
                rw [inV_ints, decide_eq_false hn]
                rfl
              refine ⟨fd ++ r, r, some (.int (b : Nat)), rfl, bt2, hF2, nd2, rfl, lt2, fun x hx hp => ?_, so2⟩
              rw [tk] at hx
              rcases List.mem_append.mp hx with hx | hx
              · exact cl2 x hx hp
              · rw [List.mem_singleton] at hx
                rw [hx]
                exact q2'
          · have q1' : b ∉ ps := fun hb => q1 ((inV_ints b ps).trans (decide_eq_true hb))
            refine iteF ?_
            refine ⟨fd ++ r, r, some (.int (b : Nat)), rfl, bt2, hF2, nd2, rfl, lt2, fun x hx hp => ?_, so2⟩
            rw [tk] at hx
            rcases List.mem_append.mp hx with hx | hx
            · exact cl2 x hx hp
            · rw [List.mem_singleton] at hx
              rw [hx] at hp
              exact absurd hp q1'
        · obtain ⟨fd2, r, y6, rfl, bt2, hF2, nd2, rfl, lt2, cl2, so2⟩ := pv
          rw [show (ints_ l').length = l'.length from List.length_map .., List.take_length] at cl2
          refine ⟨_, rfl, _, _, rfl, rfl, ?_⟩
          refine ⟨fd ++ r, d + 1, some (.int (a : Nat)), y6, rfl, bt2, hF2, nd2, List.mem_append_left _ hcm, lt2, by rw [List.length_append]; omega, fun i a' hi ea' l2 el2 b hb hp => ?_, by omega, so2⟩
          rw [List.getElem?_append_left (by omega)] at ea'
          rcases Nat.lt_or_ge i d with hid | hid
          · exact List.mem_append_left _ (cl i a' hid ea' l2 el2 b hb hp)
          · have : i = d := by omega
            subst this
            rw [ea] at ea'
            injection ea' with e3
            subst e3
            rw [el] at el2
            injection el2 with e4
            subst e4
            exact cl2 b hb hp
      · have c1' : ¬ d < fd.length := fun z => c1 (decide_eq_true (by rw [show (ints_ fd).length = fd.length from List.length_map ..]; omega))
        refine ⟨_, rfl, q H' F0 fd (fun b o hb => bt b o (ne_of_none hb nF) hb) nF hF ⟨nd, hcm, lt, fun a ha l hl b hb hp => ?_, so⟩⟩
        obtain ⟨i, hi, e⟩ := List.getElem_of_mem ha
        exact cl i a (by omega) (by rw [List.getElem?_eq_getElem hi, e]) l hl b hb hp
end
end K7
end
/-! ## P8 -/
section
open PySem PySem.Spec PyProof.Rows L2
namespace K7
abbrev N_nearby_cells : List Str := ["cells", "couples", "b", "a"]
abbrev s_nearby_cells : Stmt := topS 16
theorem sc_nearby_cells : FnScope ["cells", "couples", "b", "a"] ["cells", "couples"] (defScope s_nearby_cells) := ⟨rfl, rfl, rfl, by decide +kernel, rfl, by decide +kernel, by decide +kernel⟩
abbrev scA : Scope := { kind := ScopeKind.function, names := [(".0", NameKind.local), ("a", NameKind.cell), ("tuple", NameKind.globalImplicit), ("range", NameKind.globalImplicit), ("cells", NameKind.cell), ("couples", NameKind.cell)], isGenerator := false, isCoroutine := false }
def rTup_ (K : PySem.W.Frag) : List V → Hp → VK → Prop := fun xs H Q => ∃ p ys, xs = [V.ref p] ∧ ((SqL K H p ys ∧ ∀ l, H l = none → Q (.ref l) (upd H l (.tup ys))) ∨ SqT K H p ys ∧ Q (.ref p) H)
section
variable {P : Program} {w : World} {K : PySem.W.Frag} {mg : Str → Option Value} {base : Heap}
/-- the neighbours of each cell -/
def nearV (n : Nat) (es : List (Nat × Nat)) : List (List Nat) := (List.range n).map fun a => (List.range n).filter fun b => decide ((a, b) ∈ es) || decide ((b, a) ∈ es)
theorem ints_snoc (l : List Nat) (j : Nat) : ints_ (l ++ [j]) = ints_ l ++ [.int (j : Nat)] := by
  unfold ints_
  rw [List.map_append]
  rfl
theorem range_filter (p : Nat → Bool) (j : Nat) : (List.range (j + 1)).filter p = (List.range j).filter p ++ (if p j = true then [j] else []) := by
  rw [List.range_succ, List.filter_append, List.filter_cons]
  rfl
theorem dp_two {H : Hp} (k j : Nat) : DpAll K H [.int (0 + (k : Nat)), .int (0 + (j : Nat))] [.int (k : Nat), .int (j : Nat)] := by
  rw [Int.zero_add, Int.zero_add]
  exact .cons (.int _) (.cons (.int _) .nil)
def spNear : Sp := fun vs H Q _ => ∃ (n : Nat) (ca : Addr) (ts : List Addr) (es : List (Nat × Nat)), vs = [.int n, .ref ca] ∧ n ≤ 5 ∧ H ca = some (.lst (ts.map V.ref)) ∧ TAt H ts (pairs es) ∧ es.length ≤ 32 ∧
  ∀ H' q us, Same H H' → H q = none → H' q = some (.tup (us.map V.ref)) → TAt H' us (nearV n es) → Q (.ref q) H'
theorem ok_near {f : Addr} {fd : FuncData} (F : Fun K "nearby_cells" "nearby_cells" s_nearby_cells f fd) (m_range : mg "range" = none) (m_tuple : mg "tuple" = none) : FnOk P w K mg base CX0 1 f fd ["cells", "couples"] spNear := by
  refine F.ok sc_nearby_cells (fun vs H Q E h => ?_) (fun cdv A outer s H vs Q E hr h => ?_)
  · obtain ⟨n, ca, ts, es, rfl, _⟩ := h
    rfl
  · obtain ⟨n, ca, ts, es, rfl, hn, hca, tE, h32, q⟩ := h
    refine ⟨_, (pss_one (ps_ret (pe_callTy call_tuple_of (by rfl) m_tuple boot_tuple (pa_cons (pe_lc (own := [("a", 3)]) (g := gName 3) (tt := tYes) rfl sc_nearby_cells.nd (pi_range1 rfl m_range (pa_cons (pv 0) pa_nil)) (blkOk_by (own := [("a", 3)]) (N := N_nearby_cells) (sc := defScope s_nearby_cells) (by decide +kernel)) (fun _ _ _ _ _ => (pg_name (i := 3) sc_nearby_cells.nd rfl (by first | exact Or.inl rfl | exact Or.inr rfl))) (fun _ _ _ _ _ => pts_nil) (fun _ _ _ _ _ => (pe_callTy (show CallR _ (.type "tuple") (rTup_ K) from call_tuple_of) (by rfl) m_tuple boot_tuple (pa_cons (pe_lc (own := [("b", 2)]) (g := gName 2) rfl sc_nearby_cells.nd (pi_range1 rfl m_range (pa_cons (pv 0) pa_nil)) (blkOk_by (own := [("b", 2)]) (N := N_nearby_cells) (sc := scA) (by decide +kernel)) (fun _ _ _ _ _ => (pg_name (i := 2) sc_nearby_cells.nd rfl (by first | exact Or.inl rfl | exact Or.inr rfl))) (fun _ _ _ _ _ => (pts_one (PW.pt (pw_or (pt_cmpR (show OpR _ _ (rInD K) from op_inD (K7L.hu65 hr)) (pe_tup (pa_cons (pv 3) (pa_cons (pv 2) pa_nil))) (pv 1) (by with_unfolding_all rfl)) (pw_or1 (pt_cmpR (show OpR _ _ (rInD K) from op_inD (K7L.hu65 hr)) (pe_tup (pa_cons (pv 2) (pa_cons (pv 3) pa_nil))) (pv 1) (by with_unfolding_all rfl))))))) (fun _ _ _ _ _ => (pv 2))) pa_nil)))) pa_nil)))), ?_⟩
    refine ⟨_, rfl, _, rfl, by omega, by omega, fun D hD => lc_range (lo := 0) (n := n) (fun i H1 => Same H H1 ∧ ∃ us : List Addr, H1 D = some (.lst (us.map V.ref)) ∧ TAt H1 us ((nearV n es).take i) ∧ us.length ≤ i) ⟨same_new (Same.refl H) hD, [], upd_same, .nil, Nat.le_refl _⟩ (fun i H1 hi pv => ?_) (fun H1 pv => ?_)⟩
    · obtain ⟨e1, us, hD1, tU, lu⟩ := pv
      refine ⟨rfl, _, rfl, _, rfl, by omega, by omega, fun D2 hD2 => lc_range (lo := 0) (n := n) (fun j H2 => Same H1 H2 ∧ H2 D2 = some (.lst (ints_ ((List.range j).filter fun b => decide ((i, b) ∈ es) || decide ((b, i) ∈ es))))) ⟨same_new (Same.refl H1) hD2, upd_same⟩ (fun j H2 hj pv => ?_) (fun H2 pv => ?_)⟩
      · obtain ⟨e2, h2⟩ := pv
        have eA := e1.trans e2
        refine ⟨rfl, _, rfl, _, rfl, by show 2 ≤ sizeLine; decide, fun t nt => ?_⟩
        have s3 := same_new (o := .tup [.int (0 + (i : Nat)), .int (0 + (j : Nat))]) (Same.refl H2) nt
        refine ⟨_, rfl, intD [i, j], _, .tup (xs := [.int (0 + (i : Nat)), .int (0 + (j : Nat))]) (.inl (.inl upd_same)) (dp_two i j), .lst (.inl (.inl (s3 _ _ (eA _ _ hca)))) (dp_rows (tE.same (eA.trans s3))), shaped_ints _, shaped_rows _, ?_⟩
        rw [any_rows]
        have e2b := e2
        refine ⟨_, rfl, ite2 (fun q1 => ?_) (fun q1 => ?_)⟩
        · have g : ∀ {b : Addr} {o : HO}, H2 b = some o → upd H2 t (.tup [.int (0 + (i : Nat)), .int (0 + (j : Nat))]) b = some o := fun hb => s3 _ _ hb
          refine ⟨_, rfl, _, g h2, by unfold ints_; rw [List.length_map]; exact small1000 (Nat.le_trans (List.length_filter_le _ _) (by rw [List.length_range]; omega)), fun b o hb => ?_, ?_⟩
          · rw [upd_ne (ne_of_none hb hD2)]
            exact g (e2 _ _ hb)
          · rw [upd_same, range_filter, if_pos (by rw [q1]; rfl), Int.zero_add]
            rw [ints_snoc]
        · refine ⟨_, rfl, _, rfl, by show 2 ≤ sizeLine; decide, fun t2 nt2 => ?_⟩
          have s4 := same_new (o := .tup [.int (0 + (j : Nat)), .int (0 + (i : Nat))]) s3 nt2
          refine ⟨_, rfl, intD [j, i], _, .tup (xs := [.int (0 + (j : Nat)), .int (0 + (i : Nat))]) (.inl (.inl upd_same)) (dp_two j i), .lst (.inl (.inl (s4 _ _ (eA _ _ hca)))) (dp_rows (tE.same (eA.trans s4))), shaped_ints _, shaped_rows _, ?_⟩
          rw [any_rows]
          refine ⟨_, rfl, ite2 (fun q2 => ?_) (fun q2 => ?_)⟩
          · refine ⟨_, rfl, _, s4 _ _ h2, by unfold ints_; rw [List.length_map]; exact small1000 (Nat.le_trans (List.length_filter_le _ _) (by rw [List.length_range]; omega)), fun b o hb => ?_, ?_⟩
            · rw [upd_ne (ne_of_none hb hD2)]
              exact s4 _ _ (e2 _ _ hb)
            · rw [upd_same, range_filter, if_pos (by rw [q2, Bool.or_true]), Int.zero_add]
              rw [ints_snoc]
          · refine ⟨e2.trans s4, ?_⟩
            rw [range_filter, if_neg (by rw [Bool.eq_false_iff.mpr q1, Bool.eq_false_iff.mpr q2]; decide), List.append_nil]
            exact s4 _ _ h2
      · obtain ⟨e2, h2⟩ := pv
        have eA := e1.trans e2
        refine ⟨D2, _, rfl, .inl ⟨.inl (.inl h2), fun l nl => ?_⟩⟩
        have s4 := same_new (o := .tup (ints_ ((List.range n).filter fun b => decide ((i, b) ∈ es) || decide ((b, i) ∈ es)))) (Same.refl H2) nl
        have hD4 := s4 _ _ (e2 _ _ hD1)
        have tk : (nearV n es).take (i + 1) = (nearV n es).take i ++ [(List.range n).filter fun b => decide ((i, b) ∈ es) || decide ((b, i) ∈ es)] := by
          rw [List.take_add_one]
          congr 1
          unfold nearV
          rw [List.getElem?_map, List.getElem?_range hi]
          rfl
        have up : ∀ b xs, upd H2 l (.tup (ints_ ((List.range n).filter fun b => decide ((i, b) ∈ es) || decide ((b, i) ∈ es)))) b = some (.tup xs) → upd (upd H2 l (.tup (ints_ ((List.range n).filter fun b => decide ((i, b) ∈ es) || decide ((b, i) ∈ es))))) D (.lst (us.map V.ref ++ [.ref l])) b = some (.tup xs) := fun b xs hb => by
          rw [upd_ne (fun z => by rw [z, hD4] at hb; cases hb)]
          exact hb
        refine ⟨_, hD4, by rw [List.length_map]; exact small1000 (by omega), fun b o hb => ?_, us ++ [l], by rw [upd_same, List.map_append]; rfl, ?_, by rw [List.length_append, List.length_singleton]; omega⟩
        · rw [upd_ne (ne_of_none hb hD)]
          exact s4 _ _ (eA _ _ hb)
        · rw [tk]
          exact ((tU.same (e2.trans s4)).mono up).append (.cons (up _ _ upd_same) .nil)
    · obtain ⟨e1, us, hD1, tU, lu⟩ := pv
      rw [List.take_of_length_le (by unfold nearV; rw [List.length_map, List.length_range]; exact Nat.le_refl _)] at tU
      refine ⟨D, _, rfl, .inl ⟨.inl (.inl hD1), fun l nl => ?_⟩⟩
      have s3 := same_new (o := .tup (us.map V.ref)) e1 nl
      refine q _ l us s3 (e1.free nl) upd_same (tU.same (same_new (Same.refl H1) nl))
end
end K7
end
/-! ## P9 -/
section
open PySem PySem.Spec PyProof.Rows L2
namespace K7
abbrev N_hang_together : List Str := ["cells", "couples"]
abbrev s_hang_together : Stmt := topS 17
theorem sc_hang_together : FnScope ["cells", "couples"] ["cells", "couples"] (defScope s_hang_together) := ⟨rfl, rfl, rfl, by decide +kernel, rfl, by decide +kernel, by decide +kernel⟩
section
variable {P : Program} {w : World} {K : PySem.W.Frag} {mg : Str → Option Value} {base : Heap}
def spHang : Sp := fun vs H Q _ => ∃ (n : Nat) (ca : Addr) (ts : List Addr) (es : List (Nat × Nat)), vs = [.int n, .ref ca] ∧ 0 < n ∧ n ≤ 5 ∧ H ca = some (.lst (ts.map V.ref)) ∧ TAt H ts (pairs es) ∧ es.length ≤ 32 ∧
  (∀ e ∈ es, e.1 < n ∧ e.2 < n) ∧ KL.Conn n es ∧ ∀ H', Same H H' → Q (.bl true) H'
theorem ok_hang {f fN fS : Addr} {fd fdN fdS : FuncData} (F : Fun K "hang_together" "hang_together" s_hang_together f fd)
    (Gnc : FnOk P w K mg base CX0 1 fN fdN ["cells", "couples"] spNear) (gnc : mg "nearby_cells" = some (.ref fN)) (knc : PySem.W.keepIn K (.ref fN) = true) (bnc : Binds K fdN ["cells", "couples"] [])
    (Gsp : FnOk P w K mg base CX0 1 fS fdS ["nearby", "cell", "passing"] spSpread) (gsp : mg "spread" = some (.ref fS)) (ksp : PySem.W.keepIn K (.ref fS) = true) (bsp : Binds K fdS ["nearby", "cell", "passing"] [])
    (m_len : mg "len" = none) (m_list : mg "list" = none) (m_range : mg "range" = none) : FnOk P w K mg base CX0 2 f fd ["cells", "couples"] spHang := by
  refine F.ok sc_hang_together (fun vs H Q E h => ?_) (fun cdv A outer s H vs Q E hr h => ?_)
  · obtain ⟨n, ca, ts, es, rfl, _⟩ := h
    rfl
  · obtain ⟨n, ca, ts, es, rfl, n0, hn, hca, tE, h32, elt, cn, q⟩ := h
    refine ⟨_, (pss_one (ps_ret (pe_cmpR op_eq (pe_callB call_len_seq (by rfl) m_len boot_len (pa_cons (pe_call Gsp (hr.mono (by decide)) (by rfl) gsp ksp bsp .nil pass0 (pa_cons (pe_call Gnc (hr.mono (by decide)) (by rfl) gnc knc bnc .nil pass0 (pa_cons (pv 0) (pa_cons (pv 1) pa_nil))) (pa_cons pe_int (pa_cons (pe_callTy (K7E.cr_list_rng rfl) (by rfl) m_list boot_list (pa_cons (pe_callTy K7E.cr_range1 (by rfl) m_range boot_range (pa_cons (pv 0) pa_nil)) pa_nil)) pa_nil)))) pa_nil)) (pv 0) (nomark _)))), ?_⟩
    refine ⟨_, rfl, _, rfl, n, ca, ts, es, rfl, hn, hca, tE, h32, fun H1 nb us e1 nf1 hnb tU => ?_⟩
    refine ⟨_, rfl, n, rfl, fun p1 np1 => ?_⟩
    refine ⟨p1, n, rfl, upd_same, by omega, fun p2 np2 => ?_⟩
    have s1 := same_new (o := .rng 0 n) (Same.refl H1) np1
    have s2 := same_new (o := .lst (K7E.upTo n)) s1 np2
    have hps : upd (upd H1 p1 (.rng 0 n)) p2 (.lst (K7E.upTo n)) p2 = some (.lst (ints_ (List.range n))) := upd_same
    generalize upd (upd H1 p1 (.rng 0 n)) p2 (.lst (K7E.upTo n)) = H2 at s2 hps ⊢
    have ln : (nearV n es).length = n := by unfold nearV; rw [List.length_map, List.length_range]
    have hget : ∀ a, a < n → (nearV n es)[a]? = some ((List.range n).filter fun b => decide ((a, b) ∈ es) || decide ((b, a) ∈ es)) := fun a ha => by
      unfold nearV
      rw [List.getElem?_map, List.getElem?_range ha]
      rfl
    refine ⟨nb, us, nearV n es, 0, p2, List.range n, rfl, s2 _ _ hnb, tU.same s2, .inr hps, by rw [ln]; exact hn, by rw [ln]; exact n0, fun l hl x hx => ?_, fun H3 qa fd e3 nq hq fo => ?_⟩
    · rw [ln]
      unfold nearV at hl
      obtain ⟨a, _, rfl⟩ := List.mem_map.mp hl
      exact List.mem_range.mp (List.mem_filter.mp hx).1
    · have hlt : ∀ x ∈ fd, x < n := fun x hx => by have z := fo.lt x hx; rw [ln] at z; exact z
      have all := KL.conn_closed cn fo.me fun a b hab ha => by
        have hb : b < n := by
          rcases hab with z | z
          · exact (elt _ z).2
          · exact (elt _ z).1
        refine fo.cl a ha _ (hget a (hlt a ha)) b (List.mem_filter.mpr ⟨List.mem_range.mpr hb, ?_⟩) (List.mem_range.mpr hb)
        rcases hab with z | z
        · rw [decide_eq_true z]; rfl
        · rw [decide_eq_true z, Bool.or_true]
      have len := KL.all_len fo.nd hlt all
      refine ⟨qa, _, rfl, .inl (.inl (.inl hq)), _, rfl, rfl, ?_⟩
      have lq : (ints_ fd).length = n := by unfold ints_; rw [List.length_map]; exact len
      rw [lq, decide_eq_true rfl]
      exact q H3 (e1.trans (s2.trans e3))
end
end K7
end
/-! ## ES -/
section
/-! A set comprehension of tuples of ints, and how many there are in such a set. -/
namespace K7S
open PySem PySem.Spec PyProof.Rows L2
abbrev eS (w : World) : Obj := { cls := .type "set", dict := none, data := .set #[] 0 (.fresh 0 0 (!w.params.followText "set-order")) }
abbrev eD : Obj := { cls := .type "dict", data := .dict #[] }
section
variable {X : Cx}
/-- one more tuple -/
theorem addT_ok {pins : List (Addr × Obj)} {τ : L2.St} {H : Hp} {s : Shared} {E : Value → Shared → Prop} {D t : Addr} {L : List (Addr × List Int)} {k : List Int} {Q : Value → Shared → Prop} (I : Inv X pins τ H s) (hD : H D = some (SetTO X.prog X.w D L)) (ht : ∀ p ∈ L, SqT X.K H p.1 (p.2.map V.int)) (hy : SqT X.K H t (k.map V.int)) (hf : L.length + 1 < 64) (hu : X.A.units + 1 < cLine)
    (h : ∀ s' L', (k ∈ L.map (·.2) → L' = L) → (k ∉ L.map (·.2) → L'.Perm ((t, k) :: L)) → Inv X pins τ (upd H D (SetTO X.prog X.w D L')) s' → Q .none s') : wpAny (model X.prog X.w) X.A (call (.builtin "set.add") [.ref D, .ref t]) Q E s := by
  obtain ⟨es, ep, tb, R⟩ := SetT0.full (I.hok D _ hD).1 fun p hp => I.isT (ht p hp)
  obtain ⟨o, ho, hex, hd⟩ := id R.ob
  have hT : s.TypeIs (.ref D) "set" := ⟨o, ho, hex.1⟩
  refine wpAny_call_entry F.slot_set_add hT F.entry_set_add ?_ (F.args_set_add_2 _ _)
  unfold Builtin.«set.add» Builtin.Frozenset.oneOther
  simp only [List.isEmpty_nil, bind_assoc]
  unfold Builtin.Frozenset.addrOf setAdd
  refine wpAny_bind (wpAny_pure ?_)
  try dsimp only
  refine wpAny_bind (wpAny_pure ?_)
  try dsimp only
  refine wpAny_bind (wpAny_holding (wpAny_bind (wpAny_pyHash_tuple (show X.A.units + 1 < cLine from hu) (I.isT hy) ?_)))
  refine add_at (s := { s with toks := s.toks + (k.length + 1) }) R (I.isT hy) (show X.A.units + 1 < cLine from hu) hf fun b h' L' es' ep' tb' sb R' c1 c2 => ?_
  show wpAny _ _ (ret Value.none) _ _ _
  obtain ⟨o', ho', _⟩ := id R'.ob
  exact wpAny_pure ⟨_, rfl, h _ L' c1 c2 (I.write (e := D) (t' := s.toks + (k.length + 1)) (by rw [hD]; trivial) (.inl rfl) (fun b u hb hu => (sb.2 b hb).trans hu) ⟨o', ho'⟩ (setTO_new R'.t0))⟩
/-- how many -/
theorem call_lenT : CallR X (.builtin "len") (fun xs H Q => ∃ a L, xs = [V.ref a] ∧ H a = some (SetTO X.prog X.w a L) ∧ (∀ p ∈ L, SqT X.K H p.1 (p.2.map V.int)) ∧ Q (.int (L.length : Nat)) H) := by
  intro pins s τ H xs us Q I r h
  obtain ⟨a, L, rfl, ha, ht, q⟩ := h
  rw [Vals.ref1 r]
  obtain ⟨es, ep, tb, R⟩ := SetT0.full (I.hok a _ ha).1 fun p hp => I.isT (ht p hp)
  obtain ⟨o, ho, hex, hd⟩ := id R.ob
  have n1 := R.size
  have n2 := R.few
  exact call_len_set ho hex hd R.fits (by omega) ⟨.int (L.length : Nat), H, I.tok _, ⟨_, by rw [n1]⟩, q⟩
/-- {elt for target in iter}, elt a tuple of ints: D the new set -/
def tSt (P : Program) (w : World) (K : PySem.W.Frag) (wi : TI) (g : TG) (te : TE) (vs : List Nat) : TE := fun τ H Q => wi τ H fun J H1 => ∀ D, H1 D = none → ∃ W : Nat → Nat → Hp → Prop, (∃ m, W 0 m (upd H1 D (SetTO P w D []))) ∧ ∀ i m H, W i m H →
  (J.stop i H ∧ Q (.ref D) H) ∨ (J.go i H ∧ ∃ Nx : Hp → Prop, (∀ H', Nx H' → ∃ m', m' < m ∧ W (i + 1) m' H') ∧ ∀ x H', J.yld i H x H' → g x (wipe τ vs) H' fun τ2 H3 => wipe τ2 vs = wipe τ vs ∧
    te τ2 H3 fun y H4 => ∃ (t : Addr) (k : List Int) (L : List (Addr × List Int)), y = .ref t ∧ SqT K H4 t (k.map V.int) ∧ H4 D = some (SetTO P w D L) ∧ (∀ p ∈ L, SqT K H4 p.1 (p.2.map V.int)) ∧ L.length + 1 < 64 ∧
      ∀ L', (k ∈ L.map (·.2) → L' = L) → (k ∉ L.map (·.2) → L'.Perm ((t, k) :: L)) → Nx (upd H4 D (SetTO P w D L')))
theorem fresh0 (P : Program) (w : World) (h : Heap) : SetT0 P w (h.push (eS w)) h.objs.size [] := (setTR_fresh (P := P) (w := w) (h := h.push (eS w)) (a := h.objs.size) (Heap.get?_push_size _ rfl)).t0
/-- as a value -/
theorem pe_st {elt tg iter : Expr} {scope : Scope} {own : List (PySem.Str × Nat)} {pos : Pos} {wi : TI} {g : TG} {te : TE} (hc : X.calm = true) (hu : X.A.units + 1 < cLine) (hN : X.N.Nodup) (hi : PI X tg iter wi) (ok : BlkOk X.N X.env.scope scope own)
    (hg : ∀ (s : Shared) (H : Hp) (C : Addr) (cl : List (PySem.Str × Addr)) (fp : List Addr), PG (X.blk s H scope (compEnvC scope cl C X.env) fp) tg g) (he : ∀ (s : Shared) (H : Hp) (C : Addr) (cl : List (PySem.Str × Addr)) (fp : List Addr), PE (X.blk s H scope (compEnvC scope cl C X.env) fp) elt te)
    (hs : ∀ x, foldedSetIterable iter X.env x = pure x := by intro _; rfl) : PE X (.SetComp elt [⟨tg, iter, [], 0⟩] scope pos) (tSt X.prog X.w X.K wi g te (own.map (·.2))) := by
  refine ⟨fun pins s τ H Q I h => ?_⟩
  rw [PpSet.eval_SetComp]
  have hfree : ∀ z ∈ scope.names, z.2 = .free → ∃ c, X.env.cells.lookup z.1 = some c := fun z hz e => (ok.free z hz e).elim (fun k => I.ok.has _ (.inl k)) fun k => I.ok.has _ (.inr k)
  refine wpAny_comprehension_free (use := none) rfl hs (closure_ok hfree) ok.kind (fun z hz e => by rw [ok.uniq z hz, e]) (thn (hi.run pins s τ H _ I h) fun xv s1 hx => thn hx fun itv s2 z2 => ?_)
  obtain ⟨it, fp, tn, J, H2, rfl, I2, T, st2, f2, q⟩ := z2
  refine PpSet.newSet_ok (newEnv_comp ?_)
  show codeAny _ _ (.compStart (.SetComp elt [⟨tg, iter, [], 0⟩] scope pos) 0 (.ref it) (.ref s2.heap.objs.size) (compEnvC scope (cellsFrom ((s2.heap.push (eS X.w)).objs.size + 1) scope.names (cloFrom X.env.cells scope.names [])) (s2.heap.push (eS X.w)).objs.size X.env)) _ { s2 with heap := pushCells ((s2.heap.push (eS X.w)).push eD) scope.names }
  have nD : H2 s2.heap.objs.size = none := I2.hok.fresh (Nat.le_refl _)
  have IS : Inv X pins τ (upd H2 s2.heap.objs.size (SetTO X.prog X.w s2.heap.objs.size [])) { s2 with heap := s2.heap.push (eS X.w) } := I2.laid (t' := s2.toks) (fun b o e => Heap.get?_push_of_some _ e) (Nat.le_refl _) (setTO_new (fresh0 _ _ _))
  have stS : tn 0 (s2.heap.push (eS X.w)) := T.keep _ _ _ st2 fun b _ o e => Heap.get?_push_of_some _ e
  have fS : ∀ b ∈ fp, FpOk X pins (upd H2 s2.heap.objs.size (SetTO X.prog X.w s2.heap.objs.size [])) b ∧ b < (s2.heap.push (eS X.w)).objs.size := fun b hb => by
    obtain ⟨o, e, _⟩ := T.obj _ _ st2 b hb
    have l1 := Heap.lt_size e
    exact ⟨⟨by rw [upd_ne (Nat.ne_of_lt l1)]; exact (f2 b hb).1, (f2 b hb).2⟩, by rw [Heap.size_push]; exact Nat.lt_succ_of_lt l1⟩
  obtain ⟨W, ⟨m0, w0⟩, turn⟩ := q _ nD
  have IB := block_start IS ok hN fS
  have stB : tn 0 (pushCells ((s2.heap.push (eS X.w)).push eD) scope.names) := T.keep _ _ _ stS fun b _ o e => pushCells_keeps _ _ _ _ (Heap.get?_push_of_some _ e)
  generalize s2.heap.objs.size = D at *
  generalize upd H2 D (SetTO X.prog X.w D []) = HS at IS IB w0 fS
  generalize eS3 : ({ s2 with heap := s2.heap.push (eS X.w) } : Shared) = s3 at IS IB
  have e3 : s2.heap.push (eS X.w) = s3.heap := by rw [← eS3]
  rw [e3] at fS stS stB ⊢
  have e4 : ({ s2 with heap := pushCells (s3.heap.push eD) scope.names } : Shared) = { s3 with heap := pushCells (s3.heap.push eD) scope.names } := by rw [← eS3]
  rw [e4]
  have pg := hg s3 HS s3.heap.objs.size (cellsFrom (s3.heap.objs.size + 1) scope.names (cloFrom X.env.cells scope.names [])) fp
  have pe := he s3 HS s3.heap.objs.size (cellsFrom (s3.heap.objs.size + 1) scope.names (cloFrom X.env.cells scope.names [])) fp
  generalize hce : compEnvC scope (cellsFrom (s3.heap.objs.size + 1) scope.names (cloFrom X.env.cells scope.names [])) s3.heap.objs.size X.env = ce at IB pg pe ⊢
  have cL : ce.locals = s3.heap.objs.size := by rw [← hce]; rfl
  generalize hs4 : ({ s3 with heap := pushCells (s3.heap.push eD) scope.names } : Shared) = s4 at IB ⊢
  have st4 : tn 0 s4.heap := by rw [← hs4]; exact stB
  have nf : ∀ b ∈ fp, HS b = none := fun b hb => (fS b hb).1.1
  have stat : ∀ {τ' : L2.St} {H' : Hp} {s' : Shared}, Inv (X.blk s3 HS scope ce fp) [] τ' H' s' → (∀ b ∈ fp, H' b = none) → ∀ b ∈ fp, FpOk (X.blk s3 HS scope ce fp) [] H' b := fun {τ' H' s'} I' hn b hb =>
    ⟨hn b hb, (I'.ok.exf b hb).1, I'.ok.exfs b hb, .inl hb, fun x c e => (I'.ok.exf b hb).2 x c e, fun p hp => absurd (show p ∈ ([] : List (Addr × Obj)) ++ [] from hp) (by simp)⟩
  suffices loop : codeAny (model X.prog X.w) X.A (.compLoop (.SetComp elt [⟨tg, iter, [], 0⟩] scope pos) 0 (.ref it) (.ref D) ce) (compPost (model X.prog X.w) X.A X.xe none (EP X pins τ Q) (.ref D) s3.heap.objs.size) s4 from PpSet.codeAny_compStart_set loop (T.self X.A 0 _ _ _ st4 loop)
  refine PpSet.compLoopS_any (fun n s' => ∃ i H', Inv (X.blk s3 HS scope ce fp) [] (wipe τ (own.map (·.2))) H' s' ∧ tn i s'.heap ∧ (∀ b ∈ fp, H' b = none) ∧ W i n H') (fun n s5 z5 => ?_) m0 ⟨0, HS, IB, st4, nf, w0⟩
  obtain ⟨i, H5, I5, st5, n5, w5⟩ := z5
  rcases turn i n H5 w5 with ⟨stop, qq⟩ | ⟨go, Nx, hNx, step⟩
  · refine thnF (T.done (X.blk s3 HS scope ce fp) rfl rfl rfl hc i [] s5 _ H5 (fun _ _ => False) I5 (stat I5 n5) st5 stop) fun r s6 ⟨hr, I6⟩ => ?_
    subst hr
    have I7 : Inv X pins τ H5 s6 := IS.call' (ch := fp) I6.os I6.base I6.hok I6.bare fun b hb => ⟨(fS b hb).1.2.2.2.1, (fS b hb).1.2.1, (fS b hb).1.2.2.2.2.1, (fS b hb).1.2.2.2.2.2⟩
    have nC : H5 s3.heap.objs.size = none := by rw [← cL]; exact I6.free
    obtain ⟨m, hn, _⟩ := I6.loc
    have hn : s6.heap.Ns s3.heap.objs.size m := by rw [← cL]; exact hn
    obtain ⟨f0, f1, f2', f3, f4, f5⟩ := IS.fpOk (Nat.le_refl _) nC
    exact ⟨m, hn, fun h'' sb => ⟨.ref D, H5, I7.turned (t' := s6.toks) (fun b o hb e => (sb.2 b hb).trans e) f0 f1 f3 f4 f5, rfl, qq⟩⟩
  · refine thnF (T.item (X.blk s3 HS scope ce fp) rfl rfl rfl hc i [] s5 _ H5 (fun _ _ => False) I5 (stat I5 n5) st5 go) fun r s6 ⟨u, hr, h6⟩ => ?_
    subst hr
    refine thnF h6 fun _ s7 ⟨x, H7, I7, r7, y7, st7, n7⟩ => ?_
    refine thnF (pg.run _ s7 _ H7 x u _ (I7.pinned (stat I7 n7) (T.obj _ _ st7)) r7 (step x H7 y7)) fun _ s8 ⟨τ8, H8, I8, hw8, q8⟩ => ?_
    refine wpAny_tests_nil ?_
    rw [if_pos rfl]
    refine thnF (pe.run _ s8 τ8 H8 _ I8 q8) fun z s10 ⟨yv, H10, I10, r10, t, k, L, ey, hy, hD10, hL, hlt, nx⟩ => ?_
    subst ey
    cases (show z = Value.ref t from r10)
    refine addT_ok (X := X.blk s3 HS scope ce fp) I10 hD10 hL hy hlt hu fun s11 L' c1 c2 I11 => ?_
    obtain ⟨m', hm, w'⟩ := hNx _ (nx L' c1 c2)
    have pin' : ∀ b ∈ fp, ∀ o, s7.heap.get? b = some o → s11.heap.get? b = some o ∧ (upd H10 D (SetTO X.prog X.w D L')) b = none := fun b hb o e =>
      let z := I11.pin (b, o) (List.mem_append_right _ (List.mem_append_right _ (mem_pinsAt hb e)))
      ⟨z.1, z.2.1⟩
    refine ⟨m', hm, i + 1, _, (I11.unpinned (pins := [])).weak (by rw [← hw8, wipe_length]) (fun j v e => (wipe_some (by rw [hw8]; exact e)).1), T.keep _ _ _ st7 fun b hb o e => (pin' b hb o e).1, fun b hb => ?_, w'⟩
    obtain ⟨o, e, _⟩ := T.obj _ _ st7 b hb
    exact (pin' b hb o e).2
/-- over a list that the block leaves as it is -/
theorem st_list {P : Program} {w : World} {K : PySem.W.Frag} {a : Addr} {xs : List V} {g : TG} {te : TE} {vs : List Nat} {τ : L2.St} {H1 : Hp} {D : Addr} {Qd : Hp → Prop} (Pv : Nat → Hp → Prop) (h0 : Pv 0 (upd H1 D (SetTO P w D []))) (hl : ∀ i H, i ≤ xs.length → Pv i H → SqL K H a xs)
    (hs : ∀ i x H, xs[i]? = some x → Pv i H → g x (wipe τ vs) H fun τ2 H3 => wipe τ2 vs = wipe τ vs ∧
      te τ2 H3 fun y H4 => ∃ (t : Addr) (k : List Int) (L : List (Addr × List Int)), y = .ref t ∧ SqT K H4 t (k.map V.int) ∧ H4 D = some (SetTO P w D L) ∧ (∀ p ∈ L, SqT K H4 p.1 (p.2.map V.int)) ∧ L.length + 1 < 64 ∧
      ∀ L', (k ∈ L.map (·.2) → L' = L) → (k ∉ L.map (·.2) → L'.Perm ((t, k) :: L)) → Pv (i + 1) (upd H4 D (SetTO P w D L'))) (hd : ∀ H, Pv xs.length H → Qd H) :
    ∃ W : Nat → Nat → Hp → Prop, (∃ m, W 0 m (upd H1 D (SetTO P w D []))) ∧ ∀ i m H, W i m H →
      ((Itl K a).stop i H ∧ Qd H) ∨ ((Itl K a).go i H ∧ ∃ Nx : Hp → Prop, (∀ H', Nx H' → ∃ m', m' < m ∧ W (i + 1) m' H') ∧ ∀ x H', (Itl K a).yld i H x H' → g x (wipe τ vs) H' fun τ2 H3 => wipe τ2 vs = wipe τ vs ∧
        te τ2 H3 fun y H4 => ∃ (t : Addr) (k : List Int) (L : List (Addr × List Int)), y = .ref t ∧ SqT K H4 t (k.map V.int) ∧ H4 D = some (SetTO P w D L) ∧ (∀ p ∈ L, SqT K H4 p.1 (p.2.map V.int)) ∧ L.length + 1 < 64 ∧
      ∀ L', (k ∈ L.map (·.2) → L' = L) → (k ∉ L.map (·.2) → L'.Perm ((t, k) :: L)) → Nx (upd H4 D (SetTO P w D L'))) := by
  refine ⟨fun i m H => m + i = xs.length ∧ Pv i H, ⟨xs.length, rfl, h0⟩, fun i m H z => ?_⟩
  obtain ⟨hm, p⟩ := z
  have q := hl i H (by omega) p
  rcases Nat.lt_or_ge i xs.length with lt | ge
  · refine .inr ⟨⟨xs, xs[i], q, List.getElem?_eq_getElem lt⟩, Pv (i + 1), fun H' p' => ⟨m - 1, by omega, by omega, p'⟩, fun x H' y => ?_⟩
    obtain ⟨rfl, y⟩ := y
    exact hs i x _ (y xs q) p
  · obtain rfl : i = xs.length := by omega
    exact .inl ⟨⟨xs, q, Nat.le_refl _⟩, hd H p⟩
/-- over a tuple that the block leaves as it is -/
theorem st_tup {P : Program} {w : World} {K : PySem.W.Frag} {a : Addr} {xs : List V} {g : TG} {te : TE} {vs : List Nat} {τ : L2.St} {H1 : Hp} {D : Addr} {Qd : Hp → Prop} (Pv : Nat → Hp → Prop) (h0 : Pv 0 (upd H1 D (SetTO P w D []))) (hl : ∀ i H, i ≤ xs.length → Pv i H → SqT K H a xs)
    (hs : ∀ i x H, xs[i]? = some x → Pv i H → g x (wipe τ vs) H fun τ2 H3 => wipe τ2 vs = wipe τ vs ∧
      te τ2 H3 fun y H4 => ∃ (t : Addr) (k : List Int) (L : List (Addr × List Int)), y = .ref t ∧ SqT K H4 t (k.map V.int) ∧ H4 D = some (SetTO P w D L) ∧ (∀ p ∈ L, SqT K H4 p.1 (p.2.map V.int)) ∧ L.length + 1 < 64 ∧
      ∀ L', (k ∈ L.map (·.2) → L' = L) → (k ∉ L.map (·.2) → L'.Perm ((t, k) :: L)) → Pv (i + 1) (upd H4 D (SetTO P w D L'))) (hd : ∀ H, Pv xs.length H → Qd H) :
    ∃ W : Nat → Nat → Hp → Prop, (∃ m, W 0 m (upd H1 D (SetTO P w D []))) ∧ ∀ i m H, W i m H →
      ((Itt K a).stop i H ∧ Qd H) ∨ ((Itt K a).go i H ∧ ∃ Nx : Hp → Prop, (∀ H', Nx H' → ∃ m', m' < m ∧ W (i + 1) m' H') ∧ ∀ x H', (Itt K a).yld i H x H' → g x (wipe τ vs) H' fun τ2 H3 => wipe τ2 vs = wipe τ vs ∧
        te τ2 H3 fun y H4 => ∃ (t : Addr) (k : List Int) (L : List (Addr × List Int)), y = .ref t ∧ SqT K H4 t (k.map V.int) ∧ H4 D = some (SetTO P w D L) ∧ (∀ p ∈ L, SqT K H4 p.1 (p.2.map V.int)) ∧ L.length + 1 < 64 ∧
      ∀ L', (k ∈ L.map (·.2) → L' = L) → (k ∉ L.map (·.2) → L'.Perm ((t, k) :: L)) → Nx (upd H4 D (SetTO P w D L'))) := by
  refine ⟨fun i m H => m + i = xs.length ∧ Pv i H, ⟨xs.length, rfl, h0⟩, fun i m H z => ?_⟩
  obtain ⟨hm, p⟩ := z
  have q := hl i H (by omega) p
  rcases Nat.lt_or_ge i xs.length with lt | ge
  · refine .inr ⟨⟨xs, xs[i], q, List.getElem?_eq_getElem lt⟩, Pv (i + 1), fun H' p' => ⟨m - 1, by omega, by omega, p'⟩, fun x H' y => ?_⟩
    obtain ⟨rfl, y⟩ := y
    exact hs i x _ (y xs q) p
  · obtain rfl : i = xs.length := by omega
    exact .inl ⟨⟨xs, q, Nat.le_refl _⟩, hd H p⟩
theorem hu1 {k : Nat} {A : Around} (hr : Room k A) : A.units + 1 < cLine := by have := hr.un; omega
end
end K7S
end
/-! ## ET -/
section
/-! sorted of a tuple, or of a list, of ints. -/
namespace K7S
open PySem PySem.Spec PyProof.Rows L2
section
variable {X : Cx}
def rSortA (K : PySem.W.Frag) : List V → Hp → VK → Prop := fun vs H Q => ∃ (a : Addr) (ns : List Int), vs = [V.ref a] ∧ (SqL K H a (ns.map V.int) ∨ SqT K H a (ns.map V.int)) ∧ ns.length < 64 ∧ ∀ (ms : List Int) (p : Addr), ms.Perm ns → ms.Pairwise (· ≤ ·) → H p = none → Q (.ref p) (upd H p (.lst (ms.map V.int)))
theorem cr_sortA : CallR X (.builtin "sorted") (rSortA X.K) := by
  intro pins s τ H vs us Q I r h
  obtain ⟨a, ns, rfl, hs, h64, q⟩ := h
  rw [Vals.ref1 r]
  have got : ∃ (its : List Value) (o : Obj) (n : Nat) (T : String), Vals (ns.map V.int) its ∧ (T = "list" ∨ T = "tuple") ∧ s.heap.get? a = some o ∧ o.cls = .type T ∧ o.data = .seq its.toArray n := by
    rcases hs with z | z
    · obtain ⟨its, rv, pl, _⟩ := I.list z
      obtain ⟨o, ho, hc, n, hd⟩ := pl.isList
      exact ⟨its, o, n, "list", rv, .inl rfl, ho, hc, hd⟩
    · obtain ⟨its, rv, ⟨o, ho, hc, n, hd⟩, _⟩ := I.tuple z
      exact ⟨its, o, n, "tuple", rv, .inr rfl, ho, hc, hd⟩
  obtain ⟨its, o, n, T, rv, hT, ho, hc, hd⟩ := got
  have hi := rv.ints
  have h64' : its.length < 64 := by rw [hi.length]; exact h64
  refine Calls.call_function_entry kind_sorted plain_sorted entry_sorted (args_sorted1 _) ?_
  unfold Builtin.«sorted»
  refine wpAny_bind (m := checkCount "sorted" 1 1 _) (wpAny_pure (wpAny_bind (wpAny_collect_seq a hT ho hc hd (fun h' kp => ?_) (by rw [List.size_toArray, sizeLine_eq]; omega))))
  have hoL : (h'.push (seqObj "list" its.toArray 0)).get? h'.objs.size = some (seqObj "list" its.toArray 0) := Heap.get?_push_size _ rfl
  refine wpAny_bind (wpAny_newList ?_ (by rw [sizeLine_eq]; show its.length ≤ _; omega))
  show wpAny _ _ _ _ _ { s with heap := h'.push (seqObj "list" its.toArray 0) }
  refine wpAny_bind (wpAny_holding (wpAny_call_entry slot_list_sort ⟨_, hoL, rfl⟩ entry_list_sort (list_sort_tree hoL hi h64' fun out ms a1 a2 a3 => ⟨_, rfl, wpAny_pure ⟨_, rfl, ?_⟩⟩) (args_list_sort _)))
  obtain ⟨e, he⟩ := sortedHeap_at (vs := its) (out := out) hoL
  have hlen : (ms.map V.int).length ≤ sizeLine := by rw [List.length_map, a2.length_eq]; exact small64 h64
  have I1 : Inv X pins τ H { s with heap := h' } := I.kept (t' := s.toks) kp
  refine ⟨.ref h'.objs.size, upd H h'.objs.size (.lst (ms.map V.int)), I1.laid (t' := s.toks) (fun b u hb => ?_) (Nat.le_refl _) ⟨hlen, out.toList, e, vals_of_ints a1, he⟩, rfl, q ms _ a2 a3 (I1.hok.fresh (Nat.le_refl _))⟩
  have lt := Heap.lt_size hb
  exact (sortedHeap_old (Nat.ne_of_lt lt) (by rw [size_push']; exact Nat.lt_succ_of_lt lt)).trans (Heap.get?_push_of_some _ hb)
end
end K7S
end
/-! ## P10 -/
section
open PySem PySem.Spec PyProof.Rows L2
namespace K7
abbrev N__are_neighbours : List Str := ["cells", "thing", "couple"]
abbrev s__are_neighbours : Stmt := topS 18
theorem sc__are_neighbours : FnScope ["cells", "thing", "couple"] ["cells", "thing"] (defScope s__are_neighbours) := ⟨rfl, rfl, rfl, by decide +kernel, rfl, by decide +kernel, by decide +kernel⟩
section
variable {P : Program} {w : World} {K : PySem.W.Frag} {mg : Str → Option Value} {base : Heap}
/-! ### couples that are handed in: rows of two cells, either way round, tuples or lists -/
theorem SqOf.ty {H : Hp} {a : Addr} {xs : List V} (h : SqOf H a xs) : ∃ t : String, (∀ H1, Same H H1 → TyX K H1 (.ref a) (.type t)) ∧ PySem.W.kitAny K (.type t) [.type "list", .type "tuple"] = some true := by
  rcases h with z | z
  · exact ⟨"tuple", fun H1 e1 => .base (.tup (e1 _ _ z)), any_tup⟩
  · exact ⟨"list", fun H1 e1 => .base (.lst (e1 _ _ z)), any_lst⟩
def CoAt (H : Hp) (t : Addr) (c : Nat × Nat) : Prop := SqOf H t (ints_ [c.1, c.2])
def CoAll (H : Hp) (ts : List Addr) (cs : List (Nat × Nat)) : Prop := ts.length = cs.length ∧ ∀ (i : Nat) t c, ts[i]? = some t → cs[i]? = some c → CoAt H t c
theorem CoAll.same {H H' : Hp} {ts : List Addr} {cs : List (Nat × Nat)} (h : CoAll H ts cs) (e : Same H H') : CoAll H' ts cs := ⟨h.1, fun i t c h1 h2 => (h.2 i t c h1 h2).same e⟩
structure Cos (n : Nat) (cs : List (Nat × Nat)) : Prop where
  lt : ∀ c ∈ cs, c.1 < n ∧ c.2 < n ∧ c.1 ≠ c.2
  nd : (cs.map KL.srt).Nodup
  len : cs.length ≤ 32
theorem two_co {n : Nat} {c : Nat × Nat} (h : c.1 < n ∧ c.2 < n ∧ c.1 ≠ c.2) : twoV (n : Nat) (ints_ [c.1, c.2]) = true := by
  obtain ⟨h1, h2, h3⟩ := h
  unfold twoV cellsV
  have e1 : wholeV (.int (c.1 : Nat)) 0 (((n : Nat) : Int) - 1) = true := by rw [wholeV_int, decide_eq_true (by omega), decide_eq_true (by omega)]; rfl
  have e2 : wholeV (.int (c.2 : Nat)) 0 (((n : Nat) : Int) - 1) = true := by rw [wholeV_int, decide_eq_true (by omega), decide_eq_true (by omega)]; rfl
  have e3 : (ints_ [c.1, c.2]).all (fun x => wholeV x 0 (((n : Nat) : Int) - 1)) = true := by
    show (wholeV (.int (c.1 : Nat)) 0 (((n : Nat) : Int) - 1) && (wholeV (.int (c.2 : Nat)) 0 (((n : Nat) : Int) - 1) && true)) = true
    rw [e1, e2]; rfl
  have e4 : ((ints_ [c.1, c.2]).map intOf).Nodup := by
    show [((c.1 : Nat) : Int), ((c.2 : Nat) : Int)].Nodup
    refine List.nodup_cons.mpr ⟨fun m => ?_, List.nodup_cons.mpr ⟨List.not_mem_nil, List.nodup_nil⟩⟩
    rw [List.mem_singleton] at m
    omega
  rw [e3, decide_eq_true e4, decide_eq_true (show (2 : Int) ≤ (((ints_ [c.1, c.2]).length : Nat) : Int) from (by decide : (2 : Int) ≤ ((2 : Nat) : Int))), decide_eq_true (show (ints_ [c.1, c.2]).length = 2 from rfl)]
  rfl
def keyOf (c : Nat × Nat) : List Int := [((KL.srt c).1 : Int), ((KL.srt c).2 : Int)]
theorem keyOf_inj {c d : Nat × Nat} (h : keyOf c = keyOf d) : KL.srt c = KL.srt d := by
  unfold keyOf at h
  injection h with h1 h2
  injection h2 with h2
  exact Prod.ext (by omega) (by omega)
theorem keys_nd {cs : List (Nat × Nat)} (h : (cs.map KL.srt).Nodup) : (cs.map keyOf).Nodup := by
  induction cs with
  | nil => exact List.nodup_nil
  | cons c cs ih =>
    rw [List.map_cons, List.nodup_cons] at h
    rw [List.map_cons, List.nodup_cons]
    refine ⟨fun m => ?_, ih h.2⟩
    obtain ⟨d, hd, e⟩ := List.mem_map.mp m
    exact h.1 (List.mem_map.mpr ⟨d, hd, keyOf_inj e⟩)
theorem key_ints (c : Nat × Nat) : (keyOf c).map V.int = ints_ [(KL.srt c).1, (KL.srt c).2] := rfl
def spNbrs : Sp := fun vs H Q _ => ∃ (n : Nat) (a : Addr) (ts : List Addr) (cs : List (Nat × Nat)), vs = [.int (n : Nat), .ref a] ∧ SqOf H a (ts.map V.ref) ∧ CoAll H ts cs ∧ Cos n cs ∧ ∀ H', Same H H' → Q (.bl true) H'
theorem ok_nbrs {f fS fT : Addr} {fd fdS fdT : FuncData} (F : Fun K "_are_neighbours" "_are_neighbours" s__are_neighbours f fd)
    (Gsq : FnOk P w K mg base CX0 1 fS fdS ["thing"] (spSeq K)) (gsq : mg "is_sequence" = some (.ref fS)) (ksq : PySem.W.keepIn K (.ref fS) = true) (bsq : Binds K fdS ["thing"] [])
    (Ga2 : FnOk P w K mg base CX0 3 fT fdT ["many", "thing"] (spTwo K)) (ga2 : mg "are_two_cells" = some (.ref fT)) (ka2 : PySem.W.keepIn K (.ref fT) = true) (ba2 : Binds K fdT ["many", "thing"] [])
    (m_len : mg "len" = none) (m_all : mg "all" = none) (m_tuple : mg "tuple" = none) (m_sorted : mg "sorted" = none) : FnOk P w K mg base CX0 4 f fd ["cells", "thing"] spNbrs := by
  refine F.ok sc__are_neighbours (fun vs H Q E h => ?_) (fun cdv A outer s H vs Q E hr h => ?_)
  · obtain ⟨n, a, ts, cs, rfl, _⟩ := h
    rfl
  · obtain ⟨n, a, ts, cs, rfl, ha, hT, hc, q⟩ := h
    refine ⟨_, (pss_cons (ps_if (pw_or (pt_not (pt_val (pe_call Gsq (hr.mono (by decide)) (by rfl) gsq ksq bsq .nil pass0 (pa_cons (pv 1) pa_nil)))) (pw_or1 (pt_not (pt_val (pe_callB (cr_all rfl) (by rfl) m_all boot_all (pa_cons (pe_lc (own := [("couple", 2)]) (g := gName 2) (tt := tYes) rfl sc__are_neighbours.nd (K7E.pi_either (pi_tup (pv 1)) (pi_list (pv 1))) (blkOk_by (own := [("couple", 2)]) (N := N__are_neighbours) (sc := defScope s__are_neighbours) (by decide +kernel)) (fun _ _ _ _ _ => (pg_name (i := 2) sc__are_neighbours.nd rfl (by first | exact Or.inl rfl | exact Or.inr rfl))) (fun _ _ _ _ _ => pts_nil) (fun _ _ _ _ _ => (pe_call Ga2 (hr.mono (by decide)) (by rfl) ga2 ka2 ba2 .nil pass0 (pa_cons (pv 0) (pa_cons (pv 2) pa_nil))))) pa_nil)))))).pt
  (pss_one (ps_ret pe_bl))
  pss_nil)
 (pss_one (ps_ret (pe_cmpR op_eq (pe_callB K7S.call_lenT (by rfl) m_len boot_len (pa_cons (K7S.pe_st (own := [("couple", 2)]) (g := gName 2) rfl (K7S.hu1 hr) sc__are_neighbours.nd (K7E.pi_either (pi_tup (pv 1)) (pi_list (pv 1))) (blkOk_by (own := [("couple", 2)]) (N := N__are_neighbours) (sc := defScope s__are_neighbours) (by decide +kernel)) (fun _ _ _ _ _ => (pg_name (i := 2) sc__are_neighbours.nd rfl (by first | exact Or.inl rfl | exact Or.inr rfl))) (fun _ _ _ _ _ => (pe_callTy (show CallR _ (.type "tuple") (rTup_ K) from call_tuple_of) (by rfl) m_tuple boot_tuple (pa_cons (pe_callB (show CallR _ (.builtin "sorted") (K7S.rSortA K) from K7S.cr_sortA) (by rfl) m_sorted boot_sorted (pa_cons (pv 2) pa_nil)) pa_nil)))) pa_nil)) (pe_callB call_len_seq (by rfl) m_len boot_len (pa_cons (pv 1) pa_nil)) (nomark _))))), ?_⟩
    obtain ⟨t, ty, kk⟩ := ha.ty (K := K)
    have hl : ts.length = cs.length := hT.1
    have h32 := hc.len
    refine ⟨_, rfl, _, t, true, rfl, ty, kk, fun H1 e1 => ⟨_, rfl, ?_⟩⟩
    have ha1 := ha.same e1
    have hT1 := hT.same e1
    -- the second half: the set, behind any heap
    have half : ∀ H2, Same H1 H2 → ∀ D, H2 D = none → ∀ (j : Nat) (x : V) (H3 : Hp), (ts.map V.ref)[j]? = some x → (Same H2 H3 ∧ ∃ L : List (Addr × List Int), H3 D = some (SetTO P w D L) ∧ (∀ p ∈ L, H3 p.1 = some (.tup (p.2.map V.int))) ∧ (L.map (·.2)).Perm ((cs.take j).map keyOf)) →
        ∃ c t', x = .ref t' ∧ cs[j]? = some c ∧ CoAt H3 t' c ∧ keyOf c ∉ (cs.take j).map keyOf := by
      intro H2 e2 D hD j x H3 hx pv
      rw [List.getElem?_map] at hx
      obtain ⟨t', ht', rfl⟩ := Option.map_eq_some_iff.mp hx
      have hj : j < cs.length := by rw [← hl]; exact (List.getElem?_eq_some_iff.mp ht').1
      refine ⟨cs[j], t', rfl, List.getElem?_eq_getElem hj, (hT1.2 j t' _ ht' (List.getElem?_eq_getElem hj)).same (e2.trans pv.1), fun m => ?_⟩
      have nd := keys_nd hc.nd
      have e3 : cs.map keyOf = (cs.take j).map keyOf ++ (cs.drop j).map keyOf := by rw [← List.map_append, List.take_append_drop]
      rw [e3, List.nodup_append] at nd
      exact nd.2.2 _ m _ (List.mem_map.mpr ⟨cs[j], by rw [List.drop_eq_getElem_cons hj]; exact List.mem_cons_self, rfl⟩) rfl
    have fin : ∀ H2, Same H1 H2 → ∀ L : List (Addr × List Int), (L.map (·.2)).Perm ((cs.take (ts.map V.ref).length).map keyOf) → (Same H H2 → decide (V.int (L.length : Nat) = V.int ((ts.map V.ref).length : Nat)) = true) := by
      intro H2 e2 L p _
      have z := p.length_eq
      rw [List.length_map, List.length_map, List.length_map, hl, List.take_length] at z
      rw [List.length_map, z, hl]
      exact decide_eq_true rfl
    have Q2 : ∀ H2, Same H1 H2 → Q (.bl true) H2 := fun H2 e2 => q H2 (e1.trans e2)
    have sz : (ts.map V.ref).length = cs.length := by rw [List.length_map, hl]
    rcases ha1 with z | z
    · refine .inl ⟨_, rfl, a, rfl, ⟨_, .inl (.inl z)⟩, fun D hD => lc_tup (xs := ts.map V.ref) (fun j H2 => Same H1 H2 ∧ ∃ bs : List Bool, H2 D = some (.lst (bs.map V.bl)) ∧ bs.all id = true ∧ bs.length = j) ⟨same_new (Same.refl H1) hD, [], upd_same, rfl, rfl⟩ (fun j H2 _ pv => .inl (.inl (pv.1 _ _ z))) (fun j x H2 hx pv => ?_) (fun H2 pv => ?_)⟩
      · obtain ⟨e2, bs, hD2, hb, lb⟩ := pv
        have hjx := (List.getElem?_eq_some_iff.mp hx).1
        rw [List.getElem?_map] at hx
        obtain ⟨t', ht', rfl⟩ := Option.map_eq_some_iff.mp hx
        have hj : j < cs.length := by rw [← sz]; exact hjx
        have hco := hc.lt cs[j] (List.getElem_mem hj)
        refine ⟨rfl, _, rfl, _, rfl, n, .ref t', rfl, .inr ⟨t', _, rfl, (hT1.2 j t' cs[j] ht' (List.getElem?_eq_getElem hj)).same e2, fun y hy => ?_, by show 2 < 64; decide, fun H3 e3 => ?_⟩⟩
        · obtain ⟨k, _, rfl⟩ := List.mem_map.mp hy
          exact .flat (.int _)
        · rw [two_co hco]
          refine ⟨_, e3 _ _ hD2, by rw [List.length_map]; exact small1000 (by omega), fun b o hb => ?_, bs ++ [true], ?_, ?_, by rw [List.length_append, lb]; rfl⟩
          · rw [upd_ne (ne_of_none hb hD)]
            exact e3 _ _ (e2 _ _ hb)
          · rw [upd_same, List.map_append]
            rfl
          · rw [List.all_append, hb]
            rfl
      · obtain ⟨e2, bs, hD2, hb, lb⟩ := pv
        refine ⟨D, bs, rfl, .inl (.inl hD2), _, rfl, ?_⟩
        rw [hb]
        refine iteF ?_
        refine .inl ⟨_, rfl, a, rfl, ⟨_, .inl (.inl (e2 _ _ z))⟩, fun D2 hD2 => K7S.st_tup (xs := ts.map V.ref) (fun j H3 => Same H2 H3 ∧ ∃ L : List (Addr × List Int), H3 D2 = some (SetTO P w D2 L) ∧ (∀ p ∈ L, H3 p.1 = some (.tup (p.2.map V.int))) ∧ (L.map (·.2)).Perm ((cs.take j).map keyOf)) ⟨same_new (Same.refl H2) hD2, [], upd_same, fun p hp => (nomatch hp), List.Perm.refl _⟩ (fun j H3 _ pv => .inl (.inl (pv.1 _ _ (e2 _ _ z)))) (fun j x H3 hx pv => ?_) (fun H3 pv => ?_)⟩
        · obtain ⟨c, t', rfl, hcj, hco, hnew⟩ := half H2 e2 D2 hD2 j x H3 hx pv
          obtain ⟨e3, L, hL, hLt, pm⟩ := pv
          have ll : L.length = j := by
            have z := pm.length_eq
            rw [List.length_map, List.length_map, List.length_take, Nat.min_eq_left (Nat.le_of_lt (List.getElem?_eq_some_iff.mp hcj).1)] at z
            exact z
          have hjc := (List.getElem?_eq_some_iff.mp hcj).1
          refine ⟨rfl, _, rfl, t', [(c.1 : Int), (c.2 : Int)], rfl, hco.sq, by show 2 < 64; decide, fun ms p pm2 so np => ?_⟩
          have em := KL.two_sorted pm2 so
          subst em
          refine ⟨p, _, rfl, .inl ⟨.inl (.inl upd_same), fun l nl => ?_⟩⟩
          have s1 := same_new (o := .lst ([((min c.1 c.2 : Nat) : Int), ((max c.1 c.2 : Nat) : Int)].map V.int)) (Same.refl H3) np
          have s2 := same_new (o := .tup ([((min c.1 c.2 : Nat) : Int), ((max c.1 c.2 : Nat) : Int)].map V.int)) s1 nl
          refine ⟨l, keyOf c, L, rfl, .inl (.inl upd_same), s2 _ _ hL, fun p hp => .inl (.inl (s2 _ _ (hLt p hp))), by omega, fun L' _ c2 => ?_⟩
          have pm' := c2 (fun m => hnew (pm.mem_iff.mp m))
          have nlD : l ≠ D2 := fun e => by rw [e, s1 _ _ hL] at nl; cases nl
          refine ⟨fun b o hb => ?_, L', upd_same, fun p hp => ?_, ?_⟩
          · rw [upd_ne (ne_of_none hb hD2)]
            exact s2 _ _ (e3 _ _ hb)
          · have tp : ∀ p ∈ L', (upd (upd H3 _ _) l (.tup ((keyOf c).map V.int))) p.1 = some (.tup (p.2.map V.int)) := fun p hp => by
              rcases List.mem_cons.mp (pm'.mem_iff.mp hp) with rfl | hp
              · exact upd_same
              · exact s2 _ _ (hLt p hp)
            have z := tp p hp
            rw [upd_ne (fun e => by rw [e] at z; exact absurd (z.symm.trans (s2 _ _ hL)) (fun w => by cases w))]
            exact z
          · refine (pm'.map (·.2)).trans ?_
            rw [List.take_add_one, hcj, List.map_append]
            exact ((List.perm_append_singleton _ _).trans (pm.symm.cons _)).symm
        · obtain ⟨e3, L, hL, hLt, pm⟩ := pv
          have eq2 := fin H3 (e2.trans e3) L pm (e1.trans (e2.trans e3))
          refine ⟨D2, L, rfl, hL, fun p hp => .inl (.inl (hLt p hp)), _, rfl, a, ts.map V.ref, rfl, ?_, rfl, ?_⟩
          · exact (SqOf.sq (K := K) (H := H3) (show SqOf H3 a (ts.map V.ref) from (ha.same e1).same (e2.trans e3)))
          · rw [eq2]
            exact Q2 H3 (e2.trans e3)
    · refine .inr ⟨_, rfl, a, rfl, ⟨_, .inl (.inl z)⟩, fun D hD => lc_list (xs := ts.map V.ref) (fun j H2 => Same H1 H2 ∧ ∃ bs : List Bool, H2 D = some (.lst (bs.map V.bl)) ∧ bs.all id = true ∧ bs.length = j) ⟨same_new (Same.refl H1) hD, [], upd_same, rfl, rfl⟩ (fun j H2 _ pv => .inl (.inl (pv.1 _ _ z))) (fun j x H2 hx pv => ?_) (fun H2 pv => ?_)⟩
      · obtain ⟨e2, bs, hD2, hb, lb⟩ := pv
        have hjx := (List.getElem?_eq_some_iff.mp hx).1
        rw [List.getElem?_map] at hx
        obtain ⟨t', ht', rfl⟩ := Option.map_eq_some_iff.mp hx
        have hj : j < cs.length := by rw [← sz]; exact hjx
        have hco := hc.lt cs[j] (List.getElem_mem hj)
        refine ⟨rfl, _, rfl, _, rfl, n, .ref t', rfl, .inr ⟨t', _, rfl, (hT1.2 j t' cs[j] ht' (List.getElem?_eq_getElem hj)).same e2, fun y hy => ?_, by show 2 < 64; decide, fun H3 e3 => ?_⟩⟩
        · obtain ⟨k, _, rfl⟩ := List.mem_map.mp hy
          exact .flat (.int _)
        · rw [two_co hco]
          refine ⟨_, e3 _ _ hD2, by rw [List.length_map]; exact small1000 (by omega), fun b o hb => ?_, bs ++ [true], ?_, ?_, by rw [List.length_append, lb]; rfl⟩
          · rw [upd_ne (ne_of_none hb hD)]
            exact e3 _ _ (e2 _ _ hb)
          · rw [upd_same, List.map_append]
            rfl
          · rw [List.all_append, hb]
            rfl
      · obtain ⟨e2, bs, hD2, hb, lb⟩ := pv
        refine ⟨D, bs, rfl, .inl (.inl hD2), _, rfl, ?_⟩
        rw [hb]
        refine iteF ?_
        refine .inr ⟨_, rfl, a, rfl, ⟨_, .inl (.inl (e2 _ _ z))⟩, fun D2 hD2 => K7S.st_list (xs := ts.map V.ref) (fun j H3 => Same H2 H3 ∧ ∃ L : List (Addr × List Int), H3 D2 = some (SetTO P w D2 L) ∧ (∀ p ∈ L, H3 p.1 = some (.tup (p.2.map V.int))) ∧ (L.map (·.2)).Perm ((cs.take j).map keyOf)) ⟨same_new (Same.refl H2) hD2, [], upd_same, fun p hp => (nomatch hp), List.Perm.refl _⟩ (fun j H3 _ pv => .inl (.inl (pv.1 _ _ (e2 _ _ z)))) (fun j x H3 hx pv => ?_) (fun H3 pv => ?_)⟩
        · obtain ⟨c, t', rfl, hcj, hco, hnew⟩ := half H2 e2 D2 hD2 j x H3 hx pv
          obtain ⟨e3, L, hL, hLt, pm⟩ := pv
          have ll : L.length = j := by
            have z := pm.length_eq
            rw [List.length_map, List.length_map, List.length_take, Nat.min_eq_left (Nat.le_of_lt (List.getElem?_eq_some_iff.mp hcj).1)] at z
            exact z
          have hjc := (List.getElem?_eq_some_iff.mp hcj).1
          refine ⟨rfl, _, rfl, t', [(c.1 : Int), (c.2 : Int)], rfl, hco.sq, by show 2 < 64; decide, fun ms p pm2 so np => ?_⟩
          have em := KL.two_sorted pm2 so
          subst em
          refine ⟨p, _, rfl, .inl ⟨.inl (.inl upd_same), fun l nl => ?_⟩⟩
          have s1 := same_new (o := .lst ([((min c.1 c.2 : Nat) : Int), ((max c.1 c.2 : Nat) : Int)].map V.int)) (Same.refl H3) np
          have s2 := same_new (o := .tup ([((min c.1 c.2 : Nat) : Int), ((max c.1 c.2 : Nat) : Int)].map V.int)) s1 nl
          refine ⟨l, keyOf c, L, rfl, .inl (.inl upd_same), s2 _ _ hL, fun p hp => .inl (.inl (s2 _ _ (hLt p hp))), by omega, fun L' _ c2 => ?_⟩
          have pm' := c2 (fun m => hnew (pm.mem_iff.mp m))
          have nlD : l ≠ D2 := fun e => by rw [e, s1 _ _ hL] at nl; cases nl
          refine ⟨fun b o hb => ?_, L', upd_same, fun p hp => ?_, ?_⟩
          · rw [upd_ne (ne_of_none hb hD2)]
            exact s2 _ _ (e3 _ _ hb)
          · have tp : ∀ p ∈ L', (upd (upd H3 _ _) l (.tup ((keyOf c).map V.int))) p.1 = some (.tup (p.2.map V.int)) := fun p hp => by
              rcases List.mem_cons.mp (pm'.mem_iff.mp hp) with rfl | hp
              · exact upd_same
              · exact s2 _ _ (hLt p hp)
            have z := tp p hp
            rw [upd_ne (fun e => by rw [e] at z; exact absurd (z.symm.trans (s2 _ _ hL)) (fun w => by cases w))]
            exact z
          · refine (pm'.map (·.2)).trans ?_
            rw [List.take_add_one, hcj, List.map_append]
            exact ((List.perm_append_singleton _ _).trans (pm.symm.cons _)).symm
        · obtain ⟨e3, L, hL, hLt, pm⟩ := pv
          have eq2 := fin H3 (e2.trans e3) L pm (e1.trans (e2.trans e3))
          refine ⟨D2, L, rfl, hL, fun p hp => .inl (.inl (hLt p hp)), _, rfl, a, ts.map V.ref, rfl, ?_, rfl, ?_⟩
          · exact (SqOf.sq (K := K) (H := H3) (show SqOf H3 a (ts.map V.ref) from (ha.same e1).same (e2.trans e3)))
          · rw [eq2]
            exact Q2 H3 (e2.trans e3)
end
end K7
end
/-! ## EU -/
section
namespace K7E
open PySem PySem.Spec PyProof.Rows L2
section
variable {X : Cx} {CX : CXT} {k : Nat} {f : Addr} {sp : Sp} {E : XK} {x : Str} {e : Expr} {es : List Expr} {t : TA} {p pos : Pos}
/-- x(e, ..) by a positional promise -/
theorem pe_callR0 (F : FnR X.prog X.w X.K X.mg X.base CX k f sp) (hr : Room k X.A) (hg : Gl X x) (hm : X.mg x = some (.ref f)) (hk : PySem.W.keepIn X.K (.ref f) = true) (hx : Passes CX X E) (ha : PA X (e :: es) t) (hd : (x == ("__debug__" : Str)) = false := by decide)
    (h1 : starEach (e :: es) X.env = (false, eval e X.env) :: starEach es X.env := by rfl) (h2 : (backTo pos (starEach es X.env)).any (·.1) = false := by rfl) : PE X (.Call (.Name x p) (e :: es) [] pos) (fun τ H Q => t τ H fun vs H1 => sp vs H1 Q E) := by
  refine ⟨fun pins s τ H Q I h => wpAny_Call_Name_kw (ld_glob I hg hm (PySem.W.callWith_K (h₀ := X.base) I.ok.mod.kin hk (thn (ha.run pos pins s τ H _ I h) fun us s1 ⟨vs, H1, I1, r, q⟩ => ⟨I1.kIn, ?_⟩) h1 h2) hd)⟩
  exact wpAny_call (run_fnR F hr hx I1 r q)
end
end K7E
end
/-! ## P11 -/
section
open PySem PySem.Spec PyProof.Rows L2
namespace K7
abbrev N_BadCell___init__ : List Str := ["self", "cell"]
abbrev s_BadCell___init__ : Stmt := inClass (topS 4) 0
theorem sc_BadCell___init__ : FnScope ["self", "cell"] ["self", "cell"] (defScope s_BadCell___init__) := ⟨rfl, rfl, rfl, by decide +kernel, rfl, by decide +kernel, by decide +kernel⟩
abbrev N_is_cell : List Str := ["land", "thing"]
abbrev s_is_cell : Stmt := topS 12
theorem sc_is_cell : FnScope ["land", "thing"] ["land", "thing"] (defScope s_is_cell) := ⟨rfl, rfl, rfl, by decide +kernel, rfl, by decide +kernel, by decide +kernel⟩
abbrev N_is_lot : List Str := ["land", "thing", "least"]
abbrev s_is_lot : Stmt := topS 13
theorem sc_is_lot : FnScope ["land", "thing", "least"] ["land", "thing", "least"] (defScope s_is_lot) := ⟨rfl, rfl, rfl, by decide +kernel, rfl, by decide +kernel, by decide +kernel⟩
abbrev N_check_cells : List Str := ["land", "things", "thing"]
abbrev s_check_cells : Stmt := topS 14
theorem sc_check_cells : FnScope ["land", "things", "thing"] ["land", "things"] (defScope s_check_cells) := ⟨rfl, rfl, rfl, by decide +kernel, rfl, by decide +kernel, by decide +kernel⟩
/-! ### a land that stands, and what the top says of it -/
def landFs (n : Int) (an ar ay ac : Addr) : List (Str × V) := putF "_couples" (.ref ac) (putF "nearby" (.ref ay) (putF "roads" (.ref ar) (putF "neighbours" (.ref an) (putF "cells" (.int n) []))))
def lfields : List Str := ["cells", "neighbours", "roads", "nearby", "_couples"]
structure AdL where
  (C B iB : Addr)
structure Tl (K : PySem.W.Frag) (mg : Str → Option Value) (a : AdL) : Prop where
  gC : mg "Land" = some (.ref a.C)
  cl : Cls K a.C
  nA : ∀ f ∈ lfields, NoAttr K a.C f
  gB : mg "BadCell" = some (.ref a.B)
  oxB : OexC K a.B
  iCB : PySem.W.findIn K (.ref a.B) "__init__" = some (some (.ref a.iB))
  tIB : PySem.W.typeIn K (.ref a.iB) = some (.type "function")
  nB : PySem.W.findIn K (.ref a.B) "cell" = some none
/-- an error of the class C with one field is raised -/
def Flies (H : Hp) (C : Addr) (f : Str) (v : V) (E : XK) : Prop := ∀ H' d, Same H H' → H d = none → H' d = some (.xd [(f, v)]) → E (.ref C) (some d) H'
theorem Flies.later {H H1 : Hp} {C : Addr} {f : Str} {v : V} {E : XK} (h : Flies H C f v E) (e : Same H H1) : Flies H1 C f v E := fun H' d e' n q => h H' d (e.trans e') (e.free n) q
/-- an instance with a number of cells -/
def LandC (C : Addr) (H : Hp) (p : Addr) (n : Nat) : Prop := ∃ dx fs, H p = some (.ins C dx fs) ∧ fs.lookup ("cells" : Str) = some (V.int (n : Nat))
theorem LandC.same {C : Addr} {H H' : Hp} {p : Addr} {n : Nat} (h : LandC C H p n) (e : Same H H') : LandC C H' p n := by
  obtain ⟨dx, fs, h1, h2⟩ := h
  exact ⟨dx, fs, e _ _ h1, h2⟩
section
variable {P : Program} {w : World} {K : PySem.W.Frag} {mg : Str → Option Value} {base : Heap} {a : AdL}
def spX (C : Addr) (f : Str) : Sp := fun vs H Q _ => ∃ (e : Addr) (y : V), vs = [.ref e, y] ∧ H e = some (exo e C none) ∧ ∀ d, H d = none → d ≠ e → Q .non (upd (upd H d (exd d [(f, y)])) e (exo e C (some d)))
theorem ok_iB (T : Tl K mg a) {f : Addr} {fd : FuncData} (F : Fun K "__init__" "BadCell.__init__" s_BadCell___init__ f fd) : FnOk P w K mg base (L2.CX P w) 1 f fd ["self", "cell"] (spX a.B "cell") := by
  refine F.okX sc_BadCell___init__ (fun vs H Q E h => ?_) (fun cdv A outer s H vs Q E hr h => ?_)
  · obtain ⟨e, y, rfl, _⟩ := h
    rfl
  · obtain ⟨e, y, rfl, he, q⟩ := h
    refine ⟨_, (pss_one (ps_ost (pv 0) (pv 1))), ?_⟩
    exact ⟨y, rfl, .ref e, rfl, e, a.B, rfl, T.oxB, T.nB, .inl ⟨he, fun d hd hn => q d hd hn⟩⟩
/-- the reading of «raise X(y)» -/
theorem flies_go {H : Hp} {C : Addr} {f : Str} {y : V} {E : XK} (h : Flies H C f y E) :
    ∀ e, H e = none → spX C f (.ref e :: ([y] ++ [])) (upd H e (exo e C none)) (fun v H2 => v = .non ∧ ∃ (d : Addr) (fs : List (Str × V)), H2 e = some (exo e C (some d)) ∧ H2 d = some (exd d fs) ∧ H d = none ∧ E (.ref C) (some d) (upd (del H2 e) d (.xd fs))) (fun _ _ _ => False) := by
  intro e he
  refine ⟨e, y, rfl, upd_same, fun d hd hne => ⟨rfl, d, _, upd_same, by rw [upd_ne hne, upd_same], ?_, ?_⟩⟩
  · rw [upd_ne hne] at hd
    exact hd
  · rw [upd_ne hne] at hd
    refine h _ d (fun b o hb => ?_) hd upd_same
    have h1 : b ≠ d := ne_of_none hb hd
    have h2 : b ≠ e := ne_of_none hb he
    rw [upd_ne h1, del_ne h2, upd_ne h2, upd_ne h1, upd_ne h2]
    exact hb
/-! is_cell -/
def spIsCell (C : Addr) : Sp := fun vs H Q _ => ∃ (p : Addr) (n : Nat) (x : V), vs = [.ref p, x] ∧ LandC C H p n ∧ Thing H x ∧ Q (.bl (wholeV x 0 ((n : Nat) - 1))) H
theorem ok_iscell (T : Tl K mg a) {f fW : Addr} {fd fdW : FuncData} (F : Fun K "is_cell" "is_cell" s_is_cell f fd)
    (Giw : FnOk P w K mg base CX0 1 fW fdW ["thing", "low", "high"] spWhole) (giw : mg "is_whole" = some (.ref fW)) (kiw : PySem.W.keepIn K (.ref fW) = true) (biw : Binds K fdW ["thing", "low", "high"] []) : FnOk P w K mg base CX0 2 f fd ["land", "thing"] (spIsCell a.C) := by
  refine F.ok sc_is_cell (fun vs H Q E h => ?_) (fun cdv A outer s H vs Q E hr h => ?_)
  · obtain ⟨p, n, x, rfl, _⟩ := h
    rfl
  · obtain ⟨p, n, x, rfl, ⟨dx, fs, hp, hl⟩, hx, q⟩ := h
    refine ⟨_, (pss_one (ps_ret (pe_call Giw (hr.mono (by decide)) (by rfl) giw kiw biw .nil pass0 (pa_cons (pv 1) (pa_cons pe_int (pa_cons (pe_op op_sub (pe_fld (pv 0) rfl) pe_int) pa_nil)))))), ?_⟩
    exact ⟨_, rfl, .ref p, rfl, p, a.C, dx, fs, _, rfl, hp, T.cl, T.nA _ (by decide), hl, _, _, rfl, rfl, x, 0, _, rfl, hx, q⟩
/-! check_cells -/
def AllIn (n : Nat) (xs : List V) : Prop := ∀ x ∈ xs, wholeV x 0 ((n : Nat) - 1) = true
def spCheck (a : AdL) : Sp := fun vs H Q E => ∃ (p : Addr) (n : Nat) (xs : List V), vs = .ref p :: xs ∧ LandC a.C H p n ∧ xs.length < 64 ∧
  (((∀ x ∈ xs, Thing H x) ∧ AllIn n xs ∧ ∀ H', Same H H' → Q .non H') ∨ (∃ ys x zs, xs = ys ++ x :: zs ∧ (∀ x ∈ ys, Thing H x) ∧ AllIn n ys ∧ Thing H x ∧ wholeV x 0 ((n : Nat) - 1) = false ∧ Flies H a.B "cell" x E))
theorem ok_check (T : Tl K mg a) {f fI : Addr} {fd fdI fdB : FuncData} (F : Fun K "check_cells" "check_cells" s_check_cells f fd)
    (Gic : FnOk P w K mg base CX0 2 fI fdI ["land", "thing"] (spIsCell a.C)) (gic : mg "is_cell" = some (.ref fI)) (kic : PySem.W.keepIn K (.ref fI) = true) (bic : Binds K fdI ["land", "thing"] [])
    (FB0 : Fun K "__init__" "BadCell.__init__" s_BadCell___init__ a.iB fdB) (bB : Binds K fdB ["self", "cell"] []) : FnR P w K mg base (L2.CX P w) 4 f (spCheck a) := by
  have FB : FnOk P w K mg base (L2.CX P w) 1 a.iB fdB ["self", "cell"] (spX a.B "cell") := ok_iB T FB0
  obtain ⟨oc, od, kV, doc, pm, an, cdv, ct, osl, rfl, lk, hcd⟩ := F.ex
  have G := StX.fn_star (CX := L2.CX P w) (P := P) (w := w) (mg := mg) (base := base) (k := 3) (ps := ["land"]) (pv := "things") (sp := fun vs H Q E => ∃ (p t : Addr) (n : Nat) (xs : List V), vs = [.ref p, .ref t] ∧ H t = some (.tup xs) ∧ LandC a.C H p n ∧ xs.length < 64 ∧
    (((∀ x ∈ xs, Thing H x) ∧ AllIn n xs ∧ ∀ H', Same H H' → Q .non H') ∨ (∃ ys x zs, xs = ys ++ x :: zs ∧ (∀ x ∈ ys, Thing H x) ∧ AllIn n ys ∧ Thing H x ∧ wholeV x 0 ((n : Nat) - 1) = false ∧ Flies H a.B "cell" x E))) lk hcd sc_check_cells StX.cxUp (StX.bind_star1 (B := fun l => bindArgs (PySem.W.fnOf "check_cells" "check_cells" (defArgs s_check_cells) (defBody s_check_cells) (defScope s_check_cells) .none kV doc pm an cdv ct) ⟨l, []⟩) (p1 := "land") (pv := "things") (fun _ => rfl) fun _ _ _ => rfl) ?_
  · refine G.imp fun vs H Q E h => ?_
    obtain ⟨p, n, xs, rfl, hl, h64, hh⟩ := h
    refine ⟨[.ref p], xs, rfl, rfl, by rw [sizeLine_eq]; omega, fun t ht => ⟨p, t, n, xs, rfl, upd_same, hl.same (same_new (Same.refl H) ht), h64, ?_⟩⟩
    have e := same_new (o := .tup xs) (Same.refl H) ht
    rcases hh with ⟨h1, h2, h3⟩ | ⟨ys, x, zs, h1, h2, h3, h4, h5, h6⟩
    · exact .inl ⟨fun x hx => (h1 x hx).same e, h2, fun H' e' => h3 H' (e.trans e')⟩
    · exact .inr ⟨ys, x, zs, h1, fun x hx => (h2 x hx).same e, h3, h4.same e, h5, h6.later e⟩
  · intro A outer s H vs Q E hr h
    obtain ⟨p, t, n, xs, rfl, ht, hl, h64, hh⟩ := h
    have hrx : Room (1 + 1) _ := hr.mono (by decide)
    refine ⟨_, (pss_one (ps_for (passes_of rfl) rfl (pi_tup (pv 1)) (pg_name (i := 2) sc_check_cells.nd rfl (by first | exact Or.inl rfl | exact Or.inr rfl))
  (pss_one (ps_if (pt_not (pt_val (pe_call Gic (hr.mono (by decide)) (by rfl) gic kic bic .nil pass0 (pa_cons (pv 0) (pa_cons (pv 2) pa_nil)))))
  (pss_one (ps_raise rfl (takes_of rfl rfl rfl rfl) (pmk_oex T.oxB T.iCB T.tIB FB hrx bB .nil passL (by rfl) T.gB (pa_cons (pv 2) pa_nil))))
  pss_nil)))), ?_⟩
    refine ⟨_, rfl, t, rfl, ⟨xs, .inl (.inl ht)⟩, for_tup (xs := xs) (fun j τ H1 => H1 = H ∧ AllIn n (xs.take j) ∧ ∃ y, τ = [some (.ref p), some (.ref t), y]) ⟨rfl, fun x hx => (nomatch hx), none, rfl⟩ (fun j τ H1 _ pv => ?_) (fun j x τ H1 hx pv => ?_) (fun τ H1 pv => ?_)⟩
    · obtain ⟨rfl, _⟩ := pv
      exact .inl (.inl ht)
    · obtain ⟨rfl, al, y, rfl⟩ := pv
      have fin : ∀ b, wholeV x 0 ((n : Nat) - 1) = b → Thing H1 x ∧ (b = false → Flies H1 a.B "cell" x E) := by
        intro b hb
        rcases hh with ⟨h1, h2, h3⟩ | ⟨ys, x', zs, rfl, h2, h3, h4, h5, h6⟩
        · refine ⟨h1 x (List.mem_of_getElem? hx), fun e => ?_⟩
          rw [h2 x (List.mem_of_getElem? hx)] at hb
          rw [← hb] at e
          cases e
        · rcases Nat.lt_trichotomy j ys.length with lt | e | gt
          · rw [List.getElem?_append_left lt] at hx
            have m := List.mem_of_getElem? hx
            refine ⟨h2 x m, fun e => ?_⟩
            rw [h3 x m] at hb
            rw [← hb] at e
            cases e
          · rw [List.getElem?_append_right (by omega), e, Nat.sub_self] at hx
            obtain rfl : x' = x := Option.some.inj hx
            exact ⟨h4, fun _ => h6⟩
          · have m : x' ∈ (ys ++ x' :: zs).take j := by
              rw [List.take_append, List.take_of_length_le (by omega)]
              exact List.mem_append_right _ (by
                obtain ⟨k, hk⟩ : ∃ k, j - ys.length = k + 1 := ⟨j - ys.length - 1, by omega⟩
                rw [hk]
                exact List.mem_cons_self)
            rw [al x' m] at h5
            cases h5
      obtain ⟨hth, hfl⟩ := fin _ rfl
      refine ⟨_, rfl, _, rfl, p, n, x, rfl, hl, hth, _, rfl, ?_⟩
      cases hb : wholeV x 0 ((n : Nat) - 1) with
      | true =>
        refine iteF ⟨rfl, fun z hz => ?_, _, rfl⟩
        rw [List.take_add_one, hx] at hz
        rcases List.mem_append.mp hz with hz | hz
        · exact al z hz
        · rw [List.mem_singleton.mp hz]
          exact hb
      | false => exact iteT ⟨_, rfl, by show 1 ≤ 1000; decide, flies_go (hfl hb)⟩
    · obtain ⟨rfl, al, y, rfl⟩ := pv
      rcases hh with ⟨h1, h2, h3⟩ | ⟨ys, x', zs, rfl, h2, h3, h4, h5, h6⟩
      · exact h3 _ (Same.refl _)
      · rw [List.take_length] at al
        rw [al x' (List.mem_append_right _ List.mem_cons_self)] at h5
        cases h5
end
end K7
end
/-! ## EV -/
section
namespace K7E
open PySem PySem.Spec PyProof.Rows L2
/-- the inner range of a comprehension of two -/
theorem in_range {lo : Int} {n : Nat} {g : TG} {tt : TT} {te : TE} {vs : List Nat} {τ : L2.St} {H4 : Hp} {D : Addr} {Nx : Hp → Prop} (Pw : Nat → Hp → Prop) (h0 : Pw 0 H4)
    (hs : ∀ j H, j < n → Pw j H → g (.int (lo + j)) (wipe τ vs) H fun t3 H5 => wipe t3 vs = wipe τ vs ∧ tt t3 H5 fun b H6 => if b = true then te t3 H6 fun y H7 => ∃ acc, H7 D = some (.lst acc) ∧ acc.length < sizeLine ∧ Pw (j + 1) (upd H7 D (.lst (acc ++ [y]))) else Pw (j + 1) H6) (hd : ∀ H, Pw n H → Nx H) :
    ∃ W1 : Nat → Nat → Hp → Prop, (∃ m, W1 0 m H4) ∧ ∀ j k H, W1 j k H → ((Itr lo n).stop j H ∧ Nx H) ∨ ((Itr lo n).go j H ∧ ∃ N1 : Hp → Prop, (∀ H', N1 H' → ∃ k', k' < k ∧ W1 (j + 1) k' H') ∧
      ∀ x H', (Itr lo n).yld j H x H' → g x (wipe τ vs) H' fun t3 H5 => wipe t3 vs = wipe τ vs ∧ tt t3 H5 fun b H6 => if b = true then te t3 H6 fun y H7 => ∃ acc, H7 D = some (.lst acc) ∧ acc.length < sizeLine ∧ N1 (upd H7 D (.lst (acc ++ [y]))) else N1 H6) := by
  refine ⟨fun j k H => k + j = n ∧ Pw j H, ⟨n, rfl, h0⟩, fun j k H z => ?_⟩
  obtain ⟨hk, p⟩ := z
  rcases Nat.lt_or_ge j n with lt | ge
  · refine .inr ⟨lt, Pw (j + 1), fun H' p' => ⟨k - 1, by omega, by omega, p'⟩, fun x H' y => ?_⟩
    obtain ⟨rfl, rfl⟩ := y
    exact hs j _ lt p
  · obtain rfl : j = n := by omega
    exact .inl ⟨Nat.le_refl _, hd H p⟩
/-- the outer one -/
theorem out_range {lo : Int} {n : Nat} {g : TG} {tt : TT} {inner : (Hp → Prop) → L2.St → Hp → Prop} {vs : List Nat} {τ : L2.St} {H1 : Hp} {D : Addr} {Qd : Hp → Prop} (Pv : Nat → Hp → Prop) (h0 : Pv 0 (upd H1 D (.lst [])))
    (hs : ∀ i H, i < n → Pv i H → g (.int (lo + i)) (wipe τ vs) H fun t2 H2 => wipe t2 vs = wipe τ vs ∧ tt t2 H2 fun b H3 => if b = true then inner (Pv (i + 1)) t2 H3 else Pv (i + 1) H3) (hd : ∀ H, Pv n H → Qd H) :
    ∃ W : Nat → Nat → Hp → Prop, (∃ m, W 0 m (upd H1 D (.lst []))) ∧ ∀ i m H, W i m H → ((Itr lo n).stop i H ∧ Qd H) ∨ ((Itr lo n).go i H ∧ ∃ Nx : Hp → Prop, (∀ H', Nx H' → ∃ m', m' < m ∧ W (i + 1) m' H') ∧
      ∀ x H', (Itr lo n).yld i H x H' → g x (wipe τ vs) H' fun t2 H2 => wipe t2 vs = wipe τ vs ∧ tt t2 H2 fun b H3 => if b = true then inner Nx t2 H3 else Nx H3) := by
  refine ⟨fun i m H => m + i = n ∧ Pv i H, ⟨n, rfl, h0⟩, fun i m H z => ?_⟩
  obtain ⟨hm, p⟩ := z
  rcases Nat.lt_or_ge i n with lt | ge
  · refine .inr ⟨lt, Pv (i + 1), fun H' p' => ⟨m - 1, by omega, by omega, p'⟩, fun x H' y => ?_⟩
    obtain ⟨rfl, rfl⟩ := y
    exact hs i _ lt p
  · obtain rfl : i = n := by omega
    exact .inl ⟨Nat.le_refl _, hd H p⟩
end K7E
end
/-! ## P12 -/
section
open PySem PySem.Spec PyProof.Rows L2
namespace K7
abbrev N_Land___init__ : List Str := ["self", "cells", "neighbours", "roads", "couples", "couple", "a", "b"]
abbrev s_Land___init__ : Stmt := inClass (topS 19) 0
theorem sc_Land___init__ : FnScope ["self", "cells", "neighbours", "roads", "couples", "couple", "a", "b"] ["self", "cells", "neighbours", "roads"] (defScope s_Land___init__) := ⟨rfl, rfl, rfl, by decide +kernel, rfl, by decide +kernel, by decide +kernel⟩
/-! ### a land is made -/
structure LandO (C : Addr) (H : Hp) (p : Addr) (n : Nat) (es : List (Nat × Nat)) (rd : List Nat) : Prop where
  at_ : ∃ dx an ar ay ac tn ty tc, H p = some (.ins C dx (landFs (n : Nat) an ar ay ac)) ∧ H an = some (.tup (tn.map V.ref)) ∧ TAt H tn (pairs es) ∧ H ar = some (.tup (ints_ rd)) ∧ H ay = some (.tup (ty.map V.ref)) ∧ TAt H ty (nearV n es) ∧ H ac = some (.tup (tc.map V.ref)) ∧ TAt H tc (pairs (KL.allC n))
  n2 : 2 ≤ n
  n5 : n ≤ 5
  ok : LandOk n es
  rlt : ∀ c ∈ rd, c < n
  rnd : rd.Nodup
  rso : rd.Pairwise (· ≤ ·)
  r0 : 0 < rd.length
  rn : rd.length < n
theorem LandO.same {C : Addr} {H H' : Hp} {p : Addr} {n : Nat} {es : List (Nat × Nat)} {rd : List Nat} (h : LandO C H p n es rd) (e : Same H H') : LandO C H' p n es rd := by
  obtain ⟨dx, an, ar, ay, ac, tn, ty, tc, h1, h2, h3, h4, h5, h6, h7, h8⟩ := h.at_
  exact ⟨⟨dx, an, ar, ay, ac, tn, ty, tc, e _ _ h1, e _ _ h2, h3.same e, e _ _ h4, e _ _ h5, h6.same e, e _ _ h7, h8.same e⟩, h.n2, h.n5, h.ok, h.rlt, h.rnd, h.rso, h.r0, h.rn⟩
theorem LandO.c {C : Addr} {H : Hp} {p : Addr} {n : Nat} {es : List (Nat × Nat)} {rd : List Nat} (h : LandO C H p n es rd) : LandC C H p n := by
  obtain ⟨dx, an, ar, ay, ac, tn, ty, tc, h1, _⟩ := h.at_
  exact ⟨dx, _, h1, rfl⟩
/-- a land is written while an object is made: what is not an instance stays -/
theorem keepNI {C dx x : Addr} {fs : List (Str × V)} {H : Hp} (hx : H x = some (.ins C dx fs)) {b : Addr} {o o' : HO} (hb : H b = some o) (no : ∀ C dx fs, o ≠ .ins C dx fs) : upd H x o' b = some o := by
  rw [upd_ne (fun e => by rw [e, hx] at hb; exact no _ _ _ (Option.some.inj hb).symm)]
  exact hb
theorem cells_lot {n : Nat} {lot : List Nat} (h1 : ∀ c ∈ lot, c < n) (h2 : lot.Nodup) (h3 : 0 < lot.length) : cellsV (n : Nat) (ints_ lot) 1 = true := by
  unfold cellsV
  have e1 : (ints_ lot).all (fun x => wholeV x 0 (((n : Nat) : Int) - 1)) = true := by
    refine List.all_eq_true.mpr fun x hx => ?_
    obtain ⟨c, hc, rfl⟩ := List.mem_map.mp hx
    have := h1 c hc
    rw [wholeV_int, decide_eq_true (by omega), decide_eq_true (by omega)]
    rfl
  have e2 : ((ints_ lot).map intOf).Nodup := by
    unfold ints_
    rw [List.map_map, List.nodup_iff_pairwise_ne, List.pairwise_map]
    refine (List.nodup_iff_pairwise_ne.mp h2).imp fun {a b} ne e => ne ?_
    have e : ((a : Nat) : Int) = ((b : Nat) : Int) := e
    omega
  have e3 : (ints_ lot).length = lot.length := List.length_map ..
  rw [e1, decide_eq_true e2, e3, decide_eq_true (by omega)]
  rfl
theorem ints_back {ms : List Int} {lot : List Nat} (p : ms.Perm (lot.map fun c => ((c : Nat) : Int))) : ms = (ms.map Int.toNat).map fun c => ((c : Nat) : Int) := by
  rw [List.map_map]
  refine (List.map_id ms).symm.trans (List.map_congr_left fun x hx => ?_)
  obtain ⟨c, _, rfl⟩ := List.mem_map.mp (p.mem_iff.mp hx)
  rfl
/-- one more couple of the comprehension of all of them -/
def rowC (n i j : Nat) : List (Nat × Nat) := ((List.range j).filter fun b => decide (i ≠ b)).map fun b => (i, b)
def upC (n i : Nat) : List (Nat × Nat) := (List.range i).flatMap fun a => rowC n a n
theorem upC_succ (n i : Nat) : upC n (i + 1) = upC n i ++ rowC n i n := by
  unfold upC
  rw [List.range_succ, List.flatMap_append, List.flatMap_cons, List.flatMap_nil, List.append_nil]
theorem rowC_succ (n i j : Nat) : rowC n i (j + 1) = rowC n i j ++ (if i ≠ j then [(i, j)] else []) := by
  unfold rowC
  rw [range_filter, List.map_append]
  by_cases h : i = j
  · rw [if_neg (by rw [decide_eq_false (by simpa using h)]; decide), if_neg (by simpa using h)]
    rfl
  · rw [if_pos (decide_eq_true h), if_pos h]
    rfl
theorem rowC_len (n i j : Nat) : (rowC n i j).length ≤ j := by
  unfold rowC
  rw [List.length_map]
  exact Nat.le_trans (List.length_filter_le _ _) (by rw [List.length_range]; exact Nat.le_refl _)
theorem upC_len (n : Nat) : ∀ i, (upC n i).length ≤ i * n
  | 0 => Nat.zero_le _
  | i + 1 => by
    rw [upC_succ, List.length_append, Nat.succ_mul]
    exact Nat.add_le_add (upC_len n i) (rowC_len n i n)
theorem SqOf.ni {C dx x : Addr} {fs : List (Str × V)} {H : Hp} (hx : H x = some (.ins C dx fs)) {b : Addr} {xs : List V} (h : SqOf H b xs) (o' : HO) : SqOf (upd H x o') b xs :=
  h.imp (fun z => keepNI hx z fun _ _ _ e => by cases e) fun z => keepNI hx z fun _ _ _ e => by cases e
theorem TAt.ni {C dx x : Addr} {fs : List (Str × V)} {H : Hp} (hx : H x = some (.ins C dx fs)) {ts : List Addr} {ls : List (List Nat)} (h : TAt H ts ls) (o' : HO) : TAt (upd H x o') ts ls := h.mono fun b xs hb => keepNI hx hb fun _ _ _ e => by cases e
theorem But.put {x : Addr} {H H' : Hp} (h : But x H H') (o : HO) : But x H (upd H' x o) := fun b o' nb hb => by rw [upd_ne nb]; exact h b o' nb hb
theorem But.new {x p : Addr} {H H' : Hp} (h : But x H H') (np : H' p = none) (o : HO) : But x H (upd H' p o) := fun b o' nb hb => by
  have z := h b o' nb hb
  rw [upd_ne (ne_of_none z np)]
  exact z
theorem But.same {x : Addr} {H H' H'' : Hp} (h : But x H H') (e : Same H' H'') : But x H H'' := fun b o nb hb => e _ _ (h b o nb hb)
theorem iteTo {c : Prop} [Decidable c] {p q : Prop} (h : c) (x : p) : if c then p else q := by rw [if_pos h]; exact x
theorem iteFo {b : Bool} {p q : Prop} (h : b = false) (x : q) : if b = true then p else q := by rw [h]; exact x
theorem ints_map (lot : List Nat) : ints_ lot = (lot.map fun c => ((c : Nat) : Int)).map V.int := by
  unfold ints_
  rw [List.map_map]
  rfl
section
variable {P : Program} {w : World} {K : PySem.W.Frag} {mg : Str → Option Value} {base : Heap} {a : AdL}
def spLandI (a : AdL) : Sp := fun vs H Q _ => ∃ (x dx : Addr) (n : Nat) (an : Addr) (ts : List Addr) (cs : List (Nat × Nat)) (ar : Addr) (lot : List Nat), vs = [.ref x, .int (n : Nat), .ref an, .ref ar] ∧ H x = some (.ins a.C dx []) ∧ 2 ≤ n ∧ n ≤ 5 ∧
  SqOf H an (ts.map V.ref) ∧ CoAll H ts cs ∧ Cos n cs ∧ KL.Conn n cs ∧ SqOf H ar (ints_ lot) ∧ (∀ c ∈ lot, c < n) ∧ lot.Nodup ∧ 0 < lot.length ∧ lot.length < n ∧
  ∀ H' es rd, But x H H' → LandO a.C H' x n es rd → es.Perm (cs.map KL.srt) → rd.Perm lot → Q .non H'
theorem ok_landI (T : Tl K mg a) {tM : Tok} (gM : mg "MOST_CELLS" = some (.int 5 tM)) {f fW fB fC fH fN : Addr} {fd fdW fdB fdC fdH fdN : FuncData} (F : Fun K "__init__" "Land.__init__" s_Land___init__ f fd)
    (Giw : FnOk P w K mg base CX0 1 fW fdW ["thing", "low", "high"] spWhole) (giw : mg "is_whole" = some (.ref fW)) (kiw : PySem.W.keepIn K (.ref fW) = true) (biw : Binds K fdW ["thing", "low", "high"] [])
    (Gnb : FnOk P w K mg base CX0 4 fB fdB ["cells", "thing"] spNbrs) (gnb : mg "_are_neighbours" = some (.ref fB)) (knb : PySem.W.keepIn K (.ref fB) = true) (bnb : Binds K fdB ["cells", "thing"] [])
    (Gac : FnOk P w K mg base CX0 2 fC fdC ["many", "thing", "least"] (spCells K)) (gac : mg "are_cells" = some (.ref fC)) (kac : PySem.W.keepIn K (.ref fC) = true) (bac : Binds K fdC ["many", "thing", "least"] [])
    (Ght : FnOk P w K mg base CX0 2 fH fdH ["cells", "couples"] spHang) (ght : mg "hang_together" = some (.ref fH)) (kht : PySem.W.keepIn K (.ref fH) = true) (bht : Binds K fdH ["cells", "couples"] [])
    (Gnc : FnOk P w K mg base CX0 1 fN fdN ["cells", "couples"] spNear) (gnc : mg "nearby_cells" = some (.ref fN)) (knc : PySem.W.keepIn K (.ref fN) = true) (bnc : Binds K fdN ["cells", "couples"] [])
    (m_len : mg "len" = none) (m_sorted : mg "sorted" = none) (m_tuple : mg "tuple" = none) (m_range : mg "range" = none) : FnOk P w K mg base CX0 5 f fd ["self", "cells", "neighbours", "roads"] (spLandI a) := by
  refine F.ok sc_Land___init__ (fun vs H Q E h => ?_) (fun cdv A outer s H vs Q E hr h => ?_)
  · obtain ⟨x, dx, n, an, ts, cs, ar, lot, rfl, _⟩ := h
    rfl
  · obtain ⟨x, dx, n, an, ts, cs, ar, lot, rfl, hx, n2, n5, han, hT, hc, cn, har, llt, lnd, l0, ln, q⟩ := h
    refine ⟨_, (pss_cons (ps_if (pt_not (pt_val (pe_call Giw (hr.mono (by decide)) (by rfl) giw kiw biw .nil pass0 (pa_cons (pv 1) (pa_cons pe_int (pa_cons (pe_glob (v := .int 5) rfl gM ⟨_, rfl⟩) pa_nil))))))
  (pss_one ps_never)
  pss_nil)
 (pss_cons (ps_if (pt_not (pt_val (pe_call Gnb (hr.mono (by decide)) (by rfl) gnb knb bnb .nil pass0 (pa_cons (pv 1) (pa_cons (pv 2) pa_nil)))))
  (pss_one ps_never)
  pss_nil)
 (pss_cons (ps_if (pw_or (pt_not (pt_val (pe_call Gac (hr.mono (by decide)) (by rfl) gac kac bac .nil pass0 (pa_cons (pv 1) (pa_cons (pv 3) (pa_cons pe_int pa_nil)))))) (pw_or1 (pt_cmpR op_eq (pe_callB call_len_seq (by rfl) m_len boot_len (pa_cons (pv 3) pa_nil)) (pv 1) (nomark _)))).pt
  (pss_one ps_never)
  pss_nil)
 (Evl.pss_cut (ps_set (i := 4) sc_Land___init__.nd rfl (by first | exact Or.inl rfl | exact Or.inr rfl) (pe_callB cr_sortedPO (by rfl) m_sorted boot_sorted (pa_cons (pe_lc (own := [("couple", 5)]) (g := gName 5) (tt := tYes) rfl sc_Land___init__.nd (K7E.pi_either (pi_tup (pv 2)) (pi_list (pv 2))) (blkOk_by (own := [("couple", 5)]) (N := N_Land___init__) (sc := defScope s_Land___init__) (by decide +kernel)) (fun _ _ _ _ _ => (pg_name (i := 5) sc_Land___init__.nd rfl (by first | exact Or.inl rfl | exact Or.inr rfl))) (fun _ _ _ _ _ => pts_nil) (fun _ _ _ _ _ => (pe_callTy (show CallR _ (.type "tuple") (rTup_ K) from call_tuple_of) (by rfl) m_tuple boot_tuple (pa_cons (pe_callB (show CallR _ (.builtin "sorted") (K7S.rSortA K) from K7S.cr_sortA) (by rfl) m_sorted boot_sorted (pa_cons (pv 5) pa_nil)) pa_nil)))) pa_nil)))
 (pss_cons (ps_if (pt_not (pt_val (pe_call Ght (hr.mono (by decide)) (by rfl) ght kht bht .nil pass0 (pa_cons (pv 1) (pa_cons (pv 4) pa_nil)))))
  (pss_one ps_never)
  pss_nil)
 (pss_cons (ps_fld (pv 0) (pv 1) rfl)
 (pss_cons (ps_fld (pv 0) (pe_callTy call_tuple_of (by rfl) m_tuple boot_tuple (pa_cons (pv 4) pa_nil)) rfl)
 (pss_cons (ps_fld (pv 0) (pe_callTy call_tuple_of (by rfl) m_tuple boot_tuple (pa_cons (pe_callB K7S.cr_sortA (by rfl) m_sorted boot_sorted (pa_cons (pv 3) pa_nil)) pa_nil)) rfl)
 (pss_cons (ps_fld (pv 0) (pe_call Gnc (hr.mono (by decide)) (by rfl) gnc knc bnc .nil pass0 (pa_cons (pv 1) (pa_cons (pv 4) pa_nil))) rfl)
 (pss_one (ps_fld (pv 0) (pe_callTy call_tuple_of (by rfl) m_tuple boot_tuple (pa_cons (pe_lc2 (own := [("a", 6), ("b", 7)]) (vs1 := [7]) (g := gName 6) (g1 := gName 7) (tt := tYes) rfl sc_Land___init__.nd (pi_range1 rfl m_range (pa_cons (pv 1) pa_nil)) (blkOk_by (own := [("a", 6), ("b", 7)]) (N := N_Land___init__) (sc := defScope s_Land___init__) (by decide +kernel)) (by decide) (fun _ _ _ _ _ => (pg_name (i := 6) sc_Land___init__.nd rfl (by first | exact Or.inl rfl | exact Or.inr rfl))) (fun _ _ _ _ _ => pts_nil) (fun _ _ _ _ _ => (pi_range1 rfl m_range (pa_cons (pv 1) pa_nil))) (fun _ _ _ _ _ => (pg_name (i := 7) sc_Land___init__.nd rfl (by first | exact Or.inl rfl | exact Or.inr rfl))) (fun _ _ _ _ _ => (pts_one (pt_cmpR op_ne (pv 6) (pv 7) (nomark _)))) (fun _ _ _ _ _ => (pe_tup (pa_cons (pv 6) (pa_cons (pv 7) pa_nil))))) pa_nil)) rfl))))))))))), ?_⟩
    have hl : ts.length = cs.length := hT.1
    have h32 := hc.len
    have lilen : (ints_ lot).length = lot.length := List.length_map ..
    refine ⟨_, rfl, .int (n : Nat), 2, 5, rfl, .flat (.int _), _, rfl, ?_⟩
    rw [wholeV_int, decide_eq_true (by omega), decide_eq_true (by omega)]
    refine iteF ?_
    refine ⟨_, rfl, _, rfl, n, an, ts, cs, rfl, han, hT, hc, fun H1 e1 => ⟨_, rfl, iteF ?_⟩⟩
    refine ⟨_, rfl, _, rfl, n, .ref ar, 1, rfl, .inr ⟨ar, ints_ lot, rfl, har.same e1, fun y hy => ?_, by rw [lilen]; omega, fun H2 e2 => ?_⟩⟩
    · obtain ⟨k, _, rfl⟩ := List.mem_map.mp hy
      exact .flat (.int _)
    rw [cells_lot llt lnd l0]
    have e02 := e1.trans e2
    refine ⟨_, rfl, _, rfl, ar, ints_ lot, rfl, (har.same e02).sq, _, rfl, rfl, _, rfl, ?_⟩
    rw [lilen, decide_eq_false (fun e => by injection e with e; omega)]
    refine iteF ?_
    have han2 := han.same e02
    have hT2 := hT.same e02
    -- the couples, in order
    refine ⟨fun σ' H' => ∃ p us es y5 y6 y7, σ' = [some (.ref x), some (.int (n : Nat)), some (.ref an), some (.ref ar), some (.ref p), y5, y6, y7] ∧ Same H H' ∧ H' p = some (.lst (us.map V.ref)) ∧ TAt H' us (pairs es) ∧ LandOk n es ∧ es.Perm (cs.map KL.srt), ?_, fun σ' H' hM => ?_⟩
    · rcases han2 with z | z
      · refine .inl ⟨_, rfl, an, rfl, ⟨_, .inl (.inl z)⟩, fun D hD => lc_tup (xs := ts.map V.ref) (fun j H3 => Same H2 H3 ∧ ∃ us, H3 D = some (.lst (us.map V.ref)) ∧ TAt H3 us (pairs ((cs.take j).map KL.srt)) ∧ us.length ≤ j) ⟨same_new (Same.refl H2) hD, [], upd_same, .nil, Nat.le_refl _⟩ (fun j H3 _ pv => .inl (.inl (pv.1 _ _ z))) (fun j y H3 hy pv => ?_) (fun H3 pv => ?_)⟩
        · obtain ⟨e3, us, hD3, tD, lu⟩ := pv
          rw [List.getElem?_map] at hy
          obtain ⟨t', ht', rfl⟩ := Option.map_eq_some_iff.mp hy
          have hj : j < cs.length := by rw [← hl]; exact (List.getElem?_eq_some_iff.mp ht').1
          have hco := (hT2.2 j t' _ ht' (List.getElem?_eq_getElem hj)).same e3
          refine ⟨rfl, _, rfl, t', [(cs[j].1 : Int), (cs[j].2 : Int)], rfl, hco.sq, by show 2 < 64; decide, fun ms p pm so np => ?_⟩
          have em := KL.two_sorted pm so
          subst em
          refine ⟨p, _, rfl, .inl ⟨.inl (.inl upd_same), fun l nl => ?_⟩⟩
          have s1 := same_new (o := .lst ([((min cs[j].1 cs[j].2 : Nat) : Int), ((max cs[j].1 cs[j].2 : Nat) : Int)].map V.int)) (Same.refl H3) np
          have s2 := same_new (o := .tup ([((min cs[j].1 cs[j].2 : Nat) : Int), ((max cs[j].1 cs[j].2 : Nat) : Int)].map V.int)) s1 nl
          have hD4 := s2 _ _ hD3
          refine ⟨_, hD4, by rw [List.length_map]; exact small1000 (by omega), fun b o hb => ?_, us ++ [l], by rw [upd_same, List.map_append]; rfl, ?_, by rw [List.length_append, List.length_singleton]; omega⟩
          · rw [upd_ne (ne_of_none hb hD)]
            exact s2 _ _ (e3 _ _ hb)
          · rw [List.take_add_one, List.getElem?_eq_getElem hj, List.map_append]
            unfold pairs
            rw [List.map_append]
            have up : ∀ b xs, upd (upd H3 p (.lst ([((min cs[j].1 cs[j].2 : Nat) : Int), ((max cs[j].1 cs[j].2 : Nat) : Int)].map V.int))) l (.tup ([((min cs[j].1 cs[j].2 : Nat) : Int), ((max cs[j].1 cs[j].2 : Nat) : Int)].map V.int)) b = some (.tup xs) → upd (upd (upd H3 p (.lst ([((min cs[j].1 cs[j].2 : Nat) : Int), ((max cs[j].1 cs[j].2 : Nat) : Int)].map V.int))) l (.tup ([((min cs[j].1 cs[j].2 : Nat) : Int), ((max cs[j].1 cs[j].2 : Nat) : Int)].map V.int))) D (.lst (us.map V.ref ++ [.ref l])) b = some (.tup xs) := fun b xs hb => by
              rw [upd_ne (fun e => by rw [e, hD4] at hb; cases hb)]
              exact hb
            exact ((tD.same s2).mono up).append (.cons (up _ _ upd_same) .nil)
        · obtain ⟨e3, us, hD3, tD, lu⟩ := pv
          rw [List.length_map, hl, List.take_length] at tD
          refine ⟨D, us.map V.ref, kfOf H3, rfl, .inl (.inl hD3), fun y hy => ?_, fun ys p srt stb np => ?_⟩
          · obtain ⟨b, e, rfl, hb⟩ := g_mem tD y hy
            exact ⟨b, rfl, by rw [kf_at hb]; exact hb⟩
          · have hys := fun y (hy : y ∈ ys) => g_mem tD y (stb.perm.mem_iff.mp hy)
            obtain ⟨us', rfl, tY⟩ := tat_of ys hys
            have pe : ((us'.map V.ref).map (gOf H3)).Perm (cs.map KL.srt) := by
              have z := stb.perm.map (gOf H3)
              rw [g_map tD] at z
              exact z
            have s4 := same_new (o := .lst (us'.map V.ref)) (Same.refl H3) np
            refine ⟨p, us', _, _, _, _, rfl, e02.trans (e3.trans s4), upd_same, tY.same s4, ⟨fun e he => ?_, pe.nodup_iff.mpr hc.nd, sorted_of _ hys srt, KL.conn_srt cn pe⟩, pe⟩
            obtain ⟨c, hcm, rfl⟩ := List.mem_map.mp (pe.mem_iff.mp he)
            obtain ⟨c1, c2, c3⟩ := hc.lt c hcm
            refine ⟨KL.srt_lt c3, ?_⟩
            unfold KL.srt
            simp only
            omega
      · refine .inr ⟨_, rfl, an, rfl, ⟨_, .inl (.inl z)⟩, fun D hD => lc_list (xs := ts.map V.ref) (fun j H3 => Same H2 H3 ∧ ∃ us, H3 D = some (.lst (us.map V.ref)) ∧ TAt H3 us (pairs ((cs.take j).map KL.srt)) ∧ us.length ≤ j) ⟨same_new (Same.refl H2) hD, [], upd_same, .nil, Nat.le_refl _⟩ (fun j H3 _ pv => .inl (.inl (pv.1 _ _ z))) (fun j y H3 hy pv => ?_) (fun H3 pv => ?_)⟩
        · obtain ⟨e3, us, hD3, tD, lu⟩ := pv
          rw [List.getElem?_map] at hy
          obtain ⟨t', ht', rfl⟩ := Option.map_eq_some_iff.mp hy
          have hj : j < cs.length := by rw [← hl]; exact (List.getElem?_eq_some_iff.mp ht').1
          have hco := (hT2.2 j t' _ ht' (List.getElem?_eq_getElem hj)).same e3
          refine ⟨rfl, _, rfl, t', [(cs[j].1 : Int), (cs[j].2 : Int)], rfl, hco.sq, by show 2 < 64; decide, fun ms p pm so np => ?_⟩
          have em := KL.two_sorted pm so
          subst em
          refine ⟨p, _, rfl, .inl ⟨.inl (.inl upd_same), fun l nl => ?_⟩⟩
          have s1 := same_new (o := .lst ([((min cs[j].1 cs[j].2 : Nat) : Int), ((max cs[j].1 cs[j].2 : Nat) : Int)].map V.int)) (Same.refl H3) np
          have s2 := same_new (o := .tup ([((min cs[j].1 cs[j].2 : Nat) : Int), ((max cs[j].1 cs[j].2 : Nat) : Int)].map V.int)) s1 nl
          have hD4 := s2 _ _ hD3
          refine ⟨_, hD4, by rw [List.length_map]; exact small1000 (by omega), fun b o hb => ?_, us ++ [l], by rw [upd_same, List.map_append]; rfl, ?_, by rw [List.length_append, List.length_singleton]; omega⟩
          · rw [upd_ne (ne_of_none hb hD)]
            exact s2 _ _ (e3 _ _ hb)
          · rw [List.take_add_one, List.getElem?_eq_getElem hj, List.map_append]
            unfold pairs
            rw [List.map_append]
            have up : ∀ b xs, upd (upd H3 p (.lst ([((min cs[j].1 cs[j].2 : Nat) : Int), ((max cs[j].1 cs[j].2 : Nat) : Int)].map V.int))) l (.tup ([((min cs[j].1 cs[j].2 : Nat) : Int), ((max cs[j].1 cs[j].2 : Nat) : Int)].map V.int)) b = some (.tup xs) → upd (upd (upd H3 p (.lst ([((min cs[j].1 cs[j].2 : Nat) : Int), ((max cs[j].1 cs[j].2 : Nat) : Int)].map V.int))) l (.tup ([((min cs[j].1 cs[j].2 : Nat) : Int), ((max cs[j].1 cs[j].2 : Nat) : Int)].map V.int))) D (.lst (us.map V.ref ++ [.ref l])) b = some (.tup xs) := fun b xs hb => by
              rw [upd_ne (fun e => by rw [e, hD4] at hb; cases hb)]
              exact hb
            exact ((tD.same s2).mono up).append (.cons (up _ _ upd_same) .nil)
        · obtain ⟨e3, us, hD3, tD, lu⟩ := pv
          rw [List.length_map, hl, List.take_length] at tD
          refine ⟨D, us.map V.ref, kfOf H3, rfl, .inl (.inl hD3), fun y hy => ?_, fun ys p srt stb np => ?_⟩
          · obtain ⟨b, e, rfl, hb⟩ := g_mem tD y hy
            exact ⟨b, rfl, by rw [kf_at hb]; exact hb⟩
          · have hys := fun y (hy : y ∈ ys) => g_mem tD y (stb.perm.mem_iff.mp hy)
            obtain ⟨us', rfl, tY⟩ := tat_of ys hys
            have pe : ((us'.map V.ref).map (gOf H3)).Perm (cs.map KL.srt) := by
              have z := stb.perm.map (gOf H3)
              rw [g_map tD] at z
              exact z
            have s4 := same_new (o := .lst (us'.map V.ref)) (Same.refl H3) np
            refine ⟨p, us', _, _, _, _, rfl, e02.trans (e3.trans s4), upd_same, tY.same s4, ⟨fun e he => ?_, pe.nodup_iff.mpr hc.nd, sorted_of _ hys srt, KL.conn_srt cn pe⟩, pe⟩
            obtain ⟨c, hcm, rfl⟩ := List.mem_map.mp (pe.mem_iff.mp he)
            obtain ⟨c1, c2, c3⟩ := hc.lt c hcm
            refine ⟨KL.srt_lt c3, ?_⟩
            unfold KL.srt
            simp only
            omega
    · obtain ⟨p, us, es, y5, y6, y7, rfl, eM, hp, tU, ok, pe⟩ := hM
      have esl : es.length = cs.length := by rw [pe.length_eq, List.length_map]
      refine ⟨_, rfl, _, rfl, n, p, us, es, rfl, by omega, n5, hp, tU, by omega, fun e he => ?_, ok.conn, fun H5 e5 => ⟨_, rfl, iteF ?_⟩⟩
      · obtain ⟨l1, l2⟩ := ok.lt e he
        exact ⟨by omega, l2⟩
      have b5 : But x H H5 := fun b o _ hb => e5 _ _ (eM _ _ hb)
      have hx5 := e5 _ _ (eM _ _ hx)
      have hp5 := e5 _ _ hp
      have tU5 := tU.same e5
      have har5 := (har.same eM).same e5
      -- cells
      refine ⟨_, rfl, _, rfl, x, a.C, dx, _, rfl, hx5, T.cl, T.nA _ (by decide), by show 0 < 1000; decide, ?_⟩
      have b6 := b5.put (.ins a.C dx (putF "cells" (.int (n : Nat)) []))
      have hx6 : upd H5 x (.ins a.C dx (putF "cells" (.int (n : Nat)) [])) x = _ := upd_same
      have hp6 := keepNI (o' := .ins a.C dx (putF "cells" (.int (n : Nat)) [])) hx5 hp5 fun _ _ _ e => by cases e
      have tU6 := tU5.ni hx5 (.ins a.C dx (putF "cells" (.int (n : Nat)) []))
      have har6 := har5.ni hx5 (.ins a.C dx (putF "cells" (.int (n : Nat)) []))
      generalize upd H5 x (.ins a.C dx (putF "cells" (.int (n : Nat)) [])) = H6 at b6 hx6 hp6 tU6 har6 ⊢
      -- neighbours
      refine ⟨_, rfl, p, us.map V.ref, rfl, .inl ⟨.inl (.inl hp6), fun tn ntn => ?_⟩⟩
      have s7 := same_new (o := .tup (us.map V.ref)) (Same.refl H6) ntn
      have b7 := b6.same s7
      have hx7 := s7 _ _ hx6
      refine ⟨_, rfl, x, a.C, dx, _, rfl, hx7, T.cl, T.nA _ (by decide), by show 1 < 1000; decide, ?_⟩
      have b8 := b7.put (.ins a.C dx (putF "neighbours" (.ref tn) (putF "cells" (.int (n : Nat)) [])))
      have hx8 : upd (upd H6 tn (.tup (us.map V.ref))) x (.ins a.C dx (putF "neighbours" (.ref tn) (putF "cells" (.int (n : Nat)) []))) x = _ := upd_same
      have hp8 := keepNI (o' := .ins a.C dx (putF "neighbours" (.ref tn) (putF "cells" (.int (n : Nat)) []))) hx7 (s7 _ _ hp6) fun _ _ _ e => by cases e
      have tU8 := (tU6.same s7).ni hx7 (.ins a.C dx (putF "neighbours" (.ref tn) (putF "cells" (.int (n : Nat)) [])))
      have har8 := (har6.same s7).ni hx7 (.ins a.C dx (putF "neighbours" (.ref tn) (putF "cells" (.int (n : Nat)) [])))
      have hn8 := keepNI (o' := .ins a.C dx (putF "neighbours" (.ref tn) (putF "cells" (.int (n : Nat)) []))) hx7 (show upd H6 tn (.tup (us.map V.ref)) tn = _ from upd_same) fun _ _ _ e => by cases e
      generalize upd (upd H6 tn (.tup (us.map V.ref))) x (.ins a.C dx (putF "neighbours" (.ref tn) (putF "cells" (.int (n : Nat)) []))) = H8 at b8 hx8 hp8 tU8 har8 hn8 ⊢
      -- roads
      have harI : SqOf H8 ar ((lot.map fun c => ((c : Nat) : Int)).map V.int) := by rw [← ints_map]; exact har8
      refine ⟨_, rfl, ar, lot.map fun c => ((c : Nat) : Int), rfl, harI.sq, by rw [List.length_map]; omega, fun ms pl pm so npl => ⟨pl, _, rfl, .inl ⟨.inl (.inl upd_same), fun tr ntr => ?_⟩⟩⟩
      have ems := ints_back pm
      have e12 : ms.map V.int = ints_ (ms.map Int.toNat) := by rw [ints_map, ← ems]
      rw [e12] at ntr ⊢
      have prd : (ms.map Int.toNat).Perm lot := by
        have z := pm.map Int.toNat
        rw [List.map_map] at z
        exact z.trans (List.Perm.of_eq ((List.map_congr_left fun c _ => rfl).trans (List.map_id lot)))
      have srd : (ms.map Int.toNat).Pairwise (· ≤ ·) := by
        rw [List.pairwise_map]
        exact so.imp fun {a b} h => by omega
      generalize ms.map Int.toNat = rd at prd srd ntr ⊢
      have s9 := same_new (o := .lst (ints_ rd)) (Same.refl H8) npl
      have s10 := same_new (o := .tup (ints_ rd)) s9 ntr
      have hr10 : upd (upd H8 pl (.lst (ints_ rd))) tr (.tup (ints_ rd)) tr = some (.tup (ints_ rd)) := upd_same
      generalize upd (upd H8 pl (.lst (ints_ rd))) tr (.tup (ints_ rd)) = H10 at s10 hr10 ⊢
      have hx10 := s10 _ _ hx8
      refine ⟨_, rfl, x, a.C, dx, _, rfl, hx10, T.cl, T.nA _ (by decide), by show 2 < 1000; decide, ?_⟩
      have b11 := (b8.same s10).put (.ins a.C dx (putF "roads" (.ref tr) (putF "neighbours" (.ref tn) (putF "cells" (.int (n : Nat)) []))))
      have hx11 : upd H10 x (.ins a.C dx (putF "roads" (.ref tr) (putF "neighbours" (.ref tn) (putF "cells" (.int (n : Nat)) [])))) x = _ := upd_same
      have hp11 := keepNI (o' := .ins a.C dx (putF "roads" (.ref tr) (putF "neighbours" (.ref tn) (putF "cells" (.int (n : Nat)) [])))) hx10 (s10 _ _ hp8) fun _ _ _ e => by cases e
      have tU11 := (tU8.same s10).ni hx10 (.ins a.C dx (putF "roads" (.ref tr) (putF "neighbours" (.ref tn) (putF "cells" (.int (n : Nat)) []))))
      have hn11 := keepNI (o' := .ins a.C dx (putF "roads" (.ref tr) (putF "neighbours" (.ref tn) (putF "cells" (.int (n : Nat)) [])))) hx10 (s10 _ _ hn8) fun _ _ _ e => by cases e
      have hr11 := keepNI (o' := .ins a.C dx (putF "roads" (.ref tr) (putF "neighbours" (.ref tn) (putF "cells" (.int (n : Nat)) [])))) hx10 hr10 fun _ _ _ e => by cases e
      generalize upd H10 x (.ins a.C dx (putF "roads" (.ref tr) (putF "neighbours" (.ref tn) (putF "cells" (.int (n : Nat)) [])))) = H11 at b11 hx11 hp11 tU11 hn11 hr11 ⊢
      -- nearby
      refine ⟨_, rfl, _, rfl, n, p, us, es, rfl, n5, hp11, tU11, by omega, fun H12 ty uy s12 nty hy12 tY12 => ?_⟩
      have hx12 := s12 _ _ hx11
      refine ⟨_, rfl, x, a.C, dx, _, rfl, hx12, T.cl, T.nA _ (by decide), by show 3 < 1000; decide, ?_⟩
      have b13 := (b11.same s12).put (.ins a.C dx (putF "nearby" (.ref ty) (putF "roads" (.ref tr) (putF "neighbours" (.ref tn) (putF "cells" (.int (n : Nat)) [])))))
      have hx13 : upd H12 x (.ins a.C dx (putF "nearby" (.ref ty) (putF "roads" (.ref tr) (putF "neighbours" (.ref tn) (putF "cells" (.int (n : Nat)) []))))) x = _ := upd_same
      have tU13 := (tU11.same s12).ni hx12 (.ins a.C dx (putF "nearby" (.ref ty) (putF "roads" (.ref tr) (putF "neighbours" (.ref tn) (putF "cells" (.int (n : Nat)) [])))))
      have tY13 := tY12.ni hx12 (.ins a.C dx (putF "nearby" (.ref ty) (putF "roads" (.ref tr) (putF "neighbours" (.ref tn) (putF "cells" (.int (n : Nat)) [])))))
      have hn13 := keepNI (o' := .ins a.C dx (putF "nearby" (.ref ty) (putF "roads" (.ref tr) (putF "neighbours" (.ref tn) (putF "cells" (.int (n : Nat)) []))))) hx12 (s12 _ _ hn11) fun _ _ _ e => by cases e
      have hr13 := keepNI (o' := .ins a.C dx (putF "nearby" (.ref ty) (putF "roads" (.ref tr) (putF "neighbours" (.ref tn) (putF "cells" (.int (n : Nat)) []))))) hx12 (s12 _ _ hr11) fun _ _ _ e => by cases e
      have hy13 := keepNI (o' := .ins a.C dx (putF "nearby" (.ref ty) (putF "roads" (.ref tr) (putF "neighbours" (.ref tn) (putF "cells" (.int (n : Nat)) []))))) hx12 hy12 fun _ _ _ e => by cases e
      generalize upd H12 x (.ins a.C dx (putF "nearby" (.ref ty) (putF "roads" (.ref tr) (putF "neighbours" (.ref tn) (putF "cells" (.int (n : Nat)) []))))) = H13 at b13 hx13 tU13 hn13 hr13 hy13 tY13 ⊢
      -- couples
      refine ⟨_, rfl, _, rfl, by omega, by omega, fun D hD => K7E.out_range (lo := 0) (n := n) (fun i H' => Same H13 H' ∧ ∃ vs, H' D = some (.lst (vs.map V.ref)) ∧ TAt H' vs (pairs (upC n i)) ∧ vs.length ≤ i * n) ⟨same_new (Same.refl H13) hD, [], upd_same, .nil, Nat.zero_le _⟩ (fun i H' hi pv => ?_) (fun H' pv => ?_)⟩
      · obtain ⟨e14, vs, hD14, tV, lv⟩ := pv
        refine ⟨rfl, _, rfl, _, rfl, by omega, by omega, K7E.in_range (lo := 0) (n := n) (fun j H'' => Same H13 H'' ∧ ∃ vs, H'' D = some (.lst (vs.map V.ref)) ∧ TAt H'' vs (pairs (upC n i ++ rowC n i j)) ∧ vs.length ≤ i * n + j) ⟨e14, vs, hD14, ?_, lv⟩ (fun j H'' hj pv => ?_) (fun H'' pv => ?_)⟩
        · show TAt H' vs (pairs (upC n i ++ []))
          rw [List.append_nil]
          exact tV
        · obtain ⟨e15, vs, hD15, tV, lv⟩ := pv
          refine ⟨rfl, _, rfl, _, rfl, rfl, _, rfl, ?_⟩
          by_cases hij : i = j
          · subst hij
            have er : rowC n i (i + 1) = rowC n i i := by rw [rowC_succ, if_neg (fun h => h rfl), List.append_nil]
            have e16 : (!decide (V.int (0 + (i : Nat)) = V.int (0 + (i : Nat)))) = false := by rw [decide_eq_true rfl]; rfl
            rw [e16]
            refine iteF ⟨e15, vs, hD15, ?_, by omega⟩
            rw [er]
            exact tV
          · have er : rowC n i (j + 1) = rowC n i j ++ [(i, j)] := by rw [rowC_succ, if_pos hij]
            have e16 : (!decide (V.int (0 + (i : Nat)) = V.int (0 + (j : Nat)))) = true := by
              rw [decide_eq_false (fun h => by injection h with h; exact hij (by omega))]
              rfl
            have hin : i * n ≤ 25 := Nat.le_trans (Nat.mul_le_mul (Nat.le_of_lt (Nat.lt_of_lt_of_le hi n5)) n5) (by decide)
            rw [e16]
            refine iteT ⟨_, rfl, _, rfl, by show 2 ≤ sizeLine; decide, fun t nt => ?_⟩
            rw [er]
            have sT := same_new (o := .tup [.int (0 + (i : Nat)), .int (0 + (j : Nat))]) (Same.refl H'') nt
            have up : ∀ b xs, upd H'' t (.tup [.int (0 + (i : Nat)), .int (0 + (j : Nat))]) b = some (.tup xs) → upd (upd H'' t (.tup [.int (0 + (i : Nat)), .int (0 + (j : Nat))])) D (.lst (vs.map V.ref ++ [.ref t])) b = some (.tup xs) := fun b xs hb => by
              rw [upd_ne (fun z => by rw [z, sT _ _ hD15] at hb; cases hb)]
              exact hb
            refine ⟨_, sT _ _ hD15, by rw [List.length_map]; exact small1000 (by omega), fun b o hb => ?_, vs ++ [t], by rw [upd_same, List.map_append]; rfl, ?_, by rw [List.length_append, List.length_singleton]; omega⟩
            · rw [upd_ne (ne_of_none hb hD)]
              exact sT _ _ (e15 _ _ hb)
            · rw [← List.append_assoc]
              unfold pairs
              rw [List.map_append]
              refine ((tV.same sT).mono up).append (.cons (up _ _ ?_) .nil)
              rw [upd_same, Int.zero_add, Int.zero_add]
              rfl
        · obtain ⟨e15, vs, hD15, tV, lv⟩ := pv
          exact ⟨e15, vs, hD15, by rw [upC_succ]; exact tV, by rw [Nat.succ_mul]; exact lv⟩
      · obtain ⟨e14, vs, hD14, tV, lv⟩ := pv
        refine ⟨D, vs.map V.ref, rfl, .inl ⟨.inl (.inl hD14), fun tc ntc => ?_⟩⟩
        have sC := same_new (o := .tup (vs.map V.ref)) e14 ntc
        have hc14 : upd H' tc (.tup (vs.map V.ref)) tc = some (.tup (vs.map V.ref)) := upd_same
        have tV14 := tV.same (same_new (o := .tup (vs.map V.ref)) (Same.refl H') ntc)
        generalize upd H' tc (.tup (vs.map V.ref)) = H15 at sC hc14 tV14 ⊢
        have hx15 := sC _ _ hx13
        refine ⟨_, rfl, x, a.C, dx, _, rfl, hx15, T.cl, T.nA _ (by decide), by show 4 < 1000; decide, ?_⟩
        have no : ∀ (xs : List V) (C dx : Addr) fs, HO.tup xs ≠ .ins C dx fs := fun _ _ _ _ e => by cases e
        exact q _ es rd ((b13.same sC).put _) ⟨⟨dx, tn, tr, ty, tc, us, uy, vs, upd_same, keepNI hx15 (sC _ _ hn13) (no _), (tU13.same sC).ni hx15 _, keepNI hx15 (sC _ _ hr13) (no _), keepNI hx15 (sC _ _ hy13) (no _), (tY13.same sC).ni hx15 _, keepNI hx15 hc14 (no _), tV14.ni hx15 _⟩,
          n2, n5, ok, fun c hc => llt c (prd.mem_iff.mp hc), prd.nodup_iff.mpr lnd, srd, by rw [prd.length_eq]; exact l0, by rw [prd.length_eq]; exact ln⟩ pe prd
end
end K7
end
/-! ## P13 -/
section
open PySem PySem.Spec PyProof.Rows L2
namespace K7
theorem near_get {n : Nat} {es : List (Nat × Nat)} {c : Nat} (h : c < n) : (nearV n es)[c]? = some ((List.range n).filter fun b => decide ((c, b) ∈ es) || decide ((b, c) ∈ es)) := by
  unfold nearV
  rw [List.getElem?_map, List.getElem?_range h]
  rfl
def nearOf (n : Nat) (es : List (Nat × Nat)) (c : Nat) : List Nat := (List.range n).filter fun b => decide ((c, b) ∈ es) || decide ((b, c) ∈ es)
/-- a cell, or what is no cell and is told so -/
def CellOr (B : Addr) (n : Nat) (H : Hp) (x : V) (E : XK) (q : Nat → Prop) : Prop := (∃ c, x = .int (c : Nat) ∧ c < n ∧ q c) ∨ (Thing H x ∧ wholeV x 0 ((n : Nat) - 1) = false ∧ Flies H B "cell" x E)
theorem whole_cell {n c : Nat} (h : c < n) : wholeV (.int (c : Nat)) 0 (((n : Nat) : Int) - 1) = true := by
  rw [wholeV_int, decide_eq_true (by omega), decide_eq_true (by omega)]
  rfl
theorem one_in {n c : Nat} (h : c < n) : AllIn n [.int (c : Nat)] := fun x hx => by
  rw [List.mem_singleton.mp hx]
  exact whole_cell h
/-! is_lot, is_couple -/
section
variable {P : Program} {w : World} {K : PySem.W.Frag} {mg : Str → Option Value} {base : Heap} {a : AdL}
def NoSeq (K : PySem.W.Frag) (H : Hp) (x : V) : Prop := ∃ t : String, (∀ H1, Same H H1 → TyX K H1 x (.type t)) ∧ PySem.W.kitAny K (.type t) [.type "list", .type "tuple"] = some false
def spIsLot (K : PySem.W.Frag) (C : Addr) : Sp := fun vs H Q _ => ∃ (p : Addr) (n : Nat) (x : V) (least : Int), vs = [.ref p, x, .int least] ∧ LandC C H p n ∧
  ((NoSeq K H x ∧ ∀ H1, Same H H1 → Q (.bl false) H1) ∨ (∃ (b : Addr) (xs : List V), x = .ref b ∧ SqOf H b xs ∧ (∀ y ∈ xs, Thing H y) ∧ xs.length < 64 ∧ ∀ H1, Same H H1 → Q (.bl (cellsV (n : Nat) xs least)) H1))
theorem ok_islot (T : Tl K mg a) {f fC : Addr} {fd fdC : FuncData} (F : Fun K "is_lot" "is_lot" s_is_lot f fd)
    (Gac : FnOk P w K mg base CX0 2 fC fdC ["many", "thing", "least"] (spCells K)) (gac : mg "are_cells" = some (.ref fC)) (kac : PySem.W.keepIn K (.ref fC) = true) (bac : Binds K fdC ["many", "thing", "least"] []) : FnOk P w K mg base CX0 3 f fd ["land", "thing", "least"] (spIsLot K a.C) := by
  refine F.ok sc_is_lot (fun vs H Q E h => ?_) (fun cdv A outer s H vs Q E hr h => ?_)
  · obtain ⟨p, n, x, l, rfl, _⟩ := h
    rfl
  · obtain ⟨p, n, x, l, rfl, ⟨dx, fs, hp, hl⟩, h⟩ := h
    refine ⟨_, (pss_one (ps_ret (pe_call Gac (hr.mono (by decide)) (by rfl) gac kac bac .nil pass0 (pa_cons (pe_fld (pv 0) rfl) (pa_cons (pv 1) (pa_cons (pv 2) pa_nil)))))), ?_⟩
    refine ⟨_, rfl, p, a.C, dx, fs, _, rfl, hp, T.cl, T.nA _ (by decide), hl, _, rfl, _, rfl, (n : Nat), x, l, rfl, ?_⟩
    rcases h with ⟨⟨t, ty, k⟩, q⟩ | ⟨b, xs, rfl, hb, th, h64, q⟩
    · exact .inl ⟨t, ty, k, q⟩
    · exact .inr ⟨b, xs, rfl, hb, th, h64, q⟩
end
end K7
end
/-! ## EN -/
section
/-! x == y, x != y by x's own __eq__, x an instance of an own class without a __ne__. -/
namespace K7E
open PySem PySem.Spec PyProof.Rows L2
theorem slot_obj_ne : Slot "object" "__ne__" "object.__ne__" := .of (owner := "object") (n := "__ne__") (by rw [typeLookup_type, builtinLookup_eq_fast]; kernel_rfl) (by decide +kernel) (by decide +kernel) (by decide +kernel) (.inl (by decide +kernel)) (by rw [isSubtype_type]; kernel_rfl)
section
variable {prog : Program} {w : World} {A : Around} {E : Value → Shared → Prop} {s : Shared} {K : PySem.W.Frag} {x C L f : Addr} {h₀ : Heap} {m : Str → Option Value} {ox : Obj} {od : Option Obj} {b tb : Value}
open PySem.W in
theorem ne_K {Q : Value → Shared → Prop} (hu : A.units + 1 < cLine) (FF : Fr h₀ L s.heap m) (X₀ : K.In h₀) (I : InstAt s.heap x ox C od) (hb : Looks (model prog w) s.heap (typeOf b) tb) (hn : notFirst K C tb = true) (hm : mroIn K C (.type "object") = some true)
    (hs : findIn K (.ref C) "__ne__" = some (some (.builtin "object.__ne__"))) (he : findIn K (.ref C) "__eq__" = some (some (.ref f))) (hf : isFn K (.ref f) = true)
    (h : wpAny (model prog w) A.in1 (call (.ref f) [.ref x, b]) (fun v s' => ∃ c, v = .bool c ∧ Q (.bool (!c)) s') E s) : wpAny (model prog w) A (richCompare .NotEq (.ref x) b) Q E s := by
  have X := X₀.keeps FF.keep
  have inner : wpAny (model prog w) A.in1 (Builtin.«object.__ne__» ⟨[.ref x, b], []⟩) (fun fin s' => ∃ c, fin = .done (.ret (.bool (!c))) ∧ Q (.bool (!c)) s') E s := by
    unfold Builtin.«object.__ne__»
    repeat (first
      | with_reducible refine wpAny_cRoomFor (show A.in1.units < cLine from hu) ?_
      | (refine wpAny_bind (m := callSpecialIfBound? (.ref x) (Str.ofString "__eq__") [b]) (ifBound_K X I he hf (wpAny_mono h (fun r s' hr => by
          obtain ⟨c, rfl, hq⟩ := hr
          repeat (first | exact ⟨c, rfl, hq⟩ | exact wpAny_pure ⟨c, rfl, hq⟩ | exact wpAny_truthy_bool ⟨c, rfl, hq⟩ | (refine wpAny_bind (m := truthy (.bool _)) (wpAny_truthy_bool ?_)) | wp_step)) fun _ _ e => e)))
      | wp_step)
  have mid : wpAny (model prog w) A (callSpecialIfBound? (.ref x) "__ne__" [b]) (fun r s' => ∃ c, r = some (.bool (!c)) ∧ Q (.bool (!c)) s') E s := by
    simp only [callSpecialIfBound?, bindSpecialIfBound?]
    refine wpAny_holding (wpAny_bind (wpAny_bind (wpAny_bind (I.type.here ((looks_findIn X hs).here ?_)))))
    simp only [slot_obj_ne.bind]
    refine wpAny_bind (wpAny_askSetting (wpAny_ite ?_))
    have fin : wpAny (model prog w) A (call (.builtin "object.__ne__") ([.ref x] ++ [b]) >>= fun v => pure (some v)) (fun r s' => ∃ c, r = some (.bool (!c)) ∧ Q (.bool (!c)) s') E s := by
      refine wpAny_bind (wpAny_call (codeAny_call_builtin slot_obj_ne.plain F.cmpEntry_ne (check_slot F.cmpKind_ne F.cmpSplit_ne (I.type.andThen (looks_mroIn X hm)) (F.cmpArgs_ne _ _) (wpAny_mono inner (fun fin s' z => ?_) fun _ _ e => e))))
      obtain ⟨c, rfl, hq⟩ := z
      exact wpAny_pure ⟨c, rfl, hq⟩
    split
    · exact wpAny_bind (wpAny_pure (wpAny_pure fin))
    · exact wpAny_tryCatch (wpAny_bind (wpAny_pure (wpAny_pure fin)))
  have one : wpAny (model prog w) A (tryCompare (.ref x) "__ne__" b) (fun r s' => ∃ c, r = some (.bool (!c)) ∧ Q (.bool (!c)) s') E s := by
    simp only [tryCompare]
    refine wpAny_bind (wpAny_mono mid (fun r s' ⟨c, er, hq⟩ => ?_) fun _ _ e => e)
    rw [er]
    exact wpAny_pure ⟨c, rfl, hq⟩
  unfold richCompare
  simp only [oneThing_ref]
  refine wpAny_holding (wpAny_bind (wpAny_cRoomFor (Nat.lt_of_succ_lt hu) (wpAny_bind (I.type.here (wpAny_bind (hb.here ?_))))))
  rw [cmpInfo_NotEq]
  dsimp only
  have last : wpAny (model prog w) A (tryCompare (.ref x) "__ne__" b) (fun r s' => ∃ c, r = some (.bool (!c)) ∧ Q (.bool (!c)) s') E s := one
  split
  · rename_i q
    have e : subIn K tb (.ref C) = some false := by
      rcases Bool.or_eq_true_iff.mp hn with e | e
      · rw [beq_iff_eq.mp e] at q; simp at q
      · exact beq_iff_eq.mp e
    refine wpAny_bind ((looks_subIn X e).here ?_)
    simp only [Bool.false_eq_true, if_false]
    refine wpAny_bind (wpAny_mono last (fun r s' ⟨c, er, hq⟩ => ?_) fun _ _ e => e)
    rw [er]
    exact wpAny_pure hq
  · refine wpAny_bind (wpAny_pure ?_)
    simp only [Bool.false_eq_true, if_false]
    refine wpAny_bind (wpAny_mono last (fun r s' ⟨c, er, hq⟩ => ?_) fun _ _ e => e)
    rw [er]
    exact wpAny_pure hq
end
/-! ### x == y by x's own __eq__ -/
def rEqO (K : PySem.W.Frag) (C : Addr) (sp : Sp) (E : XK) : R2 := fun x y H Q => ∃ (a dx : Addr) (fs : List (Str × V)) (b : Addr) (t : Value), x = .ref a ∧ y = .ref b ∧ H a = some (.ins C dx fs) ∧ TyX K H y t ∧ PySem.W.notFirst K C t = true ∧ sp [x, y] H Q E
section
variable {X : Cx}
theorem op_eqOwn {CX : CXT} {C g : Addr} {fd : FuncData} {ps : List Str} {sp : Sp} {E : XK} {n : Nat} (F : FnOk X.prog X.w X.K X.mg X.base CX n g fd ps sp) (hs : PySem.W.findIn X.K (.ref C) "__eq__" = some (some (.ref g))) (hf : PySem.W.isFn X.K (.ref g) = true) (hb : Binds X.K fd ps [])
    (hr : Room n X.A) (hx : Passes CX X E) : OpR X (compareOp .Eq) (rEqO X.K C sp E) := by
  intro pins s σ H x y v u Q I rx ry h
  obtain ⟨a, dx, fs, b, t, rfl, rfl, ha, ty, hn, q⟩ := h
  cases (show v = Value.ref a from rx)
  cases (show u = Value.ref b from ry)
  obtain ⟨mA, J, _⟩ := ins_get I.hok ha
  obtain ⟨od, J, _⟩ := J.look
  obtain ⟨P, Z, hp, hne⟩ := kit_of I (show RelV (.ref b) (Value.ref b) from rfl) ty
  obtain ⟨m, hF⟩ := I.fr
  have hl := F.len _ _ _ _ q
  have r2 : Vals [V.ref a, V.ref b] [Value.ref a, Value.ref b] := .cons rfl (.cons rfl .nil)
  refine PySem.W.cmp_K (op := .Eq) (tb := t) hr.units0 hF I.ok.mod.kin J (Z.ty _ _ I.kIn hp) hn hs hf ?_
  refine wpAny_mono (wpAny_call (run_fnR (us := [.ref a, .ref b]) (vs := [.ref a, .ref b]) (F.raw hb .nil) hr hx I r2 q)) (fun w s' z => ?_) fun _ _ x => x
  obtain ⟨z', H', I', rz, qz⟩ := z
  exact SlX.cmpback rz ⟨z', H', I', rz, qz⟩
/-- x != y -/
theorem op_neOwn {CX : CXT} {C g : Addr} {fd : FuncData} {ps : List Str} {sp : Sp} {E : XK} {n : Nat} (F : FnOk X.prog X.w X.K X.mg X.base CX n g fd ps sp) (hs : PySem.W.findIn X.K (.ref C) "__ne__" = some (some (.builtin "object.__ne__"))) (hm : PySem.W.mroIn X.K C (.type "object") = some true)
    (he : PySem.W.findIn X.K (.ref C) "__eq__" = some (some (.ref g))) (hf : PySem.W.isFn X.K (.ref g) = true) (hb : Binds X.K fd ps []) (hr : Room (n + 1) X.A) (hx : Passes CX X E) : OpR X (compareOp .NotEq) (fun x y H Q => ∃ (a dx : Addr) (fs : List (Str × V)) (b : Addr) (t : Value), x = .ref a ∧ y = .ref b ∧ H a = some (.ins C dx fs) ∧ TyX X.K H y t ∧ PySem.W.notFirst X.K C t = true ∧ sp [x, y] H (fun z H' => ∃ c, z = .bl c ∧ Q (.bl (!c)) H') E) := by
  intro pins s τ H x y v u Q I rx ry h
  obtain ⟨a, dx, fs, b, t, rfl, rfl, ha, ty, hn, q⟩ := h
  cases (show v = Value.ref a from rx)
  cases (show u = Value.ref b from ry)
  obtain ⟨mA, J, _⟩ := ins_get I.hok ha
  obtain ⟨od, J, _⟩ := J.look
  obtain ⟨P, Z, hp, hne⟩ := kit_of I (show RelV (.ref b) (Value.ref b) from rfl) ty
  obtain ⟨m, hF⟩ := I.fr
  have hl := F.len _ _ _ _ q
  have r2 : Vals [V.ref a, V.ref b] [Value.ref a, Value.ref b] := .cons rfl (.cons rfl .nil)
  have hu : X.A.units + 1 < cLine := by have := hr.un; omega
  refine ne_K (tb := t) hu hF I.ok.mod.kin J (Z.ty _ _ I.kIn hp) hn hm hs he hf ?_
  refine wpAny_call (codeAny_mono (F.run X.A.in1 X.stack s H ⟨[.ref a, .ref b], []⟩ [.ref a, .ref b] [.ref a, .ref b] _ E hr.in1 I.env0.in1 (hb s [.ref a, .ref b] I.kIn hl) r2 q) fun r s' hq => ?_)
  cases r with
  | error e => exact hx pins τ H s e s' I hq
  | ok fl =>
    cases fl with
    | ret u =>
      obtain ⟨z', H', I', rz, c, ez, qz⟩ := I.after hq
      subst ez
      cases (show u = Value.bool c from rz)
      exact ⟨c, rfl, .bl (!c), H', I', rfl, qz⟩
    | next => exact False.elim hq
    | brk => exact False.elim hq
    | cont => exact False.elim hq
end
end K7E
end
/-! ## WY -/
section
/-! ## ways over passing cells (no program in them) -/
namespace KW2
def lastN (w : List Nat) : Nat := w.getLastD 0
/-- shorter, or as long and not greater -/
def sle (u v : List Nat) : Prop := u.length < v.length ∨ (u.length = v.length ∧ ¬ v < u)
def slt (u v : List Nat) : Prop := u.length < v.length ∨ (u.length = v.length ∧ u < v)
theorem lt_cons {a b : Nat} {l m : List Nat} : a :: l < b :: m ↔ a < b ∨ a = b ∧ l < m := List.cons_lt_cons_iff
theorem lt_irr (u : List Nat) : ¬ u < u := by
  induction u with
  | nil => exact fun h => by cases h
  | cons a u ih => exact fun h => (lt_cons.mp h).elim (Nat.lt_irrefl a) fun z => ih z.2
theorem lt_tri : ∀ (u v : List Nat), u.length = v.length → u < v ∨ u = v ∨ v < u
  | [], [], _ => .inr (.inl rfl)
  | a :: u, b :: v, h => by
    rcases Nat.lt_trichotomy a b with z | z | z
    · exact .inl (lt_cons.mpr (.inl z))
    · subst z
      rcases lt_tri u v (Nat.succ.inj h) with y | y | y
      · exact .inl (lt_cons.mpr (.inr ⟨rfl, y⟩))
      · exact .inr (.inl (by rw [y]))
      · exact .inr (.inr (lt_cons.mpr (.inr ⟨rfl, y⟩)))
    · exact .inr (.inr (lt_cons.mpr (.inl z)))
theorem lt_tr : ∀ (u v w : List Nat), u < v → v < w → u < w
  | _, [], _, h, _ => by cases h
  | _, _ :: _, [], _, h => by cases h
  | [], b :: v, x :: w, _, _ => List.Lex.nil
  | a :: u, b :: v, x :: w, h1, h2 => by
    rcases lt_cons.mp h1 with y | ⟨y, z⟩ <;> rcases lt_cons.mp h2 with y' | ⟨y', z'⟩
    · exact lt_cons.mpr (.inl (by omega))
    · exact lt_cons.mpr (.inl (by omega))
    · exact lt_cons.mpr (.inl (by omega))
    · exact lt_cons.mpr (.inr ⟨by omega, lt_tr u v w z z'⟩)
theorem lt_app : ∀ (u v : List Nat) (a b : List Nat), u.length = v.length → u < v → u ++ a < v ++ b
  | [], [], _, _, _, h => absurd h (lt_irr [])
  | x :: u, y :: v, a, b, hl, h => by
    rcases lt_cons.mp h with z | ⟨z, z'⟩
    · exact lt_cons.mpr (.inl z)
    · exact lt_cons.mpr (.inr ⟨z, lt_app u v a b (Nat.succ.inj hl) z'⟩)
theorem lt_tail : ∀ (u : List Nat) {a b : Nat}, a < b → u ++ [a] < u ++ [b]
  | [], a, b, h => lt_cons.mpr (.inl h)
  | x :: u, a, b, h => lt_cons.mpr (.inr ⟨rfl, lt_tail u h⟩)
theorem sle_app {u v : List Nat} (h : sle u v) (x : Nat) : sle (u ++ [x]) (v ++ [x]) := by
  rcases h with h | ⟨h, z⟩
  · exact .inl (by simp only [List.length_append, List.length_singleton]; omega)
  · refine .inr ⟨by simp only [List.length_append, List.length_singleton]; omega, ?_⟩
    rcases lt_tri u v h with y | y | y
    · exact fun e => lt_irr _ (lt_tr _ _ _ e (lt_app u v [x] [x] h y))
    · subst y
      exact lt_irr _
    · exact absurd y z
theorem sle_refl (u : List Nat) : sle u u := .inr ⟨rfl, lt_irr u⟩
theorem sle_trans {u v w : List Nat} (h1 : sle u v) (h2 : sle v w) : sle u w := by
  rcases h1 with h1 | ⟨h1, z1⟩ <;> rcases h2 with h2 | ⟨h2, z2⟩
  · exact .inl (by omega)
  · exact .inl (by omega)
  · exact .inl (by omega)
  · refine .inr ⟨by omega, fun e => ?_⟩
    rcases lt_tri u v h1 with y | y | y
    · rcases lt_tri v w h2 with y' | y' | y'
      · exact lt_irr _ (lt_tr _ _ _ e (lt_tr _ _ _ y y'))
      · subst y'
        exact lt_irr _ (lt_tr _ _ _ e y)
      · exact z2 y'
    · subst y
      exact z2 e
    · exact z1 y
theorem slt_sle {u v : List Nat} (h : slt u v) : sle u v := h.imp id fun z => ⟨z.1, fun e => lt_irr _ (lt_tr _ _ _ e z.2)⟩
theorem slt_not {u v : List Nat} (h : slt u v) : ¬ sle v u := by
  rintro (z | ⟨z, y⟩)
  · rcases h with h | ⟨h, _⟩ <;> omega
  · rcases h with h | ⟨_, h⟩
    · omega
    · exact y h
theorem slt_app {u v : List Nat} (h : slt u v) (x y : Nat) : slt (u ++ [x]) (v ++ [y]) := by
  rcases h with h | ⟨h, z⟩
  · exact .inl (by simp only [List.length_append, List.length_singleton]; omega)
  · exact .inr ⟨by simp only [List.length_append, List.length_singleton]; omega, lt_app u v _ _ h z⟩
theorem last_app (w : List Nat) (b : Nat) : lastN (w ++ [b]) = b := by
  unfold lastN
  rw [List.getLastD_eq_getLast?, List.getLast?_append]
  rfl
section
variable {E : Nat → Nat → Prop} {ps : List Nat} {c : Nat}
/-- a walk over passing cells, and its end -/
inductive Wk (E : Nat → Nat → Prop) (ps : List Nat) (c : Nat) : List Nat → Nat → Prop
  | base : Wk E ps c [c] c
  | step {w : List Nat} {a b : Nat} (h : Wk E ps c w a) (e : E a b) (p : b ∈ ps) : Wk E ps c (w ++ [b]) b
/-- a way: no cell twice -/
inductive Wy (E : Nat → Nat → Prop) (ps : List Nat) (c : Nat) : List Nat → Nat → Prop
  | base : Wy E ps c [c] c
  | step {w : List Nat} {a b : Nat} (h : Wy E ps c w a) (e : E a b) (p : b ∈ ps) (n : b ∉ w) : Wy E ps c (w ++ [b]) b
theorem Wk.last {w : List Nat} {a : Nat} (h : Wk E ps c w a) : lastN w = a := by
  cases h with
  | base => rfl
  | step => exact last_app _ _
theorem Wk.pos {w : List Nat} {a : Nat} (h : Wk E ps c w a) : 0 < w.length := by
  cases h with
  | base => exact Nat.one_pos
  | step => simp
theorem Wy.wk {w : List Nat} {a : Nat} (h : Wy E ps c w a) : Wk E ps c w a := by
  induction h with
  | base => exact .base
  | step _ e p _ ih => exact .step ih e p
theorem Wy.nodup {w : List Nat} {a : Nat} (h : Wy E ps c w a) : w.Nodup := by
  induction h with
  | base => simp
  | @step w a b _ e p n ih =>
    rw [List.nodup_append]
    refine ⟨ih, by simp, fun x hx y hy => ?_⟩
    rw [List.mem_singleton.mp hy]
    exact fun e => n (e ▸ hx)
theorem Wy.lt {w : List Nat} {a n : Nat} (hc : c < n) (hp : ∀ x ∈ ps, x < n) (h : Wy E ps c w a) : ∀ x ∈ w, x < n := by
  induction h with
  | base => intro x hx; rw [List.mem_singleton.mp hx]; exact hc
  | step _ e p _ ih =>
    intro x hx
    rcases List.mem_append.mp hx with z | z
    · exact ih x z
    · rw [List.mem_singleton.mp z]; exact hp _ p
/-- a way to each cell of a way -/
theorem Wy.cut {w : List Nat} {a : Nat} (h : Wy E ps c w a) : ∀ b ∈ w, ∃ v, Wy E ps c v b := by
  induction h with
  | base => intro b hb; rw [List.mem_singleton.mp hb]; exact ⟨_, .base⟩
  | step h e p n ih =>
    intro x hx
    rcases List.mem_append.mp hx with z | z
    · exact ih x z
    · rw [List.mem_singleton.mp z]; exact ⟨_, .step h e p n⟩
theorem rch_way {x : Nat} (h : KL.Rch E ps c x) : ∃ w, Wy E ps c w x := by
  induction h with
  | base => exact ⟨_, .base⟩
  | @step a b _ e p ih =>
    obtain ⟨w, hw⟩ := ih
    by_cases hb : b ∈ w
    · exact hw.cut b hb
    · exact ⟨_, .step hw e p hb⟩
theorem wk_rch {w : List Nat} {x : Nat} (h : Wk E ps c w x) : KL.Rch E ps c x := by
  induction h with
  | base => exact .base
  | step _ e p ih => exact .step ih e p
/-! ### the first ways of all -/
/-- the ways found so far: d of them are gone through, all of whose ends are no goals -/
structure Bf (E : Nat → Nat → Prop) (ps : List Nat) (c : Nat) (rd : List Nat) (W : List (List Nat)) (d : Nat) : Prop where
  d0 : d ≤ W.length
  at0 : W[0]? = some [c]
  way : ∀ w ∈ W, Wy E ps c w (lastN w)
  sub : ∀ w ∈ W, ∀ x ∈ w, x ∈ W.map lastN
  nd : (W.map lastN).Nodup
  ord : W.Pairwise slt
  org : ∀ w ∈ W, w = [c] ∨ ∃ i u y, i < d ∧ W[i]? = some u ∧ w = u ++ [y]
  cl : ∀ i u, i < d → W[i]? = some u → ∀ x, E (lastN u) x → x ∈ ps → ∃ w ∈ W, lastN w = x ∧ sle w (u ++ [x])
  no : ∀ i u, i < d → W[i]? = some u → lastN u ∉ rd
theorem Bf.start {rd : List Nat} : Bf E ps c rd [[c]] 0 := by
  refine ⟨Nat.zero_le _, rfl, fun w hw => ?_, fun w hw x hx => ?_, by simp, by simp, fun w hw => .inl (List.mem_singleton.mp hw), fun i u h => absurd h (Nat.not_lt_zero _), fun i u h => absurd h (Nat.not_lt_zero _)⟩
  · rw [List.mem_singleton.mp hw]; exact .base
  · rw [List.mem_singleton.mp hw] at hx
    rw [List.mem_singleton.mp hx]
    exact List.mem_singleton.mpr rfl
def news (ps : List Nat) (W : List (List Nat)) (l : List Nat) : List Nat := l.filter fun b => decide (b ∈ ps) && !decide (b ∈ W.map lastN)
theorem Bf.step {rd : List Nat} {W : List (List Nat)} {d : Nat} {w : List Nat} {l : List Nat} (B : Bf E ps c rd W d) (hw : W[d]? = some w) (hr : lastN w ∉ rd) (hl : l.Pairwise (· < ·)) (he : ∀ b, b ∈ l ↔ E (lastN w) b) :
    Bf E ps c rd (W ++ (news ps W l).map fun b => w ++ [b]) (d + 1) := by
  have wm : w ∈ W := List.mem_of_getElem? hw
  have dl : d < W.length := (List.getElem?_eq_some_iff.mp hw).1
  have wy := B.way w wm
  have mp : (W ++ (news ps W l).map fun b => w ++ [b]).map lastN = W.map lastN ++ news ps W l := by
    rw [List.map_append, List.map_map]
    congr 1
    exact (List.map_congr_left fun b _ => last_app w b).trans (List.map_id _)
  have nw : ∀ b, b ∈ news ps W l ↔ b ∈ l ∧ b ∈ ps ∧ b ∉ W.map lastN := fun b => by
    unfold news
    rw [List.mem_filter, Bool.and_eq_true, decide_eq_true_eq, Bool.not_eq_true', decide_eq_false_iff_not]
  have old : ∀ {i : Nat} {u : List Nat}, W[i]? = some u → (W ++ (news ps W l).map fun b => w ++ [b])[i]? = some u := fun {i u} h => by
    rw [List.getElem?_append_left (List.getElem?_eq_some_iff.mp h).1]; exact h
  have back : ∀ {i : Nat} {u : List Nat}, i < d + 1 → (W ++ (news ps W l).map fun b => w ++ [b])[i]? = some u → W[i]? = some u := fun {i u} hi h => by
    rwa [List.getElem?_append_left (by omega)] at h
  have lows : ∀ v ∈ W, ∀ b, slt v (w ++ [b]) := by
    intro v hv b
    rcases B.org v hv with e | ⟨i, u, y, hi, hu, e⟩
    · rw [e]
      exact .inl (by have := wy.wk.pos; simp only [List.length_append, List.length_singleton]; omega)
    · rw [e]
      refine slt_app ?_ y b
      have il : i < W.length := (List.getElem?_eq_some_iff.mp hu).1
      have z := List.pairwise_iff_getElem.mp B.ord i d il dl hi
      rw [(List.getElem?_eq_some_iff.mp hu).2, (List.getElem?_eq_some_iff.mp hw).2] at z
      exact z
  refine ⟨by rw [List.length_append]; omega, old B.at0, fun v hv => ?_, fun v hv x hx => ?_, ?_, ?_, fun v hv => ?_, fun i u hi hu x ex px => ?_, fun i u hi hu => ?_⟩
  · rcases List.mem_append.mp hv with z | z
    · exact B.way v z
    · obtain ⟨b, hb, rfl⟩ := List.mem_map.mp z
      obtain ⟨b1, b2, b3⟩ := (nw b).mp hb
      rw [last_app]
      exact .step wy ((he b).mp b1) b2 fun hm => b3 (B.sub w wm b hm)
  · rw [mp]
    rcases List.mem_append.mp hv with z | z
    · exact List.mem_append_left _ (B.sub v z x hx)
    · obtain ⟨b, hb, rfl⟩ := List.mem_map.mp z
      rcases List.mem_append.mp hx with y | y
      · exact List.mem_append_left _ (B.sub w wm x y)
      · rw [List.mem_singleton.mp y]
        exact List.mem_append_right _ hb
  · rw [mp, List.nodup_append]
    refine ⟨B.nd, (List.nodup_iff_pairwise_ne.mpr (hl.imp fun h => Nat.ne_of_lt h)).filter _, fun x hx y hy e => ?_⟩
    exact ((nw y).mp hy).2.2 (e ▸ hx)
  · rw [List.pairwise_append]
    refine ⟨B.ord, ?_, fun v hv u hu => ?_⟩
    · rw [List.pairwise_map]
      refine List.Pairwise.imp (fun {x y} h => ?_) (List.Pairwise.filter _ hl)
      exact .inr ⟨by simp, lt_tail w h⟩
    · obtain ⟨b, _, rfl⟩ := List.mem_map.mp hu
      exact lows v hv b
  · rcases List.mem_append.mp hv with z | z
    · rcases B.org v z with e | ⟨i, u, y, hi, hu, e⟩
      · exact .inl e
      · exact .inr ⟨i, u, y, by omega, old hu, e⟩
    · obtain ⟨b, _, rfl⟩ := List.mem_map.mp z
      exact .inr ⟨d, w, b, by omega, old hw, rfl⟩
  · have hu := back hi hu
    rcases Nat.lt_or_ge i d with z | z
    · obtain ⟨v, hv, h1, h2⟩ := B.cl i u z hu x ex px
      exact ⟨v, List.mem_append_left _ hv, h1, h2⟩
    · obtain rfl : i = d := by omega
      rw [hw] at hu
      obtain rfl := Option.some.inj hu
      by_cases hm : x ∈ W.map lastN
      · obtain ⟨v, hv, e⟩ := List.mem_map.mp hm
        exact ⟨v, List.mem_append_left _ hv, e, slt_sle (lows v hv x)⟩
      · exact ⟨w ++ [x], List.mem_append_right _ (List.mem_map.mpr ⟨x, (nw x).mpr ⟨(he x).mpr ex, px, hm⟩, rfl⟩), last_app w x, sle_refl _⟩
  · have hu := back hi hu
    rcases Nat.lt_or_ge i d with z | z
    · exact B.no i u z hu
    · obtain rfl : i = d := by omega
      rw [hw] at hu
      obtain rfl := Option.some.inj hu
      exact hr
/-- each walk that is no later than what is gone through ends where one that is gone through does -/
theorem Bf.meets {rd : List Nat} {W : List (List Nat)} {d : Nat} (B : Bf E ps c rd W d) (bound : List Nat → Prop) (hb : ∀ u b, bound (u ++ [b]) → 0 < u.length → bound u) (hd : ∀ i u v, W[i]? = some u → sle u v → bound v → i < d) :
    ∀ v a, Wk E ps c v a → bound v → ∃ i u, i < d ∧ W[i]? = some u ∧ lastN u = a ∧ sle u v := by
  intro v a h
  induction h with
  | base => exact fun bv => ⟨0, [c], hd 0 [c] [c] B.at0 (sle_refl _) bv, B.at0, rfl, sle_refl _⟩
  | @step w a b h e p ih =>
    intro bv
    obtain ⟨i, u, hi, hu, hl, hs⟩ := ih (hb w b bv h.pos)
    obtain ⟨u', hu', e1, e2⟩ := B.cl i u hi hu b (by rw [hl]; exact e) p
    obtain ⟨j, hj, ej⟩ := List.getElem_of_mem hu'
    have hj' : W[j]? = some u' := by rw [List.getElem?_eq_getElem hj, ej]
    have s2 := sle_trans e2 (sle_app hs b)
    exact ⟨j, u', hd j u' _ hj' s2 bv, hj', e1, s2⟩
theorem Bf.none {rd : List Nat} {W : List (List Nat)} (B : Bf E ps c rd W W.length) {v : List Nat} {a : Nat} (h : Wk E ps c v a) : a ∉ rd := by
  obtain ⟨i, u, hi, hu, hl, _⟩ := B.meets (fun _ => True) (fun _ _ _ _ => trivial) (fun i u v hu _ _ => (List.getElem?_eq_some_iff.mp hu).1) v a h trivial
  rw [← hl]
  exact B.no i u hi hu
theorem Bf.least {rd : List Nat} {W : List (List Nat)} {d : Nat} {w : List Nat} (B : Bf E ps c rd W d) (hw : W[d]? = some w) {v : List Nat} {a : Nat} (h : Wk E ps c v a) (ha : a ∈ rd) : sle w v := by
  refine Classical.byContradiction fun hn => ?_
  have neg : ∀ x : List Nat, ¬ sle w x → slt x w := fun x hx => by
    rcases Nat.lt_trichotomy x.length w.length with z | z | z
    · exact .inl z
    · rcases lt_tri x w z with y | y | y
      · exact .inr ⟨z, y⟩
      · exact absurd (y ▸ sle_refl _) hx
      · exact absurd (.inr ⟨z.symm, fun e => lt_irr _ (lt_tr _ _ _ e y)⟩) hx
    · exact absurd (.inl z) hx
  have dl : d < W.length := (List.getElem?_eq_some_iff.mp hw).1
  obtain ⟨i, u, hi, hu, hl, _⟩ := B.meets (fun x => slt x w) (fun u b z h0 => by
    rcases z with z | ⟨z, _⟩
    · exact .inl (by rw [List.length_append, List.length_singleton] at z; omega)
    · exact .inl (by rw [List.length_append, List.length_singleton] at z; omega)) (fun i u v hu hs hb => Nat.not_le.mp fun hdi => by
      have il : i < W.length := (List.getElem?_eq_some_iff.mp hu).1
      have wu : sle w u := by
        rcases Nat.eq_or_lt_of_le hdi with e | e
        · subst e
          rw [hw] at hu
          obtain rfl := Option.some.inj hu
          exact sle_refl _
        · have z := List.pairwise_iff_getElem.mp B.ord d i dl il e
          rw [(List.getElem?_eq_some_iff.mp hu).2, (List.getElem?_eq_some_iff.mp hw).2] at z
          exact slt_sle z
      exact slt_not hb (sle_trans wu hs)) v a h (neg v hn)
  exact B.no i u hi hu (hl ▸ ha)
/-! ### all ways of a length -/
def grow (es : Nat → Nat → Bool) (ps : List Nat) (w : List Nat) : List (List Nat) := (ps.filter fun o => !decide (o ∈ w) && es (lastN w) o).map fun o => w ++ [o]
def lvl (es : Nat → Nat → Bool) (ps : List Nat) (c : Nat) : Nat → List (List Nat)
  | 0 => [[c]]
  | t + 1 => (lvl es ps c t).flatMap (grow es ps)
theorem lvl_iff {es : Nat → Nat → Bool} (he : ∀ a b, es a b = true ↔ E a b) : ∀ (t : Nat) (w : List Nat), w ∈ lvl es ps c t ↔ (∃ a, Wy E ps c w a) ∧ w.length = t + 1
  | 0, w => by
    constructor
    · intro h
      rw [List.mem_singleton.mp h]
      exact ⟨⟨_, .base⟩, rfl⟩
    · rintro ⟨⟨a, h⟩, hl⟩
      cases h with
      | base => exact List.mem_singleton.mpr rfl
      | step h e p n => have := h.wk.pos; rw [List.length_append, List.length_singleton] at hl; omega
  | t + 1, w => by
    show w ∈ (lvl es ps c t).flatMap (grow es ps) ↔ _
    rw [List.mem_flatMap]
    constructor
    · rintro ⟨u, hu, hw⟩
      obtain ⟨⟨a, ha⟩, hl⟩ := (lvl_iff he t u).mp hu
      obtain ⟨o, ho, rfl⟩ := List.mem_map.mp hw
      obtain ⟨o1, o2⟩ := List.mem_filter.mp ho
      rw [Bool.and_eq_true, Bool.not_eq_true', decide_eq_false_iff_not] at o2
      have e := (he _ _).mp o2.2
      rw [ha.wk.last] at e
      exact ⟨⟨_, .step ha e o1 o2.1⟩, by rw [List.length_append, hl]; rfl⟩
    · rintro ⟨⟨a, h⟩, hl⟩
      cases h with
      | base => simp at hl
      | @step u a b h e p n =>
        rw [List.length_append, List.length_singleton] at hl
        refine ⟨u, (lvl_iff he t u).mpr ⟨⟨_, h⟩, by omega⟩, List.mem_map.mpr ⟨_, List.mem_filter.mpr ⟨p, ?_⟩, rfl⟩⟩
        rw [Bool.and_eq_true, Bool.not_eq_true', decide_eq_false_iff_not]
        exact ⟨n, (he _ _).mpr (by rw [h.wk.last]; exact e)⟩
theorem grow_len (es : Nat → Nat → Bool) (ps : List Nat) (w : List Nat) : (grow es ps w).length ≤ ps.length := by
  unfold grow
  rw [List.length_map]
  exact List.length_filter_le _ _
theorem flat_len (es : Nat → Nat → Bool) (ps : List Nat) : ∀ ws : List (List Nat), (ws.flatMap (grow es ps)).length ≤ ws.length * ps.length
  | [] => by simp
  | w :: ws => by
    rw [List.flatMap_cons, List.length_append, List.length_cons, Nat.add_mul, Nat.one_mul]
    have := grow_len es ps w
    have := flat_len es ps ws
    omega
theorem lvl_len (es : Nat → Nat → Bool) {ps : List Nat} {c : Nat} (h : ps.length ≤ 5) : ∀ t, t ≤ 5 → (lvl es ps c t).length ≤ 5 ^ t
  | 0, _ => Nat.le_refl _
  | t + 1, ht => by
    have z := flat_len es ps (lvl es ps c t)
    have y := lvl_len es (c := c) h t (by omega)
    have x : (lvl es ps c t).length * ps.length ≤ 5 ^ t * 5 := Nat.mul_le_mul y h
    show ((lvl es ps c t).flatMap (grow es ps)).length ≤ 5 ^ t * 5
    omega
end
end KW2
end
/-! ## P14 -/
section
open PySem PySem.Spec PyProof.Rows L2
namespace K7
abbrev N_BadCells___init__ : List Str := ["self", "what"]
abbrev s_BadCells___init__ : Stmt := inClass (topS 5) 0
theorem sc_BadCells___init__ : FnScope ["self", "what"] ["self", "what"] (defScope s_BadCells___init__) := ⟨rfl, rfl, rfl, by decide +kernel, rfl, by decide +kernel, by decide +kernel⟩
abbrev N_opens : List Str := ["land", "cell", "passing", "b"]
abbrev s_opens : Stmt := topS 23
theorem sc_opens : FnScope ["land", "cell", "passing", "b"] ["land", "cell", "passing"] (defScope s_opens) := ⟨rfl, rfl, rfl, by decide +kernel, rfl, by decide +kernel, by decide +kernel⟩
abbrev N__check : List Str := ["land", "cell", "passing"]
abbrev s__check : Stmt := topS 21
theorem sc__check : FnScope ["land", "cell", "passing"] ["land", "cell", "passing"] (defScope s__check) := ⟨rfl, rfl, rfl, by decide +kernel, rfl, by decide +kernel, by decide +kernel⟩
abbrev N_reached : List Str := ["land", "cell", "passing"]
abbrev s_reached : Stmt := topS 22
theorem sc_reached : FnScope ["land", "cell", "passing"] ["land", "cell", "passing"] (defScope s_reached) := ⟨rfl, rfl, rfl, by decide +kernel, rfl, by decide +kernel, by decide +kernel⟩
abbrev N_is_open : List Str := ["land", "cell", "passing"]
abbrev s_is_open : Stmt := topS 24
theorem sc_is_open : FnScope ["land", "cell", "passing"] ["land", "cell", "passing"] (defScope s_is_open) := ⟨rfl, rfl, rfl, by decide +kernel, rfl, by decide +kernel, by decide +kernel⟩
abbrev N_open_way : List Str := ["land", "cell", "passing", "ways", "ends", "done", "way", "b"]
abbrev s_open_way : Stmt := topS 25
theorem sc_open_way : FnScope ["land", "cell", "passing", "ways", "ends", "done", "way", "b"] ["land", "cell", "passing"] (defScope s_open_way) := ⟨rfl, rfl, rfl, by decide +kernel, rfl, by decide +kernel, by decide +kernel⟩
/-! ### what a cell reaches -/
def edge (es : List (Nat × Nat)) (a b : Nat) : Prop := (a, b) ∈ es ∨ (b, a) ∈ es
theorem nb_edge {n : Nat} {es : List (Nat × Nat)} (ok : LandOk n es) {a b : Nat} : nbE (nearV n es) a b ↔ edge es a b := by
  constructor
  · rintro ⟨l, el, hb⟩
    have ha : a < n := by
      have z := (List.getElem?_eq_some_iff.mp el).1
      unfold nearV at z
      rw [List.length_map, List.length_range] at z
      exact z
    rw [near_get ha] at el
    obtain rfl := Option.some.inj el
    have z := (List.mem_filter.mp hb).2
    rcases Bool.or_eq_true_iff.mp z with q | q
    · exact .inl (of_decide_eq_true q)
    · exact .inr (of_decide_eq_true q)
  · intro h
    have lts : a < n ∧ b < n := by
      rcases h with z | z
      · obtain ⟨z1, z2⟩ := ok.lt _ z
        exact ⟨by have z1 : a < b := z1; have z2 : b < n := z2; omega, z2⟩
      · obtain ⟨z1, z2⟩ := ok.lt _ z
        exact ⟨z2, by have z1 : b < a := z1; have z2 : a < n := z2; omega⟩
    refine ⟨_, near_get lts.1, List.mem_filter.mpr ⟨List.mem_range.mpr lts.2, ?_⟩⟩
    rcases h with z | z
    · rw [decide_eq_true z]; rfl
    · rw [decide_eq_true z, Bool.or_true]
theorem found_iff {n : Nat} {es : List (Nat × Nat)} {ps fd : List Nat} {c : Nat} (ok : LandOk n es) (f : Found (nearV n es) ps c fd) (x : Nat) : x ∈ fd ↔ KL.Rch (edge es) ps c x := by
  constructor
  · exact fun h => (f.so x h).mono (fun a b => (nb_edge ok).mp) fun b hb => hb
  · intro h
    refine KL.Rch.mem h f.me fun a b ha e hp => ?_
    obtain ⟨l, el, hb⟩ := (nb_edge ok).mpr e
    exact f.cl a ha l el b hb hp
/-- the cells that are reached hold one of the road cells -/
def OpenV (es : List (Nat × Nat)) (rd ps : List Nat) (c : Nat) : Prop := ∃ x ∈ rd, KL.Rch (edge es) ps c x
section
variable {P : Program} {w : World} {K : PySem.W.Frag} {mg : Str → Option Value} {base : Heap} {a : AdL}
def spOpens (C : Addr) : Sp := fun vs H Q _ => ∃ (p : Addr) (n : Nat) (es : List (Nat × Nat)) (rd : List Nat) (c : Nat) (pa : Addr) (ps : List Nat), vs = [.ref p, .int (c : Nat), .ref pa] ∧ LandO C H p n es rd ∧ c < n ∧ SqOf H pa (ints_ ps) ∧
  ∀ H' b, Same H H' → (b = true ↔ OpenV es rd ps c) → Q (.bl b) H'
theorem ok_opens (T : Tl K mg a) {f fS : Addr} {fd fdS : FuncData} (F : Fun K "opens" "opens" s_opens f fd)
    (Gsp : FnOk P w K mg base CX0 1 fS fdS ["nearby", "cell", "passing"] spSpread) (gsp : mg "spread" = some (.ref fS)) (ksp : PySem.W.keepIn K (.ref fS) = true) (bsp : Binds K fdS ["nearby", "cell", "passing"] []) (m_any : mg "any" = none) : FnOk P w K mg base CX0 2 f fd ["land", "cell", "passing"] (spOpens a.C) := by
  refine F.ok sc_opens (fun vs H Q E h => ?_) (fun cdv A outer s H vs Q E hr h => ?_)
  · obtain ⟨p, n, es, rd, c, pa, ps, rfl, _⟩ := h
    rfl
  · obtain ⟨p, n, es, rd, c, pa, ps, rfl, L, hc, hpa, q⟩ := h
    refine ⟨_, (pss_one (ps_ret (pe_callB (cr_any rfl) (by rfl) m_any boot_any (pa_cons (pe_lc (own := [("b", 3)]) (g := gName 3) (tt := tYes) rfl sc_opens.nd (pi_list (pe_call Gsp (hr.mono (by decide)) (by rfl) gsp ksp bsp .nil pass0 (pa_cons (pe_fld (pv 0) rfl) (pa_cons (pv 1) (pa_cons (pv 2) pa_nil))))) (blkOk_by (own := [("b", 3)]) (N := N_opens) (sc := defScope s_opens) (by decide +kernel)) (fun _ _ _ _ _ => (pg_name (i := 3) sc_opens.nd rfl (by first | exact Or.inl rfl | exact Or.inr rfl))) (fun _ _ _ _ _ => pts_nil) (fun _ _ _ _ _ => (pe_cmpR (show OpR _ _ (rIn K false) from op_in_seq) (pv 3) (show PE _ _ (tFld K (tVar 0) "roads") from pe_fld (pv 0) rfl) (by with_unfolding_all rfl)))) pa_nil)))), ?_⟩
    have n5 := L.n5
    have L0 := L
    obtain ⟨dx, an, ar, ay, ac, tn, ty, tc, h1, h2, h3, h4, h5, h6, h7, h8⟩ := L.at_
    have ln : (nearV n es).length = n := by unfold nearV; rw [List.length_map, List.length_range]
    refine ⟨_, rfl, p, a.C, dx, _, _, rfl, h1, T.cl, T.nA _ (by decide), rfl, _, rfl, _, rfl, ay, ty, nearV n es, c, pa, ps, rfl, h5, h6, hpa, by omega, by omega, fun l hl x hx => ?_, fun H1 F0 fd e1 nF hF fo => ?_⟩
    · rw [ln]
      unfold nearV at hl
      obtain ⟨k, _, rfl⟩ := List.mem_map.mp hl
      exact List.mem_range.mp (List.mem_filter.mp hx).1
    · have fl : fd.length ≤ 5 := by
        have z := K7E.nodup_le fd (List.range n) fo.nd fun x hx => List.mem_range.mpr (by have z := fo.lt x hx; rw [ln] at z; exact z)
        rw [List.length_range] at z
        omega
      refine ⟨F0, rfl, ⟨_, .inl (.inl hF)⟩, fun D hD => lc_list (xs := ints_ fd) (fun j H2 => Same H1 H2 ∧ H2 D = some (.lst (((fd.take j).map fun x => decide (x ∈ rd)).map V.bl))) ⟨same_new (Same.refl H1) hD, upd_same⟩ (fun j H2 _ pv => .inl (.inl (pv.1 _ _ hF))) (fun j x H2 hx pv => ?_) (fun H2 pv => ?_)⟩
      · obtain ⟨e2, hD2⟩ := pv
        unfold ints_ at hx
        rw [List.getElem?_map] at hx
        obtain ⟨b, hb, rfl⟩ := Option.map_eq_some_iff.mp hx
        refine ⟨rfl, _, rfl, _, rfl, p, a.C, dx, _, _, rfl, e2 _ _ (e1 _ _ h1), T.cl, T.nA _ (by decide), rfl, ar, _, rfl, .inr (.inl (.inl (e2 _ _ (e1 _ _ h4)))), rfl, flat_ints rd, _, hD2, by rw [List.length_map, List.length_map, List.length_take]; exact small1000 (by omega), fun b o hb => ?_, ?_⟩
        · rw [upd_ne (ne_of_none hb hD)]
          exact e2 _ _ hb
        · rw [upd_same, List.take_add_one, hb, List.map_append, List.map_append]
          show some (HO.lst (_ ++ [V.bl (inV (.int (b : Nat)) (ints_ rd))])) = _
          rw [inV_ints]
          rfl
      · obtain ⟨e2, hD2⟩ := pv
        rw [show (ints_ fd).length = fd.length from List.length_map .., List.take_length] at hD2
        refine ⟨D, _, rfl, .inl (.inl hD2), q _ _ (e1.trans e2) ?_⟩
        rw [List.any_map, List.any_eq_true]
        constructor
        · rintro ⟨x, hx, hq⟩
          exact ⟨x, of_decide_eq_true hq, (found_iff L0.ok fo x).mp hx⟩
        · rintro ⟨x, hx, hq⟩
          exact ⟨x, (found_iff L0.ok fo x).mpr hq, decide_eq_true hx⟩
/-! near_roads -/
def nearR (n : Nat) (es : List (Nat × Nat)) (rd : List Nat) (c : Nat) : List Nat := (nearOf n es c).filter fun b => decide (b ∈ rd)
theorem filter_take {p : Nat → Bool} {l : List Nat} {j b : Nat} (h : l[j]? = some b) : (l.take (j + 1)).filter p = (l.take j).filter p ++ (if p b = true then [b] else []) := by
  rw [List.take_add_one, h, List.filter_append]
  show _ ++ ([b].filter p) = _
  rw [List.filter_cons]
  rfl
theorem nearR_len (n : Nat) (es : List (Nat × Nat)) (rd : List Nat) (c : Nat) : (nearOf n es c).length ≤ n := by
  unfold nearOf
  exact Nat.le_trans (List.length_filter_le _ _) (by rw [List.length_range]; exact Nat.le_refl _)
end
/-! BadCells, and the check of a cell and of a passing lot -/
section
variable {P : Program} {w : World} {K : PySem.W.Frag} {mg : Str → Option Value} {base : Heap} {a : AdL} {S iS : Addr}
structure Ts (K : PySem.W.Frag) (mg : Str → Option Value) (S iS : Addr) : Prop where
  g : mg "BadCells" = some (.ref S)
  ox : OexC K S
  iC : PySem.W.findIn K (.ref S) "__init__" = some (some (.ref iS))
  tI : PySem.W.typeIn K (.ref iS) = some (.type "function")
  no : PySem.W.findIn K (.ref S) "what" = some none
theorem ok_iS (T : Ts K mg S iS) {f : Addr} {fd : FuncData} (F : Fun K "__init__" "BadCells.__init__" s_BadCells___init__ f fd) : FnOk P w K mg base (L2.CX P w) 1 f fd ["self", "what"] (spX S "what") := by
  refine F.okX sc_BadCells___init__ (fun vs H Q E h => ?_) (fun cdv A outer s H vs Q E hr h => ?_)
  · obtain ⟨e, y, rfl, _⟩ := h
    rfl
  · obtain ⟨e, y, rfl, he, q⟩ := h
    refine ⟨_, (pss_one (ps_ost (pv 0) (pv 1))), ?_⟩
    exact ⟨y, rfl, .ref e, rfl, e, S, rfl, T.ox, T.no, .inl ⟨he, fun d hd hn => q d hd hn⟩⟩
theorem cells_lot0 {n : Nat} {lot : List Nat} (h1 : ∀ c ∈ lot, c < n) (h2 : lot.Nodup) : cellsV (n : Nat) (ints_ lot) 0 = true := by
  cases lot with
  | nil => rfl
  | cons x l =>
    have z := cells_lot h1 h2 (by show 0 < l.length + 1; omega)
    unfold cellsV at z ⊢
    rw [Bool.and_assoc, Bool.and_eq_true] at z
    rw [Bool.and_assoc, z.2, decide_eq_true (by omega)] <;> rfl
/-- a row that is no lot of cells -/
def BadLot (K : PySem.W.Frag) (n : Nat) (H : Hp) (y : V) : Prop := NoSeq K H y ∨ ∃ b xs, y = .ref b ∧ SqOf H b xs ∧ (∀ z ∈ xs, Thing H z) ∧ xs.length < 64 ∧ cellsV (n : Nat) xs 0 = false
theorem NoSeq.same {H H' : Hp} {x : V} (h : NoSeq K H x) (e : Same H H') : NoSeq K H' x := by
  obtain ⟨t, ty, k⟩ := h
  exact ⟨t, fun H1 e1 => ty H1 (e.trans e1), k⟩
theorem BadLot.same {n : Nat} {H H' : Hp} {y : V} (h : BadLot K n H y) (e : Same H H') : BadLot K n H' y := by
  rcases h with h | ⟨b, xs, rfl, h1, h2, h3, h4⟩
  · exact .inl (h.same e)
  · exact .inr ⟨b, xs, rfl, h1.same e, fun z hz => (h2 z hz).same e, h3, h4⟩
/-- a lot of cells, or what is none and is told so -/
def LotOr (K : PySem.W.Frag) (S : Addr) (n : Nat) (H : Hp) (y : V) (E : XK) (q : Addr → List Nat → Prop) : Prop :=
  (∃ pa ps, y = .ref pa ∧ SqOf H pa (ints_ ps) ∧ (∀ c ∈ ps, c < n) ∧ ps.Nodup ∧ q pa ps) ∨ (BadLot K n H y ∧ Flies H S "what" (.str "passing") E)
def spChk (K : PySem.W.Frag) (a : AdL) (S : Addr) : Sp := fun vs H Q E => ∃ (p : Addr) (n : Nat) (es : List (Nat × Nat)) (rd : List Nat) (x y : V), vs = [.ref p, x, y] ∧ LandO a.C H p n es rd ∧ CellOr a.B n H x E fun _ => LotOr K S n H y E fun _ _ => ∀ H', Same H H' → Q .non H'
variable {fk : Addr} (Gck : FnR P w K mg base (L2.CX P w) 4 fk (spCheck a)) (gck : mg "check_cells" = some (.ref fk)) (kck : PySem.W.keepIn K (.ref fk) = true)
include Gck gck kck in
theorem ok_chk (T : Tl K mg a) (TS : Ts K mg S iS) {f fL : Addr} {fd fdL fdB : FuncData} (F : Fun K "_check" "_check" s__check f fd)
    (Gil : FnOk P w K mg base CX0 3 fL fdL ["land", "thing", "least"] (spIsLot K a.C)) (gil : mg "is_lot" = some (.ref fL)) (kil : PySem.W.keepIn K (.ref fL) = true) (bil : Binds K fdL ["land", "thing", "least"] [])
    (FB0 : Fun K "__init__" "BadCells.__init__" s_BadCells___init__ iS fdB) (bB : Binds K fdB ["self", "what"] []) : FnOk P w K mg base (L2.CX P w) 5 f fd ["land", "cell", "passing"] (spChk K a S) := by
  have FB : FnOk P w K mg base (L2.CX P w) 1 iS fdB ["self", "what"] (spX S "what") := ok_iS TS FB0
  refine F.okX sc__check (fun vs H Q E h => ?_) (fun cdv A outer s H vs Q E hr h => ?_)
  · obtain ⟨p, n, es, rd, x, y, rfl, _⟩ := h
    rfl
  · obtain ⟨p, n, es, rd, x, y, rfl, L, h⟩ := h
    have hrx : Room (1 + 1) _ := hr.mono (by decide)
    refine ⟨_, (pss_cons (ps_expr (K7E.pe_callR0 Gck (hr.mono (by decide)) (by rfl) gck kck (passes_call (E := E) (takes_of rfl rfl rfl rfl) (fun _ _ _ _ h => h)) (pa_cons (pv 0) (pa_cons (pv 1) pa_nil))))
 (pss_one (ps_if (pt_not (pt_val (pe_call Gil (hr.mono (by decide)) (by rfl) gil kil bil .nil pass0 (pa_cons (pv 0) (pa_cons (pv 2) (pa_cons pe_int pa_nil))))))
  (pss_one (ps_raise rfl (takes_of rfl rfl rfl rfl) (pmk_oex TS.ox TS.iC TS.tI FB hrx bB .nil passL (by rfl) TS.g (pa_cons pe_str pa_nil))))
  pss_nil))), ?_⟩
    rcases h with ⟨c, rfl, hc, h⟩ | ⟨th, wf, fl⟩
    · refine ⟨_, rfl, _, rfl, p, n, [.int (c : Nat)], rfl, L.c, by show 1 < 64; decide, .inl ⟨fun y hy => by rw [List.mem_singleton.mp hy]; exact .flat (.int _), one_in hc, fun H1 e1 => ?_⟩⟩
      rcases h with ⟨pa, ps, rfl, hpa, plt, pnd, q⟩ | ⟨bl, fl⟩
      · have p5 : ps.length ≤ 5 := by
          have z := K7E.nodup_le ps (List.range n) pnd fun x hx => List.mem_range.mpr (plt x hx)
          rw [List.length_range] at z
          have := L.n5
          omega
        refine ⟨_, rfl, _, rfl, p, n, _, 0, rfl, (L.same e1).c, .inr ⟨pa, _, rfl, hpa.same e1, fun y hy => ?_, by unfold ints_; rw [List.length_map]; omega, fun H2 e2 => ?_⟩⟩
        · obtain ⟨z, _, rfl⟩ := List.mem_map.mp hy
          exact .flat (.int _)
        · rw [cells_lot0 plt pnd]
          refine ⟨_, rfl, ?_⟩
          exact iteFo rfl (q _ (e1.trans e2))
      · rcases bl with ns | ⟨b, xs, rfl, hb, hth, h64, cv⟩
        · refine ⟨_, rfl, _, rfl, p, n, _, 0, rfl, (L.same e1).c, .inl ⟨ns.same e1, fun H2 e2 => ?_⟩⟩
          refine ⟨_, rfl, iteT ?_⟩
          exact ⟨by show 1 ≤ 1000; decide, flies_go (fl.later (e1.trans e2))⟩
        · refine ⟨_, rfl, _, rfl, p, n, _, 0, rfl, (L.same e1).c, .inr ⟨b, xs, rfl, hb.same e1, fun y hy => (hth y hy).same e1, h64, fun H2 e2 => ?_⟩⟩
          rw [cv]
          refine ⟨_, rfl, iteT ?_⟩
          exact ⟨by show 1 ≤ 1000; decide, flies_go (fl.later (e1.trans e2))⟩
    · exact ⟨_, rfl, _, rfl, p, n, [x], rfl, L.c, by show 1 < 64; decide, .inr ⟨[], x, [], rfl, fun y hy => (nomatch hy), fun y hy => (nomatch hy), th, wf, fl⟩⟩
end

/-! reached, is_open -/
section
variable {P : Program} {w : World} {K : PySem.W.Frag} {mg : Str → Option Value} {base : Heap} {a : AdL} {S iS : Addr}
theorem LotOr.mono {n : Nat} {H : Hp} {y : V} {E : XK} {q q' : Addr → List Nat → Prop} (h : LotOr K S n H y E q) (i : ∀ pa ps, y = .ref pa → SqOf H pa (ints_ ps) → (∀ c ∈ ps, c < n) → ps.Nodup → q pa ps → q' pa ps) : LotOr K S n H y E q' := by
  rcases h with ⟨pa, ps, rfl, h1, h2, h3, h4⟩ | h
  · exact .inl ⟨pa, ps, rfl, h1, h2, h3, i pa ps rfl h1 h2 h3 h4⟩
  · exact .inr h
theorem CellOr.mono {B : Addr} {n : Nat} {H : Hp} {x : V} {E : XK} {q q' : Nat → Prop} (h : CellOr B n H x E q) (i : ∀ c, x = .int (c : Nat) → c < n → q c → q' c) : CellOr B n H x E q' := by
  rcases h with ⟨c, rfl, h1, h2⟩ | h
  · exact .inl ⟨c, rfl, h1, i c rfl h1 h2⟩
  · exact .inr h
def spReach (K : PySem.W.Frag) (a : AdL) (S : Addr) : Sp := fun vs H Q E => ∃ (p : Addr) (n : Nat) (es : List (Nat × Nat)) (rd : List Nat) (x y : V), vs = [.ref p, x, y] ∧ LandO a.C H p n es rd ∧ CellOr a.B n H x E fun c => LotOr K S n H y E fun _ ps =>
  ∀ H' t fd, Same H H' → H' t = some (.tup (ints_ fd)) → fd.Pairwise (· ≤ ·) → fd.Nodup → (∀ x ∈ fd, x < n) → (∀ x, x ∈ fd ↔ KL.Rch (edge es) ps c x) → Q (.ref t) H'
variable {fc : Addr} {fdc : FuncData} (Gch : FnOk P w K mg base (L2.CX P w) 5 fc fdc ["land", "cell", "passing"] (spChk K a S)) (gch : mg "_check" = some (.ref fc)) (kch : PySem.W.keepIn K (.ref fc) = true) (bch : Binds K fdc ["land", "cell", "passing"] [])
theorem near_lt {n : Nat} {es : List (Nat × Nat)} : ∀ l ∈ nearV n es, ∀ x ∈ l, x < (nearV n es).length := fun l hl x hx => by
  have ln : (nearV n es).length = n := by unfold nearV; rw [List.length_map, List.length_range]
  rw [ln]
  unfold nearV at hl
  obtain ⟨k, _, rfl⟩ := List.mem_map.mp hl
  exact List.mem_range.mp (List.mem_filter.mp hx).1
theorem near_ln {n : Nat} {es : List (Nat × Nat)} : (nearV n es).length = n := by unfold nearV; rw [List.length_map, List.length_range]
include Gch gch kch bch in
theorem ok_reached (T : Tl K mg a) {f fS : Addr} {fd fdS : FuncData} (F : Fun K "reached" "reached" s_reached f fd)
    (Gsp : FnOk P w K mg base CX0 1 fS fdS ["nearby", "cell", "passing"] spSpread) (gsp : mg "spread" = some (.ref fS)) (ksp : PySem.W.keepIn K (.ref fS) = true) (bsp : Binds K fdS ["nearby", "cell", "passing"] []) (m_tuple : mg "tuple" = none) (m_sorted : mg "sorted" = none) : FnOk P w K mg base (L2.CX P w) 6 f fd ["land", "cell", "passing"] (spReach K a S) := by
  refine F.okX sc_reached (fun vs H Q E h => ?_) (fun cdv A outer s H vs Q E hr h => ?_)
  · obtain ⟨p, n, es, rd, x, y, rfl, _⟩ := h
    rfl
  · obtain ⟨p, n, es, rd, x, y, rfl, L, h⟩ := h
    refine ⟨_, (pss_cons (ps_expr (pe_call Gch (hr.mono (by decide)) (by rfl) gch kch bch .nil (passes_call (E := E) (takes_of rfl rfl rfl rfl) (fun _ _ _ _ h => h)) (pa_cons (pv 0) (pa_cons (pv 1) (pa_cons (pv 2) pa_nil)))))
 (pss_one (ps_ret (pe_callTy call_tuple_of (by rfl) m_tuple boot_tuple (pa_cons (pe_callB K7S.cr_sortA (by rfl) m_sorted boot_sorted (pa_cons (pe_call Gsp (hr.mono (by decide)) (by rfl) gsp ksp bsp .nil pass0 (pa_cons (pe_fld (pv 0) rfl) (pa_cons (pv 1) (pa_cons (pv 2) pa_nil)))) pa_nil)) pa_nil))))), ?_⟩
    refine ⟨_, rfl, _, rfl, _, rfl, p, n, es, rd, x, y, rfl, L, h.mono fun c ex hc h => h.mono fun pa ps ey hpa plt pnd q H1 e1 => ?_⟩
    subst ex ey
    have L1 := L.same e1
    have n5 := L.n5
    obtain ⟨dx, an, ar, ay, ac, tn, ty, tc, h1, h2, h3, h4, h5, h6, h7, h8⟩ := L1.at_
    refine ⟨_, rfl, p, a.C, dx, _, _, rfl, h1, T.cl, T.nA _ (by decide), rfl, _, rfl, _, rfl, ay, ty, nearV n es, c, pa, ps, rfl, h5, h6, hpa.same e1, by rw [near_ln]; omega, by rw [near_ln]; exact hc, near_lt, fun H2 F0 fd e2 nF hF fo => ?_⟩
    have flt : ∀ x ∈ fd, x < n := fun x hx => by have z := fo.lt x hx; rw [near_ln] at z; exact z
    have fl : fd.length ≤ 5 := by
      have z := K7E.nodup_le fd (List.range n) fo.nd fun x hx => List.mem_range.mpr (flt x hx)
      rw [List.length_range] at z
      omega
    refine ⟨F0, fd.map fun c => ((c : Nat) : Int), rfl, .inl (.inl (.inl (by rw [List.map_map]; exact hF))), by rw [List.length_map]; omega, fun ms t pm so nt => ?_⟩
    have bk := ints_back pm
    have pm2 : (ms.map Int.toNat).Perm fd := by
      have z := pm.map Int.toNat
      rw [List.map_map] at z
      exact z.trans (List.Perm.of_eq ((List.map_congr_left fun c _ => Int.toNat_natCast c).trans (List.map_id fd)))
    have so2 : (ms.map Int.toNat).Pairwise (· ≤ ·) := by
      rw [bk, List.pairwise_map] at so
      exact so.imp fun h => by omega
    refine ⟨t, _, rfl, .inl ⟨.inl (.inl upd_same), fun u nu => ?_⟩⟩
    have e3 := (same_new (o := .lst (ms.map V.int)) (Same.refl H2) nt).trans (same_new (o := .tup (ms.map V.int)) (Same.refl _) nu)
    refine q _ u (ms.map Int.toNat) ((e1.trans e2).trans e3) ?_ so2 (pm2.nodup_iff.mpr fo.nd) (fun x hx => flt x (pm2.mem_iff.mp hx)) fun x => ?_
    · rw [upd_same]
      unfold ints_
      conv => lhs; rw [bk]
      rw [List.map_map]
      rfl
    · exact pm2.mem_iff.trans (found_iff L.ok fo x)
def spIsOpen (K : PySem.W.Frag) (a : AdL) (S : Addr) : Sp := fun vs H Q E => ∃ (p : Addr) (n : Nat) (es : List (Nat × Nat)) (rd : List Nat) (x y : V), vs = [.ref p, x, y] ∧ LandO a.C H p n es rd ∧ CellOr a.B n H x E fun c => LotOr K S n H y E fun _ ps =>
  ∀ H' b, Same H H' → (b = true ↔ OpenV es rd ps c) → Q (.bl b) H'
include Gch gch kch bch in
theorem ok_isopen (T : Tl K mg a) {f fS : Addr} {fd fdS : FuncData} (F : Fun K "is_open" "is_open" s_is_open f fd)
    (Gop : FnOk P w K mg base CX0 2 fS fdS ["land", "cell", "passing"] (spOpens a.C)) (gop : mg "opens" = some (.ref fS)) (kop : PySem.W.keepIn K (.ref fS) = true) (bop : Binds K fdS ["land", "cell", "passing"] []) : FnOk P w K mg base (L2.CX P w) 6 f fd ["land", "cell", "passing"] (spIsOpen K a S) := by
  refine F.okX sc_is_open (fun vs H Q E h => ?_) (fun cdv A outer s H vs Q E hr h => ?_)
  · obtain ⟨p, n, es, rd, x, y, rfl, _⟩ := h
    rfl
  · obtain ⟨p, n, es, rd, x, y, rfl, L, h⟩ := h
    refine ⟨_, (pss_cons (ps_expr (pe_call Gch (hr.mono (by decide)) (by rfl) gch kch bch .nil (passes_call (E := E) (takes_of rfl rfl rfl rfl) (fun _ _ _ _ h => h)) (pa_cons (pv 0) (pa_cons (pv 1) (pa_cons (pv 2) pa_nil)))))
 (pss_one (ps_ret (pe_call Gop (hr.mono (by decide)) (by rfl) gop kop bop .nil pass0 (pa_cons (pv 0) (pa_cons (pv 1) (pa_cons (pv 2) pa_nil))))))), ?_⟩
    refine ⟨_, rfl, _, rfl, _, rfl, p, n, es, rd, x, y, rfl, L, h.mono fun c ex hc h => h.mono fun pa ps ey hpa plt pnd q H1 e1 => ?_⟩
    subst ex ey
    exact ⟨_, rfl, _, rfl, _, rfl, p, n, es, rd, c, pa, ps, rfl, L.same e1, hc, hpa.same e1, fun H2 b e2 hb => q H2 b (e1.trans e2) hb⟩
end
end K7
end
/-! ## P15 -/
section
open PySem PySem.Spec PyProof.Rows L2
namespace K7
/-! open_way -/
section
variable {P : Program} {w : World} {K : PySem.W.Frag} {mg : Str → Option Value} {base : Heap} {a : AdL} {S iS : Addr}
open KW2
theorem near_asc (n : Nat) (es : List (Nat × Nat)) (x : Nat) : (nearOf n es x).Pairwise (· < ·) := List.Pairwise.filter _ List.pairwise_lt_range
theorem near_mem {n : Nat} {es : List (Nat × Nat)} (ok : LandOk n es) {x : Nat} (hx : x < n) (b : Nat) : b ∈ nearOf n es x ↔ edge es x b := by
  rw [← nb_edge ok]
  constructor
  · exact fun h => ⟨_, near_get hx, h⟩
  · rintro ⟨l, el, hb⟩
    rw [near_get hx] at el
    obtain rfl := Option.some.inj el
    exact hb
/-- the way that is told: no walk to a road cell goes ahead of it -/
def LeastWay (es : List (Nat × Nat)) (rd ps : List Nat) (c : Nat) (w : List Nat) : Prop := ∃ x ∈ rd, Wy (edge es) ps c w x ∧ ∀ v y, Wk (edge es) ps c v y → y ∈ rd → sle w v
def spWay (K : PySem.W.Frag) (a : AdL) (S : Addr) : Sp := fun vs H Q E => ∃ (p : Addr) (n : Nat) (es : List (Nat × Nat)) (rd : List Nat) (x y : V), vs = [.ref p, x, y] ∧ LandO a.C H p n es rd ∧ CellOr a.B n H x E fun c => LotOr K S n H y E fun _ ps =>
  (∀ H' t w, Same H H' → H' t = some (.tup (ints_ w)) → LeastWay es rd ps c w → Q (.ref t) H') ∧ (∀ H', Same H H' → ¬ OpenV es rd ps c → Q .non H')
theorem last_end {w : List Nat} (h : 0 < w.length) : atI (ints_ w) (-1) = some (.int ((lastN w : Nat) : Int)) ∧ lastN w ∈ w := by
  refine ⟨last_at (l := w) (by cases w with | nil => cases h | cons x r => rfl), ?_⟩
  rcases List.eq_nil_or_concat w with e | ⟨u, x, e⟩
  · rw [e] at h; cases h
  · rw [List.concat_eq_append] at e
    rw [e, last_app]
    exact List.mem_append_right _ (List.mem_singleton.mpr rfl)
/-- but for two lists all is as it was -/
def But2 (A B : Addr) (H H' : Hp) : Prop := ∀ b o, b ≠ A → b ≠ B → H b = some o → H' b = some o
def WyInv (p pa Wl El : Addr) (n : Nat) (es : List (Nat × Nat)) (rd ps : List Nat) (c : Nat) (Hb : Hp) (m : Nat) (σ : L2.St) (H' : Hp) : Prop := ∃ (W : List (List Nat)) (ts : List Addr) (d : Nat) (y6 y7 : Option V),
  σ = [some (.ref p), some (.int (c : Nat)), some (.ref pa), some (.ref Wl), some (.ref El), some (.int (d : Nat)), y6, y7] ∧ But2 Wl El Hb H' ∧ H' Wl = some (.lst (ts.map V.ref)) ∧ TAt H' ts W ∧ H' El = some (.lst (ints_ (W.map lastN))) ∧ Bf (edge es) ps c rd W d ∧ m + d = n
theorem bf_len {n : Nat} {es : List (Nat × Nat)} {rd ps : List Nat} {c d : Nat} {W : List (List Nat)} (B : Bf (edge es) ps c rd W d) (hc : c < n) (hp : ∀ x ∈ ps, x < n) : W.length ≤ n := by
  have z := K7E.nodup_le (W.map lastN) (List.range n) B.nd fun x hx => by
    obtain ⟨w, hw, rfl⟩ := List.mem_map.mp hx
    have wy := B.way w hw
    exact List.mem_range.mpr (wy.lt hc hp _ (last_end wy.wk.pos).2)
  rw [List.length_map, List.length_range] at z
  exact z
variable {fc : Addr} {fdc : FuncData} (Gch : FnOk P w K mg base (L2.CX P w) 5 fc fdc ["land", "cell", "passing"] (spChk K a S)) (gch : mg "_check" = some (.ref fc)) (kch : PySem.W.keepIn K (.ref fc) = true) (bch : Binds K fdc ["land", "cell", "passing"] [])
include Gch gch kch bch in
theorem ok_way (T : Tl K mg a) {f : Addr} {fd : FuncData} (F : Fun K "open_way" "open_way" s_open_way f fd) (m_len : mg "len" = none) : FnOk P w K mg base (L2.CX P w) 6 f fd ["land", "cell", "passing"] (spWay K a S) := by
  refine F.okX sc_open_way (fun vs H Q E h => ?_) (fun cdv A outer s H vs Q E hr h => ?_)
  · obtain ⟨p, n, es, rd, x, y, rfl, _⟩ := h
    rfl
  · obtain ⟨p, n, es, rd, x, y, rfl, L, h⟩ := h
    refine ⟨_, (pss_cons (ps_expr (pe_call Gch (hr.mono (by decide)) (by rfl) gch kch bch .nil (passes_call (E := E) (takes_of rfl rfl rfl rfl) (fun _ _ _ _ h => h)) (pa_cons (pv 0) (pa_cons (pv 1) (pa_cons (pv 2) pa_nil)))))
 (pss_cons (ps_set (i := 3) sc_open_way.nd rfl (by first | exact Or.inl rfl | exact Or.inr rfl) (pe_lst (pa_cons (pe_tup (pa_cons (pv 1) pa_nil)) pa_nil)))
 (pss_cons (ps_set (i := 4) sc_open_way.nd rfl (by first | exact Or.inl rfl | exact Or.inr rfl) (pe_lst (pa_cons (pv 1) pa_nil)))
 (pss_cons (ps_set (i := 5) sc_open_way.nd rfl (by first | exact Or.inl rfl | exact Or.inr rfl) pe_int)
 (pss_cons (ps_while (passes_of rfl) (pt_cmpR op_lt (pv 5) (pe_callB call_len_seq (by rfl) m_len boot_len (pa_cons (pv 3) pa_nil)) (nomark _))
  (pss_cons (ps_set (i := 6) sc_open_way.nd rfl (by first | exact Or.inl rfl | exact Or.inr rfl) (pe_ix ix_list (pv 3) (pv 5) (fun _ _ => rfl)))
 (pss_cons (ps_if (pt_cmpR op_in_seq (pe_ix ix_tup (pv 6) (pe_un un_neg pe_int) (fun _ _ => rfl)) (pe_fld (pv 0) rfl) (by with_unfolding_all rfl))
  (pss_one (ps_ret (pv 6)))
  pss_nil)
 (pss_cons (ps_for (passes_of rfl) rfl (pi_tup (pe_ix ix_tup (pe_fld (pv 0) rfl) (pe_ix ix_tup (pv 6) (pe_un un_neg pe_int) (fun _ _ => rfl)) (fun _ _ => rfl))) (pg_name (i := 7) sc_open_way.nd rfl (by first | exact Or.inl rfl | exact Or.inr rfl))
  (pss_one (ps_if (pw_and (pt_cmpR op_in_seq (pv 7) (pv 2) (by with_unfolding_all rfl)) (pw_and1 (pt_cmpR op_notIn_seq (pv 7) (pv 4) (by with_unfolding_all rfl)))).pt
  (pss_cons (ps_expr (pe_bm PySem.F.plainAttrs_list PySem.F.slot_list_append PySem.F.type_list_append mt_append (pv 3) (pa_cons (pe_op op_catT (pv 6) (pe_tup (pa_cons (pv 7) pa_nil))) pa_nil)))
 (pss_one (ps_expr (pe_bm PySem.F.plainAttrs_list PySem.F.slot_list_append PySem.F.type_list_append mt_append (pv 4) (pa_cons (pv 7) pa_nil)))))
  pss_nil)))
 (pss_one (ps_aug (i := 5) sc_open_way.nd rfl (by first | exact Or.inl rfl | exact Or.inr rfl) pe_int ip_add))))))
 (pss_one (ps_ret pe_non))))))), ?_⟩
    refine ⟨_, rfl, _, rfl, _, rfl, p, n, es, rd, x, y, rfl, L, h.mono fun c ex hc h => h.mono fun pa ps ey hpa plt pnd q H1 e1 => ?_⟩
    subst ex ey
    obtain ⟨q1, q2⟩ := q
    have n5 := L.n5
    have ok := L.ok
    -- the first way
    refine ⟨_, rfl, by show 1 ≤ sizeLine; decide, fun t0 nt0 => ⟨by show 1 ≤ sizeLine; decide, fun Wl nW => ?_⟩⟩
    refine ⟨_, rfl, by show 1 ≤ sizeLine; decide, fun El nE => ?_⟩
    have s1 := same_new (o := .tup [.int (c : Nat)]) (Same.refl H1) nt0
    have s2 := same_new (o := .lst [.ref t0]) (Same.refl _) nW
    have s3 := same_new (o := .lst [.int (c : Nat)]) (Same.refl _) nE
    have hW : upd (upd (upd H1 t0 (.tup [.int (c : Nat)])) Wl (.lst [.ref t0])) El (.lst [.int (c : Nat)]) Wl = some (.lst [.ref t0]) := s3 _ _ upd_same
    have hE : upd (upd (upd H1 t0 (.tup [.int (c : Nat)])) Wl (.lst [.ref t0])) El (.lst [.int (c : Nat)]) El = some (.lst [.int (c : Nat)]) := upd_same
    have ht0 := s3 _ _ (s2 _ _ (upd_same (H := H1) (a := t0) (o := .tup [.int (c : Nat)])))
    have nWE : Wl ≠ El := ne_of_none upd_same nE
    have nW1 : H1 Wl = none := s1.free nW
    have nE1 : H1 El = none := (s1.trans s2).free nE
    have e3 := s1.trans (s2.trans s3)
    generalize upd (upd (upd H1 t0 (.tup [.int (c : Nat)])) Wl (.lst [.ref t0])) El (.lst [.int (c : Nat)]) = Hb at hW hE ht0 e3 ⊢
    have e13 := e1.trans e3
    have out : ∀ {H' : Hp}, But2 Wl El Hb H' → Same H H' := fun {H'} b2 b o hb => b2 b o (ne_of_none (e1 _ _ hb) nW1) (ne_of_none (e1 _ _ hb) nE1) (e13 _ _ hb)
    have out2 : ∀ {H' : Hp} {b : Addr} {xs : List V}, But2 Wl El Hb H' → H1 b = some (.tup xs) → H' b = some (.tup xs) := fun {H' b xs} b2 hb => b2 b _ (ne_of_none hb nW1) (ne_of_none hb nE1) (e3 _ _ hb)
    obtain ⟨dx0, an0, ar0, ay0, ac0, tn0, ty0, tc0, k1, k2, k3, k4, k5, k6, k7, k8⟩ := (L.same e1).at_
    refine ⟨WyInv p pa Wl El n es rd ps c Hb, ⟨n, [[c]], [t0], 0, none, none, rfl, fun b o _ _ z => z, hW, .cons ht0 .nil, hE, Bf.start, rfl⟩, fun m σ' H' wv => ?_⟩
    obtain ⟨W, ts, d, y6, y7, rfl, b2, hWl, tW, hEl, B, hm⟩ := wv
    have lW := bf_len B hc plt
    have lts := tW.len
    have sm := out b2
    refine ⟨_, rfl, _, rfl, Wl, _, rfl, .inl (.inl (.inl hWl)), _, _, rfl, rfl, _, rfl, ite2 (fun c1 => ?_) (fun c1 => ?_)⟩
    · have c1' : d < W.length := by
        have z : ((d : Nat) : Int) < (((ts.map V.ref).length : Nat) : Int) := of_decide_eq_true c1
        rw [List.length_map] at z
        omega
      refine ⟨WyInv p pa Wl El n es rd ps c Hb (m - 1), fun σ2 H2 z => ⟨m - 1, by omega, z⟩, ?_⟩
      obtain ⟨t, et⟩ : ∃ t, ts[d]? = some t := ⟨_, List.getElem?_eq_getElem (by omega)⟩
      obtain ⟨u, eu, ht⟩ := tW.get et
      have um := List.mem_of_getElem? eu
      have wyu := B.way u um
      have upos := wyu.wk.pos
      have ult := wyu.lt hc plt
      have lu : lastN u < n := ult _ (last_end upos).2
      have ul5 : u.length ≤ 5 := by
        have z := K7E.nodup_le u (List.range n) wyu.nodup fun x hx => List.mem_range.mpr (ult x hx)
        rw [List.length_range] at z
        omega
      have h1 := b2 p _ (ne_of_none k1 nW1) (ne_of_none k1 nE1) (e3 _ _ k1)
      have h4 := out2 b2 k4
      have h5 := out2 b2 k5
      refine ⟨_, rfl, _, rfl, Wl, _, _, .ref t, rfl, rfl, .inl (.inl hWl), atI_nat (by rw [List.getElem?_map, et]; rfl), ?_⟩
      refine ⟨_, rfl, _, rfl, t, _, _, _, rfl, rfl, .inl (.inl ht), (last_end upos).1, ?_⟩
      refine ⟨_, rfl, p, a.C, dx0, _, _, rfl, h1, T.cl, T.nA _ (by decide), rfl, ar0, _, rfl, .inr (.inl (.inl h4)), rfl, flat_ints rd, _, rfl, ite2 (fun c2 => ?_) (fun c2 => ?_)⟩
      · have c2' : lastN u ∈ rd := of_decide_eq_true ((inV_ints (lastN u) rd).symm.trans c2)
        exact ⟨_, rfl, q1 H' t u sm ht ⟨lastN u, c2', wyu, fun v y hv hy => B.least eu hv hy⟩⟩
      · have c2' : lastN u ∉ rd := fun h => c2 ((inV_ints (lastN u) rd).trans (decide_eq_true h))
        have lty : lastN u < ty0.length := by rw [k6.len, near_ln]; exact lu
        obtain ⟨l, el, hl0⟩ := k6.get (i := lastN u) (List.getElem?_eq_getElem lty)
        rw [near_get lu] at el
        obtain rfl := Option.some.inj el
        have hl := out2 b2 hl0
        have asc := near_asc n es (lastN u)
        have mem := near_mem ok lu
        have nlt : ∀ x ∈ nearOf n es (lastN u), x < n := fun x hx => List.mem_range.mp (List.mem_filter.mp hx).1
        refine ⟨_, rfl, p, a.C, dx0, _, _, rfl, h1, T.cl, T.nA _ (by decide), rfl, ?_⟩
        refine ⟨_, rfl, _, rfl, t, _, _, _, rfl, rfl, .inl (.inl ht), (last_end upos).1, ?_⟩
        refine ⟨ay0, _, _, .ref ty0[lastN u], rfl, rfl, .inl (.inl h5), atI_nat (by rw [List.getElem?_map, List.getElem?_eq_getElem lty]; rfl), ?_⟩
        refine ⟨_, rfl, ⟨_, .inl (.inl hl)⟩, for_tup (xs := ints_ (nearOf n es (lastN u))) (fun j σ2 H2 => ∃ (us : List Addr) (y7 : Option V), σ2 = [some (.ref p), some (.int (c : Nat)), some (.ref pa), some (.ref Wl), some (.ref El), some (.int (d : Nat)), some (.ref t), y7] ∧ But2 Wl El Hb H2 ∧ H2 t = some (.tup (ints_ u)) ∧ H2 Wl = some (.lst ((ts ++ us).map V.ref)) ∧ TAt H2 (ts ++ us) (W ++ (news ps W ((nearOf n es (lastN u)).take j)).map fun b => u ++ [b]) ∧ H2 El = some (.lst (ints_ (W.map lastN ++ news ps W ((nearOf n es (lastN u)).take j)))))
          ⟨[], y7, rfl, b2, ht, by rw [List.append_nil]; exact hWl, by rw [List.append_nil]; exact (List.append_nil W).symm ▸ tW, by rw [show news ps W ((nearOf n es (lastN u)).take 0) = [] from rfl, List.append_nil]; exact hEl⟩ (fun j σ2 H2 _ pv => ?_) (fun j x σ2 H2 hx pv => ?_) (fun σ2 H2 pv => ?_)⟩
        · obtain ⟨us, y7, _, bt2, _⟩ := pv
          exact .inl (.inl (out2 bt2 hl0))
        · obtain ⟨us, y7, rfl, bt2, ht2, hW2, tW2, hE2⟩ := pv
          have sm2 := out bt2
          unfold ints_ at hx
          rw [List.getElem?_map] at hx
          obtain ⟨b, eb, rfl⟩ := Option.map_eq_some_iff.mp hx
          have tk : (nearOf n es (lastN u)).take (j + 1) = (nearOf n es (lastN u)).take j ++ [b] := by rw [List.take_add_one, eb]; rfl
          have nwj : news ps W ((nearOf n es (lastN u)).take (j + 1)) = news ps W ((nearOf n es (lastN u)).take j) ++ (if (decide (b ∈ ps) && !decide (b ∈ W.map lastN)) = true then [b] else []) := by
            unfold news
            rw [tk, List.filter_append]
            congr 1
            rw [List.filter_cons]
            rfl
          have notin : b ∉ (nearOf n es (lastN u)).take j := fun h => by
            obtain ⟨i, hi, e⟩ := List.getElem_of_mem h
            rw [List.length_take] at hi
            have hj := (List.getElem?_eq_some_iff.mp eb).1
            have z := List.pairwise_iff_getElem.mp asc i j (by omega) hj (by omega)
            rw [(List.getElem?_eq_some_iff.mp eb).2] at z
            rw [List.getElem_take] at e
            omega
          have l10 : (W.map lastN ++ news ps W ((nearOf n es (lastN u)).take j)).length ≤ 10 := by
            have z : (news ps W ((nearOf n es (lastN u)).take j)).length ≤ n := Nat.le_trans (List.length_filter_le _ _) (Nat.le_trans (by rw [List.length_take]; exact Nat.min_le_right ..) (nearR_len n es [] (lastN u)))
            rw [List.length_append, List.length_map]
            omega
          have l10' : (ts ++ us).length ≤ 10 := by
            have z := tW2.len
            simp only [List.length_append, List.length_map] at z l10 ⊢
            omega
          refine ⟨_, rfl, _, rfl, pa, _, rfl, (hpa.same sm2).sq, rfl, flat_ints ps, _, rfl, ite2 (fun q1 => ?_) (fun q1 => ?_)⟩
          · have q1' : b ∈ ps := of_decide_eq_true ((inV_ints b ps).symm.trans q1)
            refine ⟨_, rfl, _, rfl, El, _, rfl, .inl (.inl (.inl hE2)), rfl, flat_ints _, _, rfl, ite2 (fun q2 => ?_) (fun q2 => ?_)⟩
            · have q2' : b ∉ W.map lastN := by
                intro hb2
                have z : (!inV (.int (b : Nat)) (ints_ (W.map lastN ++ news ps W ((nearOf n es (lastN u)).take j)))) = true := q2
                rw [inV_ints, decide_eq_true (List.mem_append_left _ hb2)] at z
                cases z
              rw [if_pos (by rw [decide_eq_true q1', decide_eq_false q2'] <;> rfl)] at nwj
              refine ⟨_, rfl, .inl ⟨rfl, _, .inl (.inl hW2)⟩, _, rfl, _, rfl, by show 1 ≤ sizeLine; decide, fun t1 nt1 => ?_⟩
              have a1 := same_new (o := .tup [.int (b : Nat)]) (Same.refl H2) nt1
              have ht1 : upd H2 t1 (.tup [.int (b : Nat)]) t1 = some (.tup [.int (b : Nat)]) := upd_same
              generalize upd H2 t1 (.tup [.int (b : Nat)]) = H3 at a1 ht1 ⊢
              refine ⟨t, t1, ints_ u, [.int (b : Nat)], rfl, rfl, .inl (.inl (a1 _ _ ht2)), .inl (.inl ht1), (fun e => ?_), by unfold ints_; rw [List.length_map]; exact Nat.le_trans (show u.length + 1 ≤ 6 by omega) (by decide), (fun e => nomatch e), fun _ t2 nt2 => ?_⟩
              · have z := congrArg List.length e
                unfold ints_ at z
                rw [List.length_map] at z
                rw [z] at upos
                cases upos
              have a2 := same_new (o := .tup (ints_ u ++ [.int (b : Nat)])) (Same.refl H3) nt2
              have hv : upd H3 t2 (.tup (ints_ u ++ [.int (b : Nat)])) t2 = some (.tup (ints_ (u ++ [b]))) := by rw [upd_same]; unfold ints_; rw [List.map_append]; rfl
              generalize upd H3 t2 (.tup (ints_ u ++ [.int (b : Nat)])) = H4 at a2 hv ⊢
              have a12 := a1.trans a2
              have hW4 := a12 _ _ hW2
              have hE4 := a12 _ _ hE2
              refine ⟨Wl, _, _, rfl, rfl, hW4, by rw [List.length_map]; exact small1000 (by omega), ?_⟩
              have hE5 : upd H4 Wl (.lst ((ts ++ us).map V.ref ++ [.ref t2])) El = some (.lst (ints_ (W.map lastN ++ news ps W ((nearOf n es (lastN u)).take j)))) := by rw [upd_ne nWE.symm]; exact hE4
              refine ⟨_, rfl, .inl ⟨rfl, _, .inl (.inl hE5)⟩, _, rfl, El, _, _, rfl, rfl, hE5, by unfold ints_; rw [List.length_map]; exact small1000 (by omega), ?_⟩
              have up : ∀ b' xs, H4 b' = some (.tup xs) → upd (upd H4 Wl (.lst ((ts ++ us).map V.ref ++ [.ref t2]))) El (.lst (ints_ (W.map lastN ++ news ps W ((nearOf n es (lastN u)).take j)) ++ [.int (b : Nat)])) b' = some (.tup xs) := fun b' xs hb => by
                rw [upd_ne (fun z => by rw [z, hE4] at hb; cases hb), upd_ne (fun z => by rw [z, hW4] at hb; cases hb)]
                exact hb
              refine ⟨us ++ [t2], _, rfl, fun b' o n1 n2 hb => ?_, up _ _ (a12 _ _ ht2), ?_, ?_, ?_⟩
              · rw [upd_ne n2, upd_ne n1]
                exact a12 _ _ (bt2 b' o n1 n2 hb)
              · rw [upd_ne nWE, upd_same]
                simp only [List.map_append, List.append_assoc, List.map_cons, List.map_nil]
              · have z := ((tW2.same a12).mono up).append (.cons (up _ _ hv) .nil)
                rw [nwj]
                simpa only [List.map_append, List.append_assoc, List.map_cons, List.map_nil] using z
              · rw [upd_same, nwj]
                unfold ints_
                simp only [List.map_append, List.append_assoc, List.map_cons, List.map_nil]
            · have q2' : b ∈ W.map lastN := by
                refine Classical.byContradiction fun hn => q2 ?_
                show (!inV (.int (b : Nat)) (ints_ (W.map lastN ++ news ps W ((nearOf n es (lastN u)).take j)))) = true
                rw [inV_ints, decide_eq_false (show ¬ (b ∈ W.map lastN ++ news ps W ((nearOf n es (lastN u)).take j)) from fun h => (List.mem_append.mp h).elim hn fun h => notin (List.mem_filter.mp (show b ∈ List.filter _ _ from h)).1)]
                rfl
              rw [if_neg (by rw [decide_eq_true q1', decide_eq_true q2'] <;> decide), List.append_nil] at nwj
              refine ⟨us, _, rfl, bt2, ht2, hW2, ?_, ?_⟩
              · rw [nwj]; exact tW2
              · rw [nwj]; exact hE2
          · have q1' : b ∉ ps := fun hb => q1 ((inV_ints b ps).trans (decide_eq_true hb))
            rw [decide_eq_false q1', Bool.false_and, if_neg (by decide), List.append_nil] at nwj
            refine iteF ⟨us, _, rfl, bt2, ht2, hW2, ?_, ?_⟩
            · rw [nwj]; exact tW2
            · rw [nwj]; exact hE2
        · obtain ⟨us, y7, rfl, bt2, ht2, hW2, tW2, hE2⟩ := pv
          rw [show (ints_ (nearOf n es (lastN u))).length = (nearOf n es (lastN u)).length from List.length_map .., List.take_length] at tW2 hE2
          refine ⟨_, rfl, _, _, rfl, rfl, ?_⟩
          refine ⟨W ++ (news ps W (nearOf n es (lastN u))).map fun b => u ++ [b], ts ++ us, d + 1, _, _, rfl, bt2, hW2, tW2, ?_, B.step eu c2' asc mem, by omega⟩
          rw [hE2, List.map_append, List.map_map, (List.map_congr_left fun b _ => last_app u b : (news ps W (nearOf n es (lastN u))).map (lastN ∘ fun b => u ++ [b]) = (news ps W (nearOf n es (lastN u))).map id), List.map_id]
    · have c1' : W.length ≤ d := by
        refine Nat.not_lt.mp fun z => c1 (decide_eq_true ?_)
        rw [List.length_map]
        omega
      obtain rfl : d = W.length := Nat.le_antisymm B.d0 c1'
      refine q2 H' sm fun ⟨x, hx, hr⟩ => ?_
      obtain ⟨v, hv⟩ := rch_way hr
      exact B.none hv.wk hx
end
end K7
end
/-! ## P16 -/
section
open PySem PySem.Spec PyProof.Rows L2
namespace K7
abbrev N__law_comes : List Str := ["_law_land_here", "_law_cell", "_law_passing", "_law_seen", "_law_place", "_law_low", "_law_high"]
abbrev s__law_comes : Stmt := topS 33
theorem sc__law_comes : FnScope ["_law_land_here", "_law_cell", "_law_passing", "_law_seen", "_law_place", "_law_low", "_law_high"] ["_law_land_here", "_law_cell", "_law_passing"] (defScope s__law_comes) := ⟨rfl, rfl, rfl, by decide +kernel, rfl, by decide +kernel, by decide +kernel⟩
abbrev N__law_open : List Str := ["_law_land_here", "_law_cell", "_law_passing", "_law_here"]
abbrev s__law_open : Stmt := topS 34
theorem sc__law_open : FnScope ["_law_land_here", "_law_cell", "_law_passing", "_law_here"] ["_law_land_here", "_law_cell", "_law_passing"] (defScope s__law_open) := ⟨rfl, rfl, rfl, by decide +kernel, rfl, by decide +kernel, by decide +kernel⟩
/-! ### what the law reaches -/
structure SnOk (n : Nat) (es : List (Nat × Nat)) (ps : List Nat) (c : Nat) (sn : List Nat) : Prop where
  nd : sn.Nodup
  me : c ∈ sn
  lt : ∀ x ∈ sn, x < n
  so : ∀ x ∈ sn, KL.Rch (edge es) ps c x
theorem SnOk.add {n : Nat} {es : List (Nat × Nat)} {ps : List Nat} {c : Nat} {sn : List Nat} (h : SnOk n es ps c sn) {a b : Nat} (ha : a ∈ sn) (e : edge es a b) (hp : b ∈ ps) (hb : b < n) (hn : b ∉ sn) : SnOk n es ps c (sn ++ [b]) := by
  refine ⟨List.nodup_append.mpr ⟨h.nd, List.nodup_cons.mpr ⟨List.not_mem_nil, List.nodup_nil⟩, fun a' ha' b' hb' e => ?_⟩, List.mem_append_left _ h.me, fun x hx => ?_, fun x hx => ?_⟩
  · rw [List.mem_singleton] at hb'
    exact hn (by rw [← hb', ← e]; exact ha')
  · rcases List.mem_append.mp hx with hx | hx
    · exact h.lt x hx
    · rw [List.mem_singleton.mp hx]
      exact hb
  · rcases List.mem_append.mp hx with hx | hx
    · exact h.so x hx
    · rw [List.mem_singleton.mp hx]
      exact .step (h.so a ha) e hp
theorem SnOk.len {n : Nat} {es : List (Nat × Nat)} {ps : List Nat} {c : Nat} {sn : List Nat} (h : SnOk n es ps c sn) : sn.length ≤ n := by
  have z := K7E.nodup_le sn (List.range n) h.nd fun x hx => List.mem_range.mpr (h.lt x hx)
  rw [List.length_range] at z
  exact z
theorem snoc_ints (sn : List Nat) (b : Nat) : ints_ sn ++ [.int (b : Nat)] = ints_ (sn ++ [b]) := by
  unfold ints_
  rw [List.map_append]
  rfl
section
variable {P : Program} {w : World} {K : PySem.W.Frag} {mg : Str → Option Value} {base : Heap}
def spComes : Sp := fun vs H Q _ => ∃ (q : Addr) (n : Nat) (es : List (Nat × Nat)) (lot : List Nat) (c : Nat) (pa : Addr) (ps : List Nat), vs = [.ref q, .int (c : Nat), .ref pa] ∧ LandAt H q n es lot ∧ n ≤ 5 ∧ es.length ≤ 32 ∧ c < n ∧ SqOf H pa (ints_ ps) ∧
  ∀ H' r sn, Same H H' → H r = none → H' r = some (.lst (ints_ sn)) → sn.Nodup → sn.length ≤ 5 → (∀ x, x ∈ sn ↔ KL.Rch (edge es) ps c x) → Q (.ref r) H'
theorem ok_comes {f : Addr} {fd : FuncData} (F : Fun K "_law_comes" "_law_comes" s__law_comes f fd) (m_range : mg "range" = none) (m_len : mg "len" = none) : FnOk P w K mg base CX0 1 f fd ["_law_land_here", "_law_cell", "_law_passing"] spComes := by
  refine F.ok sc__law_comes (fun vs H Q E h => ?_) (fun cdv A outer s H vs Q E hr h => ?_)
  · obtain ⟨q, n, es, lot, c, pa, ps, rfl, _⟩ := h
    rfl
  · obtain ⟨q, n, es, lot, c, pa, ps, rfl, L, n5, e32, hc, hpa, k⟩ := h
    refine ⟨_, (pss_cons (ps_set (i := 3) sc__law_comes.nd rfl (by first | exact Or.inl rfl | exact Or.inr rfl) (pe_lst (pa_cons (pv 1) pa_nil)))
 (pss_cons (ps_for PassesOwn.never rfl (pi_range1 rfl m_range (pa_cons (pe_ix ix_tup (pv 0) pe_int (fun _ _ => rfl)) pa_nil)) (pg_name (i := 4) sc__law_comes.nd rfl (by first | exact Or.inl rfl | exact Or.inr rfl))
  (pss_one (ps_if (pt_cmpR op_lt (pv 4) (pe_callB call_len_seq (by rfl) m_len boot_len (pa_cons (pv 3) pa_nil)) (nomark _))
  (pss_one (ps_for PassesOwn.never rfl (pi_list (pe_ix ix_tup (pv 0) pe_int (fun _ _ => rfl))) (pg_tup rfl (pgs_cons (pg_name (i := 5) sc__law_comes.nd rfl (by first | exact Or.inl rfl | exact Or.inr rfl)) (pgs_cons (pg_name (i := 6) sc__law_comes.nd rfl (by first | exact Or.inl rfl | exact Or.inr rfl)) pgs_nil)))
  (Evl.pss_cut (ps_if (pw_and (pt_cmpR op_eq (pv 5) (pe_ix ix_list (pv 3) (pv 4) (fun _ _ => rfl)) (nomark _)) (pw_and (pt_cmpR op_in_seq (pv 6) (pv 2) (by with_unfolding_all rfl)) (pw_and1 (pt_cmpR op_notIn_seq (pv 6) (pv 3) (by with_unfolding_all rfl))))).pt
  (pss_one (ps_expr (pe_bm PySem.F.plainAttrs_list PySem.F.slot_list_append PySem.F.type_list_append mt_append (pv 3) (pa_cons (pv 6) pa_nil))))
  pss_nil)
 (pss_one (ps_if (pw_and (pt_cmpR op_eq (pv 6) (pe_ix ix_list (pv 3) (pv 4) (fun _ _ => rfl)) (nomark _)) (pw_and (pt_cmpR op_in_seq (pv 5) (pv 2) (by with_unfolding_all rfl)) (pw_and1 (pt_cmpR op_notIn_seq (pv 5) (pv 3) (by with_unfolding_all rfl))))).pt
  (pss_one (ps_expr (pe_bm PySem.F.plainAttrs_list PySem.F.slot_list_append PySem.F.type_list_append mt_append (pv 3) (pa_cons (pv 5) pa_nil))))
  pss_nil)))))
  pss_nil)))
 (pss_one (ps_ret (pv 3))))), ?_⟩
    obtain ⟨rA, sA, ts, h1, h2, h3, h4⟩ := L.at_
    have tl : ts.length = es.length := by rw [h3.len]; unfold pairs; rw [List.length_map]
    refine ⟨_, rfl, by show 1 ≤ sizeLine; decide, fun F0 nF => ?_⟩
    have sm : ∀ {H' : Hp}, But F0 H H' → Same H H' := fun b z o hz => b z o (ne_of_none hz nF) hz
    refine ⟨_, rfl, q, _, _, _, rfl, rfl, .inl (.inl (by rw [upd_ne (ne_of_none h1 nF)]; exact h1)), atI_nat (j := 0) rfl, ?_⟩
    refine ⟨_, rfl, by omega, by omega, for_range (lo := 0) (n := n) (fun i τ H' => ∃ (sn : List Nat) (y4 y5 y6 : Option V), τ = [some (.ref q), some (.int (c : Nat)), some (.ref pa), some (.ref F0), y4, y5, y6] ∧ But F0 H H' ∧ H' F0 = some (.lst (ints_ sn)) ∧ SnOk n es ps c sn ∧ ∀ j, j < i → ∀ a, sn[j]? = some a → ∀ b, edge es a b → b ∈ ps → b ∈ sn) ⟨[c], none, none, none, rfl, fun b o nb hb => by rw [upd_ne nb]; exact hb, upd_same, ⟨List.nodup_cons.mpr ⟨List.not_mem_nil, List.nodup_nil⟩, List.mem_singleton.mpr rfl, fun x hx => by rw [List.mem_singleton.mp hx]; exact hc, fun x hx => by rw [List.mem_singleton.mp hx]; exact .base⟩, fun j hj => absurd hj (Nat.not_lt_zero _)⟩ (fun i τ H' hi pv => ?_) (fun τ H' pv => ?_)⟩
    · obtain ⟨sn, y4, y5, y6, rfl, bt, hF, ok, cl⟩ := pv
      refine ⟨_, rfl, _, rfl, F0, _, rfl, .inl (.inl (.inl hF)), _, _, rfl, rfl, _, rfl, ite2 (fun c1 => ?_) (fun c1 => ?_)⟩
      · have c1' : i < sn.length := by
          have z : ((0 : Int) + (i : Nat)) < (((ints_ sn).length : Nat) : Int) := of_decide_eq_true c1
          rw [show (ints_ sn).length = sn.length from List.length_map ..] at z
          omega
        obtain ⟨a, ea⟩ : ∃ a, sn[i]? = some a := ⟨_, List.getElem?_eq_getElem c1'⟩
        have ma := List.mem_of_getElem? ea
        refine ⟨_, rfl, q, _, _, _, rfl, rfl, .inl (.inl (sm bt _ _ h1)), atI_nat (j := 1) rfl, rA, rfl, ⟨_, .inl (.inl (sm bt _ _ h2))⟩, for_list (xs := ts.map V.ref) (fun j τ H2 => ∃ (r : List Nat) (y5 y6 : Option V), τ = [some (.ref q), some (.int (c : Nat)), some (.ref pa), some (.ref F0), some (.int (0 + (i : Nat))), y5, y6] ∧ But F0 H H2 ∧ H2 F0 = some (.lst (ints_ (sn ++ r))) ∧ SnOk n es ps c (sn ++ r) ∧ ∀ e ∈ es.take j, (e.1 = a → e.2 ∈ ps → e.2 ∈ sn ++ r) ∧ (e.2 = a → e.1 ∈ ps → e.1 ∈ sn ++ r)) ⟨[], y5, y6, rfl, bt, by rw [List.append_nil]; exact hF, by rw [List.append_nil]; exact ok, fun e he => by cases he⟩ (fun j τ H2 _ pv => ?_) (fun j x τ H2 hx pv => ?_) (fun τ H2 pv => ?_)⟩
        · obtain ⟨r, y5, y6, _, bt2, _⟩ := pv
          exact .inl (.inl (sm bt2 _ _ h2))
        · obtain ⟨r, y5, y6, rfl, bt2, hF2, ok2, cl2⟩ := pv
          rw [List.getElem?_map] at hx
          obtain ⟨t, ht, rfl⟩ := Option.map_eq_some_iff.mp hx
          obtain ⟨l, el, hl⟩ := h3.get ht
          unfold pairs at el
          rw [List.getElem?_map] at el
          obtain ⟨ab, eab, rfl⟩ := Option.map_eq_some_iff.mp el
          obtain ⟨lo, hi'⟩ := ab
          have mem := List.mem_of_getElem? eab
          obtain ⟨l1, l2⟩ := L.ok.lt _ mem
          have l1 : lo < hi' := l1
          have l2 : hi' < n := l2
          have tk : es.take (j + 1) = es.take j ++ [(lo, hi')] := by rw [List.take_add_one, eab]; rfl
          have ixa : ∀ r : List Nat, atI (ints_ (sn ++ r)) (0 + (i : Nat)) = some (.int (a : Nat)) := fun r => by
            rw [Int.zero_add]
            refine atI_nat ?_
            unfold ints_
            rw [List.getElem?_map, List.getElem?_append_left c1', ea]
            rfl
          refine ⟨t, [.int (lo : Nat), .int (hi' : Nat)], rfl, .inl (.inl (sm bt2 _ _ hl)), rfl, _, _, rfl, _, _, rfl, rfl, ?_⟩
          refine ⟨fun τ' H3 => ∃ r, τ' = [some (.ref q), some (.int (c : Nat)), some (.ref pa), some (.ref F0), some (.int (0 + (i : Nat))), some (.int (lo : Nat)), some (.int (hi' : Nat))] ∧ But F0 H H3 ∧ H3 F0 = some (.lst (ints_ (sn ++ r))) ∧ SnOk n es ps c (sn ++ r) ∧ (∀ e ∈ es.take j, (e.1 = a → e.2 ∈ ps → e.2 ∈ sn ++ r) ∧ (e.2 = a → e.1 ∈ ps → e.1 ∈ sn ++ r)) ∧ (lo = a → hi' ∈ ps → hi' ∈ sn ++ r), ?_, fun τ' H3 hM => ?_⟩
          · refine ⟨_, rfl, _, rfl, _, rfl, F0, _, _, _, rfl, rfl, .inl (.inl hF2), ixa r, rfl, _, rfl, ite2 (fun d1 => ?_) (fun d1 => ?_)⟩
            · have hla : lo = a := by
                have z := of_decide_eq_true d1
                injection z with z
                omega
              refine ⟨_, rfl, _, rfl, pa, _, rfl, (hpa.same (sm bt2)).sq, rfl, flat_ints ps, _, rfl, ite2 (fun d2 => ?_) (fun d2 => ?_)⟩
              · have d2' : hi' ∈ ps := of_decide_eq_true ((inV_ints hi' ps).symm.trans d2)
                refine ⟨_, rfl, _, rfl, F0, _, rfl, .inl (.inl (.inl hF2)), rfl, flat_ints _, _, rfl, ite2 (fun d3 => ?_) (fun d3 => ?_)⟩
                · have d3' : hi' ∉ sn ++ r := fun hb => by
                    have z : (!inV (.int (hi' : Nat)) (ints_ (sn ++ r))) = true := d3
                    rw [inV_ints, decide_eq_true hb] at z
                    cases z
                  have ok3 := ok2.add (a := a) (List.mem_append_left _ ma) (.inl (by rw [← hla]; exact mem)) d2' l2 d3'
                  have len3 := ok2.len
                  refine ⟨_, rfl, .inl ⟨rfl, _, .inl (.inl hF2)⟩, _, rfl, F0, _, _, rfl, rfl, hF2, by unfold ints_; rw [List.length_map]; exact small1000 (by omega), r ++ [hi'], rfl, fun b' o hb' e => by rw [upd_ne hb']; exact bt2 b' o hb' e, by rw [upd_same, snoc_ints, List.append_assoc], by rw [← List.append_assoc]; exact ok3, fun e he => ?_, fun _ _ => ?_⟩
                  · rw [← List.append_assoc]
                    exact ⟨fun x1 x2 => List.mem_append_left _ ((cl2 e he).1 x1 x2), fun x1 x2 => List.mem_append_left _ ((cl2 e he).2 x1 x2)⟩
                  · rw [← List.append_assoc]
                    exact List.mem_append_right _ (List.mem_singleton.mpr rfl)
                · have d3' : hi' ∈ sn ++ r := Classical.byContradiction fun hn => d3 (by
                    show (!inV (.int (hi' : Nat)) (ints_ (sn ++ r))) = true
                    rw [inV_ints, decide_eq_false hn]
                    rfl)
                  exact ⟨r, rfl, bt2, hF2, ok2, cl2, fun _ _ => d3'⟩
              · have d2' : hi' ∉ ps := fun hb => d2 ((inV_ints hi' ps).trans (decide_eq_true hb))
                exact iteF ⟨r, rfl, bt2, hF2, ok2, cl2, fun _ x => absurd x d2'⟩
            · have hla : lo ≠ a := fun e => d1 (decide_eq_true (by rw [e]))
              exact iteF ⟨r, rfl, bt2, hF2, ok2, cl2, fun x _ => absurd x hla⟩
          · obtain ⟨r, rfl, bt2, hF2, ok2, cl2, fst⟩ := hM
            have fin : ∀ r', (∀ e ∈ es.take j, (e.1 = a → e.2 ∈ ps → e.2 ∈ sn ++ r') ∧ (e.2 = a → e.1 ∈ ps → e.1 ∈ sn ++ r')) → (lo = a → hi' ∈ ps → hi' ∈ sn ++ r') → (hi' = a → lo ∈ ps → lo ∈ sn ++ r') → ∀ e ∈ es.take (j + 1), (e.1 = a → e.2 ∈ ps → e.2 ∈ sn ++ r') ∧ (e.2 = a → e.1 ∈ ps → e.1 ∈ sn ++ r') := fun r' z1 z2 z3 e he => by
              rw [tk] at he
              rcases List.mem_append.mp he with he | he
              · exact z1 e he
              · rw [List.mem_singleton.mp he]
                exact ⟨z2, z3⟩
            refine ⟨_, rfl, _, rfl, _, rfl, F0, _, _, _, rfl, rfl, .inl (.inl hF2), ixa r, rfl, _, rfl, ite2 (fun d1 => ?_) (fun d1 => ?_)⟩
            · have hla : hi' = a := by
                have z := of_decide_eq_true d1
                injection z with z
                omega
              refine ⟨_, rfl, _, rfl, pa, _, rfl, (hpa.same (sm bt2)).sq, rfl, flat_ints ps, _, rfl, ite2 (fun d2 => ?_) (fun d2 => ?_)⟩
              · have d2' : lo ∈ ps := of_decide_eq_true ((inV_ints lo ps).symm.trans d2)
                refine ⟨_, rfl, _, rfl, F0, _, rfl, .inl (.inl (.inl hF2)), rfl, flat_ints _, _, rfl, ite2 (fun d3 => ?_) (fun d3 => ?_)⟩
                · have d3' : lo ∉ sn ++ r := fun hb => by
                    have z : (!inV (.int (lo : Nat)) (ints_ (sn ++ r))) = true := d3
                    rw [inV_ints, decide_eq_true hb] at z
                    cases z
                  have ok3 := ok2.add (a := a) (List.mem_append_left _ ma) (.inr (by rw [← hla]; exact mem)) d2' (by omega) d3'
                  have len3 := ok2.len
                  refine ⟨_, rfl, .inl ⟨rfl, _, .inl (.inl hF2)⟩, _, rfl, F0, _, _, rfl, rfl, hF2, by unfold ints_; rw [List.length_map]; exact small1000 (by omega), r ++ [lo], _, _, rfl, fun b' o hb' e => by rw [upd_ne hb']; exact bt2 b' o hb' e, by rw [upd_same, snoc_ints, List.append_assoc], by rw [← List.append_assoc]; exact ok3, fin _ (fun e he => ?_) (fun x1 x2 => ?_) (fun _ _ => ?_)⟩
                  · rw [← List.append_assoc]
                    exact ⟨fun x1 x2 => List.mem_append_left _ ((cl2 e he).1 x1 x2), fun x1 x2 => List.mem_append_left _ ((cl2 e he).2 x1 x2)⟩
                  · rw [← List.append_assoc]
                    exact List.mem_append_left _ (fst x1 x2)
                  · rw [← List.append_assoc]
                    exact List.mem_append_right _ (List.mem_singleton.mpr rfl)
                · have d3' : lo ∈ sn ++ r := Classical.byContradiction fun hn => d3 (by
                    show (!inV (.int (lo : Nat)) (ints_ (sn ++ r))) = true
                    rw [inV_ints, decide_eq_false hn]
                    rfl)
                  exact ⟨r, _, _, rfl, bt2, hF2, ok2, fin r cl2 fst fun _ _ => d3'⟩
              · have d2' : lo ∉ ps := fun hb => d2 ((inV_ints lo ps).trans (decide_eq_true hb))
                exact iteF ⟨r, _, _, rfl, bt2, hF2, ok2, fin r cl2 fst fun _ x => absurd x d2'⟩
            · have hla : hi' ≠ a := fun e => d1 (decide_eq_true (by rw [e]))
              exact iteF ⟨r, _, _, rfl, bt2, hF2, ok2, fin r cl2 fst fun x _ => absurd x hla⟩
        · obtain ⟨r, y5, y6, rfl, bt2, hF2, ok2, cl2⟩ := pv
          rw [List.length_map, tl, List.take_length] at cl2
          refine ⟨sn ++ r, _, y5, y6, rfl, bt2, hF2, ok2, fun j hj a' ea' b he hp => ?_⟩
          rw [List.getElem?_append_left (by omega)] at ea'
          rcases Nat.lt_or_ge j i with lt | ge
          · exact List.mem_append_left _ (cl j lt a' ea' b he hp)
          · obtain rfl : j = i := by omega
            rw [ea] at ea'
            obtain rfl := Option.some.inj ea'
            rcases he with he | he
            · exact (cl2 _ he).1 rfl hp
            · exact (cl2 _ he).2 rfl hp
      · have c1' : sn.length ≤ i := by
          refine Nat.not_lt.mp fun z => c1 (decide_eq_true ?_)
          rw [show (ints_ sn).length = sn.length from List.length_map ..]
          omega
        refine ⟨sn, _, y5, y6, rfl, bt, hF, ok, fun j hj a ea => ?_⟩
        have z := (List.getElem?_eq_some_iff.mp ea).1
        exact cl j (by omega) a ea
    · obtain ⟨sn, y4, y5, y6, rfl, bt, hF, ok, cl⟩ := pv
      have len := ok.len
      refine ⟨_, rfl, k H' F0 sn (sm bt) nF hF ok.nd (by omega) fun x => ⟨ok.so x, fun h => KL.Rch.mem h ok.me fun a b ha e hp => ?_⟩⟩
      obtain ⟨j, hj, e2⟩ := List.getElem_of_mem ha
      exact cl j (by omega) a (by rw [List.getElem?_eq_getElem hj, e2]) b e hp
end
end K7
end
/-! ## P17 -/
section
open PySem PySem.Spec PyProof.Rows L2
namespace K7
abbrev N__law_mixed : List Str := ["_law_hand_here", "_law_lot", "_law_left", "_law_row", "_law_k"]
abbrev s__law_mixed : Stmt := topS 36
theorem sc__law_mixed : FnScope ["_law_hand_here", "_law_lot", "_law_left", "_law_row", "_law_k"] ["_law_hand_here", "_law_lot"] (defScope s__law_mixed) := ⟨rfl, rfl, rfl, by decide +kernel, rfl, by decide +kernel, by decide +kernel⟩
abbrev N__law_says : List Str := ["_law_answer", "_law_due"]
abbrev s__law_says : Stmt := topS 38
theorem sc__law_says : FnScope ["_law_answer", "_law_due"] ["_law_answer", "_law_due"] (defScope s__law_says) := ⟨rfl, rfl, rfl, by decide +kernel, rfl, by decide +kernel, by decide +kernel⟩
section
variable {P : Program} {w : World} {K : PySem.W.Frag} {mg : Str → Option Value} {base : Heap}
/-! _law_open -/
def spLOpen : Sp := fun vs H Q _ => ∃ (q : Addr) (n : Nat) (es : List (Nat × Nat)) (lot : List Nat) (c : Nat) (pa : Addr) (ps : List Nat), vs = [.ref q, .int (c : Nat), .ref pa] ∧ LandAt H q n es lot ∧ n ≤ 5 ∧ es.length ≤ 32 ∧ c < n ∧ SqOf H pa (ints_ ps) ∧
  ∀ H' b, Same H H' → (b = true ↔ OpenV es lot ps c) → Q (.bl b) H'
theorem LandAt.same {H H' : Hp} {q : Addr} {n : Nat} {es : List (Nat × Nat)} {lot : List Nat} (h : LandAt H q n es lot) (e : Same H H') : LandAt H' q n es lot := by
  obtain ⟨rA, sA, ts, h1, h2, h3, h4⟩ := h.at_
  exact ⟨⟨rA, sA, ts, e _ _ h1, e _ _ h2, h3.same e, e _ _ h4⟩, h.ok, h.lot⟩
theorem ok_lopen {f fC : Addr} {fd fdC : FuncData} (F : Fun K "_law_open" "_law_open" s__law_open f fd)
    (Glc : FnOk P w K mg base CX0 1 fC fdC ["_law_land_here", "_law_cell", "_law_passing"] spComes) (glc : mg "_law_comes" = some (.ref fC)) (klc : PySem.W.keepIn K (.ref fC) = true) (blc : Binds K fdC ["_law_land_here", "_law_cell", "_law_passing"] [])
    (m_len : mg "len" = none) : FnOk P w K mg base CX0 2 f fd ["_law_land_here", "_law_cell", "_law_passing"] spLOpen := by
  refine F.ok sc__law_open (fun vs H Q E h => ?_) (fun cdv A outer s H vs Q E hr h => ?_)
  · obtain ⟨q, n, es, lot, c, pa, ps, rfl, _⟩ := h
    rfl
  · obtain ⟨q, n, es, lot, c, pa, ps, rfl, L, n5, e32, hc, hpa, k⟩ := h
    refine ⟨_, (pss_one (ps_ret (pe_cmpR op_gt (pe_callB call_len_seq (by rfl) m_len boot_len (pa_cons (pe_lc (own := [("_law_here", 3)]) (g := gName 3) rfl sc__law_open.nd (pi_list (pe_call Glc (hr.mono (by decide)) (by rfl) glc klc blc .nil pass0 (pa_cons (pv 0) (pa_cons (pv 1) (pa_cons (pv 2) pa_nil))))) (blkOk_by (own := [("_law_here", 3)]) (N := N__law_open) (sc := defScope s__law_open) (by decide +kernel)) (fun _ _ _ _ _ => (pg_name (i := 3) sc__law_open.nd rfl (by first | exact Or.inl rfl | exact Or.inr rfl))) (fun _ _ _ _ _ => (pts_one (pt_cmpR (show OpR _ _ (rIn K false) from op_in_seq) (pv 3) (pe_ix (show IxR _ (rIxT K) from ix_tup) (pv 0) pe_int (fun _ _ => rfl)) (by with_unfolding_all rfl)))) (fun _ _ _ _ _ => (pv 3))) pa_nil)) pe_int (nomark _)))), ?_⟩
    refine ⟨_, rfl, _, rfl, _, rfl, q, n, es, lot, c, pa, ps, rfl, L, n5, e32, hc, hpa, fun H1 r sn e1 nr hr1 nd l5 iff => ?_⟩
    obtain ⟨rA, sA, ts, h1, h2, h3, h4⟩ := (L.same e1).at_
    refine ⟨r, rfl, ⟨_, .inl (.inl hr1)⟩, fun D hD => lc_list (xs := ints_ sn) (fun j H2 => Same H1 H2 ∧ H2 D = some (.lst (ints_ ((sn.take j).filter fun b => decide (b ∈ lot))))) ⟨same_new (Same.refl H1) hD, upd_same⟩ (fun j H2 _ pv => .inl (.inl (pv.1 _ _ hr1))) (fun j x H2 hx pv => ?_) (fun H2 pv => ?_)⟩
    · obtain ⟨e2, hD2⟩ := pv
      unfold ints_ at hx
      rw [List.getElem?_map] at hx
      obtain ⟨b, hb, rfl⟩ := Option.map_eq_some_iff.mp hx
      refine ⟨rfl, _, rfl, _, rfl, q, _, _, _, rfl, rfl, .inl (.inl (e2 _ _ h1)), atI_nat (j := 2) rfl, ?_⟩
      refine ⟨sA, _, rfl, .inl (.inl (.inl (e2 _ _ h4))), rfl, flat_ints lot, _, rfl, ?_⟩
      rw [show inV (.int (b : Nat)) (ints_ lot) = decide (b ∈ lot) from inV_ints b lot]
      have ft := filter_take (p := fun b => decide (b ∈ lot)) hb
      by_cases hm : b ∈ lot
      · rw [decide_eq_true hm] at ft ⊢
        rw [if_pos rfl] at ft
        refine iteT ⟨_, rfl, _, hD2, by unfold ints_; rw [List.length_map]; exact small1000 (Nat.le_trans (List.length_filter_le _ _) (by rw [List.length_take]; omega)), fun b o hb => ?_, ?_⟩
        · rw [upd_ne (ne_of_none hb hD)]
          exact e2 _ _ hb
        · rw [upd_same, ft, ints_snoc]
      · rw [decide_eq_false hm] at ft ⊢
        rw [if_neg (by decide), List.append_nil] at ft
        refine iteF ⟨e2, ?_⟩
        rw [ft]
        exact hD2
    · obtain ⟨e2, hD2⟩ := pv
      rw [show (ints_ sn).length = sn.length from List.length_map .., List.take_length] at hD2
      refine ⟨D, _, rfl, .inl (.inl (.inl hD2)), _, _, rfl, rfl, k _ _ (e1.trans e2) ?_⟩
      rw [decide_eq_true_eq]
      constructor
      · intro h
        have h : (0 : Int) < (((ints_ (sn.filter fun b => decide (b ∈ lot))).length : Nat) : Int) := h
        rw [show (ints_ (sn.filter fun b => decide (b ∈ lot))).length = (sn.filter fun b => decide (b ∈ lot)).length from List.length_map ..] at h
        have hp : 0 < (sn.filter fun b => decide (b ∈ lot)).length := by omega
        obtain ⟨x, hx⟩ := List.exists_mem_of_length_pos hp
        obtain ⟨x1, x2⟩ := List.mem_filter.mp hx
        exact ⟨x, of_decide_eq_true x2, (iff x).mp x1⟩
      · rintro ⟨x, x1, x2⟩
        have hp : 0 < (sn.filter fun b => decide (b ∈ lot)).length := List.length_pos_of_mem (List.mem_filter.mpr ⟨(iff x).mpr x2, decide_eq_true x1⟩)
        show (0 : Int) < (((ints_ (sn.filter fun b => decide (b ∈ lot))).length : Nat) : Int)
        rw [show (ints_ (sn.filter fun b => decide (b ∈ lot))).length = (sn.filter fun b => decide (b ∈ lot)).length from List.length_map ..]
        omega
theorem mm_edge {n : Nat} {es : List (Nat × Nat)} (ok : LandOk n es) (b c : Nat) : (min b c, max b c) ∈ es ↔ edge es c b := by
  unfold edge
  rcases Nat.le_total b c with h | h
  · rw [Nat.min_eq_left h, Nat.max_eq_right h]
    refine ⟨.inr, fun z => z.elim (fun z => ?_) id⟩
    have q := (ok.lt _ z).1
    have q : c < b := q
    omega
  · rw [Nat.min_eq_right h, Nat.max_eq_left h]
    refine ⟨.inl, fun z => z.elim id fun z => ?_⟩
    have q := (ok.lt _ z).1
    have q : b < c := q
    omega
/-! _law_says, _law_mixed -/
theorem al {H : Hp} {o : HO} {b : Addr} (nb : H b = none) : Same H (upd H b o) := same_new (Same.refl H) nb
theorem n200 {n : Nat} (h : n ≤ 5) : ((n : Nat) : Int) < 2 ^ 200 := by
  have : (5 : Int) < 2 ^ 200 := by decide
  omega
theorem iteB {b : Bool} {p q : Prop} (h1 : b = true → p) (h2 : b = false → q) : if b = true then p else q := by
  cases b with
  | true => exact h1 rfl
  | false => exact h2 rfl
def spSays : Sp := fun vs H Q _ => ∃ b d : Bool, vs = [.bl b, .bl d] ∧ Q (.bl (decide (b = d))) H
theorem ok_says {f : Addr} {fd : FuncData} (F : Fun K "_law_says" "_law_says" s__law_says f fd) : FnOk P w K mg base CX0 1 f fd ["_law_answer", "_law_due"] spSays := by
  refine F.ok sc__law_says (fun vs H Q E h => ?_) (fun cdv A outer s H vs Q E hr h => ?_)
  · obtain ⟨b, d, rfl, _⟩ := h
    rfl
  · obtain ⟨b, d, rfl, q⟩ := h
    refine ⟨_, (pss_one (ps_ret (pe_ifExp (pt_val (pv 1)) (pe_cmpR op_isBl (pv 0) pe_bl (nomark _)) (pe_cmpR op_isBl (pv 0) pe_bl (nomark _))))), ?_⟩
    refine ⟨_, rfl, d, rfl, iteB (fun t => ?_) (fun t => ?_)⟩
    · subst t
      exact ⟨_, rfl, _, _, rfl, rfl, q⟩
    · subst t
      exact ⟨_, rfl, _, _, rfl, rfl, q⟩
def spMixed : Sp := fun vs H Q _ => ∃ (h c t : Addr) (lot : List Nat), vs = [.ref h, .ref t] ∧ Hand H h c ∧ H t = some (.tup (ints_ lot)) ∧ lot.length ≤ 5 ∧ ∀ H' R row, Stay h c H H' → H R = none → H' R = some (.lst (ints_ row)) → row.Perm lot → Q (.ref R) H'
theorem ok_mixed {f fdr : Addr} {fd fddr : FuncData} (F : Fun K "_law_mixed" "_law_mixed" s__law_mixed f fd)
    (Gdr : FnOk P w K mg base CX0 2 fdr fddr ["_law_hand_here", "_law_many"] spDraw) (gdr : mg "_law_draw" = some (.ref fdr)) (kdr : PySem.W.keepIn K (.ref fdr) = true) (bdr : Binds K fddr ["_law_hand_here", "_law_many"] [])
    (m_range : mg "range" = none) (m_len : mg "len" = none) (m_list : mg "list" = none) : FnOk P w K mg base CX0 3 f fd ["_law_hand_here", "_law_lot"] spMixed := by
  refine F.ok sc__law_mixed (fun vs H Q E h => ?_) (fun cdv A outer s H vs Q E hr h => ?_)
  · obtain ⟨h, c, t, lot, rfl, _⟩ := h
    rfl
  · obtain ⟨h, c, t, lot, rfl, hh, ht, l5, q⟩ := h
    refine ⟨_, (pss_cons (ps_set (i := 2) sc__law_mixed.nd rfl (by first | exact Or.inl rfl | exact Or.inr rfl) (pe_callTy call_list_of (by rfl) m_list boot_list (pa_cons (pv 1) pa_nil)))
 (pss_cons (ps_set (i := 3) sc__law_mixed.nd rfl (by first | exact Or.inl rfl | exact Or.inr rfl) (pe_lst pa_nil))
 (pss_cons (ps_for PassesOwn.never rfl (pi_range1 rfl m_range (pa_cons (pe_callB call_len_seq (by rfl) m_len boot_len (pa_cons (pv 1) pa_nil)) pa_nil)) (pg_name (i := 4) sc__law_mixed.nd rfl (by first | exact Or.inl rfl | exact Or.inr rfl))
  (pss_one (ps_expr (pe_bm PySem.F.plainAttrs_list PySem.F.slot_list_append PySem.F.type_list_append mt_append (pv 3) (pa_cons (pe_bm PySem.F.plainAttrs_list PySem.F.slot_list_pop PySem.F.type_list_pop mt_popAt (pv 2) (pa_cons (pe_call Gdr (hr.mono (by decide)) (by rfl) gdr kdr bdr .nil pass0 (pa_cons (pv 0) (pa_cons (pe_callB call_len_seq (by rfl) m_len boot_len (pa_cons (pv 2) pa_nil)) pa_nil))) pa_nil)) pa_nil)))))
 (pss_one (ps_ret (pv 3)))))), ?_⟩
    have il : ∀ l : List Nat, (ints_ l).length = l.length := fun l => List.length_map ..
    refine ⟨_, rfl, t, _, rfl, .inr (.inl (.inl ht)), fun Lf nL => ?_⟩
    have e1 := al (o := .lst (ints_ lot)) nL
    have hL1 : upd H Lf (.lst (ints_ lot)) Lf = some (.lst (ints_ lot)) := upd_same
    obtain ⟨hLh, hLc⟩ := hh.ne nL
    generalize upd H Lf (.lst (ints_ lot)) = H1 at e1 hL1 ⊢
    refine ⟨by show 0 ≤ sizeLine; decide, fun R nR => ?_⟩
    have nR0 := e1.free nR
    obtain ⟨hRh, hRc⟩ := hh.ne nR0
    have e2 := al (o := .lst []) nR
    have nLR : Lf ≠ R := ne_of_none hL1 nR
    have hL2 := e2 _ _ hL1
    have hR2 : upd H1 R (.lst []) R = some (.lst []) := upd_same
    have e12 := e1.trans e2
    generalize upd H1 R (.lst []) = H2 at e2 hL2 hR2 e12 ⊢
    refine ⟨_, rfl, t, _, rfl, .inr (.inl (.inl (e12 _ _ ht))), _, rfl, by rw [il]; omega, by rw [il]; omega, for_range (lo := 0) (n := (ints_ lot).length) (fun k τ H' => k ≤ lot.length ∧ ∃ (nm lf : List Nat) (y4 : Option V), τ = [some (.ref h), some (.ref t), some (.ref Lf), some (.ref R), y4] ∧ Stay h c H H' ∧ H' R = some (.lst (ints_ nm)) ∧ H' Lf = some (.lst (ints_ lf)) ∧ (nm ++ lf).Perm lot ∧ nm.length = k)
        ⟨Nat.zero_le _, [], lot, none, rfl, .of_same hh e12, hR2, hL2, List.Perm.refl _, rfl⟩ (fun k τ H' hk pv => ?_) (fun τ H' pv => ?_)⟩
    · obtain ⟨_, nm, lf, y4, rfl, st, hN, hL, hp, hl⟩ := pv
      rw [il] at hk
      have hll : lf.length = lot.length - k := by
        have := hp.length_eq
        rw [List.length_append] at this
        omega
      refine ⟨_, rfl, .inl ⟨rfl, _, .inl (.inl hN)⟩, _, rfl, .inl ⟨rfl, _, .inl (.inl hL)⟩, _, rfl, _, rfl, Lf, _, rfl, .inl (.inl (.inl hL)), h, c, _, rfl, st.hand, by rw [il]; omega, ?_, fun H4 x d x0 x1 => ?_⟩
      · rw [il]
        exact n200 (by omega)
      obtain ⟨j, rfl⟩ : ∃ j : Nat, x = (j : Int) := ⟨x.toNat, by omega⟩
      have hj : j < lf.length := by rw [il] at x1; omega
      have hN4 : H4 R = some (.lst (ints_ nm)) := by rw [d.but R hRh]; exact hN
      have hL4 : H4 Lf = some (.lst (ints_ lf)) := by rw [d.but Lf hLh]; exact hL
      refine ⟨Lf, _, _, j, .int (lf[j] : Nat), rfl, rfl, hL4, by omega, by omega, (ixN_seq (ixN_nat (by rw [il]; omega))).1, ?_, ?_⟩
      · unfold ints_
        rw [List.getElem?_map, List.getElem?_eq_getElem hj]
        rfl
      have hN5 : upd H4 Lf (.lst ((ints_ lf).eraseIdx j)) R = some (.lst (ints_ nm)) := by rw [upd_ne nLR.symm]; exact hN4
      refine ⟨R, _, _, rfl, rfl, hN5, by rw [il]; exact small1000 (by omega), ?_⟩
      refine ⟨by omega, nm ++ [lf[j]], lf.eraseIdx j, _, rfl, ⟨fun b o nb hb => ?_, hh, ((d.hand.upd hLh hLc).upd hRh hRc)⟩, ?_, ?_, (KL.pop_perm hj).trans hp, by rw [List.length_append, hl]; rfl⟩
      · rw [upd_ne (ne_of_none hb nR0), upd_ne (ne_of_none hb nL), d.but b nb]
        exact st.but b o nb hb
      · rw [upd_same]
        unfold ints_
        rw [List.map_append]
        rfl
      · rw [upd_ne nLR, upd_same]
        unfold ints_
        rw [map_erase]
    · obtain ⟨_, nm, lf, y4, rfl, st, hN, hL, hp, hl⟩ := pv
      rw [il] at hl
      have l0 : lf = [] := by
        have := hp.length_eq
        rw [List.length_append] at this
        exact List.length_eq_zero_iff.mp (by omega)
      subst l0
      rw [List.append_nil] at hp
      exact ⟨_, rfl, q _ R nm st nR0 hN hp⟩
end
end K7
end
/-! ## P18 -/
section
open PySem PySem.Spec PyProof.Rows L2
namespace K7
abbrev N__law_ways : List Str := ["_law_land_here", "_law_cell", "_law_passing", "_law_ways_here", "_law_turn", "_law_found", "_law_way", "_law_grown", "_law_other"]
abbrev s__law_ways : Stmt := topS 35
theorem sc__law_ways : FnScope ["_law_land_here", "_law_cell", "_law_passing", "_law_ways_here", "_law_turn", "_law_found", "_law_way", "_law_grown", "_law_other"] ["_law_land_here", "_law_cell", "_law_passing"] (defScope s__law_ways) := ⟨rfl, rfl, rfl, by decide +kernel, rfl, by decide +kernel, by decide +kernel⟩
open KW2
section
variable {P : Program} {w : World} {K : PySem.W.Frag} {mg : Str → Option Value} {base : Heap}
def eb (es : List (Nat × Nat)) (a b : Nat) : Bool := decide ((min a b, max a b) ∈ es)
theorem eb_edge {n : Nat} {es : List (Nat × Nat)} (ok : LandOk n es) (a b : Nat) : eb es a b = true ↔ edge es a b := by
  unfold eb
  rw [decide_eq_true_eq, mm_edge ok]
  exact ⟨fun h => h.symm, fun h => h.symm⟩
/-- all ways to a road cell of the fewest cells -/
def WaysOk (es : List (Nat × Nat)) (lot ps : List Nat) (c : Nat) (ws : List (List Nat)) : Prop :=
  (ws = [] ∧ ∀ w a, Wy (edge es) ps c w a → a ∉ lot) ∨ (ws ≠ [] ∧ ∃ L, (∀ w, w ∈ ws ↔ (∃ a, Wy (edge es) ps c w a ∧ a ∈ lot) ∧ w.length = L) ∧ ∀ w a, Wy (edge es) ps c w a → a ∈ lot → L ≤ w.length)
def spWays : Sp := fun vs H Q _ => ∃ (q : Addr) (n : Nat) (es : List (Nat × Nat)) (lot : List Nat) (c : Nat) (pa : Addr) (ps : List Nat), vs = [.ref q, .int (c : Nat), .ref pa] ∧ LandAt H q n es lot ∧ n ≤ 5 ∧ c < n ∧ H pa = some (.lst (ints_ ps)) ∧ (∀ x ∈ ps, x < n) ∧ ps.Nodup ∧
  ∀ H' R us ws, Same H H' → H R = none → H' R = some (.lst (us.map V.ref)) → TAt H' us ws → WaysOk es lot ps c ws → ws.length ≤ 10000 → (∀ w ∈ ws, w.length ≤ 5) → Q (.ref R) H'
theorem eqv_lnil (xs : List PyData) : PyData.eqv (.list xs) (.list []) = xs.isEmpty := by
  cases xs with
  | nil => simp [PyData.eqv, PyData.eqvAll]
  | cons x r => simp [PyData.eqv, PyData.eqvAll]
theorem row_len {H : Hp} {us : List Addr} {ls : List (List Nat)} (h : TAt H us ls) : (us.map V.ref).length = ls.length := by rw [List.length_map, h.len]
theorem ok_ways {f : Addr} {fd : FuncData} (F : Fun K "_law_ways" "_law_ways" s__law_ways f fd) (m_range : mg "range" = none) (m_list : mg "list" = none) (m_min : mg "min" = none) (m_max : mg "max" = none) : FnOk P w K mg base CX0 1 f fd ["_law_land_here", "_law_cell", "_law_passing"] spWays := by
  refine F.ok sc__law_ways (fun vs H Q E h => ?_) (fun cdv A outer s H vs Q E hr h => ?_)
  · obtain ⟨q, n, es, lot, c, pa, ps, rfl, _⟩ := h
    rfl
  · obtain ⟨q, n, es, lot, c, pa, ps, rfl, L, n5, hc, hpa, plt, pnd, k⟩ := h
    refine ⟨_, (pss_cons (ps_set (i := 3) sc__law_ways.nd rfl (by first | exact Or.inl rfl | exact Or.inr rfl) (pe_lst (pa_cons (pe_tup (pa_cons (pv 1) pa_nil)) pa_nil)))
 (pss_cons (ps_for PassesOwn.never rfl (pi_range1 rfl m_range (pa_cons (pe_ix ix_tup (pv 0) pe_int (fun _ _ => rfl)) pa_nil)) (pg_name (i := 4) sc__law_ways.nd rfl (by first | exact Or.inl rfl | exact Or.inr rfl))
  (pss_cons (ps_setLc (i := 5) (own := [("_law_way", 6)]) (g := gName 6) rfl sc__law_ways.nd rfl rfl (sw_true rfl rfl rfl (by decide +kernel)) (pi_list (pv 3)) (blkOk_by (own := [("_law_way", 6)]) (N := N__law_ways) (sc := defScope s__law_ways) (by decide +kernel)) (fun _ _ _ _ _ => (pg_name (i := 6) sc__law_ways.nd rfl (by first | exact Or.inl rfl | exact Or.inr rfl))) (fun _ _ _ _ _ => (pts_one (pt_cmpR (show OpR _ _ (rIn K false) from op_in_seq) (pe_ix (show IxR _ (rIxT K) from ix_tup) (pv 6) (pe_un un_neg pe_int) (fun _ _ => rfl)) (pe_ix (show IxR _ (rIxT K) from ix_tup) (pv 0) pe_int (fun _ _ => rfl)) (by with_unfolding_all rfl)))) (fun _ _ _ _ _ => (pv 6)))
 (pss_cons (ps_if (pt_cmpR (op_neD hr.units) (pv 5) (pe_lst pa_nil) (nomark _))
  (pss_one (ps_ret (pv 5)))
  pss_nil)
 (pss_cons (ps_set (i := 7) sc__law_ways.nd rfl (by first | exact Or.inl rfl | exact Or.inr rfl) (pe_lst pa_nil))
 (pss_cons (ps_for PassesOwn.never rfl (pi_list (pv 3)) (pg_name (i := 6) sc__law_ways.nd rfl (by first | exact Or.inl rfl | exact Or.inr rfl))
  (pss_one (ps_for PassesOwn.never rfl (pi_list (pv 2)) (pg_name (i := 8) sc__law_ways.nd rfl (by first | exact Or.inl rfl | exact Or.inr rfl))
  (pss_one (ps_if (pw_and (pt_cmpR op_notIn_seq (pv 8) (pv 6) (by with_unfolding_all rfl)) (pw_and1 (pt_cmpR (show OpR _ _ (rInD K) from op_inD (K7L.hu65 hr)) (pe_tup (pa_cons (pe_callB (call_min2 rfl) (by rfl) m_min boot_min (pa_cons (pe_ix (show IxR _ (rIxT K) from ix_tup) (pv 6) (pe_un un_neg pe_int) (fun _ _ => rfl)) (pa_cons (pv 8) pa_nil))) (pa_cons (pe_callB (call_max2 rfl) (by rfl) m_max boot_max (pa_cons (pe_ix (show IxR _ (rIxT K) from ix_tup) (pv 6) (pe_un un_neg pe_int) (fun _ _ => rfl)) (pa_cons (pv 8) pa_nil))) pa_nil))) (pe_ix (show IxR _ (rIxT K) from ix_tup) (pv 0) pe_int (fun _ _ => rfl)) (by with_unfolding_all rfl)))).pt
  (pss_one (ps_expr (pe_bm PySem.F.plainAttrs_list PySem.F.slot_list_append PySem.F.type_list_append mt_append (pv 7) (pa_cons (pe_op op_catT (pv 6) (pe_tup (pa_cons (pv 8) pa_nil))) pa_nil))))
  pss_nil)))))
 (pss_one (ps_set (i := 3) sc__law_ways.nd rfl (by first | exact Or.inl rfl | exact Or.inr rfl) (pe_callTy call_list_of (by rfl) m_list boot_list (pa_cons (pv 7) pa_nil)))))))))
 (pss_one (ps_ret (pe_lst pa_nil))))), ?_⟩
    obtain ⟨rA, sA, ts, h1, h2, h3, h4⟩ := L.at_
    have ok := L.ok
    have he := eb_edge ok
    have p5 : ps.length ≤ 5 := by
      have z := K7E.nodup_le ps (List.range n) pnd fun x hx => List.mem_range.mpr (plt x hx)
      rw [List.length_range] at z
      omega
    have lvi := fun t w => lvl_iff (ps := ps) (c := c) he t w
    have lvl5 : ∀ t, t ≤ 5 → (lvl (eb es) ps c t).length ≤ 3125 := fun t ht => Nat.le_trans (lvl_len (eb es) (c := c) p5 t ht) (by
      have z : (5 : Nat) ^ t ≤ 5 ^ 5 := Nat.pow_le_pow_right (by decide) ht
      exact z)
    have wy5 : ∀ {w a}, Wy (edge es) ps c w a → w.length ≤ n := fun {w a} h => by
      have z := K7E.nodup_le w (List.range n) h.nodup fun x hx => List.mem_range.mpr (h.lt hc plt x hx)
      rw [List.length_range] at z
      exact z
    refine ⟨_, rfl, by show 1 ≤ sizeLine; decide, fun t0 nt0 => ⟨by show 1 ≤ sizeLine; decide, fun L0 nL0 => ?_⟩⟩
    have e1 := (al (o := .tup [.int (c : Nat)]) nt0).trans (al (o := .lst [.ref t0]) nL0)
    have hL0 : upd (upd H t0 (.tup [.int (c : Nat)])) L0 (.lst [.ref t0]) L0 = some (.lst [.ref t0]) := upd_same
    have ht0 := al (o := .lst [.ref t0]) nL0 _ _ (upd_same (H := H) (a := t0) (o := .tup [.int (c : Nat)]))
    generalize upd (upd H t0 (.tup [.int (c : Nat)])) L0 (.lst [.ref t0]) = H1 at e1 hL0 ht0 ⊢
    refine ⟨_, rfl, q, _, _, _, rfl, rfl, .inl (.inl (e1 _ _ h1)), atI_nat (j := 0) rfl, ?_⟩
    refine ⟨_, rfl, by omega, by omega, for_range (lo := 0) (n := n) (fun i τ H' => ∃ (La : Addr) (us : List Addr) (y4 y5 y6 y7 y8 : Option V), τ = [some (.ref q), some (.int (c : Nat)), some (.ref pa), some (.ref La), y4, y5, y6, y7, y8] ∧ Same H H' ∧ H' La = some (.lst (us.map V.ref)) ∧ TAt H' us (lvl (eb es) ps c i) ∧ ∀ s, s < i → ∀ w ∈ lvl (eb es) ps c s, lastN w ∉ lot)
      ⟨L0, [t0], none, none, none, none, none, rfl, e1, hL0, .cons ht0 .nil, fun s hs => absurd hs (Nat.not_lt_zero _)⟩ (fun i τ H' hi pv => ?_) (fun τ H' pv => ?_)⟩
    · obtain ⟨La, us, y4, y5, y6, y7, y8, rfl, e2, hLa, tL, low⟩ := pv
      have i5 : i ≤ 5 := by omega
      have ll := lvl5 i i5
      have lus := tL.len
      -- those that come to a road cell
      refine ⟨_, rfl, La, rfl, ⟨_, .inl (.inl hLa)⟩, fun D hD => lc_list (xs := us.map V.ref) (fun j H2 => Same H' H2 ∧ ∃ gs : List Addr, H2 D = some (.lst (gs.map V.ref)) ∧ TAt H2 gs (((lvl (eb es) ps c i).take j).filter fun w => decide (lastN w ∈ lot))) ⟨al hD, [], upd_same, .nil⟩ (fun j H2 _ pv => .inl (.inl (pv.1 _ _ hLa))) (fun j x H2 hx pv => ?_) (fun H2 pv => ?_)⟩
      · obtain ⟨e3, gs, hD2, tD⟩ := pv
        rw [List.getElem?_map] at hx
        obtain ⟨t, et, rfl⟩ := Option.map_eq_some_iff.mp hx
        obtain ⟨w, ew, ht⟩ := tL.get et
        obtain ⟨⟨a, wy⟩, wl⟩ := (lvi i w).mp (List.mem_of_getElem? ew)
        have ht2 := e3 _ _ ht
        have ft : ((lvl (eb es) ps c i).take (j + 1)).filter (fun w => decide (lastN w ∈ lot)) = ((lvl (eb es) ps c i).take j).filter (fun w => decide (lastN w ∈ lot)) ++ (if decide (lastN w ∈ lot) = true then [w] else []) := by
          rw [List.take_add_one, ew, List.filter_append]
          congr 1
          show List.filter _ [w] = _
          rw [List.filter_cons]
          rfl
        have lg : gs.length ≤ 3125 := by
          rw [tD.len]
          exact Nat.le_trans (List.length_filter_le _ _) (Nat.le_trans (by rw [List.length_take]; exact Nat.min_le_right ..) ll)
        refine ⟨rfl, _, rfl, _, rfl, t, _, _, _, rfl, rfl, .inl (.inl ht2), (last_end wy.wk.pos).1, ?_⟩
        refine ⟨_, rfl, q, _, _, _, rfl, rfl, .inl (.inl (e3 _ _ (e2 _ _ h1))), atI_nat (j := 2) rfl, ?_⟩
        refine ⟨sA, _, rfl, .inl (.inl (.inl (e3 _ _ (e2 _ _ h4)))), rfl, flat_ints lot, _, rfl, ?_⟩
        rw [show inV (.int ((lastN w : Nat) : Int)) (ints_ lot) = decide (lastN w ∈ lot) from inV_ints (lastN w) lot]
        by_cases hm : lastN w ∈ lot
        · rw [if_pos (decide_eq_true hm)] at ft
          rw [decide_eq_true hm]
          refine iteT ⟨_, rfl, _, hD2, by rw [List.length_map]; exact Nat.lt_of_le_of_lt lg (by decide), fun z o hz => ?_, gs ++ [t], by rw [upd_same, List.map_append]; rfl, ?_⟩
          · rw [upd_ne (ne_of_none hz hD)]
            exact e3 _ _ hz
          · have up : ∀ b xs, H2 b = some (.tup xs) → upd H2 D (.lst (gs.map V.ref ++ [.ref t])) b = some (.tup xs) := fun b xs hb => by
              rw [upd_ne (fun z => by rw [z, hD2] at hb; cases hb)]
              exact hb
            rw [ft]
            exact (tD.mono up).append (.cons (up _ _ ht2) .nil)
        · rw [if_neg (by rw [decide_eq_false hm]; decide), List.append_nil] at ft
          rw [decide_eq_false hm]
          refine iteF ⟨e3, gs, hD2, ?_⟩
          rw [ft]
          exact tD
      · obtain ⟨e3, gs, hD2, tD⟩ := pv
        rw [row_len tL, List.take_length] at tD
        have e23 := e2.trans e3
        have hDn : H D = none := e2.free hD
        have lg : gs.length ≤ 3125 := by
          rw [tD.len]
          exact Nat.le_trans (List.length_filter_le _ _) ll
        have fm : ∀ w, w ∈ (lvl (eb es) ps c i).filter (fun w => decide (lastN w ∈ lot)) ↔ (∃ a, Wy (edge es) ps c w a ∧ a ∈ lot) ∧ w.length = i + 1 := fun w => by
          rw [List.mem_filter, decide_eq_true_eq, lvi]
          constructor
          · rintro ⟨⟨⟨a, wy⟩, wl⟩, hm⟩
            rw [wy.wk.last] at hm
            exact ⟨⟨a, wy, hm⟩, wl⟩
          · rintro ⟨⟨a, wy, hm⟩, wl⟩
            exact ⟨⟨⟨a, wy⟩, wl⟩, by rw [wy.wk.last]; exact hm⟩
        have low2 : ∀ w a, Wy (edge es) ps c w a → a ∈ lot → i + 1 ≤ w.length := fun w a wy ha => Nat.not_lt.mp fun hlt => by
          have pos := wy.wk.pos
          refine low (w.length - 1) (by omega) w ((lvi _ _).mpr ⟨⟨a, wy⟩, by omega⟩) ?_
          rw [wy.wk.last]
          exact ha
        refine ⟨_, rfl, by show 0 ≤ sizeLine; decide, fun z nz => ?_⟩
        have e4 := al (o := .lst []) nz
        refine ⟨.list (((lvl (eb es) ps c i).filter (fun w => decide (lastN w ∈ lot))).map intD), .list [], .lst (.inl (.inl (e4 _ _ hD2))) (dp_rows (tD.same e4)), .lst (.inl (.inl upd_same)) .nil, shaped_rows _, shaped_rows [], _, rfl, ?_⟩
        rw [eqv_lnil]
        generalize hfd : (lvl (eb es) ps c i).filter (fun w => decide (lastN w ∈ lot)) = fd at tD fm
        have e5 := e23.trans e4
        have hD4 := e4 _ _ hD2
        have tD4 := tD.same e4
        have e24 := e3.trans e4
        have hLa4 := e24 _ _ hLa
        have tL4 := tL.same e24
        generalize upd H2 z (.lst []) = H4 at e4 e5 hD4 tD4 e24 hLa4 tL4 ⊢
        cases fd with
        | cons w0 wr =>
          refine iteT ⟨_, rfl, k H4 D gs (w0 :: wr) e5 hDn hD4 tD4 (.inr ⟨(by intro e; cases e), i + 1, fm, low2⟩) ?_ fun w hw => ?_⟩
          · rw [← tD.len]; omega
          · have := ((fm w).mp hw).2
            omega
        | nil =>
          refine iteF ?_
          -- all ways grow
          refine ⟨by show 0 ≤ sizeLine; decide, fun G nG => ?_⟩
          have e6 := al (o := .lst []) nG
          have hG6 : upd H4 G (.lst []) G = some (.lst []) := upd_same
          have e26 := e5.trans e6
          have hGn : H G = none := e5.free nG
          have hLa6 := e6 _ _ hLa4
          have tL6 := tL4.same e6
          have nLG : La ≠ G := ne_of_none hLa4 nG
          have npG : pa ≠ G := ne_of_none (e5 _ _ hpa) nG
          generalize upd H4 G (.lst []) = H6 at e6 hG6 e26 hLa6 tL6 ⊢
          refine ⟨_, rfl, La, rfl, ⟨_, .inl (.inl hLa6)⟩, for_list (xs := us.map V.ref) (fun j τ H7 => ∃ (gs : List Addr) (y6 y8 : Option V), τ = [some (.ref q), some (.int (c : Nat)), some (.ref pa), some (.ref La), some (.int (0 + ((i : Nat) : Int))), some (.ref D), y6, some (.ref G), y8] ∧ But G H6 H7 ∧ H7 G = some (.lst (gs.map V.ref)) ∧ TAt H7 gs (((lvl (eb es) ps c i).take j).flatMap (grow (eb es) ps)))
            ⟨[], y6, y8, rfl, fun b o _ hb => hb, hG6, .nil⟩ (fun j τ H7 _ pv => ?_) (fun j x τ H7 hx pv => ?_) (fun τ H7 pv => ?_)⟩
          · obtain ⟨gs, y6, y8, rfl, bt, _⟩ := pv
            exact .inl (.inl (bt _ _ nLG hLa6))
          · obtain ⟨gs, y6, y8, rfl, bt, hG7, tG⟩ := pv
            rw [List.getElem?_map] at hx
            obtain ⟨t, et, rfl⟩ := Option.map_eq_some_iff.mp hx
            obtain ⟨w, ew, ht⟩ := tL6.get et
            obtain ⟨⟨a, wy⟩, wl⟩ := (lvi i w).mp (List.mem_of_getElem? ew)
            have tk : (lvl (eb es) ps c i).take (j + 1) = (lvl (eb es) ps c i).take j ++ [w] := by rw [List.take_add_one, ew]; rfl
            have sm : ∀ {H' : Hp} {b : Addr} {o : HO}, But G H6 H' → H b = some o → H' b = some o := fun {H' b o} bt hb => bt b o (ne_of_none hb hGn) (e26 _ _ hb)
            have tup6 : ∀ {H' : Hp} {b : Addr} {xs : List V}, But G H6 H' → H6 b = some (.tup xs) → H' b = some (.tup xs) := fun {H' b xs} bt hb => bt b _ (fun z => by rw [z, hG6] at hb; cases hb) hb
            have lgj : gs.length ≤ 15625 := by
              rw [tG.len]
              refine Nat.le_trans (flat_len (eb es) ps _) ?_
              refine Nat.le_trans (Nat.mul_le_mul (Nat.le_trans (by rw [List.length_take]; exact Nat.min_le_right ..) ll) p5) (by decide)
            refine ⟨_, rfl, pa, rfl, ⟨_, .inl (.inl (sm bt hpa))⟩, for_list (xs := ints_ ps) (fun m τ H8 => ∃ (gs : List Addr) (y8 : Option V), τ = [some (.ref q), some (.int (c : Nat)), some (.ref pa), some (.ref La), some (.int (0 + ((i : Nat) : Int))), some (.ref D), some (.ref t), some (.ref G), y8] ∧ But G H6 H8 ∧ H8 G = some (.lst (gs.map V.ref)) ∧ TAt H8 gs (((lvl (eb es) ps c i).take j).flatMap (grow (eb es) ps) ++ grow (eb es) (ps.take m) w))
              ⟨gs, y8, rfl, bt, hG7, by rw [show grow (eb es) (ps.take 0) w = [] from rfl, List.append_nil]; exact tG⟩ (fun m τ H8 _ pv => ?_) (fun m x τ H8 hx pv => ?_) (fun τ H8 pv => ?_)⟩
            · obtain ⟨gs, y8, rfl, bt8, _⟩ := pv
              exact .inl (.inl (sm bt8 hpa))
            · obtain ⟨gs, y8, rfl, bt8, hG8, tG8⟩ := pv
              unfold ints_ at hx
              rw [List.getElem?_map] at hx
              obtain ⟨o, eo, rfl⟩ := Option.map_eq_some_iff.mp hx
              have ht8 := tup6 bt8 ht
              have gk : grow (eb es) (ps.take (m + 1)) w = grow (eb es) (ps.take m) w ++ (if (!decide (o ∈ w) && eb es (lastN w) o) = true then [w ++ [o]] else []) := by
                unfold grow
                rw [List.take_add_one, eo, List.filter_append, List.map_append]
                congr 1
                show List.map _ (List.filter _ [o]) = _
                rw [List.filter_cons]
                split
                · rfl
                · rfl
              have lg8 : gs.length ≤ 15630 := by
                rw [tG8.len, List.length_append]
                have z1 := Nat.le_trans (flat_len (eb es) ps ((lvl (eb es) ps c i).take j)) (Nat.le_trans (Nat.mul_le_mul (Nat.le_trans (by rw [List.length_take]; exact Nat.min_le_right ..) ll) p5) (show 3125 * 5 ≤ 15625 by decide))
                have z2 := Nat.le_trans (grow_len (eb es) (ps.take m) w) (show (ps.take m).length ≤ 5 by rw [List.length_take]; omega)
                omega
              refine ⟨_, rfl, _, rfl, t, _, rfl, .inr (.inl (.inl ht8)), rfl, flat_ints w, _, rfl, ite2 (fun c1 => ?_) (fun c1 => ?_)⟩
              · have c1' : o ∉ w := fun hb => by
                  have z : (!inV (.int (o : Nat)) (ints_ w)) = true := c1
                  rw [inV_ints, decide_eq_true hb] at z
                  cases z
                refine ⟨_, rfl, _, rfl, t, _, _, _, rfl, rfl, .inl (.inl ht8), (last_end wy.wk.pos).1, _, rfl, _, _, rfl, _, rfl, _, rfl, t, _, _, _, rfl, rfl, .inl (.inl ht8), (last_end wy.wk.pos).1, _, rfl, _, _, rfl, by show 2 ≤ sizeLine; decide, fun u nu => ?_⟩
                have em : (if ((o : Nat) : Int) < ((lastN w : Nat) : Int) then ((o : Nat) : Int) else ((lastN w : Nat) : Int)) = ((min (lastN w) o : Nat) : Int) := by split <;> omega
                have ex : (if ((o : Nat) : Int) > ((lastN w : Nat) : Int) then ((o : Nat) : Int) else ((lastN w : Nat) : Int)) = ((max (lastN w) o : Nat) : Int) := by split <;> omega
                rw [em, ex]
                have sT := al (o := .tup [.int ((min (lastN w) o : Nat) : Int), .int ((max (lastN w) o : Nat) : Int)]) nu
                have sT' : ∀ {b : Addr} {o' : HO}, H b = some o' → upd H8 u (.tup [.int ((min (lastN w) o : Nat) : Int), .int ((max (lastN w) o : Nat) : Int)]) b = some o' := fun {b o'} hb => sT _ _ (sm bt8 hb)
                have h3T : TAt (upd H8 u (.tup [.int ((min (lastN w) o : Nat) : Int), .int ((max (lastN w) o : Nat) : Int)])) ts (pairs es) := h3.mono fun b xs hb => sT' hb
                refine ⟨_, rfl, q, _, _, _, rfl, rfl, .inl (.inl (sT' h1)), atI_nat (j := 1) rfl, ?_⟩
                refine ⟨intD [min (lastN w) o, max (lastN w) o], _, .tup (xs := [.int ((min (lastN w) o : Nat) : Int), .int ((max (lastN w) o : Nat) : Int)]) (.inl (.inl upd_same)) (dp_ints [min (lastN w) o, max (lastN w) o]), .lst (.inl (.inl (sT' h2))) (dp_rows h3T), shaped_ints _, shaped_rows _, ?_⟩
                rw [any_rows]
                have hG9 := sT _ _ hG8
                have ht9 := sT _ _ ht8
                have bt9 : But G H6 (upd H8 u (.tup [.int ((min (lastN w) o : Nat) : Int), .int ((max (lastN w) o : Nat) : Int)])) := fun b o' nb hb => sT _ _ (bt8 b o' nb hb)
                have tG9 := tG8.same sT
                generalize upd H8 u (.tup [.int ((min (lastN w) o : Nat) : Int), .int ((max (lastN w) o : Nat) : Int)]) = H9 at hG9 ht9 bt9 tG9 ⊢
                refine ⟨_, rfl, ite2 (fun c2 => ?_) (fun c2 => ?_)⟩
                · have c2' : eb es (lastN w) o = true := c2
                  rw [if_pos (by rw [decide_eq_false c1', c2'] <;> rfl)] at gk
                  refine ⟨_, rfl, .inl ⟨rfl, _, .inl (.inl hG9)⟩, _, rfl, _, rfl, by show 1 ≤ sizeLine; decide, fun t1 nt1 => ?_⟩
                  have a1 := al (o := .tup [.int (o : Nat)]) nt1
                  have ht1 : upd H9 t1 (.tup [.int (o : Nat)]) t1 = some (.tup [.int (o : Nat)]) := upd_same
                  generalize upd H9 t1 (.tup [.int (o : Nat)]) = H10 at a1 ht1 ⊢
                  refine ⟨t, t1, ints_ w, [.int (o : Nat)], rfl, rfl, .inl (.inl (a1 _ _ ht9)), .inl (.inl ht1), (fun e => ?_), by unfold ints_; rw [List.length_map]; exact Nat.le_trans (show w.length + 1 ≤ 7 by omega) (by decide), (fun e => nomatch e), fun _ t2 nt2 => ?_⟩
                  · have z := congrArg List.length e
                    unfold ints_ at z
                    rw [List.length_map, wl] at z
                    cases z
                  have a2 := al (o := .tup (ints_ w ++ [.int (o : Nat)])) nt2
                  have hv : upd H10 t2 (.tup (ints_ w ++ [.int (o : Nat)])) t2 = some (.tup (ints_ (w ++ [o]))) := by rw [upd_same]; unfold ints_; rw [List.map_append]; rfl
                  generalize upd H10 t2 (.tup (ints_ w ++ [.int (o : Nat)])) = H11 at a2 hv ⊢
                  have a12 := a1.trans a2
                  have hG11 := a12 _ _ hG9
                  refine ⟨G, _, _, rfl, rfl, hG11, by rw [List.length_map]; exact Nat.lt_of_le_of_lt lg8 (by decide), ?_⟩
                  have up : ∀ b xs, H11 b = some (.tup xs) → upd H11 G (.lst (gs.map V.ref ++ [.ref t2])) b = some (.tup xs) := fun b xs hb => by
                    rw [upd_ne (fun z => by rw [z, hG11] at hb; cases hb)]
                    exact hb
                  refine ⟨gs ++ [t2], _, rfl, fun b o' nb hb => by rw [upd_ne nb]; exact a12 _ _ (bt9 b o' nb hb), by rw [upd_same, List.map_append]; rfl, ?_⟩
                  rw [gk, ← List.append_assoc]
                  exact ((tG9.same a12).mono up).append (.cons (up _ _ hv) .nil)
                · have c2' : eb es (lastN w) o = false := Bool.eq_false_iff.mpr c2
                  rw [if_neg (by rw [c2', Bool.and_false]; decide), List.append_nil] at gk
                  refine ⟨gs, _, rfl, bt9, hG9, ?_⟩
                  rw [gk]
                  exact tG9
              · have c1' : o ∈ w := Classical.byContradiction fun hb => c1 (by
                  show (!inV (.int (o : Nat)) (ints_ w)) = true
                  rw [inV_ints, decide_eq_false hb]
                  rfl)
                rw [if_neg (by rw [decide_eq_true c1', Bool.not_true, Bool.false_and]; decide), List.append_nil] at gk
                refine iteF ⟨gs, _, rfl, bt8, hG8, ?_⟩
                rw [gk]
                exact tG8
            · obtain ⟨gs, y8, rfl, bt8, hG8, tG8⟩ := pv
              rw [show (ints_ ps).length = ps.length from List.length_map .., List.take_length] at tG8
              refine ⟨gs, _, _, rfl, bt8, hG8, ?_⟩
              rw [tk, List.flatMap_append]
              simpa using tG8
          · obtain ⟨gs, y6, y8, rfl, bt, hG7, tG⟩ := pv
            rw [row_len tL, List.take_length] at tG
            refine ⟨_, rfl, G, _, rfl, .inl (.inl (.inl hG7)), fun M nM => ?_⟩
            have e8 := al (o := .lst (gs.map V.ref)) nM
            refine ⟨M, gs, _, _, _, _, _, rfl, fun b o hb => e8 _ _ (bt b o (ne_of_none hb hGn) (e26 _ _ hb)), upd_same, tG.same e8, fun s hs w hw hm => ?_⟩
            rcases Nat.lt_or_ge s i with lt | ge
            · exact low s lt w hw hm
            · obtain rfl : s = i := by omega
              have z : w ∈ (lvl (eb es) ps c s).filter (fun w => decide (lastN w ∈ lot)) := List.mem_filter.mpr ⟨hw, decide_eq_true hm⟩
              rw [hfd] at z
              cases z
    · obtain ⟨La, us, y4, y5, y6, y7, y8, rfl, e2, hLa, tL, low⟩ := pv
      refine ⟨by show 0 ≤ sizeLine; decide, fun R nR => ?_⟩
      refine k _ R [] [] (e2.trans (al nR)) (e2.free nR) upd_same .nil (.inl ⟨rfl, fun w a wy ha => ?_⟩) (Nat.zero_le _) (fun w hw => nomatch hw)
      have pos := wy.wk.pos
      have le := wy5 wy
      refine low (w.length - 1) (by omega) w ((lvi _ _).mpr ⟨⟨a, wy⟩, by omega⟩) ?_
      rw [wy.wk.last]
      exact ha
end
end K7
end
/-! ## E3 -/
section
namespace PySem
open PySem PySem.Spec PyProof.Rows
theorem k7_meets_enumerate_newT (l : Addr) (items : Array Value) (n : Nat) (dct : Option Addr) (sl : Array (Option Value)) :
    Meets (Builtin.«enumerate.__new__» ⟨[.type "enumerate", .ref l], []⟩) (fun _ R s => s.heap.get? l = some { cls := .type "tuple", dict := dct, data := .seq items n, slots := sl } ∧
      R (.ok (.ret (.ref (s.heap.push { cls := .type "tuple_iterator", data := .fields #[.ref l, .int 0 0] }).objs.size)))
        { s with heap := (s.heap.push { cls := .type "tuple_iterator", data := .fields #[.ref l, .int 0 0] }).push { cls := .type "enumerate", data := .fields #[.none, .bool false, .ref s.heap.objs.size, rawInt 0, .none, .none] } }) :=
  .of_wp fun prog w A R s h => by
    obtain ⟨hp, g, d, tk, os⟩ := s; obtain ⟨hl, h⟩ := h
    have hsub := sub_enumerate
    have hL : Heap.IsTuple (Shared.heap ⟨hp, g, d, tk, os⟩) l items := ⟨_, hl, rfl, n, rfl⟩
    wp_walk using AutoSeq1.wpAny_loadPart' hl
    refine wpAny_stack_any fun st => wpAny_pure ?_
    split
    · rename_i c _ _ _ _ _
      cases (c == Value.type "enumerate")
      · wp_walk using AutoSeq1.wpAny_loadPart' hl, wpAny_pyIter_tuple hL
        exact ⟨_, rfl, h⟩
      · wp_walk using AutoSeq1.wpAny_loadPart' hl, wpAny_pyIter_tuple hL
        exact ⟨_, rfl, h⟩
    · wp_walk using AutoSeq1.wpAny_loadPart' hl, wpAny_pyIter_tuple hL
      exact ⟨_, rfl, h⟩
theorem k7_call_enumerate_tuple {prog : Program} {w : World} {A : Around} {E : Value → Shared → Prop} {s : Shared} {l : Addr} {items : Array Value} {Q : Value → Shared → Prop} (hL : s.heap.IsTuple l items)
    (h : ∀ h', IsEnum h' (s.heap.objs.size + 1) s.heap.objs.size 0 .none → h'.IsTupleIter s.heap.objs.size l 0 → h'.objs.size = s.heap.objs.size + 2 →
      (∀ b o, s.heap.get? b = some o → h'.get? b = some o) → Q (.ref (s.heap.objs.size + 1)) { s with heap := h' }) :
    wpAny (model prog w) A (call (.type "enumerate") [.ref l]) Q E s := by
  obtain ⟨⟨c, dct, dt, sl⟩, hl, hc, n, hd⟩ := hL
  replace hc : c = .type "tuple" := hc
  replace hd : dt = .seq items n := hd
  subst hc hd
  refine callType_new F.called_enumerate (by decide) (F.typeCall_enumerate_1 _) (F.newCall_enumerate_1 _) (fun obj => F.args_object_init_2 obj _) F.entry_enumerate_new
    (k7_meets_enumerate_newT l items n dct sl) ⟨hl, ?_⟩
  have hz : (s.heap.push { cls := .type "tuple_iterator", data := .fields #[.ref l, .int 0 0] }).objs.size = s.heap.objs.size + 1 := Heap.size_push ..
  show _ ∧ _
  rw [hz]
  have he : IsEnum ((s.heap.push { cls := .type "tuple_iterator", data := .fields #[.ref l, .int 0 0] }).push
      { cls := .type "enumerate", data := .fields #[.none, .bool false, .ref s.heap.objs.size, rawInt 0, .none, .none] }) (s.heap.objs.size + 1) s.heap.objs.size 0 .none := by
    have := Heap.get?_push_size (s.heap.push { cls := .type "tuple_iterator", data := .fields #[.ref l, .int 0 0] })
      (o := { cls := .type "enumerate", data := .fields #[.none, .bool false, .ref s.heap.objs.size, rawInt 0, .none, .none] }) rfl
    rw [hz] at this; exact this
  refine ⟨⟨_, he, rfl⟩, h _ he ⟨_, Heap.get?_push_of_some _ (Heap.get?_push_size _ rfl), rfl, rfl⟩ (by rw [Heap.size_push, hz]) fun b o x => Heap.get?_push_of_some _ (Heap.get?_push_of_some _ x)⟩
end PySem
namespace K7E
open PySem PySem.Spec PyProof.Rows L2
/-- the tuple at a as it stands at each turn, each item in a new pair -/
def IteT (K : PySem.W.Frag) (a : Addr) : It :=
  ⟨fun i H => ∃ (xs : List V) (x : V), SqT K H a xs ∧ xs[i]? = some x, fun i H v H' => ∃ T x, v = .ref T ∧ H T = none ∧ H' = upd H T (.tup [.int (i : Nat), x]) ∧ ∀ xs, SqT K H a xs → xs[i]? = some x, fun i H => ∃ xs : List V, SqT K H a xs ∧ xs.length = i⟩
theorem tup_ne {h : Heap} {a it : Addr} {items : Array Value} {i : Nat} (p : h.IsTuple a items) (q : h.IsTupleIter it a i) : a ≠ it := by
  intro e
  subst e
  obtain ⟨o, ho, hc, _⟩ := p
  obtain ⟨o2, ho2, hc2, _⟩ := q
  rw [ho] at ho2
  cases ho2
  rw [hc] at hc2
  exact absurd (Value.type.inj hc2) (by decide)
theorem turn_enumT {P : Program} {w : World} {K : PySem.W.Frag} {elts : List Expr} {kk : Nat} {tpos : Pos} (a e it : Addr) :
    Turn P w K (.Tuple elts kk tpos) (IteT K a) [e, it] e (fun i h => (∃ old, IsEnum h e it ((i : Nat) : Int) old) ∧ h.IsTupleIter it a i ∧ e ≠ it) where
  mem := by simp
  obj := fun i h st b hb => by
    obtain ⟨⟨old, he⟩, ⟨o, ho, hc, hd⟩, _⟩ := st
    have e' : b = e ∨ b = it := by simpa using hb
    rcases e' with z | z
    · rw [z]; exact ⟨_, he, fun v q => nomatch q⟩
    · rw [z]; exact ⟨o, ho, fun v q => by rw [hd] at q; cases q⟩
  keep := fun i h h' st k => let ⟨⟨old, he⟩, hi, hne⟩ := st; ⟨⟨old, k e (by simp) _ he⟩, hi.at fun o q => k it (by simp) o q, hne⟩
  item := by
    intro X hP hw hK hc i pins s σ H E I hf st hg
    subst hP hw hK
    obtain ⟨⟨old, he⟩, hit, hne⟩ := st
    obtain ⟨xs, x, hq, hx⟩ := hg
    obtain ⟨its, rv, p, hz⟩ := I.tuple hq
    obtain ⟨u, hu, ru⟩ := rv.get hx
    have hel : e < s.heap.objs.size := Heap.lt_size he
    have hil : it < s.heap.objs.size := by obtain ⟨_, q, _⟩ := hit; exact Heap.lt_size q
    have hat : a ≠ it := tup_ne p hit
    have hae : e ≠ a := fun q => by
      subst q
      obtain ⟨o, ho, hc', _⟩ := p
      rw [show s.heap.get? e = _ from he] at ho
      cases ho
      exact absurd (Value.type.inj hc') (by decide)
    have hlt : i < its.toArray.size := by
      have := (List.getElem?_eq_some_iff.mp hu).1
      simpa using this
    refine wpAny_pyNext_enum_itemD (Draws.tuple (A := X.A.in1) (I.ok.hd hc) it a hat its.toArray) he ⟨hit, p⟩ hlt hne (by simp [hne, hae]) fun u' h' tk hP ho hit' hT hsz hk => ?_
    have eu : u' = u := by
      have h1 : its.toArray[i]? = some u := by simpa using hu
      exact Option.some.inj (hP.symm.trans h1)
    subst eu
    refine ⟨_, rfl, wpAny_letOwnedTupleGo_enum (s := { s with heap := h', toks := tk + 1 }) ho fun h'' he' sb => ?_⟩
    have hT2 : h''.get? s.heap.objs.size = some { cls := .type "tuple", data := .seq #[.int i tk, u'] } := (sb.2 _ (Nat.ne_of_gt hel)).trans hT
    have new : ObjOk X.prog X.w (upd H s.heap.objs.size (.tup [.int (i : Nat), x])) h'' s.heap.objs.size (.tup [.int (i : Nat), x]) :=
      ⟨by show 2 ≤ sizeLine; decide, [.int i tk, u'], .cons ⟨_, rfl⟩ (.cons ru .nil), ⟨_, hT2, rfl, _, rfl⟩⟩
    have I1 : Inv X pins σ (upd H s.heap.objs.size (.tup [.int (i : Nat), x])) { s with heap := h'', toks := tk + 1 } :=
      I.turnedNew (ch := [e, it]) (fun b ob hb q => (sb.2 b (fun z => hb (by simp [z]))).trans (hk b ob (fun z => hb (by simp [z])) (fun z => hb (by simp [z])) q)) hf (Nat.le_refl _) new
    refine ⟨.ref s.heap.objs.size, _, I1, rfl, ⟨_, x, rfl, I.hok.fresh (Nat.le_refl _), rfl, fun ys hy => by rw [I.tuple_inj hy hq]; exact hx⟩, ⟨⟨u', ?_⟩, hit'.1.at fun o q => (sb.2 it (Ne.symm hne)).trans q, hne⟩, fun b hb => ?_⟩
    · have e1 : ((i + 1 : Nat) : Int) = (i : Int) + 1 := by omega
      rw [e1]; exact he'
    · have hb' : b < s.heap.objs.size := by
        have e' : b = e ∨ b = it := by simpa using hb
        rcases e' with z | z
        · rw [z]; exact hel
        · rw [z]; exact hil
      rw [upd_ne (Nat.ne_of_lt hb')]
      exact (hf b hb).1
  done := by
    intro X hP hw hK hc i pins s σ H E I hf st hg
    subst hP hw hK
    obtain ⟨⟨old, he⟩, hit, hne⟩ := st
    obtain ⟨xs, hq, hx⟩ := hg
    obtain ⟨its, rv, p, hz⟩ := I.tuple hq
    obtain ⟨f0, f1, f2, f3, f4, f5⟩ := hf it (by simp)
    have hl := rv.length
    have hat : a ≠ it := tup_ne p hit
    have en : its.toArray.size = i := by simp; omega
    exact wpAny_pyNext_enum_endD (Draws.tuple (A := X.A.in1) (I.ok.hd hc) it a hat its.toArray) he ⟨by rw [en]; exact hit, p⟩ fun h' eb => ⟨rfl, I.turned (t' := s.toks) (fun b o hb q => eb b o hb q) f0 f1 f3 f4 f5⟩
  self := fun A i s Q E st h => let ⟨⟨_, he⟩, _⟩ := st; wpAny_pyIter_enum he h
def iEnumT (K : PySem.W.Frag) (ta : TA) : TI := fun σ H R => ta σ H fun vs H1 => ∃ a xs, vs = [.ref a] ∧ SqT K H1 a xs ∧ R (IteT K a) H1
theorem pi_enumT {X : Cx} {e : Expr} {ta : TA} {p pos tpos : Pos} {elts : List Expr} {kk : Nat} (hg : Gl X "enumerate") (hm : X.mg "enumerate" = none) (ha : PA X [e] ta) (hs : starEach [e] X.env = [(false, eval e X.env)] := by rfl) :
    PI X (.Tuple elts kk tpos) (.Call (.Name "enumerate" p) [e] [] pos) (iEnumT X.K ta) := by
  refine ⟨fun pins s σ H R I h => ?_⟩
  refine Call_ (ld_blt I hg hm boot_enumerate (PyProof.Rows.callWith_type1 (thn (ha.run pos pins s σ H _ I h) fun us s1 ⟨vs, H1, I1, r1, q1⟩ => ?_) hs rfl))
  obtain ⟨a, xs, ex, hq, q⟩ := q1
  subst ex
  cases r1 with
  | cons r rr =>
    cases rr
    cases r
    obtain ⟨its, rv, p', hz⟩ := I1.tuple hq
    refine k7_call_enumerate_tuple p' fun h' he hit hsz hk => wpAny_pyIter_enum he ?_
    have I2 : Inv X pins σ H1 { s1 with heap := h' } := I1.kept (t' := s1.toks) hk
    refine ⟨s1.heap.objs.size + 1, [s1.heap.objs.size + 1, s1.heap.objs.size], _, _, H1, rfl, I2, turn_enumT a (s1.heap.objs.size + 1) s1.heap.objs.size, ⟨⟨.none, he⟩, hit, Nat.succ_ne_self _⟩, fun b hb => ?_, q⟩
    have e' : b = s1.heap.objs.size + 1 ∨ b = s1.heap.objs.size := by simpa using hb
    have hle : s1.heap.objs.size ≤ b := by
      rcases e' with z | z
      · rw [z]; exact Nat.le_add_right _ _
      · rw [z]; exact Nat.le_refl _
    exact I1.fpOk hle (I1.hok.fresh hle)
theorem walk_enumT {K : PySem.W.Frag} {a : Addr} {xs : List V} : Walk (IteT K a) xs.length (fun H => SqT K H a xs) (YPair (fun i => some (.int (i : Nat))) (fun i => xs[i]?)) :=
  ⟨fun i H hi hq => ⟨xs, _, hq, List.getElem?_eq_getElem hi⟩, fun H hq => ⟨xs, hq, rfl⟩, fun i H v H' hi hq hy => by
    obtain ⟨T, x, rfl, nT, rfl, f⟩ := hy
    exact ⟨T, _, x, rfl, nT, rfl, rfl, f _ hq⟩⟩
end K7E
end
/-! ## EX -/
section
namespace K7E
open PySem PySem.Spec PyProof.Rows L2
/-! a call under try: what it lets out is asked for where it stands -/
section
variable {X : Cx} {W : WX} {k : Nat} {f C : Addr} {fd : FuncData} {ps : List Str} {sp : Sp} {dvs : List V} {ds : List Value} {x m : Str} {p pos apos : Pos} {e o : Expr} {es : List Expr} {ta : TE} {t : TA}
theorem run_fnW {pins : List (Addr × Obj)} {σ : L2.St} {H : Hp} {s : Shared} {Q : VK} {us : List Value} {vs : List V} (F : FnOk X.prog X.w X.K X.mg X.base (L2.CX X.prog X.w) k f fd ps sp) (hr : Room k X.A) (hb : Binds X.K fd ps ds) (hd : Vals dvs ds) (tk : Takes X W)
    (I : Inv X pins σ H s) (r : Vals vs us) (h : sp (vs ++ dvs) H Q (fun cls d H' => W cls d σ H')) : wpAny (model X.prog X.w) X.A (call (.ref f) us) (EP X pins σ Q) X.xe s := by
  have r2 : Vals (vs ++ dvs) (us ++ ds) := r.append hd
  have hl : (us ++ ds).length = ps.length := by rw [← r2.length]; exact F.len _ _ _ _ h
  refine wpAny_call (codeAny_mono (F.run X.A X.stack s H ⟨us, []⟩ (us ++ ds) (vs ++ dvs) Q _ hr I.env0 (hb s us I.kIn hl) r2 h) fun r s' hq => ?_)
  cases r with
  | error e => exact tk e s' (XE.of_call (E := fun cls d H' => W cls d σ H') I (fun cls d H' h => h) hq)
  | ok fl =>
    cases fl with
    | ret u => exact I.after hq
    | next => exact False.elim hq
    | brk => exact False.elim hq
    | cont => exact False.elim hq
theorem pe_callW (F : FnOk X.prog X.w X.K X.mg X.base (L2.CX X.prog X.w) k f fd ps sp) (hr : Room k X.A) (hg : Gl X x) (hm : X.mg x = some (.ref f)) (hk : PySem.W.keepIn X.K (.ref f) = true) (hb : Binds X.K fd ps ds) (hd : Vals dvs ds) (tk : Takes X W)
    (ha : PA X (e :: es) t) (hdb : (x == ("__debug__" : Str)) = false := by decide) (he : starEach (e :: es) X.env = (false, eval e X.env) :: starEach es X.env := by rfl) (hpl : (backTo pos (starEach es X.env)).any (·.1) = false := by rfl) :
    PE X (.Call (.Name x p) (e :: es) [] pos) (fun σ H Q => t σ H fun vs H1 => sp (vs ++ dvs) H1 Q (fun cls d H' => W cls d σ H')) := by
  refine ⟨fun pins s σ H Q I h => ?_⟩
  refine wpAny_Call_Name_kw (ld_glob I hg hm ?_ hdb)
  refine PySem.W.callWith_K (h₀ := X.base) I.ok.mod.kin hk (thn (ha.run pos pins s σ H _ I h) fun us s1 ⟨vs, H1, I1, r, q⟩ => ⟨I1.kIn, ?_⟩) he hpl
  exact run_fnW F hr hb hd tk I1 r q
theorem pe_methW {pl : Sem Bool} (he : PE X o ta) (c : Cls X.K C) (hm : Meth X.K C m f) (F : FnOk X.prog X.w X.K X.mg X.base (L2.CX X.prog X.w) k f fd ps sp) (hr : Room k X.A) (hb : Binds X.K fd ps ds) (hd : Vals dvs ds) (tk : Takes X W) (ha : PA X (e :: es) t)
    (hst : starEach (e :: es) X.env = (false, eval e X.env) :: starEach es X.env := by rfl) (hpl : (backTo pos (starEach es X.env)).any (·.1) = false := by rfl)
    (ht : eval (.Call (.Attribute o m apos) (e :: es) [] pos) X.env = (do
      let ov ← eval o X.env
      standAt apos.atName
      let (f, first) ← holding [ov] (getMethod ov m pl)
      callWith pos f first (backTo pos (starEach (e :: es) X.env)) (backToKw pos (keywordEach [] X.env))) := by rfl) :
    PE X (.Call (.Attribute o m apos) (e :: es) [] pos) (fun σ H Q => ta σ H fun x H1 => ∃ a dx fs, x = .ref a ∧ H1 a = some (.ins C dx fs) ∧ fs.lookup m = none ∧
      t σ H1 fun vs H2 => sp (x :: (vs ++ dvs)) H2 Q (fun cls d H' => W cls d σ H')) := by
  refine ⟨fun pins s σ H Q I h => ?_⟩
  refine PySem.W.methodCall_KW (pl := pl) (thn (he.run pins s σ H _ I h) fun u s1 ⟨x, H1, I1, rx, a, dx, fs, ex, ea, l, q⟩ => ?_) ht
  subst ex
  obtain rfl : u = Value.ref a := rx
  refine getmeth_ok I1 ea c hm l ?_
  refine PySem.W.callWith_K (first := [.ref a]) (h₀ := X.base) I.ok.mod.kin hm.kp (thn (ha.run pos pins s1 σ H1 _ I1 q) fun us s2 ⟨vs, H2, I2, r, q2⟩ => ⟨I2.kIn, ?_⟩) hst hpl
  exact run_fnW (us := .ref a :: us) (vs := .ref a :: vs) F hr hb hd tk I2 (.cons rfl r) q2
end
/-! ### isinstance(e, c), e the exception that the suite holds, with fields of its own -/
section
variable {X : Cx}
theorem call_isEd {a D d : Addr} {oe : Obj} {pn : List (Addr × Obj)} (C : ExcC X.K D) (hz : Zc (.ref D) (some d) oe) (hf : ∃ vs, oe.data = .fields vs) : CallR (X.suite a ((a, oe) :: pn)) (.builtin "isinstance") (fun xs H Q => ∃ (c : V) (cv : Value) (b : Bool) (fs : List (Str × V)), xs = [.ref a, c] ∧ (∀ u, RelV c u → u = cv) ∧ PySem.W.kitOne X.K (.ref D) cv = some b ∧ H d = some (.xd fs) ∧ Q (.bl b) H) := by
  intro pins s σ H xs us Q I r h
  obtain ⟨c, cv, b, fs, rfl, hcv, e, hd, q⟩ := h
  cases r with
  | cons rx rr =>
    cases rr with
    | cons rt rr =>
      cases rr
      cases rx
      have ec := hcv _ rt
      subst ec
      obtain ⟨hget, _⟩ := I.pin (a, oe) (List.mem_append.mpr (.inl List.mem_cons_self))
      obtain ⟨vs, hv⟩ := hf
      have hx : ObjOk X.prog X.w H s.heap d (.xd fs) := I.hok d _ hd
      obtain ⟨mA, hns, hrr⟩ := hx
      obtain ⟨od, ho, hl⟩ := lookIn_ns hns
      have J : PySem.W.InstAt s.heap a oe D (some od) := ⟨hget, hz.1, by unfold PySem.W.notCls; rw [hv] <;> rfl, by rw [hz.2]; exact ho⟩
      obtain ⟨cd, hcc, _⟩ := PySem.W.any_some C.hd
      exact PySem.W.kia_one (PySem.W.kitx_exc (gt := none) (by rw [hcc]; rfl) C.hg C.hk C.hs C.ha C.hn C.ht C.hm) I.kIn J e (fun z => nomatch z) fun tk => ⟨.bl b, H, I.kept (t' := tk) fun _ _ z => z, rfl, q⟩
end
theorem call_isEdX {X : Cx} {a D : Addr} {cls : Value} {d : Option Addr} {oe : Obj} {pn : List (Addr × Obj)} (C : ExcC X.K D) (hz : Zc cls d oe) (hf : ∃ vs, oe.data = .fields vs) : CallR (X.suite a ((a, oe) :: pn)) (.builtin "isinstance") (fun xs H Q => cls = .ref D ∧ ∃ dd, d = some dd ∧ ∃ (c : V) (cv : Value) (b : Bool) (fs : List (Str × V)), xs = [.ref a, c] ∧ (∀ u, RelV c u → u = cv) ∧ PySem.W.kitOne X.K (.ref D) cv = some b ∧ H dd = some (.xd fs) ∧ Q (.bl b) H) := by
  intro pins s σ H xs us Q I r h
  obtain ⟨rfl, dd, rfl, h⟩ := h
  exact call_isEd C hz hf pins s σ H xs us Q I r h
/-! repr of a plain thing -/
def reprV : V → Str
  | .non => "None"
  | .bl b => if b then "True" else "False"
  | .int i => toString i
  | .str z => reprText z
  | _ => ""
def reprOk : V → Prop
  | .non => True
  | .bl b => True
  | .int i => i.natAbs.log2 < 1920
  | .str z => (reprText z).length ≤ sizeLine
  | _ => False
theorem call_reprF {X : Cx} : CallR X (.builtin "repr") (fun xs H Q => ∃ v, xs = [v] ∧ reprOk v ∧ Q (.str (reprV v)) H) := by
  intro pins s σ H xs us Q I r h
  obtain ⟨v, rfl, hz, q⟩ := h
  obtain ⟨u, rfl, ru⟩ := r.one
  cases v with
  | non => cases ru; exact PySem.P.repr_of_none ⟨.str _, H, I.tok _, ⟨_, rfl⟩, q⟩
  | bl b => cases ru; exact PySem.P.repr_of_bool ⟨.str _, H, I.tok _, ⟨_, rfl⟩, q⟩
  | int i => obtain ⟨t, rfl⟩ := ru; exact PySem.P.repr_of_int hz ⟨.str _, H, I.tok _, ⟨_, rfl⟩, q⟩
  | str z => obtain ⟨t, rfl⟩ := ru; exact PySem.P.repr_of_str ⟨.str _, H, I.tok _, ⟨_, rfl⟩, q⟩ hz
  | _ => exact hz.elim
end K7E
end
/-! ## KG -/
section
/-! ## promises kept where no repr is under way -/
namespace K7E
open PySem PySem.Spec PyProof.Rows L2
structure FnG (P : Program) (w : World) (K : PySem.W.Frag) (mg : Str → Option Value) (base : Heap) (CX : CXT) (k : Nat) (f : Addr) (fd : FuncData) (ps : List Str) (sp : Sp) : Prop where
  len : ∀ vs H Q E, sp vs H Q E → vs.length = ps.length
  run : ∀ (A : Around) (outer : List Env) (s : Shared) (H : Hp) (args : Args) (us : List Value) (vs : List V) (Q : VK) (E : XK), A.guards = some [] → Room k A → Env0 P w K mg base A outer s H → BindsTo s fd args (ps.zip us) → Vals vs us → sp vs H Q E →
    codeAny (model P w) A (.call (.ref f) args) (CR CX outer P w H s Q E) s
theorem fn_ofG {CX : CXT} {P : Program} {w : World} {K : PySem.W.Frag} {mg : Str → Option Value} {base : Heap} {k : Nat} {f : Addr} {name qual : Str} {params : Arguments} {body : List Stmt} {scope : Scope} {dV kV doc pm cdv ct oc : Value} {an od : Option Addr} {osl : Array (Option Value)} {N ps : List Str} {sp : Sp}
    (lk : K.lookup f = some ⟨oc, od, .func (PySem.W.fnOf name qual params body scope dV kV doc pm an cdv ct), osl⟩) (hcd : PySem.W.codeIn K cdv qual = true) (S : FnScope N ps scope) (len : ∀ vs H Q E, sp vs H Q E → vs.length = ps.length)
    (hbody : ∀ (A : Around) (outer : List Env) (s : Shared) (H : Hp) (vs : List V) (Q : VK) (E : XK), A.guards = some [] → Room k (A.deeper (envOfC qual scope s.heap.objs.size f cdv)) → sp vs H Q E → ∃ t, PSs (cxOf CX P w K mg base N qual scope f cdv A outer s H E) body t ∧ t ⟨fun _ H' => Q .non H', Q, fun _ _ => False, fun _ _ => False⟩ (L2.start N vs) H) :
    FnG P w K mg base CX (k + 1) f (PySem.W.fnOf name qual params body scope dV kV doc pm an cdv ct) ps sp := by
  refine ⟨len, fun A outer s H args us vs Q E gA hr e0 hbd rv hsp => ?_⟩
  have lenV := len vs H Q E hsp
  have inS : K.In s.heap := PySem.W.Frag.In.keeps e0.mod.kin fun b o e => (e0.bs b o e).1
  have noL : s.heap.NoLimit := Heap.NoLimit.keeps e0.mod.nolimit fun b o e => (e0.bs b o e).1
  have kinds : ∀ x : Str × Value, x ∈ ps.zip us → List.lookup x.1 scope.names = some .local ∨ (List.lookup x.1 scope.names = some .cell ∧ (List.lookup x.1 (cellsFrom (s.heap.objs.size + 1) scope.names [])).isSome = true) := by
    rintro ⟨n, v⟩ hy
    rcases S.par n (List.of_mem_zip hy).1 with c | c
    · exact .inl c
    · exact .inr ⟨c, PySem.W.cellsFrom_some scope.names (s.heap.objs.size + 1) [] (.inl c)⟩
  refine codeAny_call_function hr.depth (inS f _ lk) rfl S.co S.gen rfl (PySem.W.codeRec_of inS hcd) (hbd (model P w) A.in1 _ _ (wpAny_newFunctionEnv_cells S.kind kinds fun env he s1 x => ?_))
  subst he
  refine ⟨Heap.NoLimit.keeps noL x.toInCall.keep, codeAny_func ?_⟩
  obtain ⟨t, ht, hq⟩ := hbody A outer s H vs Q E gA (hr.deeper _) hsp
  have I := inv_start (CX := CX) (E := E) S hr.hd e0 lenV rv x
  refine wpAny_mono (ht.run [] s1 (L2.start N vs) H _ I hq) (fun fl s' hs => ?_) fun e s' hs => hs
  cases fl with
  | next =>
    obtain ⟨σ', H', J, q⟩ := hs
    exact ⟨.non, H', J.os, J.bare, J.base, J.hok, (show RelV .non Value.none from rfl), q⟩
  | ret u =>
    obtain ⟨v, σ', H', J, ru, q⟩ := hs
    exact ⟨v, H', J.os, J.bare, J.base, J.hok, ru, q⟩
  | _ =>
    obtain ⟨_, _, _, q⟩ := hs
    exact q.elim
theorem okG {P : Program} {w : World} {K : PySem.W.Frag} {mg : Str → Option Value} {base : Heap} {x qual : Str} {st : Stmt} {f : Addr} {fd : FuncData} {N ps : List Str} {k : Nat} {sp : Sp} (F : Fun K x qual st f fd) (S : FnScope N ps (defScope st)) (len : ∀ vs H Q E, sp vs H Q E → vs.length = ps.length)
    (hbody : ∀ (cdv : Value) (A : Around) (outer : List Env) (s : Shared) (H : Hp) (vs : List V) (Q : VK) (E : XK), A.guards = some [] → Room k (A.deeper (envOfC qual (defScope st) s.heap.objs.size f cdv)) → sp vs H Q E → ∃ t, PSs (cxOf CX0 P w K mg base N qual (defScope st) f cdv A outer s H E).nox (defBody st) t ∧ t ⟨fun _ H' => Q .non H', Q, fun _ _ => False, fun _ _ => False⟩ (L2.start N vs) H) : FnG P w K mg base CX0 (k + 1) f fd ps sp := by
  obtain ⟨oc, od, kV, doc, pm, an, cdv, ct, osl, rfl, lk, hcd⟩ := F.ex
  refine fn_ofG lk hcd S len fun A outer s H vs Q E g hr hsp => ?_
  obtain ⟨t, h, q⟩ := hbody cdv A outer s H vs Q E g hr hsp
  exact ⟨t, h.nox, q⟩
theorem ofOk {P : Program} {w : World} {K : PySem.W.Frag} {mg : Str → Option Value} {base : Heap} {CX : CXT} {k : Nat} {f : Addr} {fd : FuncData} {ps : List Str} {sp : Sp} (F : FnOk P w K mg base CX k f fd ps sp) : FnG P w K mg base CX k f fd ps sp :=
  ⟨F.len, fun A outer s H args us vs Q E _ hr e0 hb r h => F.run A outer s H args us vs Q E hr e0 hb r h⟩
section
variable {X : Cx} {CX : CXT} {k : Nat} {f : Addr} {fd : FuncData} {ps : List Str} {sp : Sp} {dvs : List V} {ds : List Value} {E : XK} {x : Str} {e : Expr} {es : List Expr} {t : TA} {p pos : Pos}
theorem run_fnG {pins : List (Addr × Obj)} {σ : L2.St} {H : Hp} {s : Shared} {Q : VK} {us : List Value} {vs : List V} (gA : X.A.guards = some []) (F : FnG X.prog X.w X.K X.mg X.base CX k f fd ps sp) (hr : Room k X.A) (hb : Binds X.K fd ps ds) (hd : Vals dvs ds) (hx : Passes CX X E) (I : L2.Inv X pins σ H s) (r : Vals vs us) (h : sp (vs ++ dvs) H Q E) :
    wpAny (model X.prog X.w) X.A (call (.ref f) us) (EP X pins σ Q) X.xe s := by
  have r2 := Vals.append r hd
  have hl : (us ++ ds).length = ps.length := by rw [← r2.length]; exact F.len _ _ _ _ h
  refine wpAny_call (codeAny_mono (F.run X.A X.stack s H ⟨us, []⟩ (us ++ ds) (vs ++ dvs) Q E gA hr I.env0 (hb s us I.kIn hl) r2 h) fun r' s' hq => ?_)
  cases r' with
  | error e => exact hx pins σ H s e s' I hq
  | ok fl =>
    cases fl with
    | ret v => exact I.after hq
    | _ => exact hq.elim
/-- x(e, ..) by such a promise -/
theorem pe_callG (gA : X.A.guards = some []) (F : FnG X.prog X.w X.K X.mg X.base CX k f fd ps sp) (hr : Room k X.A) (hg : Gl X x) (hm : X.mg x = some (.ref f)) (hk : PySem.W.keepIn X.K (.ref f) = true) (hb : Binds X.K fd ps ds) (hd : Vals dvs ds) (hx : Passes CX X E) (ha : PA X (e :: es) t) (hdb : (x == ("__debug__" : Str)) = false := by decide)
    (h1 : starEach (e :: es) X.env = (false, eval e X.env) :: starEach es X.env := by rfl) (h2 : (backTo pos (starEach es X.env)).any (·.1) = false := by rfl) : PE X (.Call (.Name x p) (e :: es) [] pos) (tCall sp dvs E t) :=
  ⟨fun pins s τ H Q I h => wpAny_Call_Name_kw (ld_glob I hg hm (PySem.W.callWith_K (h₀ := X.base) I.ok.mod.kin hk (thn (ha.run pos pins s τ H (fun vs H1 => sp (vs ++ dvs) H1 Q E) I h) fun us s1 ⟨vs, H1, I1, r, q⟩ => ⟨I1.kIn, run_fnG gA F hr hb hd hx I1 r q⟩) h1 h2) hdb)⟩
end
/-- repr of nested data -/
theorem call_reprG {X : Cx} (gA : X.A.guards = some []) (hu : X.A.units + 64 < cLine) : CallR X (.builtin "repr") (fun xs H Q => ∃ a d, xs = [.ref a] ∧ Dp X.K H (.ref a) d ∧ d.showable = true ∧ d.hasDict = false ∧ d.depth ≤ 32 ∧ d.shown.length ≤ sizeLine ∧ Q (.str d.shown) H) := by
  intro pins s σ H xs us Q I r h
  obtain ⟨a, d, rfl, dp, sh, nd, de, hl, q⟩ := h
  obtain ⟨u, rfl, ru⟩ := r.one
  cases (show u = Value.ref a from ru)
  obtain ⟨as, rd⟩ := Dp.reads I d (.ref a) (.ref a) dp rfl
  refine repr_of_reads' rd sh (fun z => by rw [nd] at z; cases z) gA (by omega) (fun b o e => e) (fun h' u tk keep => ?_) hl
  exact ⟨.str _, H, I.kept keep, ⟨_, rfl⟩, q⟩
/-- what repr shows of a value -/
inductive Rpr (K : PySem.W.Frag) (H : Hp) : V → Str → Prop where
  | flat {v : V} (h : reprOk v) : Rpr K H v (reprV v)
  | dat {a : Addr} {d : PyData} (h : Dp K H (.ref a) d) (sh : d.showable = true) (nd : d.hasDict = false) (de : d.depth ≤ 32) (hl : d.shown.length ≤ sizeLine) : Rpr K H (.ref a) d.shown
  | emp {a : Addr} (h : H a = some (.dK [])) : Rpr K H (.ref a) (PyData.dict []).shown
theorem call_repr {X : Cx} (gA : X.A.guards = some []) (hu : X.A.units + 64 < cLine) : CallR X (.builtin "repr") (fun xs H Q => ∃ v z, xs = [v] ∧ Rpr X.K H v z ∧ Q (.str z) H) := by
  intro pins s σ H xs us Q I r h
  obtain ⟨v, z, rfl, rp, q⟩ := h
  cases rp with
  | flat h => exact call_reprF pins s σ H _ us Q I r ⟨v, rfl, h, q⟩
  | dat h sh nd de hl => exact call_reprG gA hu pins s σ H _ us Q I r ⟨_, _, rfl, h, sh, nd, de, hl, q⟩
  | @emp a h =>
    obtain ⟨u, rfl, ru⟩ := r.one
    cases (show u = Value.ref a from ru)
    obtain ⟨_, ns, vs, kv, o, es, ep, g, ex, dd, ko, prs, nd⟩ := I.hok a _ h
    have hv : vs = [] := by cases kv; rfl
    subst hv
    have he : es.toList = [] := by
      cases hE : es.toList with
      | nil => rfl
      | cons e l =>
        rw [hE] at prs
        cases prs
    have rd : Reads s.heap (.ref a) (.dict []) (a :: [] ++ []) := .dict (as := []) (bs := []) g ex.1 dd (by rw [he]; exact .nil) (by rw [he]; exact .nil)
    have dp : PyData.depth (.dict []) ≤ 1 := by decide
    refine repr_of_reads' rd (by decide) (fun _ m => ?_) gA (by omega) (fun b o e => e) (fun h' u tk keep => ?_) (by decide)
    · simp only [List.append_nil, List.mem_singleton] at m
      rw [← m] at ns
      simp at ns
    · exact ⟨.str _, H, I.kept keep, ⟨_, rfl⟩, q⟩
theorem call_reprS {X : Cx} {b : Addr} {pn : List (Addr × Obj)} (gA : X.A.guards = some []) (hu : X.A.units + 64 < cLine) : CallR (X.suite b pn) (.builtin "repr") (fun xs H Q => ∃ v z, xs = [v] ∧ Rpr X.K H v z ∧ Q (.str z) H) := call_repr (X := X.suite b pn) gA hu
/-! ## a law's own call -/
theorem law_callG {P : Program} {w : World} {K : PySem.W.Frag} {mg mb : Str → Option Value} {CX : CXT} {k : Nat} {fa a : Addr} {fd : FuncData} {x : Str} {sp : Sp} {s₁ : Shared} {vs : List Value} {ns : List Int}
    (inS : K.In s₁.heap) (hns : s₁.heap.Ns mainGlobals mg) (hb : s₁.heap.Ns builtinsNs mb) (hbb : ∀ x : Str, x ≠ "__name__" → mb x = bootBuiltins x) (hlim : s₁.heap.NoLimit) (hg : s₁.gens = #[]) (ha : s₁.heap.get? a = some { cls := .type "list", data := .seq vs.toArray }) (hi : IntsAre vs ns) (hl : ns.length ≤ sizeLine) (hr : Room k callerA)
    (F : ∀ base : Heap, K.In base → base.Ns mainGlobals mg → FnG P w K mg base CX k fa fd [x] sp) (hbind : ∀ (s : Shared) (u : Value), BindsTo s fd ⟨[u], []⟩ [(x, u)])
    (hsp : ∀ H, Only H → SqL K H a (ns.map V.int) → sp [.ref a] H (fun v _ => v = .bl true) (fun _ _ _ => False)) (hCX : ∀ H e s', CX [] H s₁ (fun _ _ _ => False) e s' → False) :
    codeAny (model P w) callerA (.call (.ref fa) ⟨[.ref a], []⟩) (fun r s' => r = .ok (.ret (.bool true)) ∧ OldK s₁.heap s'.heap ∧ s'.os = s₁.os ∧ AllBare s'.gens) s₁ := by
  have rv := vals_ints hi
  have lenV : vs.length = ns.length := hi.length
  have core : ∀ H : Hp, Only H → SqL K H a (ns.map V.int) → HOk P w H s₁.heap → (∀ b, H b ≠ none → b = a) → (H a ≠ none → K.lookup a = none) →
      codeAny (model P w) callerA (.call (.ref fa) ⟨[.ref a], []⟩) (fun r s' => r = .ok (.ret (.bool true)) ∧ OldK s₁.heap s'.heap ∧ s'.os = s₁.os ∧ AllBare s'.gens) s₁ := by
    intro H hO hS hok only hK
    have other : ∀ {b : Addr} {u : HO}, H b = some u → b = a := fun {b u} q => only b (by rw [q]; exact Option.some_ne_none u)
    have noD : ∀ {b : Addr} {o : Obj} {es ep}, s₁.heap.get? b = some o → o.data = .dict es ep → H b = none := by
      intro b o es ep e d
      cases q : H b with
      | none => rfl
      | some u =>
        obtain rfl := other q
        rw [ha] at e
        cases e
        cases d
    have nsH : ∀ {b : Addr} {m : Str → Option Value}, s₁.heap.Ns b m → (hidT s₁.heap H).Ns b m := by
      rintro b m ⟨o, es, ep, e, d, r⟩
      exact ⟨o, es, ep, hidT_get e (noD e d), d, r⟩
    have inH : K.In (hidT s₁.heap H) := by
      intro b o e
      refine hidT_get (inS b o e) ?_
      cases q : H b with
      | none => rfl
      | some u =>
        obtain rfl := other q
        have z := hK (by rw [q]; exact Option.some_ne_none u)
        rw [z] at e
        cases e
    have md : L2.Mod K mg (hidT s₁.heap H) := ⟨inH, nsH hns, ⟨mb, nsH hb, hbb⟩, by
      obtain ⟨mc, h1, h2⟩ := hlim
      exact ⟨mc, nsH h1, h2⟩⟩
    have e0 : Env0 P w K mg (hidT s₁.heap H) callerA [] s₁ H := { frames := rfl, mod := md, bs := fun b o e => of_hidT e, bsz := Nat.le_of_eq (hidT_size s₁.heap H), funs := trivial, frf := fun b hb => absurd hb List.not_mem_nil, hok := hok, bare := AllBare.of_eq hg }
    refine codeAny_mono ((F (hidT s₁.heap H) inH (nsH hns)).run callerA [] s₁ H ⟨[.ref a], []⟩ [.ref a] [.ref a] (fun v _ => v = .bl true) (fun _ _ _ => False) rfl hr e0 (hbind s₁ _) (.cons rfl .nil) (hsp H hO hS)) fun r s' h => ?_
    cases r with
    | error e => exact (hCX H e s' h).elim
    | ok fl =>
      cases fl with
      | ret u =>
        obtain ⟨v, H', os, bare, un, hok', rr, rfl⟩ := h
        cases (show u = Value.bool true from rr)
        refine ⟨rfl, OldK.of_keep fun b o e => ?_, os, bare⟩
        cases q : H b with
        | none => exact un.keep b o e q (fun z => absurd z List.not_mem_nil) (fun z => absurd z List.not_mem_nil)
        | some u =>
          rcases hO b with z | ⟨ob, xs, z⟩
          · rw [q] at z
            cases z
          · have h1 : s₁.heap.get? b = some ob := (hok b _ z).1
            have h2 : s'.heap.get? b = some ob := (hok' b _ (un.frzs b ob _ z)).1
            rw [h2, ← h1, e]
      | _ => exact h.elim
  cases hk : K.lookup a with
  | none =>
    refine core (fun b => if b = a then some (.frz { cls := .type "list", data := .seq vs.toArray } (.lst (ns.map V.int))) else none) (fun b => ?_) (.inl (.inr ⟨_, if_pos rfl⟩)) (fun b u z => ?_) (fun b z => ?_) (fun _ => hk)
    · by_cases e : b = a
      · exact .inr ⟨_, _, if_pos e⟩
      · exact .inl (if_neg e)
    · by_cases e : b = a
      · subst e
        have z' := (if_pos rfl).symm.trans z
        cases z'
        exact ⟨ha, by rw [List.length_map]; exact hl, vs, 0, rv, ha⟩
      · have z' := (if_neg e).symm.trans z
        cases z'
    · by_cases e : b = a
      · exact e
      · exact absurd (if_neg e) z
  | some o =>
    have e := inS a o hk
    rw [ha] at e
    cases e
    exact core (fun _ => none) (fun _ => .inl rfl) (.inr ⟨_, vs.toArray, 0, hk, rfl, rfl, rfl, by rw [List.size_toArray, lenV]; exact hl, rv⟩) (fun b u z => nomatch z) (fun b z => absurd rfl z) (fun z => absurd rfl z)
end K7E
end
/-! ## KS -/
section
namespace K7E
open PySem PySem.Spec PyProof.Rows L2
theorem ts_pos {i : Int} (h0 : 0 ≤ i) : 0 < (Str.ofString (toString i)).length := by
  rw [PySem.ofString_length]
  obtain ⟨n, rfl⟩ : ∃ n : Nat, i = (n : Int) := ⟨i.toNat, by omega⟩
  refine Nat.pos_of_ne_zero fun e => ?_
  have e2 : toString ((n : Nat) : Int) = Nat.repr n := rfl
  rw [e2] at e
  exact Nat.repr_ne_empty (String.length_eq_zero_iff.mp e)
theorem strOk_of (s : String) : PyData.strOk (Str.ofString s) = true := by
  unfold PyData.strOk
  rw [Str.ofString_eq_toList]
  simp only [List.all_toArray, List.all_map, List.all_eq_true]
  intro c _
  have := c.valid
  simp only [Function.comp, decide_eq_true_eq]
  show c.val.toNat < 0x110000
  rcases this with h | ⟨_, h⟩
  · exact Nat.lt_trans h (by decide)
  · exact h
theorem strOk_app (a b : Str) (ha : PyData.strOk a = true) (hb : PyData.strOk b = true) : PyData.strOk (a ++ b) = true := by
  unfold PyData.strOk at *
  rw [Str.cps_append, Array.all_append, ha, hb]
  rfl
theorem longer_ne {a b c : Str} (h : c.length < a.length + b.length) : a ++ b ≠ c := fun e => by
  have := congrArg Str.length e
  rw [Str.length_append] at this
  omega
theorem eqv_str_ne {x y : Str} (h : x ≠ y) : PyData.eqv (.str x) (.str y) = false := by
  simp [PyData.eqv, h]
theorem log_ok {i : Int} (h0 : 0 ≤ i) (h1 : i < 10 ^ 30) : i.natAbs.log2 < 1920 := by
  rcases Nat.eq_zero_or_pos i.natAbs with z | z
  · rw [z]; decide
  · have : i.natAbs < 2 ^ 1920 := Nat.lt_of_lt_of_le (m := 10 ^ 30) (by omega) (by decide +kernel)
    exact (Nat.log2_lt (by omega)).mpr this
theorem short_ok {i : Int} (h0 : 0 ≤ i) (h1 : i < 10 ^ 30) : ("bound" : Str).length + (Str.ofString (toString i)).length ≤ sizeLine := by
  have h : (Str.ofString (toString i)).length ≤ 30 := by
    rw [PySem.ofString_length]
    obtain ⟨n, rfl⟩ : ∃ n : Nat, i = (n : Int) := ⟨i.toNat, by omega⟩
    show (Nat.repr n).length ≤ 30
    exact (Nat.length_repr_le_iff (by decide)).mpr (by omega)
  have h5 : ("bound" : Str).length = 5 := by decide +kernel
  have hs : (35 : Nat) ≤ sizeLine := by decide
  omega
end K7E
end
/-! ## OB -/
section
open PySem PySem.Spec PyProof.Rows L2
namespace K7
theorem notHand_refs : ∀ ts : List Addr, notHand (ts.map V.ref) = true
  | [] => rfl
  | [_] => rfl
  | [_, _] => rfl
  | [_, _, _] => rfl
  | [_, _, _, _] => rfl
  | _ :: _ :: _ :: _ :: _ :: _ => by rfl
theorem notHand_ints : ∀ ts : List Nat, notHand (ints_ ts) = true
  | [] => rfl
  | [_] => rfl
  | [_, _] => rfl
  | [_, _, _] => rfl
  | [_, _, _, _] => rfl
  | _ :: _ :: _ :: _ :: _ :: _ => by rfl
section
variable {h c : Addr} {H H' : Hp}
theorem Stay.tup {b : Addr} {xs : List V} (x : Stay h c H H') (hb : H b = some (.tup xs)) : H' b = some (.tup xs) := x.but b _ (x.hand0.net hb) hb
theorem Stay.tat (x : Stay h c H H') {ts : List Addr} {ls : List (List Nat)} (t : TAt H ts ls) : TAt H' ts ls := t.mono fun b xs hb => x.tup hb
theorem Stay.la (x : Stay h c H H') {q : Addr} {n : Nat} {es : List (Nat × Nat)} {lot : List Nat} (L : LandAt H q n es lot) : LandAt H' q n es lot := by
  obtain ⟨rA, sA, ts, h1, h2, h3, h4⟩ := L.at_
  exact ⟨⟨rA, sA, ts, x.tup h1, x.lst h2 (notHand_refs _), x.tat h3, x.lst h4 (notHand_ints _)⟩, L.ok, L.lot⟩
theorem Stay.lo (x : Stay h c H H') {C p : Addr} {n : Nat} {es : List (Nat × Nat)} {rd : List Nat} (L : LandO C H p n es rd) : LandO C H' p n es rd := by
  obtain ⟨dx, an, ar, ay, ac, tn, ty, tc, h1, h2, h3, h4, h5, h6, h7, h8⟩ := L.at_
  exact ⟨⟨dx, an, ar, ay, ac, tn, ty, tc, x.but p _ (x.hand0.nei h1) h1, x.tup h2, x.tat h3, x.tup h4, x.tup h5, x.tat h6, x.tup h7, x.tat h8⟩, L.n2, L.n5, L.ok, L.rlt, L.rnd, L.rso, L.r0, L.rn⟩
end
theorem es_len {n : Nat} {es : List (Nat × Nat)} (ok : LandOk n es) (hn : n ≤ 5) : es.length ≤ 32 := by
  have z := K7E.nodup_le es ((List.range 5).flatMap fun a => (List.range 5).map fun b => (a, b)) ok.nd fun e he => by
    obtain ⟨a, b⟩ := e
    obtain ⟨l1, l2⟩ := ok.lt _ he
    have l1 : a < b := l1
    have l2 : b < n := l2
    exact List.mem_flatMap.mpr ⟨a, List.mem_range.mpr (by omega), List.mem_map.mpr ⟨b, List.mem_range.mpr (by omega), rfl⟩⟩
  have e : ((List.range 5).flatMap fun a => (List.range 5).map fun b => (a, b)).length = 25 := by decide
  rw [e] at z
  omega
/-! ### what the law draws: things and rows of things -/
inductive Th1 (H : Hp) : V → PyData → Prop where
  | non : Th1 H .non .none
  | bl (b : Bool) : Th1 H (.bl b) (.bool b)
  | int (i : Int) (hi : i.natAbs < 10 ^ 40) : Th1 H (.int i) (.int i)
  | str (z : Str) (hz : (reprText z).length ≤ 64) : Th1 H (.str z) (.str z)
  | tupI {a : Addr} (h : H a = some (.tup [.int 0])) : Th1 H (.ref a) (.tuple [.int 0])
  | lstI {a : Addr} (h : H a = some (.lst [.int 0])) : Th1 H (.ref a) (.list [.int 0])
theorem Th1.dp {K : PySem.W.Frag} {H : Hp} {v : V} {d : PyData} (t : Th1 H v d) : Dp K H v d := by
  cases t with
  | non => exact .non
  | bl b => exact .bl b
  | int i _ => exact .int i
  | str z _ => exact .str z
  | tupI h => exact .tup (.inl (.inl h)) (.cons (.int 0) .nil)
  | lstI h => exact .lst (.inl (.inl h)) (.cons (.int 0) .nil)
theorem Th1.thing {H : Hp} {v : V} {d : PyData} (t : Th1 H v d) : Thing H v := by
  cases t with
  | non => exact .flat .non
  | bl b => exact .flat (.bl b)
  | int i _ => exact .flat (.int i)
  | str z _ => exact .flat (.str z)
  | tupI h => exact .tup h
  | lstI h => exact .lst h
theorem Th1.same {H H' : Hp} {v : V} {d : PyData} (t : Th1 H v d) (e : Same H H') : Th1 H' v d := by
  cases t with
  | non => exact .non
  | bl b => exact .bl b
  | int i k => exact .int i k
  | str z k => exact .str z k
  | tupI h => exact .tupI (e _ _ h)
  | lstI h => exact .lstI (e _ _ h)
theorem log_of {i : Int} (h : i.natAbs < 10 ^ 40) : i.natAbs.log2 < 1920 := by
  rcases Nat.eq_zero_or_pos i.natAbs with z | z
  · rw [z]; decide
  · have : i.natAbs < 2 ^ 1920 := Nat.lt_of_lt_of_le h (by decide +kernel)
    exact (Nat.log2_lt (by omega)).mpr this
theorem int_short {i : Int} (h : i.natAbs < 10 ^ 40) : (Str.ofString (toString i)).length ≤ 64 := by
  rw [PySem.ofString_length]
  have k : ∀ n : Nat, n < 10 ^ 40 → (Nat.repr n).length ≤ 40 := fun n hn => (Nat.length_repr_le_iff (by decide)).mpr hn
  cases i with
  | ofNat n =>
    have := k n h
    show (Nat.repr n).length ≤ 64
    omega
  | negSucc n =>
    have := k (n + 1) h
    show ("-" ++ Nat.repr (n + 1)).length ≤ 64
    rw [String.length_append]
    have : ("-" : String).length = 1 := by decide
    omega
theorem Th1.shown {H : Hp} {v : V} {d : PyData} (t : Th1 H v d) : d.showable = true ∧ d.hasDict = false ∧ d.depth ≤ 1 ∧ d.shown.length ≤ 64 := by
  cases t with
  | non => exact ⟨rfl, rfl, by decide, by decide⟩
  | bl b => cases b <;> exact ⟨rfl, rfl, by decide, by decide +kernel⟩
  | int i k => exact ⟨decide_eq_true (log_of k), rfl, Nat.zero_le _, int_short k⟩
  | str z k => exact ⟨rfl, rfl, Nat.zero_le _, k⟩
  | tupI h => exact ⟨by decide, by decide, by decide, by decide +kernel⟩
  | lstI h => exact ⟨by decide, by decide, by decide, by decide +kernel⟩
theorem Th1.rpr {K : PySem.W.Frag} {H : Hp} {v : V} {d : PyData} (t : Th1 H v d) : K7E.Rpr K H v d.shown := by
  have s := t.shown
  cases t with
  | non => exact .flat (v := .non) trivial
  | bl b => cases b <;> exact .flat (v := .bl _) trivial
  | int i k => exact .flat (v := .int i) (log_of k)
  | str z k => exact .flat (v := .str z) (Nat.le_trans k (by decide))
  | tupI h => exact .dat (Th1.tupI h).dp s.1 s.2.1 (by omega) (Nat.le_trans s.2.2.2 (by decide))
  | lstI h => exact .dat (Th1.lstI h).dp s.1 s.2.1 (by omega) (Nat.le_trans s.2.2.2 (by decide))
theorem Th1.stay {h c : Addr} {H H' : Hp} {v : V} {d : PyData} (t : Th1 H v d) (e : Stay h c H H') : Th1 H' v d := by
  cases t with
  | non => exact .non
  | bl b => exact .bl b
  | int i k => exact .int i k
  | str z k => exact .str z k
  | tupI h => exact .tupI (e.tup h)
  | lstI h => exact .lstI (e.lst h rfl)
inductive OAll (H : Hp) : List V → List PyData → Prop where
  | nil : OAll H [] []
  | cons {v : V} {d : PyData} {vs : List V} {ds : List PyData} (h : Th1 H v d) (r : OAll H vs ds) : OAll H (v :: vs) (d :: ds)
theorem OAll.snoc {H : Hp} {v : V} {d : PyData} (h : Th1 H v d) : ∀ {vs : List V} {ds : List PyData}, OAll H vs ds → OAll H (vs ++ [v]) (ds ++ [d])
  | _, _, .nil => .cons h .nil
  | _, _, .cons x r => .cons x (r.snoc h)
theorem OAll.same {H H' : Hp} (e : Same H H') : ∀ {vs : List V} {ds : List PyData}, OAll H vs ds → OAll H' vs ds
  | _, _, .nil => .nil
  | _, _, .cons x r => .cons (x.same e) (r.same e)
theorem OAll.stay {h c : Addr} {H H' : Hp} (e : Stay h c H H') : ∀ {vs : List V} {ds : List PyData}, OAll H vs ds → OAll H' vs ds
  | _, _, .nil => .nil
  | _, _, .cons x r => .cons (x.stay e) (r.stay e)
theorem OAll.dp {K : PySem.W.Frag} {H : Hp} : ∀ {vs : List V} {ds : List PyData}, OAll H vs ds → DpAll K H vs ds
  | _, _, .nil => .nil
  | _, _, .cons x r => .cons x.dp r.dp
theorem OAll.thing {H : Hp} : ∀ {vs : List V} {ds : List PyData}, OAll H vs ds → ∀ y ∈ vs, Thing H y
  | _, _, .nil => fun _ m => nomatch m
  | _, _, .cons x r => fun y m => by
    rcases List.mem_cons.mp m with rfl | m
    · exact x.thing
    · exact r.thing y m
theorem OAll.len {H : Hp} : ∀ {vs : List V} {ds : List PyData}, OAll H vs ds → vs.length = ds.length
  | _, _, .nil => rfl
  | _, _, .cons _ r => congrArg (· + 1) r.len
theorem OAll.shown {H : Hp} : ∀ {vs : List V} {ds : List PyData}, OAll H vs ds → PyData.showableAll ds = true ∧ PyData.hasDictAll ds = false ∧ PyData.depthAll ds ≤ 1 ∧ ((PyData.shownAll ds).map fun x => x.length).sum ≤ 64 * ds.length ∧ (PyData.shownAll ds).length = ds.length
  | _, _, .nil => ⟨rfl, rfl, by decide, by decide, rfl⟩
  | _, d :: ds, .cons x r => by
    obtain ⟨a1, a2, a3, a4⟩ := x.shown
    obtain ⟨b1, b2, b3, b4, b5⟩ := r.shown
    refine ⟨?_, ?_, ?_, ?_, ?_⟩
    · simp only [PyData.showableAll, a1, b1, Bool.and_self]
    · simp only [PyData.hasDictAll, a2, b2, Bool.or_self]
    · simp only [PyData.depthAll]
      omega
    · simp only [PyData.shownAll, List.map_cons, List.sum_cons, List.length_cons]
      omega
    · simp only [PyData.shownAll, List.length_cons, b5]
theorem OAll.rprL {K : PySem.W.Frag} {H : Hp} {a : Addr} {vs : List V} {ds : List PyData} (o : OAll H vs ds) (hl : ds.length ≤ 1000) (h : H a = some (.lst vs)) : K7E.Rpr K H (.ref a) (PyData.list ds).shown := by
  obtain ⟨b1, b2, b3, b4, b5⟩ := o.shown
  refine .dat (.lst (.inl (.inl h)) o.dp) (by simp only [PyData.showable]; exact b1) (by simp only [PyData.hasDict]; exact b2) (by simp only [PyData.depth]; omega) ?_
  have e : (PyData.list ds).shown = listText (PyData.shownAll ds) := by simp only [PyData.shown]
  have t := PySem.textFrom_len_le (PyData.shownAll ds) 0 "["
  have hs : (100000 : Nat) ≤ sizeLine := by decide
  have l1 : ("[" : Str).length = 1 := by decide +kernel
  have l2 : ("]" : Str).length = 1 := by decide +kernel
  rw [e]
  unfold PySem.listText
  rw [Str.length_append]
  omega
theorem OAll.rprT {K : PySem.W.Frag} {H : Hp} {a : Addr} {vs : List V} {ds : List PyData} (o : OAll H vs ds) (hl : ds.length ≤ 1000) (h : H a = some (.tup vs)) : K7E.Rpr K H (.ref a) (PyData.tuple ds).shown := by
  obtain ⟨b1, b2, b3, b4, b5⟩ := o.shown
  refine .dat (.tup (.inl (.inl h)) o.dp) (by simp only [PyData.showable]; exact b1) (by simp only [PyData.hasDict]; exact b2) (by simp only [PyData.depth]; omega) ?_
  have e : (PyData.tuple ds).shown = tupleText (PyData.shownAll ds) := by simp only [PyData.shown]
  have t := PySem.StrLaws.join_length_le ", " (PyData.shownAll ds)
  have hs : (100000 : Nat) ≤ sizeLine := by decide
  have l1 : ("(" : Str).length = 1 := by decide +kernel
  have l2 : (", " : Str).length = 2 := by decide +kernel
  have l3 : (Str.ofString (if ((PyData.shownAll ds).length == 1) = true then ",)" else ")")).length ≤ 2 := by split <;> decide +kernel
  rw [e]
  unfold PySem.tupleText
  rw [Str.length_append, Str.length_append]
  rw [l2] at t
  omega
/-- a row as the law draws it; a list is not the hand -/
inductive RowIs (h : Addr) (H : Hp) : V → Prop where
  | non : RowIs h H .non
  | bl (b : Bool) : RowIs h H (.bl b)
  | int (i : Int) (k : i.natAbs < 10 ^ 40) : RowIs h H (.int i)
  | str (z : Str) (k : (reprText z).length ≤ 64) : RowIs h H (.str z)
  | emp {a : Addr} (e : H a = some (.dK [])) : RowIs h H (.ref a)
  | lst {a : Addr} {xs : List V} {ds : List PyData} (e : H a = some (.lst xs)) (o : OAll H xs ds) (l : xs.length ≤ 32) (n : a ≠ h) : RowIs h H (.ref a)
  | tup {a : Addr} {xs : List V} {ds : List PyData} (e : H a = some (.tup xs)) (o : OAll H xs ds) (l : xs.length ≤ 32) : RowIs h H (.ref a)
theorem RowIs.same {h : Addr} {H H' : Hp} {v : V} (r : RowIs h H v) (e : Same H H') : RowIs h H' v := by
  cases r with
  | non => exact .non
  | bl b => exact .bl b
  | int i k => exact .int i k
  | str z k => exact .str z k
  | emp g => exact .emp (e _ _ g)
  | lst g o l n => exact .lst (e _ _ g) (o.same e) l n
  | tup g o l => exact .tup (e _ _ g) (o.same e) l
theorem RowIs.stay {h c : Addr} {H H' : Hp} {v : V} (r : RowIs h H v) (e : Stay h c H H') : RowIs h H' v := by
  cases r with
  | non => exact .non
  | bl b => exact .bl b
  | int i k => exact .int i k
  | str z k => exact .str z k
  | emp g => exact .emp (e.but _ _ (e.hand0.ned g) g)
  | lst g o l n => exact .lst (e.but _ _ n g) (o.stay e) l n
  | tup g o l => exact .tup (e.tup g) (o.stay e) l
end K7
end
/-! ## P19 -/
section
open PySem PySem.Spec PyProof.Rows L2
namespace K7
abbrev N__law_told : List Str := ["_law_sort", "_law_land_here", "_law_cell", "_law_passing", "_law_answer", "_law_told_here", "e"]
abbrev s__law_told : Stmt := topS 37
theorem sc__law_told : FnScope ["_law_sort", "_law_land_here", "_law_cell", "_law_passing", "_law_answer", "_law_told_here", "e"] ["_law_sort", "_law_land_here", "_law_cell", "_law_passing"] (defScope s__law_told) := ⟨rfl, rfl, rfl, by decide +kernel, rfl, by decide +kernel, by decide +kernel⟩
/-- what the top says of errors -/
structure Te (K : PySem.W.Frag) (mg : Str → Option Value) (B S L : Addr) : Prop where
  gL : mg "LandError" = some (.ref L)
  exB : ExcC K B
  exS : ExcC K S
  xfB : XfC K B
  xfS : XfC K S
  mB : PySem.W.exmOne K (.ref B) (.ref L) = some true
  mS : PySem.W.exmOne K (.ref S) (.ref L) = some true
  kBB : PySem.W.kitOne K (.ref B) (.ref B) = some true
  kSS : PySem.W.kitOne K (.ref S) (.ref S) = some true
  kBS : PySem.W.kitOne K (.ref B) (.ref S) = some false
  kSB : PySem.W.kitOne K (.ref S) (.ref B) = some false
section
variable {P : Program} {w : World} {K : PySem.W.Frag} {mg : Str → Option Value} {base : Heap} {a : AdL} {S iS L : Addr}
/-- what is told of a question: its answer and no error, or its error -/
def spTold (K : PySem.W.Frag) (a : AdL) : Sp := fun vs H Q _ => ∃ (p : Addr) (n : Nat) (es : List (Nat × Nat)) (rd : List Nat) (sort : Int) (x y : V), vs = [.int sort, .ref p, x, y] ∧ LandO a.C H p n es rd ∧
  ((sort = 0 ∧ ∃ (c : Nat) (pa : Addr) (ps : List Nat), x = .int (c : Nat) ∧ y = .ref pa ∧ c < n ∧ SqOf H pa (ints_ ps) ∧ (∀ x ∈ ps, x < n) ∧ ps.Nodup ∧
      ∀ H' u t fd, Same H H' → H' u = some (.tup [.ref t, .non]) → H' t = some (.tup (ints_ fd)) → fd.Pairwise (· ≤ ·) → fd.Nodup → (∀ x ∈ fd, x < n) → (∀ x, x ∈ fd ↔ KL.Rch (edge es) ps c x) → Q (.ref u) H') ∨
   (∃ d, Th1 H x d ∧ wholeV x 0 ((n : Nat) - 1) = false ∧ ∀ H' u t, Same H H' → H' u = some (.tup [.non, .ref t]) → H' t = some (.tup [.bl true, .bl false, .str d.shown]) → Q (.ref u) H') ∨
   (∃ c : Nat, x = .int (c : Nat) ∧ c < n ∧ BadLot K n H y ∧ ∀ H' u t, Same H H' → H' u = some (.tup [.non, .ref t]) → H' t = some (.tup [.bl false, .bl true, .str "passing"]) → Q (.ref u) H'))
theorem ok_told (T : Tl K mg a) (TS : Ts K mg S iS) (T3 : Te K mg a.B S L) {f fre fio fow : Addr} {fd fdre fdio fdow : FuncData} (F : Fun K "_law_told" "_law_told" s__law_told f fd)
    (Gre : FnOk P w K mg base (L2.CX P w) 6 fre fdre ["land", "cell", "passing"] (spReach K a S)) (gre : mg "reached" = some (.ref fre)) (kre : PySem.W.keepIn K (.ref fre) = true) (bre : Binds K fdre ["land", "cell", "passing"] [])
    (Gio : FnOk P w K mg base (L2.CX P w) 6 fio fdio ["land", "cell", "passing"] (spIsOpen K a S)) (gio : mg "is_open" = some (.ref fio)) (kio : PySem.W.keepIn K (.ref fio) = true) (bio : Binds K fdio ["land", "cell", "passing"] [])
    (Gow : FnOk P w K mg base (L2.CX P w) 6 fow fdow ["land", "cell", "passing"] (spWay K a S)) (gow : mg "open_way" = some (.ref fow)) (kow : PySem.W.keepIn K (.ref fow) = true) (bow : Binds K fdow ["land", "cell", "passing"] [])
    (m_isinstance : mg "isinstance" = none) (m_repr : mg "repr" = none) : K7E.FnG P w K mg base CX0 7 f fd ["_law_sort", "_law_land_here", "_law_cell", "_law_passing"] (spTold K a) := by
  refine K7E.okG F sc__law_told (fun vs H Q E h => ?_) (fun cdv A outer s H vs Q E hg hr h => ?_)
  · obtain ⟨p, n, es, rd, k, x, y, rfl, _⟩ := h
    rfl
  · obtain ⟨p, n, es, rd, sort, x, y, rfl, Lo, h⟩ := h
    refine ⟨_, (pss_cons (ps_asg (pe_tup (pa_cons pe_non (pa_cons pe_non pa_nil))) (pg_tup rfl (pgs_cons (pg_name (i := 4) sc__law_told.nd rfl (by first | exact Or.inl rfl | exact Or.inr rfl)) (pgs_cons (pg_name (i := 5) sc__law_told.nd rfl (by first | exact Or.inl rfl | exact Or.inr rfl)) pgs_nil))))
 (pss_cons (ps_try_as (i := 6) rfl rfl sc__law_told.nd rfl rfl ⟨rfl, by decide, .inl T3.gL⟩ takes0 (fun W pn xe tk _ => (pss_one (ps_if (pt_cmpR op_eq (pv 0) pe_int (nomark _))
  (pss_one (ps_set (i := 4) sc__law_told.nd rfl (by first | exact Or.inl rfl | exact Or.inr rfl) (K7E.pe_callW Gre (hr.mono (by decide)) (by rfl) gre kre bre .nil tk (pa_cons (pv 1) (pa_cons (pv 2) (pa_cons (pv 3) pa_nil))))))
  (pss_one (ps_if (pt_cmpR op_eq (pv 0) pe_int (nomark _))
  (pss_one (ps_set (i := 4) sc__law_told.nd rfl (by first | exact Or.inl rfl | exact Or.inr rfl) (K7E.pe_callW Gio (hr.mono (by decide)) (by rfl) gio kio bio .nil tk (pa_cons (pv 1) (pa_cons (pv 2) (pa_cons (pv 3) pa_nil))))))
  (pss_one (ps_set (i := 4) sc__law_told.nd rfl (by first | exact Or.inl rfl | exact Or.inr rfl) (K7E.pe_callW Gow (hr.mono (by decide)) (by rfl) gow kow bow .nil tk (pa_cons (pv 1) (pa_cons (pv 2) (pa_cons (pv 3) pa_nil))))))))))) (fun b oe cls d pn hz hf => (pss_one (ps_set (i := 5) sc__law_told.nd rfl (by first | exact Or.inl rfl | exact Or.inr rfl) (pe_tup (pa_cons (pe_callB ((K7E.call_isEdX T3.exB hz hf).or (K7E.call_isEdX T3.exS hz hf)) (by rfl) m_isinstance boot_isinstance (pa_cons (pv 6) (pa_cons (pe_glob (v := .ref _) rfl T.gB rfl) pa_nil))) (pa_cons (pe_callB ((K7E.call_isEdX T3.exB hz hf).or (K7E.call_isEdX T3.exS hz hf)) (by rfl) m_isinstance boot_isinstance (pa_cons (pv 6) (pa_cons (pe_glob (v := .ref _) rfl TS.g rfl) pa_nil))) (pa_cons (pe_ifExp (pt_val (pe_callB ((K7E.call_isEdX T3.exB hz hf).or (K7E.call_isEdX T3.exS hz hf)) (by rfl) m_isinstance boot_isinstance (pa_cons (pv 6) (pa_cons (pe_glob (v := .ref _) rfl T.gB rfl) pa_nil)))) (pe_callB (K7E.call_reprS (X := (cxOf CX0 P w K mg base N__law_told "_law_told" (defScope s__law_told) f cdv A outer s H E).nox) (b := b) (pn := (b, oe) :: pn) hg hr.units) (by rfl) m_repr boot_repr (pa_cons (pe_xf T3.xfB T.nB hz hf (pv 6)) pa_nil)) (pe_xf T3.xfS TS.no hz hf (pv 6))) pa_nil))))))))
 (pss_one (ps_ret (pe_tup (pa_cons (pv 4) (pa_cons (pv 5) pa_nil))))))), ?_⟩
    refine ⟨by show 2 ≤ sizeLine; decide, fun t0 nt0 => ?_⟩
    have e0 := al (o := .tup [V.non, V.non]) nt0
    refine ⟨t0, _, rfl, .inl (.inl upd_same), rfl, _, _, rfl, _, _, rfl, rfl, ?_⟩
    generalize upd H t0 (.tup [V.non, V.non]) = H0 at e0 ⊢
    have Lo0 := Lo.same e0
    rcases h with ⟨rfl, c, pa, ps, rfl, rfl, hc, hpa, plt, pnd, q⟩ | ⟨d, th, wf, q⟩ | ⟨c, rfl, hc, bl, q⟩
    · refine ⟨_, rfl, rfl, _, rfl, ?_⟩
      rw [decide_eq_true rfl]
      refine iteT ?_
      refine ⟨_, rfl, _, rfl, _, rfl, p, n, es, rd, _, _, rfl, Lo0, .inl ⟨c, rfl, hc, .inl ⟨pa, ps, rfl, hpa.same e0, plt, pnd, fun H1 t fd e1 ht so nd lt iff => ?_⟩⟩⟩
      refine ⟨_, rfl, _, rfl, by show 2 ≤ sizeLine; decide, fun u nu => ?_⟩
      exact q _ u t fd ((e0.trans e1).trans (al nu)) upd_same (al nu _ _ ht) so nd lt iff
    · have th0 := th.same e0
      refine ⟨_, rfl, rfl, _, rfl, ite2 (fun c1 => ?_) (fun c1 => ?_)⟩
      · refine ⟨_, rfl, _, rfl, _, rfl, p, n, es, rd, x, y, rfl, Lo0, .inr ⟨th0.thing, wf, fun H' d' e nd hd => ?_⟩⟩
        refine ⟨true, T3.mB, fun _ b hb' => ?_, fun z => nomatch z⟩
        refine ⟨_, rfl, .inl ⟨rfl, d', rfl, .ref a.B, .ref a.B, true, _, rfl, fun u h => h, T3.kBB, hd, ?_⟩⟩
        refine ⟨_, rfl, .inl ⟨rfl, d', rfl, .ref S, .ref S, false, _, rfl, fun u h => h, T3.kBS, hd, ?_⟩⟩
        refine ⟨_, rfl, .inl ⟨rfl, d', rfl, .ref a.B, .ref a.B, true, _, rfl, fun u h => h, T3.kBB, hd, ?_⟩⟩
        refine ⟨_, rfl, ?_⟩
        refine iteT ?_
        refine ⟨_, rfl, rfl, rfl, d', _, _, rfl, hd, rfl, ?_⟩
        refine ⟨x, _, rfl, (th0.same e).rpr, ?_⟩
        refine ⟨by show 3 ≤ sizeLine; decide, fun t nt => ?_⟩
        refine ⟨_, rfl, _, rfl, by show 2 ≤ sizeLine; decide, fun u nu => ?_⟩
        exact q _ u t (((e0.trans e).trans (al nt)).trans (al nu)) upd_same (al nu _ _ upd_same)
      · refine ⟨_, rfl, rfl, _, rfl, ite2 (fun c2 => ?_) (fun c2 => ?_)⟩
        · refine ⟨_, rfl, _, rfl, _, rfl, p, n, es, rd, x, y, rfl, Lo0, .inr ⟨th0.thing, wf, fun H' d' e nd hd => ?_⟩⟩
          refine ⟨true, T3.mB, fun _ b hb' => ?_, fun z => nomatch z⟩
          refine ⟨_, rfl, .inl ⟨rfl, d', rfl, .ref a.B, .ref a.B, true, _, rfl, fun u h => h, T3.kBB, hd, ?_⟩⟩
          refine ⟨_, rfl, .inl ⟨rfl, d', rfl, .ref S, .ref S, false, _, rfl, fun u h => h, T3.kBS, hd, ?_⟩⟩
          refine ⟨_, rfl, .inl ⟨rfl, d', rfl, .ref a.B, .ref a.B, true, _, rfl, fun u h => h, T3.kBB, hd, ?_⟩⟩
          refine ⟨_, rfl, ?_⟩
          refine iteT ?_
          refine ⟨_, rfl, rfl, rfl, d', _, _, rfl, hd, rfl, ?_⟩
          refine ⟨x, _, rfl, (th0.same e).rpr, ?_⟩
          refine ⟨by show 3 ≤ sizeLine; decide, fun t nt => ?_⟩
          refine ⟨_, rfl, _, rfl, by show 2 ≤ sizeLine; decide, fun u nu => ?_⟩
          exact q _ u t (((e0.trans e).trans (al nt)).trans (al nu)) upd_same (al nu _ _ upd_same)
        · refine ⟨_, rfl, _, rfl, _, rfl, p, n, es, rd, x, y, rfl, Lo0, .inr ⟨th0.thing, wf, fun H' d' e nd hd => ?_⟩⟩
          refine ⟨true, T3.mB, fun _ b hb' => ?_, fun z => nomatch z⟩
          refine ⟨_, rfl, .inl ⟨rfl, d', rfl, .ref a.B, .ref a.B, true, _, rfl, fun u h => h, T3.kBB, hd, ?_⟩⟩
          refine ⟨_, rfl, .inl ⟨rfl, d', rfl, .ref S, .ref S, false, _, rfl, fun u h => h, T3.kBS, hd, ?_⟩⟩
          refine ⟨_, rfl, .inl ⟨rfl, d', rfl, .ref a.B, .ref a.B, true, _, rfl, fun u h => h, T3.kBB, hd, ?_⟩⟩
          refine ⟨_, rfl, ?_⟩
          refine iteT ?_
          refine ⟨_, rfl, rfl, rfl, d', _, _, rfl, hd, rfl, ?_⟩
          refine ⟨x, _, rfl, (th0.same e).rpr, ?_⟩
          refine ⟨by show 3 ≤ sizeLine; decide, fun t nt => ?_⟩
          refine ⟨_, rfl, _, rfl, by show 2 ≤ sizeLine; decide, fun u nu => ?_⟩
          exact q _ u t (((e0.trans e).trans (al nt)).trans (al nu)) upd_same (al nu _ _ upd_same)
    · have bl0 := bl.same e0
      refine ⟨_, rfl, rfl, _, rfl, ite2 (fun c1 => ?_) (fun c1 => ?_)⟩
      · refine ⟨_, rfl, _, rfl, _, rfl, p, n, es, rd, _, y, rfl, Lo0, .inl ⟨c, rfl, hc, .inr ⟨bl0, fun H' d' e nd hd => ?_⟩⟩⟩
        refine ⟨true, T3.mS, fun _ b hb' => ?_, fun z => nomatch z⟩
        refine ⟨_, rfl, .inr ⟨rfl, d', rfl, .ref a.B, .ref a.B, false, _, rfl, fun u h => h, T3.kSB, hd, ?_⟩⟩
        refine ⟨_, rfl, .inr ⟨rfl, d', rfl, .ref S, .ref S, true, _, rfl, fun u h => h, T3.kSS, hd, ?_⟩⟩
        refine ⟨_, rfl, .inr ⟨rfl, d', rfl, .ref a.B, .ref a.B, false, _, rfl, fun u h => h, T3.kSB, hd, ?_⟩⟩
        refine ⟨_, rfl, ?_⟩
        refine iteF ?_
        refine ⟨_, rfl, rfl, rfl, d', _, _, rfl, hd, rfl, ?_⟩
        refine ⟨by show 3 ≤ sizeLine; decide, fun t nt => ?_⟩
        refine ⟨_, rfl, _, rfl, by show 2 ≤ sizeLine; decide, fun u nu => ?_⟩
        exact q _ u t (((e0.trans e).trans (al nt)).trans (al nu)) upd_same (al nu _ _ upd_same)
      · refine ⟨_, rfl, rfl, _, rfl, ite2 (fun c2 => ?_) (fun c2 => ?_)⟩
        · refine ⟨_, rfl, _, rfl, _, rfl, p, n, es, rd, _, y, rfl, Lo0, .inl ⟨c, rfl, hc, .inr ⟨bl0, fun H' d' e nd hd => ?_⟩⟩⟩
          refine ⟨true, T3.mS, fun _ b hb' => ?_, fun z => nomatch z⟩
          refine ⟨_, rfl, .inr ⟨rfl, d', rfl, .ref a.B, .ref a.B, false, _, rfl, fun u h => h, T3.kSB, hd, ?_⟩⟩
          refine ⟨_, rfl, .inr ⟨rfl, d', rfl, .ref S, .ref S, true, _, rfl, fun u h => h, T3.kSS, hd, ?_⟩⟩
          refine ⟨_, rfl, .inr ⟨rfl, d', rfl, .ref a.B, .ref a.B, false, _, rfl, fun u h => h, T3.kSB, hd, ?_⟩⟩
          refine ⟨_, rfl, ?_⟩
          refine iteF ?_
          refine ⟨_, rfl, rfl, rfl, d', _, _, rfl, hd, rfl, ?_⟩
          refine ⟨by show 3 ≤ sizeLine; decide, fun t nt => ?_⟩
          refine ⟨_, rfl, _, rfl, by show 2 ≤ sizeLine; decide, fun u nu => ?_⟩
          exact q _ u t (((e0.trans e).trans (al nt)).trans (al nu)) upd_same (al nu _ _ upd_same)
        · refine ⟨_, rfl, _, rfl, _, rfl, p, n, es, rd, _, y, rfl, Lo0, .inl ⟨c, rfl, hc, .inr ⟨bl0, fun H' d' e nd hd => ?_⟩⟩⟩
          refine ⟨true, T3.mS, fun _ b hb' => ?_, fun z => nomatch z⟩
          refine ⟨_, rfl, .inr ⟨rfl, d', rfl, .ref a.B, .ref a.B, false, _, rfl, fun u h => h, T3.kSB, hd, ?_⟩⟩
          refine ⟨_, rfl, .inr ⟨rfl, d', rfl, .ref S, .ref S, true, _, rfl, fun u h => h, T3.kSS, hd, ?_⟩⟩
          refine ⟨_, rfl, .inr ⟨rfl, d', rfl, .ref a.B, .ref a.B, false, _, rfl, fun u h => h, T3.kSB, hd, ?_⟩⟩
          refine ⟨_, rfl, ?_⟩
          refine iteF ?_
          refine ⟨_, rfl, rfl, rfl, d', _, _, rfl, hd, rfl, ?_⟩
          refine ⟨by show 3 ≤ sizeLine; decide, fun t nt => ?_⟩
          refine ⟨_, rfl, _, rfl, by show 2 ≤ sizeLine; decide, fun u nu => ?_⟩
          exact q _ u t (((e0.trans e).trans (al nt)).trans (al nu)) upd_same (al nu _ _ upd_same)
end
end K7
end
/-! ## MN -/
section
/-! min of a list of data that can be compared with one another. -/
namespace K7S
open PySem PySem.Spec PyProof.Rows L2
section
variable {X : Cx}
def rMinD (K : PySem.W.Frag) : List V → Hp → VK → Prop := fun vs H Q => ∃ (a : Addr) (xs : List V) (d : PyData) (ds : List PyData), vs = [V.ref a] ∧ SqL K H a xs ∧ DpAll K H xs (d :: ds) ∧
  PySem.W.AlikeAll (d :: ds) ∧ PyData.canLayAll0 (d :: ds) = true ∧ PyData.depthAll (d :: ds) ≤ 64 ∧ ∀ (i : Nat) (v : V), xs[i]? = some v → (d :: ds)[i]? = some (PySem.W.minD d ds) → Q v H
theorem vals_back {vs : List V} {us : List Value} (r : Vals vs us) : ∀ {i : Nat} {u : Value}, us[i]? = some u → ∃ v, vs[i]? = some v ∧ RelV v u := by
  induction r with
  | nil => exact fun {i u} h => nomatch h
  | cons r1 _ ih =>
    intro i u h
    cases i with
    | zero =>
      obtain rfl := Option.some.inj h
      exact ⟨_, rfl, r1⟩
    | succ i => exact ih (i := i) h
theorem minD_mem (d : PyData) : ∀ ds : List PyData, PySem.W.minD d ds ∈ d :: ds := by
  intro ds
  have z : ∀ (ds : List PyData) (a : PyData), ds.foldl (fun a y => if PySem.W.dataLt y a then y else a) a ∈ a :: ds := by
    intro ds
    induction ds with
    | nil => exact fun a => List.mem_cons_self ..
    | cons y ds ih =>
      intro a
      rcases List.mem_cons.mp (ih (if PySem.W.dataLt y a then y else a)) with e | e
      · rw [List.foldl_cons, e]
        split
        · exact List.mem_cons_of_mem _ (List.mem_cons_self ..)
        · exact List.mem_cons_self ..
      · exact List.mem_cons_of_mem _ (List.mem_cons_of_mem _ e)
  exact z ds d
theorem cr_minD (hc : X.calm = true) (hu : X.A.units + 65 < cLine) : CallR X (.builtin "min") (rMinD X.K) := by
  intro pins s τ H vs us Q I r h
  obtain ⟨a, xs, d, ds, rfl, hs, hd, hal, hlay, hdep, q⟩ := h
  obtain ⟨its, rv, hl, _⟩ := I.list hs
  rw [Vals.ref1 r]
  obtain ⟨as, hr⟩ := Dp.readsAll I (d :: ds) _ its hd rv
  have hmap : its.map (SeqAt.readOf s.heap) = d :: ds := SeqAt.readsAll_map (d :: ds) its as hlay hr
  refine PySem.W.min_list_data (I.ok.hd hc) hl.isList hr hal (by omega) fun i v h' tk bs hv hrd hk => ?_
  have hv : its[i]? = some v := by simpa using hv
  obtain ⟨x, hx, rx⟩ := vals_back rv hv
  have hi := congrArg (fun l : List PyData => l[i]?) hmap
  simp only [List.getElem?_map, hv, Option.map_some] at hi
  have all : ∀ (l : List PyData), PyData.canLayAll0 l = true → ∀ z ∈ l, z.canLay0 = true := by
    intro l
    induction l with
    | nil => exact fun _ z hz => nomatch hz
    | cons y l ih =>
      intro h z hz
      rw [PyData.canLayAll0, Bool.and_eq_true] at h
      rcases List.mem_cons.mp hz with rfl | hz
      · exact h.1
      · exact ih h.2 z hz
  obtain ⟨cs, r1, _, m1, _⟩ := PySem.W.readsAll_at hr i v hv
  have e1 := SeqAt.readOf_eq (all _ hlay _ m1) (PySem.W.reads_keeps hk r1)
  have e2 := SeqAt.readOf_eq (all _ hlay _ (minD_mem d ds)) hrd
  have e3 := SeqAt.readOf_eq (all _ hlay _ m1) r1
  refine ⟨x, H, I.kept (t' := tk) hk, rx, q i x hx (hi.symm.trans ?_)⟩
  rw [e3, ← e1, e2]
end
end K7S
end
/-! ## MW -/
section
open PySem PySem.Spec PyProof.Rows L2
namespace K7
open KW2
theorem int_lt : ∀ u v : List Nat, (u.map fun c => ((c : Nat) : Int)) < (v.map fun c => ((c : Nat) : Int)) ↔ u < v
  | [], [] => ⟨fun h => absurd h (by intro h; cases h), fun h => absurd h (lt_irr [])⟩
  | [], b :: v => ⟨fun _ => List.Lex.nil, fun _ => List.Lex.nil⟩
  | a :: u, [] => ⟨(fun h => nomatch h), (fun h => nomatch h)⟩
  | a :: u, b :: v => by
    rw [List.map_cons, List.map_cons, List.cons_lt_cons_iff, List.cons_lt_cons_iff, int_lt u v]
    constructor
    · rintro (h | ⟨h, h'⟩)
      · exact .inl (by omega)
      · exact .inr ⟨by omega, h'⟩
    · rintro (h | ⟨h, h'⟩)
      · exact .inl (by omega)
      · exact .inr ⟨by omega, h'⟩
theorem dlt_rows (u v : List Nat) : PySem.W.dataLt (intD u) (intD v) = decide (u < v) := by
  have e : ∀ l : List Nat, intD l = .tuple ((l.map fun c => ((c : Nat) : Int)).map PyData.int) := fun l => by unfold intD; rw [List.map_map]; rfl
  rw [e u, e v, PySem.W.dataLt_tuple]
  exact (PySem.W.dataLt_ints _ _).trans (decide_eq_decide.mpr (int_lt u v))
theorem alike_rows : ∀ u v : List Nat, PySem.W.alikeAll (u.map fun c => PyData.int (c : Nat)) (v.map fun c => PyData.int (c : Nat)) = true
  | [], _ => by cases ‹List Nat› <;> rfl
  | _ :: _, [] => rfl
  | a :: u, b :: v => by
    show (PySem.W.alike (.int a) (.int b) && PySem.W.alikeAll _ _) = true
    rw [alike_rows u v]
    rfl
theorem alike_ws (ws : List (List Nat)) : PySem.W.AlikeAll (ws.map intD) := by
  refine ⟨fun x hx y hy => ?_, fun x hx => ?_⟩
  · obtain ⟨u, _, rfl⟩ := List.mem_map.mp hx
    obtain ⟨v, _, rfl⟩ := List.mem_map.mp hy
    show PySem.W.alikeAll _ _ = true
    exact alike_rows u v
  · obtain ⟨u, _, rfl⟩ := List.mem_map.mp hx
    intro e
    cases e
/-- the least of rows -/
def minL (v : List Nat) (ws : List (List Nat)) : List Nat := ws.foldl (fun a y => if decide (y < a) then y else a) v
theorem minD_rows : ∀ (ws : List (List Nat)) (v : List Nat), PySem.W.minD (intD v) (ws.map intD) = intD (minL v ws)
  | [], v => rfl
  | y :: ws, v => by
    show PySem.W.minD (if PySem.W.dataLt (intD y) (intD v) then intD y else intD v) (ws.map intD) = intD (minL (if decide (y < v) then y else v) ws)
    rw [← minD_rows ws, dlt_rows]
    congr 1
    split <;> rfl
theorem minL_least {L : Nat} : ∀ (ws : List (List Nat)) (v : List Nat), v.length = L → (∀ u ∈ ws, u.length = L) → minL v ws ∈ v :: ws ∧ ∀ u ∈ v :: ws, ¬ u < minL v ws
  | [], v, _, _ => ⟨List.mem_cons_self .., fun u hu => by rw [List.mem_singleton.mp hu]; exact lt_irr _⟩
  | y :: ws, v, hv, hw => by
    have hy := hw y (List.mem_cons_self ..)
    have hw' := fun u hu => hw u (List.mem_cons_of_mem _ hu)
    have step : minL v (y :: ws) = minL (if decide (y < v) then y else v) ws := rfl
    by_cases h : y < v
    · rw [step, if_pos (decide_eq_true h)]
      obtain ⟨m1, m2⟩ := minL_least ws y hy hw'
      refine ⟨List.mem_cons_of_mem _ m1, fun u hu => ?_⟩
      rcases List.mem_cons.mp hu with rfl | hu
      · exact fun e => m2 y (List.mem_cons_self ..) (lt_tr _ _ _ h e)
      · exact m2 u hu
    · rw [step, if_neg (by rw [decide_eq_false h]; decide)]
      obtain ⟨m1, m2⟩ := minL_least ws v hv hw'
      refine ⟨?_, fun u hu => ?_⟩
      · rcases List.mem_cons.mp m1 with e | e
        · rw [e]; exact List.mem_cons_self ..
        · exact List.mem_cons_of_mem _ (List.mem_cons_of_mem _ e)
      · rcases List.mem_cons.mp hu with rfl | hu
        · exact m2 _ (List.mem_cons_self ..)
        · rcases List.mem_cons.mp hu with rfl | hu
          · intro e
            rcases lt_tri u v (by rw [hy, hv]) with z | z | z
            · exact h z
            · subst z
              exact m2 _ (List.mem_cons_self ..) e
            · exact m2 v (List.mem_cons_self ..) (lt_tr _ _ _ z e)
          · exact m2 u (List.mem_cons_of_mem _ hu)
theorem intD_inj {u v : List Nat} (h : intD u = intD v) : u = v := by
  unfold intD at h
  injection h with h
  refine (List.map_inj_right fun a b e => ?_).mp h
  injection e with e
  omega
/-- the least way is the least of all ways of the fewest cells -/
theorem least_is {es : List (Nat × Nat)} {lot ps : List Nat} {c : Nat} {w : List Nat} {v : List Nat} {ws : List (List Nat)} (lw : LeastWay es lot ps c w) (ok : WaysOk es lot ps c (v :: ws)) : minL v ws = w := by
  obtain ⟨x, hx, wy, least⟩ := lw
  rcases ok with ⟨e, _⟩ | ⟨_, L, iff, low⟩
  · cases e
  · have all : ∀ u ∈ v :: ws, u.length = L := fun u hu => ((iff u).mp hu).2
    obtain ⟨m1, m2⟩ := minL_least ws v (all v (List.mem_cons_self ..)) fun u hu => all u (List.mem_cons_of_mem _ hu)
    obtain ⟨⟨a, wya, ha⟩, hl⟩ := (iff _).mp m1
    have wl : w.length = L := by
      have l1 := low w x wy hx
      rcases least _ a wya.wk ha with z | ⟨z, _⟩ <;> omega
    have wm : w ∈ v :: ws := (iff w).mpr ⟨⟨x, wy, hx⟩, wl⟩
    rcases least _ a wya.wk ha with z | ⟨_, z⟩
    · omega
    · rcases lt_tri (minL v ws) w (by rw [hl, wl]) with y | y | y
      · exact absurd y z
      · exact y
      · exact absurd y (m2 w wm)
theorem lay_ws (ws : List (List Nat)) : PyData.canLayAll0 (ws.map intD) = true ∧ PyData.depthAll (ws.map intD) ≤ 64 := by
  have z : (PyData.canLay0 (.list (ws.map intD)) && decide (PyData.depth (.list (ws.map intD)) ≤ 64)) = true := shaped_rows ws
  obtain ⟨z1, z2⟩ := Bool.and_eq_true_iff.mp z
  have z2 := of_decide_eq_true z2
  refine ⟨by simpa [PyData.canLay0] using z1, ?_⟩
  have : PyData.depth (.list (ws.map intD)) = PyData.depthAll (ws.map intD) + 1 := by simp [PyData.depth]
  omega
end K7
end
/-! ## P20 -/
section
open PySem PySem.Spec PyProof.Rows L2
namespace K7
abbrev N__law_right : List Str := ["_law_plain", "_law_land_here", "_law_cell", "_law_passing", "_law_row", "_law_seen", "_law_answer", "_law_told_here", "_law_due", "_law_ways_here", "_law_way"]
abbrev s__law_right : Stmt := topS 39
theorem sc__law_right : FnScope ["_law_plain", "_law_land_here", "_law_cell", "_law_passing", "_law_row", "_law_seen", "_law_answer", "_law_told_here", "_law_due", "_law_ways_here", "_law_way"] ["_law_plain", "_law_land_here", "_law_cell", "_law_passing"] (defScope s__law_right) := ⟨rfl, rfl, rfl, by decide +kernel, rfl, by decide +kernel, by decide +kernel⟩
open KW2
theorem shapedL_ints (l : List Nat) : SeqAt.shaped (.list (l.map fun c => PyData.int (c : Nat))) = true := by
  have z : ((PyData.canLay0 (intD l)) && decide (PyData.depth (intD l) ≤ 64)) = true := shaped_ints l
  show ((PyData.canLay0 (.list (l.map fun c => PyData.int (c : Nat)))) && decide (PyData.depth (.list (l.map fun c => PyData.int (c : Nat))) ≤ 64)) = true
  unfold intD at z
  simpa [PyData.canLay0, PyData.depth] using z
theorem eqv_self (l : List Nat) : PyData.eqv (intD l) (intD l) = true := by
  have z : (PyData.canLay0 (intD l) && decide (PyData.depth (intD l) ≤ 64)) = true := shaped_ints l
  exact PySem.SeqAt.eqv_refl _ (Bool.and_eq_true_iff.mp z).1
theorem eqvL_self (l : List Nat) : PyData.eqv (.list (l.map fun c => PyData.int (c : Nat))) (.list (l.map fun c => PyData.int (c : Nat))) = true := by
  have z : (PyData.canLay0 (.list (l.map fun c => PyData.int (c : Nat))) && decide (PyData.depth (.list (l.map fun c => PyData.int (c : Nat))) ≤ 64)) = true := shapedL_ints l
  exact PySem.SeqAt.eqv_refl _ (Bool.and_eq_true_iff.mp z).1
theorem ways_open {es : List (Nat × Nat)} {lot ps : List Nat} {c : Nat} {ws : List (List Nat)} (h : WaysOk es lot ps c ws) : (!(ws.map intD).isEmpty) = true ↔ OpenV es lot ps c := by
  rcases h with ⟨rfl, h⟩ | ⟨h, L, iff, _⟩
  · refine ⟨(fun z => by cases z), fun ⟨x, hx, r⟩ => ?_⟩
    obtain ⟨w, hw⟩ := rch_way r
    exact absurd hx (h w x hw)
  · cases ws with
    | nil => exact absurd rfl h
    | cons w ws =>
      refine ⟨fun _ => ?_, fun _ => rfl⟩
      obtain ⟨⟨a, wy, ha⟩, _⟩ := (iff w).mp (List.mem_cons_self ..)
      exact ⟨a, ha, wk_rch wy.wk⟩
theorem least_open {es : List (Nat × Nat)} {lot ps : List Nat} {c : Nat} {w : List Nat} (h : LeastWay es lot ps c w) : OpenV es lot ps c := by
  obtain ⟨x, hx, wy, _⟩ := h
  exact ⟨x, hx, wk_rch wy.wk⟩
theorem asc_eq {l m : List Nat} (hl : l.Pairwise (· ≤ ·)) (hm : m.Pairwise (· ≤ ·)) (nl : l.Nodup) (nm : m.Nodup) (h : ∀ x, x ∈ l ↔ x ∈ m) : l = m :=
  KL.uniq (fun a b (h1 : a ≤ b) (h2 : b ≤ a) => Nat.le_antisymm h1 h2) ((List.perm_ext_iff_of_nodup nl nm).mpr h) hl hm
section
variable {P : Program} {w : World} {K : PySem.W.Frag} {mg : Str → Option Value} {base : Heap} {a : AdL} {S iS L : Addr}
def spRight (K : PySem.W.Frag) (a : AdL) : Sp := fun vs H Q _ => ∃ (q0 p : Addr) (n : Nat) (es : List (Nat × Nat)) (lot : List Nat) (c : Nat) (pa : Addr) (ps : List Nat), vs = [.ref q0, .ref p, .int (c : Nat), .ref pa] ∧ LandAt H q0 n es lot ∧ n ≤ 5 ∧ LandO a.C H p n es lot ∧ c < n ∧
  H pa = some (.lst (ints_ ps)) ∧ (∀ x ∈ ps, x < n) ∧ ps.Nodup ∧ ∀ H', Same H H' → Q (.bl true) H'
theorem ok_right (T : Tl K mg a) {f flc flo flw fsy fop fio fow fto : Addr} {fd fdlc fdlo fdlw fdsy fdop fdio fdow fdto : FuncData} (F : Fun K "_law_right" "_law_right" s__law_right f fd)
    (Glc : FnOk P w K mg base CX0 1 flc fdlc ["_law_land_here", "_law_cell", "_law_passing"] spComes) (glc : mg "_law_comes" = some (.ref flc)) (klc : PySem.W.keepIn K (.ref flc) = true) (blc : Binds K fdlc ["_law_land_here", "_law_cell", "_law_passing"] [])
    (Glo : FnOk P w K mg base CX0 2 flo fdlo ["_law_land_here", "_law_cell", "_law_passing"] spLOpen) (glo : mg "_law_open" = some (.ref flo)) (klo : PySem.W.keepIn K (.ref flo) = true) (blo : Binds K fdlo ["_law_land_here", "_law_cell", "_law_passing"] [])
    (Glw : FnOk P w K mg base CX0 1 flw fdlw ["_law_land_here", "_law_cell", "_law_passing"] spWays) (glw : mg "_law_ways" = some (.ref flw)) (klw : PySem.W.keepIn K (.ref flw) = true) (blw : Binds K fdlw ["_law_land_here", "_law_cell", "_law_passing"] [])
    (Gsy : FnOk P w K mg base CX0 1 fsy fdsy ["_law_answer", "_law_due"] spSays) (gsy : mg "_law_says" = some (.ref fsy)) (ksy : PySem.W.keepIn K (.ref fsy) = true) (bsy : Binds K fdsy ["_law_answer", "_law_due"] [])
    (Gop : FnOk P w K mg base CX0 2 fop fdop ["land", "cell", "passing"] (spOpens a.C)) (gop : mg "opens" = some (.ref fop)) (kop : PySem.W.keepIn K (.ref fop) = true) (bop : Binds K fdop ["land", "cell", "passing"] [])
    (Gio : FnOk P w K mg base (L2.CX P w) 6 fio fdio ["land", "cell", "passing"] (spIsOpen K a S)) (gio : mg "is_open" = some (.ref fio)) (kio : PySem.W.keepIn K (.ref fio) = true) (bio : Binds K fdio ["land", "cell", "passing"] [])
    (Gow : FnOk P w K mg base (L2.CX P w) 6 fow fdow ["land", "cell", "passing"] (spWay K a S)) (gow : mg "open_way" = some (.ref fow)) (kow : PySem.W.keepIn K (.ref fow) = true) (bow : Binds K fdow ["land", "cell", "passing"] [])
    (Gto : K7E.FnG P w K mg base CX0 7 fto fdto ["_law_sort", "_law_land_here", "_law_cell", "_law_passing"] (spTold K a)) (gto : mg "_law_told" = some (.ref fto)) (kto : PySem.W.keepIn K (.ref fto) = true) (bto : Binds K fdto ["_law_sort", "_law_land_here", "_law_cell", "_law_passing"] [])
    (m_isinstance : mg "isinstance" = none) (m_list : mg "list" = none) (m_tuple : mg "tuple" = none) (m_sorted : mg "sorted" = none) (m_min : mg "min" = none) : K7E.FnG P w K mg base CX0 8 f fd ["_law_plain", "_law_land_here", "_law_cell", "_law_passing"] (spRight K a) := by
  refine K7E.okG F sc__law_right (fun vs H Q E h => ?_) (fun cdv A outer s H vs Q E hg hr h => ?_)
  · obtain ⟨q0, p, n, es, lot, c, pa, ps, rfl, _⟩ := h
    rfl
  · obtain ⟨q0, p, n, es, lot, c, pa, ps, rfl, La, n5, Lo, hc, hpa, plt, pnd, k⟩ := h
    refine ⟨_, (Evl.pss_cut (ps_set (i := 4) sc__law_right.nd rfl (by first | exact Or.inl rfl | exact Or.inr rfl) (pe_callTy call_list_of (by rfl) m_list boot_list (pa_cons (pv 3) pa_nil)))
 (Evl.pss_cut (ps_set (i := 5) sc__law_right.nd rfl (by first | exact Or.inl rfl | exact Or.inr rfl) (pe_callB K7S.cr_sortA (by rfl) m_sorted boot_sorted (pa_cons (pe_call Glc (hr.mono (by decide)) (by rfl) glc klc blc .nil pass0 (pa_cons (pv 0) (pa_cons (pv 2) (pa_cons (pv 3) pa_nil)))) pa_nil)))
 (Evl.pss_cut (ps_asg (K7E.pe_callG hg Gto (hr.mono (by decide)) (by rfl) gto kto bto .nil pass0 (pa_cons pe_int (pa_cons (pv 1) (pa_cons (pv 2) (pa_cons (pv 4) pa_nil))))) (pg_tup rfl (pgs_cons (pg_name (i := 6) sc__law_right.nd rfl (by first | exact Or.inl rfl | exact Or.inr rfl)) (pgs_cons (pg_name (i := 7) sc__law_right.nd rfl (by first | exact Or.inl rfl | exact Or.inr rfl)) pgs_nil))))
 (Evl.pss_cut (ps_if (pw_or (pt_cmpR op_notN (pv 7) pe_non (nomark _)) (pw_or (pt_not (pt_val (pe_callB call_isi (by rfl) m_isinstance boot_isinstance (pa_cons (pv 6) (pa_cons (pe_bltn (v := .ty "tuple") (by rfl) m_tuple boot_tuple rfl) pa_nil))))) (pw_or1 (pt_cmpR (op_neD hr.units) (pv 6) (pe_callTy call_tuple_of (by rfl) m_tuple boot_tuple (pa_cons (pv 5) pa_nil)) (nomark _))))).pt
  (pss_one (ps_ret pe_bl))
  pss_nil)
 (Evl.pss_cut (ps_set (i := 8) sc__law_right.nd rfl (by first | exact Or.inl rfl | exact Or.inr rfl) (pe_call Glo (hr.mono (by decide)) (by rfl) glo klo blo .nil pass0 (pa_cons (pv 0) (pa_cons (pv 2) (pa_cons (pv 3) pa_nil)))))
 (Evl.pss_cut (ps_if (pw_or (pt_not (pt_val (pe_call Gsy (hr.mono (by decide)) (by rfl) gsy ksy bsy .nil pass0 (pa_cons (pe_call Gio (hr.mono (by decide)) (by rfl) gio kio bio .nil passL (pa_cons (pv 1) (pa_cons (pv 2) (pa_cons (pv 4) pa_nil)))) (pa_cons (pv 8) pa_nil))))) (pw_or1 (pt_not (pt_val (pe_call Gsy (hr.mono (by decide)) (by rfl) gsy ksy bsy .nil pass0 (pa_cons (pe_call Gop (hr.mono (by decide)) (by rfl) gop kop bop .nil pass0 (pa_cons (pv 1) (pa_cons (pv 2) (pa_cons (pe_callTy call_tuple_of (by rfl) m_tuple boot_tuple (pa_cons (pv 4) pa_nil)) pa_nil)))) (pa_cons (pv 8) pa_nil))))))).pt
  (pss_one (ps_ret pe_bl))
  pss_nil)
 (Evl.pss_cut (ps_set (i := 9) sc__law_right.nd rfl (by first | exact Or.inl rfl | exact Or.inr rfl) (pe_call Glw (hr.mono (by decide)) (by rfl) glw klw blw .nil pass0 (pa_cons (pv 0) (pa_cons (pv 2) (pa_cons (pv 3) pa_nil)))))
 (Evl.pss_cut (ps_if (pt_cmpR op_ne (pe_cmpR (op_neD hr.units) (pv 9) (pe_lst pa_nil) (nomark _)) (pv 8) (nomark _))
  (pss_one (ps_ret pe_bl))
  pss_nil)
 (Evl.pss_cut (ps_set (i := 10) sc__law_right.nd rfl (by first | exact Or.inl rfl | exact Or.inr rfl) (pe_call Gow (hr.mono (by decide)) (by rfl) gow kow bow .nil passL (pa_cons (pv 1) (pa_cons (pv 2) (pa_cons (pv 4) pa_nil)))))
 (pss_cons (ps_if (pt_cmpR op_isN (pv 10) pe_non (nomark _))
  (pss_one (ps_ret (pe_and (pe_not (pv 8)) (pe_one (pe_cmpR (op_eqD hr.units) (pv 4) (pe_callTy call_list_of (by rfl) m_list boot_list (pa_cons (pv 3) pa_nil)) (nomark _))))))
  pss_nil)
 (pss_one (ps_ret (pe_and (pv 8) (pe_and (pe_callB call_isi (by rfl) m_isinstance boot_isinstance (pa_cons (pv 10) (pa_cons (pe_bltn (v := .ty "tuple") (by rfl) m_tuple boot_tuple rfl) pa_nil))) (pe_and (pe_cmpR (op_eqD hr.units) (pv 10) (pe_callB (K7S.cr_minD rfl (K7L.hu65 hr)) (by rfl) m_min boot_min (pa_cons (pv 9) pa_nil)) (nomark _)) (pe_one (pe_cmpR (op_eqD hr.units) (pv 4) (pe_callTy call_list_of (by rfl) m_list boot_list (pa_cons (pv 3) pa_nil)) (nomark _)))))))))))))))))), ?_⟩
    have e32 := es_len La.ok n5
    have il : ∀ l : List Nat, (ints_ l).length = l.length := fun l => List.length_map ..
    have p5 : ps.length ≤ 5 := by
      have z := K7E.nodup_le ps (List.range n) pnd fun x hx => List.mem_range.mpr (plt x hx)
      rw [List.length_range] at z
      omega
    -- a row of its own
    refine ⟨fun τ H' => ∃ R, τ = [some (.ref q0), some (.ref p), some (.int (c : Nat)), some (.ref pa), some (.ref R), none, none, none, none, none, none] ∧ Same H H' ∧ H' R = some (.lst (ints_ ps)), ?_, fun τ H1 hM => ?_⟩
    · refine ⟨_, rfl, pa, _, rfl, .inl (.inl (.inl hpa)), fun R nR => ⟨R, rfl, al nR, upd_same⟩⟩
    · obtain ⟨R, rfl, e1, hR⟩ := hM
      -- what the law finds
      refine ⟨fun τ H' => ∃ (Sn : Addr) (fd : List Nat), τ = [some (.ref q0), some (.ref p), some (.int (c : Nat)), some (.ref pa), some (.ref R), some (.ref Sn), none, none, none, none, none] ∧ Same H1 H' ∧ H' Sn = some (.lst (ints_ fd)) ∧ fd.Pairwise (· ≤ ·) ∧ fd.Nodup ∧ ∀ x, x ∈ fd ↔ KL.Rch (edge es) ps c x, ?_, fun τ H2 hM => ?_⟩
      · refine ⟨_, rfl, _, rfl, _, rfl, q0, n, es, lot, c, pa, ps, rfl, La.same e1, n5, e32, hc, .inr (e1 _ _ hpa), fun H2 r sn e2 nr hr2 nd l5 iff => ?_⟩
        refine ⟨r, sn.map fun c => ((c : Nat) : Int), rfl, .inl (.inl (.inl (by rw [List.map_map]; exact hr2))), by rw [List.length_map]; omega, fun ms t pm so nt => ?_⟩
        have bk := ints_back pm
        have pm2 : (ms.map Int.toNat).Perm sn := by
          have z := pm.map Int.toNat
          rw [List.map_map] at z
          exact z.trans (List.Perm.of_eq ((List.map_congr_left fun c _ => Int.toNat_natCast c).trans (List.map_id sn)))
        have so2 : (ms.map Int.toNat).Pairwise (· ≤ ·) := by
          rw [bk, List.pairwise_map] at so
          exact so.imp fun h => by omega
        refine ⟨t, ms.map Int.toNat, rfl, e2.trans (al nt), ?_, so2, pm2.nodup_iff.mpr nd, fun x => pm2.mem_iff.trans (iff x)⟩
        rw [upd_same]
        unfold ints_
        conv => lhs; rw [bk]
        rw [List.map_map]
        rfl
      · obtain ⟨Sn, fd, rfl, e2, hSn, sof, ndf, iff⟩ := hM
        have e12 := e1.trans e2
        -- what is told
        refine ⟨fun τ H' => ∃ t, τ = [some (.ref q0), some (.ref p), some (.int (c : Nat)), some (.ref pa), some (.ref R), some (.ref Sn), some (.ref t), some .non, none, none, none] ∧ Same H2 H' ∧ H' t = some (.tup (ints_ fd)), ?_, fun τ H3 hM => ?_⟩
        · refine ⟨_, rfl, _, rfl, _, rfl, p, n, es, lot, 0, _, _, rfl, Lo.same e12, .inl ⟨rfl, c, R, ps, rfl, rfl, hc, .inr (e2 _ _ hR), plt, pnd, fun H3 u t fd' e3 hu ht so nd lt iff' => ?_⟩⟩
          obtain rfl := asc_eq so sof nd ndf fun x => (iff' x).trans (iff x).symm
          exact ⟨u, _, rfl, .inl (.inl hu), rfl, _, _, rfl, _, _, rfl, rfl, t, rfl, e3, ht⟩
        · obtain ⟨t, rfl, e3, ht⟩ := hM
          have e13 := e12.trans e3
          refine ⟨fun τ H' => τ = [some (.ref q0), some (.ref p), some (.int (c : Nat)), some (.ref pa), some (.ref R), some (.ref Sn), some (.ref t), some .non, none, none, none] ∧ Same H3 H', ?_, fun τ H4 hM => ?_⟩
          · refine ⟨_, rfl, rfl, _, rfl, ?_⟩
            change if (!decide (V.non = V.non)) = true then _ else _
            rw [decide_eq_true rfl]
            refine iteFo rfl ?_
            refine ⟨_, rfl, _, _, _, _, _, rfl, .ty _, .base (.tup ht), kit_ty (r := true) (by decide +kernel), _, rfl, ?_⟩
            refine iteFo rfl ?_
            refine ⟨_, rfl, _, rfl, Sn, _, rfl, .inl ⟨.inl (.inl (e3 _ _ hSn)), fun u nu => ?_⟩⟩
            have e4 := al (o := .tup (ints_ fd)) nu
            refine ⟨intD fd, intD fd, .tup (.inl (.inl (e4 _ _ ht))) (dp_ints fd), .tup (.inl (.inl upd_same)) (dp_ints fd), shaped_ints fd, shaped_ints fd, _, rfl, ?_⟩
            rw [eqv_self]
            exact iteFo rfl ⟨rfl, e4⟩
          · obtain ⟨rfl, e4⟩ := hM
            have e14 := e13.trans e4
            -- is it open
            refine ⟨fun τ H' => ∃ b : Bool, τ = [some (.ref q0), some (.ref p), some (.int (c : Nat)), some (.ref pa), some (.ref R), some (.ref Sn), some (.ref t), some .non, some (.bl b), none, none] ∧ Same H4 H' ∧ (b = true ↔ OpenV es lot ps c), ?_, fun τ H5 hM => ?_⟩
            · exact ⟨_, rfl, _, rfl, _, rfl, q0, n, es, lot, c, pa, ps, rfl, La.same e14, n5, e32, hc, .inr (e14 _ _ hpa), fun H5 b e5 hb => ⟨b, rfl, e5, hb⟩⟩
            · obtain ⟨b, rfl, e5, hb⟩ := hM
              have e15 := e14.trans e5
              have hR5 := e5 _ _ (e4 _ _ (e3 _ _ (e2 _ _ hR)))
              refine ⟨fun τ H' => τ = [some (.ref q0), some (.ref p), some (.int (c : Nat)), some (.ref pa), some (.ref R), some (.ref Sn), some (.ref t), some .non, some (.bl b), none, none] ∧ Same H5 H', ?_, fun τ H6 hM => ?_⟩
              · refine ⟨_, rfl, _, rfl, _, rfl, p, n, es, lot, _, _, rfl, Lo.same e15, .inl ⟨c, rfl, hc, .inl ⟨R, ps, rfl, .inr hR5, plt, pnd, fun H6 b' e6 hb' => ?_⟩⟩⟩
                refine ⟨_, rfl, b', b, rfl, _, rfl, ?_⟩
                rw [decide_eq_true (Bool.eq_iff_iff.mpr (hb'.trans hb.symm))]
                refine iteFo rfl ?_
                refine ⟨_, rfl, _, rfl, _, rfl, R, _, rfl, .inl ⟨.inl (.inl (e6 _ _ hR5)), fun u nu => ?_⟩⟩
                have e7 := al (o := .tup (ints_ ps)) nu
                refine ⟨p, n, es, lot, c, u, ps, rfl, Lo.same ((e15.trans e6).trans e7), hc, .inl upd_same, fun H8 b'' e8 hb'' => ?_⟩
                refine ⟨_, rfl, b'', b, rfl, _, rfl, ?_⟩
                rw [decide_eq_true (Bool.eq_iff_iff.mpr (hb''.trans hb.symm))]
                exact iteFo rfl ⟨rfl, (e6.trans e7).trans e8⟩
              · obtain ⟨rfl, e6⟩ := hM
                have e16 := e15.trans e6
                -- all ways
                refine ⟨fun τ H' => ∃ (W : Addr) (us : List Addr) (ws : List (List Nat)), τ = [some (.ref q0), some (.ref p), some (.int (c : Nat)), some (.ref pa), some (.ref R), some (.ref Sn), some (.ref t), some .non, some (.bl b), some (.ref W), none] ∧ Same H6 H' ∧ H' W = some (.lst (us.map V.ref)) ∧ TAt H' us ws ∧ WaysOk es lot ps c ws, ?_, fun τ H7 hM => ?_⟩
                · exact ⟨_, rfl, _, rfl, _, rfl, q0, n, es, lot, c, pa, ps, rfl, La.same e16, n5, hc, e16 _ _ hpa, plt, pnd, fun H7 W us ws e7 _ hW tW ok _ _ => ⟨W, us, ws, rfl, e7, hW, tW, ok⟩⟩
                · obtain ⟨W, us, ws, rfl, e7, hW, tW, ok⟩ := hM
                  have e17 := e16.trans e7
                  have wo := ways_open ok
                  refine ⟨fun τ H' => τ = [some (.ref q0), some (.ref p), some (.int (c : Nat)), some (.ref pa), some (.ref R), some (.ref Sn), some (.ref t), some .non, some (.bl b), some (.ref W), none] ∧ Same H7 H', ?_, fun τ H8 hM => ?_⟩
                  · refine ⟨_, rfl, by show 0 ≤ sizeLine; decide, fun z nz => ?_⟩
                    have e8 := al (o := .lst []) nz
                    refine ⟨.list (ws.map intD), .list [], .lst (.inl (.inl (e8 _ _ hW))) (dp_rows (tW.same e8)), .lst (.inl (.inl upd_same)) .nil, shaped_rows _, shaped_rows [], ?_⟩
                    rw [eqv_lnil, show (!(ws.map intD).isEmpty) = b from Bool.eq_iff_iff.mpr (wo.trans hb.symm)]
                    refine ⟨_, rfl, rfl, _, rfl, ?_⟩
                    change if (!decide (V.bl b = V.bl b)) = true then _ else _
                    rw [decide_eq_true rfl]
                    exact iteFo rfl ⟨rfl, e8⟩
                  · obtain ⟨rfl, e8⟩ := hM
                    have e18 := e17.trans e8
                    have hR8 := e8 _ _ (e7 _ _ (e6 _ _ hR5))
                    have hW8 := e8 _ _ hW
                    have tW8 := tW.same e8
                    refine ⟨fun τ H' => ∃ v : V, τ = [some (.ref q0), some (.ref p), some (.int (c : Nat)), some (.ref pa), some (.ref R), some (.ref Sn), some (.ref t), some .non, some (.bl b), some (.ref W), some v] ∧ Same H8 H' ∧ ((∃ y wy, v = .ref y ∧ H' y = some (.tup (ints_ wy)) ∧ LeastWay es lot ps c wy) ∨ (v = .non ∧ ¬ OpenV es lot ps c)), ?_, fun τ H9 hM => ?_⟩
                    · exact ⟨_, rfl, _, rfl, _, rfl, p, n, es, lot, _, _, rfl, Lo.same e18, .inl ⟨c, rfl, hc, .inl ⟨R, ps, rfl, .inr hR8, plt, pnd, fun H9 y wy e9 hy lw => ⟨_, rfl, e9, .inl ⟨y, wy, rfl, hy, lw⟩⟩, fun H9 e9 no => ⟨_, rfl, e9, .inr ⟨rfl, no⟩⟩⟩⟩⟩
                    · obtain ⟨v, rfl, e9, hv⟩ := hM
                      have e19 := e18.trans e9
                      have hR9 := e9 _ _ hR8
                      rcases hv with ⟨y, wy, rfl, hy, lw⟩ | ⟨rfl, no⟩
                      · obtain rfl : b = true := hb.mpr (least_open lw)
                        refine ⟨_, rfl, rfl, _, rfl, ?_⟩
                        rw [decide_eq_false (by intro e; cases e)]
                        refine iteFo rfl ?_
                        refine ⟨_, rfl, _, rfl, ?_⟩
                        refine ⟨_, rfl, _, _, _, _, _, rfl, .ty _, .base (.tup hy), kit_ty (r := true) (by decide +kernel), _, rfl, ?_⟩
                        have hW9 := e9 _ _ hW8
                        have tW9 := tW8.same e9
                        cases ws with
                        | nil => exact absurd (wo.mpr (least_open lw)) (by decide)
                        | cons v0 vr =>
                          have ml := least_is lw ok
                          refine ⟨_, rfl, _, rfl, W, us.map V.ref, intD v0, vr.map intD, rfl, .inl (.inl hW9), dp_rows tW9, alike_ws (v0 :: vr), (lay_ws (v0 :: vr)).1, (lay_ws (v0 :: vr)).2, fun i v hv hm => ?_⟩
                          rw [minD_rows, ml] at hm
                          have hm : ((v0 :: vr).map intD)[i]? = some (intD wy) := hm
                          rw [List.getElem?_map] at hm hv
                          obtain ⟨u, hu, eu⟩ := Option.map_eq_some_iff.mp hm
                          obtain ⟨ti, hti, rfl⟩ := Option.map_eq_some_iff.mp hv
                          obtain ⟨l, hl, hlt⟩ := tW9.get hti
                          rw [hu] at hl
                          obtain rfl := Option.some.inj hl
                          obtain rfl := intD_inj eu
                          refine ⟨intD u, intD u, .tup (.inl (.inl hy)) (dp_ints u), .tup (.inl (.inl hlt)) (dp_ints u), shaped_ints u, shaped_ints u, ?_⟩
                          rw [eqv_self]
                          refine ⟨_, rfl, _, rfl, _, rfl, pa, _, rfl, .inl (.inl (.inl (e19 _ _ hpa))), fun A nA => ?_⟩
                          have e10 := al (o := .lst (ints_ ps)) nA
                          refine ⟨.list (ps.map fun c => PyData.int (c : Nat)), .list (ps.map fun c => PyData.int (c : Nat)), .lst (.inl (.inl (e10 _ _ hR9))) (dp_ints ps), .lst (.inl (.inl upd_same)) (dp_ints ps), shapedL_ints ps, shapedL_ints ps, ?_⟩
                          rw [eqvL_self]
                          exact k _ (e19.trans e10)
                      · obtain rfl : b = false := Bool.eq_false_iff.mpr fun h => no (hb.mp h)
                        refine ⟨_, rfl, rfl, _, rfl, ?_⟩
                        rw [decide_eq_true rfl]
                        refine iteT ?_
                        refine ⟨_, rfl, _, rfl, _, rfl, ?_⟩
                        refine ⟨_, rfl, _, rfl, pa, _, rfl, .inl (.inl (.inl (e19 _ _ hpa))), fun A nA => ?_⟩
                        have e10 := al (o := .lst (ints_ ps)) nA
                        refine ⟨.list (ps.map fun c => PyData.int (c : Nat)), .list (ps.map fun c => PyData.int (c : Nat)), .lst (.inl (.inl (e10 _ _ hR9))) (dp_ints ps), .lst (.inl (.inl upd_same)) (dp_ints ps), shapedL_ints ps, shapedL_ints ps, ?_⟩
                        rw [eqvL_self]
                        exact k _ (e19.trans e10)
end
end K7
end
/-! ## KW -/
section
namespace K7E
open PySem PySem.Spec PyProof.Rows L2 PySem.W
theorem walk_ofG {l : PySem.W.OpenLaw} {n k : Nat} {q : Program} {loose : List Str} {XP : (Str → Option Value) → Heap → Prop} {YP : World → Heap → Prop} {d : DefRec} {K : Params → PySem.W.Frag} {CX : World → CXT} {sp : World → Sp} {x : Str}
    (hn : l.most = some n) (hn2 : n ≤ sizeLine) (hdf : d.params.defaults = []) (hr : Room k callerA) (hY : ∀ w h, YP w h → (K w.params).In h)
    (F : ∀ (w : World) (mg : Str → Option Value) (fa : Addr) (h : Heap), (K w.params).In h → h.Ns mainGlobals mg → mg d.name = some (.ref fa) →
      ∃ fd, (∀ (s : Shared) (u : Value), BindsTo s fd ⟨[u], []⟩ [(x, u)]) ∧ ∀ base : Heap, (K w.params).In base → base.Ns mainGlobals mg → FnG l.prog w (K w.params) mg base (CX w) k fa fd [x] (sp w))
    (hsp : ∀ (w : World) (H : Hp) (a : Addr) (ns : List Int), ns.length ≤ n → (∀ z ∈ ns, Builtin.Int.intBits z ≤ 1048576) → Only H → SqL (K w.params) H a (ns.map V.int) → sp w [.ref a] H (fun v _ => v = .bl true) (fun _ _ _ => False))
    (hCX : ∀ (w : World) H s e s', CX w [] H s (fun _ _ _ => False) e s' → False) : PySem.W.WalkO q loose XP YP l.row.toRowW d [] fun f vs => call f vs := by
  refine Att.attach_callB hn hdf fun w s₀ s₁ mg mb fa o pm cd doc a vs ns G Y ho hd hcd hmg hobj hints hlen hbits hg => ?_
  have inS := hY w s₁.heap Y
  obtain ⟨fd, hb, hF⟩ := F w mg fa s₁.heap inS G.T.g hmg
  exact law_callG inS G.T.g G.T.b G.T.builtins G.T.nolimit hg hobj hints (Nat.le_trans hlen hn2) hr hF hb (fun H hO hS => hsp w H a ns hlen hbits hO hS) fun H e s' => hCX w H s₁ e s'
end K7E
end
/-! ## P21 -/
section
open PySem PySem.Spec PyProof.Rows L2
namespace K7
abbrev N_law : List Str := ["_law_script", "_law_hand_here", "_law_plain", "_law_n", "_law_land_here", "_law_cell", "_law_lots_here", "_law_passing", "_law_other", "_law_bad", "_law_wrong", "_law_sort"]
abbrev s_law : Stmt := topS 40
theorem sc_law : FnScope ["_law_script", "_law_hand_here", "_law_plain", "_law_n", "_law_land_here", "_law_cell", "_law_lots_here", "_law_passing", "_law_other", "_law_bad", "_law_wrong", "_law_sort"] ["_law_script"] (defScope s_law) := ⟨rfl, rfl, rfl, by decide +kernel, rfl, by decide +kernel, by decide +kernel⟩
section
variable {a : AdL}
theorem new_land {H1 : Hp} {Q : VK} {E : XK} {n : Nat} {an : Addr} {ts : List Addr} {cs : List (Nat × Nat)} {ar : Addr} {lot : List Nat} (n2 : 2 ≤ n) (n5 : n ≤ 5) (han : SqOf H1 an (ts.map V.ref)) (hT : CoAll H1 ts cs) (hc : Cos n cs) (cn : KL.Conn n cs) (har : SqOf H1 ar (ints_ lot)) (llt : ∀ c ∈ lot, c < n) (lnd : lot.Nodup) (l0 : 0 < lot.length) (ln : lot.length < n)
    (q : ∀ H' x es rd, Same H1 H' → H1 x = none → LandO a.C H' x n es rd → es.Perm (cs.map KL.srt) → rd.Perm lot → Q (.ref x) H') :
    ∀ x dx, H1 x = none → H1 dx = none → dx ≠ x → spLandI a (.ref x :: ([.int (n : Nat), .ref an, .ref ar] ++ [])) (upd (upd H1 dx (.own x)) x (.ins a.C dx [])) (fun v H2 => v = .non ∧ Q (.ref x) H2) E := by
  intro x dx hx hdx hne
  have e : Same H1 (upd (upd H1 dx (.own x)) x (.ins a.C dx [])) := same_new (same_new (Same.refl H1) hdx) (by rw [upd_ne hne.symm]; exact hx)
  refine ⟨x, dx, n, an, ts, cs, ar, lot, rfl, upd_same, n2, n5, han.same e, hT.same e, hc, cn, har.same e, llt, lnd, l0, ln, fun H' es rd b L pe pr => ⟨rfl, q H' x es rd (fun z o hz => ?_) hx L pe pr⟩⟩
  exact b z o (ne_of_none hz hx) (e _ _ hz)
theorem es_is {n : Nat} {es cs : List (Nat × Nat)} (ok : LandOk n es) (p : es.Perm cs) (hs : cs.Pairwise KL.lexLe) : es = cs := KL.uniq KL.lex_anti p (ok.sorted.imp fun h => h) hs
theorem rd_is {rd lot : List Nat} (hr : rd.Pairwise (· ≤ ·)) (p : rd.Perm lot) (hs : lot.Pairwise (· ≤ ·)) : rd = lot := KL.uniq (fun a b (h1 : a ≤ b) (h2 : b ≤ a) => Nat.le_antisymm h1 h2) p hr hs
end
theorem co_lit {H : Hp} {ts : List Addr} {cs : List (Nat × Nat)} (h : TAt H ts (pairs cs)) : CoAll H ts cs := by
  refine ⟨by rw [h.len]; unfold pairs; rw [List.length_map], fun i t c ht hc => ?_⟩
  obtain ⟨l, el, hl⟩ := h.get ht
  unfold pairs at el
  rw [List.getElem?_map, hc] at el
  obtain rfl := Option.some.inj el
  exact .inl hl
theorem lot_lt {n : Nat} (hn : n ≤ 5) {lot : List Nat} (h : lot ∈ lotsTo (List.range n) n) : (∀ c ∈ lot, c < n) ∧ lot.Pairwise (· < ·) := by
  have all : ∀ n : Fin 6, (lotsTo (List.range n.val) n.val).all (fun l => l.all (fun c => decide (c < n.val)) && decide (l.Pairwise (· < ·))) = true := by decide +kernel
  have z := List.all_eq_true.mp (all ⟨n, by omega⟩) lot h
  obtain ⟨z1, z2⟩ := Bool.and_eq_true_iff.mp z
  exact ⟨fun c hc => of_decide_eq_true (List.all_eq_true.mp z1 c hc), of_decide_eq_true z2⟩
theorem srt_map {n : Nat} {es : List (Nat × Nat)} (ok : LandOk n es) : es.map KL.srt = es := by
  refine (List.map_congr_left fun e he => ?_).trans (List.map_id es)
  exact KL.srt_of (ok.lt e he).1
theorem cos_es {n : Nat} {es : List (Nat × Nat)} (ok : LandOk n es) (hn : n ≤ 5) : Cos n es := by
  refine ⟨fun c hc => ?_, by rw [srt_map ok]; exact ok.nd, es_len ok hn⟩
  obtain ⟨l1, l2⟩ := ok.lt c hc
  exact ⟨by omega, l2, by omega⟩

theorem ten_lt {x : Nat} (h : x < 10) : ((x : Nat) : Int).natAbs < 10 ^ 40 := by
  have b : (10 : Nat) ≤ 10 ^ 40 := by decide
  rw [Int.natAbs_natCast]
  omega
def sg (pre : List (Option V)) : L2.St := pre ++ List.replicate (12 - pre.length) none
section
variable {K : PySem.W.Frag}
theorem any_ty {t : String} (h1 : PySem.W.kitOne K (.type t) (.type "list") = some false) (h2 : PySem.W.kitOne K (.type t) (.type "tuple") = some false) : PySem.W.kitAny K (.type t) [.type "list", .type "tuple"] = some false := kitAny_cons (b := false) h1 (fun _ => kitAny_cons (b := false) h2 (fun _ => kitAny_nil) (fun z => nomatch z)) (fun z => nomatch z)
/-- what is no lot of passing cells -/
inductive Wrong (n : Nat) (H : Hp) (h : Addr) : V → Prop
  | flat {v : V} (f : Flat4 v) : Wrong n H h v
  | row {b : Addr} {xs : List V} (hb : H b = some (.lst xs)) (ne : b ≠ h) (fl : ∀ x ∈ xs, Flat4 x) (l : xs.length < 64) (cv : cellsV (n : Nat) xs 0 = false) : Wrong n H h (.ref b)
  | dct {b : Addr} (hb : H b = some (.dK [])) (ne : b ≠ h) : Wrong n H h (.ref b)
theorem Wrong.stay {n : Nat} {H H' : Hp} {h c : Addr} {v : V} (w : Wrong n H h v) (s : Stay h c H H') : Wrong n H' h v := by
  cases w with
  | flat f => exact .flat f
  | row hb ne fl l cv => exact .row (s.but _ _ ne hb) ne fl l cv
  | dct hb ne => exact .dct (s.but _ _ ne hb) ne
theorem Wrong.bad {n : Nat} {H : Hp} {h : Addr} {v : V} (w : Wrong n H h v) : BadLot K n H v := by
  cases w with
  | row hb ne fl l cv => exact .inr ⟨_, _, rfl, .inr hb, fun z hz => .flat (fl z hz), l, cv⟩
  | dct hb ne => exact .inl ⟨"dict", fun H1 e => .base (.dK (e _ _ hb)), any_ty (kit_ty (by decide +kernel)) (kit_ty (by decide +kernel))⟩
  | flat f =>
    cases f with
    | non => exact .inl ⟨"NoneType", fun _ _ => .base .non, any_ty (kit_ty (by decide +kernel)) (kit_ty (by decide +kernel))⟩
    | bl b => exact .inl ⟨"bool", fun _ _ => .base (.bl b), any_ty (kit_ty (by decide +kernel)) (kit_ty (by decide +kernel))⟩
    | int i => exact .inl ⟨"int", fun _ _ => .base (.int i), any_ty (kit_ty (by decide +kernel)) (kit_ty (by decide +kernel))⟩
    | str z => exact .inl ⟨"str", fun _ _ => .base (.str z), any_ty (kit_ty (by decide +kernel)) (kit_ty (by decide +kernel))⟩
theorem Wrong.same {n : Nat} {H H' : Hp} {h : Addr} {v : V} (w : Wrong n H h v) (e : Same H H') : Wrong n H' h v := by
  cases w with
  | flat f => exact .flat f
  | row hb ne fl l cv => exact .row (e _ _ hb) ne fl l cv
  | dct hb ne => exact .dct (e _ _ hb) ne
theorem one_bad {n : Nat} {x : V} (h : wholeV x 0 ((n : Nat) - 1) = false) : cellsV (n : Nat) [x] 0 = false := by
  unfold cellsV
  rw [show ([x].all fun x => wholeV x 0 ((n : Nat) - 1)) = false by show (wholeV x 0 ((n : Nat) - 1) && true) = false; rw [h]; rfl]
  rw [Bool.and_false, Bool.false_and]
theorem two_bad {n : Nat} (ps : List Nat) (c : Nat) : cellsV (n : Nat) (ints_ (ps ++ [c, c])) 0 = false := by
  unfold cellsV
  have : ¬ ((ints_ (ps ++ [c, c])).map intOf).Nodup := by
    unfold ints_
    rw [List.map_map, List.map_append]
    intro h
    have z := (List.nodup_append.mp h).2.1
    rw [List.map_cons, List.map_cons] at z
    exact (List.nodup_cons.mp z).1 (List.mem_cons_self ..)
  rw [decide_eq_false this, Bool.and_false]
theorem three_ok {b d : Bool} {z : Str} (ok : PyData.strOk z = true) : SeqAt.shaped (.tuple [.bool b, .bool d, .str z]) = true ∧ PyData.canLay0 (.tuple [.bool b, .bool d, .str z]) = true := by
  have h : PyData.canLay0 (.tuple [.bool b, .bool d, .str z]) = true := by simp [PyData.canLay0, PyData.canLayAll0, ok]
  refine ⟨?_, h⟩
  show (PyData.canLay0 (.tuple [.bool b, .bool d, .str z]) && decide (PyData.depth (.tuple [.bool b, .bool d, .str z]) ≤ 64)) = true
  rw [h]
  simp [PyData.depth, PyData.depthAll]
theorem lots_all : ∀ n : Fin 6, 2 ≤ n.val → 0 < (lotsTo (List.range n.val) n.val).length ∧ (lotsTo (List.range n.val) n.val).length ≤ 1000 ∧ (lotsTo (List.range n.val) n.val).all (fun l => decide (l.length ≤ 5)) = true := by decide +kernel
end
/-- all that the law holds on to -/
structure Lb (Cl h c q0 p : Addr) (n : Nat) (es : List (Nat × Nat)) (lot : List Nat) (H : Hp) : Prop where
  hand : Hand H h c
  la : LandAt H q0 n es lot
  lo : LandO Cl H p n es lot
structure Lk (Cl h c q0 p Lo : Addr) (n : Nat) (es : List (Nat × Nat)) (lot : List Nat) (ts : List Addr) (rs : List (Addr × List Nat)) (H : Hp) : Prop where
  b : Lb Cl h c q0 p n es lot H
  lots : H Lo = some (.lst (ts.map V.ref))
  tl : TAt H ts (lotsTo (List.range n) n)
  rows : ∀ r ∈ rs, H r.1 = some (.lst (ints_ r.2))
section
variable {Cl h c q0 p Lo : Addr} {n : Nat} {es : List (Nat × Nat)} {lot : List Nat} {ts : List Addr} {rs : List (Addr × List Nat)} {H H' : Hp}
theorem Lb.stay (x : Lb Cl h c q0 p n es lot H) (s : Stay h c H H') : Lb Cl h c q0 p n es lot H' := ⟨s.hand, s.la x.la, s.lo x.lo⟩
theorem Lb.same (x : Lb Cl h c q0 p n es lot H) (s : Same H H') : Lb Cl h c q0 p n es lot H' := x.stay (.of_same x.hand s)
theorem Lb.drawn (x : Lb Cl h c q0 p n es lot H) (s : Drawn H H' h c) : Lb Cl h c q0 p n es lot H' := x.stay (.of_drawn x.hand s)
theorem Lk.stay (x : Lk Cl h c q0 p Lo n es lot ts rs H) (s : Stay h c H H') : Lk Cl h c q0 p Lo n es lot ts rs H' := ⟨x.b.stay s, s.lst x.lots (notHand_refs _), s.tat x.tl, fun r hr => s.lst (x.rows r hr) (notHand_ints _)⟩
theorem Lk.same (x : Lk Cl h c q0 p Lo n es lot ts rs H) (s : Same H H') : Lk Cl h c q0 p Lo n es lot ts rs H' := x.stay (.of_same x.b.hand s)
theorem Lk.drawn (x : Lk Cl h c q0 p Lo n es lot ts rs H) (s : Drawn H H' h c) : Lk Cl h c q0 p Lo n es lot ts rs H' := x.stay (.of_drawn x.b.hand s)
theorem Lk.add (x : Lk Cl h c q0 p Lo n es lot ts rs H) {R : Addr} {l : List Nat} (hR : H R = some (.lst (ints_ l))) : Lk Cl h c q0 p Lo n es lot ts (rs ++ [(R, l)]) H := ⟨x.b, x.lots, x.tl, fun r hr => (List.mem_append.mp hr).elim (x.rows r) fun z => by rw [List.mem_singleton.mp z]; exact hR⟩
end
section
variable {P : Program} {w : World} {K : PySem.W.Frag} {mg : Str → Option Value} {base : Heap} {a : AdL} {S : Addr}
def spLaw (K : PySem.W.Frag) : Sp := fun vs H Q _ => ∃ (s : Addr) (ns : List Int), vs = [.ref s] ∧ SqL K H s (ns.map V.int) ∧ ns.length ≤ 63 ∧ ∀ H', Q (.bl true) H'
theorem ok_law (T : Tl K mg a) {f fha fld fpk fdr flts fmx frt fto fI : Addr} {fd fdha fdld fdpk fddr fdlts fdmx fdrt fdto fdI : FuncData} (F : Fun K "law" "law" s_law f fd)
    (Gha : FnOk P w K mg base CX0 1 fha fdha ["_law_script"] (spHand K)) (gha : mg "_law_hand" = some (.ref fha)) (kha : PySem.W.keepIn K (.ref fha) = true) (bha : Binds K fdha ["_law_script"] [])
    (Gld : FnOk P w K mg base CX0 4 fld fdld ["_law_hand_here", "_law_n"] spLand) (gld : mg "_law_land" = some (.ref fld)) (kld : PySem.W.keepIn K (.ref fld) = true) (bld : Binds K fdld ["_law_hand_here", "_law_n"] [])
    (Gpk : FnOk P w K mg base CX0 3 fpk fdpk ["_law_hand_here", "_law_things"] spPick) (gpk : mg "_law_pick" = some (.ref fpk)) (kpk : PySem.W.keepIn K (.ref fpk) = true) (bpk : Binds K fdpk ["_law_hand_here", "_law_things"] [])
    (Gdr : FnOk P w K mg base CX0 2 fdr fddr ["_law_hand_here", "_law_many"] spDraw) (gdr : mg "_law_draw" = some (.ref fdr)) (kdr : PySem.W.keepIn K (.ref fdr) = true) (bdr : Binds K fddr ["_law_hand_here", "_law_many"] [])
    (Glts : FnOk P w K mg base CX0 1 flts fdlts ["_law_cells"] spLots) (glts : mg "_law_lots" = some (.ref flts)) (klts : PySem.W.keepIn K (.ref flts) = true) (blts : Binds K fdlts ["_law_cells"] [])
    (Gmx : FnOk P w K mg base CX0 3 fmx fdmx ["_law_hand_here", "_law_lot"] spMixed) (gmx : mg "_law_mixed" = some (.ref fmx)) (kmx : PySem.W.keepIn K (.ref fmx) = true) (bmx : Binds K fdmx ["_law_hand_here", "_law_lot"] [])
    (Grt : K7E.FnG P w K mg base CX0 8 frt fdrt ["_law_plain", "_law_land_here", "_law_cell", "_law_passing"] (spRight K a)) (grt : mg "_law_right" = some (.ref frt)) (krt : PySem.W.keepIn K (.ref frt) = true) (brt : Binds K fdrt ["_law_plain", "_law_land_here", "_law_cell", "_law_passing"] [])
    (Gto : K7E.FnG P w K mg base CX0 7 fto fdto ["_law_sort", "_law_land_here", "_law_cell", "_law_passing"] (spTold K a)) (gto : mg "_law_told" = some (.ref fto)) (kto : PySem.W.keepIn K (.ref fto) = true) (bto : Binds K fdto ["_law_sort", "_law_land_here", "_law_cell", "_law_passing"] [])
    (MC : Mk K a.C fI) (GI : FnOk P w K mg base CX0 5 fI fdI ["self", "cells", "neighbours", "roads"] (spLandI a)) (bI : Binds K fdI ["self", "cells", "neighbours", "roads"] [])
    (m_list : mg "list" = none) (m_range : mg "range" = none) (m_tuple : mg "tuple" = none) (m_repr : mg "repr" = none) : K7E.FnG P w K mg base CX0 9 f fd ["_law_script"] (spLaw K) := by
  refine K7E.okG F sc_law (fun vs H Q E h => ?_) (fun cdv A outer s H vs Q E hg hr h => ?_)
  · obtain ⟨s, ns, rfl, _⟩ := h
    rfl
  · obtain ⟨s0, ns, rfl, hS, hl, q⟩ := h
    refine ⟨_, (pss_cons (ps_set (i := 1) sc_law.nd rfl (by first | exact Or.inl rfl | exact Or.inr rfl) (pe_call Gha (hr.mono (by decide)) (by rfl) gha kha bha .nil pass0 (pa_cons (pv 0) pa_nil)))
 (pss_cons (ps_set (i := 2) sc_law.nd rfl (by first | exact Or.inl rfl | exact Or.inr rfl) (pe_call Gld (hr.mono (by decide)) (by rfl) gld kld bld .nil pass0 (pa_cons (pv 1) (pa_cons (pe_op op_add pe_int (pe_call Gdr (hr.mono (by decide)) (by rfl) gdr kdr bdr .nil pass0 (pa_cons (pv 1) (pa_cons pe_int pa_nil)))) pa_nil))))
 (pss_cons (ps_set (i := 3) sc_law.nd rfl (by first | exact Or.inl rfl | exact Or.inr rfl) (pe_ix ix_tup (pv 2) pe_int (fun _ _ => rfl)))
 (Evl.pss_cut (ps_set (i := 4) sc_law.nd rfl (by first | exact Or.inl rfl | exact Or.inr rfl) (pe_make MC GI (hr.mono (by decide)) (by rfl) T.gC bI .nil pass0 (pa_cons (pv 3) (pa_cons (pe_callTy call_list_of (by rfl) m_list boot_list (pa_cons (pe_ix ix_tup (pv 2) pe_int (fun _ _ => rfl)) pa_nil)) (pa_cons (pe_callTy call_tuple_of (by rfl) m_tuple boot_tuple (pa_cons (pe_ix ix_tup (pv 2) pe_int (fun _ _ => rfl)) pa_nil)) pa_nil)))))
 (pss_cons (ps_set (i := 5) sc_law.nd rfl (by first | exact Or.inl rfl | exact Or.inr rfl) (pe_call Gdr (hr.mono (by decide)) (by rfl) gdr kdr bdr .nil pass0 (pa_cons (pv 1) (pa_cons (pv 3) pa_nil))))
 (pss_cons (ps_set (i := 6) sc_law.nd rfl (by first | exact Or.inl rfl | exact Or.inr rfl) (pe_call Glts (hr.mono (by decide)) (by rfl) glts klts blts .nil pass0 (pa_cons (pe_callTy (K7E.cr_list_rng rfl) (by rfl) m_list boot_list (pa_cons (pe_callTy K7E.cr_range1 (by rfl) m_range boot_range (pa_cons (pv 3) pa_nil)) pa_nil)) pa_nil)))
 (Evl.pss_cut (ps_set (i := 7) sc_law.nd rfl (by first | exact Or.inl rfl | exact Or.inr rfl) (pe_call Gmx (hr.mono (by decide)) (by rfl) gmx kmx bmx .nil pass0 (pa_cons (pv 1) (pa_cons (pe_call Gpk (hr.mono (by decide)) (by rfl) gpk kpk bpk .nil pass0 (pa_cons (pv 1) (pa_cons (pv 6) pa_nil))) pa_nil))))
 (Evl.pss_cut (ps_set (i := 8) sc_law.nd rfl (by first | exact Or.inl rfl | exact Or.inr rfl) (pe_call Gmx (hr.mono (by decide)) (by rfl) gmx kmx bmx .nil pass0 (pa_cons (pv 1) (pa_cons (pe_call Gpk (hr.mono (by decide)) (by rfl) gpk kpk bpk .nil pass0 (pa_cons (pv 1) (pa_cons (pv 6) pa_nil))) pa_nil))))
 (Evl.pss_cut (ps_if (pw_or (pt_not (pt_val (K7E.pe_callG hg Grt (hr.mono (by decide)) (by rfl) grt krt brt .nil pass0 (pa_cons (pv 2) (pa_cons (pv 4) (pa_cons (pv 5) (pa_cons (pv 7) pa_nil))))))) (pw_or1 (pt_not (pt_val (K7E.pe_callG hg Grt (hr.mono (by decide)) (by rfl) grt krt brt .nil pass0 (pa_cons (pv 2) (pa_cons (pv 4) (pa_cons (pe_call Gdr (hr.mono (by decide)) (by rfl) gdr kdr bdr .nil pass0 (pa_cons (pv 1) (pa_cons (pv 3) pa_nil))) (pa_cons (pv 8) pa_nil))))))))).pt
  (pss_one (ps_ret pe_bl))
  pss_nil)
 (Evl.pss_cut (ps_if (pw_or (pt_not (pt_val (K7E.pe_callG hg Grt (hr.mono (by decide)) (by rfl) grt krt brt .nil pass0 (pa_cons (pv 2) (pa_cons (pv 4) (pa_cons (pv 5) (pa_cons (pe_callTy (K7E.cr_list_rng rfl) (by rfl) m_list boot_list (pa_cons (pe_callTy K7E.cr_range1 (by rfl) m_range boot_range (pa_cons (pv 3) pa_nil)) pa_nil)) pa_nil))))))) (pw_or1 (pt_not (pt_val (K7E.pe_callG hg Grt (hr.mono (by decide)) (by rfl) grt krt brt .nil pass0 (pa_cons (pv 2) (pa_cons (pv 4) (pa_cons (pv 5) (pa_cons (pe_lst pa_nil) pa_nil))))))))).pt
  (pss_one (ps_ret pe_bl))
  pss_nil)
 (Evl.pss_cut (ps_set (i := 9) sc_law.nd rfl (by first | exact Or.inl rfl | exact Or.inr rfl) (pe_call Gpk (hr.mono (by decide)) (by rfl) gpk kpk bpk .nil pass0 (pa_cons (pv 1) (pa_cons (pe_lst (pa_cons (pv 3) (pa_cons (pe_un un_neg pe_int) (pa_cons pe_bl (pa_cons pe_non (pa_cons pe_str (pa_cons (pe_tup (pa_cons pe_int pa_nil)) (pa_cons (pe_op op_add (pv 3) (pe_call Gdr (hr.mono (by decide)) (by rfl) gdr kdr bdr .nil pass0 (pa_cons (pv 1) (pa_cons (pe_op op_pow pe_int pe_int) pa_nil)))) pa_nil)))))))) pa_nil))))
 (Evl.pss_cut (ps_set (i := 10) sc_law.nd rfl (by first | exact Or.inl rfl | exact Or.inr rfl) (pe_call Gpk (hr.mono (by decide)) (by rfl) gpk kpk bpk .nil pass0 (pa_cons (pv 1) (pa_cons (pe_lst (pa_cons pe_non (pa_cons pe_str (pa_cons pe_int (pa_cons (pe_lst (pa_cons (pv 3) pa_nil)) (pa_cons (pe_lst (pa_cons (pe_un un_neg pe_int) pa_nil)) (pa_cons (pe_lst (pa_cons pe_bl pa_nil)) (pa_cons (pe_op op_cat (pv 7) (pe_lst (pa_cons (pv 5) (pa_cons (pv 5) pa_nil)))) (pa_cons (pe_lst (pa_cons pe_non pa_nil)) (pa_cons pe_dnewK pa_nil)))))))))) pa_nil))))
 (Evl.pss_cut (ps_set (i := 11) sc_law.nd rfl (by first | exact Or.inl rfl | exact Or.inr rfl) (pe_call Gdr (hr.mono (by decide)) (by rfl) gdr kdr bdr .nil pass0 (pa_cons (pv 1) (pa_cons pe_int pa_nil))))
 (Evl.pss_cut (ps_if (pt_cmpR (op_neD hr.units) (pe_ix ix_tup (K7E.pe_callG hg Gto (hr.mono (by decide)) (by rfl) gto kto bto .nil pass0 (pa_cons (pv 11) (pa_cons (pv 4) (pa_cons (pv 9) (pa_cons (pe_callTy call_list_of (by rfl) m_list boot_list (pa_cons (pv 7) pa_nil)) pa_nil))))) pe_int (fun _ _ => rfl)) (pe_tup (pa_cons pe_bl (pa_cons pe_bl (pa_cons (pe_callB (K7E.call_repr (by exact hg) hr.units) (by rfl) m_repr boot_repr (pa_cons (pv 9) pa_nil)) pa_nil)))) (nomark _))
  (pss_one (ps_ret pe_bl))
  pss_nil)
 (Evl.pss_cut (ps_if (pt_cmpR (op_neD hr.units) (pe_ix ix_tup (K7E.pe_callG hg Gto (hr.mono (by decide)) (by rfl) gto kto bto .nil pass0 (pa_cons (pv 11) (pa_cons (pv 4) (pa_cons (pv 9) (pa_cons (pv 10) pa_nil))))) pe_int (fun _ _ => rfl)) (pe_tup (pa_cons pe_bl (pa_cons pe_bl (pa_cons (pe_callB (K7E.call_repr (by exact hg) hr.units) (by rfl) m_repr boot_repr (pa_cons (pv 9) pa_nil)) pa_nil)))) (nomark _))
  (pss_one (ps_ret pe_bl))
  pss_nil)
 (Evl.pss_cut (ps_if (pt_cmpR (op_neD hr.units) (pe_ix ix_tup (K7E.pe_callG hg Gto (hr.mono (by decide)) (by rfl) gto kto bto .nil pass0 (pa_cons (pv 11) (pa_cons (pv 4) (pa_cons (pv 5) (pa_cons (pv 10) pa_nil))))) pe_int (fun _ _ => rfl)) (pe_tup (pa_cons pe_bl (pa_cons pe_bl (pa_cons pe_str pa_nil)))) (nomark _))
  (pss_one (ps_ret pe_bl))
  pss_nil)
 (pss_one (ps_ret (K7E.pe_callG hg Grt (hr.mono (by decide)) (by rfl) grt krt brt .nil pass0 (pa_cons (pv 2) (pa_cons (pv 4) (pa_cons (pv 5) (pa_cons (pv 7) pa_nil))))))))))))))))))))))), ?_⟩
    refine ⟨_, rfl, s0, ns, rfl, hS, hl, fun H1 h c e1 nh nc hh1 => ?_⟩
    -- a land
    refine ⟨_, rfl, _, rfl, h, c, 4, rfl, hh1, by decide, by decide, fun H2 r d2 r0 r1 => ?_⟩
    obtain ⟨k, rfl⟩ : ∃ k : Nat, r = (k : Nat) := ⟨r.toNat, by omega⟩
    refine ⟨_, _, rfl, rfl, ?_⟩
    obtain ⟨n, hn⟩ : ∃ n, n = k + 2 := ⟨_, rfl⟩
    have n2 : 2 ≤ n := by omega
    have n5 : n ≤ 5 := by omega
    refine ⟨h, c, n, congrArg (fun z => [V.ref h, V.int z]) (show (2 : Int) + ((k : Nat) : Int) = ((n : Nat) : Int) by omega), d2.hand, n2, n5, fun H3 q0 es lot st nq La => ?_⟩
    obtain ⟨rA, sA, ts, h1, h2, h3, h4⟩ := La.at_
    have hand3 := st.hand
    obtain ⟨llt, lsd⟩ := lot_lt n5 La.lot.1
    have lso : lot.Pairwise (· ≤ ·) := lsd.imp fun h => Nat.le_of_lt h
    have lnd : lot.Nodup := List.nodup_iff_pairwise_ne.mpr (lsd.imp fun h e => by rw [e] at h; exact Nat.lt_irrefl _ h)
    have lo0 := La.lot.2.1
    have lon := La.lot.2.2
    refine ⟨_, rfl, q0, _, _, _, rfl, rfl, .inl (.inl h1), atI_nat (j := 0) rfl, ?_⟩
    -- the land told
    refine ⟨fun τ H' => ∃ p, τ = sg [some (.ref s0), some (.ref h), some (.ref q0), some (.int (n : Nat)), some (.ref p)] ∧ Lb a.C h c q0 p n es lot H', ?_, fun τ H' hM => ?_⟩
    · refine ⟨_, rfl, _, rfl, q0, _, _, _, rfl, rfl, .inl (.inl h1), atI_nat (j := 1) rfl, rA, _, rfl, .inl (.inl (.inl h2)), fun A1 nA1 => ?_⟩
      have s4 := al (o := .lst (ts.map V.ref)) nA1
      refine ⟨_, rfl, q0, _, _, _, rfl, rfl, .inl (.inl (s4 _ _ h1)), atI_nat (j := 2) rfl, sA, _, rfl, .inl ⟨.inl (.inl (s4 _ _ h4)), fun B1 nB1 => ?_⟩⟩
      have s5 := s4.trans (al (o := .tup (ints_ lot)) nB1)
      have hA5 := al (o := .tup (ints_ lot)) nB1 A1 _ (upd_same (H := H3) (a := A1))
      have hB5 : upd (upd H3 A1 (.lst (ts.map V.ref))) B1 (.tup (ints_ lot)) B1 = _ := upd_same
      generalize upd (upd H3 A1 (.lst (ts.map V.ref))) B1 (.tup (ints_ lot)) = H5 at s5 hA5 hB5 ⊢
      refine new_land (a := a) (Q := fun w H1 => ∃ p, (sg [some (.ref s0), some (.ref h), some (.ref q0), some (.int (n : Nat))]).set 4 (some w) = sg [some (.ref s0), some (.ref h), some (.ref q0), some (.int (n : Nat)), some (.ref p)] ∧ Lb a.C h c q0 p n es lot H1) n2 n5 (.inr hA5) (co_lit (h3.same s5)) (cos_es La.ok n5) La.ok.conn (.inl hB5) llt lnd lo0 lon fun H' x es' rd e nx Lo pe pr => ?_
      rw [srt_map La.ok] at pe
      obtain rfl := es_is Lo.ok pe (La.ok.sorted.imp fun h => h)
      obtain rfl := rd_is Lo.rso pr lso
      have e6 := s5.trans e
      exact ⟨x, rfl, hand3.same e6, La.same e6, Lo⟩
    · obtain ⟨p, rfl, W⟩ := hM
      -- a cell, all lots
      refine ⟨_, rfl, _, rfl, h, c, (n : Nat), rfl, W.hand, by omega, n200 n5, fun H4 r d4 r0 r1 => ?_⟩
      obtain ⟨x, rfl⟩ : ∃ k : Nat, r = (k : Nat) := ⟨r.toNat, by omega⟩
      have hx : x < n := by omega
      have W4 := W.drawn d4
      clear W
      refine ⟨_, rfl, n, rfl, fun p1 np1 => ?_⟩
      refine ⟨p1, n, rfl, upd_same, by omega, fun p2 np2 => ?_⟩
      have s1 := (al (o := .rng 0 n) np1).trans (al (o := .lst (K7E.upTo n)) np2)
      have hps : upd (upd H4 p1 (.rng 0 n)) p2 (.lst (K7E.upTo n)) p2 = some (.lst (ints_ (List.range n))) := upd_same
      generalize upd (upd H4 p1 (.rng 0 n)) p2 (.lst (K7E.upTo n)) = H5 at s1 hps ⊢
      have W5 := W4.same s1
      clear W4
      refine ⟨p2, n, rfl, n5, hps, fun H6 Lo us e6 nLo hLo tl => ?_⟩
      have W6 : Lk a.C h c q0 p Lo n es lot us [] H6 := ⟨W5.same e6, hLo, tl, fun r hr => nomatch hr⟩
      clear W5
      obtain ⟨la0, la1, la5⟩ := lots_all ⟨n, by omega⟩ n2
      have pick : ∀ {rs H'} (W : Lk a.C h c q0 p Lo n es lot us rs H'), Lo ≠ h ∧ 0 < (us.map V.ref).length ∧ (us.map V.ref).length ≤ 1000 := fun {rs H'} W => by
        refine ⟨W.b.hand.nel W.lots (notHand_refs _), ?_, ?_⟩
        · rw [List.length_map, W.tl.len]; exact la0
        · rw [List.length_map, W.tl.len]; exact la1
      have got : ∀ {rs H' j v} (W : Lk a.C h c q0 p Lo n es lot us rs H'), (us.map V.ref)[j]? = some v → ∃ t l, v = V.ref t ∧ H' t = some (.tup (ints_ l)) ∧ l.length ≤ 5 ∧ (∀ y ∈ l, y < n) ∧ l.Nodup := fun {rs H' j v} W hv => by
        rw [List.getElem?_map] at hv
        obtain ⟨t, ht, rfl⟩ := Option.map_eq_some_iff.mp hv
        obtain ⟨l, el, hl⟩ := W.tl.get ht
        have lm := List.mem_of_getElem? el
        obtain ⟨l1, l2⟩ := lot_lt n5 lm
        exact ⟨t, l, rfl, hl, of_decide_eq_true (List.all_eq_true.mp la5 l lm), l1, List.nodup_iff_pairwise_ne.mpr (l2.imp fun h e => by rw [e] at h; exact Nat.lt_irrefl _ h)⟩
      -- passing cells
      refine ⟨fun τ H' => ∃ pa ps, τ = sg [some (.ref s0), some (.ref h), some (.ref q0), some (.int (n : Nat)), some (.ref p), some (.int (x : Nat)), some (.ref Lo), some (.ref pa)] ∧ (∀ y ∈ ps, y < n) ∧ ps.Nodup ∧ Lk a.C h c q0 p Lo n es lot us [(pa, ps)] H', ?_, fun τ H' hM => ?_⟩
      · obtain ⟨z1, z2, z3⟩ := pick W6
        refine ⟨_, rfl, _, rfl, _, rfl, h, c, Lo, _, rfl, W6.b.hand, z1, W6.lots, z2, z3, fun H7 j v d7 hv => ?_⟩
        have W7 := W6.drawn d7
        obtain ⟨t, l, rfl, ht, l5, lt, nd⟩ := got W7 hv
        refine ⟨h, c, t, l, rfl, W7.b.hand, ht, l5, fun H8 R row st8 nR hR pm => ?_⟩
        exact ⟨R, row, rfl, fun y hy => lt y (pm.mem_iff.mp hy), pm.nodup_iff.mpr nd, (W7.stay st8).add hR⟩
      · clear W6
        obtain ⟨pa, ps, rfl, plt, pnd, W⟩ := hM
        -- others
        refine ⟨fun τ H' => ∃ pb qs, τ = sg [some (.ref s0), some (.ref h), some (.ref q0), some (.int (n : Nat)), some (.ref p), some (.int (x : Nat)), some (.ref Lo), some (.ref pa), some (.ref pb)] ∧ (∀ y ∈ qs, y < n) ∧ qs.Nodup ∧ Lk a.C h c q0 p Lo n es lot us [(pa, ps), (pb, qs)] H', ?_, fun τ H' hM => ?_⟩
        · obtain ⟨z1, z2, z3⟩ := pick W
          refine ⟨_, rfl, _, rfl, _, rfl, h, c, Lo, _, rfl, W.b.hand, z1, W.lots, z2, z3, fun H7 j v d7 hv => ?_⟩
          have W7 := W.drawn d7
          obtain ⟨t, l, rfl, ht, l5, lt, nd⟩ := got W7 hv
          refine ⟨h, c, t, l, rfl, W7.b.hand, ht, l5, fun H8 R row st8 nR hR pm => ?_⟩
          exact ⟨R, row, rfl, fun y hy => lt y (pm.mem_iff.mp hy), pm.nodup_iff.mpr nd, (W7.stay st8).add hR⟩
        · clear W
          obtain ⟨pb, qs, rfl, qlt, qnd, W⟩ := hM
          have p5 : ps.length ≤ 5 := by
            have z := K7E.nodup_le ps (List.range n) pnd fun x hx => List.mem_range.mpr (plt x hx)
            rw [List.length_range] at z
            omega
          -- right over both
          refine ⟨fun τ H' => τ = sg [some (.ref s0), some (.ref h), some (.ref q0), some (.int (n : Nat)), some (.ref p), some (.int (x : Nat)), some (.ref Lo), some (.ref pa), some (.ref pb)] ∧ Lk a.C h c q0 p Lo n es lot us [(pa, ps), (pb, qs)] H', ?_, fun τ H' hM => ?_⟩
          · refine ⟨_, rfl, _, rfl, _, rfl, _, rfl, q0, p, n, es, lot, x, pa, ps, rfl, W.b.la, n5, W.b.lo, hx, W.rows (pa, ps) (List.mem_cons_self ..), plt, pnd, fun H7 e7 => ?_⟩
            refine ⟨_, rfl, ?_⟩
            refine iteFo rfl ?_
            have W7 := W.same e7
            refine ⟨_, rfl, _, rfl, _, rfl, _, rfl, h, c, (n : Nat), rfl, W7.b.hand, by omega, n200 n5, fun H8 r d8 r0 r1 => ?_⟩
            obtain ⟨y, rfl⟩ : ∃ k : Nat, r = (k : Nat) := ⟨r.toNat, by omega⟩
            have W8 := W7.drawn d8
            refine ⟨_, rfl, q0, p, n, es, lot, y, pb, qs, rfl, W8.b.la, n5, W8.b.lo, by omega, W8.rows (pb, qs) (List.mem_cons_of_mem _ (List.mem_cons_self ..)), qlt, qnd, fun H9 e9 => ?_⟩
            refine ⟨_, rfl, ?_⟩
            exact iteFo rfl ⟨rfl, W8.same e9⟩
          · clear W
            obtain ⟨rfl, W⟩ := hM
            -- right over all cells, over none
            refine ⟨fun τ H' => τ = sg [some (.ref s0), some (.ref h), some (.ref q0), some (.int (n : Nat)), some (.ref p), some (.int (x : Nat)), some (.ref Lo), some (.ref pa), some (.ref pb)] ∧ Lk a.C h c q0 p Lo n es lot us [(pa, ps), (pb, qs)] H', ?_, fun τ H' hM => ?_⟩
            · refine ⟨_, rfl, _, rfl, _, rfl, _, rfl, n, rfl, fun p1 np1 => ?_⟩
              refine ⟨p1, n, rfl, upd_same, by omega, fun p2 np2 => ?_⟩
              have s1 := (al (o := .rng 0 n) np1).trans (al (o := .lst (K7E.upTo n)) np2)
              have hps : upd (upd H' p1 (.rng 0 n)) p2 (.lst (K7E.upTo n)) p2 = some (.lst (ints_ (List.range n))) := upd_same
              generalize upd (upd H' p1 (.rng 0 n)) p2 (.lst (K7E.upTo n)) = H6 at s1 hps ⊢
              have W6 := W.same s1
              refine ⟨q0, p, n, es, lot, x, p2, List.range n, rfl, W6.b.la, n5, W6.b.lo, hx, hps, fun y hy => List.mem_range.mp hy, List.nodup_range, fun H7 e7 => ?_⟩
              refine ⟨_, rfl, ?_⟩
              refine iteFo rfl ?_
              have W7 := W6.same e7
              refine ⟨_, rfl, _, rfl, _, rfl, by show 0 ≤ sizeLine; decide, fun A nA => ?_⟩
              have e8 := al (o := .lst []) nA
              have W8 := W7.same e8
              refine ⟨q0, p, n, es, lot, x, A, [], rfl, W8.b.la, n5, W8.b.lo, hx, upd_same, fun y hy => (nomatch hy), List.nodup_nil, fun H9 e9 => ?_⟩
              refine ⟨_, rfl, ?_⟩
              exact iteFo rfl ⟨rfl, W8.same e9⟩
            · clear W
              obtain ⟨rfl, W⟩ := hM
              have big : (10 : Int) ^ (30 : Int).toNat = 10 ^ 30 := by decide
              have big2 : (10 : Nat) ^ 30 * 2 + 5 < 10 ^ 40 := by decide
              -- a bad cell
              refine ⟨fun τ H' => ∃ v dd, τ = sg [some (.ref s0), some (.ref h), some (.ref q0), some (.int (n : Nat)), some (.ref p), some (.int (x : Nat)), some (.ref Lo), some (.ref pa), some (.ref pb), some v] ∧ Th1 H' v dd ∧ wholeV v 0 ((n : Nat) - 1) = false ∧ PyData.strOk dd.shown = true ∧ Lk a.C h c q0 p Lo n es lot us [(pa, ps), (pb, qs)] H', ?_, fun τ H' hM => ?_⟩
              · refine ⟨_, rfl, _, rfl, _, rfl, ?_⟩
                refine ⟨by show 1 ≤ sizeLine; decide, fun t0 nt0 => ?_⟩
                have W8 := W.same (al (o := .tup [.int 0]) nt0)
                have ht8 : upd H' t0 (.tup [.int 0]) t0 = some (.tup [.int 0]) := upd_same
                generalize upd H' t0 (.tup [.int 0]) = H8 at W8 ht8 ⊢
                refine ⟨_, rfl, _, rfl, _, _, rfl, rfl, ⟨by decide, by decide, by decide⟩, h, c, _, rfl, W8.b.hand, by decide, by decide, fun H9 r9 d9 r0 r1 => ⟨_, _, rfl, rfl, ?_⟩⟩
                rw [big] at r1
                have W9 := W8.drawn d9
                have ht9 := (Stay.of_drawn W8.b.hand d9).tup ht8
                refine ⟨by show 7 ≤ sizeLine; decide, fun l8 nl8 => ?_⟩
                refine ⟨h, c, l8, _, rfl, W9.b.hand.same (al nl8), (W9.b.hand.ne nl8).1, upd_same, (show 0 < 7 by decide), (show 7 ≤ 1000 by decide), fun H10 j v d10 hv => ?_⟩
                have W10 := (W9.same (al nl8)).drawn d10
                have ht10 := (Stay.of_drawn (W9.b.hand.same (al nl8)) d10).tup (al nl8 _ _ ht9)
                obtain ⟨dd, th, wf, ok⟩ : ∃ dd, Th1 H10 v dd ∧ wholeV v 0 ((n : Nat) - 1) = false ∧ PyData.strOk dd.shown = true := by
                  have m := List.mem_of_getElem? hv
                  simp only [List.mem_cons, List.not_mem_nil, or_false] at m
                  rcases m with rfl | rfl | rfl | rfl | rfl | rfl | rfl
                  · exact ⟨_, .int _ (ten_lt (by omega)), by rw [wholeV_int, decide_eq_false (p := ((n : Nat) : Int) ≤ (n : Nat) - 1) (by omega), Bool.and_false], K7E.strOk_of _⟩
                  · exact ⟨_, .int _ (by decide), rfl, K7E.strOk_of _⟩
                  · exact ⟨_, .bl _, rfl, by decide +kernel⟩
                  · exact ⟨_, .non, rfl, by decide +kernel⟩
                  · exact ⟨_, .str _ (by decide +kernel), rfl, by decide +kernel⟩
                  · exact ⟨_, .tupI ht10, rfl, by decide +kernel⟩
                  · exact ⟨_, .int _ (by show ((n : Int) + r9).natAbs < _; omega), by rw [wholeV_int, decide_eq_false (p := ((n : Nat) : Int) + r9 ≤ (n : Nat) - 1) (by omega), Bool.and_false], K7E.strOk_of _⟩
                exact ⟨v, dd, rfl, th, wf, ok, W10⟩
              · clear W
                obtain ⟨v, dd, rfl, th, wf, ok, W⟩ := hM
                -- a wrong row
                refine ⟨fun τ H' => ∃ u, τ = sg [some (.ref s0), some (.ref h), some (.ref q0), some (.int (n : Nat)), some (.ref p), some (.int (x : Nat)), some (.ref Lo), some (.ref pa), some (.ref pb), some v, some u] ∧ Wrong n H' h u ∧ Th1 H' v dd ∧ Lk a.C h c q0 p Lo n es lot us [(pa, ps), (pb, qs)] H', ?_, fun τ H' hM => ?_⟩
                · refine ⟨_, rfl, _, rfl, ?_⟩
                  refine ⟨by show 1 ≤ sizeLine; decide, fun a1 n1 => ?_⟩
                  have f1 := al (o := .lst [.int (n : Nat)]) n1
                  have g1 : upd H' a1 (.lst [.int (n : Nat)]) a1 = some (.lst [.int (n : Nat)]) := upd_same
                  have W1 := W.same f1
                  have m1 := (W.b.hand.ne n1).1
                  generalize upd H' a1 (.lst [.int (n : Nat)]) = H1' at f1 g1 W1 ⊢
                  refine ⟨_, rfl, by show 1 ≤ sizeLine; decide, fun a2 n2' => ?_⟩
                  have f2 := al (o := .lst [.int (-1)]) n2'
                  have g2 : upd H1' a2 (.lst [.int (-1)]) a2 = some (.lst [.int (-1)]) := upd_same
                  have W2 := W1.same f2
                  have m2 := (W1.b.hand.ne n2').1
                  generalize upd H1' a2 (.lst [.int (-1)]) = H2' at f2 g2 W2 ⊢
                  refine ⟨by show 1 ≤ sizeLine; decide, fun a3 n3 => ?_⟩
                  have f3 := al (o := .lst [.bl true]) n3
                  have g3 : upd H2' a3 (.lst [.bl true]) a3 = some (.lst [.bl true]) := upd_same
                  have W3 := W2.same f3
                  have m3 := (W2.b.hand.ne n3).1
                  generalize upd H2' a3 (.lst [.bl true]) = H3' at f3 g3 W3 ⊢
                  refine ⟨_, rfl, _, rfl, _, rfl, by show 2 ≤ sizeLine; decide, fun a4 n4 => ?_⟩
                  have f4 := al (o := .lst [.int (x : Nat), .int (x : Nat)]) n4
                  have g4 : upd H3' a4 (.lst [.int (x : Nat), .int (x : Nat)]) a4 = some (.lst [.int (x : Nat), .int (x : Nat)]) := upd_same
                  have W4 := W3.same f4
                  generalize upd H3' a4 (.lst [.int (x : Nat), .int (x : Nat)]) = H4' at f4 g4 W4 ⊢
                  refine ⟨pa, a4, _, _, rfl, rfl, W4.rows (pa, ps) (List.mem_cons_self ..), g4, by unfold ints_; rw [List.length_map]; exact Nat.le_trans (show ps.length + 2 ≤ 7 by omega) (by decide), fun a5 n5' => ?_⟩
                  have f5 := al (o := .lst (ints_ ps ++ [.int (x : Nat), .int (x : Nat)])) n5'
                  have g5 : upd H4' a5 (.lst (ints_ ps ++ [.int (x : Nat), .int (x : Nat)])) a5 = some (.lst (ints_ (ps ++ [x, x]))) := by rw [upd_same]; unfold ints_; rw [List.map_append]; rfl
                  have W5 := W4.same f5
                  have m5 := (W4.b.hand.ne n5').1
                  generalize upd H4' a5 (.lst (ints_ ps ++ [.int (x : Nat), .int (x : Nat)])) = H5' at f5 g5 W5 ⊢
                  refine ⟨by show 1 ≤ sizeLine; decide, fun a6 n6 => ?_⟩
                  have f6 := al (o := .lst [V.non]) n6
                  have g6 : upd H5' a6 (.lst [V.non]) a6 = some (.lst [V.non]) := upd_same
                  have W6 := W5.same f6
                  have m6 := (W5.b.hand.ne n6).1
                  generalize upd H5' a6 (.lst [V.non]) = H6' at f6 g6 W6 ⊢
                  intro a7 n7
                  have f7 := al (o := .dK []) n7
                  have g7 : upd H6' a7 (.dK []) a7 = some (.dK []) := upd_same
                  have W7 := W6.same f7
                  have m7 := (W6.b.hand.ne n7).1
                  generalize upd H6' a7 (.dK []) = H7' at f7 g7 W7 ⊢
                  refine ⟨by show 9 ≤ sizeLine; decide, fun l8 nl8 => ?_⟩
                  have f8 := fun o => al (o := o) nl8
                  refine ⟨h, c, l8, _, rfl, W7.b.hand.same (al nl8), (W7.b.hand.ne nl8).1, upd_same, (show 0 < 9 by decide), (show 9 ≤ 1000 by decide), fun H10 j u d10 hu => ?_⟩
                  have s10 := Stay.of_drawn (W7.b.hand.same (al nl8)) d10
                  have W10 := (W7.same (al nl8)).drawn d10
                  have e17 := ((((f2.trans f3).trans f4).trans f5).trans f6).trans f7
                  have th10 := ((((th.same f1).same e17)).same (al nl8)).stay s10
                  have wr : ∀ {b : Addr} {xs : List V}, H7' b = some (.lst xs) → b ≠ h → (∀ z ∈ xs, Flat4 z) → xs.length < 64 → cellsV (n : Nat) xs 0 = false → Wrong n H10 h (.ref b) := fun hb ne fl l cv => .row (s10.but _ _ ne (al nl8 _ _ hb)) ne fl l cv
                  refine ⟨u, rfl, ?_, th10, W10⟩
                  have m := List.mem_of_getElem? hu
                  simp only [List.mem_cons, List.not_mem_nil, or_false] at m
                  have f37 := (((f3.trans f4).trans f5).trans f6).trans f7
                  have f47 := ((f4.trans f5).trans f6).trans f7
                  rcases m with rfl | rfl | rfl | rfl | rfl | rfl | rfl | rfl | rfl
                  · exact .flat .non
                  · exact .flat (.str _)
                  · exact .flat (.int _)
                  · exact wr (e17 _ _ g1) m1 (fun z hz => by rw [List.mem_singleton.mp hz]; exact .int _) (by show 1 < 64; decide) (one_bad (by rw [wholeV_int, decide_eq_false (p := ((n : Nat) : Int) ≤ (n : Nat) - 1) (by omega), Bool.and_false]))
                  · exact wr (f37 _ _ g2) m2 (fun z hz => by rw [List.mem_singleton.mp hz]; exact .int _) (by show 1 < 64; decide) (one_bad rfl)
                  · exact wr (f47 _ _ g3) m3 (fun z hz => by rw [List.mem_singleton.mp hz]; exact .bl _) (by show 1 < 64; decide) (one_bad rfl)
                  · exact wr ((f6.trans f7) _ _ g5) m5 (fun z hz => by obtain ⟨y, _, rfl⟩ := List.mem_map.mp hz; exact .int _) (by unfold ints_; rw [List.length_map, List.length_append]; show ps.length + 2 < 64; omega) (two_bad ps x)
                  · exact wr (f7 _ _ g6) m6 (fun z hz => by rw [List.mem_singleton.mp hz]; exact .non) (by show 1 < 64; decide) (one_bad rfl)
                  · exact .dct (s10.but _ _ m7 (al nl8 _ _ g7)) m7
                · clear W th
                  obtain ⟨u, rfl, wr, th, W⟩ := hM
                  refine ⟨fun τ H' => ∃ k : Int, τ = sg [some (.ref s0), some (.ref h), some (.ref q0), some (.int (n : Nat)), some (.ref p), some (.int (x : Nat)), some (.ref Lo), some (.ref pa), some (.ref pb), some v, some u, some (.int k)] ∧ Wrong n H' h u ∧ Th1 H' v dd ∧ Lk a.C h c q0 p Lo n es lot us [(pa, ps), (pb, qs)] H', ?_, fun τ H' hM => ?_⟩
                  · refine ⟨_, rfl, h, c, 3, rfl, W.b.hand, by decide, by decide, fun H8 r d8 r0 r1 => ?_⟩
                    have s8 := Stay.of_drawn W.b.hand d8
                    exact ⟨r, rfl, wr.stay s8, th.stay s8, W.drawn d8⟩
                  · clear W th wr
                    obtain ⟨k, rfl, wr, th, W⟩ := hM
                    obtain ⟨sh, cl⟩ := three_ok (b := true) (d := false) ok
                    -- refused: the cell
                    refine ⟨fun τ H' => τ = sg [some (.ref s0), some (.ref h), some (.ref q0), some (.int (n : Nat)), some (.ref p), some (.int (x : Nat)), some (.ref Lo), some (.ref pa), some (.ref pb), some v, some u, some (.int k)] ∧ Wrong n H' h u ∧ Th1 H' v dd ∧ Lk a.C h c q0 p Lo n es lot us [(pa, ps), (pb, qs)] H', ?_, fun τ H' hM => ?_⟩
                    · refine ⟨_, rfl, _, rfl, _, rfl, _, rfl, pa, _, rfl, .inl (.inl (.inl (W.rows (pa, ps) (List.mem_cons_self ..)))), fun A nA => ?_⟩
                      have e8 := al (o := .lst (ints_ ps)) nA
                      have th8 := th.same e8
                      refine ⟨p, n, es, lot, k, v, _, rfl, W.b.lo.same e8, .inr (.inl ⟨dd, th8, wf, fun H9 z t e9 hz ht => ?_⟩)⟩
                      have th9 := th8.same e9
                      refine ⟨z, _, _, _, rfl, rfl, .inl (.inl hz), atI_nat (j := 1) rfl, ?_⟩
                      refine ⟨_, rfl, v, _, rfl, th9.rpr, by show 3 ≤ sizeLine; decide, fun t2 nt2 => ?_⟩
                      have e14 := al (o := .tup [.bl true, .bl false, .str dd.shown]) nt2
                      refine ⟨_, _, .tup (.inl (.inl (e14 _ _ ht))) (.cons (.bl true) (.cons (.bl false) (.cons (.str _) .nil))), .tup (.inl (.inl upd_same)) (.cons (.bl true) (.cons (.bl false) (.cons (.str _) .nil))), sh, sh, _, rfl, ?_⟩
                      rw [PySem.SeqAt.eqv_refl _ cl]
                      have e := (e8.trans e9).trans e14
                      exact iteFo rfl ⟨rfl, wr.same e, th.same e, W.same e⟩
                    · clear W th wr
                      obtain ⟨rfl, wr, th, W⟩ := hM
                      refine ⟨fun τ H' => τ = sg [some (.ref s0), some (.ref h), some (.ref q0), some (.int (n : Nat)), some (.ref p), some (.int (x : Nat)), some (.ref Lo), some (.ref pa), some (.ref pb), some v, some u, some (.int k)] ∧ Wrong n H' h u ∧ Th1 H' v dd ∧ Lk a.C h c q0 p Lo n es lot us [(pa, ps), (pb, qs)] H', ?_, fun τ H' hM => ?_⟩
                      · refine ⟨_, rfl, _, rfl, _, rfl, _, rfl, ?_⟩
                        refine ⟨p, n, es, lot, k, v, _, rfl, W.b.lo, .inr (.inl ⟨dd, th, wf, fun H9 z t e9 hz ht => ?_⟩)⟩
                        have th9 := th.same e9
                        refine ⟨z, _, _, _, rfl, rfl, .inl (.inl hz), atI_nat (j := 1) rfl, ?_⟩
                        refine ⟨_, rfl, v, _, rfl, th9.rpr, by show 3 ≤ sizeLine; decide, fun t2 nt2 => ?_⟩
                        have e14 := al (o := .tup [.bl true, .bl false, .str dd.shown]) nt2
                        refine ⟨_, _, .tup (.inl (.inl (e14 _ _ ht))) (.cons (.bl true) (.cons (.bl false) (.cons (.str _) .nil))), .tup (.inl (.inl upd_same)) (.cons (.bl true) (.cons (.bl false) (.cons (.str _) .nil))), sh, sh, _, rfl, ?_⟩
                        rw [PySem.SeqAt.eqv_refl _ cl]
                        have e := e9.trans e14
                        exact iteFo rfl ⟨rfl, wr.same e, th.same e, W.same e⟩
                      · clear W th wr sh cl
                        obtain ⟨rfl, wr, th, W⟩ := hM
                        obtain ⟨sh, cl⟩ := three_ok (b := false) (d := true) (z := "passing") (by decide +kernel)
                        -- refused: the row
                        refine ⟨fun τ H' => τ = sg [some (.ref s0), some (.ref h), some (.ref q0), some (.int (n : Nat)), some (.ref p), some (.int (x : Nat)), some (.ref Lo), some (.ref pa), some (.ref pb), some v, some u, some (.int k)] ∧ Lk a.C h c q0 p Lo n es lot us [(pa, ps), (pb, qs)] H', ?_, fun τ H' hM => ?_⟩
                        · refine ⟨_, rfl, _, rfl, _, rfl, _, rfl, ?_⟩
                          refine ⟨p, n, es, lot, k, _, _, rfl, W.b.lo, .inr (.inr ⟨x, rfl, hx, wr.bad, fun H9 z t e9 hz ht => ?_⟩)⟩
                          refine ⟨z, _, _, _, rfl, rfl, .inl (.inl hz), atI_nat (j := 1) rfl, ?_⟩
                          refine ⟨by show 3 ≤ sizeLine; decide, fun t2 nt2 => ?_⟩
                          have e14 := al (o := .tup [.bl false, .bl true, .str "passing"]) nt2
                          refine ⟨_, _, .tup (.inl (.inl (e14 _ _ ht))) (.cons (.bl false) (.cons (.bl true) (.cons (.str _) .nil))), .tup (.inl (.inl upd_same)) (.cons (.bl false) (.cons (.bl true) (.cons (.str _) .nil))), sh, sh, _, rfl, ?_⟩
                          rw [PySem.SeqAt.eqv_refl _ cl]
                          exact iteFo rfl ⟨rfl, W.same (e9.trans e14)⟩
                        · clear W th wr
                          obtain ⟨rfl, W⟩ := hM
                          exact ⟨_, rfl, _, rfl, _, rfl, _, rfl, q0, p, n, es, lot, x, pa, ps, rfl, W.b.la, n5, W.b.lo, hx, W.rows (pa, ps) (List.mem_cons_self ..), plt, pnd, fun H7 e7 => q _⟩
end
end K7
end
/-! ## P22 -/
section
open PySem PySem.Spec PyProof.Rows L2
namespace K7
theorem all_mk {P : Program} {w : World} {K : PySem.W.Frag} {h : Heap} {mg : Str → Option Value} {fa : Addr} (X : K.In h) (G : h.Ns mainGlobals mg) (hfa : mg "law" = some (.ref fa))
  {f_sq : Addr}
  (a_sq : PySem.W.nsIn K mainGlobals "is_sequence" = some (some (.ref f_sq)))
  {od_sq an_sq : Option Addr}
  {sl_sq : Array (Option Value)}
  {oc_sq kV_sq dc_sq pm_sq cd_sq ct_sq : Value}
  (l_sq : K.lookup f_sq = some ⟨oc_sq, od_sq, .func (PySem.W.fnOf "is_sequence" "is_sequence" (defArgs s_is_sequence) (defBody s_is_sequence) (defScope s_is_sequence) .none kV_sq dc_sq pm_sq an_sq cd_sq ct_sq), sl_sq⟩)
  (c_sq : PySem.W.codeIn K cd_sq "is_sequence" = true)
  (k_sq : PySem.W.keepIn K (.ref f_sq) = true)
  {f_isw : Addr}
  (a_isw : PySem.W.nsIn K mainGlobals "is_whole" = some (some (.ref f_isw)))
  {od_isw an_isw : Option Addr}
  {sl_isw : Array (Option Value)}
  {oc_isw kV_isw dc_isw pm_isw cd_isw ct_isw : Value}
  (l_isw : K.lookup f_isw = some ⟨oc_isw, od_isw, .func (PySem.W.fnOf "is_whole" "is_whole" (defArgs s_is_whole) (defBody s_is_whole) (defScope s_is_whole) .none kV_isw dc_isw pm_isw an_isw cd_isw ct_isw), sl_isw⟩)
  (c_isw : PySem.W.codeIn K cd_isw "is_whole" = true)
  (k_isw : PySem.W.keepIn K (.ref f_isw) = true)
  {f_ac : Addr}
  (a_ac : PySem.W.nsIn K mainGlobals "are_cells" = some (some (.ref f_ac)))
  {od_ac an_ac : Option Addr}
  {sl_ac : Array (Option Value)}
  {oc_ac kV_ac dc_ac pm_ac cd_ac ct_ac : Value}
  (l_ac : K.lookup f_ac = some ⟨oc_ac, od_ac, .func (PySem.W.fnOf "are_cells" "are_cells" (defArgs s_are_cells) (defBody s_are_cells) (defScope s_are_cells) .none kV_ac dc_ac pm_ac an_ac cd_ac ct_ac), sl_ac⟩)
  (c_ac : PySem.W.codeIn K cd_ac "are_cells" = true)
  (k_ac : PySem.W.keepIn K (.ref f_ac) = true)
  {f_a2 : Addr}
  (a_a2 : PySem.W.nsIn K mainGlobals "are_two_cells" = some (some (.ref f_a2)))
  {od_a2 an_a2 : Option Addr}
  {sl_a2 : Array (Option Value)}
  {oc_a2 kV_a2 dc_a2 pm_a2 cd_a2 ct_a2 : Value}
  (l_a2 : K.lookup f_a2 = some ⟨oc_a2, od_a2, .func (PySem.W.fnOf "are_two_cells" "are_two_cells" (defArgs s_are_two_cells) (defBody s_are_two_cells) (defScope s_are_two_cells) .none kV_a2 dc_a2 pm_a2 an_a2 cd_a2 ct_a2), sl_a2⟩)
  (c_a2 : PySem.W.codeIn K cd_a2 "are_two_cells" = true)
  (k_a2 : PySem.W.keepIn K (.ref f_a2) = true)
  {f_ic : Addr}
  (a_ic : PySem.W.nsIn K mainGlobals "is_cell" = some (some (.ref f_ic)))
  {od_ic an_ic : Option Addr}
  {sl_ic : Array (Option Value)}
  {oc_ic kV_ic dc_ic pm_ic cd_ic ct_ic : Value}
  (l_ic : K.lookup f_ic = some ⟨oc_ic, od_ic, .func (PySem.W.fnOf "is_cell" "is_cell" (defArgs s_is_cell) (defBody s_is_cell) (defScope s_is_cell) .none kV_ic dc_ic pm_ic an_ic cd_ic ct_ic), sl_ic⟩)
  (c_ic : PySem.W.codeIn K cd_ic "is_cell" = true)
  (k_ic : PySem.W.keepIn K (.ref f_ic) = true)
  {f_il : Addr}
  (a_il : PySem.W.nsIn K mainGlobals "is_lot" = some (some (.ref f_il)))
  {od_il an_il : Option Addr}
  {sl_il : Array (Option Value)}
  {oc_il kV_il dc_il pm_il cd_il ct_il : Value}
  (l_il : K.lookup f_il = some ⟨oc_il, od_il, .func (PySem.W.fnOf "is_lot" "is_lot" (defArgs s_is_lot) (defBody s_is_lot) (defScope s_is_lot) .none kV_il dc_il pm_il an_il cd_il ct_il), sl_il⟩)
  (c_il : PySem.W.codeIn K cd_il "is_lot" = true)
  (k_il : PySem.W.keepIn K (.ref f_il) = true)
  {f_ck : Addr}
  (a_ck : PySem.W.nsIn K mainGlobals "check_cells" = some (some (.ref f_ck)))
  {od_ck an_ck : Option Addr}
  {sl_ck : Array (Option Value)}
  {oc_ck kV_ck dc_ck pm_ck cd_ck ct_ck : Value}
  (l_ck : K.lookup f_ck = some ⟨oc_ck, od_ck, .func (PySem.W.fnOf "check_cells" "check_cells" (defArgs s_check_cells) (defBody s_check_cells) (defScope s_check_cells) .none kV_ck dc_ck pm_ck an_ck cd_ck ct_ck), sl_ck⟩)
  (c_ck : PySem.W.codeIn K cd_ck "check_cells" = true)
  (k_ck : PySem.W.keepIn K (.ref f_ck) = true)
  {f_sp : Addr}
  (a_sp : PySem.W.nsIn K mainGlobals "spread" = some (some (.ref f_sp)))
  {od_sp an_sp : Option Addr}
  {sl_sp : Array (Option Value)}
  {oc_sp kV_sp dc_sp pm_sp cd_sp ct_sp : Value}
  (l_sp : K.lookup f_sp = some ⟨oc_sp, od_sp, .func (PySem.W.fnOf "spread" "spread" (defArgs s_spread) (defBody s_spread) (defScope s_spread) .none kV_sp dc_sp pm_sp an_sp cd_sp ct_sp), sl_sp⟩)
  (c_sp : PySem.W.codeIn K cd_sp "spread" = true)
  (k_sp : PySem.W.keepIn K (.ref f_sp) = true)
  {f_ny : Addr}
  (a_ny : PySem.W.nsIn K mainGlobals "nearby_cells" = some (some (.ref f_ny)))
  {od_ny an_ny : Option Addr}
  {sl_ny : Array (Option Value)}
  {oc_ny kV_ny dc_ny pm_ny cd_ny ct_ny : Value}
  (l_ny : K.lookup f_ny = some ⟨oc_ny, od_ny, .func (PySem.W.fnOf "nearby_cells" "nearby_cells" (defArgs s_nearby_cells) (defBody s_nearby_cells) (defScope s_nearby_cells) .none kV_ny dc_ny pm_ny an_ny cd_ny ct_ny), sl_ny⟩)
  (c_ny : PySem.W.codeIn K cd_ny "nearby_cells" = true)
  (k_ny : PySem.W.keepIn K (.ref f_ny) = true)
  {f_ht : Addr}
  (a_ht : PySem.W.nsIn K mainGlobals "hang_together" = some (some (.ref f_ht)))
  {od_ht an_ht : Option Addr}
  {sl_ht : Array (Option Value)}
  {oc_ht kV_ht dc_ht pm_ht cd_ht ct_ht : Value}
  (l_ht : K.lookup f_ht = some ⟨oc_ht, od_ht, .func (PySem.W.fnOf "hang_together" "hang_together" (defArgs s_hang_together) (defBody s_hang_together) (defScope s_hang_together) .none kV_ht dc_ht pm_ht an_ht cd_ht ct_ht), sl_ht⟩)
  (c_ht : PySem.W.codeIn K cd_ht "hang_together" = true)
  (k_ht : PySem.W.keepIn K (.ref f_ht) = true)
  {f_nb : Addr}
  (a_nb : PySem.W.nsIn K mainGlobals "_are_neighbours" = some (some (.ref f_nb)))
  {od_nb an_nb : Option Addr}
  {sl_nb : Array (Option Value)}
  {oc_nb kV_nb dc_nb pm_nb cd_nb ct_nb : Value}
  (l_nb : K.lookup f_nb = some ⟨oc_nb, od_nb, .func (PySem.W.fnOf "_are_neighbours" "_are_neighbours" (defArgs s__are_neighbours) (defBody s__are_neighbours) (defScope s__are_neighbours) .none kV_nb dc_nb pm_nb an_nb cd_nb ct_nb), sl_nb⟩)
  (c_nb : PySem.W.codeIn K cd_nb "_are_neighbours" = true)
  (k_nb : PySem.W.keepIn K (.ref f_nb) = true)
  {f_ch : Addr}
  (a_ch : PySem.W.nsIn K mainGlobals "_check" = some (some (.ref f_ch)))
  {od_ch an_ch : Option Addr}
  {sl_ch : Array (Option Value)}
  {oc_ch kV_ch dc_ch pm_ch cd_ch ct_ch : Value}
  (l_ch : K.lookup f_ch = some ⟨oc_ch, od_ch, .func (PySem.W.fnOf "_check" "_check" (defArgs s__check) (defBody s__check) (defScope s__check) .none kV_ch dc_ch pm_ch an_ch cd_ch ct_ch), sl_ch⟩)
  (c_ch : PySem.W.codeIn K cd_ch "_check" = true)
  (k_ch : PySem.W.keepIn K (.ref f_ch) = true)
  {f_re : Addr}
  (a_re : PySem.W.nsIn K mainGlobals "reached" = some (some (.ref f_re)))
  {od_re an_re : Option Addr}
  {sl_re : Array (Option Value)}
  {oc_re kV_re dc_re pm_re cd_re ct_re : Value}
  (l_re : K.lookup f_re = some ⟨oc_re, od_re, .func (PySem.W.fnOf "reached" "reached" (defArgs s_reached) (defBody s_reached) (defScope s_reached) .none kV_re dc_re pm_re an_re cd_re ct_re), sl_re⟩)
  (c_re : PySem.W.codeIn K cd_re "reached" = true)
  (k_re : PySem.W.keepIn K (.ref f_re) = true)
  {f_op : Addr}
  (a_op : PySem.W.nsIn K mainGlobals "opens" = some (some (.ref f_op)))
  {od_op an_op : Option Addr}
  {sl_op : Array (Option Value)}
  {oc_op kV_op dc_op pm_op cd_op ct_op : Value}
  (l_op : K.lookup f_op = some ⟨oc_op, od_op, .func (PySem.W.fnOf "opens" "opens" (defArgs s_opens) (defBody s_opens) (defScope s_opens) .none kV_op dc_op pm_op an_op cd_op ct_op), sl_op⟩)
  (c_op : PySem.W.codeIn K cd_op "opens" = true)
  (k_op : PySem.W.keepIn K (.ref f_op) = true)
  {f_io : Addr}
  (a_io : PySem.W.nsIn K mainGlobals "is_open" = some (some (.ref f_io)))
  {od_io an_io : Option Addr}
  {sl_io : Array (Option Value)}
  {oc_io kV_io dc_io pm_io cd_io ct_io : Value}
  (l_io : K.lookup f_io = some ⟨oc_io, od_io, .func (PySem.W.fnOf "is_open" "is_open" (defArgs s_is_open) (defBody s_is_open) (defScope s_is_open) .none kV_io dc_io pm_io an_io cd_io ct_io), sl_io⟩)
  (c_io : PySem.W.codeIn K cd_io "is_open" = true)
  (k_io : PySem.W.keepIn K (.ref f_io) = true)
  {f_ow : Addr}
  (a_ow : PySem.W.nsIn K mainGlobals "open_way" = some (some (.ref f_ow)))
  {od_ow an_ow : Option Addr}
  {sl_ow : Array (Option Value)}
  {oc_ow kV_ow dc_ow pm_ow cd_ow ct_ow : Value}
  (l_ow : K.lookup f_ow = some ⟨oc_ow, od_ow, .func (PySem.W.fnOf "open_way" "open_way" (defArgs s_open_way) (defBody s_open_way) (defScope s_open_way) .none kV_ow dc_ow pm_ow an_ow cd_ow ct_ow), sl_ow⟩)
  (c_ow : PySem.W.codeIn K cd_ow "open_way" = true)
  (k_ow : PySem.W.keepIn K (.ref f_ow) = true)
  {f_mi : Addr}
  (a_mi : PySem.W.nsIn K mainGlobals "_law_mix" = some (some (.ref f_mi)))
  {od_mi an_mi : Option Addr}
  {sl_mi : Array (Option Value)}
  {oc_mi kV_mi dc_mi pm_mi cd_mi ct_mi : Value}
  (l_mi : K.lookup f_mi = some ⟨oc_mi, od_mi, .func (PySem.W.fnOf "_law_mix" "_law_mix" (defArgs s__law_mix) (defBody s__law_mix) (defScope s__law_mix) .none kV_mi dc_mi pm_mi an_mi cd_mi ct_mi), sl_mi⟩)
  (c_mi : PySem.W.codeIn K cd_mi "_law_mix" = true)
  (k_mi : PySem.W.keepIn K (.ref f_mi) = true)
  {f_ha : Addr}
  (a_ha : PySem.W.nsIn K mainGlobals "_law_hand" = some (some (.ref f_ha)))
  {od_ha an_ha : Option Addr}
  {sl_ha : Array (Option Value)}
  {oc_ha kV_ha dc_ha pm_ha cd_ha ct_ha : Value}
  (l_ha : K.lookup f_ha = some ⟨oc_ha, od_ha, .func (PySem.W.fnOf "_law_hand" "_law_hand" (defArgs s__law_hand) (defBody s__law_hand) (defScope s__law_hand) .none kV_ha dc_ha pm_ha an_ha cd_ha ct_ha), sl_ha⟩)
  (c_ha : PySem.W.codeIn K cd_ha "_law_hand" = true)
  (k_ha : PySem.W.keepIn K (.ref f_ha) = true)
  {f_dr : Addr}
  (a_dr : PySem.W.nsIn K mainGlobals "_law_draw" = some (some (.ref f_dr)))
  {od_dr an_dr : Option Addr}
  {sl_dr : Array (Option Value)}
  {oc_dr kV_dr dc_dr pm_dr cd_dr ct_dr : Value}
  (l_dr : K.lookup f_dr = some ⟨oc_dr, od_dr, .func (PySem.W.fnOf "_law_draw" "_law_draw" (defArgs s__law_draw) (defBody s__law_draw) (defScope s__law_draw) .none kV_dr dc_dr pm_dr an_dr cd_dr ct_dr), sl_dr⟩)
  (c_dr : PySem.W.codeIn K cd_dr "_law_draw" = true)
  (k_dr : PySem.W.keepIn K (.ref f_dr) = true)
  {f_pk : Addr}
  (a_pk : PySem.W.nsIn K mainGlobals "_law_pick" = some (some (.ref f_pk)))
  {od_pk an_pk : Option Addr}
  {sl_pk : Array (Option Value)}
  {oc_pk kV_pk dc_pk pm_pk cd_pk ct_pk : Value}
  (l_pk : K.lookup f_pk = some ⟨oc_pk, od_pk, .func (PySem.W.fnOf "_law_pick" "_law_pick" (defArgs s__law_pick) (defBody s__law_pick) (defScope s__law_pick) .none kV_pk dc_pk pm_pk an_pk cd_pk ct_pk), sl_pk⟩)
  (c_pk : PySem.W.codeIn K cd_pk "_law_pick" = true)
  (k_pk : PySem.W.keepIn K (.ref f_pk) = true)
  {f_lo : Addr}
  (a_lo : PySem.W.nsIn K mainGlobals "_law_lots" = some (some (.ref f_lo)))
  {od_lo an_lo : Option Addr}
  {sl_lo : Array (Option Value)}
  {oc_lo kV_lo dc_lo pm_lo cd_lo ct_lo : Value}
  (l_lo : K.lookup f_lo = some ⟨oc_lo, od_lo, .func (PySem.W.fnOf "_law_lots" "_law_lots" (defArgs s__law_lots) (defBody s__law_lots) (defScope s__law_lots) .none kV_lo dc_lo pm_lo an_lo cd_lo ct_lo), sl_lo⟩)
  (c_lo : PySem.W.codeIn K cd_lo "_law_lots" = true)
  (k_lo : PySem.W.keepIn K (.ref f_lo) = true)
  {f_ld : Addr}
  (a_ld : PySem.W.nsIn K mainGlobals "_law_land" = some (some (.ref f_ld)))
  {od_ld an_ld : Option Addr}
  {sl_ld : Array (Option Value)}
  {oc_ld kV_ld dc_ld pm_ld cd_ld ct_ld : Value}
  (l_ld : K.lookup f_ld = some ⟨oc_ld, od_ld, .func (PySem.W.fnOf "_law_land" "_law_land" (defArgs s__law_land) (defBody s__law_land) (defScope s__law_land) .none kV_ld dc_ld pm_ld an_ld cd_ld ct_ld), sl_ld⟩)
  (c_ld : PySem.W.codeIn K cd_ld "_law_land" = true)
  (k_ld : PySem.W.keepIn K (.ref f_ld) = true)
  {f_lc : Addr}
  (a_lc : PySem.W.nsIn K mainGlobals "_law_comes" = some (some (.ref f_lc)))
  {od_lc an_lc : Option Addr}
  {sl_lc : Array (Option Value)}
  {oc_lc kV_lc dc_lc pm_lc cd_lc ct_lc : Value}
  (l_lc : K.lookup f_lc = some ⟨oc_lc, od_lc, .func (PySem.W.fnOf "_law_comes" "_law_comes" (defArgs s__law_comes) (defBody s__law_comes) (defScope s__law_comes) .none kV_lc dc_lc pm_lc an_lc cd_lc ct_lc), sl_lc⟩)
  (c_lc : PySem.W.codeIn K cd_lc "_law_comes" = true)
  (k_lc : PySem.W.keepIn K (.ref f_lc) = true)
  {f_lp : Addr}
  (a_lp : PySem.W.nsIn K mainGlobals "_law_open" = some (some (.ref f_lp)))
  {od_lp an_lp : Option Addr}
  {sl_lp : Array (Option Value)}
  {oc_lp kV_lp dc_lp pm_lp cd_lp ct_lp : Value}
  (l_lp : K.lookup f_lp = some ⟨oc_lp, od_lp, .func (PySem.W.fnOf "_law_open" "_law_open" (defArgs s__law_open) (defBody s__law_open) (defScope s__law_open) .none kV_lp dc_lp pm_lp an_lp cd_lp ct_lp), sl_lp⟩)
  (c_lp : PySem.W.codeIn K cd_lp "_law_open" = true)
  (k_lp : PySem.W.keepIn K (.ref f_lp) = true)
  {f_lw : Addr}
  (a_lw : PySem.W.nsIn K mainGlobals "_law_ways" = some (some (.ref f_lw)))
  {od_lw an_lw : Option Addr}
  {sl_lw : Array (Option Value)}
  {oc_lw kV_lw dc_lw pm_lw cd_lw ct_lw : Value}
  (l_lw : K.lookup f_lw = some ⟨oc_lw, od_lw, .func (PySem.W.fnOf "_law_ways" "_law_ways" (defArgs s__law_ways) (defBody s__law_ways) (defScope s__law_ways) .none kV_lw dc_lw pm_lw an_lw cd_lw ct_lw), sl_lw⟩)
  (c_lw : PySem.W.codeIn K cd_lw "_law_ways" = true)
  (k_lw : PySem.W.keepIn K (.ref f_lw) = true)
  {f_mx : Addr}
  (a_mx : PySem.W.nsIn K mainGlobals "_law_mixed" = some (some (.ref f_mx)))
  {od_mx an_mx : Option Addr}
  {sl_mx : Array (Option Value)}
  {oc_mx kV_mx dc_mx pm_mx cd_mx ct_mx : Value}
  (l_mx : K.lookup f_mx = some ⟨oc_mx, od_mx, .func (PySem.W.fnOf "_law_mixed" "_law_mixed" (defArgs s__law_mixed) (defBody s__law_mixed) (defScope s__law_mixed) .none kV_mx dc_mx pm_mx an_mx cd_mx ct_mx), sl_mx⟩)
  (c_mx : PySem.W.codeIn K cd_mx "_law_mixed" = true)
  (k_mx : PySem.W.keepIn K (.ref f_mx) = true)
  {f_to : Addr}
  (a_to : PySem.W.nsIn K mainGlobals "_law_told" = some (some (.ref f_to)))
  {od_to an_to : Option Addr}
  {sl_to : Array (Option Value)}
  {oc_to kV_to dc_to pm_to cd_to ct_to : Value}
  (l_to : K.lookup f_to = some ⟨oc_to, od_to, .func (PySem.W.fnOf "_law_told" "_law_told" (defArgs s__law_told) (defBody s__law_told) (defScope s__law_told) .none kV_to dc_to pm_to an_to cd_to ct_to), sl_to⟩)
  (c_to : PySem.W.codeIn K cd_to "_law_told" = true)
  (k_to : PySem.W.keepIn K (.ref f_to) = true)
  {f_sy : Addr}
  (a_sy : PySem.W.nsIn K mainGlobals "_law_says" = some (some (.ref f_sy)))
  {od_sy an_sy : Option Addr}
  {sl_sy : Array (Option Value)}
  {oc_sy kV_sy dc_sy pm_sy cd_sy ct_sy : Value}
  (l_sy : K.lookup f_sy = some ⟨oc_sy, od_sy, .func (PySem.W.fnOf "_law_says" "_law_says" (defArgs s__law_says) (defBody s__law_says) (defScope s__law_says) .none kV_sy dc_sy pm_sy an_sy cd_sy ct_sy), sl_sy⟩)
  (c_sy : PySem.W.codeIn K cd_sy "_law_says" = true)
  (k_sy : PySem.W.keepIn K (.ref f_sy) = true)
  {f_rt : Addr}
  (a_rt : PySem.W.nsIn K mainGlobals "_law_right" = some (some (.ref f_rt)))
  {od_rt an_rt : Option Addr}
  {sl_rt : Array (Option Value)}
  {oc_rt kV_rt dc_rt pm_rt cd_rt ct_rt : Value}
  (l_rt : K.lookup f_rt = some ⟨oc_rt, od_rt, .func (PySem.W.fnOf "_law_right" "_law_right" (defArgs s__law_right) (defBody s__law_right) (defScope s__law_right) .none kV_rt dc_rt pm_rt an_rt cd_rt ct_rt), sl_rt⟩)
  (c_rt : PySem.W.codeIn K cd_rt "_law_right" = true)
  (k_rt : PySem.W.keepIn K (.ref f_rt) = true)
  {f_la : Addr}
  (a_la : PySem.W.nsIn K mainGlobals "law" = some (some (.ref f_la)))
  {od_la an_la : Option Addr}
  {sl_la : Array (Option Value)}
  {oc_la kV_la dc_la pm_la cd_la ct_la : Value}
  (l_la : K.lookup f_la = some ⟨oc_la, od_la, .func (PySem.W.fnOf "law" "law" (defArgs s_law) (defBody s_law) (defScope s_law) .none kV_la dc_la pm_la an_la cd_la ct_la), sl_la⟩)
  (c_la : PySem.W.codeIn K cd_la "law" = true)
  (k_la : PySem.W.keepIn K (.ref f_la) = true)
  {L : Addr}
  (aL : PySem.W.nsIn K mainGlobals "LandError" = some (some (.ref L)))
  (eL : PySem.W.subIn K (.ref L) (.type "BaseException") = some true)
  (dL : PySem.W.hasDictIn K L = true)
  (tL : PySem.W.typeIn K (.ref L) = some (.type "type"))
  (icL : PySem.W.isClsIn K L = true)
  (hnO : PySem.W.specialIn K (.builtin "object.__class__") "__get__" = some (some (.builtin "getset_descriptor.__get__")))
  (htO : PySem.W.takesIn K (.builtin "object.__class__") = some true)
  {LC : Addr}
  (aLC : PySem.W.nsIn K mainGlobals "Land" = some (some (.ref LC)))
  (pgLC : PySem.W.plainGet K LC Str.empty = true)
  (hdLC : PySem.W.hasDictIn K LC = true)
  (poLC : PySem.W.plainOver K LC = true)
  (saLC : PySem.W.findIn K (.ref LC) "__setattr__" = some (some (.builtin "object.__setattr__")))
  (mkLC : PySem.W.makesIn K LC = true)
  (kcLC : PySem.W.keepIn K (.ref LC) = true)
  (haLC : PySem.W.findIn K (.ref LC) "__class__" = some (some (.builtin "object.__class__")))
  (hmLC : PySem.W.mroIn K LC (.type "object") = some true)
  (n_LC_cells : PySem.W.findIn K (.ref LC) "cells" = some none)
  (n_LC_neighbours : PySem.W.findIn K (.ref LC) "neighbours" = some none)
  (n_LC_roads : PySem.W.findIn K (.ref LC) "roads" = some none)
  (n_LC_nearby : PySem.W.findIn K (.ref LC) "nearby" = some none)
  (n_LC__couples : PySem.W.findIn K (.ref LC) "_couples" = some none)
  {f_cI : Addr}
  (a_cI : PySem.W.findIn K (.ref LC) "__init__" = some (some (.ref f_cI)))
  (i_cI : PySem.W.isFn K (.ref f_cI) = true)
  {od_cI an_cI : Option Addr}
  {sl_cI : Array (Option Value)}
  {oc_cI kV_cI dc_cI pm_cI cd_cI ct_cI : Value}
  (l_cI : K.lookup f_cI = some ⟨oc_cI, od_cI, .func (PySem.W.fnOf "__init__" "Land.__init__" (defArgs s_Land___init__) (defBody s_Land___init__) (defScope s_Land___init__) .none kV_cI dc_cI pm_cI an_cI cd_cI ct_cI), sl_cI⟩)
  (c_cI : PySem.W.codeIn K cd_cI "Land.__init__" = true)
  (k_cI : PySem.W.keepIn K (.ref f_cI) = true)
  {B : Addr}
  (aB : PySem.W.nsIn K mainGlobals "BadCell" = some (some (.ref B)))
  {nmB qB : Str}
  {N_B : Addr}
  {bsB bmB subB : List Value}
  {snB : List Str}
  {abB : Bool}
  {colB : Option Bool}
  {ddB : Option Addr}
  {m0B m1B m2B m3B m5B : Option Value}
  (xB : K.lookup B = some (excClassObj nmB qB B N_B bsB bmB true snB subB abB colB ddB m0B m1B m2B m3B m5B "ValueError.__new__"))
  (rB : PySem.HandSPX.refsVE bmB = true)
  (saB : PySem.W.findIn K (.ref B) "__setattr__" = some (some (.builtin "object.__setattr__")))
  (exB : PySem.W.subIn K (.ref B) (.type "BaseException") = some true)
  (tyB : PySem.W.typeIn K (.ref B) = some (.type "type"))
  (kpB : PySem.W.keepIn K (.ref B) = true)
  (hgB : PySem.W.findIn K (.ref B) "__getattribute__" = some (some (.builtin "BaseException.__getattribute__")))
  (hkB : PySem.W.findIn K (.ref B) "__getattr__" = some none)
  (hdB : PySem.W.hasDictIn K B = true)
  (haB : PySem.W.findIn K (.ref B) "__class__" = some (some (.builtin "object.__class__")))
  (hmB : PySem.W.mroIn K B (.type "object") = some true)
  (icB : PySem.W.isClsIn K B = true)
  (ssB : PySem.W.subIn K (.ref B) (.ref B) = some true)
  (suB : PySem.W.subIn K (.ref B) (.ref L) = some true)
  (noB : PySem.W.findIn K (.ref B) "cell" = some none)
  {f_iB : Addr}
  (a_iB : PySem.W.findIn K (.ref B) "__init__" = some (some (.ref f_iB)))
  (t_iB : PySem.W.typeIn K (.ref f_iB) = some (.type "function"))
  {od_iB an_iB : Option Addr}
  {sl_iB : Array (Option Value)}
  {oc_iB kV_iB dc_iB pm_iB cd_iB ct_iB : Value}
  (l_iB : K.lookup f_iB = some ⟨oc_iB, od_iB, .func (PySem.W.fnOf "__init__" "BadCell.__init__" (defArgs s_BadCell___init__) (defBody s_BadCell___init__) (defScope s_BadCell___init__) .none kV_iB dc_iB pm_iB an_iB cd_iB ct_iB), sl_iB⟩)
  (c_iB : PySem.W.codeIn K cd_iB "BadCell.__init__" = true)
  (k_iB : PySem.W.keepIn K (.ref f_iB) = true)
  {S : Addr}
  (aS : PySem.W.nsIn K mainGlobals "BadCells" = some (some (.ref S)))
  {nmS qS : Str}
  {N_S : Addr}
  {bsS bmS subS : List Value}
  {snS : List Str}
  {abS : Bool}
  {colS : Option Bool}
  {ddS : Option Addr}
  {m0S m1S m2S m3S m5S : Option Value}
  (xS : K.lookup S = some (excClassObj nmS qS S N_S bsS bmS true snS subS abS colS ddS m0S m1S m2S m3S m5S "ValueError.__new__"))
  (rS : PySem.HandSPX.refsVE bmS = true)
  (saS : PySem.W.findIn K (.ref S) "__setattr__" = some (some (.builtin "object.__setattr__")))
  (exS : PySem.W.subIn K (.ref S) (.type "BaseException") = some true)
  (tyS : PySem.W.typeIn K (.ref S) = some (.type "type"))
  (kpS : PySem.W.keepIn K (.ref S) = true)
  (hgS : PySem.W.findIn K (.ref S) "__getattribute__" = some (some (.builtin "BaseException.__getattribute__")))
  (hkS : PySem.W.findIn K (.ref S) "__getattr__" = some none)
  (hdS : PySem.W.hasDictIn K S = true)
  (haS : PySem.W.findIn K (.ref S) "__class__" = some (some (.builtin "object.__class__")))
  (hmS : PySem.W.mroIn K S (.type "object") = some true)
  (icS : PySem.W.isClsIn K S = true)
  (ssS : PySem.W.subIn K (.ref S) (.ref S) = some true)
  (suS : PySem.W.subIn K (.ref S) (.ref L) = some true)
  (noS : PySem.W.findIn K (.ref S) "what" = some none)
  {f_iS : Addr}
  (a_iS : PySem.W.findIn K (.ref S) "__init__" = some (some (.ref f_iS)))
  (t_iS : PySem.W.typeIn K (.ref f_iS) = some (.type "function"))
  {od_iS an_iS : Option Addr}
  {sl_iS : Array (Option Value)}
  {oc_iS kV_iS dc_iS pm_iS cd_iS ct_iS : Value}
  (l_iS : K.lookup f_iS = some ⟨oc_iS, od_iS, .func (PySem.W.fnOf "__init__" "BadCells.__init__" (defArgs s_BadCells___init__) (defBody s_BadCells___init__) (defScope s_BadCells___init__) .none kV_iS dc_iS pm_iS an_iS cd_iS ct_iS), sl_iS⟩)
  (c_iS : PySem.W.codeIn K cd_iS "BadCells.__init__" = true)
  (k_iS : PySem.W.keepIn K (.ref f_iS) = true)
  (suBS : PySem.W.subIn K (.ref B) (.ref S) = some false)
  (suSB : PySem.W.subIn K (.ref S) (.ref B) = some false)
  {t_M : Tok}
  (a_M : PySem.W.nsIn K mainGlobals "MOST_CELLS" = some (some (.int 5 t_M)))
  (z_isinstance : PySem.W.nsIn K mainGlobals "isinstance" = some none)
  (z_int : PySem.W.nsIn K mainGlobals "int" = some none)
  (z_bool : PySem.W.nsIn K mainGlobals "bool" = some none)
  (z_tuple : PySem.W.nsIn K mainGlobals "tuple" = some none)
  (z_list : PySem.W.nsIn K mainGlobals "list" = some none)
  (z_enumerate : PySem.W.nsIn K mainGlobals "enumerate" = some none)
  (z_len : PySem.W.nsIn K mainGlobals "len" = some none)
  (z_abs : PySem.W.nsIn K mainGlobals "abs" = some none)
  (z_range : PySem.W.nsIn K mainGlobals "range" = some none)
  (z_min : PySem.W.nsIn K mainGlobals "min" = some none)
  (z_max : PySem.W.nsIn K mainGlobals "max" = some none)
  (z_sorted : PySem.W.nsIn K mainGlobals "sorted" = some none)
  (z_set : PySem.W.nsIn K mainGlobals "set" = some none)
  (z_all : PySem.W.nsIn K mainGlobals "all" = some none)
  (z_any : PySem.W.nsIn K mainGlobals "any" = some none)
  (z_repr : PySem.W.nsIn K mainGlobals "repr" = some none) :
    ∃ fd : FuncData, (∀ (s : Shared) (u : Value), BindsTo s fd ⟨[u], []⟩ [("_law_script", u)]) ∧ ∀ base : Heap, K.In base → base.Ns mainGlobals mg → K7E.FnG P w K mg base CX0 9 fa fd ["_law_script"] (spLaw K) := by
  have e := hfa.symm.trans (PySem.W.mg_of X G a_la)
  cases e
  have F_sq := fun_mk (st := s_is_sequence) l_sq c_sq k_sq
  have b_sq := F_sq.binds (ps := ["thing"]) fun _ _ _ _ _ _ us hl => match us, hl with | [_], _ => rfl
  have g_sq := PySem.W.mg_of X G a_sq
  have F_isw := fun_mk (st := s_is_whole) l_isw c_isw k_isw
  have b_isw := F_isw.binds (ps := ["thing", "low", "high"]) fun _ _ _ _ _ _ us hl => match us, hl with | [_, _, _], _ => rfl
  have g_isw := PySem.W.mg_of X G a_isw
  have F_ac := fun_mk (st := s_are_cells) l_ac c_ac k_ac
  have b_ac := F_ac.binds (ps := ["many", "thing", "least"]) fun _ _ _ _ _ _ us hl => match us, hl with | [_, _, _], _ => rfl
  have g_ac := PySem.W.mg_of X G a_ac
  have F_a2 := fun_mk (st := s_are_two_cells) l_a2 c_a2 k_a2
  have b_a2 := F_a2.binds (ps := ["many", "thing"]) fun _ _ _ _ _ _ us hl => match us, hl with | [_, _], _ => rfl
  have g_a2 := PySem.W.mg_of X G a_a2
  have F_ic := fun_mk (st := s_is_cell) l_ic c_ic k_ic
  have b_ic := F_ic.binds (ps := ["land", "thing"]) fun _ _ _ _ _ _ us hl => match us, hl with | [_, _], _ => rfl
  have g_ic := PySem.W.mg_of X G a_ic
  have F_il := fun_mk (st := s_is_lot) l_il c_il k_il
  have b_il := F_il.binds (ps := ["land", "thing", "least"]) fun _ _ _ _ _ _ us hl => match us, hl with | [_, _, _], _ => rfl
  have g_il := PySem.W.mg_of X G a_il
  have F_ck := fun_mk (st := s_check_cells) l_ck c_ck k_ck
  have g_ck := PySem.W.mg_of X G a_ck
  have F_sp := fun_mk (st := s_spread) l_sp c_sp k_sp
  have b_sp := F_sp.binds (ps := ["nearby", "cell", "passing"]) fun _ _ _ _ _ _ us hl => match us, hl with | [_, _, _], _ => rfl
  have g_sp := PySem.W.mg_of X G a_sp
  have F_ny := fun_mk (st := s_nearby_cells) l_ny c_ny k_ny
  have b_ny := F_ny.binds (ps := ["cells", "couples"]) fun _ _ _ _ _ _ us hl => match us, hl with | [_, _], _ => rfl
  have g_ny := PySem.W.mg_of X G a_ny
  have F_ht := fun_mk (st := s_hang_together) l_ht c_ht k_ht
  have b_ht := F_ht.binds (ps := ["cells", "couples"]) fun _ _ _ _ _ _ us hl => match us, hl with | [_, _], _ => rfl
  have g_ht := PySem.W.mg_of X G a_ht
  have F_nb := fun_mk (st := s__are_neighbours) l_nb c_nb k_nb
  have b_nb := F_nb.binds (ps := ["cells", "thing"]) fun _ _ _ _ _ _ us hl => match us, hl with | [_, _], _ => rfl
  have g_nb := PySem.W.mg_of X G a_nb
  have F_ch := fun_mk (st := s__check) l_ch c_ch k_ch
  have b_ch := F_ch.binds (ps := ["land", "cell", "passing"]) fun _ _ _ _ _ _ us hl => match us, hl with | [_, _, _], _ => rfl
  have g_ch := PySem.W.mg_of X G a_ch
  have F_re := fun_mk (st := s_reached) l_re c_re k_re
  have b_re := F_re.binds (ps := ["land", "cell", "passing"]) fun _ _ _ _ _ _ us hl => match us, hl with | [_, _, _], _ => rfl
  have g_re := PySem.W.mg_of X G a_re
  have F_op := fun_mk (st := s_opens) l_op c_op k_op
  have b_op := F_op.binds (ps := ["land", "cell", "passing"]) fun _ _ _ _ _ _ us hl => match us, hl with | [_, _, _], _ => rfl
  have g_op := PySem.W.mg_of X G a_op
  have F_io := fun_mk (st := s_is_open) l_io c_io k_io
  have b_io := F_io.binds (ps := ["land", "cell", "passing"]) fun _ _ _ _ _ _ us hl => match us, hl with | [_, _, _], _ => rfl
  have g_io := PySem.W.mg_of X G a_io
  have F_ow := fun_mk (st := s_open_way) l_ow c_ow k_ow
  have b_ow := F_ow.binds (ps := ["land", "cell", "passing"]) fun _ _ _ _ _ _ us hl => match us, hl with | [_, _, _], _ => rfl
  have g_ow := PySem.W.mg_of X G a_ow
  have F_mi := fun_mk (st := s__law_mix) l_mi c_mi k_mi
  have b_mi := F_mi.binds (ps := ["_law_number", "_law_turn"]) fun _ _ _ _ _ _ us hl => match us, hl with | [_, _], _ => rfl
  have g_mi := PySem.W.mg_of X G a_mi
  have F_ha := fun_mk (st := s__law_hand) l_ha c_ha k_ha
  have b_ha := F_ha.binds (ps := ["_law_script"]) fun _ _ _ _ _ _ us hl => match us, hl with | [_], _ => rfl
  have g_ha := PySem.W.mg_of X G a_ha
  have F_dr := fun_mk (st := s__law_draw) l_dr c_dr k_dr
  have b_dr := F_dr.binds (ps := ["_law_hand_here", "_law_many"]) fun _ _ _ _ _ _ us hl => match us, hl with | [_, _], _ => rfl
  have g_dr := PySem.W.mg_of X G a_dr
  have F_pk := fun_mk (st := s__law_pick) l_pk c_pk k_pk
  have b_pk := F_pk.binds (ps := ["_law_hand_here", "_law_things"]) fun _ _ _ _ _ _ us hl => match us, hl with | [_, _], _ => rfl
  have g_pk := PySem.W.mg_of X G a_pk
  have F_lo := fun_mk (st := s__law_lots) l_lo c_lo k_lo
  have b_lo := F_lo.binds (ps := ["_law_cells"]) fun _ _ _ _ _ _ us hl => match us, hl with | [_], _ => rfl
  have g_lo := PySem.W.mg_of X G a_lo
  have F_ld := fun_mk (st := s__law_land) l_ld c_ld k_ld
  have b_ld := F_ld.binds (ps := ["_law_hand_here", "_law_n"]) fun _ _ _ _ _ _ us hl => match us, hl with | [_, _], _ => rfl
  have g_ld := PySem.W.mg_of X G a_ld
  have F_lc := fun_mk (st := s__law_comes) l_lc c_lc k_lc
  have b_lc := F_lc.binds (ps := ["_law_land_here", "_law_cell", "_law_passing"]) fun _ _ _ _ _ _ us hl => match us, hl with | [_, _, _], _ => rfl
  have g_lc := PySem.W.mg_of X G a_lc
  have F_lp := fun_mk (st := s__law_open) l_lp c_lp k_lp
  have b_lp := F_lp.binds (ps := ["_law_land_here", "_law_cell", "_law_passing"]) fun _ _ _ _ _ _ us hl => match us, hl with | [_, _, _], _ => rfl
  have g_lp := PySem.W.mg_of X G a_lp
  have F_lw := fun_mk (st := s__law_ways) l_lw c_lw k_lw
  have b_lw := F_lw.binds (ps := ["_law_land_here", "_law_cell", "_law_passing"]) fun _ _ _ _ _ _ us hl => match us, hl with | [_, _, _], _ => rfl
  have g_lw := PySem.W.mg_of X G a_lw
  have F_mx := fun_mk (st := s__law_mixed) l_mx c_mx k_mx
  have b_mx := F_mx.binds (ps := ["_law_hand_here", "_law_lot"]) fun _ _ _ _ _ _ us hl => match us, hl with | [_, _], _ => rfl
  have g_mx := PySem.W.mg_of X G a_mx
  have F_to := fun_mk (st := s__law_told) l_to c_to k_to
  have b_to := F_to.binds (ps := ["_law_sort", "_law_land_here", "_law_cell", "_law_passing"]) fun _ _ _ _ _ _ us hl => match us, hl with | [_, _, _, _], _ => rfl
  have g_to := PySem.W.mg_of X G a_to
  have F_sy := fun_mk (st := s__law_says) l_sy c_sy k_sy
  have b_sy := F_sy.binds (ps := ["_law_answer", "_law_due"]) fun _ _ _ _ _ _ us hl => match us, hl with | [_, _], _ => rfl
  have g_sy := PySem.W.mg_of X G a_sy
  have F_rt := fun_mk (st := s__law_right) l_rt c_rt k_rt
  have b_rt := F_rt.binds (ps := ["_law_plain", "_law_land_here", "_law_cell", "_law_passing"]) fun _ _ _ _ _ _ us hl => match us, hl with | [_, _, _, _], _ => rfl
  have g_rt := PySem.W.mg_of X G a_rt
  have F_la := fun_mk (st := s_law) l_la c_la k_la
  have b_la := F_la.binds (ps := ["_law_script"]) fun _ _ _ _ _ _ us hl => match us, hl with | [_], _ => rfl
  have g_la := PySem.W.mg_of X G a_la
  have gcL := PySem.W.mg_of X G aL
  have F_cI := fun_mk (st := s_Land___init__) l_cI c_cI k_cI
  have b_cI := F_cI.binds (ps := ["self", "cells", "neighbours", "roads"]) fun _ _ _ _ _ _ us hl => match us, hl with | [_, _, _, _], _ => rfl
  have M_LC : Mk K LC f_cI := ⟨mkLC, a_cI, i_cI, kcLC⟩
  have clsLC : Cls K LC := ⟨pgLC, hdLC, poLC, saLC⟩
  have gcLC := PySem.W.mg_of X G aLC
  have F_iB := fun_mk (st := s_BadCell___init__) l_iB c_iB k_iB
  have b_iB := F_iB.binds (ps := ["self", "cell"]) fun _ _ _ _ _ _ us hl => match us, hl with | [_, _], _ => rfl
  have oxB : OexC K B := ⟨⟨_, _, _, _, _, _, _, _, _, _, _, _, _, _, _, xB, rB⟩, saB, exB, tyB, kpB⟩
  have gcB := PySem.W.mg_of X G aB
  have emB : PySem.W.exmOne K (.ref B) (.ref B) = some true := PySem.W.exm_ref exB hdB tyB ssB
  have F_iS := fun_mk (st := s_BadCells___init__) l_iS c_iS k_iS
  have b_iS := F_iS.binds (ps := ["self", "what"]) fun _ _ _ _ _ _ us hl => match us, hl with | [_, _], _ => rfl
  have oxS : OexC K S := ⟨⟨_, _, _, _, _, _, _, _, _, _, _, _, _, _, _, xS, rS⟩, saS, exS, tyS, kpS⟩
  have gcS := PySem.W.mg_of X G aS
  have emS : PySem.W.exmOne K (.ref S) (.ref S) = some true := PySem.W.exm_ref exS hdS tyS ssS
  have g_M := PySem.W.mg_of X G a_M
  have m_isinstance := PySem.W.mg_none_of X G z_isinstance
  have m_int := PySem.W.mg_none_of X G z_int
  have m_bool := PySem.W.mg_none_of X G z_bool
  have m_tuple := PySem.W.mg_none_of X G z_tuple
  have m_list := PySem.W.mg_none_of X G z_list
  have m_enumerate := PySem.W.mg_none_of X G z_enumerate
  have m_len := PySem.W.mg_none_of X G z_len
  have m_abs := PySem.W.mg_none_of X G z_abs
  have m_range := PySem.W.mg_none_of X G z_range
  have m_min := PySem.W.mg_none_of X G z_min
  have m_max := PySem.W.mg_none_of X G z_max
  have m_sorted := PySem.W.mg_none_of X G z_sorted
  have m_set := PySem.W.mg_none_of X G z_set
  have m_all := PySem.W.mg_none_of X G z_all
  have m_any := PySem.W.mg_none_of X G z_any
  have m_repr := PySem.W.mg_none_of X G z_repr
  have self : ∀ c : Addr, PySem.W.kitOne K (.ref c) (.ref c) = some true := fun c => by simp [PySem.W.kitOne]
  have kcls : ∀ t : Value, ∀ c : Addr, PySem.W.isClsIn K c = true → PySem.W.typeIn K (.ref c) = some (.type "type") → PySem.W.kitCls K t (.ref c) = PySem.W.subIn K t (.ref c) := fun t c i y => by
    have e1 : ((PySem.W.clsIn K c).isSome && PySem.W.typeIn K (.ref c) == some (.type "type")) = true := by rw [show (PySem.W.clsIn K c).isSome = true from i, y] <;> rfl
    show (if ((PySem.W.clsIn K c).isSome && PySem.W.typeIn K (.ref c) == some (.type "type")) = true then PySem.W.subIn K t (.ref c) else none) = _
    rw [if_pos e1]
  have kT : ∀ t c : Addr, PySem.W.isClsIn K c = true → PySem.W.typeIn K (.ref c) = some (.type "type") → PySem.W.subIn K (.ref t) (.ref c) = some true → PySem.W.kitOne K (.ref t) (.ref c) = some true := fun t c i y s => by
    unfold PySem.W.kitOne
    rw [kcls _ c i y, s]
    split <;> rfl
  have kF : ∀ t c : Addr, PySem.W.isClsIn K c = true → PySem.W.typeIn K (.ref c) = some (.type "type") → PySem.W.subIn K (.ref t) (.ref c) = some false → PySem.W.subIn K (.ref t) (.ref t) = some true → PySem.W.kitOne K (.ref t) (.ref c) = some false := fun t c i y s ss => by
    have hn : ¬ ((Value.ref t == Value.ref c) = true) := fun e => by
      have e' : t = c := by simpa using e
      subst e'
      rw [ss] at s
      cases s
    unfold PySem.W.kitOne
    rw [if_neg hn, kcls _ c i y, s]
  have kTy : ∀ t : String, ∀ c : Addr, PySem.W.isClsIn K c = true → PySem.W.typeIn K (.ref c) = some (.type "type") → PySem.W.subIn K (.type t) (.ref c) = some false → PySem.W.kitOne K (.type t) (.ref c) = some false := fun t c i y s => by
    have e1 : ((PySem.W.clsIn K c).isSome && PySem.W.typeIn K (.ref c) == some (.type "type")) = true := by rw [show (PySem.W.clsIn K c).isSome = true from i, y] <;> rfl
    show (if ((PySem.W.clsIn K c).isSome && PySem.W.typeIn K (.ref c) == some (.type "type")) = true then PySem.W.subIn K (.type t) (.ref c) else none) = some false
    rw [if_pos e1]
    exact s
  have TL : Tl K mg ⟨LC, B, f_iB⟩ :=
    { gC := gcLC, cl := clsLC, gB := gcB, oxB := oxB, iCB := a_iB, tIB := t_iB, nB := noB, nA := fun f hf => by
        simp only [lfields, List.mem_cons, List.not_mem_nil, or_false] at hf
        rcases hf with rfl | rfl | rfl | rfl | rfl
        · exact n_LC_cells
        · exact n_LC_neighbours
        · exact n_LC_roads
        · exact n_LC_nearby
        · exact n_LC__couples }
  have TS : Ts K mg S f_iS := ⟨gcS, oxS, a_iS, t_iS, noS⟩
  have T3 : Te K mg B S L := ⟨gcL, ⟨hgB, hkB, exB, hdB, haB, hnO, htO, hmB⟩, ⟨hgS, hkS, exS, hdS, haS, hnO, htO, hmS⟩, ⟨hgB, hkB, exB, hdB⟩, ⟨hgS, hkS, exS, hdS⟩, PySem.W.exm_ref eL dL tL suB, PySem.W.exm_ref eL dL tL suS, self B, self S, kF B S icS tyS suBS ssB, kF S B icB tyB suSB ssS⟩
  refine ⟨PySem.W.fnOf "law" "law" (defArgs s_law) (defBody s_law) (defScope s_law) .none kV_la dc_la pm_la an_la cd_la ct_la, fun s u => .of_eq rfl, fun base _ _ => ?_⟩
  have G_mi := ok_mix (P := P) (w := w) (mg := mg) (base := base)  F_mi m_int
  have G_ha := ok_hand (P := P) (w := w) (mg := mg) (base := base)  F_ha m_int m_abs m_enumerate
  have G_dr := ok_draw (P := P) (w := w) (mg := mg) (base := base)  F_dr F_mi g_mi b_mi m_int m_len
  have G_pk := ok_pick (P := P) (w := w) (mg := mg) (base := base)  F_pk k_dr G_dr g_dr b_dr m_len
  have G_lo := ok_lots (P := P) (w := w) (mg := mg) (base := base)  F_lo m_range m_len m_list
  have G_ld := ok_land (P := P) (w := w) (mg := mg) (base := base)  F_ld G_dr g_dr k_dr b_dr G_pk g_pk k_pk b_pk G_lo g_lo k_lo b_lo m_range m_len m_list m_min m_max m_sorted
  have G_isw := ok_whole (P := P) (w := w) (mg := mg) (base := base)  F_isw m_isinstance m_int m_bool
  have G_sq := ok_seq (P := P) (w := w) (mg := mg) (base := base)  F_sq m_isinstance m_list m_tuple
  have G_ac := ok_cells (P := P) (w := w) (mg := mg) (base := base)  F_ac G_sq g_sq k_sq b_sq G_isw g_isw k_isw b_isw m_len m_set m_all
  have G_a2 := ok_two (P := P) (w := w) (mg := mg) (base := base)  F_a2 G_ac g_ac k_ac b_ac m_len
  have G_sp := ok_spread (P := P) (w := w) (mg := mg) (base := base)  F_sp m_len
  have G_ny := ok_near (P := P) (w := w) (mg := mg) (base := base)  F_ny m_range m_tuple
  have G_ht := ok_hang (P := P) (w := w) (mg := mg) (base := base)  F_ht G_ny g_ny k_ny b_ny G_sp g_sp k_sp b_sp m_len m_list m_range
  have G_nb := ok_nbrs (P := P) (w := w) (mg := mg) (base := base)  F_nb G_sq g_sq k_sq b_sq G_a2 g_a2 k_a2 b_a2 m_len m_all m_tuple m_sorted
  have G_ic := ok_iscell (P := P) (w := w) (mg := mg) (base := base)  TL F_ic G_isw g_isw k_isw b_isw
  have G_il := ok_islot (P := P) (w := w) (mg := mg) (base := base)  TL F_il G_ac g_ac k_ac b_ac
  have G_ck := ok_check (P := P) (w := w) (mg := mg) (base := base)  TL F_ck G_ic g_ic k_ic b_ic F_iB b_iB
  have G_cI := ok_landI (P := P) (w := w) (mg := mg) (base := base)  TL g_M F_cI G_isw g_isw k_isw b_isw G_nb g_nb k_nb b_nb G_ac g_ac k_ac b_ac G_ht g_ht k_ht b_ht G_ny g_ny k_ny b_ny m_len m_sorted m_tuple m_range
  have G_op := ok_opens (P := P) (w := w) (mg := mg) (base := base)  TL F_op G_sp g_sp k_sp b_sp m_any
  have G_ch := ok_chk (P := P) (w := w) (mg := mg) (base := base)  G_ck g_ck k_ck TL TS F_ch G_il g_il k_il b_il F_iS b_iS
  have G_re := ok_reached (P := P) (w := w) (mg := mg) (base := base)  G_ch g_ch k_ch b_ch TL F_re G_sp g_sp k_sp b_sp m_tuple m_sorted
  have G_io := ok_isopen (P := P) (w := w) (mg := mg) (base := base)  G_ch g_ch k_ch b_ch TL F_io G_op g_op k_op b_op
  have G_ow := ok_way (P := P) (w := w) (mg := mg) (base := base)  G_ch g_ch k_ch b_ch TL F_ow m_len
  have G_lc := ok_comes (P := P) (w := w) (mg := mg) (base := base)  F_lc m_range m_len
  have G_lp := ok_lopen (P := P) (w := w) (mg := mg) (base := base)  F_lp G_lc g_lc k_lc b_lc m_len
  have G_lw := ok_ways (P := P) (w := w) (mg := mg) (base := base)  F_lw m_range m_list m_min m_max
  have G_sy := ok_says (P := P) (w := w) (mg := mg) (base := base)  F_sy
  have G_mx := ok_mixed (P := P) (w := w) (mg := mg) (base := base)  F_mx G_dr g_dr k_dr b_dr m_range m_len m_list
  have G_to := ok_told (P := P) (w := w) (mg := mg) (base := base)  TL TS T3 F_to G_re g_re k_re b_re G_io g_io k_io b_io G_ow g_ow k_ow b_ow m_isinstance m_repr
  have G_rt := ok_right (P := P) (w := w) (mg := mg) (base := base)  TL F_rt G_lc g_lc k_lc b_lc G_lp g_lp k_lp b_lp G_lw g_lw k_lw b_lw G_sy g_sy k_sy b_sy G_op g_op k_op b_op G_io g_io k_io b_io G_ow g_ow k_ow b_ow G_to g_to k_to b_to m_isinstance m_list m_tuple m_sorted m_min
  exact ok_law TL F_la G_ha g_ha k_ha b_ha G_ld g_ld k_ld b_ld G_pk g_pk k_pk b_pk G_dr g_dr k_dr b_dr G_lo g_lo k_lo b_lo G_mx g_mx k_mx b_mx G_rt g_rt k_rt b_rt G_to g_to k_to b_to M_LC G_cI b_cI m_list m_range m_tuple m_repr
end K7
end
open PySem PySem.W PyProof.Rows
set_option maxHeartbeats 0 in
theorem PySem.Challenge.cw_landways_k02_open_over_passing_cells_holds : PySem.Challenge.rw_landways_k02_open_over_passing_cells.Holds := by
  w_on; o_law; k_head; (case hw => w_witness2)
  k_fill
  refine K7E.walk_ofG (l := PySem.Challenge.rw_landways_k02_open_over_passing_cells) (n := 63) (k := 9) (x := "_law_script") (CX := fun _ => L2.CX0) (sp := fun w => K7.spLaw _) rfl (by decide) rfl ⟨rfl, by decide, by decide⟩ (fun w h Y => PySem.W.kIn_of Y) ?F (fun _ _ a ns hl _ _ hS => ⟨a, ns, rfl, hS, hl, fun _ => rfl⟩) (fun _ _ _ _ _ h => h)
  case F =>
    intro w mg fa h KX G hmg
    refine' K7.all_mk KX G hmg ?a_sq ?l_sq ?c_sq ?k_sq ?a_isw ?l_isw ?c_isw ?k_isw ?a_ac ?l_ac ?c_ac ?k_ac ?a_a2 ?l_a2 ?c_a2 ?k_a2 ?a_ic ?l_ic ?c_ic ?k_ic ?a_il ?l_il ?c_il ?k_il ?a_ck ?l_ck ?c_ck ?k_ck ?a_sp ?l_sp ?c_sp ?k_sp ?a_ny ?l_ny ?c_ny ?k_ny ?a_ht ?l_ht ?c_ht ?k_ht ?a_nb ?l_nb ?c_nb ?k_nb ?a_ch ?l_ch ?c_ch ?k_ch ?a_re ?l_re ?c_re ?k_re ?a_op ?l_op ?c_op ?k_op ?a_io ?l_io ?c_io ?k_io ?a_ow ?l_ow ?c_ow ?k_ow ?a_mi ?l_mi ?c_mi ?k_mi ?a_ha ?l_ha ?c_ha ?k_ha ?a_dr ?l_dr ?c_dr ?k_dr ?a_pk ?l_pk ?c_pk ?k_pk ?a_lo ?l_lo ?c_lo ?k_lo ?a_ld ?l_ld ?c_ld ?k_ld ?a_lc ?l_lc ?c_lc ?k_lc ?a_lp ?l_lp ?c_lp ?k_lp ?a_lw ?l_lw ?c_lw ?k_lw ?a_mx ?l_mx ?c_mx ?k_mx ?a_to ?l_to ?c_to ?k_to ?a_sy ?l_sy ?c_sy ?k_sy ?a_rt ?l_rt ?c_rt ?k_rt ?a_la ?l_la ?c_la ?k_la ?aL ?eL ?dL ?tL ?icL ?hnO ?htO ?aLC ?pgLC ?hdLC ?poLC ?saLC ?mkLC ?kcLC ?haLC ?hmLC ?n_LC_cells ?n_LC_neighbours ?n_LC_roads ?n_LC_nearby ?n_LC__couples ?a_cI ?i_cI ?l_cI ?c_cI ?k_cI ?aB ?xB ?rB ?saB ?exB ?tyB ?kpB ?hgB ?hkB ?hdB ?haB ?hmB ?icB ?ssB ?suB ?noB ?a_iB ?t_iB ?l_iB ?c_iB ?k_iB ?aS ?xS ?rS ?saS ?exS ?tyS ?kpS ?hgS ?hkS ?hdS ?haS ?hmS ?icS ?ssS ?suS ?noS ?a_iS ?t_iS ?l_iS ?c_iS ?k_iS ?suBS ?suSB ?a_M ?z_isinstance ?z_int ?z_bool ?z_tuple ?z_list ?z_enumerate ?z_len ?z_abs ?z_range ?z_min ?z_max ?z_sorted ?z_set ?z_all ?z_any ?z_repr
    (case a_sq => k_is)
    (case l_sq => k_is)
    (case c_sq => k_is)
    (case k_sq => k_is)
    (case a_isw => k_is)
    (case l_isw => k_is)
    (case c_isw => k_is)
    (case k_isw => k_is)
    (case a_ac => k_is)
    (case l_ac => k_is)
    (case c_ac => k_is)
    (case k_ac => k_is)
    (case a_a2 => k_is)
    (case l_a2 => k_is)
    (case c_a2 => k_is)
    (case k_a2 => k_is)
    (case a_ic => k_is)
    (case l_ic => k_is)
    (case c_ic => k_is)
    (case k_ic => k_is)
    (case a_il => k_is)
    (case l_il => k_is)
    (case c_il => k_is)
    (case k_il => k_is)
    (case a_ck => k_is)
    (case l_ck => k_is)
    (case c_ck => k_is)
    (case k_ck => k_is)
    (case a_sp => k_is)
    (case l_sp => k_is)
    (case c_sp => k_is)
    (case k_sp => k_is)
    (case a_ny => k_is)
    (case l_ny => k_is)
    (case c_ny => k_is)
    (case k_ny => k_is)
    (case a_ht => k_is)
    (case l_ht => k_is)
    (case c_ht => k_is)
    (case k_ht => k_is)
    (case a_nb => k_is)
    (case l_nb => k_is)
    (case c_nb => k_is)
    (case k_nb => k_is)
    (case a_ch => k_is)
    (case l_ch => k_is)
    (case c_ch => k_is)
    (case k_ch => k_is)
    (case a_re => k_is)
    (case l_re => k_is)
    (case c_re => k_is)
    (case k_re => k_is)
    (case a_op => k_is)
    (case l_op => k_is)
    (case c_op => k_is)
    (case k_op => k_is)
    (case a_io => k_is)
    (case l_io => k_is)
    (case c_io => k_is)
    (case k_io => k_is)
    (case a_ow => k_is)
    (case l_ow => k_is)
    (case c_ow => k_is)
    (case k_ow => k_is)
    (case a_mi => k_is)
    (case l_mi => k_is)
    (case c_mi => k_is)
    (case k_mi => k_is)
    (case a_ha => k_is)
    (case l_ha => k_is)
    (case c_ha => k_is)
    (case k_ha => k_is)
    (case a_dr => k_is)
    (case l_dr => k_is)
    (case c_dr => k_is)
    (case k_dr => k_is)
    (case a_pk => k_is)
    (case l_pk => k_is)
    (case c_pk => k_is)
    (case k_pk => k_is)
    (case a_lo => k_is)
    (case l_lo => k_is)
    (case c_lo => k_is)
    (case k_lo => k_is)
    (case a_ld => k_is)
    (case l_ld => k_is)
    (case c_ld => k_is)
    (case k_ld => k_is)
    (case a_lc => k_is)
    (case l_lc => k_is)
    (case c_lc => k_is)
    (case k_lc => k_is)
    (case a_lp => k_is)
    (case l_lp => k_is)
    (case c_lp => k_is)
    (case k_lp => k_is)
    (case a_lw => k_is)
    (case l_lw => k_is)
    (case c_lw => k_is)
    (case k_lw => k_is)
    (case a_mx => k_is)
    (case l_mx => k_is)
    (case c_mx => k_is)
    (case k_mx => k_is)
    (case a_to => k_is)
    (case l_to => k_is)
    (case c_to => k_is)
    (case k_to => k_is)
    (case a_sy => k_is)
    (case l_sy => k_is)
    (case c_sy => k_is)
    (case k_sy => k_is)
    (case a_rt => k_is)
    (case l_rt => k_is)
    (case c_rt => k_is)
    (case k_rt => k_is)
    (case a_la => k_is)
    (case l_la => k_is)
    (case c_la => k_is)
    (case k_la => k_is)
    (case aL => k_is)
    (case eL => k_is)
    (case dL => k_is)
    (case tL => k_is)
    (case icL => k_is)
    (case hnO => k_is)
    (case htO => k_is)
    (case aLC => k_is)
    (case pgLC => k_is)
    (case hdLC => k_is)
    (case poLC => k_is)
    (case saLC => k_is)
    (case mkLC => k_is)
    (case kcLC => k_is)
    (case haLC => k_is)
    (case hmLC => k_is)
    (case n_LC_cells => k_is)
    (case n_LC_neighbours => k_is)
    (case n_LC_roads => k_is)
    (case n_LC_nearby => k_is)
    (case n_LC__couples => k_is)
    (case a_cI => k_is)
    (case i_cI => k_is)
    (case l_cI => k_is)
    (case c_cI => k_is)
    (case k_cI => k_is)
    (case aB => k_is)
    (case xB => k_is)
    (case rB => decide +kernel)
    (case saB => k_is)
    (case exB => k_is)
    (case tyB => k_is)
    (case kpB => k_is)
    (case hgB => k_is)
    (case hkB => k_is)
    (case hdB => k_is)
    (case haB => k_is)
    (case hmB => k_is)
    (case icB => k_is)
    (case ssB => k_is)
    (case suB => k_is)
    (case noB => k_is)
    (case a_iB => k_is)
    (case t_iB => k_is)
    (case l_iB => k_is)
    (case c_iB => k_is)
    (case k_iB => k_is)
    (case aS => k_is)
    (case xS => k_is)
    (case rS => decide +kernel)
    (case saS => k_is)
    (case exS => k_is)
    (case tyS => k_is)
    (case kpS => k_is)
    (case hgS => k_is)
    (case hkS => k_is)
    (case hdS => k_is)
    (case haS => k_is)
    (case hmS => k_is)
    (case icS => k_is)
    (case ssS => k_is)
    (case suS => k_is)
    (case noS => k_is)
    (case a_iS => k_is)
    (case t_iS => k_is)
    (case l_iS => k_is)
    (case c_iS => k_is)
    (case k_iS => k_is)
    (case suBS => k_is)
    (case suSB => k_is)
    (case a_M => k_is)
    (case z_isinstance => k_is)
    (case z_int => k_is)
    (case z_bool => k_is)
    (case z_tuple => k_is)
    (case z_list => k_is)
    (case z_enumerate => k_is)
    (case z_len => k_is)
    (case z_abs => k_is)
    (case z_range => k_is)
    (case z_min => k_is)
    (case z_max => k_is)
    (case z_sorted => k_is)
    (case z_set => k_is)
    (case z_all => k_is)
    (case z_any => k_is)
    (case z_repr => k_is)

