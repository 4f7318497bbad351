import PyProof.Rows.All
import Wide.All
import OpenK.AllK
import Wide.FinOn
import PySem.Challenge.RW_landways_k46_twin_views_made_and_compare
import HandS.ForMost
import HandS.Wide
import HandS.Evl
import HandS.Walk
import HandS.Zip
import HandS.TupAny
import HandS.Sort
import PyProof.ListRange
import HandS.Deep
import HandS.SortRule
import HandS.Star
import HandS.IsInst
import HandS.TupSets
import HandS.SetFor
import HandS.SetBool
import PyProof.TupleOfSeq
import HandS.Property
import HandS.ExcIs
import HandS.ExcField
import HandS.ForExc
import HandS.ExcInit
import KE.DataMinMax
import KE.SortData
import KE.LtData
import HandS.SlotsOwn
import HandS.OwnEq
import PyProof.InstEq
import HandS.MakeKw
import HandS.Iter
import KE.GoesMore
import KE.GoesEnum
import HandS.Flow
import HandS.Strs
import PyProof.FactsAll.dict_1
import HandS.WordsExc
import HandS.More
import HandS.Rev
import HandS.Style
import HandS.RaiseMore
import KE.KExcIs
import HandS.ExcBuiltin
import KE.KRevSl
import HandS.EndBits
set_option Elab.async false
set_option linter.all false
set_option maxRecDepth 100000
set_option maxHeartbeats 4000000
/-! ## P1 -/
section
open PySem PySem.Spec PyProof.Rows L2
namespace K7

def topS (i : Nat) : Stmt := PySem.Challenge.pw_landways_k46_twin_views_made_and_compare.main.body.getD i (.Pass ⟨0, 0, 0, 0⟩)
abbrev N__law_mix : List Str := ["_law_number_here", "_law_turn", "_law_once", "_law_twice"]
abbrev s__law_mix : Stmt := topS 43
theorem sc__law_mix : FnScope ["_law_number_here", "_law_turn", "_law_once", "_law_twice"] ["_law_number_here", "_law_turn"] (defScope s__law_mix) := ⟨rfl, rfl, rfl, by decide +kernel, rfl, by decide +kernel, by decide +kernel⟩

abbrev N__law_draw : List Str := ["_law_hand_here", "_law_many", "_law_cell", "_law_rest"]
abbrev s__law_draw : Stmt := topS 45
theorem sc__law_draw : FnScope ["_law_hand_here", "_law_many", "_law_cell", "_law_rest"] ["_law_hand_here", "_law_many"] (defScope s__law_draw) := ⟨rfl, rfl, rfl, by decide +kernel, rfl, by decide +kernel, by decide +kernel⟩

abbrev N__law_pick : List Str := ["_law_hand_here", "_law_things"]
abbrev s__law_pick : Stmt := topS 46
theorem sc__law_pick : FnScope ["_law_hand_here", "_law_things"] ["_law_hand_here", "_law_things"] (defScope s__law_pick) := ⟨rfl, rfl, rfl, by decide +kernel, rfl, by decide +kernel, by decide +kernel⟩

abbrev N__law_hand : List Str := ["_law_script", "_law_total", "_law_k", "_law_cell"]
abbrev s__law_hand : Stmt := topS 44
theorem sc__law_hand : FnScope ["_law_script", "_law_total", "_law_k", "_law_cell"] ["_law_script"] (defScope s__law_hand) := ⟨rfl, rfl, rfl, by decide +kernel, rfl, by decide +kernel, by decide +kernel⟩

section
variable {P : Program} {w : World} {K : PySem.W.Frag} {mg : Str → Option Value} {base : Heap}
/-! mix: some number from 0 on -/
def spMix : Sp := fun vs H Q _ => ∃ n t : Int, vs = [.int n, .int t] ∧ ∀ r : Int, 0 ≤ r → Q (.int r) H
theorem ok_mix {f : Addr} {fd : FuncData} (F : Fun K "_law_mix" "_law_mix" s__law_mix f fd) (m_int : mg "int" = none) : FnOk P w K mg base CX0 1 f fd ["_law_number_here", "_law_turn"] spMix := by
  refine F.ok sc__law_mix (fun vs H Q E h => ?_) (fun cdv A outer s H vs Q E hr h => ?_)
  · obtain ⟨n, t, rfl, _⟩ := h
    rfl
  · obtain ⟨n, t, rfl, q⟩ := h
    refine ⟨_, (pss_cons (ps_set (i := 2) sc__law_mix.nd rfl (by first | exact Or.inl rfl | exact Or.inr rfl) (pe_op op_mod (pe_callTy call_int1 (by rfl) m_int boot_int (pa_cons (pe_op op_add (pe_op op_add (pe_op op_mul (pv 0) pe_int) (pe_op op_mul (pv 1) pe_int)) pe_int) pa_nil)) pe_int))
 (pss_cons (ps_set (i := 3) sc__law_mix.nd rfl (by first | exact Or.inl rfl | exact Or.inr rfl) (pe_op op_mod (pe_callTy call_int1 (by rfl) m_int boot_int (pa_cons (pe_op op_add (pe_op op_add (pe_op op_mul (pv 2) (pv 2)) (pe_op op_mul (pe_op op_fdiv (pv 2) pe_int) pe_int)) (pe_op op_mul (pv 1) pe_int)) pa_nil)) pe_int))
 (pss_one (ps_ret (pe_op op_fdiv (pe_op op_mod (pe_callTy call_int1 (by rfl) m_int boot_int (pa_cons (pe_op op_add (pe_op op_fdiv (pe_op op_mul (pv 3) (pv 3)) pe_int) (pv 2)) pa_nil)) pe_int) pe_int))))), ?_⟩
    have e1 : ∀ z : Int, 0 ≤ z % 2147483647 ∧ z % 2147483647 < 2147483647 := fun z => ⟨Int.emod_nonneg _ (by decide), Int.emod_lt_of_pos _ (by decide)⟩
    have e2 : ∀ z : Int, 0 ≤ z % 2147483399 ∧ z % 2147483399 < 2147483399 := fun z => ⟨Int.emod_nonneg _ (by decide), Int.emod_lt_of_pos _ (by decide)⟩
    refine ⟨_, rfl, _, _, rfl, rfl, .inr ⟨by decide, by decide⟩, _, rfl, _, _, rfl, rfl, .inr ⟨by decide, by decide⟩, _, _, rfl, rfl, _, _, rfl, rfl, .inl ⟨_, rfl, ?_⟩⟩
    refine ⟨_, _, rfl, rfl, show (0 : Int) < _ by decide, ?_⟩
    have b1 := e1 (n * 48271 + t * 16807 + 11)
    refine ⟨_, rfl, _, rfl, _, _, rfl, rfl, .inl ⟨by omega, by omega⟩, _, rfl, _, _, rfl, rfl, ⟨by decide, by decide⟩, _, _, rfl, rfl, .inr ⟨by decide, by decide⟩, _, _, rfl, rfl, _, rfl, _, _, rfl, rfl, .inr ⟨by decide, by decide⟩, _, _, rfl, rfl, .inl ⟨_, rfl, ?_⟩⟩
    refine ⟨_, _, rfl, rfl, show (0 : Int) < _ by decide, ?_⟩
    refine ⟨_, rfl, _, rfl, _, _, rfl, rfl, .inl ⟨by omega, by omega⟩, _, _, rfl, rfl, ⟨by decide, by decide⟩, _, rfl, _, _, rfl, rfl, .inl ⟨_, rfl, _, _, rfl, rfl, show (0 : Int) < _ by decide, _, _, rfl, rfl, ⟨by decide, by decide⟩, ?_⟩⟩
    exact q _ (Int.ediv_nonneg (Int.emod_nonneg _ (by decide)) (by decide))
/-! the hand -/
structure HandB (ns : List Int) (i x t : Int) : Prop where
  len : ns.length ≤ 63
  lo : 0 ≤ i
  hi : i ≤ ns.length
  x0 : 0 ≤ x
  t0 : 0 ≤ t
  pos : ∀ n ∈ ns, 0 ≤ n
def HandO (c : Addr) (i x t : Int) : HO := .lst [.ref c, .int i, .int x, .int t]
def Hand (H : Hp) (a c : Addr) : Prop := ∃ ns i x t, H a = some (HandO c i x t) ∧ H c = some (.lst (ns.map V.int)) ∧ HandB ns i x t
/-- H' is H but for the hand at a, which is a hand still -/
structure Drawn (H H' : Hp) (a c : Addr) : Prop where
  but : ∀ b, b ≠ a → H' b = H b
  hand : Hand H' a c
def spDraw : Sp := fun vs H Q _ => ∃ (a c : Addr) (many : Int), vs = [.ref a, .int many] ∧ Hand H a c ∧ 0 < many ∧ many < 2 ^ 200 ∧ ∀ H' r, Drawn H H' a c → 0 ≤ r → r < many → Q (.int r) H'
theorem hand_ne {H : Hp} {a c : Addr} {ns : List Int} {i x t : Int} (h1 : H a = some (HandO c i x t)) (h2 : H c = some (.lst (ns.map V.int))) : c ≠ a := by
  intro e
  subst e
  rw [h1] at h2
  unfold HandO at h2
  injection h2 with h2
  injection h2 with h2
  cases ns with
  | nil => cases h2
  | cons n r => rw [List.map_cons] at h2; injection h2 with h3 h4; cases h3
theorem drawn_of {H H0 : Hp} {a c : Addr} {ns : List Int} {i x t : Int} (hb : ∀ b, b ≠ a → H0 b = H b) (hc : c ≠ a) (h2 : H c = some (.lst (ns.map V.int))) (B : HandB ns i x t) : Drawn H (upd H0 a (HandO c i x t)) a c :=
  ⟨fun b h => by rw [upd_ne h]; exact hb b h, ⟨ns, i, x, t, upd_same, by rw [upd_ne hc, hb c hc]; exact h2, B⟩⟩
theorem wide200 {many : Int} (h0 : 0 < many) (h1 : many < 2 ^ 200) (i : Int) : CDivW i many := wide_div (b := 200) h0 (by omega) (by decide) (by decide)
theorem ok_draw {f fM : Addr} {fd fdM : FuncData} (F : Fun K "_law_draw" "_law_draw" s__law_draw f fd) (FM : Fun K "_law_mix" "_law_mix" s__law_mix fM fdM) (g_law_mix : mg "_law_mix" = some (.ref fM)) (b_law_mix : Binds K fdM ["_law_number_here", "_law_turn"] [])
    (m_int : mg "int" = none) (m_len : mg "len" = none) : FnOk P w K mg base CX0 2 f fd ["_law_hand_here", "_law_many"] spDraw := by
  have G_law_mix : FnOk P w K mg base CX0 1 fM fdM ["_law_number_here", "_law_turn"] spMix := ok_mix FM m_int
  have k_law_mix := FM.kp
  refine F.ok sc__law_draw (fun vs H Q E h => ?_) (fun cdv A outer s H vs Q E hr h => ?_)
  · obtain ⟨a, c, n, rfl, _⟩ := h
    rfl
  · obtain ⟨a, c, many, rfl, ⟨ns, i, x, t, h1, h2, B⟩, hm0, hm1, q⟩ := h
    have hr_law_mix := hr
    have hc := hand_ne h1 h2
    refine ⟨_, (Evl.pss_cut (ps_if (pw_and (pt_cmpR op_eq (pe_ix ix_list (pv 0) pe_int (fun _ _ => rfl)) pe_int (nomark _)) (pw_and1 (pt_cmpR op_lt (pe_ix ix_list (pv 0) pe_int (fun _ _ => rfl)) (pe_callB call_len_seq (by rfl) m_len boot_len (pa_cons (pe_ix ix_list (pv 0) pe_int (fun _ _ => rfl)) pa_nil)) (nomark _)))).pt
  (pss_cons (ps_set (i := 2) sc__law_draw.nd rfl (by first | exact Or.inl rfl | exact Or.inr rfl) (pe_ix ix_list (pe_ix ix_list (pv 0) pe_int (fun _ _ => rfl)) (pe_ix ix_list (pv 0) pe_int (fun _ _ => rfl)) (fun _ _ => rfl)))
 (pss_cons (ps_asg (pe_op op_add (pe_ix ix_list (pv 0) pe_int (fun _ _ => rfl)) pe_int) (pg_sub (pv 0) pe_int set_list))
 (pss_cons (ps_if (pt_cmpR op_lt (pv 2) (pe_op op_pow pe_int pe_int) (nomark _))
  (pss_one (ps_ret (pe_op op_mod (pe_callTy call_int1 (by rfl) m_int boot_int (pa_cons (pe_call G_law_mix hr_law_mix (by rfl) g_law_mix k_law_mix b_law_mix .nil pass0 (pa_cons (pe_op op_mod (pe_callTy call_int1 (by rfl) m_int boot_int (pa_cons (pv 2) pa_nil)) pe_int) (pa_cons (pe_ix ix_list (pv 0) pe_int (fun _ _ => rfl)) pa_nil))) pa_nil)) (pv 1))))
  pss_nil)
 (pss_one (ps_asg (pv 2) (pg_sub (pv 0) pe_int set_list))))))
  pss_nil)
 (pss_cons (ps_if (pt_cmpR op_gt (pe_ix ix_list (pv 0) pe_int (fun _ _ => rfl)) pe_int (nomark _))
  (pss_cons (ps_set (i := 3) sc__law_draw.nd rfl (by first | exact Or.inl rfl | exact Or.inr rfl) (pe_ix ix_list (pv 0) pe_int (fun _ _ => rfl)))
 (pss_cons (ps_asg (pe_op op_fdivW (pv 3) (pv 1)) (pg_sub (pv 0) pe_int set_list))
 (pss_one (ps_ret (pe_op op_mod (pe_callTy call_int1 (by rfl) m_int boot_int (pa_cons (pv 3) pa_nil)) (pv 1))))))
  pss_nil)
 (pss_cons (ps_asg (pe_op op_mod (pe_callTy call_int1 (by rfl) m_int boot_int (pa_cons (pe_op op_add (pe_ix ix_list (pv 0) pe_int (fun _ _ => rfl)) pe_int) pa_nil)) pe_int) (pg_sub (pv 0) pe_int set_list))
 (pss_one (ps_ret (pe_op op_mod (pe_callTy call_int1 (by rfl) m_int boot_int (pa_cons (pe_call G_law_mix hr_law_mix (by rfl) g_law_mix k_law_mix b_law_mix .nil pass0 (pa_cons (pe_ix ix_list (pv 0) pe_int (fun _ _ => rfl)) (pa_cons (pe_ix ix_list (pv 0) pe_int (fun _ _ => rfl)) pa_nil))) pa_nil)) (pv 1))))))), ?_⟩
    have hS : SqL K H a [.ref c, .int i, .int x, .int t] := .inl (.inl h1)
    have hC : SqL K H c (ns.map V.int) := .inl (.inl h2)
    have last : ∀ (i' : Int) (σ : L2.St) , 0 ≤ i' → i' ≤ ns.length → True := fun _ _ _ _ => trivial
    refine ⟨fun σ' H' => ∃ i' x' y2, σ' = [some (.ref a), some (.int many), y2, none] ∧ (∀ b, b ≠ a → H' b = H b) ∧ H' a = some (HandO c i' x' t) ∧ HandB ns i' x' t, ?_, fun σ' H' hM => ?_⟩
    refine ⟨.ref a, rfl, a, _, _, _, rfl, rfl, hS, rfl, rfl, _, rfl, ite2 (fun e => ?_) (fun e => ?_)⟩
    · have ex : x = 0 := V.int.inj (of_decide_eq_true e)
      subst ex
      refine ⟨.ref a, rfl, a, _, _, _, rfl, rfl, hS, rfl, .ref a, rfl, a, _, _, _, rfl, rfl, hS, rfl, c, _, rfl, .inl hC, _, _, rfl, rfl, _, rfl, ite2 (fun e => ?_) (fun e => ?_)⟩
      · have hi : i < ((ns.map V.int).length : Int) := of_decide_eq_true e
        rw [List.length_map] at hi
        have hlo := B.lo
        obtain ⟨j, rfl⟩ : ∃ j : Nat, i = (j : Int) := ⟨i.toNat, by omega⟩
        have hj : j < ns.length := by omega
        have gj : (ns.map V.int)[j]? = some (.int ns[j]) := by
          rw [List.getElem?_map, List.getElem?_eq_getElem hj]
          rfl
        have p0 : 0 ≤ ns[j] := B.pos _ (List.getElem_mem hj)
        refine ⟨.ref a, rfl, a, _, _, _, rfl, rfl, hS, rfl, .ref a, rfl, a, _, _, _, rfl, rfl, hS, rfl, c, _, _, _, rfl, rfl, hC, atI_nat gj, ?_⟩
        refine ⟨.ref a, rfl, a, _, _, _, rfl, rfl, hS, rfl, _, _, rfl, rfl, .ref a, rfl, a, _, _, _, rfl, rfl, h1, rfl, ?_⟩
        have hS2 : SqL K (upd H a (HandO c (j + 1) 0 t)) a [.ref c, .int (j + 1), .int 0, .int t] := .inl (.inl upd_same)
        refine ⟨_, rfl, _, _, rfl, rfl, ⟨by decide, by decide, by decide⟩, _, _, rfl, rfl, _, rfl, ite2 (fun e => ?_) (fun e => ?_)⟩
        · refine ⟨_, rfl, .inl ⟨_, rfl, _, _, rfl, rfl, show (0 : Int) < _ by decide, .ref a, rfl, a, _, _, _, rfl, rfl, hS2, rfl, _, _, rfl, fun r r0 => .inl ⟨_, rfl, _, rfl, _, _, rfl, rfl, hm0, ?_⟩⟩⟩
          exact q _ _ (drawn_of (H0 := H) (fun _ _ => rfl) hc h2 ⟨B.len, by omega, by omega, by decide, B.t0, B.pos⟩) (Int.emod_nonneg _ (by omega)) (Int.emod_lt_of_pos _ hm0)
        · refine ⟨_, rfl, .ref a, rfl, a, _, _, _, rfl, rfl, upd_same, rfl, ?_⟩
          refine ⟨_, _, _, rfl, fun b hb => by rw [upd_ne hb, upd_ne hb], upd_same, ⟨B.len, by omega, by omega, p0, B.t0, B.pos⟩⟩
      · exact ⟨i, 0, none, rfl, fun _ _ => rfl, h1, B⟩
    · exact ⟨i, x, none, rfl, fun _ _ => rfl, h1, B⟩
    · obtain ⟨i', x', y2, rfl, hb, h1', B'⟩ := hM
      have h2' : H' c = some (.lst (ns.map V.int)) := by rw [hb c hc]; exact h2
      have hS' : SqL K H' a [.ref c, .int i', .int x', .int t] := .inl (.inl h1')
      refine ⟨.ref a, rfl, a, _, _, _, rfl, rfl, hS', rfl, _, _, rfl, rfl, _, rfl, ite2 (fun e => ?_) (fun e => ?_)⟩
      · refine ⟨.ref a, rfl, a, _, _, _, rfl, rfl, hS', rfl, _, rfl, _, rfl, _, _, rfl, rfl, wide200 hm0 hm1 _, .ref a, rfl, a, _, _, _, rfl, rfl, h1', rfl, ?_⟩
        refine ⟨_, rfl, .inl ⟨_, rfl, _, rfl, _, _, rfl, rfl, hm0, ?_⟩⟩
        exact q _ _ (drawn_of (H0 := H') hb hc h2 ⟨B.len, B'.lo, B'.hi, Int.ediv_nonneg B'.x0 (by omega), B.t0, B.pos⟩) (Int.emod_nonneg _ (by omega)) (Int.emod_lt_of_pos _ hm0)
      · refine ⟨.ref a, rfl, a, _, _, _, rfl, rfl, hS', rfl, _, _, rfl, rfl, .inl ⟨_, rfl, _, _, rfl, rfl, show (0 : Int) < _ by decide, .ref a, rfl, a, _, _, _, rfl, rfl, h1', rfl, ?_⟩⟩
        have hS3 : SqL K (upd H' a (HandO c i' x' ((t + 1) % 2147483629))) a [.ref c, .int i', .int x', .int ((t + 1) % 2147483629)] := .inl (.inl upd_same)
        refine ⟨.ref a, rfl, a, _, _, _, rfl, rfl, hS3, rfl, .ref a, rfl, a, _, _, _, rfl, rfl, hS3, rfl, _, _, rfl, fun r r0 => .inl ⟨_, rfl, _, rfl, _, _, rfl, rfl, hm0, ?_⟩⟩
        exact q _ _ (drawn_of (H0 := H') hb hc h2 ⟨B.len, B'.lo, B'.hi, B'.x0, Int.emod_nonneg _ (by decide), B.pos⟩) (Int.emod_nonneg _ (by omega)) (Int.emod_lt_of_pos _ hm0)
theorem Hand.same {H H' : Hp} {a c : Addr} (h : Hand H a c) (e : Same H H') : Hand H' a c := by
  obtain ⟨ns, i, x, t, h1, h2, B⟩ := h
  exact ⟨ns, i, x, t, e _ _ h1, e _ _ h2, B⟩
theorem Hand.upd {H : Hp} {a c l : Addr} {o : HO} (h : Hand H a c) (h1 : l ≠ a) (h2 : l ≠ c) : Hand (upd H l o) a c := by
  obtain ⟨ns, i, x, t, e1, e2, B⟩ := h
  exact ⟨ns, i, x, t, by rw [upd_ne h1.symm]; exact e1, by rw [upd_ne h2.symm]; exact e2, B⟩
theorem Hand.ne {H : Hp} {a c l : Addr} (h : Hand H a c) (n : H l = none) : l ≠ a ∧ l ≠ c := by
  obtain ⟨ns, i, x, t, e1, e2, B⟩ := h
  exact ⟨(ne_of_none e1 n).symm, (ne_of_none e2 n).symm⟩
/-- an item of a list -/
def spPick : Sp := fun vs H Q _ => ∃ (a c l : Addr) (xs : List V), vs = [.ref a, .ref l] ∧ Hand H a c ∧ l ≠ a ∧ H l = some (.lst xs) ∧ 0 < xs.length ∧ xs.length ≤ 1000 ∧ ∀ H' (j : Nat) v, Drawn H H' a c → xs[j]? = some v → Q v H'
theorem ok_pick {f fD : Addr} {fd fdD : FuncData} (F : Fun K "_law_pick" "_law_pick" s__law_pick f fd) (k_law_draw : PySem.W.keepIn K (.ref fD) = true) (G_law_draw : FnOk P w K mg base CX0 2 fD fdD ["_law_hand_here", "_law_many"] spDraw) (g_law_draw : mg "_law_draw" = some (.ref fD)) (b_law_draw : Binds K fdD ["_law_hand_here", "_law_many"] [])
    (m_len : mg "len" = none) : FnOk P w K mg base CX0 3 f fd ["_law_hand_here", "_law_things"] spPick := by
  refine F.ok sc__law_pick (fun vs H Q E h => ?_) (fun cdv A outer s H vs Q E hr h => ?_)
  · obtain ⟨a, c, l, xs, rfl, _⟩ := h
    rfl
  · obtain ⟨a, c, l, xs, rfl, hh, hla, hl, h0, h1, q⟩ := h
    have hr_law_draw := hr
    refine ⟨_, (pss_one (ps_ret (pe_ix ix_list (pv 1) (pe_call G_law_draw hr_law_draw (by rfl) g_law_draw k_law_draw b_law_draw .nil pass0 (pa_cons (pv 0) (pa_cons (pe_callB call_len_seq (by rfl) m_len boot_len (pa_cons (pv 1) pa_nil)) pa_nil))) (fun _ _ => rfl)))), ?_⟩
    have hm : ((xs.length : Nat) : Int) < 2 ^ 200 := Int.lt_of_le_of_lt (show ((xs.length : Nat) : Int) ≤ 1000 by omega) (by decide)
    refine ⟨.ref l, rfl, .ref a, rfl, .ref l, rfl, l, _, rfl, .inl (.inl (.inl hl)), a, c, _, rfl, hh, by omega, hm, fun H' r d r0 r1 => ?_⟩
    obtain ⟨j, rfl⟩ : ∃ j : Nat, r = (j : Int) := ⟨r.toNat, by omega⟩
    have hj : j < xs.length := by omega
    have e : xs[j]? = some xs[j] := List.getElem?_eq_getElem hj
    have hl' : H' l = some (.lst xs) := by rw [d.but l hla]; exact hl
    exact ⟨l, xs, _, _, rfl, rfl, .inl (.inl hl'), atI_nat e, q H' j _ d e⟩
/-- the hand of a script -/
def spHand (K : PySem.W.Frag) : Sp := fun vs H Q _ => ∃ (s : Addr) (ns : List Int), vs = [.ref s] ∧ SqL K H s (ns.map V.int) ∧ ns.length ≤ 63 ∧ ∀ H' a c, Same H H' → H a = none → H c = none → Hand H' a c → Q (.ref a) H'
theorem ok_hand {f : Addr} {fd : FuncData} (F : Fun K "_law_hand" "_law_hand" s__law_hand f fd) (m_int : mg "int" = none) (m_abs : mg "abs" = none) (m_enumerate : mg "enumerate" = none) : FnOk P w K mg base CX0 1 f fd ["_law_script"] (spHand K) := by
  refine F.ok sc__law_hand (fun vs H Q E h => ?_) (fun cdv A outer s H vs Q E hr h => ?_)
  · obtain ⟨a, ns, rfl, _⟩ := h
    rfl
  · obtain ⟨a, ns, rfl, hS, hlen, q⟩ := h
    refine ⟨_, (pss_cons (ps_set (i := 1) sc__law_hand.nd rfl (by first | exact Or.inl rfl | exact Or.inr rfl) pe_int)
 (pss_cons (ps_for PassesOwn.never rfl (pi_enum (by rfl) m_enumerate (pa_cons (pv 0) pa_nil)) (pg_tup rfl (pgs_cons (pg_name (i := 2) sc__law_hand.nd rfl (by first | exact Or.inl rfl | exact Or.inr rfl)) (pgs_cons (pg_name (i := 3) sc__law_hand.nd rfl (by first | exact Or.inl rfl | exact Or.inr rfl)) pgs_nil)))
  (pss_one (ps_set (i := 1) sc__law_hand.nd rfl (by first | exact Or.inl rfl | exact Or.inr rfl) (pe_op op_mod (pe_callTy call_int1 (by rfl) m_int boot_int (pa_cons (pe_op op_add (pe_op op_mul (pv 1) pe_int) (pe_op op_mul (pe_callTy call_int1 (by rfl) m_int boot_int (pa_cons (pv 3) pa_nil)) (pe_op op_add (pv 2) pe_int))) pa_nil)) pe_int))))
 (pss_one (ps_ret (pe_lst (pa_cons (pe_lc (own := [("_law_cell", 3)]) (g := gName 3) (tt := tYes) rfl sc__law_hand.nd (pi_list (pv 0)) (blkOk_by (own := [("_law_cell", 3)]) (N := N__law_hand) (sc := defScope s__law_hand) (by decide +kernel)) (fun _ _ _ _ _ => (pg_name (i := 3) sc__law_hand.nd rfl (by first | exact Or.inl rfl | exact Or.inr rfl))) (fun _ _ _ _ _ => pts_nil) (fun _ _ _ _ _ => (pe_callB call_abs (by rfl) m_abs boot_abs (pa_cons (pe_callTy call_int1 (by rfl) m_int boot_int (pa_cons (pv 3) pa_nil)) pa_nil)))) (pa_cons pe_int (pa_cons pe_int (pa_cons (pv 1) pa_nil))))))))), ?_⟩
    have hlen' : (ns.map V.int).length = ns.length := List.length_map ..
    refine ⟨.ref a, rfl, a, _, rfl, hS, for_it (walk_enum (xs := ns.map V.int)) (fun i σ H' => ∃ tot y2 y3, σ = [some (.ref a), some (.int tot), y2, y3] ∧ 0 ≤ tot ∧ tot < 2147483629 ∧ Same H H') ⟨0, none, none, rfl, by decide, by decide, Same.refl H⟩ (fun i σ H' _ p => ?_) (fun i v σ H' H'' hi p y => ?_) (fun σ H1 p => ?_)⟩
    · obtain ⟨tot, y2, y3, rfl, _, _, e⟩ := p
      exact e.seq hS
    · obtain ⟨tot, y2, y3, rfl, t0, t1, e⟩ := p
      obtain ⟨T, x, y, rfl, nT, rfl, ex, ey⟩ := y
      rw [hlen'] at hi
      obtain rfl : .int (i : Nat) = x := Option.some.inj ex
      obtain ⟨n, rfl⟩ : ∃ n : Int, y = .int n := by
        have ey : (ns.map V.int)[i]? = some y := ey
        rw [List.getElem?_map, List.getElem?_eq_getElem hi] at ey
        exact ⟨_, (Option.some.inj ey).symm⟩
      refine ⟨T, _, rfl, .inl (.inl upd_same), rfl, _, _, rfl, _, _, rfl, rfl, ?_⟩
      refine ⟨_, rfl, _, _, rfl, rfl, .inr ⟨by decide, by decide⟩, _, rfl, .inl ⟨_, rfl, _, rfl, _, _, rfl, rfl, _, _, rfl, rfl, .inr ⟨by omega, by omega⟩, _, _, rfl, rfl, .inl ⟨_, rfl, _, _, rfl, rfl, show (0 : Int) < _ by decide, ?_⟩⟩⟩
      refine ⟨_, _, _, rfl, Int.emod_nonneg _ (by decide), Int.emod_lt_of_pos _ (by decide), e.trans fun b z hz => ?_⟩
      rw [upd_ne (ne_of_none hz nT)]
      exact hz
    · obtain ⟨tot, y2, y3, rfl, t0, t1, e⟩ := p
      have hS1 : SqL K H1 a (ns.map V.int) := e.seq hS
      refine ⟨.ref a, rfl, a, rfl, ⟨_, hS1⟩, fun D hD => lc_list (xs := ns.map V.int) (fun i H2 => Same H1 H2 ∧ H2 D = some (.lst ((ns.take i).map fun n => .int (if n < 0 then -n else n)))) ⟨fun b z hz => ?_, upd_same⟩ (fun i H2 _ p => p.1.seq hS1) (fun i x H2 hx p => ?_) (fun H2 p => ?_)⟩
      · rw [upd_ne (ne_of_none hz hD)]
        exact hz
      · obtain ⟨e2, hd⟩ := p
        rw [List.getElem?_map] at hx
        obtain ⟨n, hn, rfl⟩ := Option.map_eq_some_iff.mp hx
        refine ⟨rfl, ?_⟩
        refine ⟨_, rfl, .inl ⟨_, rfl, _, rfl, _, hd, ?_, fun b z hz => ?_, ?_⟩⟩
        · rw [List.length_map, List.length_take]
          exact Nat.lt_of_le_of_lt (Nat.min_le_right _ _) (small1000 (by omega))
        · rw [upd_ne (ne_of_none hz hD)]
          exact e2 _ _ hz
        · rw [upd_same, List.take_add_one, hn, List.map_append]
          rfl
      · obtain ⟨e2, hd⟩ := p
        rw [hlen', List.take_length] at hd
        refine ⟨_, rfl, by show 4 ≤ sizeLine; decide, fun p hp => ?_⟩
        have npD : D ≠ p := ne_of_none hd hp
        refine q _ p D ?_ ((e.trans e2).free hp) (e.free hD) ⟨ns.map fun n => if n < 0 then -n else n, 0, 0, tot, upd_same, ?_, ?_⟩
        · exact fun b z hz => by
            rw [upd_ne (ne_of_none ((e.trans e2) _ _ hz) hp)]
            exact (e.trans e2) _ _ hz
        · rw [upd_ne npD, hd, List.map_map]
          rfl
        · refine ⟨by rw [List.length_map]; exact hlen, by decide, by omega, by decide, t0, fun n hn => ?_⟩
          obtain ⟨m, _, rfl⟩ := List.mem_map.mp hn
          split <;> omega
end
end K7
end
/-! ## P2 -/
section
open PySem PySem.Spec PyProof.Rows L2
namespace K7
abbrev N__law_lots : List Str := ["_law_cells", "_law_found", "_law_last", "_law_turn", "_law_grown", "_law_lot", "_law_cell"]
abbrev s__law_lots : Stmt := topS 47
theorem sc__law_lots : FnScope ["_law_cells", "_law_found", "_law_last", "_law_turn", "_law_grown", "_law_lot", "_law_cell"] ["_law_cells"] (defScope s__law_lots) := ⟨rfl, rfl, rfl, by decide +kernel, rfl, by decide +kernel, by decide +kernel⟩

theorem same_new {H H' : Hp} {p : Addr} {o : HO} (e : Same H H') (h : H' p = none) : Same H (upd H' p o) := fun b z hz => by
  have h2 := e _ _ hz
  rw [upd_ne (ne_of_none h2 h)]
  exact h2
def But (x : Addr) (H H' : Hp) : Prop := ∀ b o, b ≠ x → H b = some o → H' b = some o
/-! ### all lots of the cells -/
def grow1 (cells lot : List Nat) : List (List Nat) := (cells.filter fun c => lot.isEmpty || decide (lot.getLastD 0 < c)).map fun c => lot ++ [c]
def level (cells : List Nat) : Nat → List (List Nat)
  | 0 => [[]]
  | k + 1 => (level cells k).flatMap (grow1 cells)
def lotsTo (cells : List Nat) : Nat → List (List Nat)
  | 0 => [[]]
  | k + 1 => lotsTo cells k ++ level cells (k + 1)
theorem level_len : ∀ n : Fin 6, ∀ k : Fin 7, (level (List.range n.val) k.val).length ≤ 10 ∧ (lotsTo (List.range n.val) k.val).length ≤ 32 := by decide +kernel
theorem level_lot : ∀ n : Fin 6, ∀ k : Fin 7, (level (List.range n.val) k.val).all (fun l => decide (l.length ≤ 990)) = true := by decide +kernel
theorem lot_len {n t i : Nat} {lot : List Nat} (hn : n ≤ 5) (ht : t ≤ 6) (h : (level (List.range n) t)[i]? = some lot) : lot.length ≤ 990 := by
  have := List.all_eq_true.mp (level_lot ⟨n, by omega⟩ ⟨t, by omega⟩) lot (List.mem_of_getElem? h)
  exact of_decide_eq_true this
/-- tuples of cells at these places -/
inductive TAt (H : Hp) : List Addr → List (List Nat) → Prop
  | nil : TAt H [] []
  | cons {t : Addr} {l : List Nat} {ts : List Addr} {ls : List (List Nat)} (h : H t = some (.tup (l.map fun c => .int (c : Nat)))) (r : TAt H ts ls) : TAt H (t :: ts) (l :: ls)
theorem TAt.same {H H' : Hp} (e : Same H H') : ∀ {ts ls}, TAt H ts ls → TAt H' ts ls
  | _, _, .nil => .nil
  | _, _, .cons h r => .cons (e _ _ h) (r.same e)
theorem TAt.mono {H H' : Hp} (e : ∀ b xs, H b = some (.tup xs) → H' b = some (.tup xs)) : ∀ {ts ls}, TAt H ts ls → TAt H' ts ls
  | _, _, .nil => .nil
  | _, _, .cons h r => .cons (e _ _ h) (r.mono e)
theorem TAt.append {H : Hp} : ∀ {ts ls us ms}, TAt H ts ls → TAt H us ms → TAt H (ts ++ us) (ls ++ ms)
  | _, _, _, _, .nil, r => r
  | _, _, _, _, .cons h q, r => .cons h (q.append r)
theorem TAt.len {H : Hp} : ∀ {ts ls}, TAt H ts ls → ts.length = ls.length
  | _, _, .nil => rfl
  | _, _, .cons _ r => congrArg Nat.succ r.len
theorem TAt.get {H : Hp} : ∀ {ts ls} {i : Nat} {t : Addr}, TAt H ts ls → ts[i]? = some t → ∃ l, ls[i]? = some l ∧ H t = some (.tup (l.map fun c => .int (c : Nat)))
  | _, _, 0, _, .cons h r, e => by
    cases e
    exact ⟨_, rfl, h⟩
  | _, _, i + 1, _, .cons h r, e => r.get (i := i) e
def ints_ (l : List Nat) : List V := l.map fun c => .int (c : Nat)
def intD (l : List Nat) : PyData := .tuple (l.map fun c => .int (c : Nat))
theorem dp_ints {K : PySem.W.Frag} {H : Hp} : ∀ l : List Nat, DpAll K H (l.map fun c => .int (c : Nat)) (l.map fun c => PyData.int (c : Nat))
  | [] => .nil
  | x :: l => .cons (.int _) (dp_ints l)
theorem shaped_ints (l : List Nat) : SeqAt.shaped (intD l) = true := by
  have h1 : ∀ l : List Nat, PyData.canLayAll0 (l.map fun c => PyData.int (c : Nat)) = true ∧ PyData.depthAll (l.map fun c => PyData.int (c : Nat)) = 0 := fun l => by
    induction l with
    | nil => exact ⟨by simp [PyData.canLayAll0], by simp [PyData.depthAll]⟩
    | cons x r ih => exact ⟨by simp [PyData.canLayAll0, PyData.canLay0, ih.1], by simp [PyData.depthAll, PyData.depth, ih.2]⟩
  show ((PyData.canLay0 (intD l)) && decide (PyData.depth (intD l) ≤ 64)) = true
  simp [intD, PyData.canLay0, PyData.depth, (h1 l).1, (h1 l).2]
theorem eqv_empty (l : List Nat) : PyData.eqv (intD l) (.tuple []) = l.isEmpty := by
  cases l with
  | nil => simp [intD, PyData.eqv, PyData.eqvAll]
  | cons x r => simp [intD, PyData.eqv, PyData.eqvAll]
theorem last_get : ∀ (r : List Nat) (x : Nat), (x :: r)[r.length]? = some (r.getLastD x)
  | [], x => rfl
  | y :: r, x => by
    rw [List.getLastD_cons]
    exact last_get r y
theorem last_at {l : List Nat} (h : l.isEmpty = false) : atI (ints_ l) (-1) = some (.int (l.getLastD 0 : Nat)) := by
  cases l with
  | nil => cases h
  | cons x r =>
    have hl : (ints_ (x :: r)).length = r.length + 1 := by unfold ints_; rw [List.length_map]; rfl
    unfold atI
    rw [hl]
    have e : ixN (r.length + 1) (-1) = some r.length := by
      unfold ixN
      simp
      omega
    rw [e]
    show (ints_ (x :: r))[r.length]? = _
    unfold ints_
    rw [List.getElem?_map]
    have e2 : (x :: r)[r.length]? = some ((x :: r).getLastD 0) := by
      rw [List.getLastD_cons]
      exact last_get r x
    rw [e2]
    rfl
section
variable {P : Program} {w : World} {K : PySem.W.Frag} {mg : Str → Option Value} {base : Heap}
def spLots : Sp := fun vs H Q _ => ∃ (r : Addr) (n : Nat), vs = [.ref r] ∧ n ≤ 5 ∧ H r = some (.lst (ints_ (List.range n))) ∧ ∀ H' q ts, Same H H' → H q = none → H' q = some (.lst (ts.map V.ref)) → TAt H' ts (lotsTo (List.range n) n) → Q (.ref q) H'
theorem ok_lots {f : Addr} {fd : FuncData} (F : Fun K "_law_lots" "_law_lots" s__law_lots f fd) (m_range : mg "range" = none) (m_len : mg "len" = none) (m_list : mg "list" = none) : FnOk P w K mg base CX0 1 f fd ["_law_cells"] spLots := by
  refine F.ok sc__law_lots (fun vs H Q E h => ?_) (fun cdv A outer s H vs Q E hr h => ?_)
  · obtain ⟨r, n, rfl, _⟩ := h
    rfl
  · obtain ⟨r, n, rfl, hn, hr0, q⟩ := h
    refine ⟨_, (pss_cons (ps_par (by rfl) sc__law_lots.nd (i := 1) (j := 2) rfl rfl (by decide) rfl rfl (pa_cons (pe_lst (pa_cons (pe_tup pa_nil) pa_nil)) (pa_cons (pe_lst (pa_cons (pe_tup pa_nil) pa_nil)) pa_nil)) (by rfl))
 (pss_cons (ps_for PassesOwn.never rfl (pi_range1 rfl m_range (pa_cons (pe_callB call_len_seq (by rfl) m_len boot_len (pa_cons (pv 0) pa_nil)) pa_nil)) (pg_name (i := 3) sc__law_lots.nd rfl (by first | exact Or.inl rfl | exact Or.inr rfl))
  (pss_cons (ps_set (i := 4) sc__law_lots.nd rfl (by first | exact Or.inl rfl | exact Or.inr rfl) (pe_lst pa_nil))
 (pss_cons (ps_for PassesOwn.never rfl (pi_list (pv 2)) (pg_name (i := 5) sc__law_lots.nd rfl (by first | exact Or.inl rfl | exact Or.inr rfl))
  (pss_one (ps_for PassesOwn.never rfl (pi_list (pv 0)) (pg_name (i := 6) sc__law_lots.nd rfl (by first | exact Or.inl rfl | exact Or.inr rfl))
  (pss_one (ps_if (pw_or (pt_cmpR (op_eqD hr.units) (pv 5) (pe_tup pa_nil) (nomark _)) (pw_or1 (pt_cmpR op_gt (pv 6) (pe_ix ix_tup (pv 5) (pe_un un_neg pe_int) (fun _ _ => rfl)) (nomark _)))).pt
  (pss_one (ps_expr (pe_bm PySem.F.plainAttrs_list PySem.F.slot_list_append PySem.F.type_list_append mt_append (pv 4) (pa_cons (pe_op op_catA (pv 5) (pe_tup (pa_cons (pv 6) pa_nil))) pa_nil))))
  pss_nil)))))
 (pss_cons (ps_expr (pe_bm PySem.F.plainAttrs_list PySem.F.slot_list_extend PySem.F.type_list_extend mt_extend (pv 1) (pa_cons (pv 4) pa_nil)))
 (pss_one (ps_set (i := 2) sc__law_lots.nd rfl (by first | exact Or.inl rfl | exact Or.inr rfl) (pe_callTy call_list_of (by rfl) m_list boot_list (pa_cons (pv 4) pa_nil))))))))
 (pss_one (ps_ret (pv 1))))), ?_⟩
    have hlen : (ints_ (List.range n)).length = n := by unfold ints_; rw [List.length_map, List.length_range]
    refine ⟨by show 0 ≤ sizeLine; decide, fun e0 ne0 => ⟨by show 1 ≤ sizeLine; decide, fun F0 nF0 => ⟨by show 0 ≤ sizeLine; decide, fun e1 ne1 => ⟨by show 1 ≤ sizeLine; decide, fun L0 nL0 => ?_⟩⟩⟩⟩
    have s1 : Same H (upd H e0 (.tup [])) := same_new (Same.refl H) ne0
    have s2 : Same (upd H e0 (.tup [])) (upd (upd H e0 (.tup [])) F0 (.lst [.ref e0])) := same_new (Same.refl _) nF0
    generalize hA : upd (upd H e0 (.tup [])) F0 (.lst [.ref e0]) = HA at s2 ne1 nL0 ⊢
    have hF : HA F0 = some (.lst [.ref e0]) := by rw [← hA]; exact upd_same
    have he0 : HA e0 = some (.tup []) := s2 _ _ upd_same
    have s3 : Same HA (upd HA e1 (.tup [])) := same_new (Same.refl _) ne1
    have s4 : Same (upd HA e1 (.tup [])) (upd (upd HA e1 (.tup [])) L0 (.lst [.ref e1])) := same_new (Same.refl _) nL0
    have hL : upd (upd HA e1 (.tup [])) L0 (.lst [.ref e1]) L0 = some (.lst [.ref e1]) := upd_same
    have he1 := s4 _ _ (show upd HA e1 (.tup []) e1 = some (.tup []) from upd_same)
    have hFL : F0 ≠ L0 := ne_of_none (s3 _ _ hF) nL0
    have hF2 := s4 _ _ (s3 _ _ hF)
    have he02 := s4 _ _ (s3 _ _ he0)
    have sB := s1.trans (s2.trans (s3.trans s4))
    generalize upd (upd HA e1 (.tup [])) L0 (.lst [.ref e1]) = HB at hL he1 hF2 he02 sB ⊢
    refine ⟨_, _, rfl, ?_⟩
    have hFn : H F0 = none := s1.free nF0
    refine ⟨_, rfl, r, _, rfl, .inl (.inl (.inl (sB _ _ hr0))), _, rfl, by omega, by omega, for_range (fun t σ H' => t ≤ n ∧ ∃ La fs las y3 y4 y5 y6, σ = [some (.ref r), some (.ref F0), some (.ref La), y3, y4, y5, y6] ∧ Same H H' ∧ H' F0 = some (.lst (fs.map V.ref)) ∧ H' La = some (.lst (las.map V.ref)) ∧ La ≠ F0 ∧ TAt H' fs (lotsTo (List.range n) t) ∧ TAt H' las (level (List.range n) t)) ⟨Nat.zero_le _, L0, [e0], [e1], none, none, none, none, rfl, sB, hF2, hL, hFL.symm, .cons he02 .nil, .cons he1 .nil⟩ (fun t σ H' ht pv => ?_) (fun σ H' pv => ?_)⟩
    · obtain ⟨_, La, fs, las, y3, y4, y5, y6, rfl, e, hF', hLa, nLF, tF, tL⟩ := pv
      rw [hlen] at ht
      have ht : t < n := by simpa using ht
      refine ⟨by show 0 ≤ sizeLine; decide, fun G nG => ?_⟩
      have gF : F0 ≠ G := ne_of_none hF' nG
      have gL : La ≠ G := ne_of_none hLa nG
      have eG : Same H' (upd H' G (.lst [])) := same_new (Same.refl H') nG
      obtain ⟨lv, lt5⟩ := level_len ⟨n, by omega⟩ ⟨t, by omega⟩
      obtain ⟨lv2, lt6⟩ := level_len ⟨n, by omega⟩ ⟨t + 1, by omega⟩
      have lv : (level (List.range n) t).length ≤ 10 := lv
      refine ⟨_, rfl, La, rfl, ⟨_, .inl (.inl (eG _ _ hLa))⟩, for_list (xs := las.map V.ref) (fun i σ H2 => ∃ gs y5 y6, σ = [some (.ref r), some (.ref F0), some (.ref La), some (.int (0 + (t : Nat))), some (.ref G), y5, y6] ∧ But G H' H2 ∧ H2 G = some (.lst (gs.map V.ref)) ∧ TAt H2 gs (((level (List.range n) t).take i).flatMap (grow1 (List.range n))) ∧ gs.length ≤ 5 * i)
        ⟨[], y5, y6, rfl, fun b o hb hz => by rw [upd_ne hb]; exact hz, upd_same, .nil, Nat.le_refl _⟩ (fun i σ H2 _ pv => ?_) (fun i x σ H2 hx pv => ?_) (fun σ H2 pv => ?_)⟩
      · obtain ⟨gs, y5, y6, rfl, bt, hG, tG, hg⟩ := pv
        exact .inl (.inl (bt _ _ gL hLa))
      · obtain ⟨gs, y5, y6, rfl, bt, hG, tG, hg⟩ := pv
        rw [List.getElem?_map] at hx
        obtain ⟨ti, hti, rfl⟩ := Option.map_eq_some_iff.mp hx
        obtain ⟨lot, elot, hlot⟩ := tL.get hti
        have hi10 : i < 10 := by
          have := (List.getElem?_eq_some_iff.mp elot).1
          omega
        have tG' : ∀ {b : Addr} {xs : List V}, H' b = some (.tup xs) → H2 b = some (.tup xs) := fun {b xs} hb => bt b _ (ne_of_none hb nG) hb
        have hr2 : H2 r = some (.lst (ints_ (List.range n))) := bt _ _ (ne_of_none (e _ _ hr0) nG) (e _ _ hr0)
        have nrG : r ≠ G := ne_of_none (e _ _ hr0) nG
        refine ⟨_, rfl, r, rfl, ⟨_, .inl (.inl hr2)⟩, for_list (xs := ints_ (List.range n)) (fun j σ H3 => ∃ gs' y6, σ = [some (.ref r), some (.ref F0), some (.ref La), some (.int (0 + (t : Nat))), some (.ref G), some (.ref ti), y6] ∧ But G H' H3 ∧ H3 G = some (.lst (gs'.map V.ref)) ∧ TAt H3 gs' (((level (List.range n) t).take i).flatMap (grow1 (List.range n)) ++ grow1 ((List.range n).take j) lot) ∧ gs'.length ≤ 5 * i + j)
          ⟨gs, y6, rfl, bt, hG, by simpa [grow1] using tG, by omega⟩ (fun j σ H3 _ pv => ?_) (fun j x σ H3 hx pv => ?_) (fun σ H3 pv => ?_)⟩
        · obtain ⟨gs', y6, rfl, bt3, hG3, tG3, hg3⟩ := pv
          exact .inl (.inl (bt3 _ _ nrG (e _ _ hr0)))
        · obtain ⟨gs', y6, rfl, bt3, hG3, tG3, hg3⟩ := pv
          unfold ints_ at hx
          rw [List.getElem?_map] at hx
          obtain ⟨c, hc, rfl⟩ := Option.map_eq_some_iff.mp hx
          have hj5 : j < 5 := by
            have := (List.getElem?_eq_some_iff.mp hc).1
            rw [List.length_range] at this
            omega
          have hlot3 : H3 ti = some (.tup (lot.map fun c => .int (c : Nat))) := bt3 ti _ (ne_of_none hlot nG) hlot
          have hll : lot.length ≤ 990 := lot_len hn (by omega) elot
          have g1 : grow1 ((List.range n).take (j + 1)) lot = grow1 ((List.range n).take j) lot ++ (if (lot.isEmpty || decide (lot.getLastD 0 < c)) = true then [lot ++ [c]] else []) := by
            unfold grow1
            rw [List.take_add_one, hc, List.filter_append, List.map_append]
            congr 1
            by_cases z : (lot.isEmpty || decide (lot.getLastD 0 < c)) = true
            · rw [if_pos z]
              show List.map _ (List.filter _ [c]) = _
              rw [List.filter_cons, if_pos z]
              rfl
            · rw [if_neg z]
              show List.map _ (List.filter _ [c]) = _
              rw [List.filter_cons, if_neg z]
              rfl
          have endOk : ∀ (Hf : Hp) (v : Addr), Same H3 Hf → Hf v = some (.tup ((lot ++ [c]).map fun c => .int (c : Nat))) → (lot.isEmpty || decide (lot.getLastD 0 < c)) = true →
              But G H' (upd Hf G (.lst (gs'.map V.ref ++ [.ref v]))) ∧ upd Hf G (.lst (gs'.map V.ref ++ [.ref v])) G = some (.lst ((gs' ++ [v]).map V.ref)) ∧
                TAt (upd Hf G (.lst (gs'.map V.ref ++ [.ref v]))) (gs' ++ [v]) (((level (List.range n) t).take i).flatMap (grow1 (List.range n)) ++ grow1 ((List.range n).take (j + 1)) lot) ∧ (gs' ++ [v]).length ≤ 5 * i + (j + 1) := by
            intro Hf v sF hv hcond
            have up : ∀ b xs, Hf b = some (.tup xs) → upd Hf G (.lst (gs'.map V.ref ++ [.ref v])) b = some (.tup xs) := fun b xs hb => by
              have n1 : b ≠ G := fun z => by rw [z, sF _ _ hG3] at hb; cases hb
              rw [upd_ne n1]; exact hb
            refine ⟨fun b o nb hb => by rw [upd_ne nb]; exact sF _ _ (bt3 b o nb hb), by rw [upd_same, List.map_append]; rfl, ?_, by rw [List.length_append, List.length_singleton]; omega⟩
            rw [g1, if_pos hcond, ← List.append_assoc]
            exact ((tG3.same sF).mono up).append (.cons (up _ _ hv) .nil)
          refine ⟨_, rfl, by show 0 ≤ sizeLine; decide, fun em nem => ?_⟩
          have sX := same_new (o := .tup []) (Same.refl H3) nem
          refine ⟨_, _, .tup (.inl (.inl (sX _ _ hlot3))) (dp_ints lot), .tup (.inl (.inl upd_same)) .nil, shaped_ints lot, shaped_ints [], ?_⟩
          rw [show PyData.eqv (.tuple (lot.map fun c => PyData.int (c : Nat))) (.tuple []) = lot.isEmpty from eqv_empty lot]
          refine ⟨_, rfl, ite2 (fun q1 => ?_) (fun q1 => ?_)⟩
          · have hcond : (lot.isEmpty || decide (lot.getLastD 0 < c)) = true := by rw [q1]; rfl
            have hG4 := sX _ _ hG3
            refine ⟨_, rfl, .inl ⟨rfl, _, .inl (.inl hG4)⟩, _, rfl, _, rfl, by show 1 ≤ sizeLine; decide, fun u nu => ?_⟩
            have sU := sX.trans (same_new (o := .tup [.int (c : Nat)]) (Same.refl _) nu)
            refine ⟨ti, u, _, _, rfl, rfl, .inl (.inl (sU _ _ hlot3)), .inl (.inl upd_same), ?_, fun z => ?_, (fun _ z2 => nomatch z2), fun z1 _ p np => ?_⟩
            · rw [List.length_map]
              exact Nat.le_trans (show lot.length + 1 ≤ 1000 by omega) (by decide)
            · have lot0 : lot = [] := by simpa using z
              obtain ⟨k1, k2, k3, k4⟩ := endOk _ u sU (by rw [upd_same, lot0]; rfl) hcond
              exact ⟨G, _, _, rfl, rfl, sU _ _ hG3, by rw [List.length_map]; exact small1000 (by omega), gs' ++ [u], _, rfl, k1, k2, k3, k4⟩
            · obtain ⟨k1, k2, k3, k4⟩ := endOk _ p (sU.trans (same_new (Same.refl _) np)) (by rw [upd_same, List.map_append]) hcond
              exact ⟨G, _, _, rfl, rfl, (sU.trans (same_new (Same.refl _) np)) _ _ hG3, by rw [List.length_map]; exact small1000 (by omega), gs' ++ [p], _, rfl, k1, k2, k3, k4⟩
          · have q1' : lot.isEmpty = false := Bool.eq_false_iff.mpr q1
            refine ⟨_, rfl, _, rfl, _, rfl, ti, _, _, .int (lot.getLastD 0 : Nat), rfl, rfl, .inl (.inl (sX _ _ hlot3)), last_at q1', _, _, rfl, rfl, _, rfl, ite2 (fun q2 => ?_) (fun q2 => ?_)⟩
            · have hcond : (lot.isEmpty || decide (lot.getLastD 0 < c)) = true := by
                rw [q1', Bool.false_or]
                have := of_decide_eq_true q2
                exact decide_eq_true (by omega)
              have hG4 := sX _ _ hG3
              refine ⟨_, rfl, .inl ⟨rfl, _, .inl (.inl hG4)⟩, _, rfl, _, rfl, by show 1 ≤ sizeLine; decide, fun u nu => ?_⟩
              have sU := sX.trans (same_new (o := .tup [.int (c : Nat)]) (Same.refl _) nu)
              refine ⟨ti, u, _, _, rfl, rfl, .inl (.inl (sU _ _ hlot3)), .inl (.inl upd_same), ?_, fun z => ?_, (fun _ z2 => nomatch z2), fun z1 _ p np => ?_⟩
              · rw [List.length_map]
                exact Nat.le_trans (show lot.length + 1 ≤ 1000 by omega) (by decide)
              · have lot0 : lot = [] := by simpa using z
                obtain ⟨k1, k2, k3, k4⟩ := endOk _ u sU (by rw [upd_same, lot0]; rfl) hcond
                exact ⟨G, _, _, rfl, rfl, sU _ _ hG3, by rw [List.length_map]; exact small1000 (by omega), gs' ++ [u], _, rfl, k1, k2, k3, k4⟩
              · obtain ⟨k1, k2, k3, k4⟩ := endOk _ p (sU.trans (same_new (Same.refl _) np)) (by rw [upd_same, List.map_append]) hcond
                exact ⟨G, _, _, rfl, rfl, (sU.trans (same_new (Same.refl _) np)) _ _ hG3, by rw [List.length_map]; exact small1000 (by omega), gs' ++ [p], _, rfl, k1, k2, k3, k4⟩
            · have hcond : ¬ (lot.isEmpty || decide (lot.getLastD 0 < c)) = true := by
                rw [q1', Bool.false_or]
                intro z
                have z' := of_decide_eq_true z
                exact q2 (decide_eq_true (by omega))
              refine ⟨gs', _, rfl, fun b o nb hb => sX _ _ (bt3 b o nb hb), sX _ _ hG3, ?_, by omega⟩
              rw [g1, if_neg hcond, List.append_nil]
              exact tG3.same sX
        · obtain ⟨gs', y6, rfl, bt3, hG3, tG3, hg3⟩ := pv
          refine ⟨gs', _, _, rfl, bt3, hG3, ?_, ?_⟩
          · rw [hlen, show (List.range n).take n = List.range n from List.take_of_length_le (by rw [List.length_range]; exact Nat.le_refl n)] at tG3
            rw [List.take_add_one, elot, List.flatMap_append]
            simpa using tG3
          · rw [hlen] at hg3
            omega
      · obtain ⟨gs, y5, y6, rfl, bt, hG, tG, hg⟩ := pv
        rw [List.length_map] at tG hg
        rw [tL.len, List.take_length] at tG
        have hF3 := bt _ _ gF hF'
        have lfs : fs.length ≤ 32 := by rw [tF.len]; exact (level_len ⟨n, by omega⟩ ⟨t, by omega⟩).2
        have lgs : gs.length ≤ 10 := by rw [tG.len]; exact lv2
        refine ⟨_, rfl, .inl ⟨rfl, _, .inl (.inl hF3)⟩, _, rfl, F0, G, _, _, rfl, rfl, hF3, hG, ?_, ?_⟩
        · rw [List.length_map, List.length_map]
          exact Nat.le_trans (show fs.length + gs.length ≤ 42 by omega) (by decide)
        have hG4 : upd H2 F0 (.lst (fs.map V.ref ++ gs.map V.ref)) G = some (.lst (gs.map V.ref)) := by rw [upd_ne gF.symm]; exact hG
        refine ⟨_, rfl, G, _, rfl, .inl (.inl (.inl hG4)), fun L2 nL2 => ?_⟩
        have hF4 : upd H2 F0 (.lst (fs.map V.ref ++ gs.map V.ref)) F0 = some (.lst ((fs ++ gs).map V.ref)) := by rw [upd_same, List.map_append]
        have nL2F : L2 ≠ F0 := fun z => by rw [z, hF4] at nL2; cases nL2
        have up : ∀ b xs, H2 b = some (.tup xs) → upd (upd H2 F0 (.lst (fs.map V.ref ++ gs.map V.ref))) L2 (.lst (gs.map V.ref)) b = some (.tup xs) := fun b xs hb => by
          have n1 : b ≠ F0 := fun z => by rw [z, hF3] at hb; cases hb
          have h1 : upd H2 F0 (.lst (fs.map V.ref ++ gs.map V.ref)) b = some (.tup xs) := by rw [upd_ne n1]; exact hb
          rw [upd_ne (ne_of_none h1 nL2)]
          exact h1
        have tF' : TAt H2 fs (lotsTo (List.range n) t) := tF.mono fun b xs hb => bt b _ (ne_of_none hb nG) hb
        refine ⟨by omega, L2, fs ++ gs, gs, _, _, _, _, rfl, fun b o hb => ?_, by rw [upd_ne nL2F.symm]; exact hF4, upd_same, nL2F, (tF'.mono up).append (tG.mono up), tG.mono up⟩
        have n0 : b ≠ F0 := ne_of_none hb hFn
        have h1 := e _ _ hb
        have h2 := bt _ _ (ne_of_none h1 nG) h1
        have h3 : upd H2 F0 (.lst (fs.map V.ref ++ gs.map V.ref)) b = some o := by rw [upd_ne n0]; exact h2
        rw [upd_ne (ne_of_none h3 nL2)]
        exact h3
    · obtain ⟨_, La, fs, las, y3, y4, y5, y6, rfl, e, hF', hLa, nLF, tF, tL⟩ := pv
      rw [hlen] at tF
      exact ⟨_, rfl, q H' F0 fs e hFn hF' (by simpa using tF)⟩
end
end K7
end
/-! ## KL -/
section
/-! ## pure facts about drawn lands (no program in them) -/
namespace KL
/-- every set that holds cell 0 and is not left over any couple holds all cells -/
def Conn (n : Nat) (es : List (Nat × Nat)) : Prop := ∀ S : Nat → Bool, S 0 = true → (∀ e ∈ es, S e.1 = S e.2) → ∀ c, c < n → S c = true
theorem erase_perm {α : Type} : ∀ (l : List α) (j : Nat) (h : j < l.length), (l[j] :: l.eraseIdx j).Perm l
  | x :: l, 0, _ => List.Perm.refl _
  | x :: l, j + 1, h => (List.Perm.swap x (l[j]'(Nat.lt_of_succ_lt_succ h)) (l.eraseIdx j)).trans (List.Perm.cons x (erase_perm l j (Nat.lt_of_succ_lt_succ h)))
/-- one item drawn out of what is left -/
theorem pop_perm {names left : List Nat} {j : Nat} (h : j < left.length) : ((names ++ [left[j]]) ++ left.eraseIdx j).Perm (names ++ left) := by
  rw [List.append_assoc]
  refine List.Perm.append_left names ?_
  exact erase_perm left j h
def couple (names : List Nat) (a b : Nat) : Nat × Nat := (min (names.getD a 0) (names.getD b 0), max (names.getD a 0) (names.getD b 0))
theorem couple_mem {names : List Nat} {n : Nat} (hp : names.Perm (List.range n)) {a : Nat} (ha : a < n) : names.getD a 0 < n := by
  have hl : names.length = n := by rw [hp.length_eq, List.length_range]
  have e : names.getD a 0 = names[a]'(by omega) := by
    rw [List.getD_eq_getElem?_getD, List.getElem?_eq_getElem (by omega)]
    rfl
  rw [e]
  exact List.mem_range.mp (hp.mem_iff.mp (List.getElem_mem _))
/-- a tree under drawn names hangs together -/
theorem conn_tree {n : Nat} {names : List Nat} (hp : names.Perm (List.range n)) {es : List (Nat × Nat)} (h : ∀ k, 0 < k → k < n → ∃ d, d < k ∧ couple names k d ∈ es) : Conn n es := by
  intro S h0 hS c hc
  have hl : names.length = n := by rw [hp.length_eq, List.length_range]
  have step : ∀ k d, couple names k d ∈ es → S (names.getD k 0) = S (names.getD d 0) := by
    intro k d m
    have e := hS _ m
    unfold couple at e
    simp only at e
    by_cases q : names.getD k 0 ≤ names.getD d 0
    · rw [Nat.min_eq_left q, Nat.max_eq_right q] at e
      exact e
    · rw [Nat.min_eq_right (by omega), Nat.max_eq_left (by omega)] at e
      exact e.symm
  have all : ∀ k, k < n → S (names.getD k 0) = S (names.getD 0 0) := by
    intro k
    induction k using Nat.strongRecOn with
    | _ k ih =>
      intro hk
      by_cases z : k = 0
      · rw [z]
      · obtain ⟨d, hd, m⟩ := h k (by omega) hk
        rw [step k d m]
        exact ih d hd (by omega)
  have at_ : ∀ x, x < n → ∃ k, k < n ∧ names.getD k 0 = x := by
    intro x hx
    have m : x ∈ names := hp.mem_iff.mpr (List.mem_range.mpr hx)
    obtain ⟨k, hk, e⟩ := List.mem_iff_getElem.mp m
    refine ⟨k, by omega, ?_⟩
    rw [List.getD_eq_getElem?_getD, List.getElem?_eq_getElem hk, e]
    rfl
  obtain ⟨k0, hk0, e0⟩ := at_ 0 (by omega)
  obtain ⟨k, hk, e⟩ := at_ c hc
  have r0 := all k0 hk0
  rw [e0, h0] at r0
  rw [← e, all k hk, ← r0]
/-- a list of cells that is closed under the couples and holds cell 0 holds all cells -/
theorem conn_closed {n : Nat} {es : List (Nat × Nat)} (h : Conn n es) {found : List Nat} (h0 : 0 ∈ found) (hc : ∀ a b, ((a, b) ∈ es ∨ (b, a) ∈ es) → a ∈ found → b ∈ found) : ∀ c, c < n → c ∈ found := by
  intro c hc'
  have := h (fun x => decide (x ∈ found)) (by simpa using h0) (fun e he => by
    have e1 : e.1 ∈ found ↔ e.2 ∈ found := ⟨fun q => hc e.1 e.2 (.inl he) q, fun q => hc e.2 e.1 (.inr he) q⟩
    exact decide_eq_decide.mpr e1) c hc'
  simpa using this
/-- as many as there are cells, none twice: all cells -/
theorem all_len {n : Nat} {found : List Nat} (hn : found.Nodup) (hb : ∀ c ∈ found, c < n) (ha : ∀ c, c < n → c ∈ found) : found.length = n := by
  have hp : found.Perm (List.range n) := by
    rw [List.perm_ext_iff_of_nodup hn List.nodup_range]
    intro a
    exact ⟨fun q => List.mem_range.mpr (hb a q), fun q => ha a (List.mem_range.mp q)⟩
  rw [hp.length_eq, List.length_range]
end KL
namespace KL
theorem couple_inj {names : List Nat} {n : Nat} (hp : names.Perm (List.range n)) {a b a' b' : Nat} (h1 : b < a) (h2 : a < n) (h1' : b' < a') (h2' : a' < n) (e : couple names a b = couple names a' b') : (a, b) = (a', b') := by
  have hl : names.length = n := by rw [hp.length_eq, List.length_range]
  have nd : names.Nodup := hp.nodup_iff.mpr List.nodup_range
  have inj : ∀ x y, x < n → y < n → names.getD x 0 = names.getD y 0 → x = y := by
    intro x y hx hy q
    rw [List.getD_eq_getElem?_getD, List.getD_eq_getElem?_getD, List.getElem?_eq_getElem (by omega), List.getElem?_eq_getElem (by omega)] at q
    exact (List.getElem_inj nd).mp q
  have ne : ∀ x y, x < n → y < n → x ≠ y → names.getD x 0 ≠ names.getD y 0 := fun x y hx hy q z => q (inj x y hx hy z)
  unfold couple at e
  injection e with e1 e2
  have q1 := ne a b h2 (by omega) (by omega)
  have q2 := ne a' b' h2' (by omega) (by omega)
  by_cases c1 : names.getD a 0 ≤ names.getD b 0
  · rw [Nat.min_eq_left c1] at e1
    rw [Nat.max_eq_right c1] at e2
    by_cases c2 : names.getD a' 0 ≤ names.getD b' 0
    · rw [Nat.min_eq_left c2] at e1
      rw [Nat.max_eq_right c2] at e2
      rw [inj a a' h2 h2' e1, inj b b' (by omega) (by omega) e2]
    · rw [Nat.min_eq_right (by omega)] at e1
      rw [Nat.max_eq_left (by omega)] at e2
      have r1 := inj a b' h2 (by omega) e1
      have r2 := inj b a' (by omega) h2' e2
      omega
  · rw [Nat.min_eq_right (by omega)] at e1
    rw [Nat.max_eq_left (by omega)] at e2
    by_cases c2 : names.getD a' 0 ≤ names.getD b' 0
    · rw [Nat.min_eq_left c2] at e1
      rw [Nat.max_eq_right c2] at e2
      have r1 := inj b a' (by omega) h2' e1
      have r2 := inj a b' h2 (by omega) e2
      omega
    · rw [Nat.min_eq_right (by omega)] at e1
      rw [Nat.max_eq_left (by omega)] at e2
      rw [inj a a' h2 h2' e2, inj b b' (by omega) (by omega) e1]
end KL
end
/-! ## ER -/
section
namespace K7E
open PySem PySem.Spec PyProof.Rows L2
theorem cr_range1 {X : Cx} : CallR X (.type "range") (fun vs H Q => ∃ j, vs = [V.int j] ∧ ∀ p, H p = none → Q (.ref p) (upd H p (.rng 0 j))) := by
  intro pins s σ H vs us Q I r h
  obtain ⟨j, rfl, q⟩ := h
  obtain ⟨u1, rfl, t, rfl⟩ := r.one
  refine call_range_1 ⟨.ref s.heap.objs.size, upd H s.heap.objs.size (.rng 0 j), I.laid (t' := s.toks + 1 + 1) (fun b o e => Heap.get?_push_of_some _ e) (Nat.le_refl _) ?_, rfl, q _ (I.hok.fresh (Nat.le_refl _))⟩
  exact ⟨s.toks, t, s.toks + 1, Heap.get?_push_size _ rfl⟩
def upTo (n : Nat) : List V := (List.range n).map fun i => .int (i : Nat)
theorem vals_upTo : ∀ (n : Nat) (us : List Value), us.length = n → (∀ (j : Nat) v, us[j]? = some v → ∃ t, v = .int (j : Nat) t) → Vals (upTo n) us := by
  intro n
  induction n with
  | zero => intro us h _; cases us with | nil => exact .nil | cons => cases h
  | succ n ih =>
    intro us h hv
    have e : us = us.take n ++ [us[n]'(by omega)] := by
      have := List.take_append_getElem (l := us) (i := n) (by omega)
      rw [this, List.take_of_length_le (by omega)]
    have e2 : upTo (n + 1) = upTo n ++ [.int (n : Nat)] := by
      unfold upTo
      rw [List.range_succ, List.map_append]
      rfl
    rw [e, e2]
    refine (ih _ (by rw [List.length_take]; omega) fun j v hj => ?_).append (.cons ?_ .nil)
    · rw [List.getElem?_take] at hj
      split at hj
      · exact hv j v hj
      · cases hj
    · exact hv n _ (List.getElem?_eq_getElem (by omega))
theorem small_all : ∀ k : Fin 1001, Builtin.Range.small 0 (k.val : Int) 1 = true := by decide +kernel
theorem cr_list_rng {X : Cx} (hc : X.calm = true) : CallR X (.type "list") (fun vs H Q => ∃ (r : Addr) (n : Nat), vs = [V.ref r] ∧ H r = some (.rng 0 n) ∧ n ≤ 1000 ∧ ∀ l, H l = none → Q (.ref l) (upd H l (.lst (upTo n)))) := by
  intro pins s σ H vs us Q I rv h
  obtain ⟨r, n, rfl, hr, hn, q⟩ := h
  obtain ⟨u, rfl, ru⟩ := rv.one
  cases ru
  obtain ⟨t, u, v, hg⟩ := I.hok r _ hr
  refine call_list_range (n := n) (I.ok.hd hc) (show IsRange s.heap r 0 n 1 t u v from hg) ?_ ?_ ?_ fun h' tk acc' c' hk hl hi => ?_
  · have h1 : (0 : Int) ≤ n := by omega
    have h2 : (n : Int) ≤ 1000 := by omega
    exact small_all ⟨n, by omega⟩
  · show (if (0 : Int) < (n : Int) then ((n : Int) - 0 - 1) / 1 + 1 else 0) = (n : Int)
    split <;> omega
  · exact Nat.le_trans hn (by decide)
  · refine ⟨.ref s.heap.objs.size, upd H s.heap.objs.size (.lst (upTo n)), I.laid (t' := tk) hk (Nat.le_refl _) ⟨?_, acc'.toList, c', vals_upTo n _ ?_ fun j w hj => ?_, ?_⟩, rfl, q _ (I.hok.fresh (Nat.le_refl _))⟩
    · unfold upTo; rw [List.length_map, List.length_range]; exact Nat.le_trans hn (by decide)
    · simpa using hi.1
    · obtain ⟨t', e⟩ := hi.2 j w (by simpa using hj)
      exact ⟨t', by rw [e]; simp⟩
    · simpa using hl
end K7E
end
/-! ## P3 -/
section
open PySem PySem.Spec PyProof.Rows L2
namespace K7L
theorem hu65 {k : Nat} {A : Around} (hr : Room k A) : A.units + 65 < cLine := by have := hr.un; omega
end K7L
namespace K7
abbrev N__law_land : List Str := ["_law_hand_here", "_law_n", "_law_names", "_law_left", "_law_k", "_law_couples", "_law_high", "_law_low", "_law_rows_here", "_law_a", "_law_b", "_law_lots_here", "_law_lot"]
abbrev s__law_land : Stmt := topS 48
theorem sc__law_land : FnScope ["_law_hand_here", "_law_n", "_law_names", "_law_left", "_law_k", "_law_couples", "_law_high", "_law_low", "_law_rows_here", "_law_a", "_law_b", "_law_lots_here", "_law_lot"] ["_law_hand_here", "_law_n"] (defScope s__law_land) := ⟨rfl, rfl, rfl, by decide +kernel, rfl, by decide +kernel, by decide +kernel⟩
/-! ### what stays -/
def notHand : List V → Bool
  | [.ref _, .int _, .int _, .int _] => false
  | _ => true
theorem notHand_strs : ∀ ss : List Str, notHand (ss.map V.str) = true
  | [] => rfl
  | [_] => rfl
  | [_, _] => rfl
  | [_, _, _] => rfl
  | [_, _, _, _] => rfl
  | _ :: _ :: _ :: _ :: _ :: _ => rfl
theorem notHand_len : ∀ xs : List V, xs.length ≠ 4 → notHand xs = true
  | [], _ => rfl
  | [_], _ => by unfold notHand; split <;> first | rfl | (rename_i h; cases h)
  | [_, _], _ => by unfold notHand; split <;> first | rfl | (rename_i h; cases h)
  | [_, _, _], _ => by unfold notHand; split <;> first | rfl | (rename_i h; cases h)
  | [_, _, _, _], h => absurd rfl h
  | _ :: _ :: _ :: _ :: _ :: _, _ => by unfold notHand; split <;> first | rfl | (rename_i h; cases h)
/-- all but the hand at h is as it was, and the hand is a hand -/
structure Stay (h c : Addr) (H H' : Hp) : Prop where
  but : But h H H'
  hand0 : Hand H h c
  hand : Hand H' h c
theorem Stay.of_same {h c : Addr} {H H' : Hp} (hh : Hand H h c) (e : Same H H') : Stay h c H H' := ⟨fun b o _ z => e b o z, hh, hh.same e⟩
theorem Stay.of_drawn {h c : Addr} {H H' : Hp} (hh : Hand H h c) (d : Drawn H H' h c) : Stay h c H H' := ⟨fun b o nb z => by rw [d.but b nb]; exact z, hh, d.hand⟩
theorem Stay.trans {h c : Addr} {H H' H'' : Hp} (x : Stay h c H H') (y : Stay h c H' H'') : Stay h c H H'' := ⟨fun b o nb z => y.but b o nb (x.but b o nb z), x.hand0, y.hand⟩
theorem Stay.same {h c : Addr} {H H' H'' : Hp} (x : Stay h c H H') (e : Same H' H'') : Stay h c H H'' := x.trans (.of_same x.hand e)
theorem Stay.drawn {h c : Addr} {H H' H'' : Hp} (x : Stay h c H H') (e : Drawn H' H'' h c) : Stay h c H H'' := x.trans (.of_drawn x.hand e)
theorem Hand.nel {h c b : Addr} {H : Hp} {xs : List V} (hh : Hand H h c) (hb : H b = some (.lst xs)) (hx : notHand xs = true) : b ≠ h := by
  intro e
  subst e
  obtain ⟨ns, i, x, t, h1, _, _⟩ := hh
  rw [hb] at h1
  injection h1 with h1
  unfold HandO at h1
  injection h1 with h1
  subst h1
  cases hx
theorem Hand.nei {h c b C dx : Addr} {H : Hp} {fs : List (Str × V)} (hh : Hand H h c) (hb : H b = some (.ins C dx fs)) : b ≠ h := by
  intro e
  subst e
  obtain ⟨ns, i, x, t, h1, _, _⟩ := hh
  rw [hb] at h1
  cases h1
theorem Hand.net {h c b : Addr} {H : Hp} {xs : List V} (hh : Hand H h c) (hb : H b = some (.tup xs)) : b ≠ h := by
  intro e
  subst e
  obtain ⟨ns, i, x, t, h1, _, _⟩ := hh
  rw [hb] at h1
  cases h1
theorem Hand.ned {h c b : Addr} {H : Hp} {kvs : List (Key × V)} (hh : Hand H h c) (hb : H b = some (.dK kvs)) : b ≠ h := by
  intro e
  subst e
  obtain ⟨ns, i, x, t, h1, _, _⟩ := hh
  rw [hb] at h1
  cases h1
section
variable {h c : Addr} {H H' : Hp}
theorem Stay.lst {b : Addr} {xs : List V} (x : Stay h c H H') (hb : H b = some (.lst xs)) (hx : notHand xs = true) : H' b = some (.lst xs) := x.but b _ (x.hand0.nel hb hx) hb
theorem Stay.row {b : Addr} {ss : List Str} (x : Stay h c H H') (hb : H b = some (.lst (ss.map V.str))) : H' b = some (.lst (ss.map V.str)) := x.lst hb (notHand_strs ss)
end
theorem map_erase {α β : Type} (f : α → β) : ∀ (l : List α) (j : Nat), (l.map f).eraseIdx j = (l.eraseIdx j).map f
  | [], _ => rfl
  | x :: l, 0 => rfl
  | x :: l, j + 1 => congrArg (f x :: ·) (map_erase f l j)
theorem ixN_nat {n i : Nat} (h : i < n) : ixN n (i : Int) = some i := by
  have e : (List.range n)[i]? = some i := by rw [List.getElem?_range h]
  have := atI_nat e
  unfold atI at this
  rw [List.length_range] at this
  cases q : ixN n (i : Int) with
  | none => rw [q] at this; cases this
  | some j =>
    rw [q] at this
    have h2 : (List.range n)[j]? = some i := this
    rw [List.getElem?_eq_some_iff] at h2
    obtain ⟨h3, h4⟩ := h2
    rw [List.getElem_range] at h4
    rw [h4]
section
variable {P : Program} {w : World} {K : PySem.W.Frag} {mg : Str → Option Value} {base : Heap}
def rLen_ (K : PySem.W.Frag) : List V → Hp → VK → Prop := fun xs H Q => ∃ p ys, xs = [.ref p] ∧ (SqL K H p ys ∨ SqT K H p ys) ∧ Q (.int ys.length) H
def pairs (es : List (Nat × Nat)) : List (List Nat) := es.map fun e => [e.1, e.2]
/-- couples before the cells have their names: each cell below m hangs on a lower one -/
structure Tree (n m : Nat) (cs : List (Nat × Nat)) : Prop where
  lt : ∀ e ∈ cs, e.2 < e.1 ∧ e.1 < m ∧ e.1 < n
  nd : cs.Nodup
  low : ∀ k, 0 < k → k < m → ∃ d, d < k ∧ (k, d) ∈ cs
theorem Tree.nil (n : Nat) : Tree n 1 [] := ⟨fun e h => (nomatch h), List.nodup_nil, fun k h0 h1 => by omega⟩
theorem Tree.add {n k j : Nat} {cs : List (Nat × Nat)} (t : Tree n (k + 1) cs) (hk : k + 1 < n) (hj : j < k + 1) : Tree n (k + 1 + 1) (cs ++ [(k + 1, j)]) := by
  refine ⟨fun e h => ?_, ?_, fun x x0 x1 => ?_⟩
  · rcases List.mem_append.mp h with q | q
    · obtain ⟨a, b, c⟩ := t.lt e q
      exact ⟨a, by omega, c⟩
    · rw [List.mem_singleton.mp q]
      exact ⟨hj, by show k + 1 < k + 1 + 1; omega, hk⟩
  · rw [List.nodup_append]
    refine ⟨t.nd, by simp, fun a ha b hb => ?_⟩
    rw [List.mem_singleton.mp hb]
    intro z
    rw [z] at ha
    have := (t.lt _ ha).2.1
    simp only at this
    omega
  · by_cases z : x = k + 1
    · exact ⟨j, by omega, List.mem_append_right _ (by rw [z]; exact List.mem_singleton.mpr rfl)⟩
    · obtain ⟨d, d1, d2⟩ := t.low x x0 (by omega)
      exact ⟨d, d1, List.mem_append_left _ d2⟩
theorem Tree.more {n a b : Nat} {cs : List (Nat × Nat)} (t : Tree n n cs) (h1 : b < a) (h2 : a < n) (h3 : (a, b) ∉ cs) : Tree n n (cs ++ [(a, b)]) := by
  refine ⟨fun e h => ?_, ?_, fun x x0 x1 => ?_⟩
  · rcases List.mem_append.mp h with q | q
    · exact t.lt e q
    · rw [List.mem_singleton.mp q]
      exact ⟨h1, h2, h2⟩
  · rw [List.nodup_append]
    refine ⟨t.nd, by simp, fun x hx y hy => ?_⟩
    rw [List.mem_singleton.mp hy]
    intro z
    exact h3 (z ▸ hx)
  · obtain ⟨d, d1, d2⟩ := t.low x x0 x1
    exact ⟨d, d1, List.mem_append_left _ d2⟩
/-! ### couples as data -/
theorem dp_pair {K : PySem.W.Frag} {H : Hp} (k j : Nat) : DpAll K H [.int (2 + (k : Nat)), .int (0 + (j : Nat))] [.int ((2 + k : Nat) : Int), .int (j : Nat)] := by
  rw [show (2 : Int) + (k : Nat) = ((2 + k : Nat) : Int) by omega, Int.zero_add]
  exact .cons (.int _) (.cons (.int _) .nil)
theorem dp_rows {K : PySem.W.Frag} {H : Hp} : ∀ {ts : List Addr} {ls : List (List Nat)}, TAt H ts ls → DpAll K H (ts.map V.ref) (ls.map intD)
  | _, _, .nil => .nil
  | _, _, .cons h r => .cons (.tup (.inl (.inl h)) (dp_ints _)) (dp_rows r)
theorem shaped_rows (ls : List (List Nat)) : SeqAt.shaped (.list (ls.map intD)) = true := by
  have h1 : ∀ l : List Nat, PyData.canLay0 (intD l) = true ∧ PyData.depth (intD l) ≤ 1 := fun l => by
    have z := shaped_ints l
    have z : ((PyData.canLay0 (intD l)) && decide (PyData.depth (intD l) ≤ 64)) = true := z
    refine ⟨(Bool.and_eq_true_iff.mp z).1, ?_⟩
    have : ∀ l : List Nat, PyData.depthAll (l.map fun c => PyData.int (c : Nat)) = 0 := fun l => by
      induction l with
      | nil => simp [PyData.depthAll]
      | cons x r ih => simp [PyData.depthAll, PyData.depth, ih]
    simp [intD, PyData.depth, this l]
  have h2 : ∀ ls : List (List Nat), PyData.canLayAll0 (ls.map intD) = true ∧ PyData.depthAll (ls.map intD) ≤ 1 := fun ls => by
    induction ls with
    | nil => exact ⟨by simp [PyData.canLayAll0], by simp [PyData.depthAll]⟩
    | cons x r ih =>
      refine ⟨by simp [PyData.canLayAll0, (h1 x).1, ih.1], ?_⟩
      rw [List.map_cons, PyData.depthAll]
      exact Nat.max_le.mpr ⟨(h1 x).2, ih.2⟩
  show ((PyData.canLay0 (.list (ls.map intD))) && decide (PyData.depth (.list (ls.map intD)) ≤ 64)) = true
  have d : PyData.depth (.list (ls.map intD)) ≤ 64 := by
    rw [PyData.depth]
    have := (h2 ls).2
    omega
  simp [PyData.canLay0, (h2 ls).1, d]
theorem any_rows (cs : List (Nat × Nat)) (a b : Nat) : ((pairs cs).map intD).any (fun z => PyData.eqv z (intD [a, b])) = decide ((a, b) ∈ cs) := by
  induction cs with
  | nil => rfl
  | cons e cs ih =>
    show (PyData.eqv (intD [e.1, e.2]) (intD [a, b]) || ((pairs cs).map intD).any (fun z => PyData.eqv z (intD [a, b]))) = _
    rw [ih]
    have h : PyData.eqv (intD [e.1, e.2]) (intD [a, b]) = decide (e = (a, b)) := by
      obtain ⟨x, y⟩ := e
      simp [intD, PyData.eqv, PyData.eqvAll]
      by_cases z1 : x = a <;> by_cases z2 : y = b <;> simp [z1, z2] <;> omega
    rw [h]
    by_cases z : e = (a, b)
    · simp [z]
    · have z2 : ¬ (a, b) = e := fun q => z q.symm
      simp [z, z2]
structure LandOk (n : Nat) (es : List (Nat × Nat)) : Prop where
  lt : ∀ e ∈ es, e.1 < e.2 ∧ e.2 < n
  nd : es.Nodup
  sorted : es.Pairwise fun a b => a.1 < b.1 ∨ (a.1 = b.1 ∧ a.2 ≤ b.2)
  conn : KL.Conn n es
structure LandOk0 (n : Nat) (es : List (Nat × Nat)) : Prop where
  lt : ∀ e ∈ es, e.1 < e.2 ∧ e.2 < n
  nd : es.Nodup
  conn : KL.Conn n es
theorem tree_land {n : Nat} {nm : List Nat} {cs : List (Nat × Nat)} (hp : nm.Perm (List.range n)) (t : Tree n n cs) : LandOk0 n (cs.map fun e => KL.couple nm e.1 e.2) := by
  have nd : nm.Nodup := hp.nodup_iff.mpr List.nodup_range
  have hl : nm.length = n := by rw [hp.length_eq, List.length_range]
  refine ⟨fun e he => ?_, ?_, ?_⟩
  · obtain ⟨x, hx, rfl⟩ := List.mem_map.mp he
    obtain ⟨t1, t2, t3⟩ := t.lt x hx
    have m1 := KL.couple_mem hp (a := x.1) t3
    have m2 := KL.couple_mem hp (a := x.2) (by omega)
    have ne : nm.getD x.1 0 ≠ nm.getD x.2 0 := by
      intro z
      rw [List.getD_eq_getElem?_getD, List.getD_eq_getElem?_getD, List.getElem?_eq_getElem (by omega), List.getElem?_eq_getElem (by omega)] at z
      have := (List.getElem_inj nd).mp z
      omega
    show min _ _ < max _ _ ∧ max _ _ < n
    omega
  · rw [List.nodup_iff_pairwise_ne, List.pairwise_map]
    refine (List.nodup_iff_pairwise_ne.mp t.nd).imp_of_mem fun {a b} ha hb hab z => ?_
    obtain ⟨a1, a2, a3⟩ := t.lt a ha
    obtain ⟨b1, b2, b3⟩ := t.lt b hb
    exact hab (KL.couple_inj hp a1 a3 b1 b3 z)
  · refine KL.conn_tree hp fun k k0 k1 => ?_
    obtain ⟨d, d1, d2⟩ := t.low k k0 k1
    exact ⟨d, d1, List.mem_map.mpr ⟨(k, d), d2, rfl⟩⟩
/-- the two numbers of a couple's tuple -/
def kfOf (H : Hp) : V → Int × Int
  | .ref a => (match H a with | some (.tup [.int i, .int j]) => (i, j) | _ => (0, 0))
  | _ => (0, 0)
def gOf (H : Hp) (x : V) : Nat × Nat := ((kfOf H x).1.toNat, (kfOf H x).2.toNat)
theorem kf_at {H : Hp} {a : Addr} {x y : Nat} (h : H a = some (.tup [.int (x : Nat), .int (y : Nat)])) : kfOf H (.ref a) = ((x : Int), (y : Int)) := by
  unfold kfOf
  simp only [h]
theorem g_at {H : Hp} {a : Addr} {e : Nat × Nat} (h : H a = some (.tup [.int (e.1 : Nat), .int (e.2 : Nat)])) : gOf H (.ref a) = e := by
  unfold gOf
  rw [kf_at h]
  rfl
theorem g_map {H : Hp} : ∀ {us : List Addr} {es : List (Nat × Nat)}, TAt H us (pairs es) → (us.map V.ref).map (gOf H) = es
  | [], [], _ => rfl
  | _ :: _, [], h => nomatch h
  | [], _ :: _, h => nomatch h
  | u :: us, e :: es, .cons h r => by
    show gOf H (.ref u) :: (us.map V.ref).map (gOf H) = _
    rw [g_at h, g_map r]
theorem g_mem {H : Hp} {us : List Addr} {es : List (Nat × Nat)} (t : TAt H us (pairs es)) : ∀ x ∈ us.map V.ref, ∃ (a : Addr) (e : Nat × Nat), x = V.ref a ∧ H a = some (.tup [.int (e.1 : Nat), .int (e.2 : Nat)]) := by
  intro x hx
  obtain ⟨a, ha, rfl⟩ := List.mem_map.mp hx
  obtain ⟨i, hi, e⟩ := List.mem_iff_getElem.mp ha
  obtain ⟨l, el, hl⟩ := t.get (i := i) (t := a) (by rw [List.getElem?_eq_getElem hi, e])
  unfold pairs at el
  rw [List.getElem?_map] at el
  obtain ⟨ab, eab, rfl⟩ := Option.map_eq_some_iff.mp el
  exact ⟨a, ab, rfl, hl⟩
theorem tat_of {H : Hp} : ∀ ys : List V, (∀ x ∈ ys, ∃ (a : Addr) (e : Nat × Nat), x = V.ref a ∧ H a = some (.tup [.int (e.1 : Nat), .int (e.2 : Nat)])) → ∃ ts, ys = ts.map V.ref ∧ TAt H ts (pairs (ys.map (gOf H)))
  | [], _ => ⟨[], rfl, .nil⟩
  | y :: ys, h => by
    obtain ⟨a, e, rfl, ha⟩ := h y List.mem_cons_self
    obtain ⟨ts, rfl, t⟩ := tat_of ys fun x hx => h x (List.mem_cons_of_mem _ hx)
    refine ⟨a :: ts, rfl, ?_⟩
    show TAt H (a :: ts) ([(gOf H (.ref a)).1, (gOf H (.ref a)).2] :: _)
    rw [g_at ha]
    exact .cons ha t
theorem sorted_of {H : Hp} : ∀ ys : List V, (∀ x ∈ ys, ∃ (a : Addr) (e : Nat × Nat), x = V.ref a ∧ H a = some (.tup [.int (e.1 : Nat), .int (e.2 : Nat)])) → SrtO.Srtd (ltP (kfOf H)) ys → (ys.map (gOf H)).Pairwise fun a b => a.1 < b.1 ∨ (a.1 = b.1 ∧ a.2 ≤ b.2) := by
  intro ys h s
  rw [List.pairwise_map]
  refine List.Pairwise.imp_of_mem (fun {x y} hx hy q => ?_) s
  obtain ⟨a, e, rfl, ha⟩ := h x hx
  obtain ⟨b, e', rfl, hb⟩ := h y hy
  rw [g_at ha, g_at hb]
  have q : SrtO.lexB (kfOf H (.ref b)) (kfOf H (.ref a)) = false := q
  rw [kf_at ha, kf_at hb] at q
  have z : ¬ ((e'.1 : Int) < e.1 ∨ ((e'.1 : Int) = e.1 ∧ (e'.2 : Int) < e.2)) := fun z => by
    rw [SrtO.lexB_iff.mpr z] at q
    cases q
  omega
theorem Stay.free {h c b : Addr} {H H' : Hp} (y : Stay h c H H') (n : H' b = none) : H b = none := by
  cases z : H b with
  | none => rfl
  | some o =>
    by_cases e : b = h
    · subst e
      obtain ⟨ns, i, x, t, h1, _, _⟩ := y.hand
      rw [h1] at n
      cases n
    · rw [y.but b o e z] at n
      cases n
theorem lots_some : ∀ n : Fin 6, 2 ≤ n.val → ((lotsTo (List.range n.val) n.val).filter fun l => decide (0 < l.length) && decide (l.length < n.val)).length ≠ 4 ∧ 0 < ((lotsTo (List.range n.val) n.val).filter fun l => decide (0 < l.length) && decide (l.length < n.val)).length ∧
    ((lotsTo (List.range n.val) n.val).filter fun l => decide (0 < l.length) && decide (l.length < n.val)).length ≤ 32 := by decide +kernel
/-- a drawn land: its number of cells, its couples, its roads -/
structure LandAt (H : Hp) (q : Addr) (n : Nat) (es : List (Nat × Nat)) (lot : List Nat) : Prop where
  at_ : ∃ rA sA ts, H q = some (.tup [.int (n : Nat), .ref rA, .ref sA]) ∧ H rA = some (.lst (ts.map V.ref)) ∧ TAt H ts (pairs es) ∧ H sA = some (.lst (ints_ lot))
  ok : LandOk n es
  lot : lot ∈ lotsTo (List.range n) n ∧ 0 < lot.length ∧ lot.length < n
def spLand : Sp := fun vs H Q _ => ∃ (h c : Addr) (n : Nat), vs = [.ref h, .int (n : Nat)] ∧ Hand H h c ∧ 2 ≤ n ∧ n ≤ 5 ∧ ∀ H' q es lot, Stay h c H H' → H q = none → LandAt H' q n es lot → Q (.ref q) H'
theorem ok_land {f fdr fpk flo : Addr} {fd fddr fdpk fdlo : FuncData} (F : Fun K "_law_land" "_law_land" s__law_land f fd)
    (Gdr : FnOk P w K mg base CX0 2 fdr fddr ["_law_hand_here", "_law_many"] spDraw) (gdr : mg "_law_draw" = some (.ref fdr)) (kdr : PySem.W.keepIn K (.ref fdr) = true) (bdr : Binds K fddr ["_law_hand_here", "_law_many"] [])
    (Gpk : FnOk P w K mg base CX0 3 fpk fdpk ["_law_hand_here", "_law_things"] spPick) (gpk : mg "_law_pick" = some (.ref fpk)) (kpk : PySem.W.keepIn K (.ref fpk) = true) (bpk : Binds K fdpk ["_law_hand_here", "_law_things"] [])
    (Glo : FnOk P w K mg base CX0 1 flo fdlo ["_law_cells"] spLots) (glo : mg "_law_lots" = some (.ref flo)) (klo : PySem.W.keepIn K (.ref flo) = true) (blo : Binds K fdlo ["_law_cells"] [])
    (m_range : mg "range" = none) (m_len : mg "len" = none) (m_list : mg "list" = none) (m_min : mg "min" = none) (m_max : mg "max" = none) (m_sorted : mg "sorted" = none) :
    FnOk P w K mg base CX0 4 f fd ["_law_hand_here", "_law_n"] spLand := by
  refine F.ok sc__law_land (fun vs H Q E h => ?_) (fun cdv A outer s H vs Q E hr h => ?_)
  · obtain ⟨h, c, n, rfl, _⟩ := h
    rfl
  · obtain ⟨h, c, n, rfl, hh, n2, n5, q⟩ := h
    refine ⟨_, (pss_cons (ps_set (i := 2) sc__law_land.nd rfl (by first | exact Or.inl rfl | exact Or.inr rfl) (pe_lst pa_nil))
 (pss_cons (ps_set (i := 3) sc__law_land.nd rfl (by first | exact Or.inl rfl | exact Or.inr rfl) (pe_callTy (K7E.cr_list_rng rfl) (by rfl) m_list boot_list (pa_cons (pe_callTy K7E.cr_range1 (by rfl) m_range boot_range (pa_cons (pv 1) pa_nil)) pa_nil)))
 (Evl.pss_cut (ps_for PassesOwn.never rfl (pi_range1 rfl m_range (pa_cons (pv 1) pa_nil)) (pg_name (i := 4) sc__law_land.nd rfl (by first | exact Or.inl rfl | exact Or.inr rfl))
  (pss_one (ps_expr (pe_bm PySem.F.plainAttrs_list PySem.F.slot_list_append PySem.F.type_list_append mt_append (pv 2) (pa_cons (pe_bm PySem.F.plainAttrs_list PySem.F.slot_list_pop PySem.F.type_list_pop mt_popAt (pv 3) (pa_cons (pe_call Gdr (hr.mono (by decide)) (by rfl) gdr kdr bdr .nil pass0 (pa_cons (pv 0) (pa_cons (pe_callB call_len_seq (by rfl) m_len boot_len (pa_cons (pv 3) pa_nil)) pa_nil))) pa_nil)) pa_nil)))))
 (pss_cons (ps_set (i := 5) sc__law_land.nd rfl (by first | exact Or.inl rfl | exact Or.inr rfl) (pe_lst pa_nil))
 (Evl.pss_cut (ps_for PassesOwn.never rfl (pi_range2 rfl m_range (pa_cons pe_int (pa_cons (pv 1) pa_nil))) (pg_name (i := 4) sc__law_land.nd rfl (by first | exact Or.inl rfl | exact Or.inr rfl))
  (pss_one (ps_expr (pe_bm PySem.F.plainAttrs_list PySem.F.slot_list_append PySem.F.type_list_append mt_append (pv 5) (pa_cons (pe_tup (pa_cons (pv 4) (pa_cons (pe_call Gdr (hr.mono (by decide)) (by rfl) gdr kdr bdr .nil pass0 (pa_cons (pv 0) (pa_cons (pv 4) pa_nil))) pa_nil))) pa_nil)))))
 (Evl.pss_cut (ps_for PassesOwn.never rfl (pi_range2 rfl m_range (pa_cons pe_int (pa_cons (pv 1) pa_nil))) (pg_name (i := 6) sc__law_land.nd rfl (by first | exact Or.inl rfl | exact Or.inr rfl))
  (pss_one (ps_for PassesOwn.never rfl (pi_range1 rfl m_range (pa_cons (pv 6) pa_nil)) (pg_name (i := 7) sc__law_land.nd rfl (by first | exact Or.inl rfl | exact Or.inr rfl))
  (pss_one (ps_if (pw_and (pt_cmpR (op_notInD (K7L.hu65 hr)) (pe_tup (pa_cons (pv 6) (pa_cons (pv 7) pa_nil))) (pv 5) (by with_unfolding_all rfl)) (pw_and1 (pt_cmpR op_eq (pe_call Gdr (hr.mono (by decide)) (by rfl) gdr kdr bdr .nil pass0 (pa_cons (pv 0) (pa_cons pe_int pa_nil))) pe_int (nomark _)))).pt
  (pss_one (ps_expr (pe_bm PySem.F.plainAttrs_list PySem.F.slot_list_append PySem.F.type_list_append mt_append (pv 5) (pa_cons (pe_tup (pa_cons (pv 6) (pa_cons (pv 7) pa_nil))) pa_nil))))
  pss_nil)))))
 (pss_cons (ps_setLc (i := 8) (own := [("_law_a", 9), ("_law_b", 10)]) (g := gTup K 2 (gCons (gName 9) (gCons (gName 10) (gNil)))) (tt := tYes) rfl sc__law_land.nd rfl rfl (sw_true rfl rfl rfl (by decide +kernel)) (pi_list (pv 5)) (blkOk_by (own := [("_law_a", 9), ("_law_b", 10)]) (N := N__law_land) (sc := defScope s__law_land) (by decide +kernel)) (fun _ _ _ _ _ => (pg_tup rfl (pgs_cons (pg_name (i := 9) sc__law_land.nd rfl (by first | exact Or.inl rfl | exact Or.inr rfl)) (pgs_cons (pg_name (i := 10) sc__law_land.nd rfl (by first | exact Or.inl rfl | exact Or.inr rfl)) pgs_nil)))) (fun _ _ _ _ _ => pts_nil) (fun _ _ _ _ _ => (pe_tup (pa_cons (pe_callB (call_min2 rfl) (by rfl) m_min boot_min (pa_cons (pe_ix (show IxR _ (rIxL K) from ix_list) (pv 2) (pv 9) (fun _ _ => rfl)) (pa_cons (pe_ix (show IxR _ (rIxL K) from ix_list) (pv 2) (pv 10) (fun _ _ => rfl)) pa_nil))) (pa_cons (pe_callB (call_max2 rfl) (by rfl) m_max boot_max (pa_cons (pe_ix (show IxR _ (rIxL K) from ix_list) (pv 2) (pv 9) (fun _ _ => rfl)) (pa_cons (pe_ix (show IxR _ (rIxL K) from ix_list) (pv 2) (pv 10) (fun _ _ => rfl)) pa_nil))) pa_nil)))))
 (pss_cons (ps_setLc (i := 11) (own := [("_law_lot", 12)]) (g := gName 12) rfl sc__law_land.nd rfl rfl (sw_true rfl rfl rfl (by decide +kernel)) (pi_list (pe_call Glo (hr.mono (by decide)) (by rfl) glo klo blo .nil pass0 (pa_cons (pe_callTy (K7E.cr_list_rng rfl) (by rfl) m_list boot_list (pa_cons (pe_callTy K7E.cr_range1 (by rfl) m_range boot_range (pa_cons (pv 1) pa_nil)) pa_nil)) pa_nil))) (blkOk_by (own := [("_law_lot", 12)]) (N := N__law_land) (sc := defScope s__law_land) (by decide +kernel)) (fun _ _ _ _ _ => (pg_name (i := 12) sc__law_land.nd rfl (by first | exact Or.inl rfl | exact Or.inr rfl))) (fun _ _ _ _ _ => (pts_one (pt_chain op_lt op_lt pe_int (pe_callB (show CallR _ (.builtin "len") (rLen_ K) from call_len_seq) (by rfl) m_len boot_len (pa_cons (pv 12) pa_nil)) (pv 1)))) (fun _ _ _ _ _ => (pv 12)))
 (pss_one (ps_ret (pe_tup (pa_cons (pv 1) (pa_cons (pe_callB cr_sortedPO (by rfl) m_sorted boot_sorted (pa_cons (pv 8) pa_nil)) (pa_cons (pe_callTy call_list_of (by rfl) m_list boot_list (pa_cons (pe_call Gpk (hr.mono (by decide)) (by rfl) gpk kpk bpk .nil pass0 (pa_cons (pv 0) (pa_cons (pv 11) pa_nil))) pa_nil)) pa_nil)))))))))))))), ?_⟩
    have l10 : ∀ {xs : List Nat} {k : Nat}, xs.length ≤ k → k ≤ 1000 → (ints_ xs).length < sizeLine := fun {xs k} h1 h2 => by
      unfold ints_; rw [List.length_map]; exact small1000 (Nat.le_trans h1 h2)
    refine ⟨by show 0 ≤ sizeLine; decide, fun N0 nN => ?_⟩
    refine ⟨_, rfl, _, rfl, fun rg nrg => ?_⟩
    refine ⟨rg, n, rfl, upd_same, by omega, fun Lf nLf => ?_⟩
    have e1 : Same H (upd H N0 (.lst [])) := same_new (Same.refl H) nN
    have e2 : Same H (upd (upd H N0 (.lst [])) rg (.rng 0 n)) := same_new e1 nrg
    have e3 : Same H (upd (upd (upd H N0 (.lst [])) rg (.rng 0 n)) Lf (.lst (K7E.upTo n))) := same_new e2 nLf
    have hN3 : upd (upd (upd H N0 (.lst [])) rg (.rng 0 n)) Lf (.lst (K7E.upTo n)) N0 = some (.lst []) := same_new (Same.refl _) nLf _ _ (same_new (Same.refl _) nrg _ _ upd_same)
    have hL3 : upd (upd (upd H N0 (.lst [])) rg (.rng 0 n)) Lf (.lst (K7E.upTo n)) Lf = some (.lst (ints_ (List.range n))) := upd_same
    have fN : H N0 = none := nN
    have fL : H Lf = none := e2.free nLf
    have nNL : N0 ≠ Lf := ne_of_none (same_new (o := .rng 0 n) (Same.refl _) nrg _ _ upd_same) nLf
    obtain ⟨hNh, hNc⟩ := hh.ne fN
    obtain ⟨hLh, hLc⟩ := hh.ne fL
    generalize upd (upd (upd H N0 (.lst [])) rg (.rng 0 n)) Lf (.lst (K7E.upTo n)) = H3 at e3 hN3 hL3 ⊢
    refine ⟨fun σ' H' => ∃ nm y4, σ' = [some (.ref h), some (.int (n : Nat)), some (.ref N0), some (.ref Lf), y4, none, none, none, none, none, none, none, none] ∧ Stay h c H H' ∧ H' N0 = some (.lst (ints_ nm)) ∧ nm.Perm (List.range n), ?_, ?_⟩
    · refine ⟨_, rfl, _, rfl, by omega, by omega, for_range (fun k σ' H' => k ≤ n ∧ ∃ nm lf y4, σ' = [some (.ref h), some (.int (n : Nat)), some (.ref N0), some (.ref Lf), y4, none, none, none, none, none, none, none, none] ∧ Stay h c H H' ∧ H' N0 = some (.lst (ints_ nm)) ∧ H' Lf = some (.lst (ints_ lf)) ∧ (nm ++ lf).Perm (List.range n) ∧ nm.length = k)
        ⟨Nat.zero_le _, [], List.range n, none, rfl, .of_same hh e3, hN3, hL3, List.Perm.refl _, rfl⟩ (fun k σ' H' hk pv => ?_) (fun σ' H' pv => ?_)⟩
      · obtain ⟨_, nm, lf, y4, rfl, st, hN, hL, hp, hl⟩ := pv
        have hk : k < n := by simpa using hk
        have hll : lf.length = n - k := by
          have := hp.length_eq
          rw [List.length_append, List.length_range] at this
          omega
        have hil : (ints_ lf).length = lf.length := by unfold ints_; rw [List.length_map]
        refine ⟨_, rfl, .inl ⟨rfl, _, .inl (.inl hN)⟩, _, rfl, .inl ⟨rfl, _, .inl (.inl hL)⟩, _, rfl, _, rfl, Lf, _, rfl, .inl (.inl (.inl hL)), h, c, _, rfl, st.hand, by omega, ?_, fun H4 x d x0 x1 => ?_⟩
        · exact Int.lt_of_le_of_lt (show (((ints_ lf).length : Nat) : Int) ≤ 1000 by omega) (by decide)
        obtain ⟨j, rfl⟩ : ∃ j : Nat, x = (j : Int) := ⟨x.toNat, by omega⟩
        have hj : j < lf.length := by omega
        have hN4 : H4 N0 = some (.lst (ints_ nm)) := by rw [d.but N0 hNh]; exact hN
        have hL4 : H4 Lf = some (.lst (ints_ lf)) := by rw [d.but Lf hLh]; exact hL
        refine ⟨Lf, _, _, j, .int (lf[j] : Nat), rfl, rfl, hL4, by omega, by omega, (ixN_seq (ixN_nat (by omega))).1, ?_, ?_⟩
        · unfold ints_
          rw [List.getElem?_map, List.getElem?_eq_getElem hj]
          rfl
        have hN5 : upd H4 Lf (.lst ((ints_ lf).eraseIdx j)) N0 = some (.lst (ints_ nm)) := by rw [upd_ne nNL]; exact hN4
        refine ⟨N0, _, _, rfl, rfl, hN5, l10 (Nat.le_of_eq hl) (by omega), ?_⟩
        refine ⟨by omega, nm ++ [lf[j]], lf.eraseIdx j, _, rfl, ⟨fun b o nb hb => ?_, hh, ((d.hand.upd hLh hLc).upd hNh hNc)⟩, ?_, ?_, (KL.pop_perm hj).trans hp, by rw [List.length_append, hl]; rfl⟩
        · rw [upd_ne (ne_of_none hb fN), upd_ne (ne_of_none hb fL), d.but b nb]
          exact st.but b o nb hb
        · rw [upd_same]
          unfold ints_
          rw [List.map_append]
          rfl
        · rw [upd_ne nNL.symm, upd_same]
          unfold ints_
          rw [map_erase]
      · obtain ⟨_, nm, lf, y4, rfl, st, hN, hL, hp, hl⟩ := pv
        have hl : nm.length = n := by simpa using hl
        have l0 : lf = [] := by
          have := hp.length_eq
          rw [List.length_append, List.length_range] at this
          exact List.length_eq_zero_iff.mp (by omega)
        subst l0
        rw [List.append_nil] at hp
        exact ⟨nm, y4, rfl, st, hN, hp⟩
    rintro _ H4 ⟨nm, y4, rfl, st4, hN, hp⟩
    -- the tree
    refine ⟨by show 0 ≤ sizeLine; decide, fun C0 nC => ?_⟩
    have hC5 : upd H4 C0 (.lst []) C0 = some (.lst []) := upd_same
    have hN5 : upd H4 C0 (.lst []) N0 = some (.lst (ints_ nm)) := by rw [upd_ne (ne_of_none hN nC)]; exact hN
    obtain ⟨hCh, hCc⟩ := st4.hand.ne nC
    have st5 := st4.same (same_new (o := .lst []) (Same.refl H4) nC)
    have fC : H C0 = none := by
      cases z : H C0 with
      | none => rfl
      | some o =>
        have h1 := st4.but C0 o hCh z
        rw [nC] at h1
        cases h1
    have nNC : N0 ≠ C0 := ne_of_none hN nC
    generalize upd H4 C0 (.lst []) = H5 at hC5 hN5 st5 ⊢
    refine ⟨fun σ' H' => ∃ ts cs y4, σ' = [some (.ref h), some (.int (n : Nat)), some (.ref N0), some (.ref Lf), y4, some (.ref C0), none, none, none, none, none, none, none] ∧ Stay h c H H' ∧ H' N0 = some (.lst (ints_ nm)) ∧ H' C0 = some (.lst (ts.map V.ref)) ∧ TAt H' ts (pairs cs) ∧ Tree n n cs ∧ cs.length ≤ 10, ?_, ?_⟩
    · refine ⟨_, rfl, 1, _, rfl, ⟨by decide, by decide, by omega, by omega⟩, for_range (lo := 1) (fun k σ' H' => k + 1 ≤ n ∧ ∃ ts cs y4, σ' = [some (.ref h), some (.int (n : Nat)), some (.ref N0), some (.ref Lf), y4, some (.ref C0), none, none, none, none, none, none, none] ∧ Stay h c H H' ∧ H' N0 = some (.lst (ints_ nm)) ∧ H' C0 = some (.lst (ts.map V.ref)) ∧ TAt H' ts (pairs cs) ∧ Tree n (k + 1) cs ∧ cs.length = k)
        ⟨by omega, [], [], y4, rfl, st5, hN5, hC5, .nil, Tree.nil n, rfl⟩ (fun k σ' H' hk pv => ?_) (fun σ' H' pv => ?_)⟩
      · obtain ⟨_, ts, cs, y4, rfl, st, hN, hC, tC, tr, hl⟩ := pv
        have hk : k + 1 < n := by omega
        refine ⟨_, rfl, .inl ⟨rfl, _, .inl (.inl hC)⟩, _, rfl, _, rfl, _, rfl, h, c, _, rfl, st.hand, by omega, ?_, fun H6 x d x0 x1 => ?_⟩
        · exact Int.lt_of_le_of_lt (show (1 : Int) + (k : Nat) ≤ 1000 by omega) (by decide)
        obtain ⟨j, rfl⟩ : ∃ j : Nat, x = (j : Int) := ⟨x.toNat, by omega⟩
        have hj : j < k + 1 := by omega
        refine ⟨by show 2 ≤ sizeLine; decide, fun t nt => ?_⟩
        have y6 := (Stay.of_drawn st.hand d).same (same_new (o := .tup [.int (1 + (k : Nat)), .int (j : Nat)]) (Same.refl H6) nt)
        have hC6 := y6.but C0 _ hCh hC
        have hN6 := y6.but N0 _ hNh hN
        have ltx : ts.length = k := by rw [tC.len]; unfold pairs; rw [List.length_map, hl]
        refine ⟨C0, _, _, rfl, rfl, hC6, by rw [List.length_map, ltx]; exact small1000 (by omega), ?_⟩
        have up : ∀ b xs, upd H6 t (.tup [.int (1 + (k : Nat)), .int (j : Nat)]) b = some (.tup xs) → upd (upd H6 t (.tup [.int (1 + (k : Nat)), .int (j : Nat)])) C0 (.lst (ts.map V.ref ++ [.ref t])) b = some (.tup xs) := fun b xs hb => by
          rw [upd_ne (fun z => by rw [z, hC6] at hb; cases hb)]
          exact hb
        have tC6 : TAt (upd H6 t (.tup [.int (1 + (k : Nat)), .int (j : Nat)])) ts (pairs cs) := tC.mono fun b xs hb => y6.but b _ (st.hand.net hb) hb
        refine ⟨by omega, ts ++ [t], cs ++ [(k + 1, j)], _, rfl, ⟨fun b o nb hb => ?_, hh, y6.hand.upd hCh hCc⟩, ?_, ?_, ?_, tr.add hk hj, by rw [List.length_append, hl]; rfl⟩
        · rw [upd_ne (ne_of_none hb fC)]
          exact y6.but b o nb (st.but b o nb hb)
        · rw [upd_ne nNC]; exact hN6
        · rw [upd_same, List.map_append]; rfl
        · unfold pairs
          rw [List.map_append]
          refine (tC6.mono up).append (.cons (up _ _ ?_) .nil)
          rw [upd_same, show (1 : Int) + (k : Nat) = ((k + 1 : Nat) : Int) by omega]
          rfl
      · obtain ⟨hk, ts, cs, y4, rfl, st, hN, hC, tC, tr, hl⟩ := pv
        refine ⟨ts, cs, y4, rfl, st, hN, hC, tC, ?_, by omega⟩
        have e : ((n : Int) - 1).toNat + 1 = n := by omega
        rw [e] at tr
        exact tr
    rintro _ H6 ⟨ts, cs, y4, rfl, st6, hN6, hC6, tC6, tr6, ln6⟩
    -- more couples
    refine ⟨fun σ' H' => ∃ ts cs y6 y7, σ' = [some (.ref h), some (.int (n : Nat)), some (.ref N0), some (.ref Lf), y4, some (.ref C0), y6, y7, none, none, none, none, none] ∧ Stay h c H H' ∧ H' N0 = some (.lst (ints_ nm)) ∧ H' C0 = some (.lst (ts.map V.ref)) ∧ TAt H' ts (pairs cs) ∧ Tree n n cs ∧ cs.length ≤ 60, ?_, ?_⟩
    · refine ⟨_, rfl, 2, _, rfl, ⟨by decide, by decide, by omega, by omega⟩, for_range (lo := 2) (fun k σ' H' => k ≤ 5 ∧ ∃ ts cs y6 y7, σ' = [some (.ref h), some (.int (n : Nat)), some (.ref N0), some (.ref Lf), y4, some (.ref C0), y6, y7, none, none, none, none, none] ∧ Stay h c H H' ∧ H' N0 = some (.lst (ints_ nm)) ∧ H' C0 = some (.lst (ts.map V.ref)) ∧ TAt H' ts (pairs cs) ∧ Tree n n cs ∧ cs.length ≤ 10 + 10 * k)
        ⟨by omega, ts, cs, none, none, rfl, st6, hN6, hC6, tC6, tr6, ln6⟩ (fun k σ' H' hk pv => ?_) (fun σ' H' pv => ?_)⟩
      · obtain ⟨_, ts, cs, y6, y7, rfl, st, hN, hC, tC, tr, ln⟩ := pv
        have hk : 2 + k < n := by omega
        refine ⟨_, rfl, _, rfl, by omega, by omega, for_range (fun j σ' H' => ∃ ts cs y7, σ' = [some (.ref h), some (.int (n : Nat)), some (.ref N0), some (.ref Lf), y4, some (.ref C0), some (.int (2 + (k : Nat))), y7, none, none, none, none, none] ∧ Stay h c H H' ∧ H' N0 = some (.lst (ints_ nm)) ∧ H' C0 = some (.lst (ts.map V.ref)) ∧ TAt H' ts (pairs cs) ∧ Tree n n cs ∧ cs.length ≤ 10 + 10 * k + j)
          ⟨ts, cs, y7, rfl, st, hN, hC, tC, tr, by omega⟩ (fun j σ' H' hj pv => ?_) (fun σ' H' pv => ?_)⟩
        · obtain ⟨ts, cs, y7, rfl, st, hN, hC, tC, tr, ln⟩ := pv
          have hj : j < 2 + k := by omega
          have ltx : ts.length = cs.length := by rw [tC.len]; unfold pairs; rw [List.length_map]
          refine ⟨_, rfl, _, rfl, by show 2 ≤ sizeLine; decide, fun t nt => ?_⟩
          have sT := same_new (o := .tup [.int (2 + (k : Nat)), .int (0 + (j : Nat))]) (Same.refl H') nt
          have stT := st.same sT
          refine ⟨_, rfl, intD [2 + k, j], _, .tup (xs := [.int (2 + (k : Nat)), .int (0 + (j : Nat))]) (.inl (.inl upd_same)) (dp_pair k j), .lst (.inl (.inl (sT _ _ hC))) (dp_rows (tC.same sT)), shaped_ints _, shaped_rows _, ?_⟩
          rw [any_rows]
          refine ⟨_, rfl, ite2 (fun q1 => ?_) (fun q1 => ?_)⟩
          · have hnm : (2 + k, j) ∉ cs := by
              intro z
              rw [decide_eq_true z] at q1
              cases q1
            refine ⟨_, rfl, h, c, _, rfl, stT.hand, by decide, by decide, fun H7 x d x0 x1 => ?_⟩
            have st7 := stT.drawn d
            have hC7 : H7 C0 = some (.lst (ts.map V.ref)) := by rw [d.but C0 hCh]; exact sT _ _ hC
            have hN7 : H7 N0 = some (.lst (ints_ nm)) := by rw [d.but N0 hNh]; exact sT _ _ hN
            have tC7 : TAt H7 ts (pairs cs) := (tC.same sT).mono fun b xs hb => by rw [d.but b (stT.hand.net hb)]; exact hb
            refine ⟨rfl, _, rfl, ite2 (fun q2 => ?_) (fun q2 => ?_)⟩
            · refine ⟨_, rfl, .inl ⟨rfl, _, .inl (.inl hC7)⟩, _, rfl, _, rfl, by show 2 ≤ sizeLine; decide, fun t2 nt2 => ?_⟩
              have sU := same_new (o := .tup [.int (2 + (k : Nat)), .int (0 + (j : Nat))]) (Same.refl H7) nt2
              refine ⟨C0, _, _, rfl, rfl, sU _ _ hC7, by rw [List.length_map, ltx]; exact small1000 (by omega), ?_⟩
              have up : ∀ b xs, upd H7 t2 (.tup [.int (2 + (k : Nat)), .int (0 + (j : Nat))]) b = some (.tup xs) → upd (upd H7 t2 (.tup [.int (2 + (k : Nat)), .int (0 + (j : Nat))])) C0 (.lst (ts.map V.ref ++ [.ref t2])) b = some (.tup xs) := fun b xs hb => by
                rw [upd_ne (fun z => by rw [z, sU _ _ hC7] at hb; cases hb)]
                exact hb
              refine ⟨ts ++ [t2], cs ++ [(2 + k, j)], _, rfl, ⟨fun b o nb hb => ?_, hh, (st7.same sU).hand.upd hCh hCc⟩, ?_, ?_, ?_, tr.more hj hk hnm, by rw [List.length_append, List.length_singleton]; omega⟩
              · rw [upd_ne (ne_of_none hb fC)]
                exact (st7.same sU).but b o nb hb
              · rw [upd_ne nNC]; exact sU _ _ hN7
              · rw [upd_same, List.map_append]; rfl
              · unfold pairs
                rw [List.map_append]
                refine ((tC7.same sU).mono up).append (.cons (up _ _ ?_) .nil)
                rw [upd_same, show (2 : Int) + (k : Nat) = ((2 + k : Nat) : Int) by omega, Int.zero_add]
                rfl
            · exact ⟨ts, cs, _, rfl, st7, hN7, hC7, tC7, tr, by omega⟩
          · exact ⟨ts, cs, _, rfl, stT, sT _ _ hN, sT _ _ hC, tC.same sT, tr, by omega⟩
        · obtain ⟨ts, cs, y7, rfl, st, hN, hC, tC, tr, ln⟩ := pv
          exact ⟨by omega, ts, cs, _, _, rfl, st, hN, hC, tC, tr, by omega⟩
      · obtain ⟨hk, ts, cs, y6, y7, rfl, st, hN, hC, tC, tr, ln⟩ := pv
        exact ⟨ts, cs, y6, y7, rfl, st, hN, hC, tC, tr, by omega⟩
    rintro _ H8 ⟨ts, cs, y6, y7, rfl, st8, hN8, hC8, tC8, tr8, ln8⟩
    -- under their names
    have nml : nm.length = n := by rw [hp.length_eq, List.length_range]
    have ltx : ts.length = cs.length := by rw [tC8.len]; unfold pairs; rw [List.length_map]
    refine ⟨_, rfl, C0, rfl, ⟨_, .inl (.inl hC8)⟩, fun D hD => lc_list (xs := ts.map V.ref) (fun j H2 => Same H8 H2 ∧ ∃ us, H2 D = some (.lst (us.map V.ref)) ∧ TAt H2 us (pairs ((cs.take j).map fun e => KL.couple nm e.1 e.2)) ∧ us.length ≤ j) ⟨same_new (Same.refl H8) hD, [], upd_same, .nil, Nat.le_refl _⟩ (fun j H2 _ pv => .inl (.inl (pv.1 _ _ hC8))) (fun j x H2 hx pv => ?_) (fun H9 pv => ?_)⟩
    · obtain ⟨e, us, hD2, tD, lu⟩ := pv
      rw [List.getElem?_map] at hx
      obtain ⟨t, ht, rfl⟩ := Option.map_eq_some_iff.mp hx
      obtain ⟨l, el, hl⟩ := tC8.get ht
      unfold pairs at el
      rw [List.getElem?_map] at el
      obtain ⟨ab, eab, rfl⟩ := Option.map_eq_some_iff.mp el
      obtain ⟨a, b'⟩ := ab
      obtain ⟨t1, t2, t3⟩ := tr8.lt _ (List.mem_of_getElem? eab)
      have t1 : b' < a := t1
      have t3 : a < n := t3
      have jl : j < 60 := by
        have := (List.getElem?_eq_some_iff.mp eab).1
        omega
      have at_ : ∀ x, x < n → atI (ints_ nm) ((x : Nat) : Int) = some (.int (nm.getD x 0 : Nat)) := fun x hx' => by
        refine atI_nat ?_
        unfold ints_
        rw [List.getElem?_map, List.getElem?_eq_getElem (by omega), List.getD_eq_getElem?_getD, List.getElem?_eq_getElem (by omega)]
        rfl
      have hN9 := e _ _ hN8
      refine ⟨t, [.int (a : Nat), .int (b' : Nat)], rfl, .inl (.inl (e _ _ hl)), rfl, _, _, rfl, _, _, rfl, rfl, rfl, ?_⟩
      refine ⟨_, rfl, _, rfl, N0, _, _, _, rfl, rfl, .inl (.inl hN9), at_ a t3, _, rfl, _, rfl, N0, _, _, _, rfl, rfl, .inl (.inl hN9), at_ b' (by omega), _, _, rfl, ?_⟩
      refine ⟨_, rfl, _, rfl, N0, _, _, _, rfl, rfl, .inl (.inl hN9), at_ a t3, _, rfl, _, rfl, N0, _, _, _, rfl, rfl, .inl (.inl hN9), at_ b' (by omega), _, _, rfl, ?_⟩
      refine ⟨by show 2 ≤ sizeLine; decide, fun u nu => ?_⟩
      have nDu : D ≠ u := ne_of_none hD2 nu
      refine ⟨_, by rw [upd_ne nDu]; exact hD2, by rw [List.length_map]; exact small1000 (by omega), fun b o hb => ?_, us ++ [u], by rw [upd_same, List.map_append]; rfl, ?_, by rw [List.length_append, List.length_singleton]; omega⟩
      · have h1 := e _ _ hb
        rw [upd_ne (ne_of_none hb hD), upd_ne (ne_of_none h1 nu)]
        exact h1
      · rw [List.take_add_one, eab, List.map_append]
        unfold pairs at tD ⊢
        rw [List.map_append]
        refine (tD.mono fun b xs hb => ?_).append (.cons ?_ .nil)
        · rw [upd_ne (fun z => by rw [z, hD2] at hb; cases hb), upd_ne (ne_of_none hb nu)]
          exact hb
        · have m1 : ∀ x y : Nat, (if (y : Int) < (x : Int) then (y : Int) else (x : Int)) = ((min x y : Nat) : Int) := fun x y => by split <;> omega
          have m2 : ∀ x y : Nat, (if (y : Int) > (x : Int) then (y : Int) else (x : Int)) = ((max x y : Nat) : Int) := fun x y => by split <;> omega
          rw [upd_ne nDu.symm, upd_same, m1, m2]
          rfl
    obtain ⟨e9, us, hD9, tD9, lu9⟩ := pv
    rw [List.length_map, ltx, List.take_length] at tD9
    rw [List.length_map, ltx] at lu9
    have st9 := st8.same e9
    -- the lots
    refine ⟨_, rfl, _, rfl, fun rg nrg => ?_⟩
    refine ⟨rg, n, rfl, upd_same, by omega, fun l0 nl0 => ?_⟩
    have s10 : Same H9 (upd (upd H9 rg (.rng 0 n)) l0 (.lst (K7E.upTo n))) := same_new (same_new (Same.refl H9) nrg) nl0
    refine ⟨l0, n, rfl, n5, upd_same, fun H11 lo ls e11 nlo hlo tlo => ?_⟩
    have e11 := s10.trans e11
    refine ⟨lo, rfl, ⟨_, .inl (.inl hlo)⟩, fun D2 hD2 => lc_list (xs := ls.map V.ref) (fun j H2 => Same H11 H2 ∧ ∃ us, H2 D2 = some (.lst (us.map V.ref)) ∧ TAt H2 us (((lotsTo (List.range n) n).take j).filter fun l => decide (0 < l.length) && decide (l.length < n)) ∧ us.length ≤ j) ⟨same_new (Same.refl H11) hD2, [], upd_same, .nil, Nat.le_refl _⟩ (fun j H2 _ pv => .inl (.inl (pv.1 _ _ hlo))) (fun j x H2 hx pv => ?_) (fun H12 pv => ?_)⟩
    · obtain ⟨e, us, hD3, tD, lu⟩ := pv
      rw [List.getElem?_map] at hx
      obtain ⟨t, ht, rfl⟩ := Option.map_eq_some_iff.mp hx
      obtain ⟨l, el, hl⟩ := tlo.get ht
      have jl : j < 32 := by
        have h1 := (List.getElem?_eq_some_iff.mp el).1
        have h2 : (lotsTo (List.range n) n).length ≤ 32 := (level_len ⟨n, by omega⟩ ⟨n, by omega⟩).2
        omega
      have hll : (l.map fun c => V.int (c : Nat)).length = l.length := List.length_map ..
      have hl2 := e _ _ hl
      have f1 : ((lotsTo (List.range n) n).take (j + 1)).filter (fun l => decide (0 < l.length) && decide (l.length < n)) = ((lotsTo (List.range n) n).take j).filter (fun l => decide (0 < l.length) && decide (l.length < n)) ++ (if (decide (0 < l.length) && decide (l.length < n)) = true then [l] else []) := by
        rw [List.take_add_one, el, List.filter_append]
        congr 1
        show List.filter _ [l] = _
        rw [List.filter_cons]
        rfl
      refine ⟨rfl, _, rfl, t, _, rfl, .inr (.inl (.inl hl2)), _, _, rfl, rfl, _, rfl, ite2 (fun q1 => ?_) (fun q1 => ?_)⟩
      · have q1' : 0 < l.length := by
          have z : (0 : Int) < (((l.map fun c => V.int (c : Nat)).length : Nat) : Int) := of_decide_eq_true q1
          omega
        refine ⟨_, rfl, _, _, rfl, rfl, _, rfl, ite2 (fun q2 => ?_) (fun q2 => ?_)⟩
        · have q2' : l.length < n := by
            have z : (((l.map fun c => V.int (c : Nat)).length : Nat) : Int) < (n : Nat) := of_decide_eq_true q2
            omega
          refine ⟨_, rfl, _, hD3, by rw [List.length_map]; exact small1000 (by omega), fun b o hb => ?_, us ++ [t], by rw [upd_same, List.map_append]; rfl, ?_, by rw [List.length_append, List.length_singleton]; omega⟩
          · rw [upd_ne (ne_of_none hb hD2)]
            exact e _ _ hb
          · rw [f1, if_pos (by rw [decide_eq_true q1', decide_eq_true q2']; rfl)]
            have up : ∀ b xs, H2 b = some (.tup xs) → upd H2 D2 (.lst (us.map V.ref ++ [.ref t])) b = some (.tup xs) := fun b xs hb => by
              rw [upd_ne (fun z => by rw [z, hD3] at hb; cases hb)]
              exact hb
            exact (tD.mono up).append (.cons (up _ _ hl2) .nil)
        · have q2' : ¬ l.length < n := fun z => q2 (decide_eq_true (by omega))
          refine ⟨e, us, hD3, ?_, by omega⟩
          rw [f1, if_neg (by rw [decide_eq_false q2', Bool.and_false]; decide), List.append_nil]
          exact tD
      · have q1' : ¬ 0 < l.length := fun z => q1 (decide_eq_true (by omega))
        refine ⟨_, rfl, iteF ?_⟩
        refine ⟨e, us, hD3, ?_, by omega⟩
        rw [f1, if_neg (by rw [decide_eq_false q1', Bool.false_and]; decide), List.append_nil]
        exact tD
    obtain ⟨e12, vs, hD12, tD12, lv12⟩ := pv
    have e12 := e11.trans e12
    have lsl : ls.length = (lotsTo (List.range n) n).length := tlo.len
    rw [List.length_map, lsl, List.take_length] at tD12
    have st12 := st9.same e12
    have hR12 := e12 _ _ hD9
    have tR12 := tD9.same e12
    -- the land
    have okl : LandOk0 n (cs.map fun e => KL.couple nm e.1 e.2) := tree_land hp tr8
    refine ⟨_, rfl, _, rfl, D, _, kfOf H12, rfl, .inl (.inl hR12), fun x hx => ?_, fun ys p srt stb np => ?_⟩
    · obtain ⟨a, e, rfl, ha⟩ := g_mem tR12 x hx
      exact ⟨a, rfl, by rw [kf_at ha]; exact ha⟩
    have hys := fun x (hx : x ∈ ys) => g_mem tR12 x (stb.perm.mem_iff.mp hx)
    obtain ⟨ts', rfl, tY⟩ := tat_of ys hys
    have pe : ((ts'.map V.ref).map (gOf H12)).Perm (cs.map fun e => KL.couple nm e.1 e.2) := by
      rw [← g_map tR12]
      exact stb.perm.map _
    have ok : LandOk n ((ts'.map V.ref).map (gOf H12)) := ⟨fun e he => okl.lt e (pe.mem_iff.mp he), pe.nodup_iff.mpr okl.nd, sorted_of _ hys srt, fun S h0 hS => okl.conn S h0 fun e he => hS e (pe.mem_iff.mpr he)⟩
    have s13 := same_new (o := .lst (ts'.map V.ref)) (Same.refl H12) np
    obtain ⟨hph, _⟩ := st12.hand.ne np
    have st13 := st12.same s13
    have hp13 : upd H12 p (.lst (ts'.map V.ref)) p = some (.lst (ts'.map V.ref)) := upd_same
    have tY13 := tY.same s13
    have hD13 := s13 _ _ hD12
    have tD13 := tD12.same s13
    generalize (ts'.map V.ref).map (gOf H12) = es at ok tY13 pe tY
    generalize upd H12 p (.lst (ts'.map V.ref)) = H13 at s13 st13 hp13 tY13 hD13 tD13 ⊢
    obtain ⟨k4, k0, k32⟩ := lots_some ⟨n, by omega⟩ n2
    have hvl : vs.length = ((lotsTo (List.range n) n).filter fun l => decide (0 < l.length) && decide (l.length < n)).length := tD13.len
    have k4 : vs.length ≠ 4 := by rw [hvl]; exact k4
    have k0 : 0 < vs.length := by rw [hvl]; exact k0
    have k32 : vs.length ≤ 32 := by rw [hvl]; exact k32
    refine ⟨_, rfl, _, rfl, h, c, D2, _, rfl, st13.hand, st13.hand.nel hD13 (notHand_len _ (by rw [List.length_map]; exact k4)), hD13, by rw [List.length_map]; exact k0, by rw [List.length_map]; omega, fun H14 j v d ej => ?_⟩
    rw [List.getElem?_map] at ej
    obtain ⟨t, ht, rfl⟩ := Option.map_eq_some_iff.mp ej
    obtain ⟨lot, elot, hlot⟩ := tD13.get ht
    have st14 := st13.drawn d
    have keep : ∀ {b : Addr} {xs : List V}, H13 b = some (.tup xs) → H14 b = some (.tup xs) := fun {b xs} hb => by rw [d.but b (st13.hand.net hb)]; exact hb
    have hp14 : H14 p = some (.lst (ts'.map V.ref)) := by rw [d.but p hph]; exact hp13
    have tY14 := tY13.mono fun b xs hb => keep hb
    refine ⟨t, _, rfl, .inr (.inl (.inl (keep hlot))), fun sA nsA => ?_⟩
    refine ⟨by show 3 ≤ sizeLine; decide, fun q0 nq0 => ?_⟩
    have s15 := same_new (o := .lst (lot.map fun c => .int (c : Nat))) (Same.refl H14) nsA
    have s16 := same_new (o := .tup [.int (n : Nat), .ref p, .ref sA]) s15 nq0
    have nsq : sA ≠ q0 := ne_of_none (show upd H14 sA (.lst (lot.map fun c => .int (c : Nat))) sA = some (.lst (lot.map fun c => .int (c : Nat))) from upd_same) nq0
    have hmem := List.mem_filter.mp (List.mem_of_getElem? elot)
    obtain ⟨hm1, hm2⟩ := hmem
    have hm2 := Bool.and_eq_true_iff.mp hm2
    exact q _ q0 es lot (st14.same s16) ((st14.same s15).free nq0) ⟨⟨p, sA, ts', upd_same, s16 _ _ hp14, tY14.same s16, by rw [upd_ne nsq, upd_same]; rfl⟩, ok, hm1, of_decide_eq_true hm2.1, of_decide_eq_true hm2.2⟩
end
end K7
end
/-! ## P4 -/
section
open PySem PySem.Spec PyProof.Rows L2
namespace K7
abbrev N_is_whole : List Str := ["thing", "low", "high"]
abbrev s_is_whole : Stmt := topS 11
theorem sc_is_whole : FnScope ["thing", "low", "high"] ["thing", "low", "high"] (defScope s_is_whole) := ⟨rfl, rfl, rfl, by decide +kernel, rfl, by decide +kernel, by decide +kernel⟩
abbrev N_is_sequence : List Str := ["thing"]
abbrev s_is_sequence : Stmt := topS 10
theorem sc_is_sequence : FnScope ["thing"] ["thing"] (defScope s_is_sequence) := ⟨rfl, rfl, rfl, by decide +kernel, rfl, by decide +kernel, by decide +kernel⟩
section
variable {P : Program} {w : World} {K : PySem.W.Frag} {mg : Str → Option Value} {base : Heap}
/-! is_whole -/
def wholeV (x : V) (lo hi : Int) : Bool := match x with
  | .int i => decide (lo ≤ i) && decide (i ≤ hi)
  | _ => false
theorem wholeV_int (i lo hi : Int) : wholeV (.int i) lo hi = (decide (lo ≤ i) && decide (i ≤ hi)) := rfl
inductive Flat4 : V → Prop where
  | non : Flat4 .non
  | bl (b : Bool) : Flat4 (.bl b)
  | int (i : Int) : Flat4 (.int i)
  | str (z : Str) : Flat4 (.str z)
/-- what a row of the law holds -/
inductive Thing (H : Hp) : V → Prop where
  | flat {x : V} (h : Flat4 x) : Thing H x
  | tup {a : Addr} {xs : List V} (h : H a = some (.tup xs)) : Thing H (.ref a)
  | lst {a : Addr} {xs : List V} (h : H a = some (.lst xs)) : Thing H (.ref a)
theorem Thing.same {H H' : Hp} {x : V} (h : Thing H x) (e : Same H H') : Thing H' x := by
  cases h with
  | flat h => exact .flat h
  | tup h => exact .tup (e _ _ h)
  | lst h => exact .lst (e _ _ h)
def spWhole : Sp := fun vs H Q _ => ∃ (x : V) (lo hi : Int), vs = [x, .int lo, .int hi] ∧ Thing H x ∧ Q (.bl (wholeV x lo hi)) H
theorem ok_whole {f : Addr} {fd : FuncData} (F : Fun K "is_whole" "is_whole" s_is_whole f fd) (m_isinstance : mg "isinstance" = none) (m_int : mg "int" = none) (m_bool : mg "bool" = none) : FnOk P w K mg base CX0 1 f fd ["thing", "low", "high"] spWhole := by
  refine F.ok sc_is_whole (fun vs H Q E h => ?_) (fun cdv A outer s H vs Q E hr h => ?_)
  · obtain ⟨x, lo, hi, rfl, _⟩ := h
    rfl
  · obtain ⟨x, lo, hi, rfl, hx, q⟩ := h
    refine ⟨_, (pss_one (ps_ret (pe_and (pe_callB call_isi (by rfl) m_isinstance boot_isinstance (pa_cons (pv 0) (pa_cons (pe_bltn (v := .ty "int") (by rfl) m_int boot_int rfl) pa_nil))) (pe_and (pe_not (pe_callB call_isi (by rfl) m_isinstance boot_isinstance (pa_cons (pv 0) (pa_cons (pe_bltn (v := .ty "bool") (by rfl) m_bool boot_bool rfl) pa_nil)))) (pe_one (pe_chain op_le op_le (pv 1) (pv 0) (pv 2))))))), ?_⟩
    rcases hx with ⟨hx⟩ | hx | hx
    rotate_left
    · exact ⟨_, rfl, _, _, _, _, _, rfl, .ty _, .base (.tup hx), kit_ty (r := false) (by decide +kernel), false, rfl, q⟩
    · exact ⟨_, rfl, _, _, _, _, _, rfl, .ty _, .base (.lst hx), kit_ty (r := false) (by decide +kernel), false, rfl, q⟩
    cases hx with
    | non => exact ⟨_, rfl, _, _, _, _, _, rfl, .ty _, .base .non, kit_ty (r := false) (by decide +kernel), false, rfl, q⟩
    | bl b => 
      refine ⟨_, rfl, _, _, _, _, _, rfl, .ty _, .base (.bl b), kit_ty (r := true) (by decide +kernel), true, rfl, ?_⟩
      exact ⟨_, rfl, _, _, _, _, _, rfl, .ty _, .base (.bl b), kit_ty (r := true) (by decide +kernel), _, rfl, _, rfl, q⟩
    | str z => exact ⟨_, rfl, _, _, _, _, _, rfl, .ty _, .base (.str z), kit_ty (r := false) (by decide +kernel), false, rfl, q⟩
    | int i =>
      refine ⟨_, rfl, _, _, _, _, _, rfl, .ty _, .base (.int i), kit_ty (r := true) (by decide +kernel), true, rfl, ?_⟩
      refine ⟨_, rfl, _, _, _, _, _, rfl, .ty _, .base (.int i), kit_ty (r := false) (by decide +kernel), _, rfl, _, rfl, ?_⟩
      refine ⟨_, rfl, _, rfl, _, _, rfl, rfl, _, rfl, ite2 (fun e => ?_) (fun e => ?_)⟩
      · rw [wholeV_int, e, Bool.true_and] at q
        exact ⟨_, rfl, _, _, rfl, rfl, q⟩
      · rw [wholeV_int, Bool.eq_false_iff.mpr e, Bool.false_and] at q
        exact q

/-! is_sequence -/
/-- a tuple or a list -/
def SqA (K : PySem.W.Frag) (H : Hp) (a : Addr) (xs : List V) : Prop := SqL K H a xs ∨ SqT K H a xs
def spSeq (K : PySem.W.Frag) : Sp := fun vs H Q _ => ∃ (x : V) (t : String) (b : Bool), vs = [x] ∧ (∀ H1, Same H H1 → TyX K H1 x (.type t)) ∧ PySem.W.kitAny K (.type t) [.type "list", .type "tuple"] = some b ∧ ∀ H1, Same H H1 → Q (.bl b) H1
theorem ok_seq {f : Addr} {fd : FuncData} (F : Fun K "is_sequence" "is_sequence" s_is_sequence f fd) (m_isinstance : mg "isinstance" = none) (m_list : mg "list" = none) (m_tuple : mg "tuple" = none) : FnOk P w K mg base CX0 1 f fd ["thing"] (spSeq K) := by
  refine F.ok sc_is_sequence (fun vs H Q E h => ?_) (fun cdv A outer s H vs Q E hr h => ?_)
  · obtain ⟨x, t, b, rfl, _⟩ := h
    rfl
  · obtain ⟨x, t, b, rfl, ty, k, q⟩ := h
    refine ⟨_, (pss_one (ps_ret (pe_callB call_isiT (by rfl) m_isinstance boot_isinstance (pa_cons (pv 0) (pa_cons (pe_tup (pa_cons (pe_bltn (v := .ty "list") (by rfl) m_list boot_list rfl) (pa_cons (pe_bltn (v := .ty "tuple") (by rfl) m_tuple boot_tuple rfl) pa_nil))) pa_nil))))), ?_⟩
    refine ⟨_, rfl, by show 2 ≤ sizeLine; decide, fun tp np => ?_⟩
    have s1 := same_new (o := .tup [.ty "list", .ty "tuple"]) (Same.refl H) np
    exact ⟨x, tp, _, .type t, _, b, rfl, upd_same, .cons (.ty _) (.cons (.ty _) .nil), ty _ s1, k, q _ s1⟩
theorem any_tup : PySem.W.kitAny K (.type "tuple") [.type "list", .type "tuple"] = some true := kitAny_cons (b := false) (kit_ty (by decide +kernel)) (fun _ => kitAny_cons (b := true) (kit_ty (by decide +kernel)) (fun z => nomatch z) (fun _ => rfl)) (fun z => nomatch z)
theorem any_lst : PySem.W.kitAny K (.type "list") [.type "list", .type "tuple"] = some true := kitAny_cons (b := true) (kit_ty (by decide +kernel)) (fun z => nomatch z) (fun _ => rfl)
theorem any_int : PySem.W.kitAny K (.type "int") [.type "list", .type "tuple"] = some false := kitAny_cons (b := false) (kit_ty (by decide +kernel)) (fun _ => kitAny_cons (b := false) (kit_ty (by decide +kernel)) (fun _ => kitAny_nil) (fun z => nomatch z)) (fun z => nomatch z)
theorem any_str : PySem.W.kitAny K (.type "str") [.type "list", .type "tuple"] = some false := kitAny_cons (b := false) (kit_ty (by decide +kernel)) (fun _ => kitAny_cons (b := false) (kit_ty (by decide +kernel)) (fun _ => kitAny_nil) (fun z => nomatch z)) (fun z => nomatch z)
theorem any_non : PySem.W.kitAny K (.type "NoneType") [.type "list", .type "tuple"] = some false := kitAny_cons (b := false) (kit_ty (by decide +kernel)) (fun _ => kitAny_cons (b := false) (kit_ty (by decide +kernel)) (fun _ => kitAny_nil) (fun z => nomatch z)) (fun z => nomatch z)
theorem any_bool : PySem.W.kitAny K (.type "bool") [.type "list", .type "tuple"] = some false := kitAny_cons (b := false) (kit_ty (by decide +kernel)) (fun _ => kitAny_cons (b := false) (kit_ty (by decide +kernel)) (fun _ => kitAny_nil) (fun z => nomatch z)) (fun z => nomatch z)
end
end K7
end
/-! ## EL -/
section
open PySem PySem.Spec PyProof.Rows L2
namespace K7E
theorem nodup_le {α : Type} [DecidableEq α] : ∀ (l D : List α), l.Nodup → (∀ x ∈ l, x ∈ D) → l.length ≤ D.length
  | [], _, _, _ => Nat.zero_le _
  | x :: l, D, h, m => by
    obtain ⟨h1, h2⟩ := List.nodup_cons.mp h
    have hx := m x List.mem_cons_self
    have z := nodup_le l (D.erase x) h2 fun y hy => (List.mem_erase_of_ne (fun (e : y = x) => h1 (by rw [← e]; exact hy))).mpr (m y (List.mem_cons_of_mem _ hy))
    rw [List.length_erase_of_mem hx] at z
    have := List.length_pos_of_mem hx
    rw [List.length_cons]
    omega
theorem nodup_of_le {α : Type} [DecidableEq α] : ∀ (l D : List α), l.Nodup → (∀ x ∈ l, x ∈ D) → D.length ≤ l.length → D.Nodup
  | [], [], _, _, _ => List.nodup_nil
  | [], _ :: _, _, _, z => absurd z (by rw [List.length_cons, List.length_nil]; omega)
  | x :: l, D, h, m, z => by
    obtain ⟨h1, h2⟩ := List.nodup_cons.mp h
    have hx := m x List.mem_cons_self
    have hl := List.length_erase_of_mem hx
    have sub : ∀ y ∈ l, y ∈ D.erase x := fun y hy => (List.mem_erase_of_ne (fun (e : y = x) => h1 (by rw [← e]; exact hy))).mpr (m y (List.mem_cons_of_mem _ hy))
    rw [List.length_cons] at z
    have hp := List.length_pos_of_mem hx
    have hd := nodup_of_le l (D.erase x) h2 sub (by omega)
    rw [(List.perm_cons_erase hx).nodup_iff, List.nodup_cons]
    refine ⟨fun hm => ?_, hd⟩
    have w := nodup_le (x :: l) (D.erase x) h fun y hy => by
      rcases List.mem_cons.mp hy with rfl | hy
      · exact hm
      · exact sub y hy
    rw [List.length_cons] at w
    omega
section
variable {X : Cx}
/-- len(set(x)), x a tuple of ints: how many there are of them, and all of them only if no two are the same -/
def tLenSetT (K : PySem.W.Frag) (ta : TE) : TE := fun σ H Q => ta σ H fun x H1 => ∃ (l : Addr) (ns : List Int), x = V.ref l ∧ SqT K H1 l (ns.map V.int) ∧ ns.length < 64 ∧ ∀ c : Nat, c ≤ ns.length → (c = ns.length ↔ ns.Nodup) → Q (.int c) H1
theorem pe_lenSetT {a : Expr} {ta : TE} {p p2 q pos : Pos} (hc : X.calm = true) (hg : Gl X "len") (hm : X.mg "len" = none) (hg2 : Gl X "set") (hm2 : X.mg "set" = none) (ha : PE X a ta)
    (na : starEach [a] X.env = (false, eval a X.env) :: starEach [] X.env := by rfl) : PE X (.Call (.Name "len" p) [.Call (.Name "set" p2) [a] [] q] [] pos) (tLenSetT X.K ta) := by
  refine ⟨fun pins s σ H Q I h => ?_⟩
  refine Call_ (ld_blt I hg hm PySem.boot_len ?_)
  refine PyProof.Rows.callWith_builtin1 (PyProof.Rows.args_cons ?_ rfl) rfl rfl
  refine Call_ (ld_blt I hg2 hm2 PyProof.Rows.boot_set ?_)
  refine PyProof.Rows.callWith_type1 (PyProof.Rows.args_cons (thn (ha.run pins s σ H _ I h) fun v s1 ⟨x, H1, I1, r1, q1⟩ => PyProof.Rows.args_nil ?_) na) na rfl
  obtain ⟨l, ns, rfl, hq, h1, q1⟩ := q1
  cases r1
  obtain ⟨its, r, pl, hz⟩ := I1.tuple hq
  have hi : IntsAre its.toArray.toList ns := ints_of_vals r
  refine call_set_tupI ns (I1.ok.hd hc) (show s1.heap.IsTuple l its.toArray from pl) hi (by unfold scanBound; omega) fun h' tk c hS hcn hk => ?_
  refine PyProof.Rows.args_nil ?_
  obtain ⟨o, es, ep, t, ho, hex, hd, g, nd, hm2, hb, hf, hn, hr, hl2⟩ := hS
  have I2 : Inv X pins σ H1 { s1 with heap := h', toks := tk } := I1.kept fun b o e => hk b o e
  have hmem : ∀ k, k ∈ es.toList.map keyOf ↔ k ∈ ns := fun k => by rw [← hm2 k, decide_eq_true_eq]
  have hlen : (es.toList.map keyOf).length = c := by rw [List.length_map, Array.length_toList, hn]
  have key : c = ns.length ↔ ns.Nodup := by
    constructor
    · intro e
      exact nodup_of_le _ _ nd (fun k hk => (hmem k).mp hk) (by rw [hlen, e]; exact Nat.le_refl _)
    · intro hn2
      have w := nodup_le _ _ hn2 fun k hk => (hmem k).mpr hk
      rw [hlen] at w
      omega
  refine call_len_set ho hex hd hf (by rw [hn] <;> omega) ⟨.int c, H1, I2.tok _, ⟨_, by rw [hn]⟩, q1 c hcn key⟩
/-- the same over a list -/
theorem firstMet_nd (val : Nat → Int) : ∀ i, (firstMet val i).Nodup
  | 0 => List.nodup_nil
  | i + 1 => by
    rw [firstMet_succ]
    unfold step_dedup
    split
    · exact firstMet_nd val i
    · rename_i h
      refine List.nodup_append.mpr ⟨firstMet_nd val i, List.nodup_cons.mpr ⟨List.not_mem_nil, List.nodup_nil⟩, fun a ha b hb e => h ?_⟩
      rw [List.mem_singleton] at hb
      exact List.any_eq_true.mpr ⟨a, ha, by rw [e, hb]; exact beq_self_eq_true _⟩
theorem firstMet_mem (ns : List Int) (k : Int) : k ∈ firstMet (fun i => ns.getD i 0) ns.length ↔ k ∈ ns := by
  have e := firstMet_any (fun i => ns.getD i 0) ns.length k
  have em : (List.range ns.length).map (fun i => ns.getD i 0) = ns := by
    refine List.ext_getElem (by rw [List.length_map, List.length_range]) fun j h1 h2 => ?_
    rw [List.getElem_map, List.getElem_range, List.getD_eq_getElem?_getD, List.getElem?_eq_getElem h2]
    rfl
  rw [em] at e
  have w : ∀ l : List Int, l.any (· == k) = true ↔ k ∈ l := fun l => by
    rw [List.any_eq_true]
    exact ⟨fun ⟨x, hx, ex⟩ => by rw [← beq_iff_eq.mp ex]; exact hx, fun hx => ⟨k, hx, beq_self_eq_true _⟩⟩
  rw [← w, ← w, e]
def tLenSetL (K : PySem.W.Frag) (ta : TE) : TE := fun σ H Q => ta σ H fun x H1 => ∃ (l : Addr) (ns : List Int), x = V.ref l ∧ SqL K H1 l (ns.map V.int) ∧ ns.length < 64 ∧ ∀ c : Nat, c ≤ ns.length → (c = ns.length ↔ ns.Nodup) → Q (.int c) H1
theorem pe_lenSetL {a : Expr} {ta : TE} {p p2 q pos : Pos} (hc : X.calm = true) (hg : Gl X "len") (hm : X.mg "len" = none) (hg2 : Gl X "set") (hm2 : X.mg "set" = none) (ha : PE X a ta)
    (na : starEach [a] X.env = (false, eval a X.env) :: starEach [] X.env := by rfl) : PE X (.Call (.Name "len" p) [.Call (.Name "set" p2) [a] [] q] [] pos) (tLenSetL X.K ta) := by
  refine ⟨fun pins s σ H Q I h => ?_⟩
  refine Call_ (ld_blt I hg hm PySem.boot_len ?_)
  refine PyProof.Rows.callWith_builtin1 (PyProof.Rows.args_cons ?_ rfl) rfl rfl
  refine Call_ (ld_blt I hg2 hm2 PyProof.Rows.boot_set ?_)
  refine PyProof.Rows.callWith_type1 (PyProof.Rows.args_cons (thn (ha.run pins s σ H _ I h) fun v s1 ⟨x, H1, I1, r1, q1⟩ => PyProof.Rows.args_nil ?_) na) na rfl
  obtain ⟨l, ns, rfl, hq, h1, q1⟩ := q1
  cases r1
  obtain ⟨its, r, pl, hz⟩ := I1.list hq
  have hl : its.toArray.size = ns.length := by rw [List.size_toArray, ← r.length, List.length_map]
  refine call_set_list (I1.ok.hd hc) pl.isList (ns := ns) (by simpa using r.ints) (by unfold scanBound; omega) fun h' tk hS hk => ?_
  rw [hl] at hS
  have nd := firstMet_nd (fun i => ns.getD i 0) ns.length
  have mm := firstMet_mem ns
  have hcn := firstMet_length_le (fun i => ns.getD i 0) ns.length
  generalize firstMet (fun i => ns.getD i 0) ns.length = L at hS nd mm hcn
  refine PyProof.Rows.args_nil ?_
  obtain ⟨o, es, ep, t, ho, hex, hd, _, _, _, hf, hn⟩ := hS
  have I2 : Inv X pins σ H1 { s1 with heap := h', toks := tk } := I1.kept fun b o e => hk b o (Heap.lt_size e) e
  have key : L.length = ns.length ↔ ns.Nodup := by
    constructor
    · intro e
      exact nodup_of_le _ _ nd (fun k hk => (mm k).mp hk) (by rw [e]; exact Nat.le_refl _)
    · intro hn2
      have w := nodup_le _ _ hn2 fun k hk => (mm k).mpr hk
      omega
  refine call_len_set ho hex hd hf (by rw [hn] <;> omega) ⟨.int L.length, H1, I2.tok _, ⟨_, by rw [hn]⟩, q1 _ hcn key⟩
/-- one of two readings -/
theorem pe_either {e : Expr} {t1 t2 : TE} (a : PE X e t1) (b : PE X e t2) : PE X e (fun σ H Q => t1 σ H Q ∨ t2 σ H Q) := ⟨fun pins s σ H Q I h => h.elim (a.run pins s σ H Q I) (b.run pins s σ H Q I)⟩
theorem pi_either {tg e : Expr} {t1 t2 : TI} (a : PI X tg e t1) (b : PI X tg e t2) : PI X tg e (fun σ H R => t1 σ H R ∨ t2 σ H R) := ⟨fun pins s σ H R I h => h.elim (a.run pins s σ H R I) (b.run pins s σ H R I)⟩
end
end K7E
end
/-! ## P5 -/
section
open PySem PySem.Spec PyProof.Rows L2
namespace K7
abbrev N_are_cells : List Str := ["many", "thing", "least", "cell"]
abbrev s_are_cells : Stmt := topS 12
theorem sc_are_cells : FnScope ["many", "thing", "least", "cell"] ["many", "thing", "least"] (defScope s_are_cells) := ⟨rfl, rfl, rfl, by decide +kernel, rfl, by decide +kernel, by decide +kernel⟩
section
variable {P : Program} {w : World} {K : PySem.W.Frag} {mg : Str → Option Value} {base : Heap}
def intOf : V → Int | .int i => i | _ => 0
/-- what are_cells says of a row -/
def cellsV (many : Int) (xs : List V) (least : Int) : Bool := decide (least ≤ (xs.length : Nat)) && xs.all (fun x => wholeV x 0 (many - 1)) && decide (xs.map intOf).Nodup
theorem whole_int {x : V} {lo hi : Int} (h : wholeV x lo hi = true) : x = .int (intOf x) := by
  unfold wholeV at h
  split at h
  · rfl
  · cases h
def spCells (K : PySem.W.Frag) : Sp := fun vs H Q _ => ∃ (many : Int) (x : V) (least : Int), vs = [.int many, x, .int least] ∧
  ((∃ t : String, (∀ H1, Same H H1 → TyX K H1 x (.type t)) ∧ PySem.W.kitAny K (.type t) [.type "list", .type "tuple"] = some false ∧ ∀ H1, Same H H1 → Q (.bl false) H1) ∨
   (∃ (a : Addr) (xs : List V), x = .ref a ∧ (H a = some (.tup xs) ∨ H a = some (.lst xs)) ∧ (∀ y ∈ xs, Thing H y) ∧ xs.length < 64 ∧ ∀ H1, Same H H1 → Q (.bl (cellsV many xs least)) H1))
theorem ok_cells {f fS fW : Addr} {fd fdS fdW : FuncData} (F : Fun K "are_cells" "are_cells" s_are_cells f fd)
    (Gsq : FnOk P w K mg base CX0 1 fS fdS ["thing"] (spSeq K)) (gsq : mg "is_sequence" = some (.ref fS)) (ksq : PySem.W.keepIn K (.ref fS) = true) (bsq : Binds K fdS ["thing"] [])
    (Giw : FnOk P w K mg base CX0 1 fW fdW ["thing", "low", "high"] spWhole) (giw : mg "is_whole" = some (.ref fW)) (kiw : PySem.W.keepIn K (.ref fW) = true) (biw : Binds K fdW ["thing", "low", "high"] [])
    (m_len : mg "len" = none) (m_set : mg "set" = none) (m_all : mg "all" = none) : FnOk P w K mg base CX0 2 f fd ["many", "thing", "least"] (spCells K) := by
  refine F.ok sc_are_cells (fun vs H Q E h => ?_) (fun cdv A outer s H vs Q E hr h => ?_)
  · obtain ⟨m, x, l, rfl, _⟩ := h
    rfl
  · obtain ⟨m, x, l, rfl, h⟩ := h
    refine ⟨_, (pss_cons (ps_if (pw_or (pt_not (pt_val (pe_call Gsq (hr.mono (by decide)) (by rfl) gsq ksq bsq .nil pass0 (pa_cons (pv 1) pa_nil)))) (pw_or1 (pt_cmpR op_lt (pe_callB call_len_seq (by rfl) m_len boot_len (pa_cons (pv 1) pa_nil)) (pv 2) (nomark _)))).pt
  (pss_one (ps_ret pe_bl))
  pss_nil)
 (pss_cons (ps_if (pt_not (pt_val (pe_callB (cr_all rfl) (by rfl) m_all boot_all (pa_cons (pe_lc (own := [("cell", 3)]) (g := gName 3) (tt := tYes) rfl sc_are_cells.nd (K7E.pi_either (pi_tup (pv 1)) (pi_list (pv 1))) (blkOk_by (own := [("cell", 3)]) (N := N_are_cells) (sc := defScope s_are_cells) (by decide +kernel)) (fun _ _ _ _ _ => (pg_name (i := 3) sc_are_cells.nd rfl (by first | exact Or.inl rfl | exact Or.inr rfl))) (fun _ _ _ _ _ => pts_nil) (fun _ _ _ _ _ => (pe_call Giw (hr.mono (by decide)) (by rfl) giw kiw biw .nil pass0 (pa_cons (pv 3) (pa_cons pe_int (pa_cons (pe_op op_sub (pv 0) pe_int) pa_nil)))))) pa_nil))))
  (pss_one (ps_ret pe_bl))
  pss_nil)
 (pss_one (ps_ret (pe_cmpR op_eq (K7E.pe_either (K7E.pe_lenSetT rfl (by rfl) m_len (by rfl) m_set (pv 1)) (K7E.pe_lenSetL rfl (by rfl) m_len (by rfl) m_set (pv 1))) (pe_callB call_len_seq (by rfl) m_len boot_len (pa_cons (pv 1) pa_nil)) (nomark _)))))), ?_⟩
    rcases h with ⟨t, ty, k, q⟩ | ⟨a, xs, rfl, ha, th, h64, q⟩
    · refine ⟨_, rfl, x, t, false, rfl, ty, k, fun H1 e1 => ?_⟩
      exact ⟨_, rfl, q H1 e1⟩
    · have sq : ∀ H1, Same H H1 → (SqL K H1 a xs ∨ SqT K H1 a xs) := fun H1 e1 => ha.elim (fun z => .inr (.inl (.inl (e1 _ _ z)))) (fun z => .inl (.inl (.inl (e1 _ _ z))))
      have ex : ∃ t : String, (∀ H1, Same H H1 → TyX K H1 (.ref a) (.type t)) ∧ PySem.W.kitAny K (.type t) [.type "list", .type "tuple"] = some true := by
        rcases ha with z | z
        · exact ⟨"tuple", fun H1 e1 => .base (.tup (e1 _ _ z)), any_tup⟩
        · exact ⟨"list", fun H1 e1 => .base (.lst (e1 _ _ z)), any_lst⟩
      obtain ⟨t, ty, kk⟩ := ex
      refine ⟨_, rfl, _, t, true, rfl, ty, kk, fun H1 e1 => ⟨_, rfl, ?_⟩⟩
      refine ⟨_, rfl, a, xs, rfl, sq H1 e1, _, rfl, _, _, rfl, rfl, _, rfl, ite2 (fun c1 => ?_) (fun c1 => ?_)⟩
      · have c1' : ((xs.length : Nat) : Int) < l := of_decide_eq_true c1
        have z := q H1 e1
        have e0 : cellsV m xs l = false := by
          unfold cellsV
          rw [decide_eq_false (show ¬ l ≤ ((xs.length : Nat) : Int) by omega), Bool.false_and, Bool.false_and]
        rw [e0] at z
        exact z
      · have c1' : ¬ ((xs.length : Nat) : Int) < l := fun z => c1 (decide_eq_true z)
        have c2 : decide (l ≤ ((xs.length : Nat) : Int)) = true := decide_eq_true (by omega)
        rcases ha with z | z
        · refine .inl ⟨_, rfl, a, rfl, ⟨xs, .inl (.inl (e1 _ _ z))⟩, fun D hD => lc_tup (xs := xs) (fun j H2 => Same H1 H2 ∧ H2 D = some (.lst (((xs.take j).map fun x => wholeV x 0 (m - 1)).map V.bl))) ⟨same_new (Same.refl H1) hD, upd_same⟩ (fun j H2 _ pv => .inl (.inl (pv.1 _ _ (e1 _ _ z)))) (fun j x H2 hx pv => ?_) (fun H2 pv => ?_)⟩
          · obtain ⟨e2, hD2⟩ := pv
            have hm := th x (List.mem_of_getElem? hx)
            have hj : j < xs.length := (List.getElem?_eq_some_iff.mp hx).1
            refine ⟨rfl, _, rfl, _, rfl, _, _, rfl, rfl, x, 0, m - 1, rfl, hm.same (e1.trans e2), _, hD2, by rw [List.length_map, List.length_map, List.length_take]; exact small1000 (by omega), fun b o hb => ?_, ?_⟩
            · rw [upd_ne (ne_of_none hb hD)]
              exact e2 _ _ hb
            · rw [upd_same, List.take_add_one, hx, List.map_append, List.map_append]
              rfl
          · obtain ⟨e2, hD2⟩ := pv
            rw [List.take_length] at hD2
            refine ⟨D, xs.map fun x => wholeV x 0 (m - 1), rfl, .inl (.inl hD2), _, rfl, ?_⟩
            have call_ : (xs.map fun x => wholeV x 0 (m - 1)).all id = xs.all fun x => wholeV x 0 (m - 1) := by rw [List.all_map]; rfl
            refine ite2 (fun c3 => ?_) (fun c3 => ?_)
            rotate_left
            · have w : xs.all (fun x => wholeV x 0 (m - 1)) = true := by
                rw [← call_]
                cases hq : (xs.map fun x => wholeV x 0 (m - 1)).all id with
                | true => rfl
                | false => exact absurd (by rw [hq]; rfl) c3
              have exs : xs = (xs.map intOf).map V.int := by
                rw [List.map_map]
                refine (List.map_id xs).symm.trans (List.map_congr_left fun y hy => ?_)
                exact whole_int (List.all_eq_true.mp w y hy)
              refine Or.inl ⟨_, rfl, a, xs.map intOf, rfl, by rw [← exs]; exact .inl (.inl (e2 _ _ (e1 _ _ z))), by rw [List.length_map]; exact h64, fun c hc1 hc2 => ?_⟩
              refine ⟨_, rfl, a, xs, rfl, sq H2 (e1.trans e2), rfl, ?_⟩
              have zz := q H2 (e1.trans e2)
              unfold cellsV at zz
              rw [c2, w, Bool.true_and, Bool.true_and] at zz
              rw [List.length_map] at hc2
              have ee : decide (V.int (c : Nat) = V.int (xs.length : Nat)) = decide (xs.map intOf).Nodup := by
                refine decide_eq_decide.mpr ⟨fun e => hc2.mp ?_, fun e => by rw [hc2.mpr e]⟩
                injection e with e
                omega
              rw [← ee] at zz
              exact zz
            · have w : xs.all (fun x => wholeV x 0 (m - 1)) = false := by
                rw [← call_]
                cases hq : (xs.map fun x => wholeV x 0 (m - 1)).all id with
                | false => rfl
                | true => rw [hq] at c3; cases c3
              have zz := q H2 (e1.trans e2)
              unfold cellsV at zz
              rw [w, Bool.and_false, Bool.false_and] at zz
              exact zz
        · refine .inr ⟨_, rfl, a, rfl, ⟨xs, .inl (.inl (e1 _ _ z))⟩, fun D hD => lc_list (xs := xs) (fun j H2 => Same H1 H2 ∧ H2 D = some (.lst (((xs.take j).map fun x => wholeV x 0 (m - 1)).map V.bl))) ⟨same_new (Same.refl H1) hD, upd_same⟩ (fun j H2 _ pv => .inl (.inl (pv.1 _ _ (e1 _ _ z)))) (fun j x H2 hx pv => ?_) (fun H2 pv => ?_)⟩
          · obtain ⟨e2, hD2⟩ := pv
            have hm := th x (List.mem_of_getElem? hx)
            have hj : j < xs.length := (List.getElem?_eq_some_iff.mp hx).1
            refine ⟨rfl, _, rfl, _, rfl, _, _, rfl, rfl, x, 0, m - 1, rfl, hm.same (e1.trans e2), _, hD2, by rw [List.length_map, List.length_map, List.length_take]; exact small1000 (by omega), fun b o hb => ?_, ?_⟩
            · rw [upd_ne (ne_of_none hb hD)]
              exact e2 _ _ hb
            · rw [upd_same, List.take_add_one, hx, List.map_append, List.map_append]
              rfl
          · obtain ⟨e2, hD2⟩ := pv
            rw [List.take_length] at hD2
            refine ⟨D, xs.map fun x => wholeV x 0 (m - 1), rfl, .inl (.inl hD2), _, rfl, ?_⟩
            have call_ : (xs.map fun x => wholeV x 0 (m - 1)).all id = xs.all fun x => wholeV x 0 (m - 1) := by rw [List.all_map]; rfl
            refine ite2 (fun c3 => ?_) (fun c3 => ?_)
            rotate_left
            · have w : xs.all (fun x => wholeV x 0 (m - 1)) = true := by
                rw [← call_]
                cases hq : (xs.map fun x => wholeV x 0 (m - 1)).all id with
                | true => rfl
                | false => exact absurd (by rw [hq]; rfl) c3
              have exs : xs = (xs.map intOf).map V.int := by
                rw [List.map_map]
                refine (List.map_id xs).symm.trans (List.map_congr_left fun y hy => ?_)
                exact whole_int (List.all_eq_true.mp w y hy)
              refine Or.inr ⟨_, rfl, a, xs.map intOf, rfl, by rw [← exs]; exact .inl (.inl (e2 _ _ (e1 _ _ z))), by rw [List.length_map]; exact h64, fun c hc1 hc2 => ?_⟩
              refine ⟨_, rfl, a, xs, rfl, sq H2 (e1.trans e2), rfl, ?_⟩
              have zz := q H2 (e1.trans e2)
              unfold cellsV at zz
              rw [c2, w, Bool.true_and, Bool.true_and] at zz
              rw [List.length_map] at hc2
              have ee : decide (V.int (c : Nat) = V.int (xs.length : Nat)) = decide (xs.map intOf).Nodup := by
                refine decide_eq_decide.mpr ⟨fun e => hc2.mp ?_, fun e => by rw [hc2.mpr e]⟩
                injection e with e
                omega
              rw [← ee] at zz
              exact zz
            · have w : xs.all (fun x => wholeV x 0 (m - 1)) = false := by
                rw [← call_]
                cases hq : (xs.map fun x => wholeV x 0 (m - 1)).all id with
                | false => rfl
                | true => rw [hq] at c3; cases c3
              have zz := q H2 (e1.trans e2)
              unfold cellsV at zz
              rw [w, Bool.and_false, Bool.false_and] at zz
              exact zz
end
end K7
end
/-! ## P6 -/
section
open PySem PySem.Spec PyProof.Rows L2
namespace K7
abbrev N_are_two_cells : List Str := ["many", "thing"]
abbrev s_are_two_cells : Stmt := topS 13
theorem sc_are_two_cells : FnScope ["many", "thing"] ["many", "thing"] (defScope s_are_two_cells) := ⟨rfl, rfl, rfl, by decide +kernel, rfl, by decide +kernel, by decide +kernel⟩
section
variable {P : Program} {w : World} {K : PySem.W.Frag} {mg : Str → Option Value} {base : Heap}
/-- what are_two_cells says of a row -/
def twoV (many : Int) (xs : List V) : Bool := cellsV many xs 2 && decide (xs.length = 2)
def spTwo (K : PySem.W.Frag) : Sp := fun vs H Q _ => ∃ (many : Int) (x : V), vs = [.int many, x] ∧
  ((∃ t : String, (∀ H1, Same H H1 → TyX K H1 x (.type t)) ∧ PySem.W.kitAny K (.type t) [.type "list", .type "tuple"] = some false ∧ ∀ H1, Same H H1 → Q (.bl false) H1) ∨
   (∃ (a : Addr) (xs : List V), x = .ref a ∧ (H a = some (.tup xs) ∨ H a = some (.lst xs)) ∧ (∀ y ∈ xs, Thing H y) ∧ xs.length < 64 ∧ ∀ H1, Same H H1 → Q (.bl (twoV many xs)) H1))
theorem ok_two {f fC : Addr} {fd fdC : FuncData} (F : Fun K "are_two_cells" "are_two_cells" s_are_two_cells f fd)
    (Gac : FnOk P w K mg base CX0 2 fC fdC ["many", "thing", "least"] (spCells K)) (gac : mg "are_cells" = some (.ref fC)) (kac : PySem.W.keepIn K (.ref fC) = true) (bac : Binds K fdC ["many", "thing", "least"] [])
    (m_len : mg "len" = none) : FnOk P w K mg base CX0 3 f fd ["many", "thing"] (spTwo K) := by
  refine F.ok sc_are_two_cells (fun vs H Q E h => ?_) (fun cdv A outer s H vs Q E hr h => ?_)
  · obtain ⟨m, x, rfl, _⟩ := h
    rfl
  · obtain ⟨m, x, rfl, h⟩ := h
    refine ⟨_, (pss_one (ps_ret (pe_and (pe_call Gac (hr.mono (by decide)) (by rfl) gac kac bac .nil pass0 (pa_cons (pv 0) (pa_cons (pv 1) (pa_cons pe_int pa_nil)))) (pe_one (pe_cmpR op_eq (pe_callB call_len_seq (by rfl) m_len boot_len (pa_cons (pv 1) pa_nil)) pe_int (nomark _)))))), ?_⟩
    refine ⟨_, rfl, _, rfl, m, x, 2, rfl, ?_⟩
    rcases h with ⟨t, ty, k, q⟩ | ⟨a, xs, rfl, ha, th, h64, q⟩
    · exact .inl ⟨t, ty, k, fun H1 e1 => ⟨false, rfl, q H1 e1⟩⟩
    · refine .inr ⟨a, xs, rfl, ha, th, h64, fun H1 e1 => ⟨_, rfl, ite2 (fun c1 => ?_) (fun c1 => ?_)⟩⟩
      · refine ⟨_, rfl, a, xs, rfl, ha.elim (fun z => .inr (.inl (.inl (e1 _ _ z)))) (fun z => .inl (.inl (.inl (e1 _ _ z)))), rfl, ?_⟩
        have zz := q H1 e1
        unfold twoV at zz
        rw [c1, Bool.true_and] at zz
        have ee : decide (V.int (xs.length : Nat) = V.int 2) = decide (xs.length = 2) := by
          refine decide_eq_decide.mpr ⟨fun e => ?_, fun e => by rw [e]; rfl⟩
          injection e with e
          omega
        rw [← ee] at zz
        exact zz
      · have zz := q H1 e1
        unfold twoV at zz
        rw [Bool.eq_false_iff.mpr c1, Bool.false_and] at zz
        exact zz
end
end K7
end
/-! ## KM -/
section
/-! ## more pure facts: couples put in order -/
namespace KL
def srt (c : Nat × Nat) : Nat × Nat := (min c.1 c.2, max c.1 c.2)
theorem srt_le (c : Nat × Nat) : (srt c).1 ≤ (srt c).2 := by unfold srt; simp only; omega
theorem srt_lt {c : Nat × Nat} (h : c.1 ≠ c.2) : (srt c).1 < (srt c).2 := by unfold srt; simp only; omega
theorem srt_of {c : Nat × Nat} (h : c.1 < c.2) : srt c = c := by
  obtain ⟨a, b⟩ := c
  unfold srt
  simp only at h ⊢
  rw [Nat.min_eq_left (by omega), Nat.max_eq_right (by omega)]
/-- two numbers put in order -/
theorem two_sorted {ms : List Int} {x y : Nat} (p : ms.Perm [(x : Int), (y : Int)]) (s : ms.Pairwise (· ≤ ·)) : ms = [((min x y : Nat) : Int), ((max x y : Nat) : Int)] := by
  have hl := p.length_eq
  match ms, hl with
  | [u, v], _ =>
    have huv : u ≤ v := (List.pairwise_cons.mp s).1 v (List.mem_singleton.mpr rfl)
    have hu : u ∈ [(x : Int), (y : Int)] := p.mem_iff.mp List.mem_cons_self
    rcases List.mem_cons.mp hu with e | e
    · subst e
      have := (List.Perm.cons_inv p).eq_singleton
      injection this with e
      subst e
      have hxy : x ≤ y := by omega
      rw [Nat.min_eq_left hxy, Nat.max_eq_right hxy]
    · rw [List.mem_singleton] at e
      subst e
      have p2 : [(y : Int), v].Perm [(y : Int), (x : Int)] := p.trans (List.Perm.swap ..)
      have := (List.Perm.cons_inv p2).eq_singleton
      injection this with e
      subst e
      have hxy : y ≤ x := by omega
      rw [Nat.min_eq_right hxy, Nat.max_eq_left hxy]
def lexLe (a b : Nat × Nat) : Prop := a.1 < b.1 ∨ (a.1 = b.1 ∧ a.2 ≤ b.2)
/-- a sorted list is told by its items -/
theorem uniq {α : Type} {le : α → α → Prop} (anti : ∀ a b, le a b → le b a → a = b) : ∀ {l m : List α}, l.Perm m → l.Pairwise le → m.Pairwise le → l = m
  | [], m, p, _, _ => p.symm.eq_nil.symm
  | x :: l, [], p, _, _ => absurd p.length_eq (by simp)
  | x :: l, y :: m, p, hl, hm => by
    have e : x = y := by
      rcases List.mem_cons.mp (p.mem_iff.mp (List.mem_cons_self (a := x) (l := l))) with e | hx
      · exact e
      · rcases List.mem_cons.mp (p.mem_iff.mpr (List.mem_cons_self (a := y) (l := m))) with e | hy
        · exact e.symm
        · exact anti _ _ ((List.pairwise_cons.mp hl).1 y hy) ((List.pairwise_cons.mp hm).1 x hx)
    subst e
    rw [uniq anti p.cons_inv (List.pairwise_cons.mp hl).2 (List.pairwise_cons.mp hm).2]
theorem lex_anti (a b : Nat × Nat) (h1 : lexLe a b) (h2 : lexLe b a) : a = b := by
  unfold lexLe at h1 h2
  exact Prod.ext (by omega) (by omega)
theorem int_anti (a b : Int) (h1 : a ≤ b) (h2 : b ≤ a) : a = b := by omega
/-- all couples of n cells -/
def allC (n : Nat) : List (Nat × Nat) := (List.range n).flatMap fun a => ((List.range n).filter fun b => decide (a ≠ b)).map fun b => (a, b)
/-- couples taken either way round hang together as the ordered ones do -/
theorem conn_srt {n : Nat} {cs es : List (Nat × Nat)} (h : Conn n cs) (hp : es.Perm (cs.map srt)) : Conn n es := by
  intro S h0 he
  refine h S h0 fun c hc => ?_
  have z := he (srt c) (hp.mem_iff.mpr (List.mem_map.mpr ⟨c, hc, rfl⟩))
  unfold srt at z
  simp only at z
  rcases Nat.le_total c.1 c.2 with q | q
  · rw [Nat.min_eq_left q, Nat.max_eq_right q] at z
    exact z
  · rw [Nat.min_eq_right q, Nat.max_eq_left q] at z
    exact z.symm
/-- what is reached from c over passing cells -/
inductive Rch (E : Nat → Nat → Prop) (ps : List Nat) (c : Nat) : Nat → Prop
  | base : Rch E ps c c
  | step {a b : Nat} (h : Rch E ps c a) (e : E a b) (p : b ∈ ps) : Rch E ps c b
theorem Rch.mono {E E' : Nat → Nat → Prop} {ps ps' : List Nat} {c x : Nat} (h : Rch E ps c x) (he : ∀ a b, E a b → E' a b) (hp : ∀ b ∈ ps, b ∈ ps') : Rch E' ps' c x := by
  induction h with
  | base => exact .base
  | step _ e p ih => exact .step ih (he _ _ e) (hp _ p)
/-- a closed list that holds c holds what is reached -/
theorem Rch.mem {E : Nat → Nat → Prop} {ps : List Nat} {c x : Nat} {fd : List Nat} (h : Rch E ps c x) (h0 : c ∈ fd) (hc : ∀ a b, a ∈ fd → E a b → b ∈ ps → b ∈ fd) : x ∈ fd := by
  induction h with
  | base => exact h0
  | step _ e p ih => exact hc _ _ ih e p
end KL
end
/-! ## P7 -/
section
open PySem PySem.Spec PyProof.Rows L2
namespace K7
abbrev N_spread : List Str := ["nearby", "cell", "passing", "found", "done", "here", "b"]
abbrev s_spread : Stmt := topS 17
theorem sc_spread : FnScope ["nearby", "cell", "passing", "found", "done", "here", "b"] ["nearby", "cell", "passing"] (defScope s_spread) := ⟨rfl, rfl, rfl, by decide +kernel, rfl, by decide +kernel, by decide +kernel⟩
theorem flat_ints : ∀ l : List Nat, (ints_ l).all flatV = true
  | [] => rfl
  | _ :: l => flat_ints l
theorem inV_ints (c : Nat) : ∀ l : List Nat, inV (.int (c : Nat)) (ints_ l) = decide (c ∈ l)
  | [] => rfl
  | y :: l => by
    show (eqV (.int (y : Nat)) (.int (c : Nat)) || inV (.int (c : Nat)) (ints_ l)) = _
    rw [inV_ints c l]
    have e : eqV (.int (y : Nat)) (.int (c : Nat)) = decide (c = y) := by
      show decide ((y : Int) = (c : Int)) = _
      exact decide_eq_decide.mpr (by omega)
    rw [e, ← Bool.decide_or]
    exact decide_eq_decide.mpr List.mem_cons.symm
section
variable {P : Program} {w : World} {K : PySem.W.Frag} {mg : Str → Option Value} {base : Heap}
def SqOf (H : Hp) (a : Addr) (xs : List V) : Prop := H a = some (.tup xs) ∨ H a = some (.lst xs)
theorem SqOf.same {H H' : Hp} {a : Addr} {xs : List V} (h : SqOf H a xs) (e : Same H H') : SqOf H' a xs := h.imp (e _ _) (e _ _)
theorem SqOf.sq {H : Hp} {a : Addr} {xs : List V} (h : SqOf H a xs) : SqL K H a xs ∨ SqT K H a xs := h.elim (fun z => .inr (.inl (.inl z))) fun z => .inl (.inl (.inl z))
def nbE (Nb : List (List Nat)) (a b : Nat) : Prop := ∃ l, Nb[a]? = some l ∧ b ∈ l
def SpInv (H : Hp) (nb pa F0 : Addr) (Nb : List (List Nat)) (ps : List Nat) (c m : Nat) (σ' : L2.St) (H' : Hp) : Prop := ∃ (fd : List Nat) (d : Nat) (y5 y6 : Option V), σ' = [some (.ref nb), some (.int (c : Nat)), some (.ref pa), some (.ref F0), some (.int (d : Nat)), y5, y6] ∧ But F0 H H' ∧ H' F0 = some (.lst (ints_ fd)) ∧ fd.Nodup ∧ c ∈ fd ∧ (∀ x ∈ fd, x < Nb.length) ∧ d ≤ fd.length ∧
      (∀ i a, i < d → fd[i]? = some a → ∀ l, Nb[a]? = some l → ∀ b ∈ l, b ∈ ps → b ∈ fd) ∧ m + d = Nb.length ∧ ∀ x ∈ fd, KL.Rch (nbE Nb) ps c x
/-- what spread finds: the cell, and all that is near to what is found -/
structure Found (Nb : List (List Nat)) (ps : List Nat) (c : Nat) (fd : List Nat) : Prop where
  nd : fd.Nodup
  me : c ∈ fd
  lt : ∀ x ∈ fd, x < Nb.length
  cl : ∀ a ∈ fd, ∀ l, Nb[a]? = some l → ∀ b ∈ l, b ∈ ps → b ∈ fd
  so : ∀ x ∈ fd, KL.Rch (nbE Nb) ps c x
def spSpread : Sp := fun vs H Q _ => ∃ (nb : Addr) (ts : List Addr) (Nb : List (List Nat)) (c : Nat) (pa : Addr) (ps : List Nat), vs = [.ref nb, .int c, .ref pa] ∧ H nb = some (.tup (ts.map V.ref)) ∧ TAt H ts Nb ∧ SqOf H pa (ints_ ps) ∧
  Nb.length ≤ 5 ∧ c < Nb.length ∧ (∀ l ∈ Nb, ∀ x ∈ l, x < Nb.length) ∧ ∀ H' q fd, Same H H' → H q = none → H' q = some (.lst (ints_ fd)) → Found Nb ps c fd → Q (.ref q) H'
theorem ok_spread {f : Addr} {fd : FuncData} (F : Fun K "spread" "spread" s_spread f fd) (m_len : mg "len" = none) : FnOk P w K mg base CX0 1 f fd ["nearby", "cell", "passing"] spSpread := by
  refine F.ok sc_spread (fun vs H Q E h => ?_) (fun cdv A outer s H vs Q E hr h => ?_)
  · obtain ⟨nb, ts, Nb, c, pa, ps, rfl, _⟩ := h
    rfl
  · obtain ⟨nb, ts, Nb, c, pa, ps, rfl, hnb, tN, hpa, h5, hc, hlt, q⟩ := h
    refine ⟨_, (pss_cons (ps_set (i := 3) sc_spread.nd rfl (by first | exact Or.inl rfl | exact Or.inr rfl) (pe_lst (pa_cons (pv 1) pa_nil)))
 (pss_cons (ps_set (i := 4) sc_spread.nd rfl (by first | exact Or.inl rfl | exact Or.inr rfl) pe_int)
 (pss_cons (ps_while PassesOwn.never (pt_cmpR op_lt (pv 4) (pe_callB call_len_seq (by rfl) m_len boot_len (pa_cons (pv 3) pa_nil)) (nomark _))
  (pss_cons (ps_set (i := 5) sc_spread.nd rfl (by first | exact Or.inl rfl | exact Or.inr rfl) (pe_ix ix_list (pv 3) (pv 4) (fun _ _ => rfl)))
 (pss_cons (ps_for PassesOwn.never rfl (pi_tup (pe_ix ix_tup (pv 0) (pv 5) (fun _ _ => rfl))) (pg_name (i := 6) sc_spread.nd rfl (by first | exact Or.inl rfl | exact Or.inr rfl))
  (pss_one (ps_if (pw_and (pt_cmpR op_in_seq (pv 6) (pv 2) (by with_unfolding_all rfl)) (pw_and1 (pt_cmpR op_notIn_seq (pv 6) (pv 3) (by with_unfolding_all rfl)))).pt
  (pss_one (ps_expr (pe_bm PySem.F.plainAttrs_list PySem.F.slot_list_append PySem.F.type_list_append mt_append (pv 3) (pa_cons (pv 6) pa_nil))))
  pss_nil)))
 (pss_one (ps_aug (i := 4) sc_spread.nd rfl (by first | exact Or.inl rfl | exact Or.inr rfl) pe_int ip_add)))))
 (pss_one (ps_ret (pv 3)))))), ?_⟩
    refine ⟨_, rfl, by show 1 ≤ sizeLine; decide, fun F0 nF => ?_⟩
    refine ⟨SpInv H nb pa F0 Nb ps c, ⟨Nb.length, [c], 0, none, none, rfl, ?_, upd_same, ?_, List.mem_singleton.mpr rfl, ?_, Nat.zero_le _, ?_, rfl, fun x hx => by rw [List.mem_singleton.mp hx]; exact .base⟩, fun m σ' H' wv => ?_⟩
    · exact fun b o hb e => by rw [upd_ne hb]; exact e
    · exact List.nodup_cons.mpr ⟨List.not_mem_nil, List.nodup_nil⟩
    · intro x hx
      rw [List.mem_singleton] at hx
      rw [hx]
      exact hc
    · exact fun i a hi => absurd hi (Nat.not_lt_zero _)
    · obtain ⟨fd, d, y5, y6, rfl, bt, hF, nd, hcm, lt, hd, cl, hm, so⟩ := wv
      have h1 : fd.length ≤ Nb.length := by
        have z := K7E.nodup_le fd (List.range Nb.length) nd fun x hx => List.mem_range.mpr (lt x hx)
        rw [List.length_range] at z
        exact z
      refine ⟨_, rfl, _, rfl, F0, _, rfl, .inl (.inl (.inl hF)), _, _, rfl, rfl, _, rfl, ite2 (fun c1 => ?_) (fun c1 => ?_)⟩
      · have c1' : d < fd.length := by
          have z : ((d : Nat) : Int) < (((ints_ fd).length : Nat) : Int) := of_decide_eq_true c1
          rw [show (ints_ fd).length = fd.length from List.length_map ..] at z
          omega
        refine ⟨SpInv H nb pa F0 Nb ps c (m - 1), fun σ2 H2 z => ⟨m - 1, by omega, z⟩, ?_⟩
        obtain ⟨a, ea⟩ : ∃ a, fd[d]? = some a := ⟨_, List.getElem?_eq_getElem c1'⟩
        have ma := List.mem_of_getElem? ea
        have la := lt a ma
        obtain ⟨l, el⟩ : ∃ l, Nb[a]? = some l := ⟨_, List.getElem?_eq_getElem la⟩
        have ltsl : a < ts.length := by rw [tN.len]; exact la
        obtain ⟨t, et⟩ : ∃ t, ts[a]? = some t := ⟨_, List.getElem?_eq_getElem ltsl⟩
        obtain ⟨l', el', ht⟩ := tN.get et
        have : l' = l := by rw [el] at el'; injection el' with e; exact e.symm
        subst this
        have sm : Same H H' := fun b o hb => bt b o (ne_of_none hb nF) hb
        refine ⟨_, rfl, _, rfl, F0, _, _, .int (a : Nat), rfl, rfl, .inl (.inl hF), atI_nat (by unfold ints_; rw [List.getElem?_map, ea]; rfl), ?_⟩
        refine ⟨_, rfl, _, rfl, nb, _, _, .ref t, rfl, rfl, .inl (.inl (sm _ _ hnb)), atI_nat (by rw [List.getElem?_map, et]; rfl), t, rfl, ⟨_, .inl (.inl (sm _ _ ht))⟩, for_tup (xs := ints_ l') (fun j σ2 H2 => ∃ (fd2 r : List Nat) (y6 : Option V), σ2 = [some (.ref nb), some (.int (c : Nat)), some (.ref pa), some (.ref F0), some (.int (d : Nat)), some (.int (a : Nat)), y6] ∧ But F0 H H2 ∧ H2 F0 = some (.lst (ints_ fd2)) ∧ fd2.Nodup ∧ fd2 = fd ++ r ∧ (∀ x ∈ fd2, x < Nb.length) ∧ (∀ b ∈ l'.take j, b ∈ ps → b ∈ fd2) ∧ ∀ x ∈ fd2, KL.Rch (nbE Nb) ps c x)
          ⟨fd, [], y6, rfl, bt, hF, nd, (List.append_nil _).symm, lt, fun b hb => (by cases hb), so⟩ (fun j σ2 H2 _ pv => ?_) (fun j x σ2 H2 hx pv => ?_) (fun σ2 H2 pv => ?_)⟩
        · obtain ⟨fd2, r, y6, _, bt2, _⟩ := pv
          exact .inl (.inl (bt2 t _ (ne_of_none ht nF) ht))
        · obtain ⟨fd2, r, y6, rfl, bt2, hF2, nd2, rfl, lt2, cl2, so2⟩ := pv
          have sm2 : Same H H2 := fun b o hb => bt2 b o (ne_of_none hb nF) hb
          unfold ints_ at hx
          rw [List.getElem?_map] at hx
          obtain ⟨b, eb, rfl⟩ := Option.map_eq_some_iff.mp hx
          have hbl := hlt l' (List.mem_of_getElem? el) b (List.mem_of_getElem? eb)
          have tk : l'.take (j + 1) = l'.take j ++ [b] := by rw [List.take_add_one, eb]; rfl
          refine ⟨_, rfl, _, rfl, pa, _, rfl, (hpa.same sm2).sq, rfl, flat_ints ps, _, rfl, ite2 (fun q1 => ?_) (fun q1 => ?_)⟩
          · have q1' : b ∈ ps := of_decide_eq_true ((inV_ints b ps).symm.trans q1)
            refine ⟨_, rfl, _, rfl, F0, _, rfl, .inl (.inl (.inl hF2)), rfl, flat_ints _, _, rfl, ite2 (fun q2 => ?_) (fun q2 => ?_)⟩
            · have q2' : b ∉ fd ++ r := by
                intro hb2
                have z : (!inV (.int (b : Nat)) (ints_ (fd ++ r))) = true := q2
                rw [inV_ints, decide_eq_true hb2] at z
                cases z
              have hl2 : (fd ++ r).length ≤ 5 := by
                have z := K7E.nodup_le (fd ++ r) (List.range Nb.length) nd2 fun x hx => List.mem_range.mpr (lt2 x hx)
                rw [List.length_range] at z
                omega
              refine ⟨_, rfl, .inl ⟨rfl, _, .inl (.inl hF2)⟩, _, rfl, F0, _, _, rfl, rfl, hF2, by unfold ints_; rw [List.length_map]; exact small1000 (by omega), ?_⟩
              refine ⟨(fd ++ r) ++ [b], r ++ [b], some (.int (b : Nat)), rfl, fun b' o hb' e => by rw [upd_ne hb']; exact bt2 b' o hb' e, by rw [upd_same]; exact congrArg (fun z => some (HO.lst z)) (List.map_append (f := fun c : Nat => V.int (c : Nat)) (l₁ := fd ++ r) (l₂ := [b])).symm, ?_, List.append_assoc .., fun x hx => ?_, fun x hx hp => ?_, fun x hx => ?_⟩
              · exact List.nodup_append.mpr ⟨nd2, List.nodup_cons.mpr ⟨List.not_mem_nil, List.nodup_nil⟩, fun a' ha' b' hb' e => by rw [List.mem_singleton] at hb'; exact q2' (by rw [← hb', ← e]; exact ha')⟩
              · rcases List.mem_append.mp hx with hx | hx
                · exact lt2 x hx
                · rw [List.mem_singleton] at hx
                  rw [hx]
                  exact hbl
              · rw [tk] at hx
                rcases List.mem_append.mp hx with hx | hx
                · exact List.mem_append_left _ (cl2 x hx hp)
                · exact List.mem_append_right _ hx
              · rcases List.mem_append.mp hx with hx | hx
                · exact so2 x hx
                · rw [List.mem_singleton.mp hx]
                  exact .step (so a ma) ⟨_, el, List.mem_of_getElem? eb⟩ q1'
            · have q2' : b ∈ fd ++ r := by
                refine Classical.byContradiction fun hn => q2 ?_
                show (!inV (.int (b : Nat)) (ints_ (fd ++ r))) = true
                rw [inV_ints, decide_eq_false hn]
                rfl
              refine ⟨fd ++ r, r, some (.int (b : Nat)), rfl, bt2, hF2, nd2, rfl, lt2, fun x hx hp => ?_, so2⟩
              rw [tk] at hx
              rcases List.mem_append.mp hx with hx | hx
              · exact cl2 x hx hp
              · rw [List.mem_singleton] at hx
                rw [hx]
                exact q2'
          · have q1' : b ∉ ps := fun hb => q1 ((inV_ints b ps).trans (decide_eq_true hb))
            refine iteF ?_
            refine ⟨fd ++ r, r, some (.int (b : Nat)), rfl, bt2, hF2, nd2, rfl, lt2, fun x hx hp => ?_, so2⟩
            rw [tk] at hx
            rcases List.mem_append.mp hx with hx | hx
            · exact cl2 x hx hp
            · rw [List.mem_singleton] at hx
              rw [hx] at hp
              exact absurd hp q1'
        · obtain ⟨fd2, r, y6, rfl, bt2, hF2, nd2, rfl, lt2, cl2, so2⟩ := pv
          rw [show (ints_ l').length = l'.length from List.length_map .., List.take_length] at cl2
          refine ⟨_, rfl, _, _, rfl, rfl, ?_⟩
          refine ⟨fd ++ r, d + 1, some (.int (a : Nat)), y6, rfl, bt2, hF2, nd2, List.mem_append_left _ hcm, lt2, by rw [List.length_append]; omega, fun i a' hi ea' l2 el2 b hb hp => ?_, by omega, so2⟩
          rw [List.getElem?_append_left (by omega)] at ea'
          rcases Nat.lt_or_ge i d with hid | hid
          · exact List.mem_append_left _ (cl i a' hid ea' l2 el2 b hb hp)
          · have : i = d := by omega
            subst this
            rw [ea] at ea'
            injection ea' with e3
            subst e3
            rw [el] at el2
            injection el2 with e4
            subst e4
            exact cl2 b hb hp
      · have c1' : ¬ d < fd.length := fun z => c1 (decide_eq_true (by rw [show (ints_ fd).length = fd.length from List.length_map ..]; omega))
        refine ⟨_, rfl, q H' F0 fd (fun b o hb => bt b o (ne_of_none hb nF) hb) nF hF ⟨nd, hcm, lt, fun a ha l hl b hb hp => ?_, so⟩⟩
        obtain ⟨i, hi, e⟩ := List.getElem_of_mem ha
        exact cl i a (by omega) (by rw [List.getElem?_eq_getElem hi, e]) l hl b hb hp
end
end K7
end
/-! ## P8 -/
section
open PySem PySem.Spec PyProof.Rows L2
namespace K7
abbrev N_nearby_cells : List Str := ["cells", "couples", "b", "a"]
abbrev s_nearby_cells : Stmt := topS 18
theorem sc_nearby_cells : FnScope ["cells", "couples", "b", "a"] ["cells", "couples"] (defScope s_nearby_cells) := ⟨rfl, rfl, rfl, by decide +kernel, rfl, by decide +kernel, by decide +kernel⟩
abbrev scA : Scope := { kind := ScopeKind.function, names := [(".0", NameKind.local), ("a", NameKind.cell), ("tuple", NameKind.globalImplicit), ("range", NameKind.globalImplicit), ("cells", NameKind.cell), ("couples", NameKind.cell)], isGenerator := false, isCoroutine := false }
def rTup_ (K : PySem.W.Frag) : List V → Hp → VK → Prop := fun xs H Q => ∃ p ys, xs = [V.ref p] ∧ ((SqL K H p ys ∧ ∀ l, H l = none → Q (.ref l) (upd H l (.tup ys))) ∨ SqT K H p ys ∧ Q (.ref p) H)
section
variable {P : Program} {w : World} {K : PySem.W.Frag} {mg : Str → Option Value} {base : Heap}
/-- the neighbours of each cell -/
def nearV (n : Nat) (es : List (Nat × Nat)) : List (List Nat) := (List.range n).map fun a => (List.range n).filter fun b => decide ((a, b) ∈ es) || decide ((b, a) ∈ es)
theorem ints_snoc (l : List Nat) (j : Nat) : ints_ (l ++ [j]) = ints_ l ++ [.int (j : Nat)] := by
  unfold ints_
  rw [List.map_append]
  rfl
theorem range_filter (p : Nat → Bool) (j : Nat) : (List.range (j + 1)).filter p = (List.range j).filter p ++ (if p j = true then [j] else []) := by
  rw [List.range_succ, List.filter_append, List.filter_cons]
  rfl
theorem dp_two {H : Hp} (k j : Nat) : DpAll K H [.int (0 + (k : Nat)), .int (0 + (j : Nat))] [.int (k : Nat), .int (j : Nat)] := by
  rw [Int.zero_add, Int.zero_add]
  exact .cons (.int _) (.cons (.int _) .nil)
def spNear : Sp := fun vs H Q _ => ∃ (n : Nat) (ca : Addr) (ts : List Addr) (es : List (Nat × Nat)), vs = [.int n, .ref ca] ∧ n ≤ 5 ∧ H ca = some (.lst (ts.map V.ref)) ∧ TAt H ts (pairs es) ∧ es.length ≤ 32 ∧
  ∀ H' q us, Same H H' → H q = none → H' q = some (.tup (us.map V.ref)) → TAt H' us (nearV n es) → Q (.ref q) H'
theorem ok_near {f : Addr} {fd : FuncData} (F : Fun K "nearby_cells" "nearby_cells" s_nearby_cells f fd) (m_range : mg "range" = none) (m_tuple : mg "tuple" = none) : FnOk P w K mg base CX0 1 f fd ["cells", "couples"] spNear := by
  refine F.ok sc_nearby_cells (fun vs H Q E h => ?_) (fun cdv A outer s H vs Q E hr h => ?_)
  · obtain ⟨n, ca, ts, es, rfl, _⟩ := h
    rfl
  · obtain ⟨n, ca, ts, es, rfl, hn, hca, tE, h32, q⟩ := h
    refine ⟨_, (pss_one (ps_ret (pe_callTy call_tuple_of (by rfl) m_tuple boot_tuple (pa_cons (pe_lc (own := [("a", 3)]) (g := gName 3) (tt := tYes) rfl sc_nearby_cells.nd (pi_range1 rfl m_range (pa_cons (pv 0) pa_nil)) (blkOk_by (own := [("a", 3)]) (N := N_nearby_cells) (sc := defScope s_nearby_cells) (by decide +kernel)) (fun _ _ _ _ _ => (pg_name (i := 3) sc_nearby_cells.nd rfl (by first | exact Or.inl rfl | exact Or.inr rfl))) (fun _ _ _ _ _ => pts_nil) (fun _ _ _ _ _ => (pe_callTy (show CallR _ (.type "tuple") (rTup_ K) from call_tuple_of) (by rfl) m_tuple boot_tuple (pa_cons (pe_lc (own := [("b", 2)]) (g := gName 2) rfl sc_nearby_cells.nd (pi_range1 rfl m_range (pa_cons (pv 0) pa_nil)) (blkOk_by (own := [("b", 2)]) (N := N_nearby_cells) (sc := scA) (by decide +kernel)) (fun _ _ _ _ _ => (pg_name (i := 2) sc_nearby_cells.nd rfl (by first | exact Or.inl rfl | exact Or.inr rfl))) (fun _ _ _ _ _ => (pts_one (PW.pt (pw_or (pt_cmpR (show OpR _ _ (rInD K) from op_inD (K7L.hu65 hr)) (pe_tup (pa_cons (pv 3) (pa_cons (pv 2) pa_nil))) (pv 1) (by with_unfolding_all rfl)) (pw_or1 (pt_cmpR (show OpR _ _ (rInD K) from op_inD (K7L.hu65 hr)) (pe_tup (pa_cons (pv 2) (pa_cons (pv 3) pa_nil))) (pv 1) (by with_unfolding_all rfl))))))) (fun _ _ _ _ _ => (pv 2))) pa_nil)))) pa_nil)))), ?_⟩
    refine ⟨_, rfl, _, rfl, by omega, by omega, fun D hD => lc_range (lo := 0) (n := n) (fun i H1 => Same H H1 ∧ ∃ us : List Addr, H1 D = some (.lst (us.map V.ref)) ∧ TAt H1 us ((nearV n es).take i) ∧ us.length ≤ i) ⟨same_new (Same.refl H) hD, [], upd_same, .nil, Nat.le_refl _⟩ (fun i H1 hi pv => ?_) (fun H1 pv => ?_)⟩
    · obtain ⟨e1, us, hD1, tU, lu⟩ := pv
      refine ⟨rfl, _, rfl, _, rfl, by omega, by omega, fun D2 hD2 => lc_range (lo := 0) (n := n) (fun j H2 => Same H1 H2 ∧ H2 D2 = some (.lst (ints_ ((List.range j).filter fun b => decide ((i, b) ∈ es) || decide ((b, i) ∈ es))))) ⟨same_new (Same.refl H1) hD2, upd_same⟩ (fun j H2 hj pv => ?_) (fun H2 pv => ?_)⟩
      · obtain ⟨e2, h2⟩ := pv
        have eA := e1.trans e2
        refine ⟨rfl, _, rfl, _, rfl, by show 2 ≤ sizeLine; decide, fun t nt => ?_⟩
        have s3 := same_new (o := .tup [.int (0 + (i : Nat)), .int (0 + (j : Nat))]) (Same.refl H2) nt
        refine ⟨_, rfl, intD [i, j], _, .tup (xs := [.int (0 + (i : Nat)), .int (0 + (j : Nat))]) (.inl (.inl upd_same)) (dp_two i j), .lst (.inl (.inl (s3 _ _ (eA _ _ hca)))) (dp_rows (tE.same (eA.trans s3))), shaped_ints _, shaped_rows _, ?_⟩
        rw [any_rows]
        have e2b := e2
        refine ⟨_, rfl, ite2 (fun q1 => ?_) (fun q1 => ?_)⟩
        · have g : ∀ {b : Addr} {o : HO}, H2 b = some o → upd H2 t (.tup [.int (0 + (i : Nat)), .int (0 + (j : Nat))]) b = some o := fun hb => s3 _ _ hb
          refine ⟨_, rfl, _, g h2, by unfold ints_; rw [List.length_map]; exact small1000 (Nat.le_trans (List.length_filter_le _ _) (by rw [List.length_range]; omega)), fun b o hb => ?_, ?_⟩
          · rw [upd_ne (ne_of_none hb hD2)]
            exact g (e2 _ _ hb)
          · rw [upd_same, range_filter, if_pos (by rw [q1]; rfl), Int.zero_add]
            rw [ints_snoc]
        · refine ⟨_, rfl, _, rfl, by show 2 ≤ sizeLine; decide, fun t2 nt2 => ?_⟩
          have s4 := same_new (o := .tup [.int (0 + (j : Nat)), .int (0 + (i : Nat))]) s3 nt2
          refine ⟨_, rfl, intD [j, i], _, .tup (xs := [.int (0 + (j : Nat)), .int (0 + (i : Nat))]) (.inl (.inl upd_same)) (dp_two j i), .lst (.inl (.inl (s4 _ _ (eA _ _ hca)))) (dp_rows (tE.same (eA.trans s4))), shaped_ints _, shaped_rows _, ?_⟩
          rw [any_rows]
          refine ⟨_, rfl, ite2 (fun q2 => ?_) (fun q2 => ?_)⟩
          · refine ⟨_, rfl, _, s4 _ _ h2, by unfold ints_; rw [List.length_map]; exact small1000 (Nat.le_trans (List.length_filter_le _ _) (by rw [List.length_range]; omega)), fun b o hb => ?_, ?_⟩
            · rw [upd_ne (ne_of_none hb hD2)]
              exact s4 _ _ (e2 _ _ hb)
            · rw [upd_same, range_filter, if_pos (by rw [q2, Bool.or_true]), Int.zero_add]
              rw [ints_snoc]
          · refine ⟨e2.trans s4, ?_⟩
            rw [range_filter, if_neg (by rw [Bool.eq_false_iff.mpr q1, Bool.eq_false_iff.mpr q2]; decide), List.append_nil]
            exact s4 _ _ h2
      · obtain ⟨e2, h2⟩ := pv
        have eA := e1.trans e2
        refine ⟨D2, _, rfl, .inl ⟨.inl (.inl h2), fun l nl => ?_⟩⟩
        have s4 := same_new (o := .tup (ints_ ((List.range n).filter fun b => decide ((i, b) ∈ es) || decide ((b, i) ∈ es)))) (Same.refl H2) nl
        have hD4 := s4 _ _ (e2 _ _ hD1)
        have tk : (nearV n es).take (i + 1) = (nearV n es).take i ++ [(List.range n).filter fun b => decide ((i, b) ∈ es) || decide ((b, i) ∈ es)] := by
          rw [List.take_add_one]
          congr 1
          unfold nearV
          rw [List.getElem?_map, List.getElem?_range hi]
          rfl
        have up : ∀ b xs, upd H2 l (.tup (ints_ ((List.range n).filter fun b => decide ((i, b) ∈ es) || decide ((b, i) ∈ es)))) b = some (.tup xs) → upd (upd H2 l (.tup (ints_ ((List.range n).filter fun b => decide ((i, b) ∈ es) || decide ((b, i) ∈ es))))) D (.lst (us.map V.ref ++ [.ref l])) b = some (.tup xs) := fun b xs hb => by
          rw [upd_ne (fun z => by rw [z, hD4] at hb; cases hb)]
          exact hb
        refine ⟨_, hD4, by rw [List.length_map]; exact small1000 (by omega), fun b o hb => ?_, us ++ [l], by rw [upd_same, List.map_append]; rfl, ?_, by rw [List.length_append, List.length_singleton]; omega⟩
        · rw [upd_ne (ne_of_none hb hD)]
          exact s4 _ _ (eA _ _ hb)
        · rw [tk]
          exact ((tU.same (e2.trans s4)).mono up).append (.cons (up _ _ upd_same) .nil)
    · obtain ⟨e1, us, hD1, tU, lu⟩ := pv
      rw [List.take_of_length_le (by unfold nearV; rw [List.length_map, List.length_range]; exact Nat.le_refl _)] at tU
      refine ⟨D, _, rfl, .inl ⟨.inl (.inl hD1), fun l nl => ?_⟩⟩
      have s3 := same_new (o := .tup (us.map V.ref)) e1 nl
      refine q _ l us s3 (e1.free nl) upd_same (tU.same (same_new (Same.refl H1) nl))
end
end K7
end
/-! ## P9 -/
section
open PySem PySem.Spec PyProof.Rows L2
namespace K7
abbrev N_hang_together : List Str := ["cells", "couples"]
abbrev s_hang_together : Stmt := topS 19
theorem sc_hang_together : FnScope ["cells", "couples"] ["cells", "couples"] (defScope s_hang_together) := ⟨rfl, rfl, rfl, by decide +kernel, rfl, by decide +kernel, by decide +kernel⟩
section
variable {P : Program} {w : World} {K : PySem.W.Frag} {mg : Str → Option Value} {base : Heap}
def spHang : Sp := fun vs H Q _ => ∃ (n : Nat) (ca : Addr) (ts : List Addr) (es : List (Nat × Nat)), vs = [.int n, .ref ca] ∧ 0 < n ∧ n ≤ 5 ∧ H ca = some (.lst (ts.map V.ref)) ∧ TAt H ts (pairs es) ∧ es.length ≤ 32 ∧
  (∀ e ∈ es, e.1 < n ∧ e.2 < n) ∧ KL.Conn n es ∧ ∀ H', Same H H' → Q (.bl true) H'
theorem ok_hang {f fN fS : Addr} {fd fdN fdS : FuncData} (F : Fun K "hang_together" "hang_together" s_hang_together f fd)
    (Gnc : FnOk P w K mg base CX0 1 fN fdN ["cells", "couples"] spNear) (gnc : mg "nearby_cells" = some (.ref fN)) (knc : PySem.W.keepIn K (.ref fN) = true) (bnc : Binds K fdN ["cells", "couples"] [])
    (Gsp : FnOk P w K mg base CX0 1 fS fdS ["nearby", "cell", "passing"] spSpread) (gsp : mg "spread" = some (.ref fS)) (ksp : PySem.W.keepIn K (.ref fS) = true) (bsp : Binds K fdS ["nearby", "cell", "passing"] [])
    (m_len : mg "len" = none) (m_list : mg "list" = none) (m_range : mg "range" = none) : FnOk P w K mg base CX0 2 f fd ["cells", "couples"] spHang := by
  refine F.ok sc_hang_together (fun vs H Q E h => ?_) (fun cdv A outer s H vs Q E hr h => ?_)
  · obtain ⟨n, ca, ts, es, rfl, _⟩ := h
    rfl
  · obtain ⟨n, ca, ts, es, rfl, n0, hn, hca, tE, h32, elt, cn, q⟩ := h
    refine ⟨_, (pss_one (ps_ret (pe_cmpR op_eq (pe_callB call_len_seq (by rfl) m_len boot_len (pa_cons (pe_call Gsp (hr.mono (by decide)) (by rfl) gsp ksp bsp .nil pass0 (pa_cons (pe_call Gnc (hr.mono (by decide)) (by rfl) gnc knc bnc .nil pass0 (pa_cons (pv 0) (pa_cons (pv 1) pa_nil))) (pa_cons pe_int (pa_cons (pe_callTy (K7E.cr_list_rng rfl) (by rfl) m_list boot_list (pa_cons (pe_callTy K7E.cr_range1 (by rfl) m_range boot_range (pa_cons (pv 0) pa_nil)) pa_nil)) pa_nil)))) pa_nil)) (pv 0) (nomark _)))), ?_⟩
    refine ⟨_, rfl, _, rfl, n, ca, ts, es, rfl, hn, hca, tE, h32, fun H1 nb us e1 nf1 hnb tU => ?_⟩
    refine ⟨_, rfl, n, rfl, fun p1 np1 => ?_⟩
    refine ⟨p1, n, rfl, upd_same, by omega, fun p2 np2 => ?_⟩
    have s1 := same_new (o := .rng 0 n) (Same.refl H1) np1
    have s2 := same_new (o := .lst (K7E.upTo n)) s1 np2
    have hps : upd (upd H1 p1 (.rng 0 n)) p2 (.lst (K7E.upTo n)) p2 = some (.lst (ints_ (List.range n))) := upd_same
    generalize upd (upd H1 p1 (.rng 0 n)) p2 (.lst (K7E.upTo n)) = H2 at s2 hps ⊢
    have ln : (nearV n es).length = n := by unfold nearV; rw [List.length_map, List.length_range]
    have hget : ∀ a, a < n → (nearV n es)[a]? = some ((List.range n).filter fun b => decide ((a, b) ∈ es) || decide ((b, a) ∈ es)) := fun a ha => by
      unfold nearV
      rw [List.getElem?_map, List.getElem?_range ha]
      rfl
    refine ⟨nb, us, nearV n es, 0, p2, List.range n, rfl, s2 _ _ hnb, tU.same s2, .inr hps, by rw [ln]; exact hn, by rw [ln]; exact n0, fun l hl x hx => ?_, fun H3 qa fd e3 nq hq fo => ?_⟩
    · rw [ln]
      unfold nearV at hl
      obtain ⟨a, _, rfl⟩ := List.mem_map.mp hl
      exact List.mem_range.mp (List.mem_filter.mp hx).1
    · have hlt : ∀ x ∈ fd, x < n := fun x hx => by have z := fo.lt x hx; rw [ln] at z; exact z
      have all := KL.conn_closed cn fo.me fun a b hab ha => by
        have hb : b < n := by
          rcases hab with z | z
          · exact (elt _ z).2
          · exact (elt _ z).1
        refine fo.cl a ha _ (hget a (hlt a ha)) b (List.mem_filter.mpr ⟨List.mem_range.mpr hb, ?_⟩) (List.mem_range.mpr hb)
        rcases hab with z | z
        · rw [decide_eq_true z]; rfl
        · rw [decide_eq_true z, Bool.or_true]
      have len := KL.all_len fo.nd hlt all
      refine ⟨qa, _, rfl, .inl (.inl (.inl hq)), _, rfl, rfl, ?_⟩
      have lq : (ints_ fd).length = n := by unfold ints_; rw [List.length_map]; exact len
      rw [lq, decide_eq_true rfl]
      exact q H3 (e1.trans (s2.trans e3))
end
end K7
end
/-! ## ES -/
section
/-! A set comprehension of tuples of ints, and how many there are in such a set. -/
namespace K7S
open PySem PySem.Spec PyProof.Rows L2
abbrev eS (w : World) : Obj := { cls := .type "set", dict := none, data := .set #[] 0 (.fresh 0 0 (!w.params.followText "set-order")) }
abbrev eD : Obj := { cls := .type "dict", data := .dict #[] }
section
variable {X : Cx}
/-- one more tuple -/
theorem addT_ok {pins : List (Addr × Obj)} {τ : L2.St} {H : Hp} {s : Shared} {E : Value → Shared → Prop} {D t : Addr} {L : List (Addr × List Int)} {k : List Int} {Q : Value → Shared → Prop} (I : Inv X pins τ H s) (hD : H D = some (SetTO X.prog X.w D L)) (ht : ∀ p ∈ L, SqT X.K H p.1 (p.2.map V.int)) (hy : SqT X.K H t (k.map V.int)) (hf : L.length + 1 < 64) (hu : X.A.units + 1 < cLine)
    (h : ∀ s' L', (k ∈ L.map (·.2) → L' = L) → (k ∉ L.map (·.2) → L'.Perm ((t, k) :: L)) → Inv X pins τ (upd H D (SetTO X.prog X.w D L')) s' → Q .none s') : wpAny (model X.prog X.w) X.A (call (.builtin "set.add") [.ref D, .ref t]) Q E s := by
  obtain ⟨es, ep, tb, R⟩ := SetT0.full (I.hok D _ hD).1 fun p hp => I.isT (ht p hp)
  obtain ⟨o, ho, hex, hd⟩ := id R.ob
  have hT : s.TypeIs (.ref D) "set" := ⟨o, ho, hex.1⟩
  refine wpAny_call_entry F.slot_set_add hT F.entry_set_add ?_ (F.args_set_add_2 _ _)
  unfold Builtin.«set.add» Builtin.Frozenset.oneOther
  simp only [List.isEmpty_nil, bind_assoc]
  unfold Builtin.Frozenset.addrOf setAdd
  refine wpAny_bind (wpAny_pure ?_)
  try dsimp only
  refine wpAny_bind (wpAny_pure ?_)
  try dsimp only
  refine wpAny_bind (wpAny_holding (wpAny_bind (wpAny_pyHash_tuple (show X.A.units + 1 < cLine from hu) (I.isT hy) ?_)))
  refine add_at (s := { s with toks := s.toks + (k.length + 1) }) R (I.isT hy) (show X.A.units + 1 < cLine from hu) hf fun b h' L' es' ep' tb' sb R' c1 c2 => ?_
  show wpAny _ _ (ret Value.none) _ _ _
  obtain ⟨o', ho', _⟩ := id R'.ob
  exact wpAny_pure ⟨_, rfl, h _ L' c1 c2 (I.write (e := D) (t' := s.toks + (k.length + 1)) (by rw [hD]; trivial) (.inl rfl) (fun b u hb hu => (sb.2 b hb).trans hu) ⟨o', ho'⟩ (setTO_new R'.t0))⟩
/-- how many -/
theorem call_lenT : CallR X (.builtin "len") (fun xs H Q => ∃ a L, xs = [V.ref a] ∧ H a = some (SetTO X.prog X.w a L) ∧ (∀ p ∈ L, SqT X.K H p.1 (p.2.map V.int)) ∧ Q (.int (L.length : Nat)) H) := by
  intro pins s τ H xs us Q I r h
  obtain ⟨a, L, rfl, ha, ht, q⟩ := h
  rw [Vals.ref1 r]
  obtain ⟨es, ep, tb, R⟩ := SetT0.full (I.hok a _ ha).1 fun p hp => I.isT (ht p hp)
  obtain ⟨o, ho, hex, hd⟩ := id R.ob
  have n1 := R.size
  have n2 := R.few
  exact call_len_set ho hex hd R.fits (by omega) ⟨.int (L.length : Nat), H, I.tok _, ⟨_, by rw [n1]⟩, q⟩
/-- {elt for target in iter}, elt a tuple of ints: D the new set -/
def tSt (P : Program) (w : World) (K : PySem.W.Frag) (wi : TI) (g : TG) (te : TE) (vs : List Nat) : TE := fun τ H Q => wi τ H fun J H1 => ∀ D, H1 D = none → ∃ W : Nat → Nat → Hp → Prop, (∃ m, W 0 m (upd H1 D (SetTO P w D []))) ∧ ∀ i m H, W i m H →
  (J.stop i H ∧ Q (.ref D) H) ∨ (J.go i H ∧ ∃ Nx : Hp → Prop, (∀ H', Nx H' → ∃ m', m' < m ∧ W (i + 1) m' H') ∧ ∀ x H', J.yld i H x H' → g x (wipe τ vs) H' fun τ2 H3 => wipe τ2 vs = wipe τ vs ∧
    te τ2 H3 fun y H4 => ∃ (t : Addr) (k : List Int) (L : List (Addr × List Int)), y = .ref t ∧ SqT K H4 t (k.map V.int) ∧ H4 D = some (SetTO P w D L) ∧ (∀ p ∈ L, SqT K H4 p.1 (p.2.map V.int)) ∧ L.length + 1 < 64 ∧
      ∀ L', (k ∈ L.map (·.2) → L' = L) → (k ∉ L.map (·.2) → L'.Perm ((t, k) :: L)) → Nx (upd H4 D (SetTO P w D L')))
theorem fresh0 (P : Program) (w : World) (h : Heap) : SetT0 P w (h.push (eS w)) h.objs.size [] := (setTR_fresh (P := P) (w := w) (h := h.push (eS w)) (a := h.objs.size) (Heap.get?_push_size _ rfl)).t0
/-- as a value -/
theorem pe_st {elt tg iter : Expr} {scope : Scope} {own : List (PySem.Str × Nat)} {pos : Pos} {wi : TI} {g : TG} {te : TE} (hc : X.calm = true) (hu : X.A.units + 1 < cLine) (hN : X.N.Nodup) (hi : PI X tg iter wi) (ok : BlkOk X.N X.env.scope scope own)
    (hg : ∀ (s : Shared) (H : Hp) (C : Addr) (cl : List (PySem.Str × Addr)) (fp : List Addr), PG (X.blk s H scope (compEnvC scope cl C X.env) fp) tg g) (he : ∀ (s : Shared) (H : Hp) (C : Addr) (cl : List (PySem.Str × Addr)) (fp : List Addr), PE (X.blk s H scope (compEnvC scope cl C X.env) fp) elt te)
    (hs : ∀ x, foldedSetIterable iter X.env x = pure x := by intro _; rfl) : PE X (.SetComp elt [⟨tg, iter, [], 0⟩] scope pos) (tSt X.prog X.w X.K wi g te (own.map (·.2))) := by
  refine ⟨fun pins s τ H Q I h => ?_⟩
  rw [PpSet.eval_SetComp]
  have hfree : ∀ z ∈ scope.names, z.2 = .free → ∃ c, X.env.cells.lookup z.1 = some c := fun z hz e => (ok.free z hz e).elim (fun k => I.ok.has _ (.inl k)) fun k => I.ok.has _ (.inr k)
  refine wpAny_comprehension_free (use := none) rfl hs (closure_ok hfree) ok.kind (fun z hz e => by rw [ok.uniq z hz, e]) (thn (hi.run pins s τ H _ I h) fun xv s1 hx => thn hx fun itv s2 z2 => ?_)
  obtain ⟨it, fp, tn, J, H2, rfl, I2, T, st2, f2, q⟩ := z2
  refine PpSet.newSet_ok (newEnv_comp ?_)
  show codeAny _ _ (.compStart (.SetComp elt [⟨tg, iter, [], 0⟩] scope pos) 0 (.ref it) (.ref s2.heap.objs.size) (compEnvC scope (cellsFrom ((s2.heap.push (eS X.w)).objs.size + 1) scope.names (cloFrom X.env.cells scope.names [])) (s2.heap.push (eS X.w)).objs.size X.env)) _ { s2 with heap := pushCells ((s2.heap.push (eS X.w)).push eD) scope.names }
  have nD : H2 s2.heap.objs.size = none := I2.hok.fresh (Nat.le_refl _)
  have IS : Inv X pins τ (upd H2 s2.heap.objs.size (SetTO X.prog X.w s2.heap.objs.size [])) { s2 with heap := s2.heap.push (eS X.w) } := I2.laid (t' := s2.toks) (fun b o e => Heap.get?_push_of_some _ e) (Nat.le_refl _) (setTO_new (fresh0 _ _ _))
  have stS : tn 0 (s2.heap.push (eS X.w)) := T.keep _ _ _ st2 fun b _ o e => Heap.get?_push_of_some _ e
  have fS : ∀ b ∈ fp, FpOk X pins (upd H2 s2.heap.objs.size (SetTO X.prog X.w s2.heap.objs.size [])) b ∧ b < (s2.heap.push (eS X.w)).objs.size := fun b hb => by
    obtain ⟨o, e, _⟩ := T.obj _ _ st2 b hb
    have l1 := Heap.lt_size e
    exact ⟨⟨by rw [upd_ne (Nat.ne_of_lt l1)]; exact (f2 b hb).1, (f2 b hb).2⟩, by rw [Heap.size_push]; exact Nat.lt_succ_of_lt l1⟩
  obtain ⟨W, ⟨m0, w0⟩, turn⟩ := q _ nD
  have IB := block_start IS ok hN fS
  have stB : tn 0 (pushCells ((s2.heap.push (eS X.w)).push eD) scope.names) := T.keep _ _ _ stS fun b _ o e => pushCells_keeps _ _ _ _ (Heap.get?_push_of_some _ e)
  generalize s2.heap.objs.size = D at *
  generalize upd H2 D (SetTO X.prog X.w D []) = HS at IS IB w0 fS
  generalize eS3 : ({ s2 with heap := s2.heap.push (eS X.w) } : Shared) = s3 at IS IB
  have e3 : s2.heap.push (eS X.w) = s3.heap := by rw [← eS3]
  rw [e3] at fS stS stB ⊢
  have e4 : ({ s2 with heap := pushCells (s3.heap.push eD) scope.names } : Shared) = { s3 with heap := pushCells (s3.heap.push eD) scope.names } := by rw [← eS3]
  rw [e4]
  have pg := hg s3 HS s3.heap.objs.size (cellsFrom (s3.heap.objs.size + 1) scope.names (cloFrom X.env.cells scope.names [])) fp
  have pe := he s3 HS s3.heap.objs.size (cellsFrom (s3.heap.objs.size + 1) scope.names (cloFrom X.env.cells scope.names [])) fp
  generalize hce : compEnvC scope (cellsFrom (s3.heap.objs.size + 1) scope.names (cloFrom X.env.cells scope.names [])) s3.heap.objs.size X.env = ce at IB pg pe ⊢
  have cL : ce.locals = s3.heap.objs.size := by rw [← hce]; rfl
  generalize hs4 : ({ s3 with heap := pushCells (s3.heap.push eD) scope.names } : Shared) = s4 at IB ⊢
  have st4 : tn 0 s4.heap := by rw [← hs4]; exact stB
  have nf : ∀ b ∈ fp, HS b = none := fun b hb => (fS b hb).1.1
  have stat : ∀ {τ' : L2.St} {H' : Hp} {s' : Shared}, Inv (X.blk s3 HS scope ce fp) [] τ' H' s' → (∀ b ∈ fp, H' b = none) → ∀ b ∈ fp, FpOk (X.blk s3 HS scope ce fp) [] H' b := fun {τ' H' s'} I' hn b hb =>
    ⟨hn b hb, (I'.ok.exf b hb).1, I'.ok.exfs b hb, .inl hb, fun x c e => (I'.ok.exf b hb).2 x c e, fun p hp => absurd (show p ∈ ([] : List (Addr × Obj)) ++ [] from hp) (by simp)⟩
  suffices loop : codeAny (model X.prog X.w) X.A (.compLoop (.SetComp elt [⟨tg, iter, [], 0⟩] scope pos) 0 (.ref it) (.ref D) ce) (compPost (model X.prog X.w) X.A X.xe none (EP X pins τ Q) (.ref D) s3.heap.objs.size) s4 from PpSet.codeAny_compStart_set loop (T.self X.A 0 _ _ _ st4 loop)
  refine PpSet.compLoopS_any (fun n s' => ∃ i H', Inv (X.blk s3 HS scope ce fp) [] (wipe τ (own.map (·.2))) H' s' ∧ tn i s'.heap ∧ (∀ b ∈ fp, H' b = none) ∧ W i n H') (fun n s5 z5 => ?_) m0 ⟨0, HS, IB, st4, nf, w0⟩
  obtain ⟨i, H5, I5, st5, n5, w5⟩ := z5
  rcases turn i n H5 w5 with ⟨stop, qq⟩ | ⟨go, Nx, hNx, step⟩
  · refine thnF (T.done (X.blk s3 HS scope ce fp) rfl rfl rfl hc i [] s5 _ H5 (fun _ _ => False) I5 (stat I5 n5) st5 stop) fun r s6 ⟨hr, I6⟩ => ?_
    subst hr
    have I7 : Inv X pins τ H5 s6 := IS.call' (ch := fp) I6.os I6.base I6.hok I6.bare fun b hb => ⟨(fS b hb).1.2.2.2.1, (fS b hb).1.2.1, (fS b hb).1.2.2.2.2.1, (fS b hb).1.2.2.2.2.2⟩
    have nC : H5 s3.heap.objs.size = none := by rw [← cL]; exact I6.free
    obtain ⟨m, hn, _⟩ := I6.loc
    have hn : s6.heap.Ns s3.heap.objs.size m := by rw [← cL]; exact hn
    obtain ⟨f0, f1, f2', f3, f4, f5⟩ := IS.fpOk (Nat.le_refl _) nC
    exact ⟨m, hn, fun h'' sb => ⟨.ref D, H5, I7.turned (t' := s6.toks) (fun b o hb e => (sb.2 b hb).trans e) f0 f1 f3 f4 f5, rfl, qq⟩⟩
  · refine thnF (T.item (X.blk s3 HS scope ce fp) rfl rfl rfl hc i [] s5 _ H5 (fun _ _ => False) I5 (stat I5 n5) st5 go) fun r s6 ⟨u, hr, h6⟩ => ?_
    subst hr
    refine thnF h6 fun _ s7 ⟨x, H7, I7, r7, y7, st7, n7⟩ => ?_
    refine thnF (pg.run _ s7 _ H7 x u _ (I7.pinned (stat I7 n7) (T.obj _ _ st7)) r7 (step x H7 y7)) fun _ s8 ⟨τ8, H8, I8, hw8, q8⟩ => ?_
    refine wpAny_tests_nil ?_
    rw [if_pos rfl]
    refine thnF (pe.run _ s8 τ8 H8 _ I8 q8) fun z s10 ⟨yv, H10, I10, r10, t, k, L, ey, hy, hD10, hL, hlt, nx⟩ => ?_
    subst ey
    cases (show z = Value.ref t from r10)
    refine addT_ok (X := X.blk s3 HS scope ce fp) I10 hD10 hL hy hlt hu fun s11 L' c1 c2 I11 => ?_
    obtain ⟨m', hm, w'⟩ := hNx _ (nx L' c1 c2)
    have pin' : ∀ b ∈ fp, ∀ o, s7.heap.get? b = some o → s11.heap.get? b = some o ∧ (upd H10 D (SetTO X.prog X.w D L')) b = none := fun b hb o e =>
      let z := I11.pin (b, o) (List.mem_append_right _ (List.mem_append_right _ (mem_pinsAt hb e)))
      ⟨z.1, z.2.1⟩
    refine ⟨m', hm, i + 1, _, (I11.unpinned (pins := [])).weak (by rw [← hw8, wipe_length]) (fun j v e => (wipe_some (by rw [hw8]; exact e)).1), T.keep _ _ _ st7 fun b hb o e => (pin' b hb o e).1, fun b hb => ?_, w'⟩
    obtain ⟨o, e, _⟩ := T.obj _ _ st7 b hb
    exact (pin' b hb o e).2
/-- over a list that the block leaves as it is -/
theorem st_list {P : Program} {w : World} {K : PySem.W.Frag} {a : Addr} {xs : List V} {g : TG} {te : TE} {vs : List Nat} {τ : L2.St} {H1 : Hp} {D : Addr} {Qd : Hp → Prop} (Pv : Nat → Hp → Prop) (h0 : Pv 0 (upd H1 D (SetTO P w D []))) (hl : ∀ i H, i ≤ xs.length → Pv i H → SqL K H a xs)
    (hs : ∀ i x H, xs[i]? = some x → Pv i H → g x (wipe τ vs) H fun τ2 H3 => wipe τ2 vs = wipe τ vs ∧
      te τ2 H3 fun y H4 => ∃ (t : Addr) (k : List Int) (L : List (Addr × List Int)), y = .ref t ∧ SqT K H4 t (k.map V.int) ∧ H4 D = some (SetTO P w D L) ∧ (∀ p ∈ L, SqT K H4 p.1 (p.2.map V.int)) ∧ L.length + 1 < 64 ∧
      ∀ L', (k ∈ L.map (·.2) → L' = L) → (k ∉ L.map (·.2) → L'.Perm ((t, k) :: L)) → Pv (i + 1) (upd H4 D (SetTO P w D L'))) (hd : ∀ H, Pv xs.length H → Qd H) :
    ∃ W : Nat → Nat → Hp → Prop, (∃ m, W 0 m (upd H1 D (SetTO P w D []))) ∧ ∀ i m H, W i m H →
      ((Itl K a).stop i H ∧ Qd H) ∨ ((Itl K a).go i H ∧ ∃ Nx : Hp → Prop, (∀ H', Nx H' → ∃ m', m' < m ∧ W (i + 1) m' H') ∧ ∀ x H', (Itl K a).yld i H x H' → g x (wipe τ vs) H' fun τ2 H3 => wipe τ2 vs = wipe τ vs ∧
        te τ2 H3 fun y H4 => ∃ (t : Addr) (k : List Int) (L : List (Addr × List Int)), y = .ref t ∧ SqT K H4 t (k.map V.int) ∧ H4 D = some (SetTO P w D L) ∧ (∀ p ∈ L, SqT K H4 p.1 (p.2.map V.int)) ∧ L.length + 1 < 64 ∧
      ∀ L', (k ∈ L.map (·.2) → L' = L) → (k ∉ L.map (·.2) → L'.Perm ((t, k) :: L)) → Nx (upd H4 D (SetTO P w D L'))) := by
  refine ⟨fun i m H => m + i = xs.length ∧ Pv i H, ⟨xs.length, rfl, h0⟩, fun i m H z => ?_⟩
  obtain ⟨hm, p⟩ := z
  have q := hl i H (by omega) p
  rcases Nat.lt_or_ge i xs.length with lt | ge
  · refine .inr ⟨⟨xs, xs[i], q, List.getElem?_eq_getElem lt⟩, Pv (i + 1), fun H' p' => ⟨m - 1, by omega, by omega, p'⟩, fun x H' y => ?_⟩
    obtain ⟨rfl, y⟩ := y
    exact hs i x _ (y xs q) p
  · obtain rfl : i = xs.length := by omega
    exact .inl ⟨⟨xs, q, Nat.le_refl _⟩, hd H p⟩
/-- over a tuple that the block leaves as it is -/
theorem st_tup {P : Program} {w : World} {K : PySem.W.Frag} {a : Addr} {xs : List V} {g : TG} {te : TE} {vs : List Nat} {τ : L2.St} {H1 : Hp} {D : Addr} {Qd : Hp → Prop} (Pv : Nat → Hp → Prop) (h0 : Pv 0 (upd H1 D (SetTO P w D []))) (hl : ∀ i H, i ≤ xs.length → Pv i H → SqT K H a xs)
    (hs : ∀ i x H, xs[i]? = some x → Pv i H → g x (wipe τ vs) H fun τ2 H3 => wipe τ2 vs = wipe τ vs ∧
      te τ2 H3 fun y H4 => ∃ (t : Addr) (k : List Int) (L : List (Addr × List Int)), y = .ref t ∧ SqT K H4 t (k.map V.int) ∧ H4 D = some (SetTO P w D L) ∧ (∀ p ∈ L, SqT K H4 p.1 (p.2.map V.int)) ∧ L.length + 1 < 64 ∧
      ∀ L', (k ∈ L.map (·.2) → L' = L) → (k ∉ L.map (·.2) → L'.Perm ((t, k) :: L)) → Pv (i + 1) (upd H4 D (SetTO P w D L'))) (hd : ∀ H, Pv xs.length H → Qd H) :
    ∃ W : Nat → Nat → Hp → Prop, (∃ m, W 0 m (upd H1 D (SetTO P w D []))) ∧ ∀ i m H, W i m H →
      ((Itt K a).stop i H ∧ Qd H) ∨ ((Itt K a).go i H ∧ ∃ Nx : Hp → Prop, (∀ H', Nx H' → ∃ m', m' < m ∧ W (i + 1) m' H') ∧ ∀ x H', (Itt K a).yld i H x H' → g x (wipe τ vs) H' fun τ2 H3 => wipe τ2 vs = wipe τ vs ∧
        te τ2 H3 fun y H4 => ∃ (t : Addr) (k : List Int) (L : List (Addr × List Int)), y = .ref t ∧ SqT K H4 t (k.map V.int) ∧ H4 D = some (SetTO P w D L) ∧ (∀ p ∈ L, SqT K H4 p.1 (p.2.map V.int)) ∧ L.length + 1 < 64 ∧
      ∀ L', (k ∈ L.map (·.2) → L' = L) → (k ∉ L.map (·.2) → L'.Perm ((t, k) :: L)) → Nx (upd H4 D (SetTO P w D L'))) := by
  refine ⟨fun i m H => m + i = xs.length ∧ Pv i H, ⟨xs.length, rfl, h0⟩, fun i m H z => ?_⟩
  obtain ⟨hm, p⟩ := z
  have q := hl i H (by omega) p
  rcases Nat.lt_or_ge i xs.length with lt | ge
  · refine .inr ⟨⟨xs, xs[i], q, List.getElem?_eq_getElem lt⟩, Pv (i + 1), fun H' p' => ⟨m - 1, by omega, by omega, p'⟩, fun x H' y => ?_⟩
    obtain ⟨rfl, y⟩ := y
    exact hs i x _ (y xs q) p
  · obtain rfl : i = xs.length := by omega
    exact .inl ⟨⟨xs, q, Nat.le_refl _⟩, hd H p⟩
theorem hu1 {k : Nat} {A : Around} (hr : Room k A) : A.units + 1 < cLine := by have := hr.un; omega
end
end K7S
end
/-! ## ET -/
section
/-! sorted of a tuple, or of a list, of ints. -/
namespace K7S
open PySem PySem.Spec PyProof.Rows L2
section
variable {X : Cx}
def rSortA (K : PySem.W.Frag) : List V → Hp → VK → Prop := fun vs H Q => ∃ (a : Addr) (ns : List Int), vs = [V.ref a] ∧ (SqL K H a (ns.map V.int) ∨ SqT K H a (ns.map V.int)) ∧ ns.length < 64 ∧ ∀ (ms : List Int) (p : Addr), ms.Perm ns → ms.Pairwise (· ≤ ·) → H p = none → Q (.ref p) (upd H p (.lst (ms.map V.int)))
theorem cr_sortA : CallR X (.builtin "sorted") (rSortA X.K) := by
  intro pins s τ H vs us Q I r h
  obtain ⟨a, ns, rfl, hs, h64, q⟩ := h
  rw [Vals.ref1 r]
  have got : ∃ (its : List Value) (o : Obj) (n : Nat) (T : String), Vals (ns.map V.int) its ∧ (T = "list" ∨ T = "tuple") ∧ s.heap.get? a = some o ∧ o.cls = .type T ∧ o.data = .seq its.toArray n := by
    rcases hs with z | z
    · obtain ⟨its, rv, pl, _⟩ := I.list z
      obtain ⟨o, ho, hc, n, hd⟩ := pl.isList
      exact ⟨its, o, n, "list", rv, .inl rfl, ho, hc, hd⟩
    · obtain ⟨its, rv, ⟨o, ho, hc, n, hd⟩, _⟩ := I.tuple z
      exact ⟨its, o, n, "tuple", rv, .inr rfl, ho, hc, hd⟩
  obtain ⟨its, o, n, T, rv, hT, ho, hc, hd⟩ := got
  have hi := rv.ints
  have h64' : its.length < 64 := by rw [hi.length]; exact h64
  refine Calls.call_function_entry kind_sorted plain_sorted entry_sorted (args_sorted1 _) ?_
  unfold Builtin.«sorted»
  refine wpAny_bind (m := checkCount "sorted" 1 1 _) (wpAny_pure (wpAny_bind (wpAny_collect_seq a hT ho hc hd (fun h' kp => ?_) (by rw [List.size_toArray, sizeLine_eq]; omega))))
  have hoL : (h'.push (seqObj "list" its.toArray 0)).get? h'.objs.size = some (seqObj "list" its.toArray 0) := Heap.get?_push_size _ rfl
  refine wpAny_bind (wpAny_newList ?_ (by rw [sizeLine_eq]; show its.length ≤ _; omega))
  show wpAny _ _ _ _ _ { s with heap := h'.push (seqObj "list" its.toArray 0) }
  refine wpAny_bind (wpAny_holding (wpAny_call_entry slot_list_sort ⟨_, hoL, rfl⟩ entry_list_sort (list_sort_tree hoL hi h64' fun out ms a1 a2 a3 => ⟨_, rfl, wpAny_pure ⟨_, rfl, ?_⟩⟩) (args_list_sort _)))
  obtain ⟨e, he⟩ := sortedHeap_at (vs := its) (out := out) hoL
  have hlen : (ms.map V.int).length ≤ sizeLine := by rw [List.length_map, a2.length_eq]; exact small64 h64
  have I1 : Inv X pins τ H { s with heap := h' } := I.kept (t' := s.toks) kp
  refine ⟨.ref h'.objs.size, upd H h'.objs.size (.lst (ms.map V.int)), I1.laid (t' := s.toks) (fun b u hb => ?_) (Nat.le_refl _) ⟨hlen, out.toList, e, vals_of_ints a1, he⟩, rfl, q ms _ a2 a3 (I1.hok.fresh (Nat.le_refl _))⟩
  have lt := Heap.lt_size hb
  exact (sortedHeap_old (Nat.ne_of_lt lt) (by rw [size_push']; exact Nat.lt_succ_of_lt lt)).trans (Heap.get?_push_of_some _ hb)
end
end K7S
end
/-! ## P10 -/
section
open PySem PySem.Spec PyProof.Rows L2
namespace K7
abbrev N__are_neighbours : List Str := ["cells", "thing", "couple"]
abbrev s__are_neighbours : Stmt := topS 20
theorem sc__are_neighbours : FnScope ["cells", "thing", "couple"] ["cells", "thing"] (defScope s__are_neighbours) := ⟨rfl, rfl, rfl, by decide +kernel, rfl, by decide +kernel, by decide +kernel⟩
section
variable {P : Program} {w : World} {K : PySem.W.Frag} {mg : Str → Option Value} {base : Heap}
/-! ### couples that are handed in: rows of two cells, either way round, tuples or lists -/
theorem SqOf.ty {H : Hp} {a : Addr} {xs : List V} (h : SqOf H a xs) : ∃ t : String, (∀ H1, Same H H1 → TyX K H1 (.ref a) (.type t)) ∧ PySem.W.kitAny K (.type t) [.type "list", .type "tuple"] = some true := by
  rcases h with z | z
  · exact ⟨"tuple", fun H1 e1 => .base (.tup (e1 _ _ z)), any_tup⟩
  · exact ⟨"list", fun H1 e1 => .base (.lst (e1 _ _ z)), any_lst⟩
def CoAt (H : Hp) (t : Addr) (c : Nat × Nat) : Prop := SqOf H t (ints_ [c.1, c.2])
def CoAll (H : Hp) (ts : List Addr) (cs : List (Nat × Nat)) : Prop := ts.length = cs.length ∧ ∀ (i : Nat) t c, ts[i]? = some t → cs[i]? = some c → CoAt H t c
theorem CoAll.same {H H' : Hp} {ts : List Addr} {cs : List (Nat × Nat)} (h : CoAll H ts cs) (e : Same H H') : CoAll H' ts cs := ⟨h.1, fun i t c h1 h2 => (h.2 i t c h1 h2).same e⟩
structure Cos (n : Nat) (cs : List (Nat × Nat)) : Prop where
  lt : ∀ c ∈ cs, c.1 < n ∧ c.2 < n ∧ c.1 ≠ c.2
  nd : (cs.map KL.srt).Nodup
  len : cs.length ≤ 32
theorem two_co {n : Nat} {c : Nat × Nat} (h : c.1 < n ∧ c.2 < n ∧ c.1 ≠ c.2) : twoV (n : Nat) (ints_ [c.1, c.2]) = true := by
  obtain ⟨h1, h2, h3⟩ := h
  unfold twoV cellsV
  have e1 : wholeV (.int (c.1 : Nat)) 0 (((n : Nat) : Int) - 1) = true := by rw [wholeV_int, decide_eq_true (by omega), decide_eq_true (by omega)]; rfl
  have e2 : wholeV (.int (c.2 : Nat)) 0 (((n : Nat) : Int) - 1) = true := by rw [wholeV_int, decide_eq_true (by omega), decide_eq_true (by omega)]; rfl
  have e3 : (ints_ [c.1, c.2]).all (fun x => wholeV x 0 (((n : Nat) : Int) - 1)) = true := by
    show (wholeV (.int (c.1 : Nat)) 0 (((n : Nat) : Int) - 1) && (wholeV (.int (c.2 : Nat)) 0 (((n : Nat) : Int) - 1) && true)) = true
    rw [e1, e2]; rfl
  have e4 : ((ints_ [c.1, c.2]).map intOf).Nodup := by
    show [((c.1 : Nat) : Int), ((c.2 : Nat) : Int)].Nodup
    refine List.nodup_cons.mpr ⟨fun m => ?_, List.nodup_cons.mpr ⟨List.not_mem_nil, List.nodup_nil⟩⟩
    rw [List.mem_singleton] at m
    omega
  rw [e3, decide_eq_true e4, decide_eq_true (show (2 : Int) ≤ (((ints_ [c.1, c.2]).length : Nat) : Int) from (by decide : (2 : Int) ≤ ((2 : Nat) : Int))), decide_eq_true (show (ints_ [c.1, c.2]).length = 2 from rfl)]
  rfl
def keyOf (c : Nat × Nat) : List Int := [((KL.srt c).1 : Int), ((KL.srt c).2 : Int)]
theorem keyOf_inj {c d : Nat × Nat} (h : keyOf c = keyOf d) : KL.srt c = KL.srt d := by
  unfold keyOf at h
  injection h with h1 h2
  injection h2 with h2
  exact Prod.ext (by omega) (by omega)
theorem keys_nd {cs : List (Nat × Nat)} (h : (cs.map KL.srt).Nodup) : (cs.map keyOf).Nodup := by
  induction cs with
  | nil => exact List.nodup_nil
  | cons c cs ih =>
    rw [List.map_cons, List.nodup_cons] at h
    rw [List.map_cons, List.nodup_cons]
    refine ⟨fun m => ?_, ih h.2⟩
    obtain ⟨d, hd, e⟩ := List.mem_map.mp m
    exact h.1 (List.mem_map.mpr ⟨d, hd, keyOf_inj e⟩)
theorem key_ints (c : Nat × Nat) : (keyOf c).map V.int = ints_ [(KL.srt c).1, (KL.srt c).2] := rfl
def spNbrs : Sp := fun vs H Q _ => ∃ (n : Nat) (a : Addr) (ts : List Addr) (cs : List (Nat × Nat)), vs = [.int (n : Nat), .ref a] ∧ SqOf H a (ts.map V.ref) ∧ CoAll H ts cs ∧ Cos n cs ∧ ∀ H', Same H H' → Q (.bl true) H'
theorem ok_nbrs {f fS fT : Addr} {fd fdS fdT : FuncData} (F : Fun K "_are_neighbours" "_are_neighbours" s__are_neighbours f fd)
    (Gsq : FnOk P w K mg base CX0 1 fS fdS ["thing"] (spSeq K)) (gsq : mg "is_sequence" = some (.ref fS)) (ksq : PySem.W.keepIn K (.ref fS) = true) (bsq : Binds K fdS ["thing"] [])
    (Ga2 : FnOk P w K mg base CX0 3 fT fdT ["many", "thing"] (spTwo K)) (ga2 : mg "are_two_cells" = some (.ref fT)) (ka2 : PySem.W.keepIn K (.ref fT) = true) (ba2 : Binds K fdT ["many", "thing"] [])
    (m_len : mg "len" = none) (m_all : mg "all" = none) (m_tuple : mg "tuple" = none) (m_sorted : mg "sorted" = none) : FnOk P w K mg base CX0 4 f fd ["cells", "thing"] spNbrs := by
  refine F.ok sc__are_neighbours (fun vs H Q E h => ?_) (fun cdv A outer s H vs Q E hr h => ?_)
  · obtain ⟨n, a, ts, cs, rfl, _⟩ := h
    rfl
  · obtain ⟨n, a, ts, cs, rfl, ha, hT, hc, q⟩ := h
    refine ⟨_, (pss_cons (ps_if (pw_or (pt_not (pt_val (pe_call Gsq (hr.mono (by decide)) (by rfl) gsq ksq bsq .nil pass0 (pa_cons (pv 1) pa_nil)))) (pw_or1 (pt_not (pt_val (pe_callB (cr_all rfl) (by rfl) m_all boot_all (pa_cons (pe_lc (own := [("couple", 2)]) (g := gName 2) (tt := tYes) rfl sc__are_neighbours.nd (K7E.pi_either (pi_tup (pv 1)) (pi_list (pv 1))) (blkOk_by (own := [("couple", 2)]) (N := N__are_neighbours) (sc := defScope s__are_neighbours) (by decide +kernel)) (fun _ _ _ _ _ => (pg_name (i := 2) sc__are_neighbours.nd rfl (by first | exact Or.inl rfl | exact Or.inr rfl))) (fun _ _ _ _ _ => pts_nil) (fun _ _ _ _ _ => (pe_call Ga2 (hr.mono (by decide)) (by rfl) ga2 ka2 ba2 .nil pass0 (pa_cons (pv 0) (pa_cons (pv 2) pa_nil))))) pa_nil)))))).pt
  (pss_one (ps_ret pe_bl))
  pss_nil)
 (pss_one (ps_ret (pe_cmpR op_eq (pe_callB K7S.call_lenT (by rfl) m_len boot_len (pa_cons (K7S.pe_st (own := [("couple", 2)]) (g := gName 2) rfl (K7S.hu1 hr) sc__are_neighbours.nd (K7E.pi_either (pi_tup (pv 1)) (pi_list (pv 1))) (blkOk_by (own := [("couple", 2)]) (N := N__are_neighbours) (sc := defScope s__are_neighbours) (by decide +kernel)) (fun _ _ _ _ _ => (pg_name (i := 2) sc__are_neighbours.nd rfl (by first | exact Or.inl rfl | exact Or.inr rfl))) (fun _ _ _ _ _ => (pe_callTy (show CallR _ (.type "tuple") (rTup_ K) from call_tuple_of) (by rfl) m_tuple boot_tuple (pa_cons (pe_callB (show CallR _ (.builtin "sorted") (K7S.rSortA K) from K7S.cr_sortA) (by rfl) m_sorted boot_sorted (pa_cons (pv 2) pa_nil)) pa_nil)))) pa_nil)) (pe_callB call_len_seq (by rfl) m_len boot_len (pa_cons (pv 1) pa_nil)) (nomark _))))), ?_⟩
    obtain ⟨t, ty, kk⟩ := ha.ty (K := K)
    have hl : ts.length = cs.length := hT.1
    have h32 := hc.len
    refine ⟨_, rfl, _, t, true, rfl, ty, kk, fun H1 e1 => ⟨_, rfl, ?_⟩⟩
    have ha1 := ha.same e1
    have hT1 := hT.same e1
    -- the second half: the set, behind any heap
    have half : ∀ H2, Same H1 H2 → ∀ D, H2 D = none → ∀ (j : Nat) (x : V) (H3 : Hp), (ts.map V.ref)[j]? = some x → (Same H2 H3 ∧ ∃ L : List (Addr × List Int), H3 D = some (SetTO P w D L) ∧ (∀ p ∈ L, H3 p.1 = some (.tup (p.2.map V.int))) ∧ (L.map (·.2)).Perm ((cs.take j).map keyOf)) →
        ∃ c t', x = .ref t' ∧ cs[j]? = some c ∧ CoAt H3 t' c ∧ keyOf c ∉ (cs.take j).map keyOf := by
      intro H2 e2 D hD j x H3 hx pv
      rw [List.getElem?_map] at hx
      obtain ⟨t', ht', rfl⟩ := Option.map_eq_some_iff.mp hx
      have hj : j < cs.length := by rw [← hl]; exact (List.getElem?_eq_some_iff.mp ht').1
      refine ⟨cs[j], t', rfl, List.getElem?_eq_getElem hj, (hT1.2 j t' _ ht' (List.getElem?_eq_getElem hj)).same (e2.trans pv.1), fun m => ?_⟩
      have nd := keys_nd hc.nd
      have e3 : cs.map keyOf = (cs.take j).map keyOf ++ (cs.drop j).map keyOf := by rw [← List.map_append, List.take_append_drop]
      rw [e3, List.nodup_append] at nd
      exact nd.2.2 _ m _ (List.mem_map.mpr ⟨cs[j], by rw [List.drop_eq_getElem_cons hj]; exact List.mem_cons_self, rfl⟩) rfl
    have fin : ∀ H2, Same H1 H2 → ∀ L : List (Addr × List Int), (L.map (·.2)).Perm ((cs.take (ts.map V.ref).length).map keyOf) → (Same H H2 → decide (V.int (L.length : Nat) = V.int ((ts.map V.ref).length : Nat)) = true) := by
      intro H2 e2 L p _
      have z := p.length_eq
      rw [List.length_map, List.length_map, List.length_map, hl, List.take_length] at z
      rw [List.length_map, z, hl]
      exact decide_eq_true rfl
    have Q2 : ∀ H2, Same H1 H2 → Q (.bl true) H2 := fun H2 e2 => q H2 (e1.trans e2)
    have sz : (ts.map V.ref).length = cs.length := by rw [List.length_map, hl]
    rcases ha1 with z | z
    · refine .inl ⟨_, rfl, a, rfl, ⟨_, .inl (.inl z)⟩, fun D hD => lc_tup (xs := ts.map V.ref) (fun j H2 => Same H1 H2 ∧ ∃ bs : List Bool, H2 D = some (.lst (bs.map V.bl)) ∧ bs.all id = true ∧ bs.length = j) ⟨same_new (Same.refl H1) hD, [], upd_same, rfl, rfl⟩ (fun j H2 _ pv => .inl (.inl (pv.1 _ _ z))) (fun j x H2 hx pv => ?_) (fun H2 pv => ?_)⟩
      · obtain ⟨e2, bs, hD2, hb, lb⟩ := pv
        have hjx := (List.getElem?_eq_some_iff.mp hx).1
        rw [List.getElem?_map] at hx
        obtain ⟨t', ht', rfl⟩ := Option.map_eq_some_iff.mp hx
        have hj : j < cs.length := by rw [← sz]; exact hjx
        have hco := hc.lt cs[j] (List.getElem_mem hj)
        refine ⟨rfl, _, rfl, _, rfl, n, .ref t', rfl, .inr ⟨t', _, rfl, (hT1.2 j t' cs[j] ht' (List.getElem?_eq_getElem hj)).same e2, fun y hy => ?_, by show 2 < 64; decide, fun H3 e3 => ?_⟩⟩
        · obtain ⟨k, _, rfl⟩ := List.mem_map.mp hy
          exact .flat (.int _)
        · rw [two_co hco]
          refine ⟨_, e3 _ _ hD2, by rw [List.length_map]; exact small1000 (by omega), fun b o hb => ?_, bs ++ [true], ?_, ?_, by rw [List.length_append, lb]; rfl⟩
          · rw [upd_ne (ne_of_none hb hD)]
            exact e3 _ _ (e2 _ _ hb)
          · rw [upd_same, List.map_append]
            rfl
          · rw [List.all_append, hb]
            rfl
      · obtain ⟨e2, bs, hD2, hb, lb⟩ := pv
        refine ⟨D, bs, rfl, .inl (.inl hD2), _, rfl, ?_⟩
        rw [hb]
        refine iteF ?_
        refine .inl ⟨_, rfl, a, rfl, ⟨_, .inl (.inl (e2 _ _ z))⟩, fun D2 hD2 => K7S.st_tup (xs := ts.map V.ref) (fun j H3 => Same H2 H3 ∧ ∃ L : List (Addr × List Int), H3 D2 = some (SetTO P w D2 L) ∧ (∀ p ∈ L, H3 p.1 = some (.tup (p.2.map V.int))) ∧ (L.map (·.2)).Perm ((cs.take j).map keyOf)) ⟨same_new (Same.refl H2) hD2, [], upd_same, fun p hp => (nomatch hp), List.Perm.refl _⟩ (fun j H3 _ pv => .inl (.inl (pv.1 _ _ (e2 _ _ z)))) (fun j x H3 hx pv => ?_) (fun H3 pv => ?_)⟩
        · obtain ⟨c, t', rfl, hcj, hco, hnew⟩ := half H2 e2 D2 hD2 j x H3 hx pv
          obtain ⟨e3, L, hL, hLt, pm⟩ := pv
          have ll : L.length = j := by
            have z := pm.length_eq
            rw [List.length_map, List.length_map, List.length_take, Nat.min_eq_left (Nat.le_of_lt (List.getElem?_eq_some_iff.mp hcj).1)] at z
            exact z
          have hjc := (List.getElem?_eq_some_iff.mp hcj).1
          refine ⟨rfl, _, rfl, t', [(c.1 : Int), (c.2 : Int)], rfl, hco.sq, by show 2 < 64; decide, fun ms p pm2 so np => ?_⟩
          have em := KL.two_sorted pm2 so
          subst em
          refine ⟨p, _, rfl, .inl ⟨.inl (.inl upd_same), fun l nl => ?_⟩⟩
          have s1 := same_new (o := .lst ([((min c.1 c.2 : Nat) : Int), ((max c.1 c.2 : Nat) : Int)].map V.int)) (Same.refl H3) np
          have s2 := same_new (o := .tup ([((min c.1 c.2 : Nat) : Int), ((max c.1 c.2 : Nat) : Int)].map V.int)) s1 nl
          refine ⟨l, keyOf c, L, rfl, .inl (.inl upd_same), s2 _ _ hL, fun p hp => .inl (.inl (s2 _ _ (hLt p hp))), by omega, fun L' _ c2 => ?_⟩
          have pm' := c2 (fun m => hnew (pm.mem_iff.mp m))
          have nlD : l ≠ D2 := fun e => by rw [e, s1 _ _ hL] at nl; cases nl
          refine ⟨fun b o hb => ?_, L', upd_same, fun p hp => ?_, ?_⟩
          · rw [upd_ne (ne_of_none hb hD2)]
            exact s2 _ _ (e3 _ _ hb)
          · have tp : ∀ p ∈ L', (upd (upd H3 _ _) l (.tup ((keyOf c).map V.int))) p.1 = some (.tup (p.2.map V.int)) := fun p hp => by
              rcases List.mem_cons.mp (pm'.mem_iff.mp hp) with rfl | hp
              · exact upd_same
              · exact s2 _ _ (hLt p hp)
            have z := tp p hp
            rw [upd_ne (fun e => by rw [e] at z; exact absurd (z.symm.trans (s2 _ _ hL)) (fun w => by cases w))]
            exact z
          · refine (pm'.map (·.2)).trans ?_
            rw [List.take_add_one, hcj, List.map_append]
            exact ((List.perm_append_singleton _ _).trans (pm.symm.cons _)).symm
        · obtain ⟨e3, L, hL, hLt, pm⟩ := pv
          have eq2 := fin H3 (e2.trans e3) L pm (e1.trans (e2.trans e3))
          refine ⟨D2, L, rfl, hL, fun p hp => .inl (.inl (hLt p hp)), _, rfl, a, ts.map V.ref, rfl, ?_, rfl, ?_⟩
          · exact (SqOf.sq (K := K) (H := H3) (show SqOf H3 a (ts.map V.ref) from (ha.same e1).same (e2.trans e3)))
          · rw [eq2]
            exact Q2 H3 (e2.trans e3)
    · refine .inr ⟨_, rfl, a, rfl, ⟨_, .inl (.inl z)⟩, fun D hD => lc_list (xs := ts.map V.ref) (fun j H2 => Same H1 H2 ∧ ∃ bs : List Bool, H2 D = some (.lst (bs.map V.bl)) ∧ bs.all id = true ∧ bs.length = j) ⟨same_new (Same.refl H1) hD, [], upd_same, rfl, rfl⟩ (fun j H2 _ pv => .inl (.inl (pv.1 _ _ z))) (fun j x H2 hx pv => ?_) (fun H2 pv => ?_)⟩
      · obtain ⟨e2, bs, hD2, hb, lb⟩ := pv
        have hjx := (List.getElem?_eq_some_iff.mp hx).1
        rw [List.getElem?_map] at hx
        obtain ⟨t', ht', rfl⟩ := Option.map_eq_some_iff.mp hx
        have hj : j < cs.length := by rw [← sz]; exact hjx
        have hco := hc.lt cs[j] (List.getElem_mem hj)
        refine ⟨rfl, _, rfl, _, rfl, n, .ref t', rfl, .inr ⟨t', _, rfl, (hT1.2 j t' cs[j] ht' (List.getElem?_eq_getElem hj)).same e2, fun y hy => ?_, by show 2 < 64; decide, fun H3 e3 => ?_⟩⟩
        · obtain ⟨k, _, rfl⟩ := List.mem_map.mp hy
          exact .flat (.int _)
        · rw [two_co hco]
          refine ⟨_, e3 _ _ hD2, by rw [List.length_map]; exact small1000 (by omega), fun b o hb => ?_, bs ++ [true], ?_, ?_, by rw [List.length_append, lb]; rfl⟩
          · rw [upd_ne (ne_of_none hb hD)]
            exact e3 _ _ (e2 _ _ hb)
          · rw [upd_same, List.map_append]
            rfl
          · rw [List.all_append, hb]
            rfl
      · obtain ⟨e2, bs, hD2, hb, lb⟩ := pv
        refine ⟨D, bs, rfl, .inl (.inl hD2), _, rfl, ?_⟩
        rw [hb]
        refine iteF ?_
        refine .inr ⟨_, rfl, a, rfl, ⟨_, .inl (.inl (e2 _ _ z))⟩, fun D2 hD2 => K7S.st_list (xs := ts.map V.ref) (fun j H3 => Same H2 H3 ∧ ∃ L : List (Addr × List Int), H3 D2 = some (SetTO P w D2 L) ∧ (∀ p ∈ L, H3 p.1 = some (.tup (p.2.map V.int))) ∧ (L.map (·.2)).Perm ((cs.take j).map keyOf)) ⟨same_new (Same.refl H2) hD2, [], upd_same, fun p hp => (nomatch hp), List.Perm.refl _⟩ (fun j H3 _ pv => .inl (.inl (pv.1 _ _ (e2 _ _ z)))) (fun j x H3 hx pv => ?_) (fun H3 pv => ?_)⟩
        · obtain ⟨c, t', rfl, hcj, hco, hnew⟩ := half H2 e2 D2 hD2 j x H3 hx pv
          obtain ⟨e3, L, hL, hLt, pm⟩ := pv
          have ll : L.length = j := by
            have z := pm.length_eq
            rw [List.length_map, List.length_map, List.length_take, Nat.min_eq_left (Nat.le_of_lt (List.getElem?_eq_some_iff.mp hcj).1)] at z
            exact z
          have hjc := (List.getElem?_eq_some_iff.mp hcj).1
          refine ⟨rfl, _, rfl, t', [(c.1 : Int), (c.2 : Int)], rfl, hco.sq, by show 2 < 64; decide, fun ms p pm2 so np => ?_⟩
          have em := KL.two_sorted pm2 so
          subst em
          refine ⟨p, _, rfl, .inl ⟨.inl (.inl upd_same), fun l nl => ?_⟩⟩
          have s1 := same_new (o := .lst ([((min c.1 c.2 : Nat) : Int), ((max c.1 c.2 : Nat) : Int)].map V.int)) (Same.refl H3) np
          have s2 := same_new (o := .tup ([((min c.1 c.2 : Nat) : Int), ((max c.1 c.2 : Nat) : Int)].map V.int)) s1 nl
          refine ⟨l, keyOf c, L, rfl, .inl (.inl upd_same), s2 _ _ hL, fun p hp => .inl (.inl (s2 _ _ (hLt p hp))), by omega, fun L' _ c2 => ?_⟩
          have pm' := c2 (fun m => hnew (pm.mem_iff.mp m))
          have nlD : l ≠ D2 := fun e => by rw [e, s1 _ _ hL] at nl; cases nl
          refine ⟨fun b o hb => ?_, L', upd_same, fun p hp => ?_, ?_⟩
          · rw [upd_ne (ne_of_none hb hD2)]
            exact s2 _ _ (e3 _ _ hb)
          · have tp : ∀ p ∈ L', (upd (upd H3 _ _) l (.tup ((keyOf c).map V.int))) p.1 = some (.tup (p.2.map V.int)) := fun p hp => by
              rcases List.mem_cons.mp (pm'.mem_iff.mp hp) with rfl | hp
              · exact upd_same
              · exact s2 _ _ (hLt p hp)
            have z := tp p hp
            rw [upd_ne (fun e => by rw [e] at z; exact absurd (z.symm.trans (s2 _ _ hL)) (fun w => by cases w))]
            exact z
          · refine (pm'.map (·.2)).trans ?_
            rw [List.take_add_one, hcj, List.map_append]
            exact ((List.perm_append_singleton _ _).trans (pm.symm.cons _)).symm
        · obtain ⟨e3, L, hL, hLt, pm⟩ := pv
          have eq2 := fin H3 (e2.trans e3) L pm (e1.trans (e2.trans e3))
          refine ⟨D2, L, rfl, hL, fun p hp => .inl (.inl (hLt p hp)), _, rfl, a, ts.map V.ref, rfl, ?_, rfl, ?_⟩
          · exact (SqOf.sq (K := K) (H := H3) (show SqOf H3 a (ts.map V.ref) from (ha.same e1).same (e2.trans e3)))
          · rw [eq2]
            exact Q2 H3 (e2.trans e3)
end
end K7
end
/-! ## EU -/
section
namespace K7E
open PySem PySem.Spec PyProof.Rows L2
section
variable {X : Cx} {CX : CXT} {k : Nat} {f : Addr} {sp : Sp} {E : XK} {x : Str} {e : Expr} {es : List Expr} {t : TA} {p pos : Pos}
/-- x(e, ..) by a positional promise -/
theorem pe_callR0 (F : FnR X.prog X.w X.K X.mg X.base CX k f sp) (hr : Room k X.A) (hg : Gl X x) (hm : X.mg x = some (.ref f)) (hk : PySem.W.keepIn X.K (.ref f) = true) (hx : Passes CX X E) (ha : PA X (e :: es) t) (hd : (x == ("__debug__" : Str)) = false := by decide)
    (h1 : starEach (e :: es) X.env = (false, eval e X.env) :: starEach es X.env := by rfl) (h2 : (backTo pos (starEach es X.env)).any (·.1) = false := by rfl) : PE X (.Call (.Name x p) (e :: es) [] pos) (fun τ H Q => t τ H fun vs H1 => sp vs H1 Q E) := by
  refine ⟨fun pins s τ H Q I h => wpAny_Call_Name_kw (ld_glob I hg hm (PySem.W.callWith_K (h₀ := X.base) I.ok.mod.kin hk (thn (ha.run pos pins s τ H _ I h) fun us s1 ⟨vs, H1, I1, r, q⟩ => ⟨I1.kIn, ?_⟩) h1 h2) hd)⟩
  exact wpAny_call (run_fnR F hr hx I1 r q)
end
end K7E
end
/-! ## P11 -/
section
open PySem PySem.Spec PyProof.Rows L2
namespace K7
abbrev N_BadCell___init__ : List Str := ["self", "cell"]
abbrev s_BadCell___init__ : Stmt := inClass (topS 4) 0
theorem sc_BadCell___init__ : FnScope ["self", "cell"] ["self", "cell"] (defScope s_BadCell___init__) := ⟨rfl, rfl, rfl, by decide +kernel, rfl, by decide +kernel, by decide +kernel⟩
abbrev N_is_cell : List Str := ["land", "thing"]
abbrev s_is_cell : Stmt := topS 14
theorem sc_is_cell : FnScope ["land", "thing"] ["land", "thing"] (defScope s_is_cell) := ⟨rfl, rfl, rfl, by decide +kernel, rfl, by decide +kernel, by decide +kernel⟩
abbrev N_is_lot : List Str := ["land", "thing", "least"]
abbrev s_is_lot : Stmt := topS 15
theorem sc_is_lot : FnScope ["land", "thing", "least"] ["land", "thing", "least"] (defScope s_is_lot) := ⟨rfl, rfl, rfl, by decide +kernel, rfl, by decide +kernel, by decide +kernel⟩
abbrev N_check_cells : List Str := ["land", "things", "thing"]
abbrev s_check_cells : Stmt := topS 16
theorem sc_check_cells : FnScope ["land", "things", "thing"] ["land", "things"] (defScope s_check_cells) := ⟨rfl, rfl, rfl, by decide +kernel, rfl, by decide +kernel, by decide +kernel⟩
/-! ### a land that stands, and what the top says of it -/
def landFs (n : Int) (an ar ay ac : Addr) : List (Str × V) := putF "_couples" (.ref ac) (putF "nearby" (.ref ay) (putF "roads" (.ref ar) (putF "neighbours" (.ref an) (putF "cells" (.int n) []))))
def lfields : List Str := ["cells", "neighbours", "roads", "nearby", "_couples"]
structure AdL where
  (C B iB : Addr)
structure Tl (K : PySem.W.Frag) (mg : Str → Option Value) (a : AdL) : Prop where
  gC : mg "Land" = some (.ref a.C)
  cl : Cls K a.C
  nA : ∀ f ∈ lfields, NoAttr K a.C f
  gB : mg "BadCell" = some (.ref a.B)
  oxB : OexC K a.B
  iCB : PySem.W.findIn K (.ref a.B) "__init__" = some (some (.ref a.iB))
  tIB : PySem.W.typeIn K (.ref a.iB) = some (.type "function")
  nB : PySem.W.findIn K (.ref a.B) "cell" = some none
/-- an error of the class C with one field is raised -/
def Flies (H : Hp) (C : Addr) (f : Str) (v : V) (E : XK) : Prop := ∀ H' d, Same H H' → H d = none → H' d = some (.xd [(f, v)]) → E (.ref C) (some d) H'
theorem Flies.later {H H1 : Hp} {C : Addr} {f : Str} {v : V} {E : XK} (h : Flies H C f v E) (e : Same H H1) : Flies H1 C f v E := fun H' d e' n q => h H' d (e.trans e') (e.free n) q
/-- an instance with a number of cells -/
def LandC (C : Addr) (H : Hp) (p : Addr) (n : Nat) : Prop := ∃ dx fs, H p = some (.ins C dx fs) ∧ fs.lookup ("cells" : Str) = some (V.int (n : Nat))
theorem LandC.same {C : Addr} {H H' : Hp} {p : Addr} {n : Nat} (h : LandC C H p n) (e : Same H H') : LandC C H' p n := by
  obtain ⟨dx, fs, h1, h2⟩ := h
  exact ⟨dx, fs, e _ _ h1, h2⟩
section
variable {P : Program} {w : World} {K : PySem.W.Frag} {mg : Str → Option Value} {base : Heap} {a : AdL}
def spX (C : Addr) (f : Str) : Sp := fun vs H Q _ => ∃ (e : Addr) (y : V), vs = [.ref e, y] ∧ H e = some (exo e C none) ∧ ∀ d, H d = none → d ≠ e → Q .non (upd (upd H d (exd d [(f, y)])) e (exo e C (some d)))
theorem ok_iB (T : Tl K mg a) {f : Addr} {fd : FuncData} (F : Fun K "__init__" "BadCell.__init__" s_BadCell___init__ f fd) : FnOk P w K mg base (L2.CX P w) 1 f fd ["self", "cell"] (spX a.B "cell") := by
  refine F.okX sc_BadCell___init__ (fun vs H Q E h => ?_) (fun cdv A outer s H vs Q E hr h => ?_)
  · obtain ⟨e, y, rfl, _⟩ := h
    rfl
  · obtain ⟨e, y, rfl, he, q⟩ := h
    refine ⟨_, (pss_one (ps_ost (pv 0) (pv 1))), ?_⟩
    exact ⟨y, rfl, .ref e, rfl, e, a.B, rfl, T.oxB, T.nB, .inl ⟨he, fun d hd hn => q d hd hn⟩⟩
/-- the reading of «raise X(y)» -/
theorem flies_go {H : Hp} {C : Addr} {f : Str} {y : V} {E : XK} (h : Flies H C f y E) :
    ∀ e, H e = none → spX C f (.ref e :: ([y] ++ [])) (upd H e (exo e C none)) (fun v H2 => v = .non ∧ ∃ (d : Addr) (fs : List (Str × V)), H2 e = some (exo e C (some d)) ∧ H2 d = some (exd d fs) ∧ H d = none ∧ E (.ref C) (some d) (upd (del H2 e) d (.xd fs))) (fun _ _ _ => False) := by
  intro e he
  refine ⟨e, y, rfl, upd_same, fun d hd hne => ⟨rfl, d, _, upd_same, by rw [upd_ne hne, upd_same], ?_, ?_⟩⟩
  · rw [upd_ne hne] at hd
    exact hd
  · rw [upd_ne hne] at hd
    refine h _ d (fun b o hb => ?_) hd upd_same
    have h1 : b ≠ d := ne_of_none hb hd
    have h2 : b ≠ e := ne_of_none hb he
    rw [upd_ne h1, del_ne h2, upd_ne h2, upd_ne h1, upd_ne h2]
    exact hb
/-! is_cell -/
def spIsCell (C : Addr) : Sp := fun vs H Q _ => ∃ (p : Addr) (n : Nat) (x : V), vs = [.ref p, x] ∧ LandC C H p n ∧ Thing H x ∧ Q (.bl (wholeV x 0 ((n : Nat) - 1))) H
theorem ok_iscell (T : Tl K mg a) {f fW : Addr} {fd fdW : FuncData} (F : Fun K "is_cell" "is_cell" s_is_cell f fd)
    (Giw : FnOk P w K mg base CX0 1 fW fdW ["thing", "low", "high"] spWhole) (giw : mg "is_whole" = some (.ref fW)) (kiw : PySem.W.keepIn K (.ref fW) = true) (biw : Binds K fdW ["thing", "low", "high"] []) : FnOk P w K mg base CX0 2 f fd ["land", "thing"] (spIsCell a.C) := by
  refine F.ok sc_is_cell (fun vs H Q E h => ?_) (fun cdv A outer s H vs Q E hr h => ?_)
  · obtain ⟨p, n, x, rfl, _⟩ := h
    rfl
  · obtain ⟨p, n, x, rfl, ⟨dx, fs, hp, hl⟩, hx, q⟩ := h
    refine ⟨_, (pss_one (ps_ret (pe_call Giw (hr.mono (by decide)) (by rfl) giw kiw biw .nil pass0 (pa_cons (pv 1) (pa_cons pe_int (pa_cons (pe_op op_sub (pe_fld (pv 0) rfl) pe_int) pa_nil)))))), ?_⟩
    exact ⟨_, rfl, .ref p, rfl, p, a.C, dx, fs, _, rfl, hp, T.cl, T.nA _ (by decide), hl, _, _, rfl, rfl, x, 0, _, rfl, hx, q⟩
/-! check_cells -/
def AllIn (n : Nat) (xs : List V) : Prop := ∀ x ∈ xs, wholeV x 0 ((n : Nat) - 1) = true
def spCheck (a : AdL) : Sp := fun vs H Q E => ∃ (p : Addr) (n : Nat) (xs : List V), vs = .ref p :: xs ∧ LandC a.C H p n ∧ xs.length < 64 ∧
  (((∀ x ∈ xs, Thing H x) ∧ AllIn n xs ∧ ∀ H', Same H H' → Q .non H') ∨ (∃ ys x zs, xs = ys ++ x :: zs ∧ (∀ x ∈ ys, Thing H x) ∧ AllIn n ys ∧ Thing H x ∧ wholeV x 0 ((n : Nat) - 1) = false ∧ Flies H a.B "cell" x E))
theorem ok_check (T : Tl K mg a) {f fI : Addr} {fd fdI fdB : FuncData} (F : Fun K "check_cells" "check_cells" s_check_cells f fd)
    (Gic : FnOk P w K mg base CX0 2 fI fdI ["land", "thing"] (spIsCell a.C)) (gic : mg "is_cell" = some (.ref fI)) (kic : PySem.W.keepIn K (.ref fI) = true) (bic : Binds K fdI ["land", "thing"] [])
    (FB0 : Fun K "__init__" "BadCell.__init__" s_BadCell___init__ a.iB fdB) (bB : Binds K fdB ["self", "cell"] []) : FnR P w K mg base (L2.CX P w) 4 f (spCheck a) := by
  have FB : FnOk P w K mg base (L2.CX P w) 1 a.iB fdB ["self", "cell"] (spX a.B "cell") := ok_iB T FB0
  obtain ⟨oc, od, kV, doc, pm, an, cdv, ct, osl, rfl, lk, hcd⟩ := F.ex
  have G := StX.fn_star (CX := L2.CX P w) (P := P) (w := w) (mg := mg) (base := base) (k := 3) (ps := ["land"]) (pv := "things") (sp := fun vs H Q E => ∃ (p t : Addr) (n : Nat) (xs : List V), vs = [.ref p, .ref t] ∧ H t = some (.tup xs) ∧ LandC a.C H p n ∧ xs.length < 64 ∧
    (((∀ x ∈ xs, Thing H x) ∧ AllIn n xs ∧ ∀ H', Same H H' → Q .non H') ∨ (∃ ys x zs, xs = ys ++ x :: zs ∧ (∀ x ∈ ys, Thing H x) ∧ AllIn n ys ∧ Thing H x ∧ wholeV x 0 ((n : Nat) - 1) = false ∧ Flies H a.B "cell" x E))) lk hcd sc_check_cells StX.cxUp (StX.bind_star1 (B := fun l => bindArgs (PySem.W.fnOf "check_cells" "check_cells" (defArgs s_check_cells) (defBody s_check_cells) (defScope s_check_cells) .none kV doc pm an cdv ct) ⟨l, []⟩) (p1 := "land") (pv := "things") (fun _ => rfl) fun _ _ _ => rfl) ?_
  · refine G.imp fun vs H Q E h => ?_
    obtain ⟨p, n, xs, rfl, hl, h64, hh⟩ := h
    refine ⟨[.ref p], xs, rfl, rfl, by rw [sizeLine_eq]; omega, fun t ht => ⟨p, t, n, xs, rfl, upd_same, hl.same (same_new (Same.refl H) ht), h64, ?_⟩⟩
    have e := same_new (o := .tup xs) (Same.refl H) ht
    rcases hh with ⟨h1, h2, h3⟩ | ⟨ys, x, zs, h1, h2, h3, h4, h5, h6⟩
    · exact .inl ⟨fun x hx => (h1 x hx).same e, h2, fun H' e' => h3 H' (e.trans e')⟩
    · exact .inr ⟨ys, x, zs, h1, fun x hx => (h2 x hx).same e, h3, h4.same e, h5, h6.later e⟩
  · intro A outer s H vs Q E hr h
    obtain ⟨p, t, n, xs, rfl, ht, hl, h64, hh⟩ := h
    have hrx : Room (1 + 1) _ := hr.mono (by decide)
    refine ⟨_, (pss_one (ps_for (passes_of rfl) rfl (pi_tup (pv 1)) (pg_name (i := 2) sc_check_cells.nd rfl (by first | exact Or.inl rfl | exact Or.inr rfl))
  (pss_one (ps_if (pt_not (pt_val (pe_call Gic (hr.mono (by decide)) (by rfl) gic kic bic .nil pass0 (pa_cons (pv 0) (pa_cons (pv 2) pa_nil)))))
  (pss_one (ps_raise rfl (takes_of rfl rfl rfl rfl) (pmk_oex T.oxB T.iCB T.tIB FB hrx bB .nil passL (by rfl) T.gB (pa_cons (pv 2) pa_nil))))
  pss_nil)))), ?_⟩
    refine ⟨_, rfl, t, rfl, ⟨xs, .inl (.inl ht)⟩, for_tup (xs := xs) (fun j τ H1 => H1 = H ∧ AllIn n (xs.take j) ∧ ∃ y, τ = [some (.ref p), some (.ref t), y]) ⟨rfl, fun x hx => (nomatch hx), none, rfl⟩ (fun j τ H1 _ pv => ?_) (fun j x τ H1 hx pv => ?_) (fun τ H1 pv => ?_)⟩
    · obtain ⟨rfl, _⟩ := pv
      exact .inl (.inl ht)
    · obtain ⟨rfl, al, y, rfl⟩ := pv
      have fin : ∀ b, wholeV x 0 ((n : Nat) - 1) = b → Thing H1 x ∧ (b = false → Flies H1 a.B "cell" x E) := by
        intro b hb
        rcases hh with ⟨h1, h2, h3⟩ | ⟨ys, x', zs, rfl, h2, h3, h4, h5, h6⟩
        · refine ⟨h1 x (List.mem_of_getElem? hx), fun e => ?_⟩
          rw [h2 x (List.mem_of_getElem? hx)] at hb
          rw [← hb] at e
          cases e
        · rcases Nat.lt_trichotomy j ys.length with lt | e | gt
          · rw [List.getElem?_append_left lt] at hx
            have m := List.mem_of_getElem? hx
            refine ⟨h2 x m, fun e => ?_⟩
            rw [h3 x m] at hb
            rw [← hb] at e
            cases e
          · rw [List.getElem?_append_right (by omega), e, Nat.sub_self] at hx
            obtain rfl : x' = x := Option.some.inj hx
            exact ⟨h4, fun _ => h6⟩
          · have m : x' ∈ (ys ++ x' :: zs).take j := by
              rw [List.take_append, List.take_of_length_le (by omega)]
              exact List.mem_append_right _ (by
                obtain ⟨k, hk⟩ : ∃ k, j - ys.length = k + 1 := ⟨j - ys.length - 1, by omega⟩
                rw [hk]
                exact List.mem_cons_self)
            rw [al x' m] at h5
            cases h5
      obtain ⟨hth, hfl⟩ := fin _ rfl
      refine ⟨_, rfl, _, rfl, p, n, x, rfl, hl, hth, _, rfl, ?_⟩
      cases hb : wholeV x 0 ((n : Nat) - 1) with
      | true =>
        refine iteF ⟨rfl, fun z hz => ?_, _, rfl⟩
        rw [List.take_add_one, hx] at hz
        rcases List.mem_append.mp hz with hz | hz
        · exact al z hz
        · rw [List.mem_singleton.mp hz]
          exact hb
      | false => exact iteT ⟨_, rfl, by show 1 ≤ 1000; decide, flies_go (hfl hb)⟩
    · obtain ⟨rfl, al, y, rfl⟩ := pv
      rcases hh with ⟨h1, h2, h3⟩ | ⟨ys, x', zs, rfl, h2, h3, h4, h5, h6⟩
      · exact h3 _ (Same.refl _)
      · rw [List.take_length] at al
        rw [al x' (List.mem_append_right _ List.mem_cons_self)] at h5
        cases h5
end
end K7
end
/-! ## EV -/
section
namespace K7E
open PySem PySem.Spec PyProof.Rows L2
/-- the inner range of a comprehension of two -/
theorem in_range {lo : Int} {n : Nat} {g : TG} {tt : TT} {te : TE} {vs : List Nat} {τ : L2.St} {H4 : Hp} {D : Addr} {Nx : Hp → Prop} (Pw : Nat → Hp → Prop) (h0 : Pw 0 H4)
    (hs : ∀ j H, j < n → Pw j H → g (.int (lo + j)) (wipe τ vs) H fun t3 H5 => wipe t3 vs = wipe τ vs ∧ tt t3 H5 fun b H6 => if b = true then te t3 H6 fun y H7 => ∃ acc, H7 D = some (.lst acc) ∧ acc.length < sizeLine ∧ Pw (j + 1) (upd H7 D (.lst (acc ++ [y]))) else Pw (j + 1) H6) (hd : ∀ H, Pw n H → Nx H) :
    ∃ W1 : Nat → Nat → Hp → Prop, (∃ m, W1 0 m H4) ∧ ∀ j k H, W1 j k H → ((Itr lo n).stop j H ∧ Nx H) ∨ ((Itr lo n).go j H ∧ ∃ N1 : Hp → Prop, (∀ H', N1 H' → ∃ k', k' < k ∧ W1 (j + 1) k' H') ∧
      ∀ x H', (Itr lo n).yld j H x H' → g x (wipe τ vs) H' fun t3 H5 => wipe t3 vs = wipe τ vs ∧ tt t3 H5 fun b H6 => if b = true then te t3 H6 fun y H7 => ∃ acc, H7 D = some (.lst acc) ∧ acc.length < sizeLine ∧ N1 (upd H7 D (.lst (acc ++ [y]))) else N1 H6) := by
  refine ⟨fun j k H => k + j = n ∧ Pw j H, ⟨n, rfl, h0⟩, fun j k H z => ?_⟩
  obtain ⟨hk, p⟩ := z
  rcases Nat.lt_or_ge j n with lt | ge
  · refine .inr ⟨lt, Pw (j + 1), fun H' p' => ⟨k - 1, by omega, by omega, p'⟩, fun x H' y => ?_⟩
    obtain ⟨rfl, rfl⟩ := y
    exact hs j _ lt p
  · obtain rfl : j = n := by omega
    exact .inl ⟨Nat.le_refl _, hd H p⟩
/-- the outer one -/
theorem out_range {lo : Int} {n : Nat} {g : TG} {tt : TT} {inner : (Hp → Prop) → L2.St → Hp → Prop} {vs : List Nat} {τ : L2.St} {H1 : Hp} {D : Addr} {Qd : Hp → Prop} (Pv : Nat → Hp → Prop) (h0 : Pv 0 (upd H1 D (.lst [])))
    (hs : ∀ i H, i < n → Pv i H → g (.int (lo + i)) (wipe τ vs) H fun t2 H2 => wipe t2 vs = wipe τ vs ∧ tt t2 H2 fun b H3 => if b = true then inner (Pv (i + 1)) t2 H3 else Pv (i + 1) H3) (hd : ∀ H, Pv n H → Qd H) :
    ∃ W : Nat → Nat → Hp → Prop, (∃ m, W 0 m (upd H1 D (.lst []))) ∧ ∀ i m H, W i m H → ((Itr lo n).stop i H ∧ Qd H) ∨ ((Itr lo n).go i H ∧ ∃ Nx : Hp → Prop, (∀ H', Nx H' → ∃ m', m' < m ∧ W (i + 1) m' H') ∧
      ∀ x H', (Itr lo n).yld i H x H' → g x (wipe τ vs) H' fun t2 H2 => wipe t2 vs = wipe τ vs ∧ tt t2 H2 fun b H3 => if b = true then inner Nx t2 H3 else Nx H3) := by
  refine ⟨fun i m H => m + i = n ∧ Pv i H, ⟨n, rfl, h0⟩, fun i m H z => ?_⟩
  obtain ⟨hm, p⟩ := z
  rcases Nat.lt_or_ge i n with lt | ge
  · refine .inr ⟨lt, Pv (i + 1), fun H' p' => ⟨m - 1, by omega, by omega, p'⟩, fun x H' y => ?_⟩
    obtain ⟨rfl, rfl⟩ := y
    exact hs i _ lt p
  · obtain rfl : i = n := by omega
    exact .inl ⟨Nat.le_refl _, hd H p⟩
end K7E
end
/-! ## P12 -/
section
open PySem PySem.Spec PyProof.Rows L2
namespace K7
abbrev N_Land___init__ : List Str := ["self", "cells", "neighbours", "roads", "couples", "couple", "a", "b"]
abbrev s_Land___init__ : Stmt := inClass (topS 21) 0
theorem sc_Land___init__ : FnScope ["self", "cells", "neighbours", "roads", "couples", "couple", "a", "b"] ["self", "cells", "neighbours", "roads"] (defScope s_Land___init__) := ⟨rfl, rfl, rfl, by decide +kernel, rfl, by decide +kernel, by decide +kernel⟩
/-! ### a land is made -/
structure LandO (C : Addr) (H : Hp) (p : Addr) (n : Nat) (es : List (Nat × Nat)) (rd : List Nat) : Prop where
  at_ : ∃ dx an ar ay ac tn ty tc, H p = some (.ins C dx (landFs (n : Nat) an ar ay ac)) ∧ H an = some (.tup (tn.map V.ref)) ∧ TAt H tn (pairs es) ∧ H ar = some (.tup (ints_ rd)) ∧ H ay = some (.tup (ty.map V.ref)) ∧ TAt H ty (nearV n es) ∧ H ac = some (.tup (tc.map V.ref)) ∧ TAt H tc (pairs (KL.allC n))
  n2 : 2 ≤ n
  n5 : n ≤ 5
  ok : LandOk n es
  rlt : ∀ c ∈ rd, c < n
  rnd : rd.Nodup
  rso : rd.Pairwise (· ≤ ·)
  r0 : 0 < rd.length
  rn : rd.length < n
theorem LandO.same {C : Addr} {H H' : Hp} {p : Addr} {n : Nat} {es : List (Nat × Nat)} {rd : List Nat} (h : LandO C H p n es rd) (e : Same H H') : LandO C H' p n es rd := by
  obtain ⟨dx, an, ar, ay, ac, tn, ty, tc, h1, h2, h3, h4, h5, h6, h7, h8⟩ := h.at_
  exact ⟨⟨dx, an, ar, ay, ac, tn, ty, tc, e _ _ h1, e _ _ h2, h3.same e, e _ _ h4, e _ _ h5, h6.same e, e _ _ h7, h8.same e⟩, h.n2, h.n5, h.ok, h.rlt, h.rnd, h.rso, h.r0, h.rn⟩
theorem LandO.c {C : Addr} {H : Hp} {p : Addr} {n : Nat} {es : List (Nat × Nat)} {rd : List Nat} (h : LandO C H p n es rd) : LandC C H p n := by
  obtain ⟨dx, an, ar, ay, ac, tn, ty, tc, h1, _⟩ := h.at_
  exact ⟨dx, _, h1, rfl⟩
/-- a land is written while an object is made: what is not an instance stays -/
theorem keepNI {C dx x : Addr} {fs : List (Str × V)} {H : Hp} (hx : H x = some (.ins C dx fs)) {b : Addr} {o o' : HO} (hb : H b = some o) (no : ∀ C dx fs, o ≠ .ins C dx fs) : upd H x o' b = some o := by
  rw [upd_ne (fun e => by rw [e, hx] at hb; exact no _ _ _ (Option.some.inj hb).symm)]
  exact hb
theorem cells_lot {n : Nat} {lot : List Nat} (h1 : ∀ c ∈ lot, c < n) (h2 : lot.Nodup) (h3 : 0 < lot.length) : cellsV (n : Nat) (ints_ lot) 1 = true := by
  unfold cellsV
  have e1 : (ints_ lot).all (fun x => wholeV x 0 (((n : Nat) : Int) - 1)) = true := by
    refine List.all_eq_true.mpr fun x hx => ?_
    obtain ⟨c, hc, rfl⟩ := List.mem_map.mp hx
    have := h1 c hc
    rw [wholeV_int, decide_eq_true (by omega), decide_eq_true (by omega)]
    rfl
  have e2 : ((ints_ lot).map intOf).Nodup := by
    unfold ints_
    rw [List.map_map, List.nodup_iff_pairwise_ne, List.pairwise_map]
    refine (List.nodup_iff_pairwise_ne.mp h2).imp fun {a b} ne e => ne ?_
    have e : ((a : Nat) : Int) = ((b : Nat) : Int) := e
    omega
  have e3 : (ints_ lot).length = lot.length := List.length_map ..
  rw [e1, decide_eq_true e2, e3, decide_eq_true (by omega)]
  rfl
theorem ints_back {ms : List Int} {lot : List Nat} (p : ms.Perm (lot.map fun c => ((c : Nat) : Int))) : ms = (ms.map Int.toNat).map fun c => ((c : Nat) : Int) := by
  rw [List.map_map]
  refine (List.map_id ms).symm.trans (List.map_congr_left fun x hx => ?_)
  obtain ⟨c, _, rfl⟩ := List.mem_map.mp (p.mem_iff.mp hx)
  rfl
/-- one more couple of the comprehension of all of them -/
def rowC (n i j : Nat) : List (Nat × Nat) := ((List.range j).filter fun b => decide (i ≠ b)).map fun b => (i, b)
def upC (n i : Nat) : List (Nat × Nat) := (List.range i).flatMap fun a => rowC n a n
theorem upC_succ (n i : Nat) : upC n (i + 1) = upC n i ++ rowC n i n := by
  unfold upC
  rw [List.range_succ, List.flatMap_append, List.flatMap_cons, List.flatMap_nil, List.append_nil]
theorem rowC_succ (n i j : Nat) : rowC n i (j + 1) = rowC n i j ++ (if i ≠ j then [(i, j)] else []) := by
  unfold rowC
  rw [range_filter, List.map_append]
  by_cases h : i = j
  · rw [if_neg (by rw [decide_eq_false (by simpa using h)]; decide), if_neg (by simpa using h)]
    rfl
  · rw [if_pos (decide_eq_true h), if_pos h]
    rfl
theorem rowC_len (n i j : Nat) : (rowC n i j).length ≤ j := by
  unfold rowC
  rw [List.length_map]
  exact Nat.le_trans (List.length_filter_le _ _) (by rw [List.length_range]; exact Nat.le_refl _)
theorem upC_len (n : Nat) : ∀ i, (upC n i).length ≤ i * n
  | 0 => Nat.zero_le _
  | i + 1 => by
    rw [upC_succ, List.length_append, Nat.succ_mul]
    exact Nat.add_le_add (upC_len n i) (rowC_len n i n)
theorem SqOf.ni {C dx x : Addr} {fs : List (Str × V)} {H : Hp} (hx : H x = some (.ins C dx fs)) {b : Addr} {xs : List V} (h : SqOf H b xs) (o' : HO) : SqOf (upd H x o') b xs :=
  h.imp (fun z => keepNI hx z fun _ _ _ e => by cases e) fun z => keepNI hx z fun _ _ _ e => by cases e
theorem TAt.ni {C dx x : Addr} {fs : List (Str × V)} {H : Hp} (hx : H x = some (.ins C dx fs)) {ts : List Addr} {ls : List (List Nat)} (h : TAt H ts ls) (o' : HO) : TAt (upd H x o') ts ls := h.mono fun b xs hb => keepNI hx hb fun _ _ _ e => by cases e
theorem But.put {x : Addr} {H H' : Hp} (h : But x H H') (o : HO) : But x H (upd H' x o) := fun b o' nb hb => by rw [upd_ne nb]; exact h b o' nb hb
theorem But.new {x p : Addr} {H H' : Hp} (h : But x H H') (np : H' p = none) (o : HO) : But x H (upd H' p o) := fun b o' nb hb => by
  have z := h b o' nb hb
  rw [upd_ne (ne_of_none z np)]
  exact z
theorem But.same {x : Addr} {H H' H'' : Hp} (h : But x H H') (e : Same H' H'') : But x H H'' := fun b o nb hb => e _ _ (h b o nb hb)
theorem iteTo {c : Prop} [Decidable c] {p q : Prop} (h : c) (x : p) : if c then p else q := by rw [if_pos h]; exact x
theorem iteFo {b : Bool} {p q : Prop} (h : b = false) (x : q) : if b = true then p else q := by rw [h]; exact x
theorem ints_map (lot : List Nat) : ints_ lot = (lot.map fun c => ((c : Nat) : Int)).map V.int := by
  unfold ints_
  rw [List.map_map]
  rfl
section
variable {P : Program} {w : World} {K : PySem.W.Frag} {mg : Str → Option Value} {base : Heap} {a : AdL}
def spLandI (a : AdL) : Sp := fun vs H Q _ => ∃ (x dx : Addr) (n : Nat) (an : Addr) (ts : List Addr) (cs : List (Nat × Nat)) (ar : Addr) (lot : List Nat), vs = [.ref x, .int (n : Nat), .ref an, .ref ar] ∧ H x = some (.ins a.C dx []) ∧ 2 ≤ n ∧ n ≤ 5 ∧
  SqOf H an (ts.map V.ref) ∧ CoAll H ts cs ∧ Cos n cs ∧ KL.Conn n cs ∧ SqOf H ar (ints_ lot) ∧ (∀ c ∈ lot, c < n) ∧ lot.Nodup ∧ 0 < lot.length ∧ lot.length < n ∧
  ∀ H' es rd, But x H H' → LandO a.C H' x n es rd → es.Perm (cs.map KL.srt) → rd.Perm lot → Q .non H'
theorem ok_landI (T : Tl K mg a) {tM : Tok} (gM : mg "MOST_CELLS" = some (.int 5 tM)) {f fW fB fC fH fN : Addr} {fd fdW fdB fdC fdH fdN : FuncData} (F : Fun K "__init__" "Land.__init__" s_Land___init__ f fd)
    (Giw : FnOk P w K mg base CX0 1 fW fdW ["thing", "low", "high"] spWhole) (giw : mg "is_whole" = some (.ref fW)) (kiw : PySem.W.keepIn K (.ref fW) = true) (biw : Binds K fdW ["thing", "low", "high"] [])
    (Gnb : FnOk P w K mg base CX0 4 fB fdB ["cells", "thing"] spNbrs) (gnb : mg "_are_neighbours" = some (.ref fB)) (knb : PySem.W.keepIn K (.ref fB) = true) (bnb : Binds K fdB ["cells", "thing"] [])
    (Gac : FnOk P w K mg base CX0 2 fC fdC ["many", "thing", "least"] (spCells K)) (gac : mg "are_cells" = some (.ref fC)) (kac : PySem.W.keepIn K (.ref fC) = true) (bac : Binds K fdC ["many", "thing", "least"] [])
    (Ght : FnOk P w K mg base CX0 2 fH fdH ["cells", "couples"] spHang) (ght : mg "hang_together" = some (.ref fH)) (kht : PySem.W.keepIn K (.ref fH) = true) (bht : Binds K fdH ["cells", "couples"] [])
    (Gnc : FnOk P w K mg base CX0 1 fN fdN ["cells", "couples"] spNear) (gnc : mg "nearby_cells" = some (.ref fN)) (knc : PySem.W.keepIn K (.ref fN) = true) (bnc : Binds K fdN ["cells", "couples"] [])
    (m_len : mg "len" = none) (m_sorted : mg "sorted" = none) (m_tuple : mg "tuple" = none) (m_range : mg "range" = none) : FnOk P w K mg base CX0 5 f fd ["self", "cells", "neighbours", "roads"] (spLandI a) := by
  refine F.ok sc_Land___init__ (fun vs H Q E h => ?_) (fun cdv A outer s H vs Q E hr h => ?_)
  · obtain ⟨x, dx, n, an, ts, cs, ar, lot, rfl, _⟩ := h
    rfl
  · obtain ⟨x, dx, n, an, ts, cs, ar, lot, rfl, hx, n2, n5, han, hT, hc, cn, har, llt, lnd, l0, ln, q⟩ := h
    refine ⟨_, (pss_cons (ps_if (pt_not (pt_val (pe_call Giw (hr.mono (by decide)) (by rfl) giw kiw biw .nil pass0 (pa_cons (pv 1) (pa_cons pe_int (pa_cons (pe_glob (v := .int 5) rfl gM ⟨_, rfl⟩) pa_nil))))))
  (pss_one ps_never)
  pss_nil)
 (pss_cons (ps_if (pt_not (pt_val (pe_call Gnb (hr.mono (by decide)) (by rfl) gnb knb bnb .nil pass0 (pa_cons (pv 1) (pa_cons (pv 2) pa_nil)))))
  (pss_one ps_never)
  pss_nil)
 (pss_cons (ps_if (pw_or (pt_not (pt_val (pe_call Gac (hr.mono (by decide)) (by rfl) gac kac bac .nil pass0 (pa_cons (pv 1) (pa_cons (pv 3) (pa_cons pe_int pa_nil)))))) (pw_or1 (pt_cmpR op_eq (pe_callB call_len_seq (by rfl) m_len boot_len (pa_cons (pv 3) pa_nil)) (pv 1) (nomark _)))).pt
  (pss_one ps_never)
  pss_nil)
 (Evl.pss_cut (ps_set (i := 4) sc_Land___init__.nd rfl (by first | exact Or.inl rfl | exact Or.inr rfl) (pe_callB cr_sortedPO (by rfl) m_sorted boot_sorted (pa_cons (pe_lc (own := [("couple", 5)]) (g := gName 5) (tt := tYes) rfl sc_Land___init__.nd (K7E.pi_either (pi_tup (pv 2)) (pi_list (pv 2))) (blkOk_by (own := [("couple", 5)]) (N := N_Land___init__) (sc := defScope s_Land___init__) (by decide +kernel)) (fun _ _ _ _ _ => (pg_name (i := 5) sc_Land___init__.nd rfl (by first | exact Or.inl rfl | exact Or.inr rfl))) (fun _ _ _ _ _ => pts_nil) (fun _ _ _ _ _ => (pe_callTy (show CallR _ (.type "tuple") (rTup_ K) from call_tuple_of) (by rfl) m_tuple boot_tuple (pa_cons (pe_callB (show CallR _ (.builtin "sorted") (K7S.rSortA K) from K7S.cr_sortA) (by rfl) m_sorted boot_sorted (pa_cons (pv 5) pa_nil)) pa_nil)))) pa_nil)))
 (pss_cons (ps_if (pt_not (pt_val (pe_call Ght (hr.mono (by decide)) (by rfl) ght kht bht .nil pass0 (pa_cons (pv 1) (pa_cons (pv 4) pa_nil)))))
  (pss_one ps_never)
  pss_nil)
 (pss_cons (ps_fld (pv 0) (pv 1) rfl)
 (pss_cons (ps_fld (pv 0) (pe_callTy call_tuple_of (by rfl) m_tuple boot_tuple (pa_cons (pv 4) pa_nil)) rfl)
 (pss_cons (ps_fld (pv 0) (pe_callTy call_tuple_of (by rfl) m_tuple boot_tuple (pa_cons (pe_callB K7S.cr_sortA (by rfl) m_sorted boot_sorted (pa_cons (pv 3) pa_nil)) pa_nil)) rfl)
 (pss_cons (ps_fld (pv 0) (pe_call Gnc (hr.mono (by decide)) (by rfl) gnc knc bnc .nil pass0 (pa_cons (pv 1) (pa_cons (pv 4) pa_nil))) rfl)
 (pss_one (ps_fld (pv 0) (pe_callTy call_tuple_of (by rfl) m_tuple boot_tuple (pa_cons (pe_lc2 (own := [("a", 6), ("b", 7)]) (vs1 := [7]) (g := gName 6) (g1 := gName 7) (tt := tYes) rfl sc_Land___init__.nd (pi_range1 rfl m_range (pa_cons (pv 1) pa_nil)) (blkOk_by (own := [("a", 6), ("b", 7)]) (N := N_Land___init__) (sc := defScope s_Land___init__) (by decide +kernel)) (by decide) (fun _ _ _ _ _ => (pg_name (i := 6) sc_Land___init__.nd rfl (by first | exact Or.inl rfl | exact Or.inr rfl))) (fun _ _ _ _ _ => pts_nil) (fun _ _ _ _ _ => (pi_range1 rfl m_range (pa_cons (pv 1) pa_nil))) (fun _ _ _ _ _ => (pg_name (i := 7) sc_Land___init__.nd rfl (by first | exact Or.inl rfl | exact Or.inr rfl))) (fun _ _ _ _ _ => (pts_one (pt_cmpR op_ne (pv 6) (pv 7) (nomark _)))) (fun _ _ _ _ _ => (pe_tup (pa_cons (pv 6) (pa_cons (pv 7) pa_nil))))) pa_nil)) rfl))))))))))), ?_⟩
    have hl : ts.length = cs.length := hT.1
    have h32 := hc.len
    have lilen : (ints_ lot).length = lot.length := List.length_map ..
    refine ⟨_, rfl, .int (n : Nat), 2, 5, rfl, .flat (.int _), _, rfl, ?_⟩
    rw [wholeV_int, decide_eq_true (by omega), decide_eq_true (by omega)]
    refine iteF ?_
    refine ⟨_, rfl, _, rfl, n, an, ts, cs, rfl, han, hT, hc, fun H1 e1 => ⟨_, rfl, iteF ?_⟩⟩
    refine ⟨_, rfl, _, rfl, n, .ref ar, 1, rfl, .inr ⟨ar, ints_ lot, rfl, har.same e1, fun y hy => ?_, by rw [lilen]; omega, fun H2 e2 => ?_⟩⟩
    · obtain ⟨k, _, rfl⟩ := List.mem_map.mp hy
      exact .flat (.int _)
    rw [cells_lot llt lnd l0]
    have e02 := e1.trans e2
    refine ⟨_, rfl, _, rfl, ar, ints_ lot, rfl, (har.same e02).sq, _, rfl, rfl, _, rfl, ?_⟩
    rw [lilen, decide_eq_false (fun e => by injection e with e; omega)]
    refine iteF ?_
    have han2 := han.same e02
    have hT2 := hT.same e02
    -- the couples, in order
    refine ⟨fun σ' H' => ∃ p us es y5 y6 y7, σ' = [some (.ref x), some (.int (n : Nat)), some (.ref an), some (.ref ar), some (.ref p), y5, y6, y7] ∧ Same H H' ∧ H' p = some (.lst (us.map V.ref)) ∧ TAt H' us (pairs es) ∧ LandOk n es ∧ es.Perm (cs.map KL.srt), ?_, fun σ' H' hM => ?_⟩
    · rcases han2 with z | z
      · refine .inl ⟨_, rfl, an, rfl, ⟨_, .inl (.inl z)⟩, fun D hD => lc_tup (xs := ts.map V.ref) (fun j H3 => Same H2 H3 ∧ ∃ us, H3 D = some (.lst (us.map V.ref)) ∧ TAt H3 us (pairs ((cs.take j).map KL.srt)) ∧ us.length ≤ j) ⟨same_new (Same.refl H2) hD, [], upd_same, .nil, Nat.le_refl _⟩ (fun j H3 _ pv => .inl (.inl (pv.1 _ _ z))) (fun j y H3 hy pv => ?_) (fun H3 pv => ?_)⟩
        · obtain ⟨e3, us, hD3, tD, lu⟩ := pv
          rw [List.getElem?_map] at hy
          obtain ⟨t', ht', rfl⟩ := Option.map_eq_some_iff.mp hy
          have hj : j < cs.length := by rw [← hl]; exact (List.getElem?_eq_some_iff.mp ht').1
          have hco := (hT2.2 j t' _ ht' (List.getElem?_eq_getElem hj)).same e3
          refine ⟨rfl, _, rfl, t', [(cs[j].1 : Int), (cs[j].2 : Int)], rfl, hco.sq, by show 2 < 64; decide, fun ms p pm so np => ?_⟩
          have em := KL.two_sorted pm so
          subst em
          refine ⟨p, _, rfl, .inl ⟨.inl (.inl upd_same), fun l nl => ?_⟩⟩
          have s1 := same_new (o := .lst ([((min cs[j].1 cs[j].2 : Nat) : Int), ((max cs[j].1 cs[j].2 : Nat) : Int)].map V.int)) (Same.refl H3) np
          have s2 := same_new (o := .tup ([((min cs[j].1 cs[j].2 : Nat) : Int), ((max cs[j].1 cs[j].2 : Nat) : Int)].map V.int)) s1 nl
          have hD4 := s2 _ _ hD3
          refine ⟨_, hD4, by rw [List.length_map]; exact small1000 (by omega), fun b o hb => ?_, us ++ [l], by rw [upd_same, List.map_append]; rfl, ?_, by rw [List.length_append, List.length_singleton]; omega⟩
          · rw [upd_ne (ne_of_none hb hD)]
            exact s2 _ _ (e3 _ _ hb)
          · rw [List.take_add_one, List.getElem?_eq_getElem hj, List.map_append]
            unfold pairs
            rw [List.map_append]
            have up : ∀ b xs, upd (upd H3 p (.lst ([((min cs[j].1 cs[j].2 : Nat) : Int), ((max cs[j].1 cs[j].2 : Nat) : Int)].map V.int))) l (.tup ([((min cs[j].1 cs[j].2 : Nat) : Int), ((max cs[j].1 cs[j].2 : Nat) : Int)].map V.int)) b = some (.tup xs) → upd (upd (upd H3 p (.lst ([((min cs[j].1 cs[j].2 : Nat) : Int), ((max cs[j].1 cs[j].2 : Nat) : Int)].map V.int))) l (.tup ([((min cs[j].1 cs[j].2 : Nat) : Int), ((max cs[j].1 cs[j].2 : Nat) : Int)].map V.int))) D (.lst (us.map V.ref ++ [.ref l])) b = some (.tup xs) := fun b xs hb => by
              rw [upd_ne (fun e => by rw [e, hD4] at hb; cases hb)]
              exact hb
            exact ((tD.same s2).mono up).append (.cons (up _ _ upd_same) .nil)
        · obtain ⟨e3, us, hD3, tD, lu⟩ := pv
          rw [List.length_map, hl, List.take_length] at tD
          refine ⟨D, us.map V.ref, kfOf H3, rfl, .inl (.inl hD3), fun y hy => ?_, fun ys p srt stb np => ?_⟩
          · obtain ⟨b, e, rfl, hb⟩ := g_mem tD y hy
            exact ⟨b, rfl, by rw [kf_at hb]; exact hb⟩
          · have hys := fun y (hy : y ∈ ys) => g_mem tD y (stb.perm.mem_iff.mp hy)
            obtain ⟨us', rfl, tY⟩ := tat_of ys hys
            have pe : ((us'.map V.ref).map (gOf H3)).Perm (cs.map KL.srt) := by
              have z := stb.perm.map (gOf H3)
              rw [g_map tD] at z
              exact z
            have s4 := same_new (o := .lst (us'.map V.ref)) (Same.refl H3) np
            refine ⟨p, us', _, _, _, _, rfl, e02.trans (e3.trans s4), upd_same, tY.same s4, ⟨fun e he => ?_, pe.nodup_iff.mpr hc.nd, sorted_of _ hys srt, KL.conn_srt cn pe⟩, pe⟩
            obtain ⟨c, hcm, rfl⟩ := List.mem_map.mp (pe.mem_iff.mp he)
            obtain ⟨c1, c2, c3⟩ := hc.lt c hcm
            refine ⟨KL.srt_lt c3, ?_⟩
            unfold KL.srt
            simp only
            omega
      · refine .inr ⟨_, rfl, an, rfl, ⟨_, .inl (.inl z)⟩, fun D hD => lc_list (xs := ts.map V.ref) (fun j H3 => Same H2 H3 ∧ ∃ us, H3 D = some (.lst (us.map V.ref)) ∧ TAt H3 us (pairs ((cs.take j).map KL.srt)) ∧ us.length ≤ j) ⟨same_new (Same.refl H2) hD, [], upd_same, .nil, Nat.le_refl _⟩ (fun j H3 _ pv => .inl (.inl (pv.1 _ _ z))) (fun j y H3 hy pv => ?_) (fun H3 pv => ?_)⟩
        · obtain ⟨e3, us, hD3, tD, lu⟩ := pv
          rw [List.getElem?_map] at hy
          obtain ⟨t', ht', rfl⟩ := Option.map_eq_some_iff.mp hy
          have hj : j < cs.length := by rw [← hl]; exact (List.getElem?_eq_some_iff.mp ht').1
          have hco := (hT2.2 j t' _ ht' (List.getElem?_eq_getElem hj)).same e3
          refine ⟨rfl, _, rfl, t', [(cs[j].1 : Int), (cs[j].2 : Int)], rfl, hco.sq, by show 2 < 64; decide, fun ms p pm so np => ?_⟩
          have em := KL.two_sorted pm so
          subst em
          refine ⟨p, _, rfl, .inl ⟨.inl (.inl upd_same), fun l nl => ?_⟩⟩
          have s1 := same_new (o := .lst ([((min cs[j].1 cs[j].2 : Nat) : Int), ((max cs[j].1 cs[j].2 : Nat) : Int)].map V.int)) (Same.refl H3) np
          have s2 := same_new (o := .tup ([((min cs[j].1 cs[j].2 : Nat) : Int), ((max cs[j].1 cs[j].2 : Nat) : Int)].map V.int)) s1 nl
          have hD4 := s2 _ _ hD3
          refine ⟨_, hD4, by rw [List.length_map]; exact small1000 (by omega), fun b o hb => ?_, us ++ [l], by rw [upd_same, List.map_append]; rfl, ?_, by rw [List.length_append, List.length_singleton]; omega⟩
          · rw [upd_ne (ne_of_none hb hD)]
            exact s2 _ _ (e3 _ _ hb)
          · rw [List.take_add_one, List.getElem?_eq_getElem hj, List.map_append]
            unfold pairs
            rw [List.map_append]
            have up : ∀ b xs, upd (upd H3 p (.lst ([((min cs[j].1 cs[j].2 : Nat) : Int), ((max cs[j].1 cs[j].2 : Nat) : Int)].map V.int))) l (.tup ([((min cs[j].1 cs[j].2 : Nat) : Int), ((max cs[j].1 cs[j].2 : Nat) : Int)].map V.int)) b = some (.tup xs) → upd (upd (upd H3 p (.lst ([((min cs[j].1 cs[j].2 : Nat) : Int), ((max cs[j].1 cs[j].2 : Nat) : Int)].map V.int))) l (.tup ([((min cs[j].1 cs[j].2 : Nat) : Int), ((max cs[j].1 cs[j].2 : Nat) : Int)].map V.int))) D (.lst (us.map V.ref ++ [.ref l])) b = some (.tup xs) := fun b xs hb => by
              rw [upd_ne (fun e => by rw [e, hD4] at hb; cases hb)]
              exact hb
            exact ((tD.same s2).mono up).append (.cons (up _ _ upd_same) .nil)
        · obtain ⟨e3, us, hD3, tD, lu⟩ := pv
          rw [List.length_map, hl, List.take_length] at tD
          refine ⟨D, us.map V.ref, kfOf H3, rfl, .inl (.inl hD3), fun y hy => ?_, fun ys p srt stb np => ?_⟩
          · obtain ⟨b, e, rfl, hb⟩ := g_mem tD y hy
            exact ⟨b, rfl, by rw [kf_at hb]; exact hb⟩
          · have hys := fun y (hy : y ∈ ys) => g_mem tD y (stb.perm.mem_iff.mp hy)
            obtain ⟨us', rfl, tY⟩ := tat_of ys hys
            have pe : ((us'.map V.ref).map (gOf H3)).Perm (cs.map KL.srt) := by
              have z := stb.perm.map (gOf H3)
              rw [g_map tD] at z
              exact z
            have s4 := same_new (o := .lst (us'.map V.ref)) (Same.refl H3) np
            refine ⟨p, us', _, _, _, _, rfl, e02.trans (e3.trans s4), upd_same, tY.same s4, ⟨fun e he => ?_, pe.nodup_iff.mpr hc.nd, sorted_of _ hys srt, KL.conn_srt cn pe⟩, pe⟩
            obtain ⟨c, hcm, rfl⟩ := List.mem_map.mp (pe.mem_iff.mp he)
            obtain ⟨c1, c2, c3⟩ := hc.lt c hcm
            refine ⟨KL.srt_lt c3, ?_⟩
            unfold KL.srt
            simp only
            omega
    · obtain ⟨p, us, es, y5, y6, y7, rfl, eM, hp, tU, ok, pe⟩ := hM
      have esl : es.length = cs.length := by rw [pe.length_eq, List.length_map]
      refine ⟨_, rfl, _, rfl, n, p, us, es, rfl, by omega, n5, hp, tU, by omega, fun e he => ?_, ok.conn, fun H5 e5 => ⟨_, rfl, iteF ?_⟩⟩
      · obtain ⟨l1, l2⟩ := ok.lt e he
        exact ⟨by omega, l2⟩
      have b5 : But x H H5 := fun b o _ hb => e5 _ _ (eM _ _ hb)
      have hx5 := e5 _ _ (eM _ _ hx)
      have hp5 := e5 _ _ hp
      have tU5 := tU.same e5
      have har5 := (har.same eM).same e5
      -- cells
      refine ⟨_, rfl, _, rfl, x, a.C, dx, _, rfl, hx5, T.cl, T.nA _ (by decide), by show 0 < 1000; decide, ?_⟩
      have b6 := b5.put (.ins a.C dx (putF "cells" (.int (n : Nat)) []))
      have hx6 : upd H5 x (.ins a.C dx (putF "cells" (.int (n : Nat)) [])) x = _ := upd_same
      have hp6 := keepNI (o' := .ins a.C dx (putF "cells" (.int (n : Nat)) [])) hx5 hp5 fun _ _ _ e => by cases e
      have tU6 := tU5.ni hx5 (.ins a.C dx (putF "cells" (.int (n : Nat)) []))
      have har6 := har5.ni hx5 (.ins a.C dx (putF "cells" (.int (n : Nat)) []))
      generalize upd H5 x (.ins a.C dx (putF "cells" (.int (n : Nat)) [])) = H6 at b6 hx6 hp6 tU6 har6 ⊢
      -- neighbours
      refine ⟨_, rfl, p, us.map V.ref, rfl, .inl ⟨.inl (.inl hp6), fun tn ntn => ?_⟩⟩
      have s7 := same_new (o := .tup (us.map V.ref)) (Same.refl H6) ntn
      have b7 := b6.same s7
      have hx7 := s7 _ _ hx6
      refine ⟨_, rfl, x, a.C, dx, _, rfl, hx7, T.cl, T.nA _ (by decide), by show 1 < 1000; decide, ?_⟩
      have b8 := b7.put (.ins a.C dx (putF "neighbours" (.ref tn) (putF "cells" (.int (n : Nat)) [])))
      have hx8 : upd (upd H6 tn (.tup (us.map V.ref))) x (.ins a.C dx (putF "neighbours" (.ref tn) (putF "cells" (.int (n : Nat)) []))) x = _ := upd_same
      have hp8 := keepNI (o' := .ins a.C dx (putF "neighbours" (.ref tn) (putF "cells" (.int (n : Nat)) []))) hx7 (s7 _ _ hp6) fun _ _ _ e => by cases e
      have tU8 := (tU6.same s7).ni hx7 (.ins a.C dx (putF "neighbours" (.ref tn) (putF "cells" (.int (n : Nat)) [])))
      have har8 := (har6.same s7).ni hx7 (.ins a.C dx (putF "neighbours" (.ref tn) (putF "cells" (.int (n : Nat)) [])))
      have hn8 := keepNI (o' := .ins a.C dx (putF "neighbours" (.ref tn) (putF "cells" (.int (n : Nat)) []))) hx7 (show upd H6 tn (.tup (us.map V.ref)) tn = _ from upd_same) fun _ _ _ e => by cases e
      generalize upd (upd H6 tn (.tup (us.map V.ref))) x (.ins a.C dx (putF "neighbours" (.ref tn) (putF "cells" (.int (n : Nat)) []))) = H8 at b8 hx8 hp8 tU8 har8 hn8 ⊢
      -- roads
      have harI : SqOf H8 ar ((lot.map fun c => ((c : Nat) : Int)).map V.int) := by rw [← ints_map]; exact har8
      refine ⟨_, rfl, ar, lot.map fun c => ((c : Nat) : Int), rfl, harI.sq, by rw [List.length_map]; omega, fun ms pl pm so npl => ⟨pl, _, rfl, .inl ⟨.inl (.inl upd_same), fun tr ntr => ?_⟩⟩⟩
      have ems := ints_back pm
      have e12 : ms.map V.int = ints_ (ms.map Int.toNat) := by rw [ints_map, ← ems]
      rw [e12] at ntr ⊢
      have prd : (ms.map Int.toNat).Perm lot := by
        have z := pm.map Int.toNat
        rw [List.map_map] at z
        exact z.trans (List.Perm.of_eq ((List.map_congr_left fun c _ => rfl).trans (List.map_id lot)))
      have srd : (ms.map Int.toNat).Pairwise (· ≤ ·) := by
        rw [List.pairwise_map]
        exact so.imp fun {a b} h => by omega
      generalize ms.map Int.toNat = rd at prd srd ntr ⊢
      have s9 := same_new (o := .lst (ints_ rd)) (Same.refl H8) npl
      have s10 := same_new (o := .tup (ints_ rd)) s9 ntr
      have hr10 : upd (upd H8 pl (.lst (ints_ rd))) tr (.tup (ints_ rd)) tr = some (.tup (ints_ rd)) := upd_same
      generalize upd (upd H8 pl (.lst (ints_ rd))) tr (.tup (ints_ rd)) = H10 at s10 hr10 ⊢
      have hx10 := s10 _ _ hx8
      refine ⟨_, rfl, x, a.C, dx, _, rfl, hx10, T.cl, T.nA _ (by decide), by show 2 < 1000; decide, ?_⟩
      have b11 := (b8.same s10).put (.ins a.C dx (putF "roads" (.ref tr) (putF "neighbours" (.ref tn) (putF "cells" (.int (n : Nat)) []))))
      have hx11 : upd H10 x (.ins a.C dx (putF "roads" (.ref tr) (putF "neighbours" (.ref tn) (putF "cells" (.int (n : Nat)) [])))) x = _ := upd_same
      have hp11 := keepNI (o' := .ins a.C dx (putF "roads" (.ref tr) (putF "neighbours" (.ref tn) (putF "cells" (.int (n : Nat)) [])))) hx10 (s10 _ _ hp8) fun _ _ _ e => by cases e
      have tU11 := (tU8.same s10).ni hx10 (.ins a.C dx (putF "roads" (.ref tr) (putF "neighbours" (.ref tn) (putF "cells" (.int (n : Nat)) []))))
      have hn11 := keepNI (o' := .ins a.C dx (putF "roads" (.ref tr) (putF "neighbours" (.ref tn) (putF "cells" (.int (n : Nat)) [])))) hx10 (s10 _ _ hn8) fun _ _ _ e => by cases e
      have hr11 := keepNI (o' := .ins a.C dx (putF "roads" (.ref tr) (putF "neighbours" (.ref tn) (putF "cells" (.int (n : Nat)) [])))) hx10 hr10 fun _ _ _ e => by cases e
      generalize upd H10 x (.ins a.C dx (putF "roads" (.ref tr) (putF "neighbours" (.ref tn) (putF "cells" (.int (n : Nat)) [])))) = H11 at b11 hx11 hp11 tU11 hn11 hr11 ⊢
      -- nearby
      refine ⟨_, rfl, _, rfl, n, p, us, es, rfl, n5, hp11, tU11, by omega, fun H12 ty uy s12 nty hy12 tY12 => ?_⟩
      have hx12 := s12 _ _ hx11
      refine ⟨_, rfl, x, a.C, dx, _, rfl, hx12, T.cl, T.nA _ (by decide), by show 3 < 1000; decide, ?_⟩
      have b13 := (b11.same s12).put (.ins a.C dx (putF "nearby" (.ref ty) (putF "roads" (.ref tr) (putF "neighbours" (.ref tn) (putF "cells" (.int (n : Nat)) [])))))
      have hx13 : upd H12 x (.ins a.C dx (putF "nearby" (.ref ty) (putF "roads" (.ref tr) (putF "neighbours" (.ref tn) (putF "cells" (.int (n : Nat)) []))))) x = _ := upd_same
      have tU13 := (tU11.same s12).ni hx12 (.ins a.C dx (putF "nearby" (.ref ty) (putF "roads" (.ref tr) (putF "neighbours" (.ref tn) (putF "cells" (.int (n : Nat)) [])))))
      have tY13 := tY12.ni hx12 (.ins a.C dx (putF "nearby" (.ref ty) (putF "roads" (.ref tr) (putF "neighbours" (.ref tn) (putF "cells" (.int (n : Nat)) [])))))
      have hn13 := keepNI (o' := .ins a.C dx (putF "nearby" (.ref ty) (putF "roads" (.ref tr) (putF "neighbours" (.ref tn) (putF "cells" (.int (n : Nat)) []))))) hx12 (s12 _ _ hn11) fun _ _ _ e => by cases e
      have hr13 := keepNI (o' := .ins a.C dx (putF "nearby" (.ref ty) (putF "roads" (.ref tr) (putF "neighbours" (.ref tn) (putF "cells" (.int (n : Nat)) []))))) hx12 (s12 _ _ hr11) fun _ _ _ e => by cases e
      have hy13 := keepNI (o' := .ins a.C dx (putF "nearby" (.ref ty) (putF "roads" (.ref tr) (putF "neighbours" (.ref tn) (putF "cells" (.int (n : Nat)) []))))) hx12 hy12 fun _ _ _ e => by cases e
      generalize upd H12 x (.ins a.C dx (putF "nearby" (.ref ty) (putF "roads" (.ref tr) (putF "neighbours" (.ref tn) (putF "cells" (.int (n : Nat)) []))))) = H13 at b13 hx13 tU13 hn13 hr13 hy13 tY13 ⊢
      -- couples
      refine ⟨_, rfl, _, rfl, by omega, by omega, fun D hD => K7E.out_range (lo := 0) (n := n) (fun i H' => Same H13 H' ∧ ∃ vs, H' D = some (.lst (vs.map V.ref)) ∧ TAt H' vs (pairs (upC n i)) ∧ vs.length ≤ i * n) ⟨same_new (Same.refl H13) hD, [], upd_same, .nil, Nat.zero_le _⟩ (fun i H' hi pv => ?_) (fun H' pv => ?_)⟩
      · obtain ⟨e14, vs, hD14, tV, lv⟩ := pv
        refine ⟨rfl, _, rfl, _, rfl, by omega, by omega, K7E.in_range (lo := 0) (n := n) (fun j H'' => Same H13 H'' ∧ ∃ vs, H'' D = some (.lst (vs.map V.ref)) ∧ TAt H'' vs (pairs (upC n i ++ rowC n i j)) ∧ vs.length ≤ i * n + j) ⟨e14, vs, hD14, ?_, lv⟩ (fun j H'' hj pv => ?_) (fun H'' pv => ?_)⟩
        · show TAt H' vs (pairs (upC n i ++ []))
          rw [List.append_nil]
          exact tV
        · obtain ⟨e15, vs, hD15, tV, lv⟩ := pv
          refine ⟨rfl, _, rfl, _, rfl, rfl, _, rfl, ?_⟩
          by_cases hij : i = j
          · subst hij
            have er : rowC n i (i + 1) = rowC n i i := by rw [rowC_succ, if_neg (fun h => h rfl), List.append_nil]
            have e16 : (!decide (V.int (0 + (i : Nat)) = V.int (0 + (i : Nat)))) = false := by rw [decide_eq_true rfl]; rfl
            rw [e16]
            refine iteF ⟨e15, vs, hD15, ?_, by omega⟩
            rw [er]
            exact tV
          · have er : rowC n i (j + 1) = rowC n i j ++ [(i, j)] := by rw [rowC_succ, if_pos hij]
            have e16 : (!decide (V.int (0 + (i : Nat)) = V.int (0 + (j : Nat)))) = true := by
              rw [decide_eq_false (fun h => by injection h with h; exact hij (by omega))]
              rfl
            have hin : i * n ≤ 25 := Nat.le_trans (Nat.mul_le_mul (Nat.le_of_lt (Nat.lt_of_lt_of_le hi n5)) n5) (by decide)
            rw [e16]
            refine iteT ⟨_, rfl, _, rfl, by show 2 ≤ sizeLine; decide, fun t nt => ?_⟩
            rw [er]
            have sT := same_new (o := .tup [.int (0 + (i : Nat)), .int (0 + (j : Nat))]) (Same.refl H'') nt
            have up : ∀ b xs, upd H'' t (.tup [.int (0 + (i : Nat)), .int (0 + (j : Nat))]) b = some (.tup xs) → upd (upd H'' t (.tup [.int (0 + (i : Nat)), .int (0 + (j : Nat))])) D (.lst (vs.map V.ref ++ [.ref t])) b = some (.tup xs) := fun b xs hb => by
              rw [upd_ne (fun z => by rw [z, sT _ _ hD15] at hb; cases hb)]
              exact hb
            refine ⟨_, sT _ _ hD15, by rw [List.length_map]; exact small1000 (by omega), fun b o hb => ?_, vs ++ [t], by rw [upd_same, List.map_append]; rfl, ?_, by rw [List.length_append, List.length_singleton]; omega⟩
            · rw [upd_ne (ne_of_none hb hD)]
              exact sT _ _ (e15 _ _ hb)
            · rw [← List.append_assoc]
              unfold pairs
              rw [List.map_append]
              refine ((tV.same sT).mono up).append (.cons (up _ _ ?_) .nil)
              rw [upd_same, Int.zero_add, Int.zero_add]
              rfl
        · obtain ⟨e15, vs, hD15, tV, lv⟩ := pv
          exact ⟨e15, vs, hD15, by rw [upC_succ]; exact tV, by rw [Nat.succ_mul]; exact lv⟩
      · obtain ⟨e14, vs, hD14, tV, lv⟩ := pv
        refine ⟨D, vs.map V.ref, rfl, .inl ⟨.inl (.inl hD14), fun tc ntc => ?_⟩⟩
        have sC := same_new (o := .tup (vs.map V.ref)) e14 ntc
        have hc14 : upd H' tc (.tup (vs.map V.ref)) tc = some (.tup (vs.map V.ref)) := upd_same
        have tV14 := tV.same (same_new (o := .tup (vs.map V.ref)) (Same.refl H') ntc)
        generalize upd H' tc (.tup (vs.map V.ref)) = H15 at sC hc14 tV14 ⊢
        have hx15 := sC _ _ hx13
        refine ⟨_, rfl, x, a.C, dx, _, rfl, hx15, T.cl, T.nA _ (by decide), by show 4 < 1000; decide, ?_⟩
        have no : ∀ (xs : List V) (C dx : Addr) fs, HO.tup xs ≠ .ins C dx fs := fun _ _ _ _ e => by cases e
        exact q _ es rd ((b13.same sC).put _) ⟨⟨dx, tn, tr, ty, tc, us, uy, vs, upd_same, keepNI hx15 (sC _ _ hn13) (no _), (tU13.same sC).ni hx15 _, keepNI hx15 (sC _ _ hr13) (no _), keepNI hx15 (sC _ _ hy13) (no _), (tY13.same sC).ni hx15 _, keepNI hx15 hc14 (no _), tV14.ni hx15 _⟩,
          n2, n5, ok, fun c hc => llt c (prd.mem_iff.mp hc), prd.nodup_iff.mpr lnd, srd, by rw [prd.length_eq]; exact l0, by rw [prd.length_eq]; exact ln⟩ pe prd
end
end K7
end
/-! ## P13 -/
section
open PySem PySem.Spec PyProof.Rows L2
namespace K7
theorem near_get {n : Nat} {es : List (Nat × Nat)} {c : Nat} (h : c < n) : (nearV n es)[c]? = some ((List.range n).filter fun b => decide ((c, b) ∈ es) || decide ((b, c) ∈ es)) := by
  unfold nearV
  rw [List.getElem?_map, List.getElem?_range h]
  rfl
def nearOf (n : Nat) (es : List (Nat × Nat)) (c : Nat) : List Nat := (List.range n).filter fun b => decide ((c, b) ∈ es) || decide ((b, c) ∈ es)
/-- a cell, or what is no cell and is told so -/
def CellOr (B : Addr) (n : Nat) (H : Hp) (x : V) (E : XK) (q : Nat → Prop) : Prop := (∃ c, x = .int (c : Nat) ∧ c < n ∧ q c) ∨ (Thing H x ∧ wholeV x 0 ((n : Nat) - 1) = false ∧ Flies H B "cell" x E)
theorem whole_cell {n c : Nat} (h : c < n) : wholeV (.int (c : Nat)) 0 (((n : Nat) : Int) - 1) = true := by
  rw [wholeV_int, decide_eq_true (by omega), decide_eq_true (by omega)]
  rfl
theorem one_in {n c : Nat} (h : c < n) : AllIn n [.int (c : Nat)] := fun x hx => by
  rw [List.mem_singleton.mp hx]
  exact whole_cell h
section
variable {P : Program} {w : World} {K : PySem.W.Frag} {mg : Str → Option Value} {base : Heap} {a : AdL}
def NoSeq (K : PySem.W.Frag) (H : Hp) (x : V) : Prop := ∃ t : String, (∀ H1, Same H H1 → TyX K H1 x (.type t)) ∧ PySem.W.kitAny K (.type t) [.type "list", .type "tuple"] = some false
def spIsLot (K : PySem.W.Frag) (C : Addr) : Sp := fun vs H Q _ => ∃ (p : Addr) (n : Nat) (x : V) (least : Int), vs = [.ref p, x, .int least] ∧ LandC C H p n ∧
  ((NoSeq K H x ∧ ∀ H1, Same H H1 → Q (.bl false) H1) ∨ (∃ (b : Addr) (xs : List V), x = .ref b ∧ SqOf H b xs ∧ (∀ y ∈ xs, Thing H y) ∧ xs.length < 64 ∧ ∀ H1, Same H H1 → Q (.bl (cellsV (n : Nat) xs least)) H1))
theorem ok_islot (T : Tl K mg a) {f fC : Addr} {fd fdC : FuncData} (F : Fun K "is_lot" "is_lot" s_is_lot f fd)
    (Gac : FnOk P w K mg base CX0 2 fC fdC ["many", "thing", "least"] (spCells K)) (gac : mg "are_cells" = some (.ref fC)) (kac : PySem.W.keepIn K (.ref fC) = true) (bac : Binds K fdC ["many", "thing", "least"] []) : FnOk P w K mg base CX0 3 f fd ["land", "thing", "least"] (spIsLot K a.C) := by
  refine F.ok sc_is_lot (fun vs H Q E h => ?_) (fun cdv A outer s H vs Q E hr h => ?_)
  · obtain ⟨p, n, x, l, rfl, _⟩ := h
    rfl
  · obtain ⟨p, n, x, l, rfl, ⟨dx, fs, hp, hl⟩, h⟩ := h
    refine ⟨_, (pss_one (ps_ret (pe_call Gac (hr.mono (by decide)) (by rfl) gac kac bac .nil pass0 (pa_cons (pe_fld (pv 0) rfl) (pa_cons (pv 1) (pa_cons (pv 2) pa_nil)))))), ?_⟩
    refine ⟨_, rfl, p, a.C, dx, fs, _, rfl, hp, T.cl, T.nA _ (by decide), hl, _, rfl, _, rfl, (n : Nat), x, l, rfl, ?_⟩
    rcases h with ⟨⟨t, ty, k⟩, q⟩ | ⟨b, xs, rfl, hb, th, h64, q⟩
    · exact .inl ⟨t, ty, k, q⟩
    · exact .inr ⟨b, xs, rfl, hb, th, h64, q⟩
end
end K7
end
/-! ## MN -/
section
/-! min of a list of data that can be compared with one another. -/
namespace K7S
open PySem PySem.Spec PyProof.Rows L2
section
variable {X : Cx}
def rMinD (K : PySem.W.Frag) : List V → Hp → VK → Prop := fun vs H Q => ∃ (a : Addr) (xs : List V) (d : PyData) (ds : List PyData), vs = [V.ref a] ∧ SqL K H a xs ∧ DpAll K H xs (d :: ds) ∧
  PySem.W.AlikeAll (d :: ds) ∧ PyData.canLayAll0 (d :: ds) = true ∧ PyData.depthAll (d :: ds) ≤ 64 ∧ ∀ (i : Nat) (v : V), xs[i]? = some v → (d :: ds)[i]? = some (PySem.W.minD d ds) → Q v H
theorem vals_back {vs : List V} {us : List Value} (r : Vals vs us) : ∀ {i : Nat} {u : Value}, us[i]? = some u → ∃ v, vs[i]? = some v ∧ RelV v u := by
  induction r with
  | nil => exact fun {i u} h => nomatch h
  | cons r1 _ ih =>
    intro i u h
    cases i with
    | zero =>
      obtain rfl := Option.some.inj h
      exact ⟨_, rfl, r1⟩
    | succ i => exact ih (i := i) h
theorem minD_mem (d : PyData) : ∀ ds : List PyData, PySem.W.minD d ds ∈ d :: ds := by
  intro ds
  have z : ∀ (ds : List PyData) (a : PyData), ds.foldl (fun a y => if PySem.W.dataLt y a then y else a) a ∈ a :: ds := by
    intro ds
    induction ds with
    | nil => exact fun a => List.mem_cons_self ..
    | cons y ds ih =>
      intro a
      rcases List.mem_cons.mp (ih (if PySem.W.dataLt y a then y else a)) with e | e
      · rw [List.foldl_cons, e]
        split
        · exact List.mem_cons_of_mem _ (List.mem_cons_self ..)
        · exact List.mem_cons_self ..
      · exact List.mem_cons_of_mem _ (List.mem_cons_of_mem _ e)
  exact z ds d
theorem cr_minD (hc : X.calm = true) (hu : X.A.units + 65 < cLine) : CallR X (.builtin "min") (rMinD X.K) := by
  intro pins s τ H vs us Q I r h
  obtain ⟨a, xs, d, ds, rfl, hs, hd, hal, hlay, hdep, q⟩ := h
  obtain ⟨its, rv, hl, _⟩ := I.list hs
  rw [Vals.ref1 r]
  obtain ⟨as, hr⟩ := Dp.readsAll I (d :: ds) _ its hd rv
  have hmap : its.map (SeqAt.readOf s.heap) = d :: ds := SeqAt.readsAll_map (d :: ds) its as hlay hr
  refine PySem.W.min_list_data (I.ok.hd hc) hl.isList hr hal (by omega) fun i v h' tk bs hv hrd hk => ?_
  have hv : its[i]? = some v := by simpa using hv
  obtain ⟨x, hx, rx⟩ := vals_back rv hv
  have hi := congrArg (fun l : List PyData => l[i]?) hmap
  simp only [List.getElem?_map, hv, Option.map_some] at hi
  have all : ∀ (l : List PyData), PyData.canLayAll0 l = true → ∀ z ∈ l, z.canLay0 = true := by
    intro l
    induction l with
    | nil => exact fun _ z hz => nomatch hz
    | cons y l ih =>
      intro h z hz
      rw [PyData.canLayAll0, Bool.and_eq_true] at h
      rcases List.mem_cons.mp hz with rfl | hz
      · exact h.1
      · exact ih h.2 z hz
  obtain ⟨cs, r1, _, m1, _⟩ := PySem.W.readsAll_at hr i v hv
  have e1 := SeqAt.readOf_eq (all _ hlay _ m1) (PySem.W.reads_keeps hk r1)
  have e2 := SeqAt.readOf_eq (all _ hlay _ (minD_mem d ds)) hrd
  have e3 := SeqAt.readOf_eq (all _ hlay _ m1) r1
  refine ⟨x, H, I.kept (t' := tk) hk, rx, q i x hx (hi.symm.trans ?_)⟩
  rw [e3, ← e1, e2]
end
end K7S
end
/-! ## OR -/
section
open PySem PySem.Spec PyProof.Rows L2
namespace K7
/-! ### orders of cells -/
def at_ (o : List Nat) (c : Nat) : Nat := o.getD c 0
structure IsOrd (n : Nat) (o : List Nat) : Prop where
  len : o.length = n
  lt : ∀ c ∈ o, c < n
  nd : o.Nodup
def rowO (n : Nat) (o : List Nat) (j : Nat) : List (List Nat) := ((List.range j).filter fun c => !decide (c ∈ o)).map fun c => o ++ [c]
def stepO (n : Nat) (rows : List (List Nat)) : List (List Nat) := rows.flatMap fun o => rowO n o n
def itO (n : Nat) : Nat → List (List Nat)
  | 0 => [[]]
  | k + 1 => stepO n (itO n k)
def ords (n : Nat) : List (List Nat) := itO n n
theorem rowO_succ (n : Nat) (o : List Nat) (j : Nat) : rowO n o (j + 1) = rowO n o j ++ (if (!decide (j ∈ o)) = true then [o ++ [j]] else []) := by
  unfold rowO
  rw [range_filter, List.map_append]
  congr 1
  by_cases h : (!decide (j ∈ o)) = true
  · rw [if_pos h, if_pos h]; rfl
  · rw [if_neg h, if_neg h]; rfl
theorem rowO_len (n : Nat) (o : List Nat) (j : Nat) : (rowO n o j).length ≤ j := by
  unfold rowO
  rw [List.length_map]
  exact Nat.le_trans (List.length_filter_le _ _) (by rw [List.length_range]; exact Nat.le_refl _)
theorem step_snoc (n : Nat) (rows : List (List Nat)) (o : List Nat) : stepO n (rows ++ [o]) = stepO n rows ++ rowO n o n := by
  unfold stepO
  rw [List.flatMap_append, List.flatMap_cons, List.flatMap_nil, List.append_nil]
theorem step_len (n : Nat) : ∀ rows : List (List Nat), (stepO n rows).length ≤ rows.length * n
  | [] => Nat.zero_le _
  | o :: rows => by
    have h := step_len n rows
    have h2 := rowO_len n o n
    show (rowO n o n ++ stepO n rows).length ≤ _
    rw [List.length_append, List.length_cons, Nat.succ_mul]
    omega
theorem itO_len : ∀ n : Fin 6, ∀ k : Fin 6, k.val ≤ n.val → (itO n.val k.val).length ≤ 120 := by decide +kernel
theorem mem_rowO {n : Nat} {o x : List Nat} {j : Nat} : x ∈ rowO n o j ↔ ∃ c, c < j ∧ c ∉ o ∧ x = o ++ [c] := by
  unfold rowO
  rw [List.mem_map]
  constructor
  · rintro ⟨c, hc, rfl⟩
    rw [List.mem_filter, List.mem_range] at hc
    exact ⟨c, hc.1, by simpa using hc.2, rfl⟩
  · rintro ⟨c, h1, h2, rfl⟩
    exact ⟨c, List.mem_filter.mpr ⟨List.mem_range.mpr h1, by simpa using h2⟩, rfl⟩
theorem mem_itO (n : Nat) : ∀ (k : Nat) (x : List Nat), x ∈ itO n k ↔ x.length = k ∧ (∀ c ∈ x, c < n) ∧ x.Nodup
  | 0, x => by
    show x ∈ [[]] ↔ _
    rw [List.mem_singleton]
    constructor
    · rintro rfl
      exact ⟨rfl, fun c hc => (nomatch hc), List.nodup_nil⟩
    · exact fun h => List.length_eq_zero_iff.mp h.1
  | k + 1, x => by
    show x ∈ stepO n (itO n k) ↔ _
    unfold stepO
    rw [List.mem_flatMap]
    constructor
    · rintro ⟨o, ho, hx⟩
      obtain ⟨c, hc, hno, rfl⟩ := mem_rowO.mp hx
      obtain ⟨h1, h2, h3⟩ := (mem_itO n k o).mp ho
      refine ⟨by rw [List.length_append, h1]; rfl, fun d hd => ?_, ?_⟩
      · rcases List.mem_append.mp hd with hd | hd
        · exact h2 d hd
        · rw [List.mem_singleton.mp hd]; exact hc
      · rw [List.nodup_append]
        exact ⟨h3, List.nodup_cons.mpr ⟨List.not_mem_nil, List.nodup_nil⟩, fun a ha b hb e => hno (by rw [← List.mem_singleton.mp hb, ← e]; exact ha)⟩
    · rintro ⟨h1, h2, h3⟩
      have ne : x ≠ [] := fun e => by rw [e] at h1; cases h1
      have ex := List.dropLast_concat_getLast ne
      refine ⟨x.dropLast, (mem_itO n k _).mpr ⟨by rw [List.length_dropLast, h1]; rfl, fun c hc => h2 c (List.dropLast_subset x hc), h3.sublist (List.dropLast_sublist x)⟩, mem_rowO.mpr ⟨x.getLast ne, h2 _ (List.getLast_mem ne), fun m => ?_, ex.symm⟩⟩
      rw [← ex, List.nodup_append] at h3
      exact h3.2.2 _ m _ (List.mem_singleton.mpr rfl) rfl
theorem mem_ords {n : Nat} {x : List Nat} : x ∈ ords n ↔ IsOrd n x := (mem_itO n n x).trans ⟨fun h => ⟨h.1, h.2.1, h.2.2⟩, fun h => ⟨h.len, h.lt, h.nd⟩⟩
theorem IsOrd.perm {n : Nat} {o : List Nat} (h : IsOrd n o) : o.Perm (List.range n) := by
  refine (List.perm_ext_iff_of_nodup h.nd List.nodup_range).mpr fun d => ⟨fun m => List.mem_range.mpr (h.lt d m), fun m => ?_⟩
  refine Classical.byContradiction fun no => ?_
  have z := List.Nodup.length_le_of_subset (l₁ := d :: o) (l₂ := List.range n) (List.nodup_cons.mpr ⟨no, h.nd⟩) fun c hc => by
    rcases List.mem_cons.mp hc with rfl | hc
    · exact m
    · exact List.mem_range.mpr (h.lt c hc)
  rw [List.length_cons, List.length_range, h.len] at z
  omega
theorem at_get {o : List Nat} {c : Nat} (h : c < o.length) : at_ o c = o[c] := by
  unfold at_
  rw [List.getD_eq_getElem?_getD, List.getElem?_eq_getElem h]
  rfl
theorem IsOrd.at_lt {n : Nat} {o : List Nat} (h : IsOrd n o) {c : Nat} (hc : c < n) : at_ o c < n := by
  have l : c < o.length := by rw [h.len]; exact hc
  rw [at_get l]
  exact h.lt _ (List.getElem_mem l)
theorem IsOrd.inj {n : Nat} {o : List Nat} (h : IsOrd n o) {c d : Nat} (hc : c < n) (hd : d < n) (e : at_ o c = at_ o d) : c = d := by
  have l1 : c < o.length := by rw [h.len]; exact hc
  have l2 : d < o.length := by rw [h.len]; exact hd
  rw [at_get l1, at_get l2] at e
  exact (List.getElem_inj h.nd).mp e
theorem IsOrd.surj {n : Nat} {o : List Nat} (h : IsOrd n o) {d : Nat} (hd : d < n) : ∃ c, c < n ∧ at_ o c = d := by
  have m : d ∈ o := h.perm.mem_iff.mpr (List.mem_range.mpr hd)
  obtain ⟨c, hc, e⟩ := List.getElem_of_mem m
  exact ⟨c, by rw [← h.len]; exact hc, by rw [at_get hc]; exact e⟩
theorem ord_map {n : Nat} (f : Nat → Nat) (h1 : ∀ c, c < n → f c < n) (h2 : ∀ c d, c < n → d < n → f c = f d → c = d) : IsOrd n ((List.range n).map f) ∧ ∀ c, c < n → at_ ((List.range n).map f) c = f c := by
  refine ⟨⟨by rw [List.length_map, List.length_range], fun c hc => ?_, ?_⟩, fun c hc => ?_⟩
  · obtain ⟨d, hd, rfl⟩ := List.mem_map.mp hc
    exact h1 d (List.mem_range.mp hd)
  · rw [List.nodup_iff_pairwise_ne, List.pairwise_map]
    refine (List.nodup_iff_pairwise_ne.mp (List.nodup_range (n := n))).imp_of_mem fun {a b} ha hb ne e => ne (h2 a b (List.mem_range.mp ha) (List.mem_range.mp hb) e)
  · rw [at_get (by rw [List.length_map, List.length_range]; exact hc), List.getElem_map, List.getElem_range]
/-- one order behind another -/
theorem ord_comp {n : Nat} {o p : List Nat} (ho : IsOrd n o) (hp : IsOrd n p) : ∃ q, IsOrd n q ∧ ∀ c, c < n → at_ q c = at_ p (at_ o c) := by
  obtain ⟨h1, h2⟩ := ord_map (n := n) (fun c => at_ p (at_ o c)) (fun c hc => hp.at_lt (ho.at_lt hc)) fun c d hc hd e => ho.inj hc hd (hp.inj (ho.at_lt hc) (ho.at_lt hd) e)
  exact ⟨_, h1, h2⟩
/-- the order that leads back -/
theorem ord_inv {n : Nat} {o : List Nat} (ho : IsOrd n o) : ∃ q, IsOrd n q ∧ ∀ c, c < n → at_ q (at_ o c) = c := by
  have hx : ∀ d, d < n → o.idxOf d < n ∧ at_ o (o.idxOf d) = d := fun d hd => by
    have m : d ∈ o := ho.perm.mem_iff.mpr (List.mem_range.mpr hd)
    have l := List.idxOf_lt_length_of_mem m
    refine ⟨by rw [← ho.len]; exact l, ?_⟩
    rw [at_get l]
    exact List.getElem_idxOf l
  obtain ⟨h1, h2⟩ := ord_map (n := n) (fun d => o.idxOf d) (fun d hd => (hx d hd).1) fun c d hc hd e => by
    rw [← (hx c hc).2, ← (hx d hd).2]
    exact congrArg (at_ o) e
  refine ⟨_, h1, fun c hc => ?_⟩
  rw [h2 _ (ho.at_lt hc)]
  exact ho.inj ((hx _ (ho.at_lt hc)).1) hc (hx _ (ho.at_lt hc)).2
/-! ### lands led -/
abbrev Part := List (Nat × Nat) × List Nat
def leB (a b : Nat × Nat) : Bool := decide (a.1 < b.1 ∨ (a.1 = b.1 ∧ a.2 ≤ b.2))
def ledE (o : List Nat) (es : List (Nat × Nat)) : List (Nat × Nat) := (es.map fun e => KL.srt (at_ o e.1, at_ o e.2)).mergeSort leB
def ledR (o : List Nat) (rd : List Nat) : List Nat := (rd.map (at_ o)).mergeSort fun a b => decide (a ≤ b)
def led (o : List Nat) (x : Part) : Part := (ledE o x.1, ledR o x.2)
theorem ledE_perm (o : List Nat) (es : List (Nat × Nat)) : (ledE o es).Perm (es.map fun e => KL.srt (at_ o e.1, at_ o e.2)) := List.mergeSort_perm _ _
theorem ledR_perm (o rd : List Nat) : (ledR o rd).Perm (rd.map (at_ o)) := List.mergeSort_perm _ _
theorem ledE_sorted (o : List Nat) (es : List (Nat × Nat)) : (ledE o es).Pairwise KL.lexLe := by
  have h := List.pairwise_mergeSort (le := leB) (fun a b c h1 h2 => by unfold leB at *; simp only [decide_eq_true_eq] at *; omega) (fun a b => by unfold leB; simp only [Bool.or_eq_true, decide_eq_true_eq]; omega) (es.map fun e => KL.srt (at_ o e.1, at_ o e.2))
  exact h.imp fun {a b} e => of_decide_eq_true e
theorem ledR_sorted (o rd : List Nat) : (ledR o rd).Pairwise (· ≤ ·) := by
  have h := List.pairwise_mergeSort (le := fun a b : Nat => decide (a ≤ b)) (fun a b c h1 h2 => by simp only [decide_eq_true_eq] at *; omega) (fun a b => by simp only [Bool.or_eq_true, decide_eq_true_eq]; omega) (rd.map (at_ o))
  exact h.imp fun {a b} e => of_decide_eq_true e
theorem ledE_is {o : List Nat} {es ys : List (Nat × Nat)} (p : ys.Perm (es.map fun e => KL.srt (at_ o e.1, at_ o e.2))) (hs : ys.Pairwise KL.lexLe) : ys = ledE o es :=
  KL.uniq KL.lex_anti (p.trans (ledE_perm o es).symm) hs (ledE_sorted o es)
theorem ledR_is {o rd ys : List Nat} (p : ys.Perm (rd.map (at_ o))) (hs : ys.Pairwise (· ≤ ·)) : ys = ledR o rd :=
  KL.uniq (fun a b (h1 : a ≤ b) (h2 : b ≤ a) => Nat.le_antisymm h1 h2) (p.trans (ledR_perm o rd).symm) hs (ledR_sorted o rd)
/-- the parts that a land has -/
structure PartOk (n : Nat) (x : Part) : Prop where
  ok : LandOk n x.1
  rlt : ∀ c ∈ x.2, c < n
  rnd : x.2.Nodup
  rso : x.2.Pairwise (· ≤ ·)
  r0 : 0 < x.2.length
  rn : x.2.length < n
theorem srt_srt (o : List Nat) (a b : Nat) : KL.srt (at_ o (KL.srt (a, b)).1, at_ o (KL.srt (a, b)).2) = KL.srt (at_ o a, at_ o b) := by
  unfold KL.srt
  simp only
  rcases Nat.le_total a b with h | h
  · rw [Nat.min_eq_left h, Nat.max_eq_right h]
  · rw [Nat.min_eq_right h, Nat.max_eq_left h, Nat.min_comm, Nat.max_comm]
theorem led_led {n : Nat} {o p q : List Nat} {x : Part} (hx : PartOk n x) (hq : ∀ c, c < n → at_ q c = at_ p (at_ o c)) : led p (led o x) = led q x := by
  obtain ⟨es, rd⟩ := x
  refine Prod.ext ?_ ?_
  · refine ledE_is ?_ (ledE_sorted _ _)
    refine (ledE_perm p (ledE o es)).trans (((ledE_perm o es).map _).trans ?_)
    rw [List.map_map]
    refine List.Perm.of_eq (List.map_congr_left fun e he => ?_)
    obtain ⟨h1, h2⟩ := hx.ok.lt e he
    show KL.srt (at_ p (KL.srt (at_ o e.1, at_ o e.2)).1, at_ p (KL.srt (at_ o e.1, at_ o e.2)).2) = _
    rw [srt_srt, hq _ (by omega), hq _ h2]
  · refine ledR_is ?_ (ledR_sorted _ _)
    refine (ledR_perm p (ledR o rd)).trans (((ledR_perm o rd).map _).trans ?_)
    rw [List.map_map]
    exact List.Perm.of_eq (List.map_congr_left fun c hc => (hq c (hx.rlt c hc)).symm)
theorem led_back {n : Nat} {o : List Nat} {x : Part} (hx : PartOk n x) (ho : ∀ c, c < n → at_ o c = c) : led o x = x := by
  obtain ⟨es, rd⟩ := x
  refine Prod.ext ?_ ?_
  · refine (ledE_is ?_ (hx.ok.sorted.imp fun h => h)).symm
    refine List.Perm.of_eq ((List.map_id es).symm.trans (List.map_congr_left fun e he => ?_))
    obtain ⟨h1, h2⟩ := hx.ok.lt e he
    rw [ho _ (by omega), ho _ h2, KL.srt_of h1]
    rfl
  · refine (ledR_is ?_ hx.rso).symm
    exact List.Perm.of_eq ((List.map_id rd).symm.trans (List.map_congr_left fun c hc => (ho c (hx.rlt c hc)).symm))
theorem led_conn {n : Nat} {o : List Nat} {es : List (Nat × Nat)} (ho : IsOrd n o) (n2 : 0 < n) (h : KL.Conn n es) (lt : ∀ e ∈ es, e.1 < e.2 ∧ e.2 < n) : KL.Conn n (ledE o es) := by
  intro S h0 he c hc
  have edge : ∀ e ∈ es, S (at_ o e.1) = S (at_ o e.2) := fun e m => by
    have z := he (KL.srt (at_ o e.1, at_ o e.2)) ((ledE_perm o es).mem_iff.mpr (List.mem_map.mpr ⟨e, m, rfl⟩))
    unfold KL.srt at z
    simp only at z
    rcases Nat.le_total (at_ o e.1) (at_ o e.2) with y | y
    · rw [Nat.min_eq_left y, Nat.max_eq_right y] at z; exact z
    · rw [Nat.min_eq_right y, Nat.max_eq_left y] at z; exact z.symm
  have all := h (fun c => S (at_ o c) == S (at_ o 0)) (by simp) fun e m => by
    show (S (at_ o e.1) == S (at_ o 0)) = (S (at_ o e.2) == S (at_ o 0))
    rw [edge e m]
  obtain ⟨c0, k0, e0⟩ := ho.surj n2
  have z0 := all c0 k0
  rw [e0, h0] at z0
  obtain ⟨c1, k1, e1⟩ := ho.surj hc
  have z1 := all c1 k1
  rw [e1] at z1
  have z0 : true = S (at_ o 0) := by simpa using z0
  have z1 : S c = S (at_ o 0) := by simpa using z1
  rw [z1, ← z0]
theorem led_cos {n : Nat} {o : List Nat} {es : List (Nat × Nat)} (ho : IsOrd n o) (n5 : n ≤ 5) (ok : LandOk n es) (h32 : es.length ≤ 32) : Cos n (ledE o es) ∧ (ledE o es).map KL.srt = ledE o es := by
  have mem : ∀ c ∈ ledE o es, ∃ e ∈ es, c = KL.srt (at_ o e.1, at_ o e.2) := fun c hc => by
    obtain ⟨e, he, rfl⟩ := List.mem_map.mp ((ledE_perm o es).mem_iff.mp hc)
    exact ⟨e, he, rfl⟩
  have lt : ∀ c ∈ ledE o es, c.1 < c.2 ∧ c.2 < n := fun c hc => by
    obtain ⟨e, he, rfl⟩ := mem c hc
    obtain ⟨h1, h2⟩ := ok.lt e he
    have a := ho.at_lt (c := e.1) (by omega)
    have b := ho.at_lt h2
    have ne : at_ o e.1 ≠ at_ o e.2 := fun z => by
      have := ho.inj (by omega) h2 z
      omega
    refine ⟨KL.srt_lt ne, ?_⟩
    unfold KL.srt
    simp only
    omega
  have em : (ledE o es).map KL.srt = ledE o es := (List.map_congr_left fun c hc => KL.srt_of (lt c hc).1).trans (List.map_id _)
  refine ⟨⟨fun c hc => ⟨by have := lt c hc; omega, (lt c hc).2, by have := lt c hc; omega⟩, ?_, by rw [(ledE_perm o es).length_eq, List.length_map]; exact h32⟩, em⟩
  rw [em, (ledE_perm o es).nodup_iff, List.nodup_iff_pairwise_ne, List.pairwise_map]
  refine (List.nodup_iff_pairwise_ne.mp ok.nd).imp_of_mem fun {a b} ha hb ne e => ne ?_
  obtain ⟨a1, a2⟩ := ok.lt a ha
  obtain ⟨b1, b2⟩ := ok.lt b hb
  unfold KL.srt at e
  injection e with e1 e2
  simp only at e1 e2
  have i1 := fun z => ho.inj (c := a.1) (d := b.1) (by omega) (by omega) z
  have i2 := fun z => ho.inj (c := a.2) (d := b.2) (by omega) (by omega) z
  have i3 := fun z => ho.inj (c := a.1) (d := b.2) (by omega) (by omega) z
  have i4 := fun z => ho.inj (c := a.2) (d := b.1) (by omega) (by omega) z
  have cs : (at_ o a.1 = at_ o b.1 ∧ at_ o a.2 = at_ o b.2) ∨ (at_ o a.1 = at_ o b.2 ∧ at_ o a.2 = at_ o b.1) := by omega
  rcases cs with ⟨z1, z2⟩ | ⟨z1, z2⟩
  · exact Prod.ext (i1 z1) (i2 z2)
  · have := i3 z1
    have := i4 z2
    omega
theorem led_ok {n : Nat} {o : List Nat} {x : Part} (ho : IsOrd n o) (n2 : 0 < n) (n5 : n ≤ 5) (h32 : x.1.length ≤ 32) (hx : PartOk n x) : PartOk n (led o x) := by
  obtain ⟨es, rd⟩ := x
  obtain ⟨c, em⟩ := led_cos ho n5 hx.ok h32
  have rp := ledR_perm o rd
  refine ⟨⟨fun e he => ?_, ?_, ledE_sorted o es, led_conn ho n2 hx.ok.conn hx.ok.lt⟩, fun c hc => ?_, ?_, ledR_sorted o rd, ?_, ?_⟩
  · have z := c.lt e he
    have := KL.srt_le e
    have e1 : KL.srt e = e := by
      obtain ⟨e', he', rfl⟩ := List.mem_map.mp ((ledE_perm o es).mem_iff.mp he)
      unfold KL.srt
      simp only
      refine Prod.ext ?_ ?_ <;> simp only <;> omega
    rw [e1] at this
    omega
  · have := c.nd
    rw [em] at this
    exact this
  · obtain ⟨d, hd, rfl⟩ := List.mem_map.mp (rp.mem_iff.mp hc)
    exact ho.at_lt (hx.rlt d hd)
  · show (ledR o rd).Nodup
    rw [rp.nodup_iff, List.nodup_iff_pairwise_ne, List.pairwise_map]
    exact (List.nodup_iff_pairwise_ne.mp hx.rnd).imp_of_mem fun {a b} ha hb ne e => ne (ho.inj (hx.rlt a ha) (hx.rlt b hb) e)
  · show 0 < (ledR o rd).length
    rw [rp.length_eq, List.length_map]
    exact hx.r0
  · show (ledR o rd).length < n
    rw [rp.length_eq, List.length_map]
    exact hx.rn
/-- alike: an order leads the one to the other -/
def AlikeP (n : Nat) (x y : Part) : Prop := ∃ o ∈ ords n, led o x = y
theorem alike_symm {n : Nat} {x y : Part} (hx : PartOk n x) (h : AlikeP n x y) : AlikeP n y x := by
  obtain ⟨o, ho, rfl⟩ := h
  have io := mem_ords.mp ho
  obtain ⟨q, iq, e⟩ := ord_inv io
  refine ⟨q, mem_ords.mpr iq, ?_⟩
  obtain ⟨h1, h2⟩ := ord_map (n := n) (fun c => c) (fun c hc => hc) (fun c d _ _ e => e)
  rw [led_led hx (q := (List.range n).map fun c => c) fun c hc => by rw [h2 c hc, e c hc]]
  exact led_back hx h2
theorem alike_trans {n : Nat} {x y z : Part} (hx : PartOk n x) (h : AlikeP n x y) (h' : AlikeP n y z) : AlikeP n x z := by
  obtain ⟨o, ho, rfl⟩ := h
  obtain ⟨p, hp, rfl⟩ := h'
  obtain ⟨q, iq, e⟩ := ord_comp (mem_ords.mp ho) (mem_ords.mp hp)
  exact ⟨q, mem_ords.mpr iq, (led_led hx e).symm⟩
end K7
end
/-! ## ORM -/
section
open PySem PySem.Spec PyProof.Rows L2
namespace K7
/-! ### data of lands -/
theorem eqv_ints : ∀ l m : List Nat, PyData.eqvAll (l.map fun c => PyData.int (c : Nat)) (m.map fun c => PyData.int (c : Nat)) = decide (l = m)
  | [], [] => rfl
  | [], _ :: _ => by simp [PyData.eqvAll]
  | _ :: _, [] => by simp [PyData.eqvAll]
  | x :: l, y :: m => by
    rw [List.map_cons, List.map_cons, PyData.eqvAll, eqv_ints l m]
    by_cases e : x = y
    · subst e
      simp [PyData.eqv]
    · have e2 : ¬ ((x : Nat) : Int) = (y : Nat) := by omega
      simp [PyData.eqv, e, e2]
theorem eqv_intD (l m : List Nat) : PyData.eqv (intD l) (intD m) = decide (l = m) := by
  unfold intD
  rw [PyData.eqv, eqv_ints]
theorem eqvAll_rows : ∀ us vs : List (List Nat), PyData.eqvAll (us.map intD) (vs.map intD) = decide (us = vs)
  | [], [] => rfl
  | [], _ :: _ => by simp [PyData.eqvAll]
  | _ :: _, [] => by simp [PyData.eqvAll]
  | u :: us, v :: vs => by
    rw [List.map_cons, List.map_cons, PyData.eqvAll, eqv_intD, eqvAll_rows us vs]
    by_cases h1 : u = v <;> by_cases h2 : us = vs <;> simp [h1, h2]
theorem pairs_inj : ∀ {es fs : List (Nat × Nat)}, pairs es = pairs fs → es = fs
  | [], [], _ => rfl
  | [], _ :: _, h => by cases h
  | _ :: _, [], h => by cases h
  | (a, b) :: es, (c, d) :: fs, h => by
    have h : [a, b] :: pairs es = [c, d] :: pairs fs := h
    injection h with h1 h2
    injection h1 with h1 h3
    injection h3 with h3
    rw [h1, h3, pairs_inj h2]
theorem eqv_rows (es fs : List (Nat × Nat)) : PyData.eqvAll ((pairs es).map intD) ((pairs fs).map intD) = decide (es = fs) := by
  rw [eqvAll_rows]
  exact decide_eq_decide.mpr ⟨pairs_inj, fun h => by rw [h]⟩
theorem shapedT_rows (ls : List (List Nat)) : SeqAt.shaped (.tuple (ls.map intD)) = true := by
  have z : ((PyData.canLay0 (.list (ls.map intD))) && decide (PyData.depth (.list (ls.map intD)) ≤ 64)) = true := shaped_rows ls
  show ((PyData.canLay0 (.tuple (ls.map intD))) && decide (PyData.depth (.tuple (ls.map intD)) ≤ 64)) = true
  simpa [PyData.canLay0, PyData.depth] using z
def rowsT (us : List (List Nat)) : PyData := .tuple (us.map intD)
def partD (x : Part) : PyData := .tuple [rowsT (pairs x.1), intD x.2]
theorem eqv_part (x y : Part) : PyData.eqv (partD x) (partD y) = decide (x = y) := by
  unfold partD rowsT
  rw [PyData.eqv, PyData.eqvAll, PyData.eqvAll, PyData.eqvAll, PyData.eqv, eqv_rows, eqv_intD]
  obtain ⟨a, b⟩ := x
  obtain ⟨c, d⟩ := y
  by_cases h1 : a = c <;> by_cases h2 : b = d <;> simp [h1, h2]
theorem canLay_rows (us : List (List Nat)) : PyData.canLayAll0 (us.map intD) = true ∧ PyData.depthAll (us.map intD) ≤ 1 := by
  induction us with
  | nil => exact ⟨rfl, Nat.zero_le _⟩
  | cons u us ih =>
    have hu : ∀ l : List Nat, PyData.canLayAll0 (l.map fun c => PyData.int (c : Nat)) = true ∧ PyData.depthAll (l.map fun c => PyData.int (c : Nat)) = 0 := by
      intro l
      induction l with
      | nil => exact ⟨rfl, rfl⟩
      | cons a l ih => exact ⟨by simp [PyData.canLayAll0, PyData.canLay0, ih.1], by simp [PyData.depthAll, PyData.depth, ih.2]⟩
    refine ⟨?_, ?_⟩
    · rw [List.map_cons, PyData.canLayAll0, ih.1, Bool.and_true]
      unfold intD
      simpa [PyData.canLay0] using (hu u).1
    · rw [List.map_cons, PyData.depthAll]
      have : PyData.depth (intD u) = 1 := by unfold intD; simp [PyData.depth, (hu u).2]
      omega
theorem lay_part (x : Part) : PyData.canLay0 (partD x) = true ∧ PyData.depth (partD x) ≤ 3 := by
  obtain ⟨h1, h2⟩ := canLay_rows (pairs x.1)
  obtain ⟨h3, h4⟩ := canLay_rows [x.2]
  have e1 : PyData.canLay0 (intD x.2) = true := by
    rw [List.map_cons, PyData.canLayAll0, Bool.and_eq_true] at h3
    exact h3.1
  have e2 : PyData.depth (intD x.2) ≤ 1 := by
    rw [List.map_cons, PyData.depthAll] at h4
    omega
  unfold partD rowsT
  refine ⟨?_, ?_⟩
  · rw [PyData.canLay0, PyData.canLayAll0, PyData.canLayAll0, PyData.canLayAll0, PyData.canLay0, h1, e1]
    rfl
  · simp only [PyData.depth, PyData.depthAll]
    omega
theorem shaped_part (x : Part) : SeqAt.shaped (partD x) = true := by
  obtain ⟨h1, h2⟩ := lay_part x
  show (PyData.canLay0 (partD x) && decide (PyData.depth (partD x) ≤ 64)) = true
  rw [h1, decide_eq_true (by omega)]
  rfl
theorem lay_parts : ∀ xs : List Part, PyData.canLayAll0 (xs.map partD) = true ∧ PyData.depthAll (xs.map partD) ≤ 64
  | [] => ⟨rfl, Nat.zero_le _⟩
  | x :: xs => by
    obtain ⟨h1, h2⟩ := lay_parts xs
    obtain ⟨h3, h4⟩ := lay_part x
    refine ⟨by rw [List.map_cons, PyData.canLayAll0, h3, h1]; rfl, ?_⟩
    rw [List.map_cons, PyData.depthAll]
    omega
theorem alike_ints : ∀ u v : List Nat, PySem.W.alikeAll (u.map fun c => PyData.int (c : Nat)) (v.map fun c => PyData.int (c : Nat)) = true
  | [], _ => by cases ‹List Nat› <;> rfl
  | _ :: _, [] => rfl
  | a :: u, b :: v => by
    show (PySem.W.alike (.int a) (.int b) && PySem.W.alikeAll _ _) = true
    rw [alike_ints u v]
    rfl
theorem alike_intD (u v : List Nat) : PySem.W.alike (intD u) (intD v) = true := alike_ints u v
theorem alike_rowsT : ∀ us vs : List (List Nat), PySem.W.alikeAll (us.map intD) (vs.map intD) = true
  | [], _ => by cases ‹List (List Nat)› <;> rfl
  | _ :: _, [] => rfl
  | a :: u, b :: v => by
    show (PySem.W.alike (intD a) (intD b) && PySem.W.alikeAll _ _) = true
    rw [alike_rowsT u v, alike_intD]
    rfl
theorem alike_part (x y : Part) : PySem.W.alike (partD x) (partD y) = true := by
  show (PySem.W.alikeAll _ _ && (PySem.W.alike (intD x.2) (intD y.2) && true)) = true
  rw [alike_rowsT, alike_intD]
  rfl
theorem alike_parts (xs : List Part) : PySem.W.AlikeAll (xs.map partD) := by
  refine ⟨fun x hx y hy => ?_, fun x hx => ?_⟩
  · obtain ⟨u, _, rfl⟩ := List.mem_map.mp hx
    obtain ⟨v, _, rfl⟩ := List.mem_map.mp hy
    exact alike_part u v
  · obtain ⟨u, _, rfl⟩ := List.mem_map.mp hx
    intro e
    cases e
/-! ### the least -/
open PySem.W in
theorem minD_low : ∀ (ds : List PyData) (d : PyData), ∀ y ∈ d :: ds, dataLt y (minD d ds) = false
  | [], d, y, hy => by
    rw [List.mem_singleton.mp hy]
    exact lex_irrefl _
  | e :: ds, d, y, hy => by
    have step : minD d (e :: ds) = minD (if dataLt e d then e else d) ds := rfl
    rw [step]
    by_cases h : dataLt e d = true
    · rw [if_pos h]
      have ih := minD_low ds e
      rcases List.mem_cons.mp hy with rfl | hy
      · refine Bool.eq_false_iff.mpr fun z => ?_
        have t : dataLt e (minD e ds) = true := lex_trans _ _ _ h z
        rw [ih e (List.mem_cons_self ..)] at t
        cases t
      · exact ih y hy
    · rw [if_neg h]
      have ih := minD_low ds d
      rcases List.mem_cons.mp hy with rfl | hy
      · exact ih _ (List.mem_cons_self ..)
      · rcases List.mem_cons.mp hy with rfl | hy
        · refine Bool.eq_false_iff.mpr fun z => ?_
          have low := ih d (List.mem_cons_self ..)
          by_cases h2 : dataLt d y = true
          · have t : dataLt d (minD d ds) = true := lex_trans _ _ _ h2 z
            rw [low] at t
            cases t
          · have eq : keyToks d = keyToks y := lex_total _ _ (Bool.eq_false_iff.mpr h2) (Bool.eq_false_iff.mpr h)
            have t : dataLt d (minD d ds) = dataLt y (minD d ds) := by unfold dataLt; rw [eq]
            rw [low, z] at t
            cases t
        · exact ih y (List.mem_cons_of_mem _ hy)
open PySem.W in
theorem minD_same {d e : PyData} {ds es : List PyData} (h1 : ∀ y ∈ d :: ds, y ∈ e :: es) (h2 : ∀ y ∈ e :: es, y ∈ d :: ds) (al : alike (minD d ds) (minD e es) = true) : PyData.eqv (minD d ds) (minD e es) = true := by
  have m1 := K7S.minD_mem d ds
  have m2 := K7S.minD_mem e es
  have eq : keyToks (minD d ds) = keyToks (minD e es) := lex_total _ _ (minD_low es e _ (h1 _ m1)) (minD_low ds d _ (h2 _ m2))
  refine Classical.byContradiction fun no => ?_
  have z := (toks_eqv _ _ al).2 (Bool.eq_false_iff.mpr no) [] [Sum.inl 0]
  rw [eq, lex_pre, lex_irrefl] at z
  cases z
/-- the least of parts -/
def minPart (v : Part) (ws : List Part) : Part := ws.foldl (fun a y => if PySem.W.dataLt (partD y) (partD a) then y else a) v
theorem minD_part : ∀ (ws : List Part) (v : Part), PySem.W.minD (partD v) (ws.map partD) = partD (minPart v ws)
  | [], v => rfl
  | y :: ws, v => by
    show PySem.W.minD (if PySem.W.dataLt (partD y) (partD v) then partD y else partD v) (ws.map partD) = partD (minPart (if PySem.W.dataLt (partD y) (partD v) then y else v) ws)
    rw [← minD_part ws]
    congr 1
    split <;> rfl
theorem partD_inj {x y : Part} (h : partD x = partD y) : x = y := by
  have z := eqv_part x y
  rw [h] at z
  have w := eqv_part y y
  rw [decide_eq_true rfl] at w
  rw [w] at z
  exact of_decide_eq_true z.symm
theorem minPart_mem (v : Part) (ws : List Part) : minPart v ws ∈ v :: ws := by
  have z := K7S.minD_mem (partD v) (ws.map partD)
  rw [minD_part] at z
  obtain ⟨y, hy, e⟩ := List.mem_map.mp (show partD (minPart v ws) ∈ (v :: ws).map partD from z)
  rw [← partD_inj e]
  exact hy
theorem minPart_same {v u : Part} {ws us : List Part} (h1 : ∀ y ∈ v :: ws, y ∈ u :: us) (h2 : ∀ y ∈ u :: us, y ∈ v :: ws) : minPart v ws = minPart u us := by
  have z := minD_same (d := partD v) (ds := ws.map partD) (e := partD u) (es := us.map partD) (fun y hy => ?_) (fun y hy => ?_) (by rw [minD_part, minD_part]; exact alike_part _ _)
  · rw [minD_part, minD_part, eqv_part] at z
    exact of_decide_eq_true z
  · obtain ⟨x, hx, rfl⟩ := List.mem_map.mp (show y ∈ (v :: ws).map partD from hy)
    exact List.mem_map.mpr ⟨x, h1 x hx, rfl⟩
  · obtain ⟨x, hx, rfl⟩ := List.mem_map.mp (show y ∈ (u :: us).map partD from hy)
    exact List.mem_map.mpr ⟨x, h2 x hx, rfl⟩
/-- all that a land can be led to -/
def leds (n : Nat) (x : Part) : List Part := (ords n).map fun o => led o x
def leastP (n : Nat) (x : Part) : Part := match leds n x with
  | [] => x
  | v :: ws => minPart v ws
theorem leds_ne (n : Nat) (x : Part) : leds n x ≠ [] := by
  obtain ⟨h1, _⟩ := ord_map (n := n) (fun c => c) (fun c hc => hc) (fun c d _ _ e => e)
  intro e
  have m : led ((List.range n).map fun c => c) x ∈ leds n x := List.mem_map.mpr ⟨_, mem_ords.mpr h1, rfl⟩
  rw [e] at m
  cases m
theorem mem_leds {n : Nat} {x y : Part} : y ∈ leds n x ↔ AlikeP n x y := by
  unfold leds AlikeP
  rw [List.mem_map]
theorem leastP_mem (n : Nat) (x : Part) : AlikeP n x (leastP n x) := by
  rw [← mem_leds]
  unfold leastP
  cases h : leds n x with
  | nil => exact absurd h (leds_ne n x)
  | cons v ws => exact minPart_mem v ws
theorem leastP_same {n : Nat} {x y : Part} (hx : PartOk n x) (h : AlikeP n x y) (hy : PartOk n y) : leastP n x = leastP n y := by
  have h1 : ∀ z ∈ leds n x, z ∈ leds n y := fun z hz => mem_leds.mpr (alike_trans hy (alike_symm hx h) (mem_leds.mp hz))
  have h2 : ∀ z ∈ leds n y, z ∈ leds n x := fun z hz => mem_leds.mpr (alike_trans hx h (mem_leds.mp hz))
  unfold leastP
  cases e1 : leds n x with
  | nil => exact absurd e1 (leds_ne n x)
  | cons v ws =>
    cases e2 : leds n y with
    | nil => exact absurd e2 (leds_ne n y)
    | cons u us =>
      rw [e1, e2] at h1 h2
      exact minPart_same h1 h2
theorem least_iff {n : Nat} {x y : Part} (n2 : 0 < n) (n5 : n ≤ 5) (x32 : x.1.length ≤ 32) (hx : PartOk n x) (hy : PartOk n y) : leastP n x = leastP n y ↔ AlikeP n x y := by
  refine ⟨fun e => ?_, fun h => leastP_same hx h hy⟩
  have a := leastP_mem n x
  have b := leastP_mem n y
  rw [← e] at b
  exact alike_trans hx a (alike_symm hy b)
end K7
end
/-! ## EN -/
section
/-! x == y, x != y by x's own __eq__, x an instance of an own class without a __ne__. -/
namespace K7E
open PySem PySem.Spec PyProof.Rows L2
theorem slot_obj_ne : Slot "object" "__ne__" "object.__ne__" := .of (owner := "object") (n := "__ne__") (by rw [typeLookup_type, builtinLookup_eq_fast]; kernel_rfl) (by decide +kernel) (by decide +kernel) (by decide +kernel) (.inl (by decide +kernel)) (by rw [isSubtype_type]; kernel_rfl)
section
variable {prog : Program} {w : World} {A : Around} {E : Value → Shared → Prop} {s : Shared} {K : PySem.W.Frag} {x C L f : Addr} {h₀ : Heap} {m : Str → Option Value} {ox : Obj} {od : Option Obj} {b tb : Value}
open PySem.W in
theorem ne_K {Q : Value → Shared → Prop} (hu : A.units + 1 < cLine) (FF : Fr h₀ L s.heap m) (X₀ : K.In h₀) (I : InstAt s.heap x ox C od) (hb : Looks (model prog w) s.heap (typeOf b) tb) (hn : notFirst K C tb = true) (hm : mroIn K C (.type "object") = some true)
    (hs : findIn K (.ref C) "__ne__" = some (some (.builtin "object.__ne__"))) (he : findIn K (.ref C) "__eq__" = some (some (.ref f))) (hf : isFn K (.ref f) = true)
    (h : wpAny (model prog w) A.in1 (call (.ref f) [.ref x, b]) (fun v s' => ∃ c, v = .bool c ∧ Q (.bool (!c)) s') E s) : wpAny (model prog w) A (richCompare .NotEq (.ref x) b) Q E s := by
  have X := X₀.keeps FF.keep
  have inner : wpAny (model prog w) A.in1 (Builtin.«object.__ne__» ⟨[.ref x, b], []⟩) (fun fin s' => ∃ c, fin = .done (.ret (.bool (!c))) ∧ Q (.bool (!c)) s') E s := by
    unfold Builtin.«object.__ne__»
    repeat (first
      | with_reducible refine wpAny_cRoomFor (show A.in1.units < cLine from hu) ?_
      | (refine wpAny_bind (m := callSpecialIfBound? (.ref x) (Str.ofString "__eq__") [b]) (ifBound_K X I he hf (wpAny_mono h (fun r s' hr => by
          obtain ⟨c, rfl, hq⟩ := hr
          repeat (first | exact ⟨c, rfl, hq⟩ | exact wpAny_pure ⟨c, rfl, hq⟩ | exact wpAny_truthy_bool ⟨c, rfl, hq⟩ | (refine wpAny_bind (m := truthy (.bool _)) (wpAny_truthy_bool ?_)) | wp_step)) fun _ _ e => e)))
      | wp_step)
  have mid : wpAny (model prog w) A (callSpecialIfBound? (.ref x) "__ne__" [b]) (fun r s' => ∃ c, r = some (.bool (!c)) ∧ Q (.bool (!c)) s') E s := by
    simp only [callSpecialIfBound?, bindSpecialIfBound?]
    refine wpAny_holding (wpAny_bind (wpAny_bind (wpAny_bind (I.type.here ((looks_findIn X hs).here ?_)))))
    simp only [slot_obj_ne.bind]
    refine wpAny_bind (wpAny_askSetting (wpAny_ite ?_))
    have fin : wpAny (model prog w) A (call (.builtin "object.__ne__") ([.ref x] ++ [b]) >>= fun v => pure (some v)) (fun r s' => ∃ c, r = some (.bool (!c)) ∧ Q (.bool (!c)) s') E s := by
      refine wpAny_bind (wpAny_call (codeAny_call_builtin slot_obj_ne.plain F.cmpEntry_ne (check_slot F.cmpKind_ne F.cmpSplit_ne (I.type.andThen (looks_mroIn X hm)) (F.cmpArgs_ne _ _) (wpAny_mono inner (fun fin s' z => ?_) fun _ _ e => e))))
      obtain ⟨c, rfl, hq⟩ := z
      exact wpAny_pure ⟨c, rfl, hq⟩
    split
    · exact wpAny_bind (wpAny_pure (wpAny_pure fin))
    · exact wpAny_tryCatch (wpAny_bind (wpAny_pure (wpAny_pure fin)))
  have one : wpAny (model prog w) A (tryCompare (.ref x) "__ne__" b) (fun r s' => ∃ c, r = some (.bool (!c)) ∧ Q (.bool (!c)) s') E s := by
    simp only [tryCompare]
    refine wpAny_bind (wpAny_mono mid (fun r s' ⟨c, er, hq⟩ => ?_) fun _ _ e => e)
    rw [er]
    exact wpAny_pure ⟨c, rfl, hq⟩
  unfold richCompare
  simp only [oneThing_ref]
  refine wpAny_holding (wpAny_bind (wpAny_cRoomFor (Nat.lt_of_succ_lt hu) (wpAny_bind (I.type.here (wpAny_bind (hb.here ?_))))))
  rw [cmpInfo_NotEq]
  dsimp only
  have last : wpAny (model prog w) A (tryCompare (.ref x) "__ne__" b) (fun r s' => ∃ c, r = some (.bool (!c)) ∧ Q (.bool (!c)) s') E s := one
  split
  · rename_i q
    have e : subIn K tb (.ref C) = some false := by
      rcases Bool.or_eq_true_iff.mp hn with e | e
      · rw [beq_iff_eq.mp e] at q; simp at q
      · exact beq_iff_eq.mp e
    refine wpAny_bind ((looks_subIn X e).here ?_)
    simp only [Bool.false_eq_true, if_false]
    refine wpAny_bind (wpAny_mono last (fun r s' ⟨c, er, hq⟩ => ?_) fun _ _ e => e)
    rw [er]
    exact wpAny_pure hq
  · refine wpAny_bind (wpAny_pure ?_)
    simp only [Bool.false_eq_true, if_false]
    refine wpAny_bind (wpAny_mono last (fun r s' ⟨c, er, hq⟩ => ?_) fun _ _ e => e)
    rw [er]
    exact wpAny_pure hq
end
/-! ### x == y by x's own __eq__ -/
def rEqO (K : PySem.W.Frag) (C : Addr) (sp : Sp) (E : XK) : R2 := fun x y H Q => ∃ (a dx : Addr) (fs : List (Str × V)) (b : Addr) (t : Value), x = .ref a ∧ y = .ref b ∧ H a = some (.ins C dx fs) ∧ TyX K H y t ∧ PySem.W.notFirst K C t = true ∧ sp [x, y] H Q E
section
variable {X : Cx}
theorem op_eqOwn {CX : CXT} {C g : Addr} {fd : FuncData} {ps : List Str} {sp : Sp} {E : XK} {n : Nat} (F : FnOk X.prog X.w X.K X.mg X.base CX n g fd ps sp) (hs : PySem.W.findIn X.K (.ref C) "__eq__" = some (some (.ref g))) (hf : PySem.W.isFn X.K (.ref g) = true) (hb : Binds X.K fd ps [])
    (hr : Room n X.A) (hx : Passes CX X E) : OpR X (compareOp .Eq) (rEqO X.K C sp E) := by
  intro pins s σ H x y v u Q I rx ry h
  obtain ⟨a, dx, fs, b, t, rfl, rfl, ha, ty, hn, q⟩ := h
  cases (show v = Value.ref a from rx)
  cases (show u = Value.ref b from ry)
  obtain ⟨mA, J, _⟩ := ins_get I.hok ha
  obtain ⟨od, J, _⟩ := J.look
  obtain ⟨P, Z, hp, hne⟩ := kit_of I (show RelV (.ref b) (Value.ref b) from rfl) ty
  obtain ⟨m, hF⟩ := I.fr
  have hl := F.len _ _ _ _ q
  have r2 : Vals [V.ref a, V.ref b] [Value.ref a, Value.ref b] := .cons rfl (.cons rfl .nil)
  refine PySem.W.cmp_K (op := .Eq) (tb := t) hr.units0 hF I.ok.mod.kin J (Z.ty _ _ I.kIn hp) hn hs hf ?_
  refine wpAny_mono (wpAny_call (run_fnR (us := [.ref a, .ref b]) (vs := [.ref a, .ref b]) (F.raw hb .nil) hr hx I r2 q)) (fun w s' z => ?_) fun _ _ x => x
  obtain ⟨z', H', I', rz, qz⟩ := z
  exact SlX.cmpback rz ⟨z', H', I', rz, qz⟩
/-- x != y -/
theorem op_neOwn {CX : CXT} {C g : Addr} {fd : FuncData} {ps : List Str} {sp : Sp} {E : XK} {n : Nat} (F : FnOk X.prog X.w X.K X.mg X.base CX n g fd ps sp) (hs : PySem.W.findIn X.K (.ref C) "__ne__" = some (some (.builtin "object.__ne__"))) (hm : PySem.W.mroIn X.K C (.type "object") = some true)
    (he : PySem.W.findIn X.K (.ref C) "__eq__" = some (some (.ref g))) (hf : PySem.W.isFn X.K (.ref g) = true) (hb : Binds X.K fd ps []) (hr : Room (n + 1) X.A) (hx : Passes CX X E) : OpR X (compareOp .NotEq) (fun x y H Q => ∃ (a dx : Addr) (fs : List (Str × V)) (b : Addr) (t : Value), x = .ref a ∧ y = .ref b ∧ H a = some (.ins C dx fs) ∧ TyX X.K H y t ∧ PySem.W.notFirst X.K C t = true ∧ sp [x, y] H (fun z H' => ∃ c, z = .bl c ∧ Q (.bl (!c)) H') E) := by
  intro pins s τ H x y v u Q I rx ry h
  obtain ⟨a, dx, fs, b, t, rfl, rfl, ha, ty, hn, q⟩ := h
  cases (show v = Value.ref a from rx)
  cases (show u = Value.ref b from ry)
  obtain ⟨mA, J, _⟩ := ins_get I.hok ha
  obtain ⟨od, J, _⟩ := J.look
  obtain ⟨P, Z, hp, hne⟩ := kit_of I (show RelV (.ref b) (Value.ref b) from rfl) ty
  obtain ⟨m, hF⟩ := I.fr
  have hl := F.len _ _ _ _ q
  have r2 : Vals [V.ref a, V.ref b] [Value.ref a, Value.ref b] := .cons rfl (.cons rfl .nil)
  have hu : X.A.units + 1 < cLine := by have := hr.un; omega
  refine ne_K (tb := t) hu hF I.ok.mod.kin J (Z.ty _ _ I.kIn hp) hn hm hs he hf ?_
  refine wpAny_call (codeAny_mono (F.run X.A.in1 X.stack s H ⟨[.ref a, .ref b], []⟩ [.ref a, .ref b] [.ref a, .ref b] _ E hr.in1 I.env0.in1 (hb s [.ref a, .ref b] I.kIn hl) r2 q) fun r s' hq => ?_)
  cases r with
  | error e => exact hx pins τ H s e s' I hq
  | ok fl =>
    cases fl with
    | ret u =>
      obtain ⟨z', H', I', rz, c, ez, qz⟩ := I.after hq
      subst ez
      cases (show u = Value.bool c from rz)
      exact ⟨c, rfl, .bl (!c), H', I', rfl, qz⟩
    | next => exact False.elim hq
    | brk => exact False.elim hq
    | cont => exact False.elim hq
end
end K7E
end
/-! ## P14 -/
section
open PySem PySem.Spec PyProof.Rows L2
namespace K7
abbrev N_Land___eq__ : List Str := ["self", "other"]
abbrev s_Land___eq__ : Stmt := inClass (topS 21) 1
theorem sc_Land___eq__ : FnScope ["self", "other"] ["self", "other"] (defScope s_Land___eq__) := ⟨rfl, rfl, rfl, by decide +kernel, rfl, by decide +kernel, by decide +kernel⟩
/-- what the top says of lands, once more -/
structure Tk (K : PySem.W.Frag) (C fE : Addr) : Prop where
  ha : PySem.W.findIn K (.ref C) "__class__" = some (some (.builtin "object.__class__"))
  hn : PySem.W.specialIn K (.builtin "object.__class__") "__get__" = some (some (.builtin "getset_descriptor.__get__"))
  ht : PySem.W.takesIn K (.builtin "object.__class__") = some true
  hm : PySem.W.mroIn K C (.type "object") = some true
  own : PySem.W.kitOne K (.ref C) (.ref C) = some true
  eq : PySem.W.findIn K (.ref C) "__eq__" = some (some (.ref fE))
  eqF : PySem.W.isFn K (.ref fE) = true
  ne : PySem.W.findIn K (.ref C) "__ne__" = some (some (.builtin "object.__ne__"))
theorem nfC (K : PySem.W.Frag) (C : Addr) : PySem.W.notFirst K C (.ref C) = true := by simp [PySem.W.notFirst]
theorem dec_and3 (a b c : Prop) [Decidable a] [Decidable b] [Decidable c] : decide (a ∧ b ∧ c) = (decide a && (decide b && decide c)) := by
  by_cases a <;> by_cases b <;> by_cases c <;> simp_all
section
variable {P : Program} {w : World} {K : PySem.W.Frag} {mg : Str → Option Value} {base : Heap} {a : AdL} {fE : Addr}
def spEqL (C : Addr) : Sp := fun vs H Q _ => ∃ (p q : Addr) (n : Nat) (es : List (Nat × Nat)) (rd : List Nat) (m : Nat) (fs : List (Nat × Nat)) (sd : List Nat), vs = [.ref p, .ref q] ∧ LandO C H p n es rd ∧ LandO C H q m fs sd ∧ Q (.bl (decide (n = m ∧ es = fs ∧ rd = sd))) H
theorem ok_eqL (T : Tl K mg a) (T2 : Tk K a.C fE) {f : Addr} {fd : FuncData} (F : Fun K "__eq__" "Land.__eq__" s_Land___eq__ f fd) (m_isinstance : mg "isinstance" = none) : FnOk P w K mg base CX0 1 f fd ["self", "other"] (spEqL a.C) := by
  refine F.ok sc_Land___eq__ (fun vs H Q E h => ?_) (fun cdv A outer s H vs Q E hr h => ?_)
  · obtain ⟨p, q, n, es, rd, m, fs, sd, rfl, _⟩ := h
    rfl
  · obtain ⟨p, q, n, es, rd, m, fs, sd, rfl, L, M, k⟩ := h
    refine ⟨_, (pss_one (ps_ret (pe_and (pe_callB call_isi (by rfl) m_isinstance boot_isinstance (pa_cons (pv 1) (pa_cons (pe_glob (v := .ref _) rfl T.gC rfl) pa_nil))) (pe_and (pe_cmpR op_eq (pe_fld (pv 0) rfl) (pe_fld (pv 1) rfl) (nomark _)) (pe_and (pe_cmpR (op_eqD hr.units) (pe_fld (pv 0) rfl) (pe_fld (pv 1) rfl) (nomark _)) (pe_one (pe_cmpR (op_eqD hr.units) (pe_fld (pv 0) rfl) (pe_fld (pv 1) rfl) (nomark _)))))))), ?_⟩
    obtain ⟨dx, an, ar, ay, ac, tn, ty, tc, h1, h2, h3, h4, _⟩ := L.at_
    obtain ⟨dx', an', ar', ay', ac', tn', ty', tc', g1, g2, g3, g4, _⟩ := M.at_
    rw [dec_and3] at k
    refine ⟨_, rfl, _, _, _, _, _, rfl, .own _, .base (.ins g1 T.cl T2.ha T2.hn T2.ht T2.hm), T2.own, true, rfl, ?_⟩
    have en : decide (V.int (n : Nat) = V.int (m : Nat)) = decide (n = m) := decide_eq_decide.mpr ⟨fun e => by injection e with e; omega, fun e => by rw [e]⟩
    have e1 : PyData.eqv (.tuple ((pairs es).map intD)) (.tuple ((pairs fs).map intD)) = decide (es = fs) := by rw [PyData.eqv, eqv_rows]
    refine ⟨.ref p, rfl, p, a.C, dx, _, _, rfl, h1, T.cl, T.nA _ (by decide), rfl, .ref q, rfl, q, a.C, dx', _, _, rfl, g1, T.cl, T.nA _ (by decide), rfl, rfl, _, rfl, ?_⟩
    rw [en]
    cases hn : decide (n = m) with
    | false =>
      rw [hn] at k
      exact k
    | true =>
      rw [hn] at k
      refine ⟨.ref p, rfl, p, a.C, dx, _, _, rfl, h1, T.cl, T.nA _ (by decide), rfl, .ref q, rfl, q, a.C, dx', _, _, rfl, g1, T.cl, T.nA _ (by decide), rfl, _, _, .tup (.inl (.inl h2)) (dp_rows h3), .tup (.inl (.inl g2)) (dp_rows g3), shapedT_rows _, shapedT_rows _, _, rfl, ?_⟩
      rw [e1]
      cases he : decide (es = fs) with
      | false =>
        rw [he] at k
        exact k
      | true =>
        rw [he] at k
        refine ⟨.ref p, rfl, p, a.C, dx, _, _, rfl, h1, T.cl, T.nA _ (by decide), rfl, .ref q, rfl, q, a.C, dx', _, _, rfl, g1, T.cl, T.nA _ (by decide), rfl, _, _, .tup (.inl (.inl h4)) (dp_ints rd), .tup (.inl (.inl g4)) (dp_ints sd), shaped_ints rd, shaped_ints sd, ?_⟩
        show Q (.bl (PyData.eqv (intD rd) (intD sd))) H
        rw [eqv_intD]
        exact k
/-! a new land -/
theorem new_land {H1 : Hp} {Q : VK} {E : XK} {n : Nat} {an : Addr} {ts : List Addr} {cs : List (Nat × Nat)} {ar : Addr} {lot : List Nat} (n2 : 2 ≤ n) (n5 : n ≤ 5) (han : SqOf H1 an (ts.map V.ref)) (hT : CoAll H1 ts cs) (hc : Cos n cs) (cn : KL.Conn n cs) (har : SqOf H1 ar (ints_ lot)) (llt : ∀ c ∈ lot, c < n) (lnd : lot.Nodup) (l0 : 0 < lot.length) (ln : lot.length < n)
    (q : ∀ H' x es rd, Same H1 H' → H1 x = none → LandO a.C H' x n es rd → es.Perm (cs.map KL.srt) → rd.Perm lot → Q (.ref x) H') :
    ∀ x dx, H1 x = none → H1 dx = none → dx ≠ x → spLandI a (.ref x :: ([.int (n : Nat), .ref an, .ref ar] ++ [])) (upd (upd H1 dx (.own x)) x (.ins a.C dx [])) (fun v H2 => v = .non ∧ Q (.ref x) H2) E := by
  intro x dx hx hdx hne
  have e : Same H1 (upd (upd H1 dx (.own x)) x (.ins a.C dx [])) := same_new (same_new (Same.refl H1) hdx) (by rw [upd_ne hne.symm]; exact hx)
  refine ⟨x, dx, n, an, ts, cs, ar, lot, rfl, upd_same, n2, n5, han.same e, hT.same e, hc, cn, har.same e, llt, lnd, l0, ln, fun H' es rd b L pe pr => ⟨rfl, q H' x es rd (fun z o hz => ?_) hx L pe pr⟩⟩
  exact b z o (ne_of_none hz hx) (e _ _ hz)
theorem es_is {n : Nat} {es cs : List (Nat × Nat)} (ok : LandOk n es) (p : es.Perm cs) (hs : cs.Pairwise KL.lexLe) : es = cs := KL.uniq KL.lex_anti p (ok.sorted.imp fun h => h) hs
theorem rd_is {rd lot : List Nat} (hr : rd.Pairwise (· ≤ ·)) (p : rd.Perm lot) (hs : lot.Pairwise (· ≤ ·)) : rd = lot := KL.uniq (fun a b (h1 : a ≤ b) (h2 : b ≤ a) => Nat.le_antisymm h1 h2) p hr hs
end
end K7
end
/-! ## SL -/
section
open PySem PySem.Spec PyProof.Rows L2
namespace K7
theorem al {H : Hp} {o : HO} {b : Addr} (nb : H b = none) : Same H (upd H b o) := same_new (Same.refl H) nb
theorem notHand_refs : ∀ ts : List Addr, notHand (ts.map V.ref) = true
  | [] => rfl
  | [_] => rfl
  | [_, _] => rfl
  | [_, _, _] => rfl
  | [_, _, _, _] => rfl
  | _ :: _ :: _ :: _ :: _ :: _ => by rfl
theorem notHand_ints : ∀ ts : List Nat, notHand (ints_ ts) = true
  | [] => rfl
  | [_] => rfl
  | [_, _] => rfl
  | [_, _, _] => rfl
  | [_, _, _, _] => rfl
  | _ :: _ :: _ :: _ :: _ :: _ => by rfl
section
variable {h c : Addr} {H H' : Hp}
theorem Stay.tup {b : Addr} {xs : List V} (x : Stay h c H H') (hb : H b = some (.tup xs)) : H' b = some (.tup xs) := x.but b _ (x.hand0.net hb) hb
theorem Stay.tat (x : Stay h c H H') {ts : List Addr} {ls : List (List Nat)} (t : TAt H ts ls) : TAt H' ts ls := t.mono fun b xs hb => x.tup hb
theorem Stay.la (x : Stay h c H H') {q : Addr} {n : Nat} {es : List (Nat × Nat)} {lot : List Nat} (L : LandAt H q n es lot) : LandAt H' q n es lot := by
  obtain ⟨rA, sA, ts, h1, h2, h3, h4⟩ := L.at_
  exact ⟨⟨rA, sA, ts, x.tup h1, x.lst h2 (notHand_refs _), x.tat h3, x.lst h4 (notHand_ints _)⟩, L.ok, L.lot⟩
theorem Stay.lo (x : Stay h c H H') {C p : Addr} {n : Nat} {es : List (Nat × Nat)} {rd : List Nat} (L : LandO C H p n es rd) : LandO C H' p n es rd := by
  obtain ⟨dx, an, ar, ay, ac, tn, ty, tc, h1, h2, h3, h4, h5, h6, h7, h8⟩ := L.at_
  exact ⟨⟨dx, an, ar, ay, ac, tn, ty, tc, x.but p _ (x.hand0.nei h1) h1, x.tup h2, x.tat h3, x.tup h4, x.tup h5, x.tat h6, x.tup h7, x.tat h8⟩, L.n2, L.n5, L.ok, L.rlt, L.rnd, L.rso, L.r0, L.rn⟩
end
theorem es_len {n : Nat} {es : List (Nat × Nat)} (ok : LandOk n es) (hn : n ≤ 5) : es.length ≤ 32 := by
  have z := K7E.nodup_le es ((List.range 5).flatMap fun a => (List.range 5).map fun b => (a, b)) ok.nd fun e he => by
    obtain ⟨a, b⟩ := e
    obtain ⟨l1, l2⟩ := ok.lt _ he
    have l1 : a < b := l1
    have l2 : b < n := l2
    exact List.mem_flatMap.mpr ⟨a, List.mem_range.mpr (by omega), List.mem_map.mpr ⟨b, List.mem_range.mpr (by omega), rfl⟩⟩
  have e : ((List.range 5).flatMap fun a => (List.range 5).map fun b => (a, b)).length = 25 := by decide
  rw [e] at z
  omega

theorem co_lit {H : Hp} {ts : List Addr} {cs : List (Nat × Nat)} (h : TAt H ts (pairs cs)) : CoAll H ts cs := by
  refine ⟨by rw [h.len]; unfold pairs; rw [List.length_map], fun i t c ht hc => ?_⟩
  obtain ⟨l, el, hl⟩ := h.get ht
  unfold pairs at el
  rw [List.getElem?_map, hc] at el
  obtain rfl := Option.some.inj el
  exact .inl hl
theorem lot_lt {n : Nat} (hn : n ≤ 5) {lot : List Nat} (h : lot ∈ lotsTo (List.range n) n) : (∀ c ∈ lot, c < n) ∧ lot.Pairwise (· < ·) := by
  have all : ∀ n : Fin 6, (lotsTo (List.range n.val) n.val).all (fun l => l.all (fun c => decide (c < n.val)) && decide (l.Pairwise (· < ·))) = true := by decide +kernel
  have z := List.all_eq_true.mp (all ⟨n, by omega⟩) lot h
  obtain ⟨z1, z2⟩ := Bool.and_eq_true_iff.mp z
  exact ⟨fun c hc => of_decide_eq_true (List.all_eq_true.mp z1 c hc), of_decide_eq_true z2⟩
theorem srt_map {n : Nat} {es : List (Nat × Nat)} (ok : LandOk n es) : es.map KL.srt = es := by
  refine (List.map_congr_left fun e he => ?_).trans (List.map_id es)
  exact KL.srt_of (ok.lt e he).1
theorem cos_es {n : Nat} {es : List (Nat × Nat)} (ok : LandOk n es) (hn : n ≤ 5) : Cos n es := by
  refine ⟨fun c hc => ?_, by rw [srt_map ok]; exact ok.nd, es_len ok hn⟩
  obtain ⟨l1, l2⟩ := ok.lt c hc
  exact ⟨by omega, l2, by omega⟩

end K7
end
/-! ## E3 -/
section
namespace PySem
open PySem PySem.Spec PyProof.Rows
theorem k7_meets_enumerate_newT (l : Addr) (items : Array Value) (n : Nat) (dct : Option Addr) (sl : Array (Option Value)) :
    Meets (Builtin.«enumerate.__new__» ⟨[.type "enumerate", .ref l], []⟩) (fun _ R s => s.heap.get? l = some { cls := .type "tuple", dict := dct, data := .seq items n, slots := sl } ∧
      R (.ok (.ret (.ref (s.heap.push { cls := .type "tuple_iterator", data := .fields #[.ref l, .int 0 0] }).objs.size)))
        { s with heap := (s.heap.push { cls := .type "tuple_iterator", data := .fields #[.ref l, .int 0 0] }).push { cls := .type "enumerate", data := .fields #[.none, .bool false, .ref s.heap.objs.size, rawInt 0, .none, .none] } }) :=
  .of_wp fun prog w A R s h => by
    obtain ⟨hp, g, d, tk, os⟩ := s; obtain ⟨hl, h⟩ := h
    have hsub := sub_enumerate
    have hL : Heap.IsTuple (Shared.heap ⟨hp, g, d, tk, os⟩) l items := ⟨_, hl, rfl, n, rfl⟩
    wp_walk using AutoSeq1.wpAny_loadPart' hl
    refine wpAny_stack_any fun st => wpAny_pure ?_
    split
    · rename_i c _ _ _ _ _
      cases (c == Value.type "enumerate")
      · wp_walk using AutoSeq1.wpAny_loadPart' hl, wpAny_pyIter_tuple hL
        exact ⟨_, rfl, h⟩
      · wp_walk using AutoSeq1.wpAny_loadPart' hl, wpAny_pyIter_tuple hL
        exact ⟨_, rfl, h⟩
    · wp_walk using AutoSeq1.wpAny_loadPart' hl, wpAny_pyIter_tuple hL
      exact ⟨_, rfl, h⟩
theorem k7_call_enumerate_tuple {prog : Program} {w : World} {A : Around} {E : Value → Shared → Prop} {s : Shared} {l : Addr} {items : Array Value} {Q : Value → Shared → Prop} (hL : s.heap.IsTuple l items)
    (h : ∀ h', IsEnum h' (s.heap.objs.size + 1) s.heap.objs.size 0 .none → h'.IsTupleIter s.heap.objs.size l 0 → h'.objs.size = s.heap.objs.size + 2 →
      (∀ b o, s.heap.get? b = some o → h'.get? b = some o) → Q (.ref (s.heap.objs.size + 1)) { s with heap := h' }) :
    wpAny (model prog w) A (call (.type "enumerate") [.ref l]) Q E s := by
  obtain ⟨⟨c, dct, dt, sl⟩, hl, hc, n, hd⟩ := hL
  replace hc : c = .type "tuple" := hc
  replace hd : dt = .seq items n := hd
  subst hc hd
  refine callType_new F.called_enumerate (by decide) (F.typeCall_enumerate_1 _) (F.newCall_enumerate_1 _) (fun obj => F.args_object_init_2 obj _) F.entry_enumerate_new
    (k7_meets_enumerate_newT l items n dct sl) ⟨hl, ?_⟩
  have hz : (s.heap.push { cls := .type "tuple_iterator", data := .fields #[.ref l, .int 0 0] }).objs.size = s.heap.objs.size + 1 := Heap.size_push ..
  show _ ∧ _
  rw [hz]
  have he : IsEnum ((s.heap.push { cls := .type "tuple_iterator", data := .fields #[.ref l, .int 0 0] }).push
      { cls := .type "enumerate", data := .fields #[.none, .bool false, .ref s.heap.objs.size, rawInt 0, .none, .none] }) (s.heap.objs.size + 1) s.heap.objs.size 0 .none := by
    have := Heap.get?_push_size (s.heap.push { cls := .type "tuple_iterator", data := .fields #[.ref l, .int 0 0] })
      (o := { cls := .type "enumerate", data := .fields #[.none, .bool false, .ref s.heap.objs.size, rawInt 0, .none, .none] }) rfl
    rw [hz] at this; exact this
  refine ⟨⟨_, he, rfl⟩, h _ he ⟨_, Heap.get?_push_of_some _ (Heap.get?_push_size _ rfl), rfl, rfl⟩ (by rw [Heap.size_push, hz]) fun b o x => Heap.get?_push_of_some _ (Heap.get?_push_of_some _ x)⟩
end PySem
namespace K7E
open PySem PySem.Spec PyProof.Rows L2
/-- the tuple at a as it stands at each turn, each item in a new pair -/
def IteT (K : PySem.W.Frag) (a : Addr) : It :=
  ⟨fun i H => ∃ (xs : List V) (x : V), SqT K H a xs ∧ xs[i]? = some x, fun i H v H' => ∃ T x, v = .ref T ∧ H T = none ∧ H' = upd H T (.tup [.int (i : Nat), x]) ∧ ∀ xs, SqT K H a xs → xs[i]? = some x, fun i H => ∃ xs : List V, SqT K H a xs ∧ xs.length = i⟩
theorem tup_ne {h : Heap} {a it : Addr} {items : Array Value} {i : Nat} (p : h.IsTuple a items) (q : h.IsTupleIter it a i) : a ≠ it := by
  intro e
  subst e
  obtain ⟨o, ho, hc, _⟩ := p
  obtain ⟨o2, ho2, hc2, _⟩ := q
  rw [ho] at ho2
  cases ho2
  rw [hc] at hc2
  exact absurd (Value.type.inj hc2) (by decide)
theorem turn_enumT {P : Program} {w : World} {K : PySem.W.Frag} {elts : List Expr} {kk : Nat} {tpos : Pos} (a e it : Addr) :
    Turn P w K (.Tuple elts kk tpos) (IteT K a) [e, it] e (fun i h => (∃ old, IsEnum h e it ((i : Nat) : Int) old) ∧ h.IsTupleIter it a i ∧ e ≠ it) where
  mem := by simp
  obj := fun i h st b hb => by
    obtain ⟨⟨old, he⟩, ⟨o, ho, hc, hd⟩, _⟩ := st
    have e' : b = e ∨ b = it := by simpa using hb
    rcases e' with z | z
    · rw [z]; exact ⟨_, he, fun v q => nomatch q⟩
    · rw [z]; exact ⟨o, ho, fun v q => by rw [hd] at q; cases q⟩
  keep := fun i h h' st k => let ⟨⟨old, he⟩, hi, hne⟩ := st; ⟨⟨old, k e (by simp) _ he⟩, hi.at fun o q => k it (by simp) o q, hne⟩
  item := by
    intro X hP hw hK hc i pins s σ H E I hf st hg
    subst hP hw hK
    obtain ⟨⟨old, he⟩, hit, hne⟩ := st
    obtain ⟨xs, x, hq, hx⟩ := hg
    obtain ⟨its, rv, p, hz⟩ := I.tuple hq
    obtain ⟨u, hu, ru⟩ := rv.get hx
    have hel : e < s.heap.objs.size := Heap.lt_size he
    have hil : it < s.heap.objs.size := by obtain ⟨_, q, _⟩ := hit; exact Heap.lt_size q
    have hat : a ≠ it := tup_ne p hit
    have hae : e ≠ a := fun q => by
      subst q
      obtain ⟨o, ho, hc', _⟩ := p
      rw [show s.heap.get? e = _ from he] at ho
      cases ho
      exact absurd (Value.type.inj hc') (by decide)
    have hlt : i < its.toArray.size := by
      have := (List.getElem?_eq_some_iff.mp hu).1
      simpa using this
    refine wpAny_pyNext_enum_itemD (Draws.tuple (A := X.A.in1) (I.ok.hd hc) it a hat its.toArray) he ⟨hit, p⟩ hlt hne (by simp [hne, hae]) fun u' h' tk hP ho hit' hT hsz hk => ?_
    have eu : u' = u := by
      have h1 : its.toArray[i]? = some u := by simpa using hu
      exact Option.some.inj (hP.symm.trans h1)
    subst eu
    refine ⟨_, rfl, wpAny_letOwnedTupleGo_enum (s := { s with heap := h', toks := tk + 1 }) ho fun h'' he' sb => ?_⟩
    have hT2 : h''.get? s.heap.objs.size = some { cls := .type "tuple", data := .seq #[.int i tk, u'] } := (sb.2 _ (Nat.ne_of_gt hel)).trans hT
    have new : ObjOk X.prog X.w (upd H s.heap.objs.size (.tup [.int (i : Nat), x])) h'' s.heap.objs.size (.tup [.int (i : Nat), x]) :=
      ⟨by show 2 ≤ sizeLine; decide, [.int i tk, u'], .cons ⟨_, rfl⟩ (.cons ru .nil), ⟨_, hT2, rfl, _, rfl⟩⟩
    have I1 : Inv X pins σ (upd H s.heap.objs.size (.tup [.int (i : Nat), x])) { s with heap := h'', toks := tk + 1 } :=
      I.turnedNew (ch := [e, it]) (fun b ob hb q => (sb.2 b (fun z => hb (by simp [z]))).trans (hk b ob (fun z => hb (by simp [z])) (fun z => hb (by simp [z])) q)) hf (Nat.le_refl _) new
    refine ⟨.ref s.heap.objs.size, _, I1, rfl, ⟨_, x, rfl, I.hok.fresh (Nat.le_refl _), rfl, fun ys hy => by rw [I.tuple_inj hy hq]; exact hx⟩, ⟨⟨u', ?_⟩, hit'.1.at fun o q => (sb.2 it (Ne.symm hne)).trans q, hne⟩, fun b hb => ?_⟩
    · have e1 : ((i + 1 : Nat) : Int) = (i : Int) + 1 := by omega
      rw [e1]; exact he'
    · have hb' : b < s.heap.objs.size := by
        have e' : b = e ∨ b = it := by simpa using hb
        rcases e' with z | z
        · rw [z]; exact hel
        · rw [z]; exact hil
      rw [upd_ne (Nat.ne_of_lt hb')]
      exact (hf b hb).1
  done := by
    intro X hP hw hK hc i pins s σ H E I hf st hg
    subst hP hw hK
    obtain ⟨⟨old, he⟩, hit, hne⟩ := st
    obtain ⟨xs, hq, hx⟩ := hg
    obtain ⟨its, rv, p, hz⟩ := I.tuple hq
    obtain ⟨f0, f1, f2, f3, f4, f5⟩ := hf it (by simp)
    have hl := rv.length
    have hat : a ≠ it := tup_ne p hit
    have en : its.toArray.size = i := by simp; omega
    exact wpAny_pyNext_enum_endD (Draws.tuple (A := X.A.in1) (I.ok.hd hc) it a hat its.toArray) he ⟨by rw [en]; exact hit, p⟩ fun h' eb => ⟨rfl, I.turned (t' := s.toks) (fun b o hb q => eb b o hb q) f0 f1 f3 f4 f5⟩
  self := fun A i s Q E st h => let ⟨⟨_, he⟩, _⟩ := st; wpAny_pyIter_enum he h
def iEnumT (K : PySem.W.Frag) (ta : TA) : TI := fun σ H R => ta σ H fun vs H1 => ∃ a xs, vs = [.ref a] ∧ SqT K H1 a xs ∧ R (IteT K a) H1
theorem pi_enumT {X : Cx} {e : Expr} {ta : TA} {p pos tpos : Pos} {elts : List Expr} {kk : Nat} (hg : Gl X "enumerate") (hm : X.mg "enumerate" = none) (ha : PA X [e] ta) (hs : starEach [e] X.env = [(false, eval e X.env)] := by rfl) :
    PI X (.Tuple elts kk tpos) (.Call (.Name "enumerate" p) [e] [] pos) (iEnumT X.K ta) := by
  refine ⟨fun pins s σ H R I h => ?_⟩
  refine Call_ (ld_blt I hg hm boot_enumerate (PyProof.Rows.callWith_type1 (thn (ha.run pos pins s σ H _ I h) fun us s1 ⟨vs, H1, I1, r1, q1⟩ => ?_) hs rfl))
  obtain ⟨a, xs, ex, hq, q⟩ := q1
  subst ex
  cases r1 with
  | cons r rr =>
    cases rr
    cases r
    obtain ⟨its, rv, p', hz⟩ := I1.tuple hq
    refine k7_call_enumerate_tuple p' fun h' he hit hsz hk => wpAny_pyIter_enum he ?_
    have I2 : Inv X pins σ H1 { s1 with heap := h' } := I1.kept (t' := s1.toks) hk
    refine ⟨s1.heap.objs.size + 1, [s1.heap.objs.size + 1, s1.heap.objs.size], _, _, H1, rfl, I2, turn_enumT a (s1.heap.objs.size + 1) s1.heap.objs.size, ⟨⟨.none, he⟩, hit, Nat.succ_ne_self _⟩, fun b hb => ?_, q⟩
    have e' : b = s1.heap.objs.size + 1 ∨ b = s1.heap.objs.size := by simpa using hb
    have hle : s1.heap.objs.size ≤ b := by
      rcases e' with z | z
      · rw [z]; exact Nat.le_add_right _ _
      · rw [z]; exact Nat.le_refl _
    exact I1.fpOk hle (I1.hok.fresh hle)
theorem walk_enumT {K : PySem.W.Frag} {a : Addr} {xs : List V} : Walk (IteT K a) xs.length (fun H => SqT K H a xs) (YPair (fun i => some (.int (i : Nat))) (fun i => xs[i]?)) :=
  ⟨fun i H hi hq => ⟨xs, _, hq, List.getElem?_eq_getElem hi⟩, fun H hq => ⟨xs, hq, rfl⟩, fun i H v H' hi hq hy => by
    obtain ⟨T, x, rfl, nT, rfl, f⟩ := hy
    exact ⟨T, _, x, rfl, nT, rfl, rfl, f _ hq⟩⟩
end K7E
end
/-! ## EVL -/
section
open PySem PySem.Spec PyProof.Rows L2
namespace K7E
/-- a comprehension of two «for»: the outer one over a list -/
theorem out_list {K : PySem.W.Frag} {a : Addr} {xs : List V} {g : TG} {tt : TT} {inner : (Hp → Prop) → L2.St → Hp → Prop} {vs : List Nat} {τ : L2.St} {H1 : Hp} {D : Addr} {Qd : Hp → Prop} (Pv : Nat → Hp → Prop) (h0 : Pv 0 (upd H1 D (.lst []))) (hl : ∀ i H, i ≤ xs.length → Pv i H → SqL K H a xs)
    (hs : ∀ i x H, xs[i]? = some x → Pv i H → g x (wipe τ vs) H fun t2 H2 => wipe t2 vs = wipe τ vs ∧ tt t2 H2 fun b H3 => if b = true then inner (Pv (i + 1)) t2 H3 else Pv (i + 1) H3) (hd : ∀ H, Pv xs.length H → Qd H) :
    ∃ W : Nat → Nat → Hp → Prop, (∃ m, W 0 m (upd H1 D (.lst []))) ∧ ∀ i m H, W i m H → ((Itl K a).stop i H ∧ Qd H) ∨ ((Itl K a).go i H ∧ ∃ Nx : Hp → Prop, (∀ H', Nx H' → ∃ m', m' < m ∧ W (i + 1) m' H') ∧
      ∀ x H', (Itl K a).yld i H x H' → g x (wipe τ vs) H' fun t2 H2 => wipe t2 vs = wipe τ vs ∧ tt t2 H2 fun b H3 => if b = true then inner Nx t2 H3 else Nx H3) := by
  refine ⟨fun i m H => m = xs.length - i ∧ i ≤ xs.length ∧ Pv i H, ⟨xs.length, by simp, Nat.zero_le _, h0⟩, ?_⟩
  rintro i m H ⟨rfl, hi, p⟩
  have q := hl i H hi p
  by_cases hlt : i < xs.length
  · refine .inr ⟨⟨xs, xs[i], q, by simp [hlt]⟩, Pv (i + 1), fun H' p' => ⟨xs.length - (i + 1), by omega, rfl, hlt, p'⟩, fun x H' y => ?_⟩
    obtain ⟨e, y⟩ := y
    subst e
    exact hs i x _ (y xs q) p
  · have e : i = xs.length := by omega
    subst e
    exact .inl ⟨⟨xs, q, Nat.le_refl _⟩, hd H p⟩
/-- one of two readings, by a name -/
def tEi (t1 t2 : TE) : TE := fun σ H Q => t1 σ H Q ∨ t2 σ H Q
theorem pe_ei {X : Cx} {e : Expr} {t1 t2 : TE} (a : PE X e t1) (b : PE X e t2) : PE X e (tEi t1 t2) := ⟨fun pins s σ H Q I h => h.elim (a.run pins s σ H Q I) (b.run pins s σ H Q I)⟩
end K7E
end
/-! ## P15 -/
section
open PySem PySem.Spec PyProof.Rows L2
namespace K7
abbrev N_is_row : List Str := ["land", "a", "thing", "word"]
abbrev s_is_row : Stmt := topS 27
theorem sc_is_row : FnScope ["land", "a", "thing", "word"] ["land", "a", "thing"] (defScope s_is_row) := ⟨rfl, rfl, rfl, by decide +kernel, rfl, by decide +kernel, by decide +kernel⟩
/-! ### words of standings -/
def wd : Nat → Str
  | 0 => "none"
  | 1 => "awake"
  | 2 => "needed"
  | _ => "asleep"
def wds (row : List Nat) : List V := row.map fun k => .str (wd k)
def stds : List V := [.str "none", .str "awake", .str "needed", .str "asleep"]
theorem wds_snoc (l : List Nat) (k : Nat) : wds (l ++ [k]) = wds l ++ [.str (wd k)] := by
  unfold wds
  rw [List.map_append]
  rfl
theorem wd_in (k : Nat) : inV (.str (wd k)) stds = true := by
  match k with
  | 0 => decide +kernel
  | 1 => decide +kernel
  | 2 => decide +kernel
  | k + 3 =>
    show inV (.str "asleep") stds = true
    decide +kernel
def digs : List Str := ["own", "asleep", "none", "awake", "needed"]
/-- what the top says of views -/
structure T5s (K : PySem.W.Frag) (mg : Str → Option Value) (aST aRI aDG aOW : Addr) : Prop where
  gST : mg "STANDINGS" = some (.ref aST)
  gRI : mg "RIGHTS" = some (.ref aRI)
  gDG : mg "DIGITS" = some (.ref aDG)
  gOW : mg "_OWN" = some (.ref aOW)
  sST : ∀ H, SqT K H aST stds
  sRI : ∀ H, SqT K H aRI [.str "awake", .str "needed"]
  sDG : ∀ H, SqT K H aDG (digs.map V.str)
  yDG : ∀ H, tyV K "tuple" (.ref aDG) H
  sOW : ∀ H, SqT K H aOW [.str "own", .str "asleep"]
section
variable {P : Program} {w : World} {K : PySem.W.Frag} {mg : Str → Option Value} {base : Heap} {a : AdL} {aST aRI aDG aOW : Addr}
theorem wds_flat (row : List Nat) : (wds row).all flatV = true := by
  refine List.all_eq_true.mpr fun x hx => ?_
  obtain ⟨k, _, rfl⟩ := List.mem_map.mp hx
  rfl
theorem str_eqv : PyData.eqv (.str (wd 0)) (.str "none") = true := by decide +kernel
theorem none_shaped : SeqAt.shaped (.str (wd 0)) = true := by decide +kernel
def spIsRow (C : Addr) : Sp := fun vs H Q _ => ∃ (l t : Addr) (n b : Nat) (row : List Nat), vs = [.ref l, .int (b : Nat), .ref t] ∧ LandC C H l n ∧ n ≤ 5 ∧ SqOf H t (wds row) ∧ row.length = n ∧ row[b]? = some 0 ∧ ∀ H', Same H H' → Q (.bl true) H'
theorem ok_isrow (T : Tl K mg a) (T5 : T5s K mg aST aRI aDG aOW) {f fS : Addr} {fd fdS : FuncData} (F : Fun K "is_row" "is_row" s_is_row f fd)
    (Gsq : FnOk P w K mg base CX0 1 fS fdS ["thing"] (spSeq K)) (gsq : mg "is_sequence" = some (.ref fS)) (ksq : PySem.W.keepIn K (.ref fS) = true) (bsq : Binds K fdS ["thing"] [])
    (m_len : mg "len" = none) (m_all : mg "all" = none) : FnOk P w K mg base CX0 2 f fd ["land", "a", "thing"] (spIsRow a.C) := by
  refine F.ok sc_is_row (fun vs H Q E h => ?_) (fun cdv A outer s H vs Q E hr h => ?_)
  · obtain ⟨l, t, n, b, row, rfl, _⟩ := h
    rfl
  · obtain ⟨l, t, n, b, row, rfl, ⟨dx, fs, hp, hlk⟩, n5, ht, hl, h0, q⟩ := h
    refine ⟨_, (pss_cons (ps_if (pw_or (pt_not (pt_val (pe_call Gsq (hr.mono (by decide)) (by rfl) gsq ksq bsq .nil pass0 (pa_cons (pv 2) pa_nil)))) (pw_or1 (pt_cmpR op_ne (pe_callB call_len_seq (by rfl) m_len boot_len (pa_cons (pv 2) pa_nil)) (pe_fld (pv 0) rfl) (nomark _)))).pt
  (pss_one (ps_ret pe_bl))
  pss_nil)
 (pss_one (ps_ret (pe_and (pe_callB (cr_all rfl) (by rfl) m_all boot_all (pa_cons (pe_lc (own := [("word", 3)]) (g := gName 3) (tt := tYes) rfl sc_is_row.nd (K7E.pi_either (pi_tup (pv 2)) (pi_list (pv 2))) (blkOk_by (own := [("word", 3)]) (N := N_is_row) (sc := defScope s_is_row) (by decide +kernel)) (fun _ _ _ _ _ => (pg_name (i := 3) sc_is_row.nd rfl (by first | exact Or.inl rfl | exact Or.inr rfl))) (fun _ _ _ _ _ => pts_nil) (fun _ _ _ _ _ => (pe_cmpR (show OpR _ _ (rIn K false) from op_in_seq) (pv 3) (pe_glob (v := .ref _) rfl T5.gST rfl) (by with_unfolding_all rfl)))) pa_nil)) (pe_one (pe_cmpR (op_eqD hr.units) (K7E.pe_ei (pe_ix ix_tup (pv 2) (pv 1) (fun _ _ => rfl)) (pe_ix ix_list (pv 2) (pv 1) (fun _ _ => rfl))) pe_str (nomark _))))))), ?_⟩
    obtain ⟨ty, tyx, kk⟩ := ht.ty (K := K)
    have il : (wds row).length = n := by unfold wds; rw [List.length_map, hl]
    refine ⟨_, rfl, _, ty, true, rfl, tyx, kk, fun H1 e1 => ⟨_, rfl, ?_⟩⟩
    refine iteF ⟨_, rfl, t, _, rfl, (ht.same e1).sq, _, rfl, l, a.C, dx, fs, _, rfl, e1 _ _ hp, T.cl, T.nA _ (by decide), hlk, rfl, _, rfl, ?_⟩
    rw [il, decide_eq_true rfl]
    refine iteFo rfl ?_
    have ht1 := ht.same e1
    have at0 : (wds row)[b]? = some (.str (wd 0)) := by
      unfold wds
      rw [List.getElem?_map, h0]
      rfl
    rcases ht1 with z | z
    · refine .inl ⟨_, rfl, t, rfl, ⟨_, .inl (.inl z)⟩, fun D hD => lc_tup (xs := wds row) (fun j H2 => Same H1 H2 ∧ ∃ bs : List Bool, H2 D = some (.lst (bs.map V.bl)) ∧ bs.all id = true ∧ bs.length = j) ⟨al hD, [], upd_same, rfl, rfl⟩ (fun j H2 _ pv => .inl (.inl (pv.1 _ _ z))) (fun j x H2 hx pv => ?_) (fun H2 pv => ?_)⟩
      · obtain ⟨e2, bs, hD2, hb, lb⟩ := pv
        have hjx := (List.getElem?_eq_some_iff.mp hx).1
        rw [il] at hjx
        unfold wds at hx
        rw [List.getElem?_map] at hx
        obtain ⟨y, hy, rfl⟩ := Option.map_eq_some_iff.mp hx
        refine ⟨rfl, _, rfl, aST, stds, rfl, .inr (T5.sST _), rfl, rfl, ?_⟩
        rw [wd_in]
        refine ⟨_, hD2, by rw [List.length_map]; exact small1000 (by omega), fun b o hb => ?_, bs ++ [true], ?_, ?_, by rw [List.length_append, lb]; rfl⟩
        · rw [upd_ne (ne_of_none hb hD)]
          exact e2 _ _ hb
        · rw [upd_same, List.map_append]
          rfl
        · rw [List.all_append, hb]
          rfl
      · obtain ⟨e2, bs, hD2, hb, lb⟩ := pv
        refine ⟨D, bs, rfl, .inl (.inl hD2), _, rfl, ?_⟩
        rw [hb]
        refine iteT ?_
        refine .inl ⟨_, rfl, _, rfl, t, _, _, _, rfl, rfl, .inl (.inl (e2 _ _ z)), atI_nat at0, ?_⟩
        refine ⟨.str (wd 0), .str "none", .str _, .str _, none_shaped, none_shaped, ?_⟩
        rw [str_eqv]
        exact q _ (e1.trans e2)
    · refine .inr ⟨_, rfl, t, rfl, ⟨_, .inl (.inl z)⟩, fun D hD => lc_list (xs := wds row) (fun j H2 => Same H1 H2 ∧ ∃ bs : List Bool, H2 D = some (.lst (bs.map V.bl)) ∧ bs.all id = true ∧ bs.length = j) ⟨al hD, [], upd_same, rfl, rfl⟩ (fun j H2 _ pv => .inl (.inl (pv.1 _ _ z))) (fun j x H2 hx pv => ?_) (fun H2 pv => ?_)⟩
      · obtain ⟨e2, bs, hD2, hb, lb⟩ := pv
        have hjx := (List.getElem?_eq_some_iff.mp hx).1
        rw [il] at hjx
        unfold wds at hx
        rw [List.getElem?_map] at hx
        obtain ⟨y, hy, rfl⟩ := Option.map_eq_some_iff.mp hx
        refine ⟨rfl, _, rfl, aST, stds, rfl, .inr (T5.sST _), rfl, rfl, ?_⟩
        rw [wd_in]
        refine ⟨_, hD2, by rw [List.length_map]; exact small1000 (by omega), fun b o hb => ?_, bs ++ [true], ?_, ?_, by rw [List.length_append, lb]; rfl⟩
        · rw [upd_ne (ne_of_none hb hD)]
          exact e2 _ _ hb
        · rw [upd_same, List.map_append]
          rfl
        · rw [List.all_append, hb]
          rfl
      · obtain ⟨e2, bs, hD2, hb, lb⟩ := pv
        refine ⟨D, bs, rfl, .inl (.inl hD2), _, rfl, ?_⟩
        rw [hb]
        refine iteT ?_
        refine .inr ⟨_, rfl, _, rfl, t, _, _, _, rfl, rfl, .inl (.inl (e2 _ _ z)), atI_nat at0, ?_⟩
        refine ⟨.str (wd 0), .str "none", .str _, .str _, none_shaped, none_shaped, ?_⟩
        rw [str_eqv]
        exact q _ (e1.trans e2)
/-- subscripts of what is a tuple or a list -/
theorem ei_gen {t : TE} {σ : L2.St} {H : Hp} {Q : VK} {r : Addr} {ys : List V} {j k : Nat} {v : V} (inner : ∀ Q' : VK, Q' (.ref r) H → t σ H Q') (h2 : tVar k σ H fun y H' => y = .int (j : Nat) ∧ H' = H) (h : SqOf H r ys) (hx : ys[j]? = some v) (q : Q v H) :
    K7E.tEi (tOp (rIxT K) t (tVar k)) (tOp (rIxL K) t (tVar k)) σ H Q := by
  obtain ⟨w, hw, rfl, _⟩ := h2
  rcases h with z | z
  · exact .inl (inner _ ⟨_, hw, r, ys, _, v, rfl, rfl, .inl (.inl z), atI_nat hx, q⟩)
  · exact .inr (inner _ ⟨_, hw, r, ys, _, v, rfl, rfl, .inl (.inl z), atI_nat hx, q⟩)
end
theorem wds_asleep {ks : List Nat} (h : ∀ k ∈ ks, k < 3) : inV (.str "asleep") (wds ks) = false := by
  refine Bool.eq_false_iff.mpr fun e => ?_
  obtain ⟨x, hx, he⟩ := List.any_eq_true.mp e
  obtain ⟨k, hk, rfl⟩ := List.mem_map.mp hx
  have := h k hk
  match k, this with
  | 0, _ => exact absurd he (by decide +kernel)
  | 1, _ => exact absurd he (by decide +kernel)
  | 2, _ => exact absurd he (by decide +kernel)
theorem wds_awake {ks : List Nat} (h : ∀ k ∈ ks, k = 0 ∨ 3 ≤ k) : inV (.str "awake") (wds ks) = false ∧ inV (.str "needed") (wds ks) = false := by
  refine ⟨Bool.eq_false_iff.mpr fun e => ?_, Bool.eq_false_iff.mpr fun e => ?_⟩
  all_goals
    obtain ⟨x, hx, he⟩ := List.any_eq_true.mp e
    obtain ⟨k, hk, rfl⟩ := List.mem_map.mp hx
    have z := h k hk
    match k with
    | 0 => exact absurd he (by decide +kernel)
    | 1 => omega
    | 2 => omega
    | k + 3 =>
      have he : eqV (.str "asleep") _ = true := he
      exact absurd he (by decide +kernel)
theorem iteB {b : Bool} {p q : Prop} (h1 : b = true → p) (h2 : b = false → q) : if b = true then p else q := by
  cases b with
  | true => exact h1 rfl
  | false => exact h2 rfl
theorem CellOr.mono {B : Addr} {n : Nat} {H : Hp} {x : V} {E : XK} {q q' : Nat → Prop} (h : CellOr B n H x E q) (i : ∀ c, x = .int (c : Nat) → c < n → q c → q' c) : CellOr B n H x E q' := by
  rcases h with ⟨c, rfl, h1, h2⟩ | h
  · exact .inl ⟨c, rfl, h1, i c rfl h1 h2⟩
  · exact .inr h
/-- a right that is awake or needed -/
def rightV (k : Nat) : Bool := decide (k = 1 ∨ k = 2)
theorem wd_right (k : Nat) : inV (.str (wd k)) [.str "awake", .str "needed"] = rightV k := by
  match k with
  | 0 => decide +kernel
  | 1 => decide +kernel
  | 2 => decide +kernel
  | k + 3 =>
    have e : rightV (k + 3) = false := decide_eq_false (by omega)
    rw [e]
    show inV (.str "asleep") [.str "awake", .str "needed"] = false
    decide +kernel
theorem wds_strs (row : List Nat) : wds row = (row.map wd).map V.str := by unfold wds; rw [List.map_map]; rfl
/-! ### states compared -/
theorem dp_strs {K : PySem.W.Frag} {H : Hp} : ∀ ss : List Str, DpAll K H (ss.map V.str) (ss.map PyData.str)
  | [] => .nil
  | z :: ss => .cons (.str z) (dp_strs ss)
theorem eqv_strs : ∀ ss tt : List Str, PyData.eqvAll (ss.map PyData.str) (tt.map PyData.str) = decide (ss = tt)
  | [], [] => rfl
  | [], _ :: _ => by simp [PyData.eqvAll]
  | _ :: _, [] => by simp [PyData.eqvAll]
  | x :: ss, y :: tt => by
    rw [List.map_cons, List.map_cons, PyData.eqvAll, eqv_strs ss tt]
    by_cases e : x = y
    · subst e
      simp [PyData.eqv]
    · simp [PyData.eqv, e]
theorem wd_ok (k : Nat) : PyData.strOk (wd k) = true := by
  match k with
  | 0 => decide +kernel
  | 1 => decide +kernel
  | 2 => decide +kernel
  | k + 3 =>
    show PyData.strOk "asleep" = true
    decide +kernel
theorem dp_wds {K : PySem.W.Frag} {H : Hp} (row : List Nat) : DpAll K H (wds row) ((row.map wd).map PyData.str) := by
  rw [wds_strs]
  exact dp_strs _
theorem lay_wds (l : List Nat) : PyData.canLayAll0 ((l.map wd).map PyData.str) = true ∧ PyData.depthAll ((l.map wd).map PyData.str) = 0 := by
  induction l with
  | nil => exact ⟨rfl, rfl⟩
  | cons a l ih => exact ⟨by simp only [List.map_cons, PyData.canLayAll0, PyData.canLay0, ih.1, wd_ok]; rfl, by simp only [List.map_cons, PyData.depthAll, PyData.depth, ih.2]; rfl⟩
theorem dec_int (x y : Nat) : decide (V.int (x : Nat) = V.int (y : Nat)) = decide (x = y) := decide_eq_decide.mpr ⟨fun h => by injection h with h; omega, fun h => by rw [h]⟩
def rLst (K : PySem.W.Frag) : List V → Hp → VK → Prop := fun xs H Q => ∃ p ys, xs = [.ref p] ∧ (SqL K H p ys ∨ SqT K H p ys) ∧ ∀ l, H l = none → Q (.ref l) (upd H l (.lst ys))
theorem pw_nodup {l : List Nat} (h : l.Pairwise (· < ·)) : l.Nodup := h.imp fun h => Nat.ne_of_lt h
theorem wds_len (row : List Nat) : (wds row).length = row.length := List.length_map ..
theorem ints_len (l : List Nat) : (ints_ l).length = l.length := List.length_map ..
end K7
end
/-! ## P16 -/
section
open PySem PySem.Spec PyProof.Rows L2
namespace K7
abbrev N_opens : List Str := ["land", "cell", "passing", "b"]
abbrev s_opens : Stmt := topS 23
theorem sc_opens : FnScope ["land", "cell", "passing", "b"] ["land", "cell", "passing"] (defScope s_opens) := ⟨rfl, rfl, rfl, by decide +kernel, rfl, by decide +kernel, by decide +kernel⟩
/-! ### what a cell reaches -/
def edge (es : List (Nat × Nat)) (a b : Nat) : Prop := (a, b) ∈ es ∨ (b, a) ∈ es
theorem nb_edge {n : Nat} {es : List (Nat × Nat)} (ok : LandOk n es) {a b : Nat} : nbE (nearV n es) a b ↔ edge es a b := by
  constructor
  · rintro ⟨l, el, hb⟩
    have ha : a < n := by
      have z := (List.getElem?_eq_some_iff.mp el).1
      unfold nearV at z
      rw [List.length_map, List.length_range] at z
      exact z
    rw [near_get ha] at el
    obtain rfl := Option.some.inj el
    have z := (List.mem_filter.mp hb).2
    rcases Bool.or_eq_true_iff.mp z with q | q
    · exact .inl (of_decide_eq_true q)
    · exact .inr (of_decide_eq_true q)
  · intro h
    have lts : a < n ∧ b < n := by
      rcases h with z | z
      · obtain ⟨z1, z2⟩ := ok.lt _ z
        exact ⟨by have z1 : a < b := z1; have z2 : b < n := z2; omega, z2⟩
      · obtain ⟨z1, z2⟩ := ok.lt _ z
        exact ⟨z2, by have z1 : b < a := z1; have z2 : a < n := z2; omega⟩
    refine ⟨_, near_get lts.1, List.mem_filter.mpr ⟨List.mem_range.mpr lts.2, ?_⟩⟩
    rcases h with z | z
    · rw [decide_eq_true z]; rfl
    · rw [decide_eq_true z, Bool.or_true]
theorem found_iff {n : Nat} {es : List (Nat × Nat)} {ps fd : List Nat} {c : Nat} (ok : LandOk n es) (f : Found (nearV n es) ps c fd) (x : Nat) : x ∈ fd ↔ KL.Rch (edge es) ps c x := by
  constructor
  · exact fun h => (f.so x h).mono (fun a b => (nb_edge ok).mp) fun b hb => hb
  · intro h
    refine KL.Rch.mem h f.me fun a b ha e hp => ?_
    obtain ⟨l, el, hb⟩ := (nb_edge ok).mpr e
    exact f.cl a ha l el b hb hp
/-- the cells that are reached hold one of the road cells -/
def OpenV (es : List (Nat × Nat)) (rd ps : List Nat) (c : Nat) : Prop := ∃ x ∈ rd, KL.Rch (edge es) ps c x
section
variable {P : Program} {w : World} {K : PySem.W.Frag} {mg : Str → Option Value} {base : Heap} {a : AdL}
def spOpens (C : Addr) : Sp := fun vs H Q _ => ∃ (p : Addr) (n : Nat) (es : List (Nat × Nat)) (rd : List Nat) (c : Nat) (pa : Addr) (ps : List Nat), vs = [.ref p, .int (c : Nat), .ref pa] ∧ LandO C H p n es rd ∧ c < n ∧ SqOf H pa (ints_ ps) ∧
  ∀ H' b, Same H H' → (b = true ↔ OpenV es rd ps c) → Q (.bl b) H'
theorem ok_opens (T : Tl K mg a) {f fS : Addr} {fd fdS : FuncData} (F : Fun K "opens" "opens" s_opens f fd)
    (Gsp : FnOk P w K mg base CX0 1 fS fdS ["nearby", "cell", "passing"] spSpread) (gsp : mg "spread" = some (.ref fS)) (ksp : PySem.W.keepIn K (.ref fS) = true) (bsp : Binds K fdS ["nearby", "cell", "passing"] []) (m_any : mg "any" = none) : FnOk P w K mg base CX0 2 f fd ["land", "cell", "passing"] (spOpens a.C) := by
  refine F.ok sc_opens (fun vs H Q E h => ?_) (fun cdv A outer s H vs Q E hr h => ?_)
  · obtain ⟨p, n, es, rd, c, pa, ps, rfl, _⟩ := h
    rfl
  · obtain ⟨p, n, es, rd, c, pa, ps, rfl, L, hc, hpa, q⟩ := h
    refine ⟨_, (pss_one (ps_ret (pe_callB (cr_any rfl) (by rfl) m_any boot_any (pa_cons (pe_lc (own := [("b", 3)]) (g := gName 3) (tt := tYes) rfl sc_opens.nd (pi_list (pe_call Gsp (hr.mono (by decide)) (by rfl) gsp ksp bsp .nil pass0 (pa_cons (pe_fld (pv 0) rfl) (pa_cons (pv 1) (pa_cons (pv 2) pa_nil))))) (blkOk_by (own := [("b", 3)]) (N := N_opens) (sc := defScope s_opens) (by decide +kernel)) (fun _ _ _ _ _ => (pg_name (i := 3) sc_opens.nd rfl (by first | exact Or.inl rfl | exact Or.inr rfl))) (fun _ _ _ _ _ => pts_nil) (fun _ _ _ _ _ => (pe_cmpR (show OpR _ _ (rIn K false) from op_in_seq) (pv 3) (show PE _ _ (tFld K (tVar 0) "roads") from pe_fld (pv 0) rfl) (by with_unfolding_all rfl)))) pa_nil)))), ?_⟩
    have n5 := L.n5
    have L0 := L
    obtain ⟨dx, an, ar, ay, ac, tn, ty, tc, h1, h2, h3, h4, h5, h6, h7, h8⟩ := L.at_
    have ln : (nearV n es).length = n := by unfold nearV; rw [List.length_map, List.length_range]
    refine ⟨_, rfl, p, a.C, dx, _, _, rfl, h1, T.cl, T.nA _ (by decide), rfl, _, rfl, _, rfl, ay, ty, nearV n es, c, pa, ps, rfl, h5, h6, hpa, by omega, by omega, fun l hl x hx => ?_, fun H1 F0 fd e1 nF hF fo => ?_⟩
    · rw [ln]
      unfold nearV at hl
      obtain ⟨k, _, rfl⟩ := List.mem_map.mp hl
      exact List.mem_range.mp (List.mem_filter.mp hx).1
    · have fl : fd.length ≤ 5 := by
        have z := K7E.nodup_le fd (List.range n) fo.nd fun x hx => List.mem_range.mpr (by have z := fo.lt x hx; rw [ln] at z; exact z)
        rw [List.length_range] at z
        omega
      refine ⟨F0, rfl, ⟨_, .inl (.inl hF)⟩, fun D hD => lc_list (xs := ints_ fd) (fun j H2 => Same H1 H2 ∧ H2 D = some (.lst (((fd.take j).map fun x => decide (x ∈ rd)).map V.bl))) ⟨same_new (Same.refl H1) hD, upd_same⟩ (fun j H2 _ pv => .inl (.inl (pv.1 _ _ hF))) (fun j x H2 hx pv => ?_) (fun H2 pv => ?_)⟩
      · obtain ⟨e2, hD2⟩ := pv
        unfold ints_ at hx
        rw [List.getElem?_map] at hx
        obtain ⟨b, hb, rfl⟩ := Option.map_eq_some_iff.mp hx
        refine ⟨rfl, _, rfl, _, rfl, p, a.C, dx, _, _, rfl, e2 _ _ (e1 _ _ h1), T.cl, T.nA _ (by decide), rfl, ar, _, rfl, .inr (.inl (.inl (e2 _ _ (e1 _ _ h4)))), rfl, flat_ints rd, _, hD2, by rw [List.length_map, List.length_map, List.length_take]; exact small1000 (by omega), fun b o hb => ?_, ?_⟩
        · rw [upd_ne (ne_of_none hb hD)]
          exact e2 _ _ hb
        · rw [upd_same, List.take_add_one, hb, List.map_append, List.map_append]
          show some (HO.lst (_ ++ [V.bl (inV (.int (b : Nat)) (ints_ rd))])) = _
          rw [inV_ints]
          rfl
      · obtain ⟨e2, hD2⟩ := pv
        rw [show (ints_ fd).length = fd.length from List.length_map .., List.take_length] at hD2
        refine ⟨D, _, rfl, .inl (.inl hD2), q _ _ (e1.trans e2) ?_⟩
        rw [List.any_map, List.any_eq_true]
        constructor
        · rintro ⟨x, hx, hq⟩
          exact ⟨x, of_decide_eq_true hq, (found_iff L0.ok fo x).mp hx⟩
        · rintro ⟨x, hx, hq⟩
          exact ⟨x, (found_iff L0.ok fo x).mpr hq, decide_eq_true hx⟩
end
/-- whether a cell is open over these cells -/
noncomputable def openB (es : List (Nat × Nat)) (rd ps : List Nat) (c : Nat) : Bool := @decide (OpenV es rd ps c) (Classical.propDecidable _)
theorem openB_is {es : List (Nat × Nat)} {rd ps : List Nat} {c : Nat} {b : Bool} (h : b = true ↔ OpenV es rd ps c) : b = openB es rd ps c := by
  unfold openB
  by_cases z : OpenV es rd ps c
  · rw [h.mpr z]
    exact (@decide_eq_true _ (Classical.propDecidable _) z).symm
  · rw [Bool.eq_false_iff.mpr fun e => z (h.mp e)]
    exact (@decide_eq_false _ (Classical.propDecidable _) z).symm
theorem flat_one {α : Type} (x : α) : ∀ k : Nat, (List.replicate k [x]).flatten = List.replicate k x
  | 0 => rfl
  | k + 1 => by rw [List.replicate_succ, List.flatten_cons, flat_one x k]; rfl
theorem filter_take {p : Nat → Bool} {l : List Nat} {j b : Nat} (h : l[j]? = some b) : (l.take (j + 1)).filter p = (l.take j).filter p ++ (if p b = true then [b] else []) := by
  rw [List.take_add_one, h, List.filter_append]
  show _ ++ ([b].filter p) = _
  rw [List.filter_cons]
  rfl
end K7
end
/-! ## P17 -/
section
open PySem PySem.Spec PyProof.Rows L2
namespace K7
abbrev N_number_of_row : List Str := ["cell", "own", "row", "number", "b", "word", "way"]
abbrev s_number_of_row : Stmt := topS 31
theorem sc_number_of_row : FnScope ["cell", "own", "row", "number", "b", "word", "way"] ["cell", "own", "row"] (defScope s_number_of_row) := ⟨rfl, rfl, rfl, by decide +kernel, rfl, by decide +kernel, by decide +kernel⟩
abbrev N__check_places : List Str := ["own", "standings", "b", "word", "words"]
abbrev s__check_places : Stmt := topS 32
theorem sc__check_places : FnScope ["own", "standings", "b", "word", "words"] ["own", "standings"] (defScope s__check_places) := ⟨rfl, rfl, rfl, by decide +kernel, rfl, by decide +kernel, by decide +kernel⟩
/-! ### the number of a row -/
def wayK (o : Bool) (k : Nat) : Nat := if k = 0 then (if o = true then 0 else 2) else if k = 1 then 3 else if k = 2 then 4 else 1
def wayS (o : Bool) (k : Nat) : Str := if (decide (k = 0) && o) = true then "own" else wd k
theorem wd3 (k : Nat) : wd (k + 3) = "asleep" := rfl
theorem way_at (o : Bool) (k : Nat) : digs[wayK o k]? = some (wayS o k) ∧ ∀ m, m < wayK o k → digs[m]? ≠ some (wayS o k) := by
  have all : ∀ o : Bool, ∀ k : Fin 4, digs[wayK o k.val]? = some (wayS o k.val) ∧ ∀ m : Fin 5, m.val < wayK o k.val → digs[m.val]? ≠ some (wayS o k.val) := by decide +kernel
  have lt5 : ∀ o : Bool, ∀ k : Fin 4, wayK o k.val < 5 := by decide +kernel
  have z : ∃ k' : Fin 4, wayK o k = wayK o k'.val ∧ wayS o k = wayS o k'.val := by
    match k with
    | 0 => exact ⟨0, rfl, rfl⟩
    | 1 => exact ⟨1, rfl, rfl⟩
    | 2 => exact ⟨2, rfl, rfl⟩
    | k + 3 => exact ⟨3, rfl, by unfold wayS; rw [decide_eq_false (by omega)]; rfl⟩
  obtain ⟨k', e1, e2⟩ := z
  rw [e1, e2]
  exact ⟨(all o k').1, fun m hm => (all o k').2 ⟨m, Nat.lt_trans hm (lt5 o k')⟩ hm⟩
theorem wayK_lt (o : Bool) (k : Nat) : wayK o k < 5 := by
  unfold wayK
  repeat' split
  all_goals omega
def numR (own row : List Nat) (c : Nat) : Nat → Nat
  | 0 => 0
  | j + 1 => if j = c then numR own row c j else numR own row c j * 5 + wayK (decide (j ∈ own)) (row.getD j 0)
theorem numR_lt (own row : List Nat) (c : Nat) : ∀ j, numR own row c j < 5 ^ j
  | 0 => by show 0 < 1; decide
  | j + 1 => by
    have ih := numR_lt own row c j
    have w := wayK_lt (decide (j ∈ own)) (row.getD j 0)
    show (if j = c then numR own row c j else numR own row c j * 5 + wayK (decide (j ∈ own)) (row.getD j 0)) < 5 ^ (j + 1)
    rw [Nat.pow_succ]
    split
    · omega
    · omega
theorem numR_small {own row : List Nat} {c j : Nat} (h : j ≤ 5) : numR own row c j < 3126 := by
  have z := numR_lt own row c j
  have z2 : 5 ^ j ≤ 5 ^ 5 := Nat.pow_le_pow_right (by decide) h
  have z3 : (5 : Nat) ^ 5 = 3125 := by decide
  omega
theorem wds_at {row : List Nat} {n b : Nat} (rl : row.length = n) (h : b < n) : (wds row)[b]? = some (.str (wd (row.getD b 0))) := by
  unfold wds
  rw [List.getElem?_map, List.getElem?_eq_getElem (by rw [rl]; exact h), List.getD_eq_getElem?_getD, List.getElem?_eq_getElem (by rw [rl]; exact h)]
  rfl
theorem wd_none (k : Nat) : decide (V.str (wd k) = V.str "none") = decide (k = 0) := by
  match k with
  | 0 => decide +kernel
  | 1 => decide +kernel
  | 2 => decide +kernel
  | k + 3 =>
    rw [decide_eq_false (p := k + 3 = 0) (by omega)]
    show decide (V.str "asleep" = V.str "none") = false
    decide +kernel
section
variable {P : Program} {w : World} {K : PySem.W.Frag} {mg : Str → Option Value} {base : Heap} {a : AdL} {aST aRI aDG aOW : Addr}
def spNumR : Sp := fun vs H Q _ => ∃ (to tr : Addr) (n c : Nat) (own row : List Nat), vs = [.int (c : Nat), .ref to, .ref tr] ∧ H to = some (.tup (ints_ own)) ∧ H tr = some (.tup (wds row)) ∧ row.length = n ∧ n ≤ 5 ∧ ∀ H', Same H H' → Q (.int (numR own row c n : Nat)) H'
theorem ok_numr (T5 : T5s K mg aST aRI aDG aOW) {f : Addr} {fd : FuncData} (F : Fun K "number_of_row" "number_of_row" s_number_of_row f fd) (m_enumerate : mg "enumerate" = none) : FnOk P w K mg base CX0 1 f fd ["cell", "own", "row"] spNumR := by
  refine F.ok sc_number_of_row (fun vs H Q E h => ?_) (fun cdv A outer s H vs Q E hr h => ?_)
  · obtain ⟨to, tr, n, c, own, row, rfl, _⟩ := h
    rfl
  · obtain ⟨to, tr, n, c, own, row, rfl, ho, ht, rl, n5, q⟩ := h
    refine ⟨_, (pss_cons (ps_set (i := 3) sc_number_of_row.nd rfl (by first | exact Or.inl rfl | exact Or.inr rfl) pe_int)
 (pss_cons (ps_for PassesOwn.never rfl (K7E.pi_enumT (by rfl) m_enumerate (pa_cons (pv 2) pa_nil)) (pg_tup rfl (pgs_cons (pg_name (i := 4) sc_number_of_row.nd rfl (by first | exact Or.inl rfl | exact Or.inr rfl)) (pgs_cons (pg_name (i := 5) sc_number_of_row.nd rfl (by first | exact Or.inl rfl | exact Or.inr rfl)) pgs_nil)))
  (pss_one (ps_if (pt_cmpR op_ne (pv 4) (pv 0) (nomark _))
  (pss_cons (ps_set (i := 6) sc_number_of_row.nd rfl (by first | exact Or.inl rfl | exact Or.inr rfl) (pe_ifExp (pw_and (pt_cmpR op_eq (pv 5) pe_str (nomark _)) (pw_and1 (pt_cmpR op_in_seq (pv 4) (pv 1) (by with_unfolding_all rfl)))).pt pe_str (pv 5)))
 (pss_one (ps_set (i := 3) sc_number_of_row.nd rfl (by first | exact Or.inl rfl | exact Or.inr rfl) (pe_op op_add (pe_op op_mul (pv 3) pe_int) (pe_bm PySem.F.plainAttrs_tuple PySem.F.slot_tuple_index PySem.F.type_tuple_index mt_tup_index (pe_glob (v := .ref _) rfl T5.gDG rfl) (pa_cons (pv 6) pa_nil))))))
  pss_nil)))
 (pss_one (ps_ret (pv 3))))), ?_⟩
    have wl : (wds row).length = n := by rw [wds_len, rl]
    refine ⟨_, rfl, tr, _, rfl, .inl (.inl ht), for_it (K7E.walk_enumT (xs := wds row)) (fun j σ H2 => ∃ y4 y5 y6, σ = [some (.int (c : Nat)), some (.ref to), some (.ref tr), some (.int (numR own row c j : Nat)), y4, y5, y6] ∧ Same H H2)
      ⟨none, none, none, rfl, Same.refl H⟩ (fun j σ H2 _ pv => ?_) (fun j x σ H2 H3 hj pv hy => ?_) (fun σ H2 pv => ?_)⟩
    · obtain ⟨y4, y5, y6, rfl, e2⟩ := pv
      exact .inl (.inl (e2 _ _ ht))
    · obtain ⟨y4, y5, y6, rfl, e2⟩ := pv
      obtain ⟨T', x', y', rfl, nT, rfl, e3, e4⟩ := hy
      obtain rfl := Option.some.inj e3
      have jn : j < n := by rw [← wl]; exact hj
      obtain rfl := Option.some.inj ((wds_at rl jn).symm.trans e4)
      have sT := al (o := .tup [.int (j : Nat), .str (wd (row.getD j 0))]) nT
      have e23 := e2.trans sT
      refine ⟨T', _, rfl, .inl (.inl upd_same), rfl, _, _, rfl, _, _, rfl, rfl, ?_⟩
      generalize upd H2 T' (.tup [.int (j : Nat), .str (wd (row.getD j 0))]) = H3 at sT e23 ⊢
      refine ⟨_, rfl, _, rfl, rfl, _, rfl, ?_⟩
      rw [dec_int]
      have st : numR own row c (j + 1) = if j = c then numR own row c j else numR own row c j * 5 + wayK (decide (j ∈ own)) (row.getD j 0) := rfl
      by_cases hc : j = c
      · rw [decide_eq_true hc]
        rw [if_pos hc] at st
        refine iteF ⟨some (.int (j : Nat)), some (.str (wd (row.getD j 0))), y6, ?_, e23⟩
        rw [st]
        rfl
      · rw [decide_eq_false hc]
        rw [if_neg hc] at st
        refine iteT ?_
        have sm := numR_small (own := own) (row := row) (c := c) (j := j) (by omega)
        obtain ⟨w1, w2⟩ := way_at (decide (j ∈ own)) (row.getD j 0)
        have fin : ∀ H4, Same H3 H4 → ∀ v, v = V.str (wayS (decide (j ∈ own)) (row.getD j 0)) → ∃ i j_1, V.int (numR own row c j : Nat) = .int i ∧ True := fun _ _ _ _ => ⟨_, 0, rfl, trivial⟩
        clear fin
        have step : ((numR own row c j : Nat) : Int) * 5 + ((wayK (decide (j ∈ own)) (row.getD j 0) : Nat) : Int) = ((numR own row c (j + 1) : Nat) : Int) := by rw [st]; omega
        refine ⟨_, rfl, rfl, _, rfl, ?_⟩
        rw [wd_none]
        refine iteB (fun t => ?_) (fun t => ?_)
        · refine ⟨_, rfl, _, rfl, to, _, rfl, .inr (.inl (.inl (e23 _ _ ho))), rfl, flat_ints own, _, rfl, ?_⟩
          rw [show inV (.int (j : Nat)) (ints_ own) = decide (j ∈ own) from inV_ints j own]
          refine iteB (fun t2 => ?_) (fun t2 => ?_)
          · have t2 : decide (j ∈ own) = true := t2
            rw [t2] at w1 w2 step
            have e5 : wayS true (row.getD j 0) = "own" := by unfold wayS; rw [t]; rfl
            rw [e5] at w1 w2
            refine ⟨_, rfl, _, _, rfl, rfl, .inl ⟨by omega, by omega⟩, T5.yDG _, _, rfl, aDG, digs, "own", _, rfl, rfl, T5.sDG _, w1, w2, _, _, rfl, rfl, some (.int (j : Nat)), some (.str (wd (row.getD j 0))), some (.str "own"), ?_, e23⟩
            exact congrArg (fun z : Int => [some (V.int (c : Nat)), some (V.ref to), some (V.ref tr), some (V.int z), some (V.int (j : Nat)), some (V.str (wd (row.getD j 0))), some (V.str "own")]) step
          · have t2 : decide (j ∈ own) = false := t2
            rw [t2] at w1 w2 step
            have e5 : wayS false (row.getD j 0) = wd (row.getD j 0) := by unfold wayS; rw [Bool.and_false]; rfl
            rw [e5] at w1 w2
            refine ⟨_, rfl, _, rfl, _, _, rfl, rfl, .inl ⟨by omega, by omega⟩, T5.yDG _, _, rfl, aDG, digs, _, _, rfl, rfl, T5.sDG _, w1, w2, _, _, rfl, rfl, some (.int (j : Nat)), some (.str (wd (row.getD j 0))), some (.str (wd (row.getD j 0))), ?_, e23⟩
            exact congrArg (fun z : Int => [some (V.int (c : Nat)), some (V.ref to), some (V.ref tr), some (V.int z), some (V.int (j : Nat)), some (V.str (wd (row.getD j 0))), some (V.str (wd (row.getD j 0)))]) step
        · have e5 : wayS (decide (j ∈ own)) (row.getD j 0) = wd (row.getD j 0) := by unfold wayS; rw [t]; rfl
          rw [e5] at w1 w2
          refine iteF ⟨_, rfl, _, rfl, _, _, rfl, rfl, .inl ⟨by omega, by omega⟩, T5.yDG _, _, rfl, aDG, digs, _, _, rfl, rfl, T5.sDG _, w1, w2, _, _, rfl, rfl, some (.int (j : Nat)), some (.str (wd (row.getD j 0))), some (.str (wd (row.getD j 0))), ?_, e23⟩
          exact congrArg (fun z : Int => [some (V.int (c : Nat)), some (V.ref to), some (V.ref tr), some (V.int z), some (V.int (j : Nat)), some (V.str (wd (row.getD j 0))), some (V.str (wd (row.getD j 0)))]) step
    · obtain ⟨y4, y5, y6, rfl, e2⟩ := pv
      rw [wl]
      exact ⟨_, rfl, q _ e2⟩
/-! places of a view -/
/-- own cells and a row that are lawful -/
structure VwOk (n c : Nat) (own row : List Nat) : Prop where
  cn : c < n
  lt : ∀ b ∈ own, b < n
  nd : own.Nodup
  me : c ∈ own
  rl : row.length = n
  r0 : row.getD c 0 = 0
  inn : ∀ b ∈ own, row.getD b 0 = 0 ∨ 3 ≤ row.getD b 0
  out : ∀ b, b < n → b ∉ own → row.getD b 0 < 3
def spChV : Sp := fun vs H Q _ => ∃ (o t : Addr) (n c : Nat) (own row : List Nat), vs = [.ref o, .ref t] ∧ SqOf H o (ints_ own) ∧ SqOf H t (wds row) ∧ VwOk n c own row ∧ n ≤ 5 ∧ ∀ H', Same H H' → Q .non H'
theorem ok_chv {f : Addr} {fd : FuncData} (F : Fun K "_check_places" "_check_places" s__check_places f fd) (m_enumerate : mg "enumerate" = none) : FnOk P w K mg base CX0 1 f fd ["own", "standings"] spChV := by
  refine F.ok sc__check_places (fun vs H Q E h => ?_) (fun cdv A outer s H vs Q E hr h => ?_)
  · obtain ⟨o, t, n, c, own, row, rfl, _⟩ := h
    rfl
  · obtain ⟨o, t, n, c, own, row, rfl, ho, ht, ok, n5, q⟩ := h
    refine ⟨_, (Evl.pss_cut (ps_if (pt_cmpR op_in_seq pe_str (pe_lc (own := [("b", 2), ("word", 3)]) (g := gTup K 2 (gCons (gName 2) (gCons (gName 3) (gNil)))) rfl sc__check_places.nd (K7E.pi_either (K7E.pi_enumT (by rfl) m_enumerate (pa_cons (pv 1) pa_nil)) (pi_enum (by rfl) m_enumerate (pa_cons (pv 1) pa_nil))) (blkOk_by (own := [("b", 2), ("word", 3)]) (N := N__check_places) (sc := defScope s__check_places) (by decide +kernel)) (fun _ _ _ _ _ => (pg_tup rfl (pgs_cons (pg_name (i := 2) sc__check_places.nd rfl (by first | exact Or.inl rfl | exact Or.inr rfl)) (pgs_cons (pg_name (i := 3) sc__check_places.nd rfl (by first | exact Or.inl rfl | exact Or.inr rfl)) pgs_nil)))) (fun _ _ _ _ _ => (pts_one (pt_cmpR (show OpR _ _ (rIn K true) from op_notIn_seq) (pv 2) (pv 0) (by with_unfolding_all rfl)))) (fun _ _ _ _ _ => (pv 3))) (by with_unfolding_all rfl))
  (pss_one ps_never)
  pss_nil)
 (pss_cons (ps_setLc (i := 4) (own := [("b", 2)]) (g := gName 2) (tt := tYes) rfl sc__check_places.nd rfl rfl (sw_true rfl rfl rfl (by decide +kernel)) (K7E.pi_either (pi_tup (pv 0)) (pi_list (pv 0))) (blkOk_by (own := [("b", 2)]) (N := N__check_places) (sc := defScope s__check_places) (by decide +kernel)) (fun _ _ _ _ _ => (pg_name (i := 2) sc__check_places.nd rfl (by first | exact Or.inl rfl | exact Or.inr rfl))) (fun _ _ _ _ _ => pts_nil) (fun _ _ _ _ _ => (K7E.pe_ei (pe_ix (show IxR _ (rIxT K) from ix_tup) (pv 1) (pv 2) (fun _ _ => rfl)) (pe_ix (show IxR _ (rIxL K) from ix_list) (pv 1) (pv 2) (fun _ _ => rfl)))))
 (pss_one (ps_if (pw_or (pt_cmpR op_in_seq pe_str (pv 4) (by with_unfolding_all rfl)) (pw_or1 (pt_cmpR op_in_seq pe_str (pv 4) (by with_unfolding_all rfl)))).pt
  (pss_one ps_never)
  pss_nil)))), ?_⟩
    have wl : (wds row).length = n := by rw [wds_len, ok.rl]
    have ol : own.length ≤ 5 := by
      have z := K7E.nodup_le own (List.range n) ok.nd fun x hx => List.mem_range.mpr (ok.lt x hx)
      rw [List.length_range] at z
      omega
    refine ⟨fun τ H' => τ = [some (.ref o), some (.ref t), none, none, none] ∧ Same H H', ?_, fun τ H1 hM => ?_⟩
    · have first : ∀ (H2 : Hp) (D : Addr) (ks : List Nat), Same H H2 → H2 D = some (.lst (wds ks)) → (∀ k ∈ ks, k < 3) → ∃ p xs, V.ref D = V.ref p ∧ (SqL K H2 p xs ∨ SqT K H2 p xs) ∧ xs = wds ks := fun H2 D ks _ hD _ => ⟨D, _, rfl, .inl (.inl (.inl hD)), rfl⟩
      clear first
      rcases ht with z | z
      · refine .inl ⟨_, rfl, t, _, rfl, .inl (.inl z), fun D hD => lc_it (K7E.walk_enumT (xs := wds row)) (fun j H2 => Same H H2 ∧ ∃ ks : List Nat, H2 D = some (.lst (wds ks)) ∧ (∀ k ∈ ks, k < 3) ∧ ks.length ≤ j) ⟨al hD, [], upd_same, (fun k hk => nomatch hk), Nat.le_refl _⟩ (fun j H2 _ pv => .inl (.inl (pv.1 _ _ z))) (fun j x H2 H3 hj pv hy => ?_) (fun H2 pv => ?_)⟩
        · obtain ⟨e2, ks, hD2, hk3, lk⟩ := pv
          obtain ⟨T', x', y', rfl, nT, rfl, e3, e4⟩ := hy
          obtain rfl := Option.some.inj e3
          have jn : j < n := by rw [← wl]; exact hj
          have e4 : (wds row)[j]? = some y' := e4
          obtain rfl := Option.some.inj ((wds_at ok.rl jn).symm.trans e4)
          have sT := al (o := .tup [.int (j : Nat), .str (wd (row.getD j 0))]) nT
          have e23 := e2.trans sT
          refine ⟨T', _, rfl, .inl (.inl upd_same), rfl, _, _, rfl, _, _, rfl, rfl, rfl, ?_⟩
          refine ⟨_, rfl, _, rfl, o, _, rfl, (ho.same e23).sq, rfl, flat_ints own, _, rfl, ?_⟩
          show if (!inV (.int (j : Nat)) (ints_ own)) = true then _ else _
          rw [inV_ints]
          by_cases hm : j ∈ own
          · rw [decide_eq_true hm]
            exact iteF ⟨e23, ks, sT _ _ hD2, hk3, by omega⟩
          · rw [decide_eq_false hm]
            refine iteT ⟨_, rfl, _, sT _ _ hD2, by rw [wds_len]; exact small1000 (by omega), fun b z hb => ?_, ks ++ [row.getD j 0], ?_, fun k hk => ?_, by rw [List.length_append, List.length_singleton]; omega⟩
            · rw [upd_ne (ne_of_none hb hD)]
              exact e23 _ _ hb
            · rw [upd_same, wds_snoc]
            · rcases List.mem_append.mp hk with hk | hk
              · exact hk3 k hk
              · rw [List.mem_singleton.mp hk]
                exact ok.out j jn hm
        · obtain ⟨e2, ks, hD2, hk3, lk⟩ := pv
          exact ⟨D, wds ks, rfl, .inl (.inl (.inl hD2)), rfl, wds_flat ks, _, rfl, iteFo (wds_asleep hk3) ⟨rfl, e2⟩⟩
      · refine .inr ⟨_, rfl, t, _, rfl, .inl (.inl z), fun D hD => lc_it (walk_enum (xs := wds row)) (fun j H2 => Same H H2 ∧ ∃ ks : List Nat, H2 D = some (.lst (wds ks)) ∧ (∀ k ∈ ks, k < 3) ∧ ks.length ≤ j) ⟨al hD, [], upd_same, (fun k hk => nomatch hk), Nat.le_refl _⟩ (fun j H2 _ pv => .inl (.inl (pv.1 _ _ z))) (fun j x H2 H3 hj pv hy => ?_) (fun H2 pv => ?_)⟩
        · obtain ⟨e2, ks, hD2, hk3, lk⟩ := pv
          obtain ⟨T', x', y', rfl, nT, rfl, e3, e4⟩ := hy
          obtain rfl := Option.some.inj e3
          have jn : j < n := by rw [← wl]; exact hj
          have e4 : (wds row)[j]? = some y' := e4
          obtain rfl := Option.some.inj ((wds_at ok.rl jn).symm.trans e4)
          have sT := al (o := .tup [.int (j : Nat), .str (wd (row.getD j 0))]) nT
          have e23 := e2.trans sT
          refine ⟨T', _, rfl, .inl (.inl upd_same), rfl, _, _, rfl, _, _, rfl, rfl, rfl, ?_⟩
          refine ⟨_, rfl, _, rfl, o, _, rfl, (ho.same e23).sq, rfl, flat_ints own, _, rfl, ?_⟩
          show if (!inV (.int (j : Nat)) (ints_ own)) = true then _ else _
          rw [inV_ints]
          by_cases hm : j ∈ own
          · rw [decide_eq_true hm]
            exact iteF ⟨e23, ks, sT _ _ hD2, hk3, by omega⟩
          · rw [decide_eq_false hm]
            refine iteT ⟨_, rfl, _, sT _ _ hD2, by rw [wds_len]; exact small1000 (by omega), fun b z hb => ?_, ks ++ [row.getD j 0], ?_, fun k hk => ?_, by rw [List.length_append, List.length_singleton]; omega⟩
            · rw [upd_ne (ne_of_none hb hD)]
              exact e23 _ _ hb
            · rw [upd_same, wds_snoc]
            · rcases List.mem_append.mp hk with hk | hk
              · exact hk3 k hk
              · rw [List.mem_singleton.mp hk]
                exact ok.out j jn hm
        · obtain ⟨e2, ks, hD2, hk3, lk⟩ := pv
          exact ⟨D, wds ks, rfl, .inl (.inl (.inl hD2)), rfl, wds_flat ks, _, rfl, iteFo (wds_asleep hk3) ⟨rfl, e2⟩⟩
    · obtain ⟨rfl, e1⟩ := hM
      rcases ho with z | z
      · refine .inl ⟨_, rfl, o, rfl, ⟨_, .inl (.inl (e1 _ _ z))⟩, fun D hD => lc_tup (xs := ints_ own) (fun j H2 => Same H1 H2 ∧ ∃ ks : List Nat, H2 D = some (.lst (wds ks)) ∧ (∀ k ∈ ks, k = 0 ∨ 3 ≤ k) ∧ ks.length ≤ j) ⟨al hD, [], upd_same, (fun k hk => nomatch hk), Nat.le_refl _⟩ (fun j H2 _ pv => .inl (.inl (pv.1 _ _ (e1 _ _ z)))) (fun j x H2 hx pv => ?_) (fun H2 pv => ?_)⟩
        · obtain ⟨e2, ks, hD2, hk3, lk⟩ := pv
          have hj := (List.getElem?_eq_some_iff.mp hx).1
          rw [ints_len] at hj
          unfold ints_ at hx
          rw [List.getElem?_map] at hx
          obtain ⟨b, hb, rfl⟩ := Option.map_eq_some_iff.mp hx
          have mb := List.mem_of_getElem? hb
          refine ⟨rfl, ?_⟩
          refine ei_gen (fun Q' q => ⟨_, rfl, q⟩) ⟨_, rfl, rfl, rfl⟩ (ht.same (e1.trans e2)) (wds_at ok.rl (ok.lt b mb)) ?_
          refine ⟨_, hD2, by rw [wds_len]; exact small1000 (by omega), fun b z hb => ?_, ks ++ [row.getD b 0], ?_, fun k hk => ?_, by rw [List.length_append, List.length_singleton]; omega⟩
          · rw [upd_ne (ne_of_none hb hD)]
            exact e2 _ _ hb
          · rw [upd_same, wds_snoc]
          · rcases List.mem_append.mp hk with hk | hk
            · exact hk3 k hk
            · rw [List.mem_singleton.mp hk]
              exact ok.inn b mb
        · obtain ⟨e2, ks, hD2, hk3, lk⟩ := pv
          obtain ⟨a1, a2⟩ := wds_awake hk3
          refine ⟨_, rfl, D, wds ks, rfl, .inl (.inl (.inl hD2)), rfl, wds_flat ks, _, rfl, iteFo a1 ?_⟩
          exact ⟨_, rfl, D, wds ks, rfl, .inl (.inl (.inl hD2)), rfl, wds_flat ks, _, rfl, iteFo a2 (q _ (e1.trans e2))⟩
      · refine .inr ⟨_, rfl, o, rfl, ⟨_, .inl (.inl (e1 _ _ z))⟩, fun D hD => lc_list (xs := ints_ own) (fun j H2 => Same H1 H2 ∧ ∃ ks : List Nat, H2 D = some (.lst (wds ks)) ∧ (∀ k ∈ ks, k = 0 ∨ 3 ≤ k) ∧ ks.length ≤ j) ⟨al hD, [], upd_same, (fun k hk => nomatch hk), Nat.le_refl _⟩ (fun j H2 _ pv => .inl (.inl (pv.1 _ _ (e1 _ _ z)))) (fun j x H2 hx pv => ?_) (fun H2 pv => ?_)⟩
        · obtain ⟨e2, ks, hD2, hk3, lk⟩ := pv
          have hj := (List.getElem?_eq_some_iff.mp hx).1
          rw [ints_len] at hj
          unfold ints_ at hx
          rw [List.getElem?_map] at hx
          obtain ⟨b, hb, rfl⟩ := Option.map_eq_some_iff.mp hx
          have mb := List.mem_of_getElem? hb
          refine ⟨rfl, ?_⟩
          refine ei_gen (fun Q' q => ⟨_, rfl, q⟩) ⟨_, rfl, rfl, rfl⟩ (ht.same (e1.trans e2)) (wds_at ok.rl (ok.lt b mb)) ?_
          refine ⟨_, hD2, by rw [wds_len]; exact small1000 (by omega), fun b z hb => ?_, ks ++ [row.getD b 0], ?_, fun k hk => ?_, by rw [List.length_append, List.length_singleton]; omega⟩
          · rw [upd_ne (ne_of_none hb hD)]
            exact e2 _ _ hb
          · rw [upd_same, wds_snoc]
          · rcases List.mem_append.mp hk with hk | hk
            · exact hk3 k hk
            · rw [List.mem_singleton.mp hk]
              exact ok.inn b mb
        · obtain ⟨e2, ks, hD2, hk3, lk⟩ := pv
          obtain ⟨a1, a2⟩ := wds_awake hk3
          refine ⟨_, rfl, D, wds ks, rfl, .inl (.inl (.inl hD2)), rfl, wds_flat ks, _, rfl, iteFo a1 ?_⟩
          exact ⟨_, rfl, D, wds ks, rfl, .inl (.inl (.inl hD2)), rfl, wds_flat ks, _, rfl, iteFo a2 (q _ (e1.trans e2))⟩
end
end K7
end
/-! ## P18 -/
section
open PySem PySem.Spec PyProof.Rows L2
namespace K7
abbrev N_View___init__ : List Str := ["self", "land", "cell", "own", "standings", "b"]
abbrev s_View___init__ : Stmt := inClass (topS 33) 0
theorem sc_View___init__ : FnScope ["self", "land", "cell", "own", "standings", "b"] ["self", "land", "cell", "own", "standings"] (defScope s_View___init__) := ⟨rfl, rfl, rfl, by decide +kernel, rfl, by decide +kernel, by decide +kernel⟩
/-! ### a view is made -/
def outF (n : Nat) (own : List Nat) : List Nat := (List.range n).filter fun b => !decide (b ∈ own)
def rigF (n : Nat) (own row : List Nat) : List Nat := (outF n own).filter fun b => rightV (row.getD b 0)
def neeF (n : Nat) (own row : List Nat) : List Nat := (rigF n own row).filter fun b => decide (row.getD b 0 = 2)
def sleF (own row : List Nat) : List Nat := own.filter fun b => decide (3 ≤ row.getD b 0)
def vwFs (l : Addr) (c : Nat) (to ts t1 t2 t3 t4 : Addr) (k : Nat) : List (Str × V) := [("land", .ref l), ("cell", .int (c : Nat)), ("own", .ref to), ("standings", .ref ts), ("outside", .ref t1), ("rights", .ref t2), ("needed", .ref t3), ("sleeping", .ref t4), ("number", .int (k : Nat))]
def vfields : List Str := ["land", "cell", "own", "standings", "outside", "rights", "needed", "sleeping", "number"]
structure VwO (C VC : Addr) (H : Hp) (p l : Addr) (n : Nat) (es : List (Nat × Nat)) (rd : List Nat) (c : Nat) (own row : List Nat) : Prop where
  at_ : ∃ dx to ts t1 t2 t3 t4, H p = some (.ins VC dx (vwFs l c to ts t1 t2 t3 t4 (numR own row c n))) ∧ H to = some (.tup (ints_ own)) ∧ H ts = some (.tup (wds row)) ∧ H t1 = some (.tup (ints_ (outF n own))) ∧ H t2 = some (.tup (ints_ (rigF n own row))) ∧ H t3 = some (.tup (ints_ (neeF n own row))) ∧ H t4 = some (.tup (ints_ (sleF own row)))
  ld : LandO C H l n es rd
  ok : VwOk n c own row
  so : own.Pairwise (· < ·)
theorem VwO.same {C VC : Addr} {H H' : Hp} {p l : Addr} {n : Nat} {es : List (Nat × Nat)} {rd : List Nat} {c : Nat} {own row : List Nat} (h : VwO C VC H p l n es rd c own row) (e : Same H H') : VwO C VC H' p l n es rd c own row := by
  obtain ⟨dx, to, ts, t1, t2, t3, t4, h1, h2, h3, h4, h5, h6, h7⟩ := h.at_
  exact ⟨⟨dx, to, ts, t1, t2, t3, t4, e _ _ h1, e _ _ h2, e _ _ h3, e _ _ h4, e _ _ h5, e _ _ h6, e _ _ h7⟩, h.ld.same e, h.ok, h.so⟩
theorem LandO.ni {C S dx x l : Addr} {fs : List (Str × V)} {H : Hp} {n : Nat} {es : List (Nat × Nat)} {rd : List Nat} (h : LandO C H l n es rd) (hx : H x = some (.ins S dx fs)) (ne : l ≠ x) (o' : HO) : LandO C (upd H x o') l n es rd := by
  obtain ⟨dx', an, ar, ay, ac, tn, ty, tc, h1, h2, h3, h4, h5, h6, h7, h8⟩ := h.at_
  have no : ∀ (xs : List V) (C dx : Addr) fs, HO.tup xs ≠ .ins C dx fs := fun _ _ _ _ e => by cases e
  exact ⟨⟨dx', an, ar, ay, ac, tn, ty, tc, by rw [upd_ne ne]; exact h1, keepNI hx h2 (no _), h3.ni hx o', keepNI hx h4 (no _), keepNI hx h5 (no _), h6.ni hx o', keepNI hx h7 (no _), h8.ni hx o'⟩, h.n2, h.n5, h.ok, h.rlt, h.rnd, h.rso, h.r0, h.rn⟩
/-- while its fields are laid -/
structure Rn (C VC : Addr) (H0 H : Hp) (x dx l o t : Addr) (n : Nat) (es : List (Nat × Nat)) (rd own row : List Nat) (fs : List (Str × V)) : Prop where
  bt : But x H0 H
  hx : H x = some (.ins VC dx fs)
  ld : LandO C H l n es rd
  ho : SqOf H o (ints_ own)
  ht : SqOf H t (wds row)
theorem Rn.same {C VC : Addr} {H0 H H' : Hp} {x dx l o t : Addr} {n : Nat} {es : List (Nat × Nat)} {rd own row : List Nat} {fs : List (Str × V)} (h : Rn C VC H0 H x dx l o t n es rd own row fs) (e : Same H H') : Rn C VC H0 H' x dx l o t n es rd own row fs :=
  ⟨h.bt.same e, e _ _ h.hx, h.ld.same e, h.ho.same e, h.ht.same e⟩
theorem Rn.put {C VC : Addr} {H0 H : Hp} {x dx l o t : Addr} {n : Nat} {es : List (Nat × Nat)} {rd own row : List Nat} {fs : List (Str × V)} (h : Rn C VC H0 H x dx l o t n es rd own row fs) (ne : l ≠ x) (fs' : List (Str × V)) : Rn C VC H0 (upd H x (.ins VC dx fs')) x dx l o t n es rd own row fs' :=
  ⟨h.bt.put _, upd_same, h.ld.ni h.hx ne _, h.ho.ni h.hx _, h.ht.ni h.hx _⟩
theorem Rn.tup {C VC : Addr} {H0 H : Hp} {x dx l o t : Addr} {n : Nat} {es : List (Nat × Nat)} {rd own row : List Nat} {fs : List (Str × V)} (h : Rn C VC H0 H x dx l o t n es rd own row fs) (fs' : List (Str × V)) {b : Addr} {ys : List V} (hb : H b = some (.tup ys)) : upd H x (.ins VC dx fs') b = some (.tup ys) := keepNI h.hx hb fun _ _ _ e => by cases e
theorem wd_needed (k : Nat) : decide (V.str (wd k) = V.str "needed") = decide (k = 2) := by
  match k with
  | 0 => decide +kernel
  | 1 => decide +kernel
  | 2 => decide +kernel
  | k + 3 =>
    rw [decide_eq_false (p := k + 3 = 2) (by omega)]
    show decide (V.str "asleep" = V.str "needed") = false
    decide +kernel
theorem wd_sleeps (k : Nat) : decide (V.str (wd k) = V.str "asleep") = decide (3 ≤ k) := by
  match k with
  | 0 => decide +kernel
  | 1 => decide +kernel
  | 2 => decide +kernel
  | k + 3 =>
    rw [decide_eq_true (p := 3 ≤ k + 3) (by omega)]
    show decide (V.str "asleep" = V.str "asleep") = true
    decide +kernel
theorem numR_perm {own own' row : List Nat} {c : Nat} (h : ∀ b, b ∈ own' ↔ b ∈ own) : ∀ j, numR own' row c j = numR own row c j
  | 0 => rfl
  | j + 1 => by
    have ih := numR_perm (row := row) (c := c) h j
    show (if j = c then numR own' row c j else numR own' row c j * 5 + wayK (decide (j ∈ own')) (row.getD j 0)) = (if j = c then numR own row c j else numR own row c j * 5 + wayK (decide (j ∈ own)) (row.getD j 0))
    rw [ih, show decide (j ∈ own') = decide (j ∈ own) from decide_eq_decide.mpr (h j)]
theorem VwOk.perm {n c : Nat} {own own' row : List Nat} (ok : VwOk n c own row) (p : own'.Perm own) : VwOk n c own' row :=
  ⟨ok.cn, fun b hb => ok.lt b (p.mem_iff.mp hb), p.nodup_iff.mpr ok.nd, p.mem_iff.mpr ok.me, ok.rl, ok.r0, fun b hb => ok.inn b (p.mem_iff.mp hb), fun b hb hn => ok.out b hb fun m => hn (p.mem_iff.mpr m)⟩
theorem VwOk.ol {n c : Nat} {own row : List Nat} (ok : VwOk n c own row) : own.length ≤ n := by
  have z := K7E.nodup_le own (List.range n) ok.nd fun x hx => List.mem_range.mpr (ok.lt x hx)
  rw [List.length_range] at z
  exact z
section
variable {P : Program} {w : World} {K : PySem.W.Frag} {mg : Str → Option Value} {base : Heap} {a : AdL} {VC fE aST aRI aDG aOW : Addr}
def spVwI (a : AdL) (VC : Addr) : Sp := fun vs H Q _ => ∃ (x dx l o t : Addr) (n : Nat) (es : List (Nat × Nat)) (rd : List Nat) (c : Nat) (own row : List Nat), vs = [.ref x, .ref l, .int (c : Nat), .ref o, .ref t] ∧ H x = some (.ins VC dx []) ∧ LandO a.C H l n es rd ∧ l ≠ x ∧ SqOf H o (ints_ own) ∧ SqOf H t (wds row) ∧ VwOk n c own row ∧
  ∀ H' own', But x H H' → own'.Perm own → VwO a.C VC H' x l n es rd c own' row → Q .non H'
theorem ok_vwi (T : Tl K mg a) (T2 : Tk K a.C fE) (T5 : T5s K mg aST aRI aDG aOW) (clsV : Cls K VC) (nV : ∀ f ∈ vfields, NoAttr K VC f) {f fic fil fir fcv fnr : Addr} {fd fdic fdil fdir fdcv fdnr : FuncData} (F : Fun K "__init__" "View.__init__" s_View___init__ f fd)
    (Gic : FnOk P w K mg base CX0 2 fic fdic ["land", "thing"] (spIsCell a.C)) (gic : mg "is_cell" = some (.ref fic)) (kic : PySem.W.keepIn K (.ref fic) = true) (bic : Binds K fdic ["land", "thing"] [])
    (Gil : FnOk P w K mg base CX0 3 fil fdil ["land", "thing", "least"] (spIsLot K a.C)) (gil : mg "is_lot" = some (.ref fil)) (kil : PySem.W.keepIn K (.ref fil) = true) (bil : Binds K fdil ["land", "thing", "least"] [])
    (Gir : FnOk P w K mg base CX0 2 fir fdir ["land", "a", "thing"] (spIsRow a.C)) (gir : mg "is_row" = some (.ref fir)) (kir : PySem.W.keepIn K (.ref fir) = true) (bir : Binds K fdir ["land", "a", "thing"] [])
    (Gcv : FnOk P w K mg base CX0 1 fcv fdcv ["own", "standings"] spChV) (gcv : mg "_check_places" = some (.ref fcv)) (kcv : PySem.W.keepIn K (.ref fcv) = true) (bcv : Binds K fdcv ["own", "standings"] [])
    (Gnr : FnOk P w K mg base CX0 1 fnr fdnr ["cell", "own", "row"] spNumR) (gnr : mg "number_of_row" = some (.ref fnr)) (knr : PySem.W.keepIn K (.ref fnr) = true) (bnr : Binds K fdnr ["cell", "own", "row"] [])
    (m_isinstance : mg "isinstance" = none) (m_tuple : mg "tuple" = none) (m_sorted : mg "sorted" = none) (m_range : mg "range" = none) : FnOk P w K mg base CX0 4 f fd ["self", "land", "cell", "own", "standings"] (spVwI a VC) := by
  refine F.ok sc_View___init__ (fun vs H Q E h => ?_) (fun cdv A outer s H vs Q E hr h => ?_)
  · obtain ⟨x, dx, l, o, t, n, es, rd, c, own, row, rfl, _⟩ := h
    rfl
  · obtain ⟨x, dx, l, o, t, n, es, rd, c, own, row, rfl, hx, L, nlx, ho, ht, ok, q⟩ := h
    refine ⟨_, (Evl.pss_cut (ps_if (pt_not (pt_val (pe_callB call_isi (by rfl) m_isinstance boot_isinstance (pa_cons (pv 1) (pa_cons (pe_glob (v := .ref _) rfl T.gC rfl) pa_nil)))))
  (pss_one ps_never)
  pss_nil)
 (Evl.pss_cut (ps_if (pt_not (pt_val (pe_call Gic (hr.mono (by decide)) (by rfl) gic kic bic .nil pass0 (pa_cons (pv 1) (pa_cons (pv 2) pa_nil)))))
  (pss_one ps_never)
  pss_nil)
 (Evl.pss_cut (ps_if (pw_or (pt_not (pt_val (pe_call Gil (hr.mono (by decide)) (by rfl) gil kil bil .nil pass0 (pa_cons (pv 1) (pa_cons (pv 3) (pa_cons pe_int pa_nil)))))) (pw_or1 (pt_cmpR op_notIn_seq (pv 2) (pv 3) (by with_unfolding_all rfl)))).pt
  (pss_one ps_never)
  pss_nil)
 (Evl.pss_cut (ps_if (pt_not (pt_val (pe_call Gir (hr.mono (by decide)) (by rfl) gir kir bir .nil pass0 (pa_cons (pv 1) (pa_cons (pv 2) (pa_cons (pv 4) pa_nil))))))
  (pss_one ps_never)
  pss_nil)
 (Evl.pss_cut (ps_expr (pe_call Gcv (hr.mono (by decide)) (by rfl) gcv kcv bcv .nil pass0 (pa_cons (pv 3) (pa_cons (pv 4) pa_nil))))
 (Evl.pss_cut (ps_fld (pv 0) (pv 1) rfl)
 (Evl.pss_cut (ps_fld (pv 0) (pv 2) rfl)
 (Evl.pss_cut (ps_fld (pv 0) (pe_callTy call_tuple_of (by rfl) m_tuple boot_tuple (pa_cons (pe_callB K7S.cr_sortA (by rfl) m_sorted boot_sorted (pa_cons (pv 3) pa_nil)) pa_nil)) rfl)
 (Evl.pss_cut (ps_fld (pv 0) (pe_callTy call_tuple_of (by rfl) m_tuple boot_tuple (pa_cons (pv 4) pa_nil)) rfl)
 (Evl.pss_cut (ps_fld (pv 0) (pe_callTy call_tuple_of (by rfl) m_tuple boot_tuple (pa_cons (pe_lc (own := [("b", 5)]) (g := gName 5) rfl sc_View___init__.nd (pi_range1 rfl m_range (pa_cons (pe_fld (pv 1) rfl) pa_nil)) (blkOk_by (own := [("b", 5)]) (N := N_View___init__) (sc := defScope s_View___init__) (by decide +kernel)) (fun _ _ _ _ _ => (pg_name (i := 5) sc_View___init__.nd rfl (by first | exact Or.inl rfl | exact Or.inr rfl))) (fun _ _ _ _ _ => (pts_one (pt_cmpR (show OpR _ _ (rIn K true) from op_notIn_seq) (pv 5) (pv 3) (by with_unfolding_all rfl)))) (fun _ _ _ _ _ => (pv 5))) pa_nil)) rfl)
 (Evl.pss_cut (ps_fld (pv 0) (pe_callTy call_tuple_of (by rfl) m_tuple boot_tuple (pa_cons (pe_lc (own := [("b", 5)]) (g := gName 5) rfl sc_View___init__.nd (pi_tup (pe_fld (pv 0) rfl)) (blkOk_by (own := [("b", 5)]) (N := N_View___init__) (sc := defScope s_View___init__) (by decide +kernel)) (fun _ _ _ _ _ => (pg_name (i := 5) sc_View___init__.nd rfl (by first | exact Or.inl rfl | exact Or.inr rfl))) (fun _ _ _ _ _ => (pts_one (pt_cmpR (show OpR _ _ (rIn K false) from op_in_seq) (K7E.pe_ei (pe_ix (show IxR _ (rIxT K) from ix_tup) (pv 4) (pv 5) (fun _ _ => rfl)) (pe_ix (show IxR _ (rIxL K) from ix_list) (pv 4) (pv 5) (fun _ _ => rfl))) (pe_glob (v := .ref _) rfl T5.gRI rfl) (by with_unfolding_all rfl)))) (fun _ _ _ _ _ => (pv 5))) pa_nil)) rfl)
 (Evl.pss_cut (ps_fld (pv 0) (pe_callTy call_tuple_of (by rfl) m_tuple boot_tuple (pa_cons (pe_lc (own := [("b", 5)]) (g := gName 5) rfl sc_View___init__.nd (pi_tup (pe_fld (pv 0) rfl)) (blkOk_by (own := [("b", 5)]) (N := N_View___init__) (sc := defScope s_View___init__) (by decide +kernel)) (fun _ _ _ _ _ => (pg_name (i := 5) sc_View___init__.nd rfl (by first | exact Or.inl rfl | exact Or.inr rfl))) (fun _ _ _ _ _ => (pts_one (pt_cmpR op_eq (K7E.pe_ei (pe_ix (show IxR _ (rIxT K) from ix_tup) (pv 4) (pv 5) (fun _ _ => rfl)) (pe_ix (show IxR _ (rIxL K) from ix_list) (pv 4) (pv 5) (fun _ _ => rfl))) pe_str (nomark _)))) (fun _ _ _ _ _ => (pv 5))) pa_nil)) rfl)
 (Evl.pss_cut (ps_fld (pv 0) (pe_callTy call_tuple_of (by rfl) m_tuple boot_tuple (pa_cons (pe_lc (own := [("b", 5)]) (g := gName 5) rfl sc_View___init__.nd (pi_tup (pe_fld (pv 0) rfl)) (blkOk_by (own := [("b", 5)]) (N := N_View___init__) (sc := defScope s_View___init__) (by decide +kernel)) (fun _ _ _ _ _ => (pg_name (i := 5) sc_View___init__.nd rfl (by first | exact Or.inl rfl | exact Or.inr rfl))) (fun _ _ _ _ _ => (pts_one (pt_cmpR op_eq (K7E.pe_ei (pe_ix (show IxR _ (rIxT K) from ix_tup) (pv 4) (pv 5) (fun _ _ => rfl)) (pe_ix (show IxR _ (rIxL K) from ix_list) (pv 4) (pv 5) (fun _ _ => rfl))) pe_str (nomark _)))) (fun _ _ _ _ _ => (pv 5))) pa_nil)) rfl)
 (pss_one (ps_fld (pv 0) (pe_call Gnr (hr.mono (by decide)) (by rfl) gnr knr bnr .nil pass0 (pa_cons (pv 2) (pa_cons (pe_fld (pv 0) rfl) (pa_cons (pe_fld (pv 0) rfl) pa_nil)))) rfl))))))))))))))), ?_⟩
    obtain ⟨dl, an, ar, ay, ac, tn, ty, tc, m1, _⟩ := L.at_
    have n5 := L.n5
    have ol := ok.ol
    refine ⟨fun σ H' => σ = [some (.ref x), some (.ref l), some (.int (c : Nat)), some (.ref o), some (.ref t), none] ∧ Same H H', ?_, fun σ H1 hM => ?_⟩
    · refine ⟨_, rfl, _, _, _, _, _, rfl, .own _, .base (.ins m1 T.cl T2.ha T2.hn T2.ht T2.hm), T2.own, true, rfl, ?_⟩
      exact iteF ⟨rfl, Same.refl H⟩
    obtain ⟨rfl, e1⟩ := hM
    refine ⟨fun σ H' => σ = [some (.ref x), some (.ref l), some (.int (c : Nat)), some (.ref o), some (.ref t), none] ∧ Same H H', ?_, fun σ H2 hM => ?_⟩
    · refine ⟨_, rfl, _, rfl, l, n, _, rfl, (L.same e1).c, .flat (.int _), _, rfl, ?_⟩
      rw [whole_cell ok.cn]
      exact iteF ⟨rfl, e1⟩
    obtain ⟨rfl, e2⟩ := hM
    refine ⟨fun σ H' => σ = [some (.ref x), some (.ref l), some (.int (c : Nat)), some (.ref o), some (.ref t), none] ∧ Same H H', ?_, fun σ H3 hM => ?_⟩
    · refine ⟨_, rfl, _, rfl, l, n, _, 1, rfl, (L.same e2).c, .inr ⟨o, ints_ own, rfl, ho.same e2, fun y hy => ?_, by rw [ints_len]; omega, fun H3 e3 => ⟨_, rfl, ?_⟩⟩⟩
      · unfold ints_ at hy
        obtain ⟨b, _, rfl⟩ := List.mem_map.mp hy
        exact .flat (.int _)
      rw [cells_lot ok.lt ok.nd (List.length_pos_of_mem ok.me)]
      refine iteF ⟨_, rfl, _, rfl, o, _, rfl, (ho.same (e2.trans e3)).sq, rfl, flat_ints own, _, rfl, ?_⟩
      show if (!inV (.int (c : Nat)) (ints_ own)) = true then _ else _
      rw [inV_ints, decide_eq_true ok.me]
      exact iteF ⟨rfl, e2.trans e3⟩
    obtain ⟨rfl, e3⟩ := hM
    refine ⟨fun σ H' => σ = [some (.ref x), some (.ref l), some (.int (c : Nat)), some (.ref o), some (.ref t), none] ∧ Same H H', ?_, fun σ H4 hM => ?_⟩
    · refine ⟨_, rfl, _, rfl, _, rfl, l, t, n, c, row, rfl, (L.same e3).c, n5, ht.same e3, ok.rl, ?_, fun H4 e4 => ⟨_, rfl, iteF ⟨rfl, e3.trans e4⟩⟩⟩
      have z := ok.r0
      rw [List.getD_eq_getElem?_getD, List.getElem?_eq_getElem (by rw [ok.rl]; exact ok.cn)] at z
      rw [List.getElem?_eq_getElem (by rw [ok.rl]; exact ok.cn)]
      exact congrArg some z
    obtain ⟨rfl, e4⟩ := hM
    refine ⟨fun σ H' => σ = [some (.ref x), some (.ref l), some (.int (c : Nat)), some (.ref o), some (.ref t), none] ∧ Same H H', ?_, fun σ H5 hM => ?_⟩
    · exact ⟨_, rfl, _, rfl, o, t, n, c, own, row, rfl, ho.same e4, ht.same e4, ok, n5, fun H5 e5 => ⟨rfl, e4.trans e5⟩⟩
    obtain ⟨rfl, e5⟩ := hM
    have R5 : Rn a.C VC H H5 x dx l o t n es rd own row [] := ⟨fun b o _ hb => e5 _ _ hb, e5 _ _ hx, L.same e5, ho.same e5, ht.same e5⟩
    clear e1 e2 e3 e4
    refine ⟨fun σ H' => σ = [some (.ref x), some (.ref l), some (.int (c : Nat)), some (.ref o), some (.ref t), none] ∧ Rn a.C VC H H' x dx l o t n es rd own row [("land", .ref l)], ?_, fun σ H6 hM => ?_⟩
    · exact ⟨_, rfl, _, rfl, x, VC, dx, _, rfl, R5.hx, clsV, nV _ (by decide), by show 0 < 1000; decide, rfl, R5.put nlx _⟩
    obtain ⟨rfl, R6⟩ := hM
    refine ⟨fun σ H' => σ = [some (.ref x), some (.ref l), some (.int (c : Nat)), some (.ref o), some (.ref t), none] ∧ Rn a.C VC H H' x dx l o t n es rd own row [("land", .ref l), ("cell", .int (c : Nat))], ?_, fun σ H7 hM => ?_⟩
    · exact ⟨_, rfl, _, rfl, x, VC, dx, _, rfl, R6.hx, clsV, nV _ (by decide), by show 1 < 1000; decide, rfl, R6.put nlx _⟩
    obtain ⟨rfl, R7⟩ := hM
    refine ⟨fun σ H' => ∃ (own' : List Nat) (to : Addr), σ = [some (.ref x), some (.ref l), some (.int (c : Nat)), some (.ref o), some (.ref t), none] ∧ Rn a.C VC H H' x dx l o t n es rd own row [("land", .ref l), ("cell", .int (c : Nat)), ("own", .ref to)] ∧ own'.Perm own ∧ own'.Pairwise (· < ·) ∧ H' to = some (.tup (ints_ own')), ?_, fun σ H8 hM => ?_⟩
    · have e3 : own.map (fun c => ((c : Nat) : Int)) = own.map fun c => ((c : Nat) : Int) := rfl
      refine ⟨_, rfl, o, own.map (fun c => ((c : Nat) : Int)), rfl, ?_, by rw [List.length_map]; omega, fun ms p pm sm np => ?_⟩
      · rw [← ints_map]
        exact R7.ho.sq
      have e8 := al (o := .lst (ms.map V.int)) np
      have hp8 : upd H7 p (.lst (ms.map V.int)) p = some (.lst (ms.map V.int)) := upd_same
      generalize upd H7 p (.lst (ms.map V.int)) = H8 at e8 hp8 ⊢
      have back := ints_back pm
      have pm' : (ms.map Int.toNat).Perm own := by
        have z := pm.map Int.toNat
        rw [List.map_map] at z
        exact z.trans (List.Perm.of_eq ((List.map_congr_left fun c _ => rfl).trans (List.map_id own)))
      have so' : (ms.map Int.toNat).Pairwise (· < ·) := by
        have nd := pm'.nodup_iff.mpr ok.nd
        rw [back, List.pairwise_map] at sm
        exact (sm.and (List.nodup_iff_pairwise_ne.mp nd)).imp fun h => by have h1 := h.1; have h2 := h.2; omega
      have vi : ms.map V.int = ints_ (ms.map Int.toNat) := by rw [ints_map, ← back]
      rw [vi] at hp8
      refine ⟨p, _, rfl, .inl ⟨.inl (.inl hp8), fun u nu => ?_⟩⟩
      have e9 := al (o := .tup (ints_ (ms.map Int.toNat))) nu
      have R9 := (R7.same e8).same e9
      have hu9 : upd H8 u (.tup (ints_ (ms.map Int.toNat))) u = some (.tup (ints_ (ms.map Int.toNat))) := upd_same
      exact ⟨_, rfl, x, VC, dx, _, rfl, R9.hx, clsV, nV _ (by decide), by show 2 < 1000; decide, ms.map Int.toNat, u, rfl, R9.put nlx _, pm', so', R9.tup _ hu9⟩
    obtain ⟨own', to, rfl, R8, pm, so, h_to⟩ := hM
    refine ⟨fun σ H' => ∃ (ts : Addr), σ = [some (.ref x), some (.ref l), some (.int (c : Nat)), some (.ref o), some (.ref t), none] ∧ Rn a.C VC H H' x dx l o t n es rd own row [("land", .ref l), ("cell", .int (c : Nat)), ("own", .ref to), ("standings", .ref ts)] ∧ H' to = some (.tup (ints_ own')) ∧ H' ts = some (.tup (wds row)), ?_, fun σ H9 hM => ?_⟩
    · refine ⟨_, rfl, t, wds row, rfl, ?_⟩
      rcases R8.ht with z | z
      · exact .inr ⟨.inl (.inl z), _, rfl, x, VC, dx, _, rfl, R8.hx, clsV, nV _ (by decide), by show 3 < 1000; decide, t, rfl, R8.put nlx _, R8.tup _ h_to, R8.tup _ z⟩
      · refine .inl ⟨.inl (.inl z), fun u nu => ?_⟩
        have e9 := al (o := .tup (wds row)) nu
        have R9 := R8.same e9
        have hu9 : upd H8 u (.tup (wds row)) u = some (.tup (wds row)) := upd_same
        exact ⟨_, rfl, x, VC, dx, _, rfl, R9.hx, clsV, nV _ (by decide), by show 3 < 1000; decide, u, rfl, R9.put nlx _, R9.tup _ (e9 _ _ h_to), R9.tup _ hu9⟩
    obtain ⟨ts, rfl, R9, h_to, h_ts⟩ := hM
    have lo' : ∀ b ∈ own', b < n := fun b hb => ok.lt b (pm.mem_iff.mp hb)
    have ol' : own'.length ≤ 5 := by rw [pm.length_eq]; omega
    refine ⟨fun σ H' => ∃ (t1 : Addr), σ = [some (.ref x), some (.ref l), some (.int (c : Nat)), some (.ref o), some (.ref t), none] ∧ Rn a.C VC H H' x dx l o t n es rd own row [("land", .ref l), ("cell", .int (c : Nat)), ("own", .ref to), ("standings", .ref ts), ("outside", .ref t1)] ∧ H' to = some (.tup (ints_ own')) ∧ H' ts = some (.tup (wds row)) ∧ H' t1 = some (.tup (ints_ (outF n own'))), ?_, fun σ HA hM => ?_⟩
    · obtain ⟨dl2, _, _, _, _, _, _, _, m2, _⟩ := R9.ld.at_
      refine ⟨_, rfl, l, a.C, dl2, _, _, rfl, m2, T.cl, T.nA _ (by decide), rfl, _, rfl, by omega, by omega, fun D hD => lc_range (lo := 0) (n := n) (fun i H2 => Same H9 H2 ∧ H2 D = some (.lst (ints_ ((List.range i).filter fun b => !decide (b ∈ own'))))) ⟨al hD, upd_same⟩ (fun i H2 hi pv => ?_) (fun H2 pv => ?_)⟩
      · obtain ⟨e2, hD2⟩ := pv
        rw [show (0 : Int) + ((i : Nat) : Int) = (i : Nat) from Int.zero_add _]
        refine ⟨rfl, _, rfl, _, rfl, o, _, rfl, (R9.ho.same e2).sq, rfl, flat_ints own, _, rfl, ?_⟩
        show if (!inV (.int (i : Nat)) (ints_ own)) = true then _ else _
        rw [inV_ints, show decide (i ∈ own) = decide (i ∈ own') from decide_eq_decide.mpr (pm.mem_iff (a := i)).symm]
        refine iteB (fun t => ?_) (fun t => ?_)
        · refine ⟨_, rfl, _, hD2, by rw [ints_len]; exact small1000 (Nat.le_trans (List.length_filter_le _ _) (by rw [List.length_range]; omega)), fun b z hb => ?_, ?_⟩
          · rw [upd_ne (ne_of_none hb hD)]
            exact e2 _ _ hb
          · rw [upd_same, range_filter, if_pos t, ints_snoc]
        · refine ⟨e2, ?_⟩
          rw [range_filter, if_neg (by rw [t]; decide), List.append_nil]
          exact hD2
      · obtain ⟨e2, hD2⟩ := pv
        refine ⟨D, _, rfl, .inl ⟨.inl (.inl hD2), fun u nu => ?_⟩⟩
        have e3 := e2.trans (al (o := .tup (ints_ (outF n own'))) nu)
        have R10 := R9.same e3
        have hu : upd H2 u (.tup (ints_ (outF n own'))) u = some (.tup (ints_ (outF n own'))) := upd_same
        exact ⟨_, rfl, x, VC, dx, _, rfl, R10.hx, clsV, nV _ (by decide), by show 4 < 1000; decide, u, rfl, R10.put nlx _, R10.tup _ (e3 _ _ h_to), R10.tup _ (e3 _ _ h_ts), R10.tup _ hu⟩
    obtain ⟨t1, rfl, RA, h_to, h_ts, h_t1⟩ := hM
    have lout : ∀ b ∈ outF n own', b < n := fun b hb => List.mem_range.mp (List.mem_filter.mp hb).1
    have out5 : (outF n own').length ≤ 5 := Nat.le_trans (List.length_filter_le _ _) (by rw [List.length_range]; omega)
    refine ⟨fun σ H' => ∃ (t2 : Addr), σ = [some (.ref x), some (.ref l), some (.int (c : Nat)), some (.ref o), some (.ref t), none] ∧ Rn a.C VC H H' x dx l o t n es rd own row [("land", .ref l), ("cell", .int (c : Nat)), ("own", .ref to), ("standings", .ref ts), ("outside", .ref t1), ("rights", .ref t2)] ∧ H' to = some (.tup (ints_ own')) ∧ H' ts = some (.tup (wds row)) ∧ H' t1 = some (.tup (ints_ (outF n own'))) ∧ H' t2 = some (.tup (ints_ (rigF n own' row))), ?_, fun σ HB hM => ?_⟩
    · refine ⟨_, rfl, x, VC, dx, _, _, rfl, RA.hx, clsV, nV _ (by decide), rfl, t1, rfl, ⟨_, .inl (.inl h_t1)⟩, fun D hD => lc_tup (xs := ints_ (outF n own')) (fun j H2 => Same HA H2 ∧ H2 D = some (.lst (ints_ (((outF n own').take j).filter (fun b => rightV (row.getD b 0)))))) ⟨al hD, upd_same⟩ (fun j H2 _ pv => .inl (.inl (pv.1 _ _ h_t1))) (fun j z H2 hz pv => ?_) (fun H2 pv => ?_)⟩
      · obtain ⟨e2, hD2⟩ := pv
        have hj := (List.getElem?_eq_some_iff.mp hz).1
        rw [ints_len] at hj
        unfold ints_ at hz
        rw [List.getElem?_map] at hz
        obtain ⟨b, hb, rfl⟩ := Option.map_eq_some_iff.mp hz
        have mb := List.mem_of_getElem? hb
        have ft := filter_take (p := (fun b => rightV (row.getD b 0))) hb
        refine ⟨rfl, ?_⟩
        refine ei_gen (fun Q' q => ⟨_, rfl, q⟩) ⟨_, rfl, rfl, rfl⟩ (RA.ht.same e2) (wds_at ok.rl (lout b mb)) ?_
        refine ⟨aRI, _, rfl, .inr (T5.sRI _), rfl, rfl, _, rfl, ?_⟩
        show if inV (.str (wd (row.getD b 0))) [.str "awake", .str "needed"] = true then _ else _
        rw [wd_right]
        refine iteB (fun t => ?_) (fun t => ?_)
        · refine ⟨_, rfl, _, hD2, by rw [ints_len]; exact small1000 (Nat.le_trans (List.length_filter_le _ _) (by rw [List.length_take]; omega)), fun b z hb => ?_, ?_⟩
          · rw [upd_ne (ne_of_none hb hD)]
            exact e2 _ _ hb
          · rw [upd_same, ft, if_pos t, ints_snoc]
        · refine ⟨e2, ?_⟩
          rw [ft, if_neg (by rw [t]; decide), List.append_nil]
          exact hD2
      · obtain ⟨e2, hD2⟩ := pv
        rw [ints_len, List.take_length] at hD2
        refine ⟨D, _, rfl, .inl ⟨.inl (.inl hD2), fun u nu => ?_⟩⟩
        have e3 := e2.trans (al (o := .tup (ints_ (rigF n own' row))) nu)
        have RZ := RA.same e3
        have hu : upd H2 u (.tup (ints_ (rigF n own' row))) u = some (.tup (ints_ (rigF n own' row))) := upd_same
        exact ⟨_, rfl, x, VC, dx, _, rfl, RZ.hx, clsV, nV _ (by decide), by show 5 < 1000; decide, u, rfl, RZ.put nlx _, RZ.tup _ (e3 _ _ h_to), RZ.tup _ (e3 _ _ h_ts), RZ.tup _ (e3 _ _ h_t1), RZ.tup _ hu⟩
    obtain ⟨t2, rfl, RB, h_to, h_ts, h_t1, h_t2⟩ := hM
    have lrig : ∀ b ∈ rigF n own' row, b < n := fun b hb => lout b (List.mem_filter.mp hb).1
    have rig5 : (rigF n own' row).length ≤ 5 := Nat.le_trans (List.length_filter_le _ _) out5
    refine ⟨fun σ H' => ∃ (t3 : Addr), σ = [some (.ref x), some (.ref l), some (.int (c : Nat)), some (.ref o), some (.ref t), none] ∧ Rn a.C VC H H' x dx l o t n es rd own row [("land", .ref l), ("cell", .int (c : Nat)), ("own", .ref to), ("standings", .ref ts), ("outside", .ref t1), ("rights", .ref t2), ("needed", .ref t3)] ∧ H' to = some (.tup (ints_ own')) ∧ H' ts = some (.tup (wds row)) ∧ H' t1 = some (.tup (ints_ (outF n own'))) ∧ H' t2 = some (.tup (ints_ (rigF n own' row))) ∧ H' t3 = some (.tup (ints_ (neeF n own' row))), ?_, fun σ HC hM => ?_⟩
    · refine ⟨_, rfl, x, VC, dx, _, _, rfl, RB.hx, clsV, nV _ (by decide), rfl, t2, rfl, ⟨_, .inl (.inl h_t2)⟩, fun D hD => lc_tup (xs := ints_ (rigF n own' row)) (fun j H2 => Same HB H2 ∧ H2 D = some (.lst (ints_ (((rigF n own' row).take j).filter (fun b => decide (row.getD b 0 = 2)))))) ⟨al hD, upd_same⟩ (fun j H2 _ pv => .inl (.inl (pv.1 _ _ h_t2))) (fun j z H2 hz pv => ?_) (fun H2 pv => ?_)⟩
      · obtain ⟨e2, hD2⟩ := pv
        have hj := (List.getElem?_eq_some_iff.mp hz).1
        rw [ints_len] at hj
        unfold ints_ at hz
        rw [List.getElem?_map] at hz
        obtain ⟨b, hb, rfl⟩ := Option.map_eq_some_iff.mp hz
        have mb := List.mem_of_getElem? hb
        have ft := filter_take (p := (fun b => decide (row.getD b 0 = 2))) hb
        refine ⟨rfl, ?_⟩
        refine ei_gen (fun Q' q => ⟨_, rfl, q⟩) ⟨_, rfl, rfl, rfl⟩ (RB.ht.same e2) (wds_at ok.rl (lrig b mb)) ?_
        refine ⟨rfl, _, rfl, ?_⟩
        rw [wd_needed]
        refine iteB (fun t => ?_) (fun t => ?_)
        · refine ⟨_, rfl, _, hD2, by rw [ints_len]; exact small1000 (Nat.le_trans (List.length_filter_le _ _) (by rw [List.length_take]; omega)), fun b z hb => ?_, ?_⟩
          · rw [upd_ne (ne_of_none hb hD)]
            exact e2 _ _ hb
          · rw [upd_same, ft, if_pos t, ints_snoc]
        · refine ⟨e2, ?_⟩
          rw [ft, if_neg (by rw [t]; decide), List.append_nil]
          exact hD2
      · obtain ⟨e2, hD2⟩ := pv
        rw [ints_len, List.take_length] at hD2
        refine ⟨D, _, rfl, .inl ⟨.inl (.inl hD2), fun u nu => ?_⟩⟩
        have e3 := e2.trans (al (o := .tup (ints_ (neeF n own' row))) nu)
        have RZ := RB.same e3
        have hu : upd H2 u (.tup (ints_ (neeF n own' row))) u = some (.tup (ints_ (neeF n own' row))) := upd_same
        exact ⟨_, rfl, x, VC, dx, _, rfl, RZ.hx, clsV, nV _ (by decide), by show 6 < 1000; decide, u, rfl, RZ.put nlx _, RZ.tup _ (e3 _ _ h_to), RZ.tup _ (e3 _ _ h_ts), RZ.tup _ (e3 _ _ h_t1), RZ.tup _ (e3 _ _ h_t2), RZ.tup _ hu⟩
    obtain ⟨t3, rfl, RC, h_to, h_ts, h_t1, h_t2, h_t3⟩ := hM
    refine ⟨fun σ H' => ∃ (t4 : Addr), σ = [some (.ref x), some (.ref l), some (.int (c : Nat)), some (.ref o), some (.ref t), none] ∧ Rn a.C VC H H' x dx l o t n es rd own row [("land", .ref l), ("cell", .int (c : Nat)), ("own", .ref to), ("standings", .ref ts), ("outside", .ref t1), ("rights", .ref t2), ("needed", .ref t3), ("sleeping", .ref t4)] ∧ H' to = some (.tup (ints_ own')) ∧ H' ts = some (.tup (wds row)) ∧ H' t1 = some (.tup (ints_ (outF n own'))) ∧ H' t2 = some (.tup (ints_ (rigF n own' row))) ∧ H' t3 = some (.tup (ints_ (neeF n own' row))) ∧ H' t4 = some (.tup (ints_ (sleF own' row))), ?_, fun σ HD hM => ?_⟩
    · refine ⟨_, rfl, x, VC, dx, _, _, rfl, RC.hx, clsV, nV _ (by decide), rfl, to, rfl, ⟨_, .inl (.inl h_to)⟩, fun D hD => lc_tup (xs := ints_ (own')) (fun j H2 => Same HC H2 ∧ H2 D = some (.lst (ints_ (((own').take j).filter (fun b => decide (3 ≤ row.getD b 0)))))) ⟨al hD, upd_same⟩ (fun j H2 _ pv => .inl (.inl (pv.1 _ _ h_to))) (fun j z H2 hz pv => ?_) (fun H2 pv => ?_)⟩
      · obtain ⟨e2, hD2⟩ := pv
        have hj := (List.getElem?_eq_some_iff.mp hz).1
        rw [ints_len] at hj
        unfold ints_ at hz
        rw [List.getElem?_map] at hz
        obtain ⟨b, hb, rfl⟩ := Option.map_eq_some_iff.mp hz
        have mb := List.mem_of_getElem? hb
        have ft := filter_take (p := (fun b => decide (3 ≤ row.getD b 0))) hb
        refine ⟨rfl, ?_⟩
        refine ei_gen (fun Q' q => ⟨_, rfl, q⟩) ⟨_, rfl, rfl, rfl⟩ (RC.ht.same e2) (wds_at ok.rl (lo' b mb)) ?_
        refine ⟨rfl, _, rfl, ?_⟩
        rw [wd_sleeps]
        refine iteB (fun t => ?_) (fun t => ?_)
        · refine ⟨_, rfl, _, hD2, by rw [ints_len]; exact small1000 (Nat.le_trans (List.length_filter_le _ _) (by rw [List.length_take]; omega)), fun b z hb => ?_, ?_⟩
          · rw [upd_ne (ne_of_none hb hD)]
            exact e2 _ _ hb
          · rw [upd_same, ft, if_pos t, ints_snoc]
        · refine ⟨e2, ?_⟩
          rw [ft, if_neg (by rw [t]; decide), List.append_nil]
          exact hD2
      · obtain ⟨e2, hD2⟩ := pv
        rw [ints_len, List.take_length] at hD2
        refine ⟨D, _, rfl, .inl ⟨.inl (.inl hD2), fun u nu => ?_⟩⟩
        have e3 := e2.trans (al (o := .tup (ints_ (sleF own' row))) nu)
        have RZ := RC.same e3
        have hu : upd H2 u (.tup (ints_ (sleF own' row))) u = some (.tup (ints_ (sleF own' row))) := upd_same
        exact ⟨_, rfl, x, VC, dx, _, rfl, RZ.hx, clsV, nV _ (by decide), by show 7 < 1000; decide, u, rfl, RZ.put nlx _, RZ.tup _ (e3 _ _ h_to), RZ.tup _ (e3 _ _ h_ts), RZ.tup _ (e3 _ _ h_t1), RZ.tup _ (e3 _ _ h_t2), RZ.tup _ (e3 _ _ h_t3), RZ.tup _ hu⟩
    obtain ⟨t4, rfl, RD, h_to, h_ts, h_t1, h_t2, h_t3, h_t4⟩ := hM
    -- the number
    refine ⟨_, rfl, _, rfl, x, VC, dx, _, _, rfl, RD.hx, clsV, nV _ (by decide), rfl, _, rfl, x, VC, dx, _, _, rfl, RD.hx, clsV, nV _ (by decide), rfl, to, ts, n, c, own', row, rfl, h_to, h_ts, ok.rl, n5, fun HE eE => ?_⟩
    have RE := RD.same eE
    refine ⟨_, rfl, x, VC, dx, _, rfl, RE.hx, clsV, nV _ (by decide), by show 8 < 1000; decide, ?_⟩
    have RF := RE.put nlx [("land", .ref l), ("cell", .int (c : Nat)), ("own", .ref to), ("standings", .ref ts), ("outside", .ref t1), ("rights", .ref t2), ("needed", .ref t3), ("sleeping", .ref t4), ("number", .int (numR own' row c n : Nat))]
    exact q _ own' RF.bt pm ⟨⟨dx, to, ts, t1, t2, t3, t4, RF.hx, RE.tup _ (eE _ _ h_to), RE.tup _ (eE _ _ h_ts), RE.tup _ (eE _ _ h_t1), RE.tup _ (eE _ _ h_t2), RE.tup _ (eE _ _ h_t3), RE.tup _ (eE _ _ h_t4)⟩, RF.ld, ok.perm pm, so⟩
end
end K7
end
/-! ## EQV -/
section
/-! x == y by x's own __eq__, y any thing (a number, None, a text too) -/
namespace K7E
open PySem PySem.Spec PyProof.Rows L2
def rEqV (K : PySem.W.Frag) (C : Addr) (sp : Sp) (E : XK) : R2 := fun x y H Q => ∃ (a dx : Addr) (fs : List (Str × V)) (t : Value), x = .ref a ∧ H a = some (.ins C dx fs) ∧ TyX K H y t ∧ PySem.W.notFirst K C t = true ∧ sp [x, y] H Q E
section
variable {X : Cx}
theorem op_eqOwnV {CX : CXT} {C g : Addr} {fd : FuncData} {ps : List Str} {sp : Sp} {E : XK} {n : Nat} (F : FnOk X.prog X.w X.K X.mg X.base CX n g fd ps sp) (hs : PySem.W.findIn X.K (.ref C) "__eq__" = some (some (.ref g))) (hf : PySem.W.isFn X.K (.ref g) = true) (hb : Binds X.K fd ps [])
    (hr : Room n X.A) (hx : Passes CX X E) : OpR X (compareOp .Eq) (rEqV X.K C sp E) := by
  intro pins s σ H x y v u Q I rx ry h
  obtain ⟨a, dx, fs, t, rfl, ha, ty, hn, q⟩ := h
  cases (show v = Value.ref a from rx)
  obtain ⟨mA, J, _⟩ := ins_get I.hok ha
  obtain ⟨od, J, _⟩ := J.look
  obtain ⟨P, Z, hp, hne⟩ := kit_of I ry ty
  obtain ⟨m, hF⟩ := I.fr
  have hl := F.len _ _ _ _ q
  have r2 : Vals [V.ref a, y] [Value.ref a, u] := .cons rfl (.cons ry .nil)
  refine PySem.W.cmp_K (op := .Eq) (tb := t) hr.units0 hF I.ok.mod.kin J (Z.ty _ _ I.kIn hp) hn hs hf ?_
  refine wpAny_mono (wpAny_call (run_fnR (us := [.ref a, u]) (vs := [.ref a, y]) (F.raw hb .nil) hr hx I r2 q)) (fun w s' z => ?_) fun _ _ x => x
  obtain ⟨z', H', I', rz, qz⟩ := z
  exact SlX.cmpback rz ⟨z', H', I', rz, qz⟩
end
end K7E
end
/-! ## P19 -/
section
open PySem PySem.Spec PyProof.Rows L2
namespace K7
abbrev N_View___eq__ : List Str := ["self", "other"]
abbrev s_View___eq__ : Stmt := inClass (topS 33) 1
theorem sc_View___eq__ : FnScope ["self", "other"] ["self", "other"] (defScope s_View___eq__) := ⟨rfl, rfl, rfl, by decide +kernel, rfl, by decide +kernel, by decide +kernel⟩
abbrev N_View_is_open : List Str := ["self"]
abbrev s_View_is_open : Stmt := inClass (topS 33) 3
theorem sc_View_is_open : FnScope ["self"] ["self"] (defScope s_View_is_open) := ⟨rfl, rfl, rfl, by decide +kernel, rfl, by decide +kernel, by decide +kernel⟩
abbrev N_view_by_ways : List Str := ["land", "cell", "ways", "words", "own", "b", "word"]
abbrev s_view_by_ways : Stmt := topS 34
theorem sc_view_by_ways : FnScope ["land", "cell", "ways", "words", "own", "b", "word"] ["land", "cell", "ways"] (defScope s_view_by_ways) := ⟨rfl, rfl, rfl, by decide +kernel, rfl, by decide +kernel, by decide +kernel⟩
abbrev N__numbered : List Str := ["land", "cell", "number", "ways", "rest", "_"]
abbrev s__numbered : Stmt := topS 35
theorem sc__numbered : FnScope ["land", "cell", "number", "ways", "rest", "_"] ["land", "cell", "number"] (defScope s__numbered) := ⟨rfl, rfl, rfl, by decide +kernel, rfl, by decide +kernel, by decide +kernel⟩
abbrev N_start_view : List Str := ["land", "cell"]
abbrev s_start_view : Stmt := topS 36
theorem sc_start_view : FnScope ["land", "cell"] ["land", "cell"] (defScope s_start_view) := ⟨rfl, rfl, rfl, by decide +kernel, rfl, by decide +kernel, by decide +kernel⟩
/-! ### views compared, open, at the start -/
theorem notHand_any {xs : List V} (h : xs.length ≠ 4) : notHand xs = true := notHand_len xs h
/-- what the top says of views, once more -/
structure Tv (K : PySem.W.Frag) (mg : Str → Option Value) (VC fQ : Addr) : Prop where
  g : mg "View" = some (.ref VC)
  cl : Cls K VC
  nV : ∀ f ∈ vfields, NoAttr K VC f
  ha : PySem.W.findIn K (.ref VC) "__class__" = some (some (.builtin "object.__class__"))
  hn : PySem.W.specialIn K (.builtin "object.__class__") "__get__" = some (some (.builtin "getset_descriptor.__get__"))
  ht : PySem.W.takesIn K (.builtin "object.__class__") = some true
  hm : PySem.W.mroIn K VC (.type "object") = some true
  own : PySem.W.kitOne K (.ref VC) (.ref VC) = some true
  eq : PySem.W.findIn K (.ref VC) "__eq__" = some (some (.ref fQ))
  eqF : PySem.W.isFn K (.ref fQ) = true
  ne : PySem.W.findIn K (.ref VC) "__ne__" = some (some (.builtin "object.__ne__"))
def eqVw (n : Nat) (es : List (Nat × Nat)) (rd : List Nat) (c : Nat) (own row : List Nat) (n' : Nat) (es' : List (Nat × Nat)) (rd' : List Nat) (c' : Nat) (own' row' : List Nat) : Bool :=
  decide (c = c') && (decide (own = own') && (decide (row.map wd = row'.map wd) && decide (n = n' ∧ es = es' ∧ rd = rd')))
theorem eqVw_refl (n : Nat) (es : List (Nat × Nat)) (rd : List Nat) (c : Nat) (own row : List Nat) : eqVw n es rd c own row n es rd c own row = true := by
  unfold eqVw
  rw [decide_eq_true rfl, decide_eq_true rfl, decide_eq_true rfl, decide_eq_true ⟨rfl, rfl, rfl⟩]
  rfl
theorem shaped_wds (l : List Nat) : SeqAt.shaped (.tuple ((l.map wd).map PyData.str)) = true := by
  obtain ⟨h1, h2⟩ := lay_wds l
  show ((PyData.canLay0 (.tuple ((l.map wd).map PyData.str))) && decide (PyData.depth (.tuple ((l.map wd).map PyData.str)) ≤ 64)) = true
  rw [PyData.canLay0, h1, PyData.depth, decide_eq_true (by omega)]
  rfl
section
variable {P : Program} {w : World} {K : PySem.W.Frag} {mg : Str → Option Value} {base : Heap} {a : AdL} {VC fE fQ aST aRI aDG aOW : Addr}
theorem VwO.ty (TV : Tv K mg VC fQ) {C : Addr} {H : Hp} {p l : Addr} {n : Nat} {es : List (Nat × Nat)} {rd : List Nat} {c : Nat} {own row : List Nat} (W : VwO C VC H p l n es rd c own row) : TyX K H (.ref p) (.ref VC) := by
  obtain ⟨dx, to, ts, t1, t2, t3, t4, h1, _⟩ := W.at_
  exact .base (.ins h1 TV.cl TV.ha TV.hn TV.ht TV.hm)
def spEqV (a : AdL) (VC : Addr) : Sp := fun vs H Q _ => ∃ (p q l l' : Addr) (n : Nat) (es : List (Nat × Nat)) (rd : List Nat) (c : Nat) (own row : List Nat) (n' : Nat) (es' : List (Nat × Nat)) (rd' : List Nat) (c' : Nat) (own' row' : List Nat), vs = [.ref p, .ref q] ∧ VwO a.C VC H p l n es rd c own row ∧ VwO a.C VC H q l' n' es' rd' c' own' row' ∧
  Q (.bl (eqVw n es rd c own row n' es' rd' c' own' row')) H
theorem ok_eqV (T : Tl K mg a) (TV : Tv K mg VC fQ) (T2 : Tk K a.C fE) {f : Addr} {fd fdLe : FuncData} (F : Fun K "__eq__" "View.__eq__" s_View___eq__ f fd) (m_isinstance : mg "isinstance" = none)
    (Gle : FnOk P w K mg base CX0 1 fE fdLe ["self", "other"] (spEqL a.C)) (ble : Binds K fdLe ["self", "other"] []) : FnOk P w K mg base CX0 2 f fd ["self", "other"] (spEqV a VC) := by
  refine F.ok sc_View___eq__ (fun vs H Q E h => ?_) (fun cdv A outer s H vs Q E hr h => ?_)
  · obtain ⟨p, q, l, l', n, es, rd, c, own, row, n', es', rd', c', own', row', rfl, _⟩ := h
    rfl
  · obtain ⟨p, q, l, l', n, es, rd, c, own, row, n', es', rd', c', own', row', rfl, W, W', k⟩ := h
    refine ⟨_, (pss_one (ps_ret (pe_and (pe_callB call_isi (by rfl) m_isinstance boot_isinstance (pa_cons (pv 1) (pa_cons (pe_glob (v := .ref _) (by rfl) TV.g rfl) pa_nil))) (pe_and (pe_cmpR op_eq (pe_fld (pv 0) rfl) (pe_fld (pv 1) rfl) (nomark _)) (pe_and (pe_cmpR (op_eqD hr.units) (pe_fld (pv 0) rfl) (pe_fld (pv 1) rfl) (nomark _)) (pe_and (pe_cmpR (op_eqD hr.units) (pe_fld (pv 0) rfl) (pe_fld (pv 1) rfl) (nomark _)) (pe_one (pe_cmpR (K7E.op_eqOwn Gle T2.eq T2.eqF ble (hr.mono (by decide)) pass0) (pe_fld (pv 0) rfl) (pe_fld (pv 1) rfl) (nomark _))))))))), ?_⟩
    obtain ⟨dx, to, ts, t1, t2, t3, t4, h1, h2, h3, _⟩ := W.at_
    obtain ⟨dx', to', ts', t1', t2', t3', t4', g1, g2, g3, _⟩ := W'.at_
    obtain ⟨dl, an, ar, ay, ac, tn, ty, tc, m1, _⟩ := W.ld.at_
    obtain ⟨dl', an', ar', ay', ac', tn', ty', tc', m1', _⟩ := W'.ld.at_
    unfold eqVw at k
    refine ⟨_, rfl, _, _, _, _, _, rfl, .own _, W'.ty TV, TV.own, true, rfl, ?_⟩
    refine ⟨.ref p, rfl, p, VC, dx, _, _, rfl, h1, TV.cl, TV.nV _ (by decide), rfl, .ref q, rfl, q, VC, dx', _, _, rfl, g1, TV.cl, TV.nV _ (by decide), rfl, rfl, _, rfl, ?_⟩
    rw [dec_int]
    cases c1 : decide (c = c') with
    | false =>
      rw [c1] at k
      exact k
    | true =>
      rw [c1] at k
      refine iteT ?_
      refine ⟨.ref p, rfl, p, VC, dx, _, _, rfl, h1, TV.cl, TV.nV _ (by decide), rfl, .ref q, rfl, q, VC, dx', _, _, rfl, g1, TV.cl, TV.nV _ (by decide), rfl, _, _, .tup (.inl (.inl h2)) (dp_ints own), .tup (.inl (.inl g2)) (dp_ints own'), shaped_ints own, shaped_ints own', _, rfl, ?_⟩
      rw [show PyData.eqv (.tuple (own.map fun c => PyData.int (c : Nat))) (.tuple (own'.map fun c => PyData.int (c : Nat))) = decide (own = own') from eqv_intD own own']
      cases c2 : decide (own = own') with
      | false =>
        rw [c2] at k
        exact k
      | true =>
        rw [c2] at k
        refine iteT ?_
        refine ⟨.ref p, rfl, p, VC, dx, _, _, rfl, h1, TV.cl, TV.nV _ (by decide), rfl, .ref q, rfl, q, VC, dx', _, _, rfl, g1, TV.cl, TV.nV _ (by decide), rfl, _, _, .tup (.inl (.inl h3)) (dp_wds row), .tup (.inl (.inl g3)) (dp_wds row'), shaped_wds row, shaped_wds row', _, rfl, ?_⟩
        rw [show PyData.eqv (.tuple ((row.map wd).map PyData.str)) (.tuple ((row'.map wd).map PyData.str)) = decide (row.map wd = row'.map wd) by rw [PyData.eqv, eqv_strs]]
        cases c3 : decide (row.map wd = row'.map wd) with
        | false =>
          rw [c3] at k
          exact k
        | true =>
          rw [c3] at k
          refine iteT ?_
          exact ⟨.ref p, rfl, p, VC, dx, _, _, rfl, h1, TV.cl, TV.nV _ (by decide), rfl, .ref q, rfl, q, VC, dx', _, _, rfl, g1, TV.cl, TV.nV _ (by decide), rfl, l, dl, _, l', .ref a.C, rfl, rfl, m1, .base (.ins m1' T.cl T2.ha T2.hn T2.ht T2.hm), nfC K a.C, l, l', n, es, rd, n', es', rd', rfl, W.ld, W'.ld, k⟩
def spVOpen (a : AdL) (VC : Addr) : Sp := fun vs H Q _ => ∃ (p l : Addr) (n : Nat) (es : List (Nat × Nat)) (rd : List Nat) (c : Nat) (own row : List Nat), vs = [.ref p] ∧ VwO a.C VC H p l n es rd c own row ∧ ∀ H', Same H H' → Q (.bl (openB es rd (own ++ rigF n own row) c)) H'
theorem ok_vopen (TV : Tv K mg VC fQ) {f fo : Addr} {fd fdo : FuncData} (F : Fun K "is_open" "View.is_open" s_View_is_open f fd)
    (Gop : FnOk P w K mg base CX0 2 fo fdo ["land", "cell", "passing"] (spOpens a.C)) (gop : mg "opens" = some (.ref fo)) (kop : PySem.W.keepIn K (.ref fo) = true) (bop : Binds K fdo ["land", "cell", "passing"] []) : FnOk P w K mg base CX0 3 f fd ["self"] (spVOpen a VC) := by
  refine F.ok sc_View_is_open (fun vs H Q E h => ?_) (fun cdv A outer s H vs Q E hr h => ?_)
  · obtain ⟨p, l, n, es, rd, c, own, row, rfl, _⟩ := h
    rfl
  · obtain ⟨p, l, n, es, rd, c, own, row, rfl, W, q⟩ := h
    refine ⟨_, (pss_one (ps_ret (pe_call Gop (hr.mono (by decide)) (by rfl) gop kop bop .nil pass0 (pa_cons (pe_fld (pv 0) rfl) (pa_cons (pe_fld (pv 0) rfl) (pa_cons (pe_op op_catA (pe_fld (pv 0) rfl) (pe_fld (pv 0) rfl)) pa_nil)))))), ?_⟩
    obtain ⟨dx, to, ts, t1, t2, t3, t4, h1, h2, h3, h4, h5, _⟩ := W.at_
    have n5 := W.ld.n5
    have ol := W.ok.ol
    have rl : (rigF n own row).length ≤ n := by
      unfold rigF outF
      exact Nat.le_trans (List.length_filter_le _ _) (Nat.le_trans (List.length_filter_le _ _) (by rw [List.length_range]; exact Nat.le_refl _))
    have nn : ints_ own ≠ [] := fun e => by
      have z := List.length_pos_of_mem W.ok.me
      rw [← ints_len, e] at z
      cases z
    refine ⟨_, rfl, p, VC, dx, _, _, rfl, h1, TV.cl, TV.nV _ (by decide), rfl, _, rfl, p, VC, dx, _, _, rfl, h1, TV.cl, TV.nV _ (by decide), rfl, _, rfl, p, VC, dx, _, _, rfl, h1, TV.cl, TV.nV _ (by decide), rfl, _, rfl, p, VC, dx, _, _, rfl, h1, TV.cl, TV.nV _ (by decide), rfl, ?_⟩
    refine ⟨to, t2, ints_ own, ints_ (rigF n own row), rfl, rfl, .inl (.inl h2), .inl (.inl h5), ?_, fun e => absurd e nn, fun _ e => ?_, fun _ _ u nu => ?_⟩
    · rw [ints_len, ints_len]
      exact Nat.le_of_lt (small1000 (by omega))
    · refine ⟨l, n, es, rd, c, to, own, rfl, W.ld, W.ok.cn, .inl h2, fun H' b e' hb => ?_⟩
      have er : rigF n own row = [] := by
        unfold ints_ at e
        exact List.map_eq_nil_iff.mp e
      rw [openB_is hb]
      have z := q H' e'
      rw [er, List.append_nil] at z
      exact z
    · have e1 := al (o := .tup (ints_ own ++ ints_ (rigF n own row))) nu
      have hu : upd H u (.tup (ints_ own ++ ints_ (rigF n own row))) u = some (.tup (ints_ (own ++ rigF n own row))) := by
        rw [upd_same]
        unfold ints_
        rw [List.map_append]
      refine ⟨l, n, es, rd, c, u, own ++ rigF n own row, rfl, W.ld.same e1, W.ok.cn, .inl hu, fun H' b e' hb => ?_⟩
      rw [openB_is hb]
      exact q H' (e1.trans e')
/-! a new view -/
theorem new_view {H1 : Hp} {Q : VK} {E : XK} {l o t : Addr} {n : Nat} {es : List (Nat × Nat)} {rd : List Nat} {c : Nat} {own row : List Nat} (L : LandO a.C H1 l n es rd) (ho : SqOf H1 o (ints_ own)) (ht : SqOf H1 t (wds row)) (ok : VwOk n c own row)
    (q : ∀ H' x own', Same H1 H' → H1 x = none → own'.Perm own → VwO a.C VC H' x l n es rd c own' row → Q (.ref x) H') :
    ∀ x dx, H1 x = none → H1 dx = none → dx ≠ x → spVwI a VC (.ref x :: ([.ref l, .int (c : Nat), .ref o, .ref t] ++ [])) (upd (upd H1 dx (.own x)) x (.ins VC dx [])) (fun v H2 => v = .non ∧ Q (.ref x) H2) E := by
  intro x dx hx hdx hne
  have e : Same H1 (upd (upd H1 dx (.own x)) x (.ins VC dx [])) := same_new (same_new (Same.refl H1) hdx) (by rw [upd_ne hne.symm]; exact hx)
  obtain ⟨dl, an, ar, ay, ac, tn, ty, tc, m1, _⟩ := L.at_
  refine ⟨x, dx, l, o, t, n, es, rd, c, own, row, rfl, upd_same, L.same e, ne_of_none m1 hx, ho.same e, ht.same e, ok, fun H' own' b p W => ⟨rfl, q H' x own' (fun z o hz => ?_) hx p W⟩⟩
  exact b z o (ne_of_none hz hx) (e _ _ hz)
theorem srt_uniq {l m : List Nat} (hl : l.Pairwise (· < ·)) (hm : m.Pairwise (· < ·)) (p : l.Perm m) : l = m := KL.uniq (fun a b (h1 : a ≤ b) (h2 : b ≤ a) => Nat.le_antisymm h1 h2) p (hl.imp fun h => Nat.le_of_lt h) (hm.imp fun h => Nat.le_of_lt h)
theorem start_ok {n c : Nat} (hc : c < n) : VwOk n c (List.range n) (List.replicate n 0) := by
  have g : ∀ b, (List.replicate n 0).getD b 0 = 0 := fun b => by
    rw [List.getD_eq_getElem?_getD, List.getElem?_replicate]
    split <;> rfl
  exact ⟨hc, fun b hb => List.mem_range.mp hb, List.nodup_range, List.mem_range.mpr hc, List.length_replicate, g c, fun b _ => .inl (g b), fun b hb hn => absurd (List.mem_range.mpr hb) hn⟩
def spVByW (a : AdL) (VC : Addr) : Sp := fun vs H Q _ => ∃ (l t : Addr) (n : Nat) (es : List (Nat × Nat)) (rd : List Nat) (c : Nat), vs = [.ref l, .int (c : Nat), .ref t] ∧ LandO a.C H l n es rd ∧ c < n ∧ H t = some (.lst (List.replicate (n - 1) (.str "own"))) ∧
  ∀ H' p, Same H H' → H p = none → VwO a.C VC H' p l n es rd c (List.range n) (List.replicate n 0) → Q (.ref p) H'
theorem cut_repl {x : V} {m c : Nat} (h : c ≤ m) : cutV (List.replicate m x) none (some ((c : Nat) : Int)) = List.replicate c x ∧ cutV (List.replicate m x) (some ((c : Nat) : Int)) none = List.replicate (m - c) x := by
  unfold cutV
  simp only [HT.sIx_nat, HT.sIx_none]
  refine ⟨?_, ?_⟩
  · rw [List.drop_zero, List.take_replicate]
    simp only [List.length_replicate]
    congr 1
    omega
  · rw [List.drop_replicate, List.take_replicate]
    simp only [List.length_replicate]
    congr 1
    omega
theorem ok_vbyw (TV : Tv K mg VC fQ) (T5 : T5s K mg aST aRI aDG aOW) {f fI : Addr} {fd fdI : FuncData} (F : Fun K "view_by_ways" "view_by_ways" s_view_by_ways f fd)
    (MV : Mk K VC fI) (GV : FnOk P w K mg base CX0 4 fI fdI ["self", "land", "cell", "own", "standings"] (spVwI a VC)) (bV : Binds K fdI ["self", "land", "cell", "own", "standings"] []) (m_list : mg "list" = none) (m_enumerate : mg "enumerate" = none) : FnOk P w K mg base CX0 6 f fd ["land", "cell", "ways"] (spVByW a VC) := by
  refine F.ok sc_view_by_ways (fun vs H Q E h => ?_) (fun cdv A outer s H vs Q E hr h => ?_)
  · obtain ⟨l, t, n, es, rd, c, rfl, _⟩ := h
    rfl
  · obtain ⟨l, t, n, es, rd, c, rfl, L, hc, ht, q⟩ := h
    refine ⟨_, (Evl.pss_cut (ps_set (i := 3) sc_view_by_ways.nd rfl (by first | exact Or.inl rfl | exact Or.inr rfl) (pe_op op_cat (pe_op op_cat (pe_callTy call_list_of (by rfl) m_list boot_list (pa_cons (pe_slice sl_list (pv 2) po_none (po_some (pv 1))) pa_nil)) (pe_lst (pa_cons pe_str pa_nil))) (pe_callTy call_list_of (by rfl) m_list boot_list (pa_cons (pe_slice sl_list (pv 2) (po_some (pv 1)) po_none) pa_nil))))
 (Evl.pss_cut (ps_setLc (i := 4) (own := [("b", 5), ("word", 6)]) (g := gTup K 2 (gCons (gName 5) (gCons (gName 6) (gNil)))) rfl sc_view_by_ways.nd rfl rfl (sw_true rfl rfl rfl (by decide +kernel)) (pi_enum (by rfl) m_enumerate (pa_cons (pv 3) pa_nil)) (blkOk_by (own := [("b", 5), ("word", 6)]) (N := N_view_by_ways) (sc := defScope s_view_by_ways) (by decide +kernel)) (fun _ _ _ _ _ => (pg_tup rfl (pgs_cons (pg_name (i := 5) sc_view_by_ways.nd rfl (by first | exact Or.inl rfl | exact Or.inr rfl)) (pgs_cons (pg_name (i := 6) sc_view_by_ways.nd rfl (by first | exact Or.inl rfl | exact Or.inr rfl)) pgs_nil)))) (fun _ _ _ _ _ => (pts_one (pt_cmpR (show OpR _ _ (rIn K false) from op_in_seq) (pv 6) (pe_glob (v := .ref _) rfl T5.gOW rfl) (by with_unfolding_all rfl)))) (fun _ _ _ _ _ => (pv 5)))
 (pss_one (ps_ret (pe_make MV GV (hr.mono (by decide)) (by rfl) TV.g bV .nil pass0 (pa_cons (pv 0) (pa_cons (pv 1) (pa_cons (pv 4) (pa_cons (pe_lc (own := [("word", 6)]) (g := gName 6) (tt := tYes) rfl sc_view_by_ways.nd (pi_list (pv 3)) (blkOk_by (own := [("word", 6)]) (N := N_view_by_ways) (sc := defScope s_view_by_ways) (by decide +kernel)) (fun _ _ _ _ _ => (pg_name (i := 6) sc_view_by_ways.nd rfl (by first | exact Or.inl rfl | exact Or.inr rfl))) (fun _ _ _ _ _ => pts_nil) (fun _ _ _ _ _ => (pe_ifExp (pt_cmpR op_eq (pv 6) pe_str (nomark _)) pe_str (pv 6)))) pa_nil))))))))), ?_⟩
    have n5 := L.n5
    obtain ⟨cu1, cu2⟩ := cut_repl (x := V.str "own") (m := n - 1) (c := c) (by omega)
    refine ⟨fun τ H' => ∃ W, τ = [some (.ref l), some (.int (c : Nat)), some (.ref t), some (.ref W), none, none, none] ∧ Same H H' ∧ H' W = some (.lst (List.replicate n (.str "own"))), ?_, fun τ H1 hM => ?_⟩
    · refine ⟨_, rfl, _, rfl, _, rfl, t, _, rfl, .inl (.inl ht), fun p1 np1 => ?_⟩
      rw [cu1]
      have e1 := al (o := .lst (List.replicate c (V.str "own"))) np1
      refine ⟨p1, _, rfl, .inl (.inl (.inl upd_same)), fun p2 np2 => ?_⟩
      have e2 := e1.trans (al (o := .lst (List.replicate c (V.str "own"))) np2)
      have h2 : upd (upd H p1 (.lst (List.replicate c (V.str "own")))) p2 (.lst (List.replicate c (V.str "own"))) p2 = some (.lst (List.replicate c (V.str "own"))) := upd_same
      generalize upd (upd H p1 (.lst (List.replicate c (V.str "own")))) p2 (.lst (List.replicate c (V.str "own"))) = H2 at e2 h2 ⊢
      refine ⟨by show 1 ≤ sizeLine; decide, fun p3 np3 => ?_⟩
      have e3 := al (o := .lst [.str "own"]) np3
      refine ⟨p2, p3, _, _, rfl, rfl, e3 _ _ h2, upd_same, ?_, fun p4 np4 => ?_⟩
      · rw [List.length_replicate]
        exact Nat.le_of_lt (small1000 (by show c + 1 ≤ 1000; omega))
      have e4 := e2.trans (e3.trans (al (o := .lst (List.replicate c (V.str "own") ++ [.str "own"])) np4))
      have h4 : upd (upd H2 p3 (.lst [.str "own"])) p4 (.lst (List.replicate c (V.str "own") ++ [.str "own"])) p4 = some (.lst (List.replicate (c + 1) (V.str "own"))) := by rw [upd_same, List.replicate_succ']
      generalize upd (upd H2 p3 (.lst [.str "own"])) p4 (.lst (List.replicate c (V.str "own") ++ [.str "own"])) = H4 at e4 h4 ⊢
      refine ⟨_, rfl, _, rfl, _, rfl, t, _, rfl, .inl (.inl (e4 _ _ ht)), fun p5 np5 => ?_⟩
      rw [cu2]
      have e5 := al (o := .lst (List.replicate (n - 1 - c) (V.str "own"))) np5
      refine ⟨p5, _, rfl, .inl (.inl (.inl upd_same)), fun p6 np6 => ?_⟩
      have e6 := e5.trans (al (o := .lst (List.replicate (n - 1 - c) (V.str "own"))) np6)
      have h6 : upd (upd H4 p5 (.lst (List.replicate (n - 1 - c) (V.str "own")))) p6 (.lst (List.replicate (n - 1 - c) (V.str "own"))) p6 = some (.lst (List.replicate (n - 1 - c) (V.str "own"))) := upd_same
      generalize upd (upd H4 p5 (.lst (List.replicate (n - 1 - c) (V.str "own")))) p6 (.lst (List.replicate (n - 1 - c) (V.str "own"))) = H6 at e6 h6 ⊢
      refine ⟨p4, p6, _, _, rfl, rfl, e6 _ _ h4, h6, ?_, fun p7 np7 => ?_⟩
      · rw [List.length_replicate, List.length_replicate]
        exact Nat.le_of_lt (small1000 (by omega))
      refine ⟨p7, rfl, (e4.trans e6).trans (al np7), ?_⟩
      rw [upd_same, List.replicate_append_replicate]
      congr 3
      omega
    · obtain ⟨W, rfl, e1, hW⟩ := hM
      have wat : ∀ j, j < n → (List.replicate n (V.str "own"))[j]? = some (.str "own") := fun j hj => by rw [List.getElem?_replicate, if_pos hj]
      have wl : (List.replicate n (V.str "own")).length = n := List.length_replicate
      refine ⟨fun τ H' => ∃ O, τ = [some (.ref l), some (.int (c : Nat)), some (.ref t), some (.ref W), some (.ref O), none, none] ∧ Same H1 H' ∧ H' O = some (.lst (ints_ (List.range n))), ?_, fun τ H2 hM => ?_⟩
      · refine ⟨_, rfl, W, _, rfl, .inl (.inl hW), fun D hD => lc_it (walk_enum (xs := List.replicate n (V.str "own"))) (fun j H2 => Same H1 H2 ∧ H2 D = some (.lst (ints_ (List.range j)))) ⟨al hD, upd_same⟩ (fun j H2 _ pv => .inl (.inl (pv.1 _ _ hW))) (fun j x H2 H3 hj pv hy => ?_) (fun H2 pv => ?_)⟩
        · obtain ⟨e2, hD2⟩ := pv
          obtain ⟨T', x', y', rfl, nT, rfl, e3, e4⟩ := hy
          obtain rfl := Option.some.inj e3
          have jn : j < n := by rw [← wl]; exact hj
          have e4 : (List.replicate n (V.str "own"))[j]? = some y' := e4
          obtain rfl := Option.some.inj ((wat j jn).symm.trans e4)
          have sT := al (o := .tup [.int (j : Nat), .str "own"]) nT
          refine ⟨T', _, rfl, .inl (.inl upd_same), rfl, _, _, rfl, _, _, rfl, rfl, rfl, ?_⟩
          refine ⟨_, rfl, aOW, _, rfl, .inr (T5.sOW _), rfl, rfl, _, rfl, iteTo (by decide +kernel) ⟨_, rfl, _, sT _ _ hD2, by rw [ints_len, List.length_range]; exact small1000 (by omega), fun b z hb => ?_, ?_⟩⟩
          · rw [upd_ne (ne_of_none hb hD)]
            exact sT _ _ (e2 _ _ hb)
          · rw [upd_same, List.range_succ, ints_snoc]
        · obtain ⟨e2, hD2⟩ := pv
          rw [wl] at hD2
          exact ⟨D, rfl, e2, hD2⟩
      · obtain ⟨O, rfl, e2, hO⟩ := hM
        have e12 := e1.trans e2
        refine ⟨_, rfl, _, rfl, _, rfl, _, rfl, W, rfl, ⟨_, .inl (.inl (e2 _ _ hW))⟩, fun D hD => lc_list (xs := List.replicate n (V.str "own")) (fun j H3 => Same H2 H3 ∧ H3 D = some (.lst (wds (List.replicate j 0)))) ⟨al hD, upd_same⟩ (fun j H3 _ pv => .inl (.inl (pv.1 _ _ (e2 _ _ hW)))) (fun j x H3 hx pv => ?_) (fun H3 pv => ?_)⟩
        · obtain ⟨e3, hD3⟩ := pv
          have jn : j < n := by rw [← wl]; exact (List.getElem?_eq_some_iff.mp hx).1
          obtain rfl := Option.some.inj ((wat j jn).symm.trans hx)
          refine ⟨rfl, _, rfl, rfl, _, rfl, iteTo (by decide +kernel) ⟨_, hD3, by rw [wds_len, List.length_replicate]; exact small1000 (by omega), fun b z hb => ?_, ?_⟩⟩
          · rw [upd_ne (ne_of_none hb hD)]
            exact e3 _ _ hb
          · rw [upd_same, List.replicate_succ', wds_snoc]
            rfl
        · obtain ⟨e3, hD3⟩ := pv
          rw [wl] at hD3
          have e13 := e12.trans e3
          refine new_view (a := a) (VC := VC) (Q := Q) (L.same e13) (.inr (e3 _ _ hO)) (.inr hD3) (start_ok hc) fun H' x own' e nx pm W => ?_
          obtain rfl := srt_uniq W.so (List.pairwise_lt_range) pm
          exact q H' x (e13.trans e) (e13.free nx) W
def spNum0 (a : AdL) (VC : Addr) : Sp := fun vs H Q _ => ∃ (l : Addr) (n : Nat) (es : List (Nat × Nat)) (rd : List Nat) (c : Nat), vs = [.ref l, .int (c : Nat), .int 0] ∧ LandO a.C H l n es rd ∧ c < n ∧ ∀ H' p, Same H H' → H p = none → VwO a.C VC H' p l n es rd c (List.range n) (List.replicate n 0) → Q (.ref p) H'
theorem ok_num0 (T : Tl K mg a) (T5 : T5s K mg aST aRI aDG aOW) {f fv : Addr} {fd fdv : FuncData} (F : Fun K "_numbered" "_numbered" s__numbered f fd)
    (Gvb : FnOk P w K mg base CX0 6 fv fdv ["land", "cell", "ways"] (spVByW a VC)) (gvb : mg "view_by_ways" = some (.ref fv)) (kvb : PySem.W.keepIn K (.ref fv) = true) (bvb : Binds K fdv ["land", "cell", "ways"] []) (m_range : mg "range" = none) : FnOk P w K mg base CX0 7 f fd ["land", "cell", "number"] (spNum0 a VC) := by
  refine F.ok sc__numbered (fun vs H Q E h => ?_) (fun cdv A outer s H vs Q E hr h => ?_)
  · obtain ⟨l, n, es, rd, c, rfl, _⟩ := h
    rfl
  · obtain ⟨l, n, es, rd, c, rfl, L, hc, q⟩ := h
    refine ⟨_, (pss_cons (ps_set (i := 3) sc__numbered.nd rfl (by first | exact Or.inl rfl | exact Or.inr rfl) (pe_lst pa_nil))
 (pss_cons (ps_set (i := 4) sc__numbered.nd rfl (by first | exact Or.inl rfl | exact Or.inr rfl) (pv 2))
 (pss_cons (ps_for PassesOwn.never rfl (pi_range1 rfl m_range (pa_cons (pe_op op_sub (pe_fld (pv 0) rfl) pe_int) pa_nil)) (pg_name (i := 5) sc__numbered.nd rfl (by first | exact Or.inl rfl | exact Or.inr rfl))
  (pss_cons (ps_set (i := 3) sc__numbered.nd rfl (by first | exact Or.inl rfl | exact Or.inr rfl) (pe_op op_cat (pe_lst (pa_cons (pe_ix ix_tup (pe_glob (v := .ref _) rfl T5.gDG rfl) (pe_op op_mod (pv 4) pe_int) (fun _ _ => rfl)) pa_nil)) (pv 3)))
 (pss_one (ps_set (i := 4) sc__numbered.nd rfl (by first | exact Or.inl rfl | exact Or.inr rfl) (pe_op op_fdiv (pv 4) pe_int)))))
 (pss_one (ps_ret (pe_call Gvb (hr.mono (by decide)) (by rfl) gvb kvb bvb .nil pass0 (pa_cons (pv 0) (pa_cons (pv 1) (pa_cons (pv 3) pa_nil))))))))), ?_⟩
    have n5 := L.n5
    have n2 := L.n2
    refine ⟨by show 0 ≤ sizeLine; decide, fun W nW => ?_⟩
    have e1 := al (o := .lst []) nW
    refine ⟨_, rfl, ?_⟩
    obtain ⟨dl, an, ar, ay, ac, tn, ty, tc, m1, _⟩ := (L.same e1).at_
    refine ⟨_, rfl, l, a.C, dl, _, _, rfl, m1, T.cl, T.nA _ (by decide), rfl, _, _, rfl, rfl, _, rfl, by omega, by omega, ?_⟩
    have tn1 : (((n : Nat) : Int) - 1).toNat = n - 1 := by omega
    refine for_range (lo := 0) (n := (((n : Nat) : Int) - 1).toNat) (fun i σ H' => ∃ R y5, σ = [some (.ref l), some (.int (c : Nat)), some (.int 0), some (.ref R), some (.int 0), y5] ∧ Same H H' ∧ H' R = some (.lst (List.replicate i (.str "own")))) ⟨W, none, rfl, e1, upd_same⟩ (fun i σ H2 hi pv => ?_) (fun σ H2 pv => ?_)
    · obtain ⟨R, y5, rfl, e2, hR⟩ := pv
      rw [tn1] at hi
      refine ⟨_, rfl, _, _, rfl, rfl, by show (0 : Int) < 5; decide, aDG, _, _, _, rfl, rfl, T5.sDG _, (show atI (digs.map V.str) ((0 : Int) % 5) = some (.str "own") from rfl), by show 1 ≤ sizeLine; decide, fun u nu => ?_⟩
      have e3 := al (o := .lst [.str "own"]) nu
      refine ⟨_, rfl, u, R, _, _, rfl, rfl, upd_same, e3 _ _ hR, ?_, fun v nv => ?_⟩
      · rw [List.length_replicate]
        exact Nat.le_of_lt (small1000 (by show 1 + i ≤ 1000; omega))
      have e4 := (e2.trans e3).trans (al (o := .lst ([.str "own"] ++ List.replicate i (.str "own"))) nv)
      exact ⟨_, rfl, _, _, rfl, rfl, ⟨by decide, by decide⟩, v, _, rfl, e4, by rw [upd_same]; rfl⟩
    · obtain ⟨R, y5, rfl, e2, hR⟩ := pv
      rw [tn1] at hR
      exact ⟨_, rfl, _, rfl, _, rfl, l, R, n, es, rd, c, rfl, L.same e2, hc, hR, fun H' p e np W => q H' p (e2.trans e) (e2.free np) W⟩
variable {fk : Addr} (Gck : FnR P w K mg base (L2.CX P w) 4 fk (spCheck a)) (gck : mg "check_cells" = some (.ref fk)) (kck : PySem.W.keepIn K (.ref fk) = true)
def spStartV (a : AdL) (VC : Addr) : Sp := fun vs H Q E => ∃ (l : Addr) (n : Nat) (es : List (Nat × Nat)) (rd : List Nat) (y : V), vs = [.ref l, y] ∧ LandO a.C H l n es rd ∧ CellOr a.B n H y E fun c => ∀ H' p, Same H H' → H p = none → VwO a.C VC H' p l n es rd c (List.range n) (List.replicate n 0) → Q (.ref p) H'
include Gck gck kck in
theorem ok_startv {f fn : Addr} {fd fdn : FuncData} (F : Fun K "start_view" "start_view" s_start_view f fd)
    (Gnu : FnOk P w K mg base CX0 7 fn fdn ["land", "cell", "number"] (spNum0 a VC)) (gnu : mg "_numbered" = some (.ref fn)) (knu : PySem.W.keepIn K (.ref fn) = true) (bnu : Binds K fdn ["land", "cell", "number"] []) : FnOk P w K mg base (L2.CX P w) 8 f fd ["land", "cell"] (spStartV a VC) := by
  refine F.okX sc_start_view (fun vs H Q E h => ?_) (fun cdv A outer s H vs Q E hr h => ?_)
  · obtain ⟨l, n, es, rd, y, rfl, _⟩ := h
    rfl
  · obtain ⟨l, n, es, rd, y, rfl, L, h⟩ := h
    refine ⟨_, (pss_cons (ps_expr (K7E.pe_callR0 Gck (hr.mono (by decide)) (by rfl) gck kck (passes_call (E := E) (takes_of rfl rfl rfl rfl) (fun _ _ _ _ h => h)) (pa_cons (pv 0) (pa_cons (pv 1) pa_nil))))
 (pss_one (ps_ret (pe_call Gnu (hr.mono (by decide)) (by rfl) gnu knu bnu .nil pass0 (pa_cons (pv 0) (pa_cons (pv 1) (pa_cons pe_int pa_nil))))))), ?_⟩
    rcases h with ⟨c, rfl, hc, q⟩ | ⟨thg, wf, fl⟩
    · refine ⟨_, rfl, _, rfl, l, n, [.int (c : Nat)], rfl, L.c, by show 1 < 64; decide, .inl ⟨fun y hy => by rw [List.mem_singleton.mp hy]; exact .flat (.int _), one_in hc, fun H1 e1 => ?_⟩⟩
      exact ⟨_, rfl, _, rfl, l, n, es, rd, c, rfl, L.same e1, hc, fun H' p e np W => q H' p (e1.trans e) (e1.free np) W⟩
    · exact ⟨_, rfl, _, rfl, l, n, [y], rfl, L.c, by show 1 < 64; decide, .inr ⟨[], y, [], rfl, fun y hy => (nomatch hy), fun y hy => (nomatch hy), thg, wf, fl⟩⟩
end
end K7
end
/-! ## E1 -/
section
namespace K7E
open PySem PySem.SeqAt PySem.MeetsSeq PySem.AutoSeq1
theorem dict_eq_declines_str (l : Addr) (es : Array DictEntry) (n : Nat) (dd : Option Addr) (sl : Array (Option Value)) (b : Str) (u : Tok) :
    Meets (Builtin.«dict.__eq__» ⟨[.ref l, .str b u], []⟩) (fun _ R s => s.heap.get? l = some { cls := .type "dict", dict := dd, data := .dict es n, slots := sl } ∧ R (.ok (.ret .notImplemented)) s) :=
  .of_wp fun prog w A R s h => by obtain ⟨hp, g, d, tk, os⟩ := s; obtain ⟨hl, h⟩ := h; have f1 := F.sub_str_dict; wp_walk using wpAny_loadPart' hl; exact ⟨_, rfl, h⟩
theorem str_eq_declines_dict (b : Str) (u : Tok) (l : Addr) (c : Value) (es : Array DictEntry) (n : Nat) (dd : Option Addr) (sl : Array (Option Value)) :
    Meets (Builtin.«str.__eq__» ⟨[.str b u, .ref l], []⟩) (fun _ R s => s.heap.get? l = some { cls := c, dict := dd, data := .dict es n, slots := sl } ∧ R (.ok (.ret .notImplemented)) s) :=
  .of_wp fun prog w A R s h => by obtain ⟨hp, g, d, tk, os⟩ := s; obtain ⟨hl, h⟩ := h; wp_walk using wpAny_loadPart' hl, wpAny_load hl; exact ⟨_, rfl, h⟩
theorem RcAt.str_dict {A : Around} {s : Shared} {l : Addr} {es : Array DictEntry} {n : Nat} {dd : Option Addr} {sl : Array (Option Value)} (b : Str) (u : Tok) (ho : s.heap.get? l = some { cls := .type "dict", dict := dd, data := .dict es n, slots := sl }) (hu : A.units < cLine) : RcAt A s (.str b u) (.ref l) false := fun prog w E Q h => by
  exact rc_eq_decline_or (k := false) (typeIs_str s b u) ⟨_, ho, rfl⟩ (by decide) F.sub_dict_str F.slot_str_eq F.slot_dict_eq_refl
    (fun _ hq => call_meets F.slot_str_eq (typeIs_str s b u) F.entry_str_eq (F.args_str_eq_2 _ _) (str_eq_declines_dict b u l (.type "dict") es n dd sl) ⟨ho, hq⟩)
    (fun _ hq => call_meets F.slot_dict_eq_refl ⟨_, ho, rfl⟩ F.entry_dict_eq (F.args_dict_eq_2 _ _) (dict_eq_declines_str l es n dd sl b u) ⟨ho, hq⟩)
    (fun _ hq => wpAny_of_eq (rfl : isSame (.str b u) (.ref l) = pure false) hq) (.inr hu) h
theorem EqAt.str_dict {A : Around} {s : Shared} {l : Addr} {es : Array DictEntry} {n : Nat} {dd : Option Addr} {sl : Array (Option Value)} (b : Str) (u : Tok) (ho : s.heap.get? l = some { cls := .type "dict", dict := dd, data := .dict es n, slots := sl }) (hu : A.units < cLine) : EqAt A s (.str b u) (.ref l) false := fun prog w E Q h => by
  unfold eqBool
  refine wpAny_holding ?_
  refine wpAny_ite_split (fun hab => absurd (eq_of_beq hab) nofun) (fun _ => ?_)
  exact wpAny_bind (RcAt.str_dict b u ho hu prog w E _ (wpAny_truthy_bool h))
end K7E
end
/-! ## IW -/
section
open PySem PySem.Spec PyProof.Rows L2
namespace K7
/-- a tuple of the written part -/
def KTup (K : PySem.W.Frag) (a : Addr) (xs : List V) : Prop := ∃ (o : Obj) (its : Array Value) (n : Nat), K.lookup a = some o ∧ o.cls = .type "tuple" ∧ o.data = .seq its n ∧ its.size ≤ sizeLine ∧ Vals xs its.toList ∧ o.dict = none
theorem KTup.t {K : PySem.W.Frag} {a : Addr} {xs : List V} (h : KTup K a xs) (H : Hp) : SqT K H a xs := by
  obtain ⟨o, its, n, h1, h2, h3, h4, h5, _⟩ := h
  exact .inr ⟨o, its, n, h1, h2, h3, h4, h5⟩
theorem KTup.ty {K : PySem.W.Frag} {a : Addr} {xs : List V} (h : KTup K a xs) (H : Hp) : tyV K "tuple" (.ref a) H := by
  obtain ⟨o, its, n, h1, h2, h3, h4, h5, h6⟩ := h
  exact .inr (.inl ⟨rfl, o, h1, h2, h6⟩)
/-! ### x in a tuple of texts, x any thing -/
/-- a thing that is no text -/
inductive Odd (K : PySem.W.Frag) (H : Hp) : V → Prop where
  | non : Odd K H .non
  | bl (b : Bool) : Odd K H (.bl b)
  | int (i : Int) : Odd K H (.int i)
  | lst {a : Addr} {xs : List V} (h : H a = some (.lst xs)) : Odd K H (.ref a)
  | tup {a : Addr} {xs : List V} (h : H a = some (.tup xs)) : Odd K H (.ref a)
  | dct {a : Addr} {kvs : List (Key × V)} (h : H a = some (.dK kvs)) : Odd K H (.ref a)
theorem Odd.same {K : PySem.W.Frag} {H H' : Hp} {x : V} (o : Odd K H x) (e : Same H H') : Odd K H' x := by
  cases o with
  | non => exact .non
  | bl b => exact .bl b
  | int i => exact .int i
  | lst h => exact .lst (e _ _ h)
  | tup h => exact .tup (e _ _ h)
  | dct h => exact .dct (e _ _ h)
/-- whether x is one of the texts -/
inductive InW (K : PySem.W.Frag) (H : Hp) (ss : List Str) : V → Bool → Prop where
  | str (z : Str) : InW K H ss (.str z) (decide (z ∈ ss))
  | odd {x : V} (o : Odd K H x) : InW K H ss x false
def rInW (K : PySem.W.Frag) (neg : Bool) : R2 := fun x y H Q => ∃ p ss b, y = .ref p ∧ SqT K H p (ss.map V.str) ∧ InW K H ss x b ∧ Q (.bl (if neg then !b else b)) H
section
variable {X : Cx}
theorem vals_strs : ∀ {ss : List Str} {us : List Value}, Vals (ss.map V.str) us → ∀ u ∈ us, ∃ z t, u = .str z t ∧ z ∈ ss
  | [], _, r => fun u hu => by cases r; cases hu
  | z :: ss, _, r => fun u hu => by
    rw [List.map_cons] at r
    cases r with
    | cons h r =>
      obtain ⟨t, rfl⟩ := h
      rcases List.mem_cons.mp hu with rfl | hu
      · exact ⟨z, t, rfl, List.mem_cons_self⟩
      · obtain ⟨z', t', e, m⟩ := vals_strs r u hu
        exact ⟨z', t', e, List.mem_cons_of_mem _ m⟩
theorem any_strs (z : Str) : ∀ {ss : List Str} {us : List Value}, Vals (ss.map V.str) us → us.any (fun u => match u with | .str y _ => y == z | _ => false) = decide (z ∈ ss)
  | [], _, r => by cases r; rfl
  | y :: ss, _, r => by
    rw [List.map_cons] at r
    cases r with
    | cons h r =>
      obtain ⟨t, rfl⟩ := h
      rw [List.any_cons, any_strs z r]
      by_cases e : y = z
      · subst e
        simp
      · have e' : (y == z) = false := beq_eq_false_iff_ne.mpr e
        have e2 : ¬ z = y := fun q => e q.symm
        simp only [e', Bool.false_or, List.mem_cons, e2, false_or]
theorem odd_eq {A : Around} {pins : List (Addr × Obj)} {s : Shared} {σ : L2.St} {H : Hp} {x : V} {v : Value} (I : Inv X pins σ H s) (hu : A.units < cLine) (o : Odd X.K H x) (rx : RelV x v) (z : Str) (t : Tok) : SeqAt.EqAt A s (.str z t) v false := by
  cases o with
  | non => cases rx; exact SeqAt.EqAt.str_none z t
  | bl b => cases rx; exact SeqAt.EqAt.str_bool z t b
  | int i => obtain ⟨t', rfl⟩ := rx; exact SeqAt.EqAt.str_int z t i t'
  | @lst a xs h =>
    cases (show v = Value.ref a from rx)
    obtain ⟨_, its, n, _, h1⟩ := (show ObjOk X.prog X.w H s.heap a (.lst xs) from I.hok a _ h)
    exact SeqAt.EqAt.str_list z t ⟨_, h1, rfl, _, rfl⟩ hu
  | @tup a xs h =>
    cases (show v = Value.ref a from rx)
    obtain ⟨_, its, _, pl⟩ := (show ObjOk X.prog X.w H s.heap a (.tup xs) from I.hok a _ h)
    exact SeqAt.EqAt.str_tuple z t pl hu
  | @dct a kvs h =>
    cases (show v = Value.ref a from rx)
    obtain ⟨_, _, vs, _, o, es, ep, h1, h2, h3⟩ := (show ObjOk X.prog X.w H s.heap a (.dK kvs) from I.hok a _ h)
    obtain ⟨oc, od, oda, osl⟩ := o
    have e1 := h2.1
    simp only at e1 h3
    subst e1
    obtain ⟨h3, _⟩ := h3
    subst h3
    exact K7E.EqAt.str_dict z t h1 hu
theorem inW_core {A : Around} {pins : List (Addr × Obj)} {s : Shared} {σ : L2.St} {H : Hp} {x : V} {v : Value} {ss : List Str} {b : Bool} {its : List Value} (I : Inv X pins σ H s) (hu : A.units < cLine) (r : Vals (ss.map V.str) its) (rx : RelV x v) (h : InW X.K H ss x b) :
    ∃ f : Value → Bool, (∀ w ∈ its, SeqAt.EqAt A s w v (f w)) ∧ its.any f = b := by
  cases h with
  | str z =>
    obtain ⟨t', rfl⟩ := rx
    refine ⟨fun u => match u with | .str y _ => y == z | _ => false, fun w hw => ?_, any_strs z r⟩
    obtain ⟨y, t, rfl, _⟩ := vals_strs r w hw
    exact SeqAt.EqAt.str_str y t z t'
  | odd o =>
    refine ⟨fun _ => false, fun w hw => ?_, by simp⟩
    obtain ⟨y, t, rfl, _⟩ := vals_strs r w hw
    exact odd_eq I hu o rx y t
theorem op_inW (hu : X.A.units + 1 < cLine) : OpR X (compareOp .In) (rInW X.K false) := by
  intro pins s σ H x y v u Q I rx ry h
  obtain ⟨p, ss, b, rfl, hq, hi, q⟩ := h
  cases ry
  obtain ⟨its, r, pl, hz⟩ := I.tuple hq
  obtain ⟨f, hf, e⟩ := inW_core (A := X.A.in1) I hu r rx hi
  refine SeqAt.in_tupleAt f pl (fun w hw => hf w (by simpa using hw)) ⟨.bl _, H, I, rfl, ?_⟩
  rw [show its.toArray.any f = its.any f by simp, e]
  exact q
theorem op_notInW (hu : X.A.units + 1 < cLine) : OpR X (compareOp .NotIn) (rInW X.K true) := by
  intro pins s σ H x y v u Q I rx ry h
  obtain ⟨p, ss, b, rfl, hq, hi, q⟩ := h
  cases ry
  obtain ⟨its, r, pl, hz⟩ := I.tuple hq
  obtain ⟨f, hf, e⟩ := inW_core (A := X.A.in1) I hu r rx hi
  refine SeqAt.notIn_tupleAt f pl (fun w hw => hf w (by simpa using hw)) ⟨.bl _, H, I, rfl, ?_⟩
  rw [show its.toArray.any f = its.any f by simp, e]
  exact q
end
end K7
end
/-! ## P20 -/
section
open PySem PySem.Spec PyProof.Rows L2
namespace K7
abbrev N_BadTwin___init__ : List Str := ["self", "what"]
abbrev s_BadTwin___init__ : Stmt := inClass (topS 6) 0
theorem sc_BadTwin___init__ : FnScope ["self", "what"] ["self", "what"] (defScope s_BadTwin___init__) := ⟨rfl, rfl, rfl, by decide +kernel, rfl, by decide +kernel, by decide +kernel⟩
abbrev N_BadMeasure___init__ : List Str := ["self", "measure"]
abbrev s_BadMeasure___init__ : Stmt := inClass (topS 7) 0
theorem sc_BadMeasure___init__ : FnScope ["self", "measure"] ["self", "measure"] (defScope s_BadMeasure___init__) := ⟨rfl, rfl, rfl, by decide +kernel, rfl, by decide +kernel, by decide +kernel⟩
abbrev N_TwinView___init__ : List Str := ["self", "one", "other"]
abbrev s_TwinView___init__ : Stmt := inClass (topS 40) 0
theorem sc_TwinView___init__ : FnScope ["self", "one", "other"] ["self", "one", "other"] (defScope s_TwinView___init__) := ⟨rfl, rfl, rfl, by decide +kernel, rfl, by decide +kernel, by decide +kernel⟩
/-! ### twin views -/
/-- what the top says of an error class with one field -/
structure Er (K : PySem.W.Frag) (mg : Str → Option Value) (nm fld : Str) (EA iE : Addr) : Prop where
  g : mg nm = some (.ref EA)
  ox : OexC K EA
  iC : PySem.W.findIn K (.ref EA) "__init__" = some (some (.ref iE))
  tI : PySem.W.typeIn K (.ref iE) = some (.type "function")
  no : PySem.W.findIn K (.ref EA) fld = some none
def twFs (p q l : Addr) (c : Nat) (to tn : Addr) : List (Str × V) := [("one", .ref p), ("other", .ref q), ("land", .ref l), ("cell", .int (c : Nat)), ("own", .ref to), ("numbers", .ref tn)]
def tfields : List Str := ["one", "other", "land", "cell", "own", "numbers"]
/-- a twin view -/
structure TwO (C VC TC : Addr) (H : Hp) (t p q l l' : Addr) (n : Nat) (es : List (Nat × Nat)) (rd : List Nat) (c : Nat) (own r1 r2 : List Nat) : Prop where
  at_ : ∃ dx to tn, H t = some (.ins TC dx (twFs p q l c to tn)) ∧ H to = some (.tup (ints_ own)) ∧ H tn = some (.tup [.int (numR own r1 c n : Nat), .int (numR own r2 c n : Nat)])
  one : VwO C VC H p l n es rd c own r1
  two : VwO C VC H q l' n es rd c own r2
theorem TwO.same {C VC TC : Addr} {H H' : Hp} {t p q l l' : Addr} {n : Nat} {es : List (Nat × Nat)} {rd : List Nat} {c : Nat} {own r1 r2 : List Nat} (h : TwO C VC TC H t p q l l' n es rd c own r1 r2) (e : Same H H') : TwO C VC TC H' t p q l l' n es rd c own r1 r2 := by
  obtain ⟨dx, to, tn, h1, h2, h3⟩ := h.at_
  exact ⟨⟨dx, to, tn, e _ _ h1, e _ _ h2, e _ _ h3⟩, h.one.same e, h.two.same e⟩
theorem VwO.ni {C VC S dx x : Addr} {fs : List (Str × V)} {H : Hp} {p l : Addr} {n : Nat} {es : List (Nat × Nat)} {rd : List Nat} {c : Nat} {own row : List Nat} (h : VwO C VC H p l n es rd c own row) (hx : H x = some (.ins S dx fs)) (np : p ≠ x) (nl : l ≠ x) (o' : HO) : VwO C VC (upd H x o') p l n es rd c own row := by
  obtain ⟨dx', to, ts, t1, t2, t3, t4, h1, h2, h3, h4, h5, h6, h7⟩ := h.at_
  have kt : ∀ b ys, H b = some (.tup ys) → upd H x o' b = some (.tup ys) := fun b ys hb => keepNI hx hb fun _ _ _ e => by cases e
  exact ⟨⟨dx', to, ts, t1, t2, t3, t4, by rw [upd_ne np]; exact h1, kt _ _ h2, kt _ _ h3, kt _ _ h4, kt _ _ h5, kt _ _ h6, kt _ _ h7⟩, h.ld.ni hx nl o', h.ok, h.so⟩
/-- what the top says of twin views -/
structure Tt (K : PySem.W.Frag) (mg : Str → Option Value) (TC fQ : Addr) : Prop where
  g : mg "TwinView" = some (.ref TC)
  cl : Cls K TC
  nT : ∀ f ∈ tfields, NoAttr K TC f
  ha : PySem.W.findIn K (.ref TC) "__class__" = some (some (.builtin "object.__class__"))
  hn : PySem.W.specialIn K (.builtin "object.__class__") "__get__" = some (some (.builtin "getset_descriptor.__get__"))
  ht : PySem.W.takesIn K (.builtin "object.__class__") = some true
  hm : PySem.W.mroIn K TC (.type "object") = some true
  own : PySem.W.kitOne K (.ref TC) (.ref TC) = some true
  eq : PySem.W.findIn K (.ref TC) "__eq__" = some (some (.ref fQ))
  eqF : PySem.W.isFn K (.ref fQ) = true
  ne : PySem.W.findIn K (.ref TC) "__ne__" = some (some (.builtin "object.__ne__"))
/-- a thing that is none of this class -/
def NonC (K : PySem.W.Frag) (H : Hp) (VC : Addr) (y : V) : Prop := ∃ t, (∀ H', Same H H' → TyX K H' y t) ∧ PySem.W.kitOne K t (.ref VC) = some false
theorem NonC.same {K : PySem.W.Frag} {H H' : Hp} {VC : Addr} {y : V} (h : NonC K H VC y) (e : Same H H') : NonC K H' VC y := by
  obtain ⟨t, h1, h2⟩ := h
  exact ⟨t, fun H'' e' => h1 H'' (e.trans e'), h2⟩
def measuresL : List Str := ["standing", "passing", "open"]
section
variable {P : Program} {w : World} {K : PySem.W.Frag} {mg : Str → Option Value} {base : Heap} {a : AdL} {VC TC fE fQ fQT BT iT BM iM aMS : Addr}
theorem ok_iT (TB : Er K mg "BadTwin" "what" BT iT) {f : Addr} {fd : FuncData} (F : Fun K "__init__" "BadTwin.__init__" s_BadTwin___init__ f fd) : FnOk P w K mg base (L2.CX P w) 1 f fd ["self", "what"] (spX BT "what") := by
  refine F.okX sc_BadTwin___init__ (fun vs H Q E h => ?_) (fun cdv A outer s H vs Q E hr h => ?_)
  · obtain ⟨e, y, rfl, _⟩ := h
    rfl
  · obtain ⟨e, y, rfl, he, q⟩ := h
    refine ⟨_, (pss_one (ps_ost (pv 0) (pv 1))), ?_⟩
    exact ⟨y, rfl, .ref e, rfl, e, BT, rfl, TB.ox, TB.no, .inl ⟨he, fun d hd hn => q d hd hn⟩⟩
theorem ok_iM (TM : Er K mg "BadMeasure" "measure" BM iM) {f : Addr} {fd : FuncData} (F : Fun K "__init__" "BadMeasure.__init__" s_BadMeasure___init__ f fd) : FnOk P w K mg base (L2.CX P w) 1 f fd ["self", "measure"] (spX BM "measure") := by
  refine F.okX sc_BadMeasure___init__ (fun vs H Q E h => ?_) (fun cdv A outer s H vs Q E hr h => ?_)
  · obtain ⟨e, y, rfl, _⟩ := h
    rfl
  · obtain ⟨e, y, rfl, he, q⟩ := h
    refine ⟨_, (pss_one (ps_ost (pv 0) (pv 1))), ?_⟩
    exact ⟨y, rfl, .ref e, rfl, e, BM, rfl, TM.ox, TM.no, .inl ⟨he, fun d hd hn => q d hd hn⟩⟩
def spTwI (K : PySem.W.Frag) (a : AdL) (VC TC BT : Addr) : Sp := fun vs H Q E => ∃ (x dx : Addr) (y z : V), vs = [.ref x, y, z] ∧ H x = some (.ins TC dx []) ∧
  ((∃ (p q l l' : Addr) (n : Nat) (es : List (Nat × Nat)) (rd : List Nat) (c : Nat) (own r1 : List Nat) (n' : Nat) (es' : List (Nat × Nat)) (rd' : List Nat) (c' : Nat) (own' r2 : List Nat), y = .ref p ∧ z = .ref q ∧ VwO a.C VC H p l n es rd c own r1 ∧ VwO a.C VC H q l' n' es' rd' c' own' r2 ∧ p ≠ x ∧ q ≠ x ∧ l ≠ x ∧ l' ≠ x ∧
     ((n = n' ∧ es = es' ∧ rd = rd' ∧ c = c' ∧ own = own' ∧ ∀ H', But x H H' → TwO a.C VC TC H' x p q l l' n es rd c own r1 r2 → Q .non H') ∨
      (¬ (n = n' ∧ es = es' ∧ rd = rd') ∧ Flies H BT "what" (.str "land") E) ∨
      ((n = n' ∧ es = es' ∧ rd = rd') ∧ c ≠ c' ∧ Flies H BT "what" (.str "cell") E) ∨
      ((n = n' ∧ es = es' ∧ rd = rd') ∧ c = c' ∧ own ≠ own' ∧ Flies H BT "what" (.str "own") E))) ∨
   (NonC K H VC y ∧ Flies H BT "what" (.str "views") E) ∨
   (∃ (p l : Addr) (n : Nat) (es : List (Nat × Nat)) (rd : List Nat) (c : Nat) (own r1 : List Nat), y = .ref p ∧ VwO a.C VC H p l n es rd c own r1 ∧ NonC K H VC z ∧ Flies H BT "what" (.str "views") E))
theorem ok_twi (T : Tl K mg a) (TV : Tv K mg VC fQ) (TT : Tt K mg TC fQT) (T2 : Tk K a.C fE) (TB : Er K mg "BadTwin" "what" BT iT) {f : Addr} {fd fdB fdLe : FuncData} (F : Fun K "__init__" "TwinView.__init__" s_TwinView___init__ f fd)
    (FB0 : Fun K "__init__" "BadTwin.__init__" s_BadTwin___init__ iT fdB) (bB : Binds K fdB ["self", "what"] [])
    (GE : FnOk P w K mg base CX0 1 fE fdLe ["self", "other"] (spEqL a.C)) (bE : Binds K fdLe ["self", "other"] [])
    (m_isinstance : mg "isinstance" = none) : FnOk P w K mg base (L2.CX P w) 3 f fd ["self", "one", "other"] (spTwI K a VC TC BT) := by
  have FB : FnOk P w K mg base (L2.CX P w) 1 iT fdB ["self", "what"] (spX BT "what") := ok_iT TB FB0
  refine F.okX sc_TwinView___init__ (fun vs H Q E h => ?_) (fun cdv A outer s H vs Q E hr h => ?_)
  · obtain ⟨x, dx, y, z, rfl, _⟩ := h
    rfl
  · obtain ⟨x, dx, y, z, rfl, hx, h⟩ := h
    have hrx : Room (1 + 1) _ := hr.mono (by decide)
    refine ⟨_, (pss_cons (ps_if (pw_or (pt_not (pt_val (pe_callB call_isi (by rfl) m_isinstance boot_isinstance (pa_cons (pv 1) (pa_cons (pe_glob (v := .ref _) (by rfl) TV.g rfl) pa_nil))))) (pw_or1 (pt_not (pt_val (pe_callB call_isi (by rfl) m_isinstance boot_isinstance (pa_cons (pv 2) (pa_cons (pe_glob (v := .ref _) (by rfl) TV.g rfl) pa_nil))))))).pt
  (pss_one (ps_raise rfl (takes_of rfl rfl rfl rfl) (pmk_oex TB.ox TB.iC TB.tI FB hrx bB .nil passL (by rfl) TB.g (pa_cons pe_str pa_nil))))
  pss_nil)
 (pss_cons (ps_if (pt_cmpR (K7E.op_neOwn GE T2.ne T2.hm T2.eq T2.eqF bE (hr.mono (by decide)) pass0) (pe_fld (pv 1) rfl) (pe_fld (pv 2) rfl) (nomark _))
  (pss_one (ps_raise rfl (takes_of rfl rfl rfl rfl) (pmk_oex TB.ox TB.iC TB.tI FB hrx bB .nil passL (by rfl) TB.g (pa_cons pe_str pa_nil))))
  pss_nil)
 (pss_cons (ps_if (pt_cmpR op_ne (pe_fld (pv 1) rfl) (pe_fld (pv 2) rfl) (nomark _))
  (pss_one (ps_raise rfl (takes_of rfl rfl rfl rfl) (pmk_oex TB.ox TB.iC TB.tI FB hrx bB .nil passL (by rfl) TB.g (pa_cons pe_str pa_nil))))
  pss_nil)
 (pss_cons (ps_if (pt_cmpR (op_neD hr.units) (pe_fld (pv 1) rfl) (pe_fld (pv 2) rfl) (nomark _))
  (pss_one (ps_raise rfl (takes_of rfl rfl rfl rfl) (pmk_oex TB.ox TB.iC TB.tI FB hrx bB .nil passL (by rfl) TB.g (pa_cons pe_str pa_nil))))
  pss_nil)
 (pss_cons (ps_fld (pv 0) (pv 1) rfl)
 (pss_cons (ps_fld (pv 0) (pv 2) rfl)
 (pss_cons (ps_fld (pv 0) (pe_fld (pv 1) rfl) rfl)
 (pss_cons (ps_fld (pv 0) (pe_fld (pv 1) rfl) rfl)
 (pss_cons (ps_fld (pv 0) (pe_fld (pv 1) rfl) rfl)
 (pss_one (ps_fld (pv 0) (pe_tup (pa_cons (pe_fld (pv 1) rfl) (pa_cons (pe_fld (pv 2) rfl) pa_nil))) rfl))))))))))), ?_⟩
    rcases h with ⟨p, q, l, l', n, es, rd, c, own, r1, n', es', rd', c', own', r2, rfl, rfl, W, W', npx, nqx, nlx, nlx', h⟩ | ⟨⟨t, ty, kt⟩, fl⟩ | ⟨p, l, n, es, rd, c, own, r1, rfl, W, ⟨t, ty, kt⟩, fl⟩
    · obtain ⟨dx1, to, ts, t1, t2, t3, t4, h1, h2, h3, _⟩ := W.at_
      obtain ⟨dx2, to', ts', t1', t2', t3', t4', g1, g2, g3, _⟩ := W'.at_
      obtain ⟨dl, an, ar, ay, ac, tn, tty, tc, m1, _⟩ := W.ld.at_
      obtain ⟨dl', an', ar', ay', ac', tn', tty', tc', m1', _⟩ := W'.ld.at_
      refine ⟨_, rfl, _, _, _, _, _, rfl, .own _, W.ty TV, TV.own, true, rfl, iteF ?_⟩
      refine ⟨_, rfl, _, _, _, _, _, rfl, .own _, W'.ty TV, TV.own, true, rfl, iteF ?_⟩
      have lne : ∀ (b : Bool), b = decide (n = n' ∧ es = es' ∧ rd = rd') → True := fun _ _ => trivial
      clear lne
      refine ⟨_, rfl, p, VC, dx1, _, _, rfl, h1, TV.cl, TV.nV _ (by decide), rfl, _, rfl, q, VC, dx2, _, _, rfl, g1, TV.cl, TV.nV _ (by decide), rfl, ?_⟩
      refine ⟨l, dl, _, l', .ref a.C, rfl, rfl, m1, .base (.ins m1' T.cl T2.ha T2.hn T2.ht T2.hm), nfC K a.C, l, l', n, es, rd, n', es', rd', rfl, W.ld, W'.ld, _, rfl, ?_⟩
      by_cases hl : n = n' ∧ es = es' ∧ rd = rd'
      · rw [decide_eq_true hl]
        refine ⟨_, rfl, iteF ?_⟩
        obtain ⟨rfl, rfl, rfl⟩ := hl
        refine ⟨_, rfl, p, VC, dx1, _, _, rfl, h1, TV.cl, TV.nV _ (by decide), rfl, _, rfl, q, VC, dx2, _, _, rfl, g1, TV.cl, TV.nV _ (by decide), rfl, rfl, _, rfl, ?_⟩
        rw [dec_int]
        by_cases hc : c = c'
        · subst hc
          rw [decide_eq_true rfl]
          refine iteF ?_
          refine ⟨_, rfl, p, VC, dx1, _, _, rfl, h1, TV.cl, TV.nV _ (by decide), rfl, _, rfl, q, VC, dx2, _, _, rfl, g1, TV.cl, TV.nV _ (by decide), rfl, _, _, .tup (.inl (.inl h2)) (dp_ints own), .tup (.inl (.inl g2)) (dp_ints own'), shaped_ints own, shaped_ints own', _, rfl, ?_⟩
          rw [show PyData.eqv (.tuple (own.map fun c => PyData.int (c : Nat))) (.tuple (own'.map fun c => PyData.int (c : Nat))) = decide (own = own') from eqv_intD own own']
          by_cases ho : own = own'
          · subst ho
            rw [decide_eq_true rfl]
            refine iteF ?_
            rcases h with ⟨_, _, _, _, _, k⟩ | ⟨nl, _⟩ | ⟨_, nc, _⟩ | ⟨_, _, no, _⟩
            · have fin : ∀ (H1 : Hp) (fs : List (Str × V)), H1 x = some (.ins TC dx fs) → VwO a.C VC H1 p l n es rd c own r1 → VwO a.C VC H1 q l' n es rd c own r2 → But x H H1 → ∀ fs', (VwO a.C VC (upd H1 x (.ins TC dx fs')) p l n es rd c own r1 ∧ VwO a.C VC (upd H1 x (.ins TC dx fs')) q l' n es rd c own r2 ∧ But x H (upd H1 x (.ins TC dx fs')) ∧ upd H1 x (.ins TC dx fs') x = some (.ins TC dx fs')) := fun H1 fs hx1 W1 W1' b1 fs' => ⟨W1.ni hx1 npx nlx _, W1'.ni hx1 nqx nlx' _, b1.put _, upd_same⟩
              obtain ⟨A1, B1, b1, x1⟩ := fin H [] hx W W' (fun b o _ hb => hb) [("one", .ref p)]
              refine ⟨_, rfl, _, rfl, x, TC, dx, _, rfl, hx, TT.cl, TT.nT _ (by decide), by show 0 < 1000; decide, ?_⟩
              obtain ⟨A2, B2, b2, x2⟩ := fin _ _ x1 A1 B1 b1 [("one", .ref p), ("other", .ref q)]
              refine ⟨_, rfl, _, rfl, x, TC, dx, _, rfl, x1, TT.cl, TT.nT _ (by decide), by show 1 < 1000; decide, ?_⟩
              obtain ⟨A3, B3, b3, x3⟩ := fin _ _ x2 A2 B2 b2 [("one", .ref p), ("other", .ref q), ("land", .ref l)]
              have np : ∀ (H1 : Hp), But x H H1 → H1 p = some (.ins VC dx1 (vwFs l c to ts t1 t2 t3 t4 (numR own r1 c n))) := fun H1 b => b _ _ npx h1
              have nq : ∀ (H1 : Hp), But x H H1 → H1 q = some (.ins VC dx2 (vwFs l' c to' ts' t1' t2' t3' t4' (numR own r2 c n))) := fun H1 b => b _ _ nqx g1
              refine ⟨_, rfl, p, VC, dx1, _, _, rfl, np _ b2, TV.cl, TV.nV _ (by decide), rfl, _, rfl, x, TC, dx, _, rfl, x2, TT.cl, TT.nT _ (by decide), by show 2 < 1000; decide, ?_⟩
              obtain ⟨A4, B4, b4, x4⟩ := fin _ _ x3 A3 B3 b3 [("one", .ref p), ("other", .ref q), ("land", .ref l), ("cell", .int (c : Nat))]
              refine ⟨_, rfl, p, VC, dx1, _, _, rfl, np _ b3, TV.cl, TV.nV _ (by decide), rfl, _, rfl, x, TC, dx, _, rfl, x3, TT.cl, TT.nT _ (by decide), by show 3 < 1000; decide, ?_⟩
              obtain ⟨A5, B5, b5, x5⟩ := fin _ _ x4 A4 B4 b4 [("one", .ref p), ("other", .ref q), ("land", .ref l), ("cell", .int (c : Nat)), ("own", .ref to)]
              refine ⟨_, rfl, p, VC, dx1, _, _, rfl, np _ b4, TV.cl, TV.nV _ (by decide), rfl, _, rfl, x, TC, dx, _, rfl, x4, TT.cl, TT.nT _ (by decide), by show 4 < 1000; decide, ?_⟩
              refine ⟨_, rfl, p, VC, dx1, _, _, rfl, np _ b5, TV.cl, TV.nV _ (by decide), rfl, _, rfl, q, VC, dx2, _, _, rfl, nq _ b5, TV.cl, TV.nV _ (by decide), rfl, by show 2 ≤ sizeLine; decide, fun u nu => ?_⟩
              have e6 := al (o := .tup [.int (numR own r1 c n : Nat), .int (numR own r2 c n : Nat)]) nu
              have x6 := e6 _ _ x5
              obtain ⟨A7, B7, b7, x7⟩ := fin _ _ x6 (A5.same e6) (B5.same e6) (b5.same e6) [("one", .ref p), ("other", .ref q), ("land", .ref l), ("cell", .int (c : Nat)), ("own", .ref to), ("numbers", .ref u)]
              refine ⟨_, rfl, x, TC, dx, _, rfl, x6, TT.cl, TT.nT _ (by decide), by show 5 < 1000; decide, ?_⟩
              have nt : ∀ b ys, H b = some (.tup ys) → b ≠ x := fun b ys hb e => by rw [e, hx] at hb; cases hb
              exact k _ b7 ⟨⟨dx, to, u, x7, b7 _ _ (nt _ _ h2) h2, keepNI x6 upd_same fun _ _ _ e => by cases e⟩, A7, B7⟩
            · exact absurd ⟨rfl, rfl, rfl⟩ nl
            · exact absurd rfl nc
            · exact absurd rfl no
          · rw [decide_eq_false ho]
            rcases h with ⟨_, _, _, _, eo, _⟩ | ⟨nl, _⟩ | ⟨_, nc, _⟩ | ⟨_, _, _, fl⟩
            · exact absurd eo ho
            · exact absurd ⟨rfl, rfl, rfl⟩ nl
            · exact absurd rfl nc
            · exact iteT ⟨by show 1 ≤ 1000; decide, flies_go fl⟩
        · rw [decide_eq_false hc]
          rcases h with ⟨_, _, _, ec, _⟩ | ⟨nl, _⟩ | ⟨_, _, fl⟩ | ⟨_, ec, _⟩
          · exact absurd ec hc
          · exact absurd ⟨rfl, rfl, rfl⟩ nl
          · exact iteT ⟨by show 1 ≤ 1000; decide, flies_go fl⟩
          · exact absurd ec hc
      · rw [decide_eq_false hl]
        rcases h with ⟨q1, q2, q3, _⟩ | ⟨_, fl⟩ | ⟨q1, _⟩ | ⟨q1, _⟩
        · exact absurd ⟨q1, q2, q3⟩ hl
        · exact ⟨_, rfl, iteT ⟨by show 1 ≤ 1000; decide, flies_go fl⟩⟩
        · exact absurd q1 hl
        · exact absurd q1 hl
    · exact ⟨_, rfl, _, _, _, _, _, rfl, .own _, ty _ (Same.refl H), kt, false, rfl, iteT ⟨by show 1 ≤ 1000; decide, flies_go fl⟩⟩
    · refine ⟨_, rfl, _, _, _, _, _, rfl, .own _, W.ty TV, TV.own, true, rfl, iteF ?_⟩
      exact ⟨_, rfl, _, _, _, _, _, rfl, .own _, ty _ (Same.refl H), kt, false, rfl, iteT ⟨by show 1 ≤ 1000; decide, flies_go fl⟩⟩
end
end K7
end
/-! ## P21 -/
section
open PySem PySem.Spec PyProof.Rows L2
namespace K7
abbrev N_TwinView___eq__ : List Str := ["self", "other"]
abbrev s_TwinView___eq__ : Stmt := inClass (topS 40) 1
theorem sc_TwinView___eq__ : FnScope ["self", "other"] ["self", "other"] (defScope s_TwinView___eq__) := ⟨rfl, rfl, rfl, by decide +kernel, rfl, by decide +kernel, by decide +kernel⟩
abbrev N_TwinView_surplus : List Str := ["self", "b"]
abbrev s_TwinView_surplus : Stmt := inClass (topS 40) 2
theorem sc_TwinView_surplus : FnScope ["self", "b"] ["self"] (defScope s_TwinView_surplus) := ⟨rfl, rfl, rfl, by decide +kernel, rfl, by decide +kernel, by decide +kernel⟩
abbrev N_check_measure : List Str := ["measure"]
abbrev s_check_measure : Stmt := topS 39
theorem sc_check_measure : FnScope ["measure"] ["measure"] (defScope s_check_measure) := ⟨rfl, rfl, rfl, by decide +kernel, rfl, by decide +kernel, by decide +kernel⟩
abbrev N_TwinView_differs : List Str := ["self", "measure"]
abbrev s_TwinView_differs : Stmt := inClass (topS 40) 3
theorem sc_TwinView_differs : FnScope ["self", "measure"] ["self", "measure"] (defScope s_TwinView_differs) := ⟨rfl, rfl, rfl, by decide +kernel, rfl, by decide +kernel, by decide +kernel⟩
abbrev N_TwinView_turned : List Str := ["self"]
abbrev s_TwinView_turned : Stmt := inClass (topS 40) 4
theorem sc_TwinView_turned : FnScope ["self"] ["self"] (defScope s_TwinView_turned) := ⟨rfl, rfl, rfl, by decide +kernel, rfl, by decide +kernel, by decide +kernel⟩
abbrev N_twin_start : List Str := ["land", "cell"]
abbrev s_twin_start : Stmt := topS 41
theorem sc_twin_start : FnScope ["land", "cell"] ["land", "cell"] (defScope s_twin_start) := ⟨rfl, rfl, rfl, by decide +kernel, rfl, by decide +kernel, by decide +kernel⟩
/-! ### questions of twin views -/
section
variable {P : Program} {w : World} {K : PySem.W.Frag} {mg : Str → Option Value} {base : Heap} {a : AdL} {VC TC fE fQ fQT BT iT BM iM aMS : Addr}
def spEqT (K : PySem.W.Frag) (a : AdL) (VC TC : Addr) : Sp := fun vs H Q _ => ∃ (t p q l l' : Addr) (n : Nat) (es : List (Nat × Nat)) (rd : List Nat) (c : Nat) (own r1 r2 : List Nat) (y : V), vs = [.ref t, y] ∧ TwO a.C VC TC H t p q l l' n es rd c own r1 r2 ∧
  ((∃ (u p' q' m m' : Addr) (n' : Nat) (es' : List (Nat × Nat)) (rd' : List Nat) (c' : Nat) (own' s1 s2 : List Nat), y = .ref u ∧ TwO a.C VC TC H u p' q' m m' n' es' rd' c' own' s1 s2 ∧ Q (.bl (eqVw n es rd c own r1 n' es' rd' c' own' s1 && eqVw n es rd c own r2 n' es' rd' c' own' s2)) H) ∨ (NonC K H TC y ∧ Q (.bl false) H))
theorem ok_eqT (TV : Tv K mg VC fQ) (TT : Tt K mg TC fQT) {f : Addr} {fd fdQ : FuncData} (F : Fun K "__eq__" "TwinView.__eq__" s_TwinView___eq__ f fd) (m_isinstance : mg "isinstance" = none)
    (GQ : FnOk P w K mg base CX0 2 fQ fdQ ["self", "other"] (spEqV a VC)) (bQ : Binds K fdQ ["self", "other"] []) : FnOk P w K mg base CX0 3 f fd ["self", "other"] (spEqT K a VC TC) := by
  refine F.ok sc_TwinView___eq__ (fun vs H Q E h => ?_) (fun cdv A outer s H vs Q E hr h => ?_)
  · obtain ⟨t, p, q, l, l', n, es, rd, c, own, r1, r2, y, rfl, _⟩ := h
    rfl
  · obtain ⟨t, p, q, l, l', n, es, rd, c, own, r1, r2, y, rfl, W, h⟩ := h
    refine ⟨_, (pss_one (ps_ret (pe_and (pe_callB call_isi (by rfl) m_isinstance boot_isinstance (pa_cons (pv 1) (pa_cons (pe_glob (v := .ref _) (by rfl) TT.g rfl) pa_nil))) (pe_and (pe_cmpR (K7E.op_eqOwn GQ TV.eq TV.eqF bQ (hr.mono (by decide)) pass0) (pe_fld (pv 0) rfl) (pe_fld (pv 1) rfl) (nomark _)) (pe_one (pe_cmpR (K7E.op_eqOwn GQ TV.eq TV.eqF bQ (hr.mono (by decide)) pass0) (pe_fld (pv 0) rfl) (pe_fld (pv 1) rfl) (nomark _))))))), ?_⟩
    obtain ⟨dx, to, tn, h1, h2, h3⟩ := W.at_
    rcases h with ⟨u, p', q', m, m', n', es', rd', c', own', s1, s2, rfl, W', k⟩ | ⟨⟨ty, hty, kt⟩, k⟩
    · obtain ⟨dx', to', tn', g1, g2, g3⟩ := W'.at_
      obtain ⟨dp, _, _, _, _, _, _, p1, _⟩ := W.one.at_
      obtain ⟨dq, _, _, _, _, _, _, q1, _⟩ := W.two.at_
      refine ⟨_, rfl, _, _, _, _, _, rfl, .own _, .base (.ins g1 TT.cl TT.ha TT.hn TT.ht TT.hm), TT.own, true, rfl, ?_⟩
      refine ⟨.ref t, rfl, t, TC, dx, _, _, rfl, h1, TT.cl, TT.nT _ (by decide), rfl, .ref u, rfl, u, TC, dx', _, _, rfl, g1, TT.cl, TT.nT _ (by decide), rfl, p, dp, _, p', .ref VC, rfl, rfl, p1, W'.one.ty TV, nfC K VC, p, p', l, m, n, es, rd, c, own, r1, n', es', rd', c', own', s1, rfl, W.one, W'.one, _, rfl, ?_⟩
      cases c1 : eqVw n es rd c own r1 n' es' rd' c' own' s1 with
      | false =>
        rw [c1] at k
        exact k
      | true =>
        rw [c1] at k
        refine iteT ?_
        exact ⟨.ref t, rfl, t, TC, dx, _, _, rfl, h1, TT.cl, TT.nT _ (by decide), rfl, .ref u, rfl, u, TC, dx', _, _, rfl, g1, TT.cl, TT.nT _ (by decide), rfl, q, dq, _, q', .ref VC, rfl, rfl, q1, W'.two.ty TV, nfC K VC, q, q', l', m', n, es, rd, c, own, r2, n', es', rd', c', own', s2, rfl, W.two, W'.two, k⟩
    · exact ⟨_, rfl, _, _, _, _, _, rfl, .own _, hty _ (Same.refl H), kt, false, rfl, k⟩
def surF (n : Nat) (own r1 r2 : List Nat) : List Nat := (rigF n own r1).filter fun b => !decide (b ∈ rigF n own r2)
def spSur (a : AdL) (VC TC : Addr) : Sp := fun vs H Q _ => ∃ (t p q l l' : Addr) (n : Nat) (es : List (Nat × Nat)) (rd : List Nat) (c : Nat) (own r1 r2 : List Nat), vs = [.ref t] ∧ TwO a.C VC TC H t p q l l' n es rd c own r1 r2 ∧ ∀ H' u, Same H H' → H u = none → H' u = some (.tup (ints_ (surF n own r1 r2))) → Q (.ref u) H'
theorem rig_len (n : Nat) (own row : List Nat) : (rigF n own row).length ≤ n := by
  unfold rigF outF
  exact Nat.le_trans (List.length_filter_le _ _) (Nat.le_trans (List.length_filter_le _ _) (by rw [List.length_range]; exact Nat.le_refl _))
theorem ok_sur (TV : Tv K mg VC fQ) (TT : Tt K mg TC fQT) {f : Addr} {fd : FuncData} (F : Fun K "surplus" "TwinView.surplus" s_TwinView_surplus f fd) (m_tuple : mg "tuple" = none) : FnOk P w K mg base CX0 1 f fd ["self"] (spSur a VC TC) := by
  refine F.ok sc_TwinView_surplus (fun vs H Q E h => ?_) (fun cdv A outer s H vs Q E hr h => ?_)
  · obtain ⟨t, p, q, l, l', n, es, rd, c, own, r1, r2, rfl, _⟩ := h
    rfl
  · obtain ⟨t, p, q, l, l', n, es, rd, c, own, r1, r2, rfl, W, k⟩ := h
    refine ⟨_, (pss_one (ps_ret (pe_callTy call_tuple_of (by rfl) m_tuple boot_tuple (pa_cons (pe_lc (own := [("b", 1)]) (g := gName 1) rfl sc_TwinView_surplus.nd (pi_tup (pe_fld (pe_fld (pv 0) rfl) rfl)) (blkOk_by (own := [("b", 1)]) (N := N_TwinView_surplus) (sc := defScope s_TwinView_surplus) (by decide +kernel)) (fun _ _ _ _ _ => (pg_name (i := 1) sc_TwinView_surplus.nd rfl (by first | exact Or.inl rfl | exact Or.inr rfl))) (fun _ _ _ _ _ => (pts_one (pt_cmpR (show OpR _ _ (rIn K true) from op_notIn_seq) (pv 1) (show PE _ _ (tFld K (tFld K (tVar 0) "other") "rights") from pe_fld (show PE _ _ (tFld K (tVar 0) "other") from pe_fld (pv 0) rfl) rfl) (by with_unfolding_all rfl)))) (fun _ _ _ _ _ => (pv 1))) pa_nil)))), ?_⟩
    obtain ⟨dx, to, tn, h1, h2, h3⟩ := W.at_
    obtain ⟨dp, _, _, _, ri, _, _, p1, _, _, _, p5, _⟩ := W.one.at_
    obtain ⟨dq, _, _, _, rj, _, _, q1, _, _, _, q5, _⟩ := W.two.at_
    have n5 := W.one.ld.n5
    have rl := rig_len n own r1
    refine ⟨_, rfl, t, TC, dx, _, _, rfl, h1, TT.cl, TT.nT _ (by decide), rfl, p, VC, dp, _, _, rfl, p1, TV.cl, TV.nV _ (by decide), rfl, ri, rfl, ⟨_, .inl (.inl p5)⟩, fun D hD => lc_tup (xs := ints_ (rigF n own r1)) (fun j H2 => Same H H2 ∧ H2 D = some (.lst (ints_ (((rigF n own r1).take j).filter (fun b => !decide (b ∈ rigF n own r2)))))) ⟨al hD, upd_same⟩ (fun j H2 _ pv => .inl (.inl (pv.1 _ _ p5))) (fun j z H2 hz pv => ?_) (fun H2 pv => ?_)⟩
    · obtain ⟨e2, hD2⟩ := pv
      have hj := (List.getElem?_eq_some_iff.mp hz).1
      rw [ints_len] at hj
      unfold ints_ at hz
      rw [List.getElem?_map] at hz
      obtain ⟨b, hb, rfl⟩ := Option.map_eq_some_iff.mp hz
      have ft := filter_take (p := (fun b => !decide (b ∈ rigF n own r2))) hb
      refine ⟨rfl, _, rfl, _, rfl, t, TC, dx, _, _, rfl, e2 _ _ h1, TT.cl, TT.nT _ (by decide), rfl, q, VC, dq, _, _, rfl, e2 _ _ q1, TV.cl, TV.nV _ (by decide), rfl, rj, _, rfl, .inr (.inl (.inl (e2 _ _ q5))), rfl, flat_ints _, _, rfl, ?_⟩
      show if (!inV (.int (b : Nat)) (ints_ (rigF n own r2))) = true then _ else _
      rw [inV_ints]
      refine iteB (fun t => ?_) (fun t => ?_)
      · refine ⟨_, rfl, _, hD2, by rw [ints_len]; exact small1000 (Nat.le_trans (List.length_filter_le _ _) (by rw [List.length_take]; omega)), fun b z hb => ?_, ?_⟩
        · rw [upd_ne (ne_of_none hb hD)]
          exact e2 _ _ hb
        · rw [upd_same, ft, if_pos t, ints_snoc]
      · refine ⟨e2, ?_⟩
        rw [ft, if_neg (by rw [t]; decide), List.append_nil]
        exact hD2
    · obtain ⟨e2, hD2⟩ := pv
      rw [ints_len, List.take_length] at hD2
      exact ⟨D, _, rfl, .inl ⟨.inl (.inl hD2), fun u nu => k _ u (e2.trans (al nu)) (e2.free nu) upd_same⟩⟩
/-! measures -/
def spChM (K : PySem.W.Frag) (BM : Addr) : Sp := fun vs H Q E => ∃ (x : V) (b : Bool), vs = [x] ∧ InW K H measuresL x b ∧ (b = true → Q .non H) ∧ (b = false → Flies H BM "measure" x E)
theorem ok_chm (TM : Er K mg "BadMeasure" "measure" BM iM) (gMS : mg "MEASURES" = some (.ref aMS)) (sMS : ∀ H, SqT K H aMS (measuresL.map V.str)) {f : Addr} {fd fdB : FuncData} (F : Fun K "check_measure" "check_measure" s_check_measure f fd)
    (FB0 : Fun K "__init__" "BadMeasure.__init__" s_BadMeasure___init__ iM fdB) (bB : Binds K fdB ["self", "measure"] []) : FnOk P w K mg base (L2.CX P w) 3 f fd ["measure"] (spChM K BM) := by
  have FB : FnOk P w K mg base (L2.CX P w) 1 iM fdB ["self", "measure"] (spX BM "measure") := ok_iM TM FB0
  refine F.okX sc_check_measure (fun vs H Q E h => ?_) (fun cdv A outer s H vs Q E hr h => ?_)
  · obtain ⟨x, b, rfl, _⟩ := h
    rfl
  · obtain ⟨x, b, rfl, hi, q1, q2⟩ := h
    have hrx : Room (1 + 1) _ := hr.mono (by decide)
    refine ⟨_, (pss_one (ps_if (pt_cmpR (op_notInW (K7S.hu1 hr)) (pv 0) (pe_glob (v := .ref _) (by rfl) gMS rfl) (by with_unfolding_all rfl))
  (pss_one (ps_raise rfl (takes_of rfl rfl rfl rfl) (pmk_oex TM.ox TM.iC TM.tI FB hrx bB .nil passL (by rfl) TM.g (pa_cons (pv 0) pa_nil))))
  pss_nil)), ?_⟩
    refine ⟨_, rfl, aMS, _, b, rfl, sMS _, hi, _, rfl, ?_⟩
    cases b with
    | true => exact iteFo rfl (q1 rfl)
    | false => exact iteTo rfl ⟨_, rfl, by show 1 ≤ 1000; decide, flies_go (q2 rfl)⟩
noncomputable def difV (i n : Nat) (es : List (Nat × Nat)) (rd : List Nat) (c : Nat) (own r1 r2 : List Nat) : Bool :=
  if i = 0 then !decide (r1.map wd = r2.map wd) else if i = 1 then !decide (rigF n own r1 = rigF n own r2) else !decide (openB es rd (own ++ rigF n own r1) c = openB es rd (own ++ rigF n own r2) c)
def msr (i : Nat) : Str := measuresL.getD i ""
def spDif (K : PySem.W.Frag) (a : AdL) (VC TC BM : Addr) : Sp := fun vs H Q E => ∃ (t p q l l' : Addr) (n : Nat) (es : List (Nat × Nat)) (rd : List Nat) (c : Nat) (own r1 r2 : List Nat) (x : V), vs = [.ref t, x] ∧ TwO a.C VC TC H t p q l l' n es rd c own r1 r2 ∧
  ((∃ i, i < 3 ∧ x = .str (msr i) ∧ ∀ H', Same H H' → Q (.bl (difV i n es rd c own r1 r2)) H') ∨ (InW K H measuresL x false ∧ Flies H BM "measure" x E))
theorem ok_dif (TV : Tv K mg VC fQ) (TT : Tt K mg TC fQT) {f fcm fvo : Addr} {fd fdcm fdvo fdQ : FuncData} (F : Fun K "differs" "TwinView.differs" s_TwinView_differs f fd)
    (Gcm : FnOk P w K mg base (L2.CX P w) 3 fcm fdcm ["measure"] (spChM K BM)) (gcm : mg "check_measure" = some (.ref fcm)) (kcm : PySem.W.keepIn K (.ref fcm) = true) (bcm : Binds K fdcm ["measure"] [])
    (GQ : FnOk P w K mg base CX0 2 fQ fdQ ["self", "other"] (spEqV a VC)) (bQ : Binds K fdQ ["self", "other"] [])
    (mvo : Meth K VC "is_open" fvo) (Gvo : FnOk P w K mg base CX0 3 fvo fdvo ["self"] (spVOpen a VC)) (bvo : Binds K fdvo ["self"] []) : FnOk P w K mg base (L2.CX P w) 4 f fd ["self", "measure"] (spDif K a VC TC BM) := by
  refine F.okX sc_TwinView_differs (fun vs H Q E h => ?_) (fun cdv A outer s H vs Q E hr h => ?_)
  · obtain ⟨t, p, q, l, l', n, es, rd, c, own, r1, r2, x, rfl, _⟩ := h
    rfl
  · obtain ⟨t, p, q, l, l', n, es, rd, c, own, r1, r2, x, rfl, W, h⟩ := h
    refine ⟨_, (pss_cons (ps_expr (pe_call Gcm (hr.mono (by decide)) (by rfl) gcm kcm bcm .nil (passes_call (E := E) (takes_of rfl rfl rfl rfl) (fun _ _ _ _ h => h)) (pa_cons (pv 1) pa_nil)))
 (pss_cons (ps_if (pt_cmpR op_eq (pv 1) pe_str (nomark _))
  (pss_one (ps_ret (pe_cmpR (K7E.op_neOwn GQ TV.ne TV.hm TV.eq TV.eqF bQ (hr.mono (by decide)) pass0) (pe_fld (pv 0) rfl) (pe_fld (pv 0) rfl) (nomark _))))
  pss_nil)
 (pss_cons (ps_if (pt_cmpR op_eq (pv 1) pe_str (nomark _))
  (pss_one (ps_ret (pe_cmpR (op_neD hr.units) (pe_fld (pe_fld (pv 0) rfl) rfl) (pe_fld (pe_fld (pv 0) rfl) rfl) (nomark _))))
  pss_nil)
 (pss_one (ps_ret (pe_cmpR op_ne (pe_meth0 (pe_fld (pv 0) rfl) TV.cl mvo Gvo (hr.mono (by decide)) bvo .nil pass0) (pe_meth0 (pe_fld (pv 0) rfl) TV.cl mvo Gvo (hr.mono (by decide)) bvo .nil pass0) (nomark _))))))), ?_⟩
    obtain ⟨dx, to, tn, h1, h2, h3⟩ := W.at_
    obtain ⟨dp, _, _, _, ri, _, _, p1, _, _, _, p5, _⟩ := W.one.at_
    obtain ⟨dq, _, _, _, rj, _, _, q1, _, _, _, q5, _⟩ := W.two.at_
    rcases h with ⟨i, hi, rfl, k⟩ | ⟨hi, fl⟩
    · have dm : decide (msr i ∈ measuresL) = true := (show ∀ i : Fin 3, decide (msr i.val ∈ measuresL) = true by decide +kernel) ⟨i, hi⟩
      refine ⟨_, rfl, _, decide (msr i ∈ measuresL), rfl, .str _, fun _ => ?_, fun z => ?_⟩
      · have ms0 : ∀ i : Fin 3, decide (V.str (msr i.val) = V.str "standing") = decide (i.val = 0) := by decide +kernel
        have ms1 : ∀ i : Fin 3, decide (V.str (msr i.val) = V.str "passing") = decide (i.val = 1) := by decide +kernel
        refine ⟨_, rfl, rfl, _, rfl, ?_⟩
        rw [show decide (V.str (msr i) = V.str "standing") = decide (i = 0) from ms0 ⟨i, hi⟩]
        by_cases i0 : i = 0
        · rw [decide_eq_true i0]
          refine iteT ?_
          refine ⟨_, rfl, t, TC, dx, _, _, rfl, h1, TT.cl, TT.nT _ (by decide), rfl, _, rfl, t, TC, dx, _, _, rfl, h1, TT.cl, TT.nT _ (by decide), rfl, p, dp, _, q, .ref VC, rfl, rfl, p1, W.two.ty TV, nfC K VC, p, q, l, l', n, es, rd, c, own, r1, n, es, rd, c, own, r2, rfl, W.one, W.two, _, rfl, ?_⟩
          have e : eqVw n es rd c own r1 n es rd c own r2 = decide (r1.map wd = r2.map wd) := by
            unfold eqVw
            rw [decide_eq_true (p := c = c) rfl, decide_eq_true (p := own = own) rfl, decide_eq_true (p := n = n ∧ es = es ∧ rd = rd) ⟨rfl, rfl, rfl⟩, Bool.and_true, Bool.true_and, Bool.true_and]
          rw [e]
          have z := k H (Same.refl H)
          unfold difV at z
          rw [if_pos i0] at z
          exact z
        · rw [decide_eq_false i0]
          refine iteF ?_
          refine ⟨_, rfl, rfl, _, rfl, ?_⟩
          rw [show decide (V.str (msr i) = V.str "passing") = decide (i = 1) from ms1 ⟨i, hi⟩]
          by_cases i1 : i = 1
          · rw [decide_eq_true i1]
            refine iteT ?_
            refine ⟨_, rfl, t, TC, dx, _, _, rfl, h1, TT.cl, TT.nT _ (by decide), rfl, p, VC, dp, _, _, rfl, p1, TV.cl, TV.nV _ (by decide), rfl, _, rfl, t, TC, dx, _, _, rfl, h1, TT.cl, TT.nT _ (by decide), rfl, q, VC, dq, _, _, rfl, q1, TV.cl, TV.nV _ (by decide), rfl, _, _, .tup (.inl (.inl p5)) (dp_ints _), .tup (.inl (.inl q5)) (dp_ints _), shaped_ints _, shaped_ints _, ?_⟩
            rw [show PyData.eqv (.tuple ((rigF n own r1).map fun c => PyData.int (c : Nat))) (.tuple ((rigF n own r2).map fun c => PyData.int (c : Nat))) = decide (rigF n own r1 = rigF n own r2) from eqv_intD _ _]
            have z := k H (Same.refl H)
            unfold difV at z
            rw [if_neg i0, if_pos i1] at z
            exact z
          · rw [decide_eq_false i1]
            refine iteF ?_
            refine ⟨_, rfl, t, TC, dx, _, _, rfl, h1, TT.cl, TT.nT _ (by decide), rfl, p, dp, _, rfl, p1, rfl, p, l, n, es, rd, c, own, r1, rfl, W.one, fun H1 e1 => ?_⟩
            refine ⟨_, rfl, t, TC, dx, _, _, rfl, e1 _ _ h1, TT.cl, TT.nT _ (by decide), rfl, q, dq, _, rfl, e1 _ _ q1, rfl, q, l', n, es, rd, c, own, r2, rfl, W.two.same e1, fun H2 e2 => ?_⟩
            refine ⟨rfl, ?_⟩
            have z := k H2 (e1.trans e2)
            unfold difV at z
            rw [if_neg i0, if_neg i1] at z
            have eb : ∀ x y : Bool, decide (V.bl x = V.bl y) = decide (x = y) := fun x y => decide_eq_decide.mpr ⟨fun e => by injection e, fun e => by rw [e]⟩
            rw [eb]
            exact z
      · rw [dm] at z
        cases z
    · exact ⟨_, rfl, _, false, rfl, hi, (fun z => nomatch z), fun _ => fl⟩
/-! a new twin view -/
theorem new_twin {H1 : Hp} {Q : VK} {E : XK} {p q l l' : Addr} {n : Nat} {es : List (Nat × Nat)} {rd : List Nat} {c : Nat} {own r1 r2 : List Nat} (W : VwO a.C VC H1 p l n es rd c own r1) (W' : VwO a.C VC H1 q l' n es rd c own r2)
    (k : ∀ H' x, Same H1 H' → H1 x = none → TwO a.C VC TC H' x p q l l' n es rd c own r1 r2 → Q (.ref x) H') :
    ∀ x dx, H1 x = none → H1 dx = none → dx ≠ x → spTwI K a VC TC BT (.ref x :: ([.ref p, .ref q] ++ [])) (upd (upd H1 dx (.own x)) x (.ins TC dx [])) (fun v H2 => v = .non ∧ Q (.ref x) H2) E := by
  intro x dx hx hdx hne
  have e : Same H1 (upd (upd H1 dx (.own x)) x (.ins TC dx [])) := same_new (same_new (Same.refl H1) hdx) (by rw [upd_ne hne.symm]; exact hx)
  obtain ⟨dp, _, _, _, _, _, _, p1, _⟩ := W.at_
  obtain ⟨dq, _, _, _, _, _, _, q1, _⟩ := W'.at_
  obtain ⟨dl, _, _, _, _, _, _, _, m1, _⟩ := W.ld.at_
  obtain ⟨dl', _, _, _, _, _, _, _, m1', _⟩ := W'.ld.at_
  refine ⟨x, dx, .ref p, .ref q, rfl, upd_same, .inl ⟨p, q, l, l', n, es, rd, c, own, r1, n, es, rd, c, own, r2, rfl, rfl, W.same e, W'.same e, ne_of_none p1 hx, ne_of_none q1 hx, ne_of_none m1 hx, ne_of_none m1' hx, .inl ⟨rfl, rfl, rfl, rfl, rfl, fun H' b T' => ⟨rfl, k H' x (fun z o hz => ?_) hx T'⟩⟩⟩⟩
  exact b z o (ne_of_none hz hx) (e _ _ hz)
def spTrn (a : AdL) (VC TC : Addr) : Sp := fun vs H Q _ => ∃ (t p q l l' : Addr) (n : Nat) (es : List (Nat × Nat)) (rd : List Nat) (c : Nat) (own r1 r2 : List Nat), vs = [.ref t] ∧ TwO a.C VC TC H t p q l l' n es rd c own r1 r2 ∧ ∀ H' u, Same H H' → H u = none → TwO a.C VC TC H' u q p l' l n es rd c own r2 r1 → Q (.ref u) H'
theorem ok_trn (TT : Tt K mg TC fQT) {f fI : Addr} {fd fdI : FuncData} (F : Fun K "turned" "TwinView.turned" s_TwinView_turned f fd)
    (MT : Mk K TC fI) (GT : FnOk P w K mg base (L2.CX P w) 3 fI fdI ["self", "one", "other"] (spTwI K a VC TC BT)) (bT : Binds K fdI ["self", "one", "other"] []) : FnOk P w K mg base CX0 5 f fd ["self"] (spTrn a VC TC) := by
  refine F.ok sc_TwinView_turned (fun vs H Q E h => ?_) (fun cdv A outer s H vs Q E hr h => ?_)
  · obtain ⟨t, p, q, l, l', n, es, rd, c, own, r1, r2, rfl, _⟩ := h
    rfl
  · obtain ⟨t, p, q, l, l', n, es, rd, c, own, r1, r2, rfl, W, k⟩ := h
    refine ⟨_, (pss_one (ps_ret (pe_make MT GT (hr.mono (by decide)) (by rfl) TT.g bT .nil passL (pa_cons (pe_fld (pv 0) rfl) (pa_cons (pe_fld (pv 0) rfl) pa_nil))))), ?_⟩
    obtain ⟨dx, to, tn, h1, h2, h3⟩ := W.at_
    refine ⟨_, rfl, t, TC, dx, _, _, rfl, h1, TT.cl, TT.nT _ (by decide), rfl, _, rfl, t, TC, dx, _, _, rfl, h1, TT.cl, TT.nT _ (by decide), rfl, ?_⟩
    exact new_twin (a := a) (VC := VC) (TC := TC) (BT := BT) (Q := Q) W.two W.one k
def spTwS (a : AdL) (VC TC : Addr) : Sp := fun vs H Q E => ∃ (l : Addr) (n : Nat) (es : List (Nat × Nat)) (rd : List Nat) (y : V), vs = [.ref l, y] ∧ LandO a.C H l n es rd ∧ CellOr a.B n H y E fun c => ∀ H' t p q, Same H H' → TwO a.C VC TC H' t p q l l n es rd c (List.range n) (List.replicate n 0) (List.replicate n 0) → Q (.ref t) H'
theorem ok_tws (TT : Tt K mg TC fQT) {f fsv fI : Addr} {fd fdsv fdI : FuncData} (F : Fun K "twin_start" "twin_start" s_twin_start f fd)
    (Gsv : FnOk P w K mg base (L2.CX P w) 8 fsv fdsv ["land", "cell"] (spStartV a VC)) (gsv : mg "start_view" = some (.ref fsv)) (ksv : PySem.W.keepIn K (.ref fsv) = true) (bsv : Binds K fdsv ["land", "cell"] [])
    (MT : Mk K TC fI) (GT : FnOk P w K mg base (L2.CX P w) 3 fI fdI ["self", "one", "other"] (spTwI K a VC TC BT)) (bT : Binds K fdI ["self", "one", "other"] []) : FnOk P w K mg base (L2.CX P w) 9 f fd ["land", "cell"] (spTwS a VC TC) := by
  refine F.okX sc_twin_start (fun vs H Q E h => ?_) (fun cdv A outer s H vs Q E hr h => ?_)
  · obtain ⟨l, n, es, rd, y, rfl, _⟩ := h
    rfl
  · obtain ⟨l, n, es, rd, y, rfl, L, h⟩ := h
    refine ⟨_, (pss_one (ps_ret (pe_make MT GT (hr.mono (by decide)) (by rfl) TT.g bT .nil (passes_call (E := E) (takes_of rfl rfl rfl rfl) (fun _ _ _ _ h => h)) (pa_cons (pe_call Gsv (hr.mono (by decide)) (by rfl) gsv ksv bsv .nil (passes_call (E := E) (takes_of rfl rfl rfl rfl) (fun _ _ _ _ h => h)) (pa_cons (pv 0) (pa_cons (pv 1) pa_nil))) (pa_cons (pe_call Gsv (hr.mono (by decide)) (by rfl) gsv ksv bsv .nil (passes_call (E := E) (takes_of rfl rfl rfl rfl) (fun _ _ _ _ h => h)) (pa_cons (pv 0) (pa_cons (pv 1) pa_nil))) pa_nil))))), ?_⟩
    rcases h with ⟨c, rfl, hc, k⟩ | ⟨thg, wf, fl⟩
    · refine ⟨_, rfl, _, rfl, l, n, es, rd, _, rfl, L, .inl ⟨c, rfl, hc, fun H1 p e1 np W => ?_⟩⟩
      refine ⟨_, rfl, _, rfl, l, n, es, rd, _, rfl, L.same e1, .inl ⟨c, rfl, hc, fun H2 q e2 nq W' => ?_⟩⟩
      exact new_twin (a := a) (VC := VC) (TC := TC) (BT := BT) (Q := Q) (W.same e2) W' fun H' x e nx T' => k H' x p q ((e1.trans e2).trans e) T'
    · exact ⟨_, rfl, _, rfl, l, n, es, rd, y, rfl, L, .inr ⟨thg, wf, fl⟩⟩
end
end K7
end
/-! ## P22 -/
section
open PySem PySem.Spec PyProof.Rows L2
namespace K7
abbrev N__law_comes : List Str := ["_law_land_here", "_law_cell", "_law_passing", "_law_seen", "_law_place", "_law_low", "_law_high"]
abbrev s__law_comes : Stmt := topS 49
theorem sc__law_comes : FnScope ["_law_land_here", "_law_cell", "_law_passing", "_law_seen", "_law_place", "_law_low", "_law_high"] ["_law_land_here", "_law_cell", "_law_passing"] (defScope s__law_comes) := ⟨rfl, rfl, rfl, by decide +kernel, rfl, by decide +kernel, by decide +kernel⟩
abbrev N__law_open : List Str := ["_law_land_here", "_law_cell", "_law_passing", "_law_here"]
abbrev s__law_open : Stmt := topS 50
theorem sc__law_open : FnScope ["_law_land_here", "_law_cell", "_law_passing", "_law_here"] ["_law_land_here", "_law_cell", "_law_passing"] (defScope s__law_open) := ⟨rfl, rfl, rfl, by decide +kernel, rfl, by decide +kernel, by decide +kernel⟩
/-! ### what the law reaches -/
structure SnOk (n : Nat) (es : List (Nat × Nat)) (ps : List Nat) (c : Nat) (sn : List Nat) : Prop where
  nd : sn.Nodup
  me : c ∈ sn
  lt : ∀ x ∈ sn, x < n
  so : ∀ x ∈ sn, KL.Rch (edge es) ps c x
theorem SnOk.add {n : Nat} {es : List (Nat × Nat)} {ps : List Nat} {c : Nat} {sn : List Nat} (h : SnOk n es ps c sn) {a b : Nat} (ha : a ∈ sn) (e : edge es a b) (hp : b ∈ ps) (hb : b < n) (hn : b ∉ sn) : SnOk n es ps c (sn ++ [b]) := by
  refine ⟨List.nodup_append.mpr ⟨h.nd, List.nodup_cons.mpr ⟨List.not_mem_nil, List.nodup_nil⟩, fun a' ha' b' hb' e => ?_⟩, List.mem_append_left _ h.me, fun x hx => ?_, fun x hx => ?_⟩
  · rw [List.mem_singleton] at hb'
    exact hn (by rw [← hb', ← e]; exact ha')
  · rcases List.mem_append.mp hx with hx | hx
    · exact h.lt x hx
    · rw [List.mem_singleton.mp hx]
      exact hb
  · rcases List.mem_append.mp hx with hx | hx
    · exact h.so x hx
    · rw [List.mem_singleton.mp hx]
      exact .step (h.so a ha) e hp
theorem SnOk.len {n : Nat} {es : List (Nat × Nat)} {ps : List Nat} {c : Nat} {sn : List Nat} (h : SnOk n es ps c sn) : sn.length ≤ n := by
  have z := K7E.nodup_le sn (List.range n) h.nd fun x hx => List.mem_range.mpr (h.lt x hx)
  rw [List.length_range] at z
  exact z
theorem snoc_ints (sn : List Nat) (b : Nat) : ints_ sn ++ [.int (b : Nat)] = ints_ (sn ++ [b]) := by
  unfold ints_
  rw [List.map_append]
  rfl
section
variable {P : Program} {w : World} {K : PySem.W.Frag} {mg : Str → Option Value} {base : Heap}
def spComes : Sp := fun vs H Q _ => ∃ (q : Addr) (n : Nat) (es : List (Nat × Nat)) (lot : List Nat) (c : Nat) (pa : Addr) (ps : List Nat), vs = [.ref q, .int (c : Nat), .ref pa] ∧ LandAt H q n es lot ∧ n ≤ 5 ∧ es.length ≤ 32 ∧ c < n ∧ SqOf H pa (ints_ ps) ∧
  ∀ H' r sn, Same H H' → H r = none → H' r = some (.lst (ints_ sn)) → sn.Nodup → sn.length ≤ 5 → (∀ x, x ∈ sn ↔ KL.Rch (edge es) ps c x) → Q (.ref r) H'
theorem ok_comes {f : Addr} {fd : FuncData} (F : Fun K "_law_comes" "_law_comes" s__law_comes f fd) (m_range : mg "range" = none) (m_len : mg "len" = none) : FnOk P w K mg base CX0 1 f fd ["_law_land_here", "_law_cell", "_law_passing"] spComes := by
  refine F.ok sc__law_comes (fun vs H Q E h => ?_) (fun cdv A outer s H vs Q E hr h => ?_)
  · obtain ⟨q, n, es, lot, c, pa, ps, rfl, _⟩ := h
    rfl
  · obtain ⟨q, n, es, lot, c, pa, ps, rfl, L, n5, e32, hc, hpa, k⟩ := h
    refine ⟨_, (pss_cons (ps_set (i := 3) sc__law_comes.nd rfl (by first | exact Or.inl rfl | exact Or.inr rfl) (pe_lst (pa_cons (pv 1) pa_nil)))
 (pss_cons (ps_for PassesOwn.never rfl (pi_range1 rfl m_range (pa_cons (pe_ix ix_tup (pv 0) pe_int (fun _ _ => rfl)) pa_nil)) (pg_name (i := 4) sc__law_comes.nd rfl (by first | exact Or.inl rfl | exact Or.inr rfl))
  (pss_one (ps_if (pt_cmpR op_lt (pv 4) (pe_callB call_len_seq (by rfl) m_len boot_len (pa_cons (pv 3) pa_nil)) (nomark _))
  (pss_one (ps_for PassesOwn.never rfl (pi_list (pe_ix ix_tup (pv 0) pe_int (fun _ _ => rfl))) (pg_tup rfl (pgs_cons (pg_name (i := 5) sc__law_comes.nd rfl (by first | exact Or.inl rfl | exact Or.inr rfl)) (pgs_cons (pg_name (i := 6) sc__law_comes.nd rfl (by first | exact Or.inl rfl | exact Or.inr rfl)) pgs_nil)))
  (Evl.pss_cut (ps_if (pw_and (pt_cmpR op_eq (pv 5) (pe_ix ix_list (pv 3) (pv 4) (fun _ _ => rfl)) (nomark _)) (pw_and (pt_cmpR op_in_seq (pv 6) (pv 2) (by with_unfolding_all rfl)) (pw_and1 (pt_cmpR op_notIn_seq (pv 6) (pv 3) (by with_unfolding_all rfl))))).pt
  (pss_one (ps_expr (pe_bm PySem.F.plainAttrs_list PySem.F.slot_list_append PySem.F.type_list_append mt_append (pv 3) (pa_cons (pv 6) pa_nil))))
  pss_nil)
 (pss_one (ps_if (pw_and (pt_cmpR op_eq (pv 6) (pe_ix ix_list (pv 3) (pv 4) (fun _ _ => rfl)) (nomark _)) (pw_and (pt_cmpR op_in_seq (pv 5) (pv 2) (by with_unfolding_all rfl)) (pw_and1 (pt_cmpR op_notIn_seq (pv 5) (pv 3) (by with_unfolding_all rfl))))).pt
  (pss_one (ps_expr (pe_bm PySem.F.plainAttrs_list PySem.F.slot_list_append PySem.F.type_list_append mt_append (pv 3) (pa_cons (pv 5) pa_nil))))
  pss_nil)))))
  pss_nil)))
 (pss_one (ps_ret (pv 3))))), ?_⟩
    obtain ⟨rA, sA, ts, h1, h2, h3, h4⟩ := L.at_
    have tl : ts.length = es.length := by rw [h3.len]; unfold pairs; rw [List.length_map]
    refine ⟨_, rfl, by show 1 ≤ sizeLine; decide, fun F0 nF => ?_⟩
    have sm : ∀ {H' : Hp}, But F0 H H' → Same H H' := fun b z o hz => b z o (ne_of_none hz nF) hz
    refine ⟨_, rfl, q, _, _, _, rfl, rfl, .inl (.inl (by rw [upd_ne (ne_of_none h1 nF)]; exact h1)), atI_nat (j := 0) rfl, ?_⟩
    refine ⟨_, rfl, by omega, by omega, for_range (lo := 0) (n := n) (fun i τ H' => ∃ (sn : List Nat) (y4 y5 y6 : Option V), τ = [some (.ref q), some (.int (c : Nat)), some (.ref pa), some (.ref F0), y4, y5, y6] ∧ But F0 H H' ∧ H' F0 = some (.lst (ints_ sn)) ∧ SnOk n es ps c sn ∧ ∀ j, j < i → ∀ a, sn[j]? = some a → ∀ b, edge es a b → b ∈ ps → b ∈ sn) ⟨[c], none, none, none, rfl, fun b o nb hb => by rw [upd_ne nb]; exact hb, upd_same, ⟨List.nodup_cons.mpr ⟨List.not_mem_nil, List.nodup_nil⟩, List.mem_singleton.mpr rfl, fun x hx => by rw [List.mem_singleton.mp hx]; exact hc, fun x hx => by rw [List.mem_singleton.mp hx]; exact .base⟩, fun j hj => absurd hj (Nat.not_lt_zero _)⟩ (fun i τ H' hi pv => ?_) (fun τ H' pv => ?_)⟩
    · obtain ⟨sn, y4, y5, y6, rfl, bt, hF, ok, cl⟩ := pv
      refine ⟨_, rfl, _, rfl, F0, _, rfl, .inl (.inl (.inl hF)), _, _, rfl, rfl, _, rfl, ite2 (fun c1 => ?_) (fun c1 => ?_)⟩
      · have c1' : i < sn.length := by
          have z : ((0 : Int) + (i : Nat)) < (((ints_ sn).length : Nat) : Int) := of_decide_eq_true c1
          rw [show (ints_ sn).length = sn.length from List.length_map ..] at z
          omega
        obtain ⟨a, ea⟩ : ∃ a, sn[i]? = some a := ⟨_, List.getElem?_eq_getElem c1'⟩
        have ma := List.mem_of_getElem? ea
        refine ⟨_, rfl, q, _, _, _, rfl, rfl, .inl (.inl (sm bt _ _ h1)), atI_nat (j := 1) rfl, rA, rfl, ⟨_, .inl (.inl (sm bt _ _ h2))⟩, for_list (xs := ts.map V.ref) (fun j τ H2 => ∃ (r : List Nat) (y5 y6 : Option V), τ = [some (.ref q), some (.int (c : Nat)), some (.ref pa), some (.ref F0), some (.int (0 + (i : Nat))), y5, y6] ∧ But F0 H H2 ∧ H2 F0 = some (.lst (ints_ (sn ++ r))) ∧ SnOk n es ps c (sn ++ r) ∧ ∀ e ∈ es.take j, (e.1 = a → e.2 ∈ ps → e.2 ∈ sn ++ r) ∧ (e.2 = a → e.1 ∈ ps → e.1 ∈ sn ++ r)) ⟨[], y5, y6, rfl, bt, by rw [List.append_nil]; exact hF, by rw [List.append_nil]; exact ok, fun e he => by cases he⟩ (fun j τ H2 _ pv => ?_) (fun j x τ H2 hx pv => ?_) (fun τ H2 pv => ?_)⟩
        · obtain ⟨r, y5, y6, _, bt2, _⟩ := pv
          exact .inl (.inl (sm bt2 _ _ h2))
        · obtain ⟨r, y5, y6, rfl, bt2, hF2, ok2, cl2⟩ := pv
          rw [List.getElem?_map] at hx
          obtain ⟨t, ht, rfl⟩ := Option.map_eq_some_iff.mp hx
          obtain ⟨l, el, hl⟩ := h3.get ht
          unfold pairs at el
          rw [List.getElem?_map] at el
          obtain ⟨ab, eab, rfl⟩ := Option.map_eq_some_iff.mp el
          obtain ⟨lo, hi'⟩ := ab
          have mem := List.mem_of_getElem? eab
          obtain ⟨l1, l2⟩ := L.ok.lt _ mem
          have l1 : lo < hi' := l1
          have l2 : hi' < n := l2
          have tk : es.take (j + 1) = es.take j ++ [(lo, hi')] := by rw [List.take_add_one, eab]; rfl
          have ixa : ∀ r : List Nat, atI (ints_ (sn ++ r)) (0 + (i : Nat)) = some (.int (a : Nat)) := fun r => by
            rw [Int.zero_add]
            refine atI_nat ?_
            unfold ints_
            rw [List.getElem?_map, List.getElem?_append_left c1', ea]
            rfl
          refine ⟨t, [.int (lo : Nat), .int (hi' : Nat)], rfl, .inl (.inl (sm bt2 _ _ hl)), rfl, _, _, rfl, _, _, rfl, rfl, ?_⟩
          refine ⟨fun τ' H3 => ∃ r, τ' = [some (.ref q), some (.int (c : Nat)), some (.ref pa), some (.ref F0), some (.int (0 + (i : Nat))), some (.int (lo : Nat)), some (.int (hi' : Nat))] ∧ But F0 H H3 ∧ H3 F0 = some (.lst (ints_ (sn ++ r))) ∧ SnOk n es ps c (sn ++ r) ∧ (∀ e ∈ es.take j, (e.1 = a → e.2 ∈ ps → e.2 ∈ sn ++ r) ∧ (e.2 = a → e.1 ∈ ps → e.1 ∈ sn ++ r)) ∧ (lo = a → hi' ∈ ps → hi' ∈ sn ++ r), ?_, fun τ' H3 hM => ?_⟩
          · refine ⟨_, rfl, _, rfl, _, rfl, F0, _, _, _, rfl, rfl, .inl (.inl hF2), ixa r, rfl, _, rfl, ite2 (fun d1 => ?_) (fun d1 => ?_)⟩
            · have hla : lo = a := by
                have z := of_decide_eq_true d1
                injection z with z
                omega
              refine ⟨_, rfl, _, rfl, pa, _, rfl, (hpa.same (sm bt2)).sq, rfl, flat_ints ps, _, rfl, ite2 (fun d2 => ?_) (fun d2 => ?_)⟩
              · have d2' : hi' ∈ ps := of_decide_eq_true ((inV_ints hi' ps).symm.trans d2)
                refine ⟨_, rfl, _, rfl, F0, _, rfl, .inl (.inl (.inl hF2)), rfl, flat_ints _, _, rfl, ite2 (fun d3 => ?_) (fun d3 => ?_)⟩
                · have d3' : hi' ∉ sn ++ r := fun hb => by
                    have z : (!inV (.int (hi' : Nat)) (ints_ (sn ++ r))) = true := d3
                    rw [inV_ints, decide_eq_true hb] at z
                    cases z
                  have ok3 := ok2.add (a := a) (List.mem_append_left _ ma) (.inl (by rw [← hla]; exact mem)) d2' l2 d3'
                  have len3 := ok2.len
                  refine ⟨_, rfl, .inl ⟨rfl, _, .inl (.inl hF2)⟩, _, rfl, F0, _, _, rfl, rfl, hF2, by unfold ints_; rw [List.length_map]; exact small1000 (by omega), r ++ [hi'], rfl, fun b' o hb' e => by rw [upd_ne hb']; exact bt2 b' o hb' e, by rw [upd_same, snoc_ints, List.append_assoc], by rw [← List.append_assoc]; exact ok3, fun e he => ?_, fun _ _ => ?_⟩
                  · rw [← List.append_assoc]
                    exact ⟨fun x1 x2 => List.mem_append_left _ ((cl2 e he).1 x1 x2), fun x1 x2 => List.mem_append_left _ ((cl2 e he).2 x1 x2)⟩
                  · rw [← List.append_assoc]
                    exact List.mem_append_right _ (List.mem_singleton.mpr rfl)
                · have d3' : hi' ∈ sn ++ r := Classical.byContradiction fun hn => d3 (by
                    show (!inV (.int (hi' : Nat)) (ints_ (sn ++ r))) = true
                    rw [inV_ints, decide_eq_false hn]
                    rfl)
                  exact ⟨r, rfl, bt2, hF2, ok2, cl2, fun _ _ => d3'⟩
              · have d2' : hi' ∉ ps := fun hb => d2 ((inV_ints hi' ps).trans (decide_eq_true hb))
                exact iteF ⟨r, rfl, bt2, hF2, ok2, cl2, fun _ x => absurd x d2'⟩
            · have hla : lo ≠ a := fun e => d1 (decide_eq_true (by rw [e]))
              exact iteF ⟨r, rfl, bt2, hF2, ok2, cl2, fun x _ => absurd x hla⟩
          · obtain ⟨r, rfl, bt2, hF2, ok2, cl2, fst⟩ := hM
            have fin : ∀ r', (∀ e ∈ es.take j, (e.1 = a → e.2 ∈ ps → e.2 ∈ sn ++ r') ∧ (e.2 = a → e.1 ∈ ps → e.1 ∈ sn ++ r')) → (lo = a → hi' ∈ ps → hi' ∈ sn ++ r') → (hi' = a → lo ∈ ps → lo ∈ sn ++ r') → ∀ e ∈ es.take (j + 1), (e.1 = a → e.2 ∈ ps → e.2 ∈ sn ++ r') ∧ (e.2 = a → e.1 ∈ ps → e.1 ∈ sn ++ r') := fun r' z1 z2 z3 e he => by
              rw [tk] at he
              rcases List.mem_append.mp he with he | he
              · exact z1 e he
              · rw [List.mem_singleton.mp he]
                exact ⟨z2, z3⟩
            refine ⟨_, rfl, _, rfl, _, rfl, F0, _, _, _, rfl, rfl, .inl (.inl hF2), ixa r, rfl, _, rfl, ite2 (fun d1 => ?_) (fun d1 => ?_)⟩
            · have hla : hi' = a := by
                have z := of_decide_eq_true d1
                injection z with z
                omega
              refine ⟨_, rfl, _, rfl, pa, _, rfl, (hpa.same (sm bt2)).sq, rfl, flat_ints ps, _, rfl, ite2 (fun d2 => ?_) (fun d2 => ?_)⟩
              · have d2' : lo ∈ ps := of_decide_eq_true ((inV_ints lo ps).symm.trans d2)
                refine ⟨_, rfl, _, rfl, F0, _, rfl, .inl (.inl (.inl hF2)), rfl, flat_ints _, _, rfl, ite2 (fun d3 => ?_) (fun d3 => ?_)⟩
                · have d3' : lo ∉ sn ++ r := fun hb => by
                    have z : (!inV (.int (lo : Nat)) (ints_ (sn ++ r))) = true := d3
                    rw [inV_ints, decide_eq_true hb] at z
                    cases z
                  have ok3 := ok2.add (a := a) (List.mem_append_left _ ma) (.inr (by rw [← hla]; exact mem)) d2' (by omega) d3'
                  have len3 := ok2.len
                  refine ⟨_, rfl, .inl ⟨rfl, _, .inl (.inl hF2)⟩, _, rfl, F0, _, _, rfl, rfl, hF2, by unfold ints_; rw [List.length_map]; exact small1000 (by omega), r ++ [lo], _, _, rfl, fun b' o hb' e => by rw [upd_ne hb']; exact bt2 b' o hb' e, by rw [upd_same, snoc_ints, List.append_assoc], by rw [← List.append_assoc]; exact ok3, fin _ (fun e he => ?_) (fun x1 x2 => ?_) (fun _ _ => ?_)⟩
                  · rw [← List.append_assoc]
                    exact ⟨fun x1 x2 => List.mem_append_left _ ((cl2 e he).1 x1 x2), fun x1 x2 => List.mem_append_left _ ((cl2 e he).2 x1 x2)⟩
                  · rw [← List.append_assoc]
                    exact List.mem_append_left _ (fst x1 x2)
                  · rw [← List.append_assoc]
                    exact List.mem_append_right _ (List.mem_singleton.mpr rfl)
                · have d3' : lo ∈ sn ++ r := Classical.byContradiction fun hn => d3 (by
                    show (!inV (.int (lo : Nat)) (ints_ (sn ++ r))) = true
                    rw [inV_ints, decide_eq_false hn]
                    rfl)
                  exact ⟨r, _, _, rfl, bt2, hF2, ok2, fin r cl2 fst fun _ _ => d3'⟩
              · have d2' : lo ∉ ps := fun hb => d2 ((inV_ints lo ps).trans (decide_eq_true hb))
                exact iteF ⟨r, _, _, rfl, bt2, hF2, ok2, fin r cl2 fst fun _ x => absurd x d2'⟩
            · have hla : hi' ≠ a := fun e => d1 (decide_eq_true (by rw [e]))
              exact iteF ⟨r, _, _, rfl, bt2, hF2, ok2, fin r cl2 fst fun x _ => absurd x hla⟩
        · obtain ⟨r, y5, y6, rfl, bt2, hF2, ok2, cl2⟩ := pv
          rw [List.length_map, tl, List.take_length] at cl2
          refine ⟨sn ++ r, _, y5, y6, rfl, bt2, hF2, ok2, fun j hj a' ea' b he hp => ?_⟩
          rw [List.getElem?_append_left (by omega)] at ea'
          rcases Nat.lt_or_ge j i with lt | ge
          · exact List.mem_append_left _ (cl j lt a' ea' b he hp)
          · obtain rfl : j = i := by omega
            rw [ea] at ea'
            obtain rfl := Option.some.inj ea'
            rcases he with he | he
            · exact (cl2 _ he).1 rfl hp
            · exact (cl2 _ he).2 rfl hp
      · have c1' : sn.length ≤ i := by
          refine Nat.not_lt.mp fun z => c1 (decide_eq_true ?_)
          rw [show (ints_ sn).length = sn.length from List.length_map ..]
          omega
        refine ⟨sn, _, y5, y6, rfl, bt, hF, ok, fun j hj a ea => ?_⟩
        have z := (List.getElem?_eq_some_iff.mp ea).1
        exact cl j (by omega) a ea
    · obtain ⟨sn, y4, y5, y6, rfl, bt, hF, ok, cl⟩ := pv
      have len := ok.len
      refine ⟨_, rfl, k H' F0 sn (sm bt) nF hF ok.nd (by omega) fun x => ⟨ok.so x, fun h => KL.Rch.mem h ok.me fun a b ha e hp => ?_⟩⟩
      obtain ⟨j, hj, e2⟩ := List.getElem_of_mem ha
      exact cl j (by omega) a (by rw [List.getElem?_eq_getElem hj, e2]) b e hp
end
section
variable {P : Program} {w : World} {K : PySem.W.Frag} {mg : Str → Option Value} {base : Heap}
/-! _law_open -/
def spLOpen : Sp := fun vs H Q _ => ∃ (q : Addr) (n : Nat) (es : List (Nat × Nat)) (lot : List Nat) (c : Nat) (pa : Addr) (ps : List Nat), vs = [.ref q, .int (c : Nat), .ref pa] ∧ LandAt H q n es lot ∧ n ≤ 5 ∧ es.length ≤ 32 ∧ c < n ∧ SqOf H pa (ints_ ps) ∧
  ∀ H' b, Same H H' → (b = true ↔ OpenV es lot ps c) → Q (.bl b) H'
theorem LandAt.same {H H' : Hp} {q : Addr} {n : Nat} {es : List (Nat × Nat)} {lot : List Nat} (h : LandAt H q n es lot) (e : Same H H') : LandAt H' q n es lot := by
  obtain ⟨rA, sA, ts, h1, h2, h3, h4⟩ := h.at_
  exact ⟨⟨rA, sA, ts, e _ _ h1, e _ _ h2, h3.same e, e _ _ h4⟩, h.ok, h.lot⟩
theorem ok_lopen {f fC : Addr} {fd fdC : FuncData} (F : Fun K "_law_open" "_law_open" s__law_open f fd)
    (Glc : FnOk P w K mg base CX0 1 fC fdC ["_law_land_here", "_law_cell", "_law_passing"] spComes) (glc : mg "_law_comes" = some (.ref fC)) (klc : PySem.W.keepIn K (.ref fC) = true) (blc : Binds K fdC ["_law_land_here", "_law_cell", "_law_passing"] [])
    (m_len : mg "len" = none) : FnOk P w K mg base CX0 2 f fd ["_law_land_here", "_law_cell", "_law_passing"] spLOpen := by
  refine F.ok sc__law_open (fun vs H Q E h => ?_) (fun cdv A outer s H vs Q E hr h => ?_)
  · obtain ⟨q, n, es, lot, c, pa, ps, rfl, _⟩ := h
    rfl
  · obtain ⟨q, n, es, lot, c, pa, ps, rfl, L, n5, e32, hc, hpa, k⟩ := h
    refine ⟨_, (pss_one (ps_ret (pe_cmpR op_gt (pe_callB call_len_seq (by rfl) m_len boot_len (pa_cons (pe_lc (own := [("_law_here", 3)]) (g := gName 3) rfl sc__law_open.nd (pi_list (pe_call Glc (hr.mono (by decide)) (by rfl) glc klc blc .nil pass0 (pa_cons (pv 0) (pa_cons (pv 1) (pa_cons (pv 2) pa_nil))))) (blkOk_by (own := [("_law_here", 3)]) (N := N__law_open) (sc := defScope s__law_open) (by decide +kernel)) (fun _ _ _ _ _ => (pg_name (i := 3) sc__law_open.nd rfl (by first | exact Or.inl rfl | exact Or.inr rfl))) (fun _ _ _ _ _ => (pts_one (pt_cmpR (show OpR _ _ (rIn K false) from op_in_seq) (pv 3) (pe_ix (show IxR _ (rIxT K) from ix_tup) (pv 0) pe_int (fun _ _ => rfl)) (by with_unfolding_all rfl)))) (fun _ _ _ _ _ => (pv 3))) pa_nil)) pe_int (nomark _)))), ?_⟩
    refine ⟨_, rfl, _, rfl, _, rfl, q, n, es, lot, c, pa, ps, rfl, L, n5, e32, hc, hpa, fun H1 r sn e1 nr hr1 nd l5 iff => ?_⟩
    obtain ⟨rA, sA, ts, h1, h2, h3, h4⟩ := (L.same e1).at_
    refine ⟨r, rfl, ⟨_, .inl (.inl hr1)⟩, fun D hD => lc_list (xs := ints_ sn) (fun j H2 => Same H1 H2 ∧ H2 D = some (.lst (ints_ ((sn.take j).filter fun b => decide (b ∈ lot))))) ⟨same_new (Same.refl H1) hD, upd_same⟩ (fun j H2 _ pv => .inl (.inl (pv.1 _ _ hr1))) (fun j x H2 hx pv => ?_) (fun H2 pv => ?_)⟩
    · obtain ⟨e2, hD2⟩ := pv
      unfold ints_ at hx
      rw [List.getElem?_map] at hx
      obtain ⟨b, hb, rfl⟩ := Option.map_eq_some_iff.mp hx
      refine ⟨rfl, _, rfl, _, rfl, q, _, _, _, rfl, rfl, .inl (.inl (e2 _ _ h1)), atI_nat (j := 2) rfl, ?_⟩
      refine ⟨sA, _, rfl, .inl (.inl (.inl (e2 _ _ h4))), rfl, flat_ints lot, _, rfl, ?_⟩
      rw [show inV (.int (b : Nat)) (ints_ lot) = decide (b ∈ lot) from inV_ints b lot]
      have ft := filter_take (p := fun b => decide (b ∈ lot)) hb
      by_cases hm : b ∈ lot
      · rw [decide_eq_true hm] at ft ⊢
        rw [if_pos rfl] at ft
        refine iteT ⟨_, rfl, _, hD2, by unfold ints_; rw [List.length_map]; exact small1000 (Nat.le_trans (List.length_filter_le _ _) (by rw [List.length_take]; omega)), fun b o hb => ?_, ?_⟩
        · rw [upd_ne (ne_of_none hb hD)]
          exact e2 _ _ hb
        · rw [upd_same, ft, ints_snoc]
      · rw [decide_eq_false hm] at ft ⊢
        rw [if_neg (by decide), List.append_nil] at ft
        refine iteF ⟨e2, ?_⟩
        rw [ft]
        exact hD2
    · obtain ⟨e2, hD2⟩ := pv
      rw [show (ints_ sn).length = sn.length from List.length_map .., List.take_length] at hD2
      refine ⟨D, _, rfl, .inl (.inl (.inl hD2)), _, _, rfl, rfl, k _ _ (e1.trans e2) ?_⟩
      rw [decide_eq_true_eq]
      constructor
      · intro h
        have h : (0 : Int) < (((ints_ (sn.filter fun b => decide (b ∈ lot))).length : Nat) : Int) := h
        rw [show (ints_ (sn.filter fun b => decide (b ∈ lot))).length = (sn.filter fun b => decide (b ∈ lot)).length from List.length_map ..] at h
        have hp : 0 < (sn.filter fun b => decide (b ∈ lot)).length := by omega
        obtain ⟨x, hx⟩ := List.exists_mem_of_length_pos hp
        obtain ⟨x1, x2⟩ := List.mem_filter.mp hx
        exact ⟨x, of_decide_eq_true x2, (iff x).mp x1⟩
      · rintro ⟨x, x1, x2⟩
        have hp : 0 < (sn.filter fun b => decide (b ∈ lot)).length := List.length_pos_of_mem (List.mem_filter.mpr ⟨(iff x).mpr x2, decide_eq_true x1⟩)
        show (0 : Int) < (((ints_ (sn.filter fun b => decide (b ∈ lot))).length : Nat) : Int)
        rw [show (ints_ (sn.filter fun b => decide (b ∈ lot))).length = (sn.filter fun b => decide (b ∈ lot)).length from List.length_map ..]
        omega
end
end K7
end
/-! ## P23 -/
section
open PySem PySem.Spec PyProof.Rows L2
namespace K7
abbrev N__law_made : List Str := ["_law_land_here"]
abbrev s__law_made : Stmt := topS 51
theorem sc__law_made : FnScope ["_law_land_here"] ["_law_land_here"] (defScope s__law_made) := ⟨rfl, rfl, rfl, by decide +kernel, rfl, by decide +kernel, by decide +kernel⟩
abbrev N__law_rows : List Str := ["_law_hand_here", "_law_n", "_law_cell", "_law_own", "_law_rows_here", "_law_b", "_law_menu"]
abbrev s__law_rows : Stmt := topS 52
theorem sc__law_rows : FnScope ["_law_hand_here", "_law_n", "_law_cell", "_law_own", "_law_rows_here", "_law_b", "_law_menu"] ["_law_hand_here", "_law_n", "_law_cell"] (defScope s__law_rows) := ⟨rfl, rfl, rfl, by decide +kernel, rfl, by decide +kernel, by decide +kernel⟩
/-! ### rows of a twin view, drawn -/
theorem Stay.wds {h c b : Addr} {H H' : Hp} {row : List Nat} (x : Stay h c H H') (hb : H b = some (.lst (wds row))) : H' b = some (.lst (K7.wds row)) := by
  rw [wds_strs] at hb ⊢
  exact x.row hb
theorem Stay.put {h c W : Addr} {H H' : Hp} {o : HO} (x : Stay h c H H') (n : H W = none) : Stay h c H (upd H' W o) := by
  obtain ⟨n1, n2⟩ := x.hand0.ne n
  refine ⟨fun b z nb hb => ?_, x.hand0, x.hand.upd n1 n2⟩
  rw [upd_ne (ne_of_none hb n)]
  exact x.but b z nb hb
/-- a row that is drawn up to j -/
structure VwJ (n c j : Nat) (own row : List Nat) : Prop where
  nd : own.Nodup
  me : c ∈ own
  lt : ∀ b ∈ own, b < n
  lo : ∀ b ∈ own, b = c ∨ b < j
  rl : row.length = n
  r0 : row.getD c 0 = 0
  inn : ∀ b ∈ own, row.getD b 0 = 0 ∨ 3 ≤ row.getD b 0
  out : ∀ b, b < n → b ∉ own → row.getD b 0 < 3
theorem getD_set_eq {row : List Nat} {b k : Nat} (h : b < row.length) : (row.set b k).getD b 0 = k := by
  rw [List.getD_eq_getElem?_getD, List.getElem?_set_self h]
  rfl
theorem getD_set_ne {row : List Nat} {b x k : Nat} (h : x ≠ b) : (row.set b k).getD x 0 = row.getD x 0 := by
  rw [List.getD_eq_getElem?_getD, List.getElem?_set_ne (Ne.symm h), ← List.getD_eq_getElem?_getD]
theorem VwJ.start {n c : Nat} (hc : c < n) : VwJ n c 0 [c] (List.replicate n 0) := by
  have g : ∀ b, (List.replicate n 0).getD b 0 = 0 := fun b => by
    rw [List.getD_eq_getElem?_getD, List.getElem?_replicate]
    split <;> rfl
  exact ⟨by simp, List.mem_singleton.mpr rfl, fun b hb => by rw [List.mem_singleton.mp hb]; exact hc, fun b hb => .inl (List.mem_singleton.mp hb), List.length_replicate, g c, fun b _ => .inl (g b), fun b _ _ => by rw [g b]; decide⟩
theorem VwJ.skip {n c j : Nat} {own row : List Nat} (h : VwJ n c j own row) : VwJ n c (j + 1) own row := ⟨h.nd, h.me, h.lt, fun b hb => (h.lo b hb).imp id fun z => Nat.lt_succ_of_lt z, h.rl, h.r0, h.inn, h.out⟩
theorem VwJ.put {n c j k : Nat} {own own' row : List Nat} (h : VwJ n c j own row) (hj : j < n) (ne : j ≠ c) (ho : own' = own ∨ own' = own ++ [j]) (h1 : j ∈ own' → k = 0 ∨ 3 ≤ k) (h2 : j ∉ own' → k < 3) : VwJ n c (j + 1) own' (row.set j k) := by
  have nj : j ∉ own := fun m => (h.lo j m).elim (fun e => ne e) fun z => Nat.lt_irrefl _ z
  have sub : ∀ b, b ∈ own' → b ∈ own ∨ b = j := fun b hb => by
    rcases ho with rfl | rfl
    · exact .inl hb
    · exact (List.mem_append.mp hb).imp id List.mem_singleton.mp
  have sup : ∀ b, b ∈ own → b ∈ own' := fun b hb => by
    rcases ho with rfl | rfl
    · exact hb
    · exact List.mem_append.mpr (.inl hb)
  refine ⟨?_, sup _ h.me, fun b hb => ?_, fun b hb => ?_, by rw [List.length_set]; exact h.rl, by rw [getD_set_ne (Ne.symm ne)]; exact h.r0, fun b hb => ?_, fun b hb hn => ?_⟩
  · rcases ho with rfl | rfl
    · exact h.nd
    · exact List.nodup_append.mpr ⟨h.nd, by simp, fun b hb b' hb' e => nj (by rw [← List.mem_singleton.mp hb', ← e]; exact hb)⟩
  · rcases sub b hb with z | rfl
    · exact h.lt b z
    · exact hj
  · rcases sub b hb with z | rfl
    · exact (h.lo b z).imp id fun q => Nat.lt_succ_of_lt q
    · exact .inr (Nat.lt_succ_self _)
  · by_cases e : b = j
    · subst e
      rw [getD_set_eq (by rw [h.rl]; exact hj)]
      exact h1 hb
    · rw [getD_set_ne e]
      rcases sub b hb with z | z
      · exact h.inn b z
      · exact absurd z e
  · by_cases e : b = j
    · subst e
      rw [getD_set_eq (by rw [h.rl]; exact hj)]
      exact h2 hn
    · rw [getD_set_ne e]
      exact h.out b hb fun m => hn (sup b m)
theorem VwJ.ok {n c : Nat} {own row : List Nat} (h : VwJ n c n own row) (hc : c < n) : VwOk n c own row := ⟨hc, h.lt, h.nd, h.me, h.rl, h.r0, h.inn, h.out⟩
/-- what stands while the rows are drawn -/
structure Rx (H0 H : Hp) (h c0 O L R0 R1 : Addr) (own r0 r1 : List Nat) : Prop where
  st : Stay h c0 H0 H
  o : H O = some (.lst (ints_ own))
  l : H L = some (.lst [.ref R0, .ref R1])
  a0 : H R0 = some (.lst (wds r0))
  a1 : H R1 = some (.lst (wds r1))
  nO : H0 O = none
  nL : H0 L = none
  n0 : H0 R0 = none
  n1 : H0 R1 = none
  d1 : O ≠ L ∧ O ≠ R0 ∧ O ≠ R1 ∧ L ≠ R0 ∧ L ≠ R1 ∧ R0 ≠ R1
theorem Rx.stay {H0 H H' : Hp} {h c0 O L R0 R1 : Addr} {own r0 r1 : List Nat} (x : Rx H0 H h c0 O L R0 R1 own r0 r1) (s : Stay h c0 H H') : Rx H0 H' h c0 O L R0 R1 own r0 r1 :=
  ⟨x.st.trans s, s.lst x.o (notHand_ints _), s.lst x.l (notHand_refs [R0, R1]), s.wds x.a0, s.wds x.a1, x.nO, x.nL, x.n0, x.n1, x.d1⟩
theorem Rx.same {H0 H H' : Hp} {h c0 O L R0 R1 : Addr} {own r0 r1 : List Nat} (x : Rx H0 H h c0 O L R0 R1 own r0 r1) (e : Same H H') : Rx H0 H' h c0 O L R0 R1 own r0 r1 := x.stay (.of_same x.st.hand e)
theorem Rx.setO {H0 H : Hp} {h c0 O L R0 R1 : Addr} {own r0 r1 : List Nat} (x : Rx H0 H h c0 O L R0 R1 own r0 r1) (own' : List Nat) : Rx H0 (upd H O (.lst (ints_ own'))) h c0 O L R0 R1 own' r0 r1 :=
  ⟨x.st.put x.nO, upd_same, by rw [upd_ne x.d1.1.symm]; exact x.l, by rw [upd_ne x.d1.2.1.symm]; exact x.a0, by rw [upd_ne x.d1.2.2.1.symm]; exact x.a1, x.nO, x.nL, x.n0, x.n1, x.d1⟩
theorem Rx.set0 {H0 H : Hp} {h c0 O L R0 R1 : Addr} {own r0 r1 : List Nat} (x : Rx H0 H h c0 O L R0 R1 own r0 r1) (r : List Nat) : Rx H0 (upd H R0 (.lst (wds r))) h c0 O L R0 R1 own r r1 :=
  ⟨x.st.put x.n0, by rw [upd_ne x.d1.2.1]; exact x.o, by rw [upd_ne x.d1.2.2.2.1]; exact x.l, upd_same, by rw [upd_ne x.d1.2.2.2.2.2.symm]; exact x.a1, x.nO, x.nL, x.n0, x.n1, x.d1⟩
theorem Rx.set1 {H0 H : Hp} {h c0 O L R0 R1 : Addr} {own r0 r1 : List Nat} (x : Rx H0 H h c0 O L R0 R1 own r0 r1) (r : List Nat) : Rx H0 (upd H R1 (.lst (wds r))) h c0 O L R0 R1 own r0 r :=
  ⟨x.st.put x.n1, by rw [upd_ne x.d1.2.2.1]; exact x.o, by rw [upd_ne x.d1.2.2.2.2.1]; exact x.l, by rw [upd_ne x.d1.2.2.2.2.2]; exact x.a0, upd_same, x.nO, x.nL, x.n0, x.n1, x.d1⟩
theorem VwOk.rev {n c : Nat} {own row : List Nat} (ok : VwOk n c own row) : VwOk n c own.reverse row := ok.perm (List.reverse_perm own)
section
variable {P : Program} {w : World} {K : PySem.W.Frag} {mg : Str → Option Value} {base : Heap} {a : AdL} {VC TC fE fQ fQT BT iT BM iM aMS : Addr}
def spMade (a : AdL) : Sp := fun vs H Q _ => ∃ (q : Addr) (n : Nat) (es : List (Nat × Nat)) (lot : List Nat), vs = [.ref q] ∧ LandAt H q n es lot ∧ 2 ≤ n ∧ n ≤ 5 ∧ ∀ H' p, Same H H' → H p = none → LandO a.C H' p n es lot → Q (.ref p) H'
theorem ok_made (T : Tl K mg a) {f fI : Addr} {fd fdI : FuncData} (F : Fun K "_law_made" "_law_made" s__law_made f fd)
    (MC : Mk K a.C fI) (GI : FnOk P w K mg base CX0 5 fI fdI ["self", "cells", "neighbours", "roads"] (spLandI a)) (bI : Binds K fdI ["self", "cells", "neighbours", "roads"] []) (m_list : mg "list" = none) : FnOk P w K mg base CX0 7 f fd ["_law_land_here"] (spMade a) := by
  refine F.ok sc__law_made (fun vs H Q E h => ?_) (fun cdv A outer s H vs Q E hr h => ?_)
  · obtain ⟨q, n, es, lot, rfl, _⟩ := h
    rfl
  · obtain ⟨q, n, es, lot, rfl, L, n2, n5, k⟩ := h
    refine ⟨_, (pss_one (ps_ret (pe_make MC GI (hr.mono (by decide)) (by rfl) T.gC bI .nil pass0 (pa_cons (pe_ix ix_tup (pv 0) pe_int (fun _ _ => rfl)) (pa_cons (pe_callTy call_list_of (by rfl) m_list boot_list (pa_cons (pe_ix ix_tup (pv 0) pe_int (fun _ _ => rfl)) pa_nil)) (pa_cons (pe_callTy call_list_of (by rfl) m_list boot_list (pa_cons (pe_ix ix_tup (pv 0) pe_int (fun _ _ => rfl)) pa_nil)) pa_nil)))))), ?_⟩
    obtain ⟨rA, sA, ts, h1, h2, h3, h4⟩ := L.at_
    obtain ⟨l1, l2⟩ := lot_lt n5 L.lot.1
    refine ⟨_, rfl, q, _, _, _, rfl, rfl, .inl (.inl h1), atI_nat (j := 0) rfl, _, rfl, q, _, _, _, rfl, rfl, .inl (.inl h1), atI_nat (j := 1) rfl, rA, _, rfl, .inl (.inl (.inl h2)), fun x nx => ?_⟩
    have e1 := al (o := .lst (ts.map V.ref)) nx
    refine ⟨_, rfl, q, _, _, _, rfl, rfl, .inl (.inl (e1 _ _ h1)), atI_nat (j := 2) rfl, sA, _, rfl, .inl (.inl (.inl (e1 _ _ h4))), fun y ny => ?_⟩
    have e2 := al (o := .lst (ints_ lot)) ny
    have e12 := e1.trans e2
    refine new_land (a := a) (Q := Q) n2 n5 (.inr (e2 _ _ upd_same)) (co_lit (h3.same e12)) (cos_es L.ok n5) L.ok.conn (.inr upd_same) l1 (pw_nodup l2) L.lot.2.1 L.lot.2.2 fun H' p es' rd' e nx Lo pe pr => ?_
    rw [srt_map L.ok] at pe
    obtain rfl := es_is Lo.ok pe (L.ok.sorted.imp fun h => h)
    obtain rfl := rd_is Lo.rso pr (l2.imp fun h => Nat.le_of_lt h)
    exact k H' p (e12.trans e) (e12.free nx) Lo
def spRws : Sp := fun vs H Q _ => ∃ (h c0 : Addr) (n c : Nat), vs = [.ref h, .int (n : Nat), .int (c : Nat)] ∧ Hand H h c0 ∧ c < n ∧ n ≤ 5 ∧
  ∀ H' u O L R0 R1 own r0 r1, Stay h c0 H H' → H u = none → H' u = some (.tup [.ref O, .ref L]) → H' O = some (.lst (ints_ own)) → H' L = some (.lst [.ref R0, .ref R1]) → H' R0 = some (.lst (wds r0)) → H' R1 = some (.lst (wds r1)) → VwOk n c own r0 → VwOk n c own r1 → Q (.ref u) H'
theorem wds_set (row : List Nat) (b k : Nat) : (wds row).set b (.str (wd k)) = wds (row.set b k) := by
  unfold wds
  rw [List.map_set]
theorem ok_rws {f fdr fpk : Addr} {fd fddr fdpk : FuncData} (F : Fun K "_law_rows" "_law_rows" s__law_rows f fd)
    (Gdr : FnOk P w K mg base CX0 2 fdr fddr ["_law_hand_here", "_law_many"] spDraw) (gdr : mg "_law_draw" = some (.ref fdr)) (kdr : PySem.W.keepIn K (.ref fdr) = true) (bdr : Binds K fddr ["_law_hand_here", "_law_many"] [])
    (Gpk : FnOk P w K mg base CX0 3 fpk fdpk ["_law_hand_here", "_law_things"] spPick) (gpk : mg "_law_pick" = some (.ref fpk)) (kpk : PySem.W.keepIn K (.ref fpk) = true) (bpk : Binds K fdpk ["_law_hand_here", "_law_things"] [])
    (m_range : mg "range" = none) : FnOk P w K mg base CX0 4 f fd ["_law_hand_here", "_law_n", "_law_cell"] spRws := by
  refine F.ok sc__law_rows (fun vs H Q E h => ?_) (fun cdv A outer s H vs Q E hr h => ?_)
  · obtain ⟨h, c0, n, c, rfl, _⟩ := h
    rfl
  · obtain ⟨h, c0, n, c, rfl, hh, hc, n5, q⟩ := h
    refine ⟨_, (Evl.pss_cut (ps_par (by rfl) sc__law_rows.nd (i := 3) (j := 4) rfl rfl (by decide) rfl rfl (pa_cons (pe_lst (pa_cons (pv 2) pa_nil)) (pa_cons (pe_lst (pa_cons (pe_op op_rep (pe_lst (pa_cons pe_str pa_nil)) (pv 1)) (pa_cons (pe_op op_rep (pe_lst (pa_cons pe_str pa_nil)) (pv 1)) pa_nil))) pa_nil)) (by rfl))
 (pss_cons (ps_for PassesOwn.never rfl (pi_range1 rfl m_range (pa_cons (pv 1) pa_nil)) (pg_name (i := 5) sc__law_rows.nd rfl (by first | exact Or.inl rfl | exact Or.inr rfl))
  (pss_one (ps_if (pt_cmpR op_ne (pv 5) (pv 2) (nomark _))
  (pss_cons (ps_set (i := 6) sc__law_rows.nd rfl (by first | exact Or.inl rfl | exact Or.inr rfl) (pe_lst (pa_cons pe_str (pa_cons pe_str (pa_cons pe_str pa_nil)))))
 (Evl.pss_cut (ps_if (pt_cmpR op_eq (pe_call Gdr (hr.mono (by decide)) (by rfl) gdr kdr bdr .nil pass0 (pa_cons (pv 0) (pa_cons pe_int pa_nil))) pe_int (nomark _))
  (pss_cons (ps_expr (pe_bm PySem.F.plainAttrs_list PySem.F.slot_list_append PySem.F.type_list_append mt_append (pv 3) (pa_cons (pv 5) pa_nil)))
 (pss_one (ps_set (i := 6) sc__law_rows.nd rfl (by first | exact Or.inl rfl | exact Or.inr rfl) (pe_lst (pa_cons pe_str (pa_cons pe_str pa_nil))))))
  pss_nil)
 (pss_cons (ps_asg (pe_call Gpk (hr.mono (by decide)) (by rfl) gpk kpk bpk .nil pass0 (pa_cons (pv 0) (pa_cons (pv 6) pa_nil))) (pg_sub (pe_ix ix_list (pv 4) pe_int (fun _ _ => rfl)) (pv 5) set_list))
 (pss_one (ps_asg (pe_ifExp (pt_cmpR op_eq (pe_call Gdr (hr.mono (by decide)) (by rfl) gdr kdr bdr .nil pass0 (pa_cons (pv 0) (pa_cons pe_int pa_nil))) pe_int (nomark _)) (pe_ix ix_list (pe_ix ix_list (pv 4) pe_int (fun _ _ => rfl)) (pv 5) (fun _ _ => rfl)) (pe_call Gpk (hr.mono (by decide)) (by rfl) gpk kpk bpk .nil pass0 (pa_cons (pv 0) (pa_cons (pv 6) pa_nil)))) (pg_sub (pe_ix ix_list (pv 4) pe_int (fun _ _ => rfl)) (pv 5) set_list))))))
  pss_nil)))
 (pss_one (ps_ret (pe_tup (pa_cons (pe_ifExp (pt_cmpR op_eq (pe_call Gdr (hr.mono (by decide)) (by rfl) gdr kdr bdr .nil pass0 (pa_cons (pv 0) (pa_cons pe_int pa_nil))) pe_int (nomark _)) (pe_revL (pv 3)) (pv 3)) (pa_cons (pv 4) pa_nil))))))), ?_⟩
    have tn_ : ((n : Nat) : Int).toNat = n := Int.toNat_natCast n
    have wrep : List.replicate n (V.str "none") = wds (List.replicate n 0) := by unfold wds; rw [List.map_replicate]; rfl
    refine ⟨fun τ H' => ∃ O L R0 R1, τ = [some (.ref h), some (.int (n : Nat)), some (.int (c : Nat)), some (.ref O), some (.ref L), none, none] ∧ Rx H H' h c0 O L R0 R1 [c] (List.replicate n 0) (List.replicate n 0), ?_, fun τ H1 hM => ?_⟩
    · refine ⟨_, rfl, by show 1 ≤ sizeLine; decide, fun O nO => ?_⟩
      have e1 := al (o := .lst [.int (c : Nat)]) nO
      have hO1 : upd H O (.lst [.int (c : Nat)]) O = some (.lst (ints_ [c])) := upd_same
      generalize upd H O (.lst [.int (c : Nat)]) = H1 at e1 hO1 ⊢
      have rep : ∀ (Ha : Hp) (Qa : VK), (∀ Hb R, Same Ha Hb → Ha R = none → Hb R = some (.lst (wds (List.replicate n 0))) → Qa (.ref R) Hb) → ∀ t, Ha t = none → rRep (.ref t) (.int (n : Nat)) (upd Ha t (.lst [V.str "none"])) Qa := fun Ha Qa hq t nt => by
        refine ⟨t, (n : Nat), [.str "none"], rfl, rfl, upd_same, by omega, by omega, ?_, fun p np => ?_⟩
        · rw [tn_]
          exact Nat.le_of_lt (small1000 (by show 1 * n ≤ 1000; omega))
        · rw [tn_, flat_one, wrep]
          exact hq _ p ((al nt).trans (al np)) ((al nt).free np) upd_same
      refine ⟨by show 1 ≤ sizeLine; decide, fun t nt => ⟨_, rfl, rep _ _ (fun H2 R0 e2 nR0 h0 => ?_) t nt⟩⟩
      refine ⟨by show 1 ≤ sizeLine; decide, fun t2 nt2 => ⟨_, rfl, rep _ _ (fun H3 R1 e3 nR1 h1 => ?_) t2 nt2⟩⟩
      refine ⟨by show 2 ≤ sizeLine; decide, fun L nL => ?_⟩
      have e4 := al (o := .lst [.ref R0, .ref R1]) nL
      have e12 := e1.trans e2
      have e13 := e12.trans e3
      refine ⟨_, _, rfl, O, L, R0, R1, rfl, Stay.of_same hh (e13.trans e4), (e2.trans (e3.trans e4)) _ _ hO1, upd_same, (e3.trans e4) _ _ h0, e4 _ _ h1, nO, e13.free nL, e1.free nR0, e12.free nR1, ?_⟩
      refine ⟨fun e => ?_, fun e => ?_, fun e => ?_, fun e => ?_, fun e => ?_, fun e => ?_⟩
      · rw [← e, (e2.trans e3) _ _ hO1] at nL; cases nL
      · rw [← e, hO1] at nR0; cases nR0
      · rw [← e, e2 _ _ hO1] at nR1; cases nR1
      · rw [e, e3 _ _ h0] at nL; cases nL
      · rw [e, h1] at nL; cases nL
      · rw [← e, h0] at nR1; cases nR1
    · obtain ⟨O, L, R0, R1, rfl, X1⟩ := hM
      refine ⟨_, rfl, _, rfl, by omega, by omega, for_range (lo := 0) (n := n) (fun j σ H' => ∃ y5 y6 own r0 r1, σ = [some (.ref h), some (.int (n : Nat)), some (.int (c : Nat)), some (.ref O), some (.ref L), y5, y6] ∧ Rx H H' h c0 O L R0 R1 own r0 r1 ∧ VwJ n c j own r0 ∧ VwJ n c j own r1) ⟨none, none, [c], _, _, rfl, X1, .start hc, .start hc⟩ (fun j σ H2 hj pv => ?_) (fun σ H2 pv => ?_)⟩
      · obtain ⟨y5, y6, own, r0, r1, rfl, X, v0, v1⟩ := pv
        rw [show (0 : Int) + ((j : Nat) : Int) = (j : Nat) from Int.zero_add _]
        have own5 : own.length ≤ 5 := by
          have z := K7E.nodup_le own (List.range n) v0.nd fun x hx => List.mem_range.mpr (v0.lt x hx)
          rw [List.length_range] at z
          omega
        refine ⟨_, rfl, _, rfl, rfl, _, rfl, ?_⟩
        rw [dec_int]
        by_cases hjc : j = c
        · rw [decide_eq_true hjc]
          exact iteF ⟨_, y6, own, r0, r1, rfl, X, v0.skip, v1.skip⟩
        · rw [decide_eq_false hjc]
          refine iteT ?_
          refine ⟨by show 3 ≤ sizeLine; decide, fun m nm => ?_⟩
          have em := al (o := .lst [.str "none", .str "awake", .str "needed"]) nm
          have hm3 : upd H2 m (.lst [.str "none", .str "awake", .str "needed"]) m = some (.lst (wds [0, 1, 2])) := upd_same
          have X3 := X.same em
          generalize upd H2 m (.lst [.str "none", .str "awake", .str "needed"]) = H3 at em hm3 X3 ⊢
          refine ⟨fun τ H' => ∃ M ks own', τ = [some (.ref h), some (.int (n : Nat)), some (.int (c : Nat)), some (.ref O), some (.ref L), some (.int (j : Nat)), some (.ref M)] ∧ Rx H H' h c0 O L R0 R1 own' r0 r1 ∧ H' M = some (.lst (wds ks)) ∧ M ≠ h ∧ M ≠ R0 ∧ M ≠ R1 ∧ 0 < ks.length ∧ ks.length ≤ 3 ∧ (own' = own ∨ own' = own ++ [j]) ∧ (∀ k ∈ ks, (j ∈ own' → k = 0 ∨ 3 ≤ k) ∧ (j ∉ own' → k < 3)), ?_, fun τ H4 hM => ?_⟩
          · have nmo : j ∉ own := fun mm => (v0.lo j mm).elim (fun e => hjc e) fun z => Nat.lt_irrefl _ z
            refine ⟨_, rfl, h, c0, 2, rfl, X3.st.hand, by decide, by decide, fun H4 r d4 z0 z1 => ⟨rfl, _, rfl, ?_⟩⟩
            have s4 := Stay.of_drawn X3.st.hand d4
            have X4 := X3.stay s4
            refine ite2 (fun _ => ?_) (fun _ => ?_)
            · refine ⟨_, rfl, .inl ⟨rfl, _, .inl (.inl X4.o)⟩, _, rfl, O, _, _, rfl, rfl, X4.o, by rw [ints_len]; exact small1000 (by omega), ?_⟩
              rw [snoc_ints]
              have X5 := X4.setO (own ++ [j])
              refine ⟨by show 2 ≤ sizeLine; decide, fun m2 nm2 => ?_⟩
              have e6 := al (o := .lst [.str "none", .str "asleep"]) nm2
              have X6 := X5.same e6
              refine ⟨m2, [0, 3], own ++ [j], rfl, X6, upd_same, (X5.st.hand.ne nm2).1, (fun e => by rw [e, X5.a0] at nm2; cases nm2), (fun e => by rw [e, X5.a1] at nm2; cases nm2), by decide, by decide, .inr rfl, fun k hk => ⟨fun _ => ?_, fun hn => absurd (List.mem_append.mpr (.inr (List.mem_singleton.mpr rfl))) hn⟩⟩
              simp only [List.mem_cons, List.not_mem_nil, or_false] at hk
              rcases hk with rfl | rfl
              · exact .inl rfl
              · exact .inr (by decide)
            · refine ⟨m, [0, 1, 2], own, rfl, X4, s4.wds hm3, (X.st.hand.ne nm).1, (fun e => by rw [e, X.a0] at nm; cases nm), (fun e => by rw [e, X.a1] at nm; cases nm), by decide, by decide, .inl rfl, fun k hk => ⟨fun hm => absurd hm nmo, fun _ => ?_⟩⟩
              simp only [List.mem_cons, List.not_mem_nil, or_false] at hk
              rcases hk with rfl | rfl | rfl <;> decide
          · obtain ⟨M, ks, own', rfl, X4, hM4, nMh, nM0, nM1, k0, k3, ho, hks⟩ := hM
            have l0 : (wds r0).length = n := by rw [wds_len, v0.rl]
            have l1 : (wds r1).length = n := by rw [wds_len, v1.rl]
            refine ⟨_, rfl, _, rfl, h, c0, M, _, rfl, X4.st.hand, nMh, hM4, by rw [wds_len]; exact k0, by rw [wds_len]; omega, fun H5 i v d5 hv => ?_⟩
            have s5 := Stay.of_drawn X4.st.hand d5
            have X5 := X4.stay s5
            unfold wds at hv
            rw [List.getElem?_map] at hv
            obtain ⟨k, hk, rfl⟩ := Option.map_eq_some_iff.mp hv
            have hk' := hks k (List.mem_of_getElem? hk)
            refine ⟨_, rfl, L, _, _, _, rfl, rfl, .inl (.inl X5.l), atI_nat (j := 0) rfl, _, rfl, R0, _, _, j, rfl, rfl, X5.a0, ixN_nat (by rw [l0]; exact hj), ?_⟩
            rw [wds_set]
            have X6 := X5.set0 (r0.set j k)
            have hM6 : upd H5 R0 (.lst (wds (r0.set j k))) M = some (.lst (wds ks)) := by rw [upd_ne nM0]; exact s5.wds hM4
            generalize upd H5 R0 (.lst (wds (r0.set j k))) = H6 at X6 hM6 ⊢
            have v0' := v0.put hj hjc ho hk'.1 hk'.2
            have fin : ∀ (H7 : Hp) (k2 : Nat), Rx H H7 h c0 O L R0 R1 own' (r0.set j k) r1 → ((j ∈ own' → k2 = 0 ∨ 3 ≤ k2) ∧ (j ∉ own' → k2 < 3)) → ∃ y5 y6 own_1 r0_1 r1_1, [some (.ref h), some (.int (n : Nat)), some (.int (c : Nat)), some (.ref O), some (.ref L), some (.int (j : Nat)), some (V.ref M)] = [some (V.ref h), some (.int (n : Nat)), some (.int (c : Nat)), some (.ref O), some (.ref L), y5, y6] ∧ Rx H (upd H7 R1 (.lst (wds (r1.set j k2)))) h c0 O L R0 R1 own_1 r0_1 r1_1 ∧ VwJ n c (j + 1) own_1 r0_1 ∧ VwJ n c (j + 1) own_1 r1_1 := fun H7 k2 X7 hk2 => ⟨_, _, own', r0.set j k, r1.set j k2, rfl, X7.set1 _, v0', v1.put hj hjc ho hk2.1 hk2.2⟩
            refine ⟨_, rfl, h, c0, 3, rfl, X6.st.hand, by decide, by decide, fun H7 r d7 z0 z1 => ⟨rfl, _, rfl, ?_⟩⟩
            have s7 := Stay.of_drawn X6.st.hand d7
            have X7 := X6.stay s7
            refine ite2 (fun _ => ?_) (fun _ => ?_)
            · have at0 : (wds (r0.set j k))[j]? = some (.str (wd k)) := by
                rw [wds_at (n := n) (by rw [List.length_set, v0.rl]) hj, getD_set_eq (by rw [v0.rl]; exact hj)]
              refine ⟨_, rfl, L, _, _, _, rfl, rfl, .inl (.inl X7.l), atI_nat (j := 0) rfl, _, rfl, R0, _, _, _, rfl, rfl, .inl (.inl X7.a0), atI_nat at0, ?_⟩
              refine ⟨_, rfl, L, _, _, _, rfl, rfl, .inl (.inl X7.l), atI_nat (j := 1) rfl, _, rfl, R1, _, _, j, rfl, rfl, X7.a1, ixN_nat (by rw [l1]; exact hj), ?_⟩
              rw [wds_set]
              exact fin H7 k X7 hk'
            · refine ⟨_, rfl, _, rfl, h, c0, M, _, rfl, X7.st.hand, nMh, s7.wds hM6, by rw [wds_len]; exact k0, by rw [wds_len]; omega, fun H8 i2 v2 d8 hv2 => ?_⟩
              have X8 := X7.stay (Stay.of_drawn X7.st.hand d8)
              unfold wds at hv2
              rw [List.getElem?_map] at hv2
              obtain ⟨k2, hk2, rfl⟩ := Option.map_eq_some_iff.mp hv2
              refine ⟨_, rfl, L, _, _, _, rfl, rfl, .inl (.inl X8.l), atI_nat (j := 1) rfl, _, rfl, R1, _, _, j, rfl, rfl, X8.a1, ixN_nat (by rw [l1]; exact hj), ?_⟩
              rw [wds_set]
              exact fin H8 k2 X8 (hks k2 (List.mem_of_getElem? hk2))
      · obtain ⟨y5, y6, own, r0, r1, rfl, X, v0, v1⟩ := pv
        refine ⟨_, rfl, h, c0, 2, rfl, X.st.hand, by decide, by decide, fun H3 r d3 z0 z1 => ⟨rfl, _, rfl, ?_⟩⟩
        have X3 := X.stay (Stay.of_drawn X.st.hand d3)
        refine ite2 (fun _ => ?_) (fun _ => ?_)
        · refine ⟨_, rfl, O, _, rfl, .inl (.inl X3.o), fun p np => ?_⟩
          have e4 := al (o := .lst (ints_ own).reverse) np
          have X4 := X3.same e4
          refine ⟨_, rfl, by show 2 ≤ sizeLine; decide, fun u nu => ?_⟩
          have e5 := al (o := .tup [.ref p, .ref L]) nu
          have X5 := X4.same e5
          refine q _ u p L R0 R1 own.reverse r0 r1 X5.st (X4.st.free nu) upd_same ?_ X5.l X5.a0 X5.a1 (v0.ok hc).rev (v1.ok hc).rev
          refine (e5 _ _ upd_same).trans ?_
          unfold ints_
          rw [List.map_reverse]
        · refine ⟨_, rfl, _, rfl, by show 2 ≤ sizeLine; decide, fun u nu => ?_⟩
          have e5 := al (o := .tup [.ref O, .ref L]) nu
          have X5 := X3.same e5
          exact q _ u O L R0 R1 own r0 r1 X5.st (X3.st.free nu) upd_same X5.o X5.l X5.a0 X5.a1 (v0.ok hc) (v1.ok hc)
end
end K7
end
/-! ## P24 -/
section
open PySem PySem.Spec PyProof.Rows L2
namespace K7
abbrev N__law_number : List Str := ["_law_n", "_law_cell", "_law_own", "_law_row", "_law_total", "_law_b", "_law_way"]
abbrev s__law_number : Stmt := topS 53
theorem sc__law_number : FnScope ["_law_n", "_law_cell", "_law_own", "_law_row", "_law_total", "_law_b", "_law_way"] ["_law_n", "_law_cell", "_law_own", "_law_row"] (defScope s__law_number) := ⟨rfl, rfl, rfl, by decide +kernel, rfl, by decide +kernel, by decide +kernel⟩
abbrev N__law_passed : List Str := ["_law_n", "_law_own", "_law_row", "_law_b"]
abbrev s__law_passed : Stmt := topS 54
theorem sc__law_passed : FnScope ["_law_n", "_law_own", "_law_row", "_law_b"] ["_law_n", "_law_own", "_law_row"] (defScope s__law_passed) := ⟨rfl, rfl, rfl, by decide +kernel, rfl, by decide +kernel, by decide +kernel⟩
section
variable {P : Program} {w : World} {K : PySem.W.Frag} {mg : Str → Option Value} {base : Heap} {a : AdL}
def spNmL : Sp := fun vs H Q _ => ∃ (O R : Addr) (n c : Nat) (own row : List Nat), vs = [.int (n : Nat), .int (c : Nat), .ref O, .ref R] ∧ H O = some (.lst (ints_ own)) ∧ H R = some (.lst (wds row)) ∧ row.length = n ∧ n ≤ 5 ∧ ∀ H', Same H H' → Q (.int (numR own row c n : Nat)) H'
theorem dig_first {ys : List Str} {j : Nat} {x : Str} (h2 : ∀ m, m < j → ys[m]? ≠ some x) : ∀ (m : Nat) (z' : V), m < j → (ys.map V.str)[m]? = some z' → eqV z' (.str x) = false := by
  intro m z' hm hz
  rw [List.getElem?_map] at hz
  obtain ⟨y, hy, rfl⟩ := Option.map_eq_some_iff.mp hz
  exact decide_eq_false fun e => h2 m hm (by rw [hy, e])
theorem ok_nml {f : Addr} {fd : FuncData} (F : Fun K "_law_number" "_law_number" s__law_number f fd) (m_range : mg "range" = none) : FnOk P w K mg base CX0 1 f fd ["_law_n", "_law_cell", "_law_own", "_law_row"] spNmL := by
  refine F.ok sc__law_number (fun vs H Q E h => ?_) (fun cdv A outer s H vs Q E hr h => ?_)
  · obtain ⟨O, R, n, c, own, row, rfl, _⟩ := h
    rfl
  · obtain ⟨O, R, n, c, own, row, rfl, ho, ht, rl, n5, q⟩ := h
    refine ⟨_, (pss_cons (ps_set (i := 4) sc__law_number.nd rfl (by first | exact Or.inl rfl | exact Or.inr rfl) pe_int)
 (pss_cons (ps_for PassesOwn.never rfl (pi_range1 rfl m_range (pa_cons (pv 0) pa_nil)) (pg_name (i := 5) sc__law_number.nd rfl (by first | exact Or.inl rfl | exact Or.inr rfl))
  (pss_one (ps_if (pt_cmpR op_ne (pv 5) (pv 1) (nomark _))
  (pss_cons (ps_set (i := 6) sc__law_number.nd rfl (by first | exact Or.inl rfl | exact Or.inr rfl) (pe_ifExp (pw_and (pt_cmpR op_in_seq (pv 5) (pv 2) (by with_unfolding_all rfl)) (pw_and1 (pt_cmpR op_eq (pe_ix ix_list (pv 3) (pv 5) (fun _ _ => rfl)) pe_str (nomark _)))).pt pe_str (pe_ix ix_list (pv 3) (pv 5) (fun _ _ => rfl))))
 (pss_one (ps_set (i := 4) sc__law_number.nd rfl (by first | exact Or.inl rfl | exact Or.inr rfl) (pe_op op_add (pe_op op_mul (pv 4) pe_int) (pe_bm PySem.F.plainAttrs_list PySem.F.slot_list_index PySem.F.type_list_index mt_index (pe_lst (pa_cons pe_str (pa_cons pe_str (pa_cons pe_str (pa_cons pe_str (pa_cons pe_str pa_nil)))))) (pa_cons (pv 6) pa_nil))))))
  pss_nil)))
 (pss_one (ps_ret (pv 4))))), ?_⟩
    have dg : ∀ {v : V} {H' : Hp} {Q' : VK} (wy : Nat) (x : Str), digs[wy]? = some x → (∀ m, m < wy → digs[m]? ≠ some x) → v = .str x → (∀ H2, Same H' H2 → Q' (.int (wy : Nat)) H2) → ∀ D, H' D = none → rIndex K (.ref D) [v] (upd H' D (.lst (digs.map V.str))) Q' := fun {v H' Q'} wy x w1 w2 e k D nD => by
      subst e
      refine ⟨D, digs.map V.str, .str x, wy, .str x, rfl, rfl, .inl (.inl upd_same), rfl, ?_, ?_, ?_, ?_, k _ (al nD)⟩
      · decide +kernel
      · rw [List.getElem?_map, w1]; rfl
      · exact decide_eq_true rfl
      · exact dig_first w2
    refine ⟨_, rfl, _, rfl, by omega, by omega, for_range (lo := 0) (n := n) (fun j σ H2 => ∃ y5 y6, σ = [some (.int (n : Nat)), some (.int (c : Nat)), some (.ref O), some (.ref R), some (.int (numR own row c j : Nat)), y5, y6] ∧ Same H H2) ⟨none, none, rfl, Same.refl H⟩ (fun j σ H2 hj pv => ?_) (fun σ H2 pv => ?_)⟩
    · obtain ⟨y5, y6, rfl, e2⟩ := pv
      rw [show (0 : Int) + ((j : Nat) : Int) = (j : Nat) from Int.zero_add _]
      refine ⟨_, rfl, _, rfl, rfl, _, rfl, ?_⟩
      rw [dec_int]
      have st : numR own row c (j + 1) = if j = c then numR own row c j else numR own row c j * 5 + wayK (decide (j ∈ own)) (row.getD j 0) := rfl
      by_cases hc : j = c
      · rw [decide_eq_true hc]
        rw [if_pos hc] at st
        refine iteF ⟨some (.int (j : Nat)), y6, ?_, e2⟩
        rw [st]
        rfl
      · rw [decide_eq_false hc]
        rw [if_neg hc] at st
        refine iteT ?_
        have sm := numR_small (own := own) (row := row) (c := c) (j := j) (by omega)
        obtain ⟨w1, w2⟩ := way_at (decide (j ∈ own)) (row.getD j 0)
        have step : ((numR own row c j : Nat) : Int) * 5 + ((wayK (decide (j ∈ own)) (row.getD j 0) : Nat) : Int) = ((numR own row c (j + 1) : Nat) : Int) := by rw [st]; omega
        have fin : ∀ H3 (v : V), Same H H3 → v = .str (wayS (decide (j ∈ own)) (row.getD j 0)) → ∀ D, H3 D = none → rIndex K (.ref D) [v] (upd H3 D (.lst (digs.map V.str))) fun y H4 => ∃ i j_1, V.int ((numR own row c j : Nat) * 5) = .int i ∧ y = .int j_1 ∧ ∃ y5 y6, [some (V.int (n : Nat)), some (.int (c : Nat)), some (.ref O), some (.ref R), some (.int (i + j_1)), some (.int (j : Nat)), some v] = [some (V.int (n : Nat)), some (.int (c : Nat)), some (.ref O), some (.ref R), some (.int (numR own row c (j + 1) : Nat)), y5, y6] ∧ Same H H4 := fun H3 v e3 e D nD =>
          dg _ _ w1 w2 e (fun H4 e4 => ⟨_, _, rfl, rfl, _, _, congrArg (fun z : Int => [some (V.int (n : Nat)), some (.int (c : Nat)), some (.ref O), some (.ref R), some (V.int z), some (.int (j : Nat)), some v]) step, e3.trans e4⟩) D nD
        refine ⟨_, rfl, _, rfl, O, _, rfl, .inl (.inl (.inl (e2 _ _ ho))), rfl, flat_ints own, _, rfl, ?_⟩
        rw [show inV (.int (j : Nat)) (ints_ own) = decide (j ∈ own) from inV_ints j own]
        have atj := atI_nat (wds_at rl hj)
        refine iteB (fun t => ?_) (fun t => ?_)
        · have t : decide (j ∈ own) = true := t
          refine ⟨_, rfl, _, rfl, R, _, _, _, rfl, rfl, .inl (.inl (e2 _ _ ht)), atj, rfl, _, rfl, ?_⟩
          rw [wd_none]
          refine iteB (fun t2 => ?_) (fun t2 => ?_)
          · have e5 : wayS (decide (j ∈ own)) (row.getD j 0) = "own" := by unfold wayS; rw [t, t2]; rfl
            exact ⟨_, rfl, _, _, rfl, rfl, .inl ⟨by omega, by omega⟩, by show 5 ≤ sizeLine; decide, fun D nD => ⟨.inl ⟨rfl, _, .inl (.inl upd_same)⟩, _, rfl, fin H2 _ e2 (by rw [e5]) D nD⟩⟩
          · have t2 : decide (row.getD j 0 = 0) = false := t2
            have e5 : wayS (decide (j ∈ own)) (row.getD j 0) = wd (row.getD j 0) := by unfold wayS; rw [t2]; rfl
            exact ⟨_, rfl, _, rfl, R, _, _, _, rfl, rfl, .inl (.inl (e2 _ _ ht)), atj, _, rfl, _, _, rfl, rfl, .inl ⟨by omega, by omega⟩, by show 5 ≤ sizeLine; decide, fun D nD => ⟨.inl ⟨rfl, _, .inl (.inl upd_same)⟩, _, rfl, fin H2 _ e2 (by rw [e5]) D nD⟩⟩
        · have t : decide (j ∈ own) = false := t
          have e5 : wayS (decide (j ∈ own)) (row.getD j 0) = wd (row.getD j 0) := by unfold wayS; rw [t, Bool.and_false]; rfl
          exact iteF ⟨_, rfl, _, rfl, R, _, _, _, rfl, rfl, .inl (.inl (e2 _ _ ht)), atj, _, rfl, _, _, rfl, rfl, .inl ⟨by omega, by omega⟩, by show 5 ≤ sizeLine; decide, fun D nD => ⟨.inl ⟨rfl, _, .inl (.inl upd_same)⟩, _, rfl, fin H2 _ e2 (by rw [e5]) D nD⟩⟩
    · obtain ⟨y5, y6, rfl, e2⟩ := pv
      exact ⟨_, rfl, q _ e2⟩
def pasF (n : Nat) (own row : List Nat) : List Nat := (List.range n).filter fun b => decide (b ∈ own) || rightV (row.getD b 0)
def spPsL : Sp := fun vs H Q _ => ∃ (O R : Addr) (n : Nat) (own row : List Nat), vs = [.int (n : Nat), .ref O, .ref R] ∧ H O = some (.lst (ints_ own)) ∧ H R = some (.lst (wds row)) ∧ row.length = n ∧ n ≤ 5 ∧ ∀ H' D, Same H H' → H D = none → H' D = some (.lst (ints_ (pasF n own row))) → Q (.ref D) H'
theorem ok_psl {f : Addr} {fd : FuncData} (F : Fun K "_law_passed" "_law_passed" s__law_passed f fd) (m_range : mg "range" = none) : FnOk P w K mg base CX0 1 f fd ["_law_n", "_law_own", "_law_row"] spPsL := by
  refine F.ok sc__law_passed (fun vs H Q E h => ?_) (fun cdv A outer s H vs Q E hr h => ?_)
  · obtain ⟨O, R, n, own, row, rfl, _⟩ := h
    rfl
  · obtain ⟨O, R, n, own, row, rfl, ho, ht, rl, n5, q⟩ := h
    refine ⟨_, (pss_one (ps_ret (pe_lc (own := [("_law_b", 3)]) (g := gName 3) rfl sc__law_passed.nd (pi_range1 rfl m_range (pa_cons (pv 0) pa_nil)) (blkOk_by (own := [("_law_b", 3)]) (N := N__law_passed) (sc := defScope s__law_passed) (by decide +kernel)) (fun _ _ _ _ _ => (pg_name (i := 3) sc__law_passed.nd rfl (by first | exact Or.inl rfl | exact Or.inr rfl))) (fun _ _ _ _ _ => (pts_one (PW.pt (pw_or (pt_cmpR (show OpR _ _ (rIn K false) from op_in_seq) (pv 3) (pv 1) (by with_unfolding_all rfl)) (pw_or1 (pt_cmpR (show OpR _ _ (rIn K false) from op_in_seq) (pe_ix (show IxR _ (rIxL K) from ix_list) (pv 2) (pv 3) (fun _ _ => rfl)) (pe_tup (pa_cons pe_str (pa_cons pe_str pa_nil))) (by with_unfolding_all rfl))))))) (fun _ _ _ _ _ => (pv 3))))), ?_⟩
    refine ⟨_, rfl, _, rfl, by omega, by omega, fun D hD => lc_range (lo := 0) (n := n) (fun i H2 => Same H H2 ∧ H2 D = some (.lst (ints_ ((List.range i).filter fun b => decide (b ∈ own) || rightV (row.getD b 0))))) ⟨al hD, upd_same⟩ (fun i H2 hi pv => ?_) (fun H2 pv => ?_)⟩
    · obtain ⟨e2, hD2⟩ := pv
      rw [show (0 : Int) + ((i : Nat) : Int) = (i : Nat) from Int.zero_add _]
      have take : ∀ H3, Same H2 H3 → (decide (i ∈ own) || rightV (row.getD i 0)) = true → ∃ acc, H3 D = some (.lst acc) ∧ acc.length < sizeLine ∧ Same H (upd H3 D (.lst (acc ++ [.int (i : Nat)]))) ∧ (upd H3 D (.lst (acc ++ [.int (i : Nat)]))) D = some (.lst (ints_ ((List.range (i + 1)).filter fun b => decide (b ∈ own) || rightV (row.getD b 0)))) := fun H3 e3 t => by
        refine ⟨_, e3 _ _ hD2, by rw [ints_len]; exact small1000 (Nat.le_trans (List.length_filter_le _ _) (by rw [List.length_range]; omega)), fun b z hb => ?_, ?_⟩
        · rw [upd_ne (ne_of_none hb hD)]
          exact (e2.trans e3) _ _ hb
        · rw [upd_same, range_filter, if_pos t, ints_snoc]
      refine ⟨rfl, _, rfl, _, rfl, O, _, rfl, .inl (.inl (.inl (e2 _ _ ho))), rfl, flat_ints own, _, rfl, ?_⟩
      rw [show inV (.int (i : Nat)) (ints_ own) = decide (i ∈ own) from inV_ints i own]
      refine iteB (fun t => ?_) (fun t => ?_)
      · have t : decide (i ∈ own) = true := t
        exact ⟨_, rfl, take H2 (Same.refl H2) (by rw [t]; rfl)⟩
      · have t : decide (i ∈ own) = false := t
        refine ⟨_, rfl, _, rfl, R, _, _, _, rfl, rfl, .inl (.inl (e2 _ _ ht)), atI_nat (wds_at rl hi), by show 2 ≤ sizeLine; decide, fun p np => ?_⟩
        have e3 := al (o := .tup [.str "awake", .str "needed"]) np
        refine ⟨p, _, rfl, .inr (.inl (.inl upd_same)), rfl, rfl, _, rfl, ?_⟩
        rw [wd_right]
        refine iteB (fun t2 => ?_) (fun t2 => ?_)
        · have t2 : rightV (row.getD i 0) = true := t2
          exact ⟨_, rfl, take _ e3 (by rw [t2, Bool.or_true])⟩
        · have t2 : rightV (row.getD i 0) = false := t2
          refine ⟨e2.trans e3, ?_⟩
          rw [range_filter, if_neg (by rw [t, t2]; decide), List.append_nil]
          exact e3 _ _ hD2
    · obtain ⟨e2, hD2⟩ := pv
      exact q _ D e2 hD hD2
end
end K7
end
/-! ## EX -/
section
namespace K7E
open PySem PySem.Spec PyProof.Rows L2
/-! a call under try: what it lets out is asked for where it stands -/
section
variable {X : Cx} {W : WX} {k : Nat} {f C : Addr} {fd : FuncData} {ps : List Str} {sp : Sp} {dvs : List V} {ds : List Value} {x m : Str} {p pos apos : Pos} {e o : Expr} {es : List Expr} {ta : TE} {t : TA}
theorem run_fnW {pins : List (Addr × Obj)} {σ : L2.St} {H : Hp} {s : Shared} {Q : VK} {us : List Value} {vs : List V} (F : FnOk X.prog X.w X.K X.mg X.base (L2.CX X.prog X.w) k f fd ps sp) (hr : Room k X.A) (hb : Binds X.K fd ps ds) (hd : Vals dvs ds) (tk : Takes X W)
    (I : Inv X pins σ H s) (r : Vals vs us) (h : sp (vs ++ dvs) H Q (fun cls d H' => W cls d σ H')) : wpAny (model X.prog X.w) X.A (call (.ref f) us) (EP X pins σ Q) X.xe s := by
  have r2 : Vals (vs ++ dvs) (us ++ ds) := r.append hd
  have hl : (us ++ ds).length = ps.length := by rw [← r2.length]; exact F.len _ _ _ _ h
  refine wpAny_call (codeAny_mono (F.run X.A X.stack s H ⟨us, []⟩ (us ++ ds) (vs ++ dvs) Q _ hr I.env0 (hb s us I.kIn hl) r2 h) fun r s' hq => ?_)
  cases r with
  | error e => exact tk e s' (XE.of_call (E := fun cls d H' => W cls d σ H') I (fun cls d H' h => h) hq)
  | ok fl =>
    cases fl with
    | ret u => exact I.after hq
    | next => exact False.elim hq
    | brk => exact False.elim hq
    | cont => exact False.elim hq
theorem pe_callW (F : FnOk X.prog X.w X.K X.mg X.base (L2.CX X.prog X.w) k f fd ps sp) (hr : Room k X.A) (hg : Gl X x) (hm : X.mg x = some (.ref f)) (hk : PySem.W.keepIn X.K (.ref f) = true) (hb : Binds X.K fd ps ds) (hd : Vals dvs ds) (tk : Takes X W)
    (ha : PA X (e :: es) t) (hdb : (x == ("__debug__" : Str)) = false := by decide) (he : starEach (e :: es) X.env = (false, eval e X.env) :: starEach es X.env := by rfl) (hpl : (backTo pos (starEach es X.env)).any (·.1) = false := by rfl) :
    PE X (.Call (.Name x p) (e :: es) [] pos) (fun σ H Q => t σ H fun vs H1 => sp (vs ++ dvs) H1 Q (fun cls d H' => W cls d σ H')) := by
  refine ⟨fun pins s σ H Q I h => ?_⟩
  refine wpAny_Call_Name_kw (ld_glob I hg hm ?_ hdb)
  refine PySem.W.callWith_K (h₀ := X.base) I.ok.mod.kin hk (thn (ha.run pos pins s σ H _ I h) fun us s1 ⟨vs, H1, I1, r, q⟩ => ⟨I1.kIn, ?_⟩) he hpl
  exact run_fnW F hr hb hd tk I1 r q
theorem pe_methW {pl : Sem Bool} (he : PE X o ta) (c : Cls X.K C) (hm : Meth X.K C m f) (F : FnOk X.prog X.w X.K X.mg X.base (L2.CX X.prog X.w) k f fd ps sp) (hr : Room k X.A) (hb : Binds X.K fd ps ds) (hd : Vals dvs ds) (tk : Takes X W) (ha : PA X (e :: es) t)
    (hst : starEach (e :: es) X.env = (false, eval e X.env) :: starEach es X.env := by rfl) (hpl : (backTo pos (starEach es X.env)).any (·.1) = false := by rfl)
    (ht : eval (.Call (.Attribute o m apos) (e :: es) [] pos) X.env = (do
      let ov ← eval o X.env
      standAt apos.atName
      let (f, first) ← holding [ov] (getMethod ov m pl)
      callWith pos f first (backTo pos (starEach (e :: es) X.env)) (backToKw pos (keywordEach [] X.env))) := by rfl) :
    PE X (.Call (.Attribute o m apos) (e :: es) [] pos) (fun σ H Q => ta σ H fun x H1 => ∃ a dx fs, x = .ref a ∧ H1 a = some (.ins C dx fs) ∧ fs.lookup m = none ∧
      t σ H1 fun vs H2 => sp (x :: (vs ++ dvs)) H2 Q (fun cls d H' => W cls d σ H')) := by
  refine ⟨fun pins s σ H Q I h => ?_⟩
  refine PySem.W.methodCall_KW (pl := pl) (thn (he.run pins s σ H _ I h) fun u s1 ⟨x, H1, I1, rx, a, dx, fs, ex, ea, l, q⟩ => ?_) ht
  subst ex
  obtain rfl : u = Value.ref a := rx
  refine getmeth_ok I1 ea c hm l ?_
  refine PySem.W.callWith_K (first := [.ref a]) (h₀ := X.base) I.ok.mod.kin hm.kp (thn (ha.run pos pins s1 σ H1 _ I1 q) fun us s2 ⟨vs, H2, I2, r, q2⟩ => ⟨I2.kIn, ?_⟩) hst hpl
  exact run_fnW (us := .ref a :: us) (vs := .ref a :: vs) F hr hb hd tk I2 (.cons rfl r) q2
end
/-! ### isinstance(e, c), e the exception that the suite holds, with fields of its own -/
section
variable {X : Cx}
theorem call_isEd {a D d : Addr} {oe : Obj} {pn : List (Addr × Obj)} (C : ExcC X.K D) (hz : Zc (.ref D) (some d) oe) (hf : ∃ vs, oe.data = .fields vs) : CallR (X.suite a ((a, oe) :: pn)) (.builtin "isinstance") (fun xs H Q => ∃ (c : V) (cv : Value) (b : Bool) (fs : List (Str × V)), xs = [.ref a, c] ∧ (∀ u, RelV c u → u = cv) ∧ PySem.W.kitOne X.K (.ref D) cv = some b ∧ H d = some (.xd fs) ∧ Q (.bl b) H) := by
  intro pins s σ H xs us Q I r h
  obtain ⟨c, cv, b, fs, rfl, hcv, e, hd, q⟩ := h
  cases r with
  | cons rx rr =>
    cases rr with
    | cons rt rr =>
      cases rr
      cases rx
      have ec := hcv _ rt
      subst ec
      obtain ⟨hget, _⟩ := I.pin (a, oe) (List.mem_append.mpr (.inl List.mem_cons_self))
      obtain ⟨vs, hv⟩ := hf
      have hx : ObjOk X.prog X.w H s.heap d (.xd fs) := I.hok d _ hd
      obtain ⟨mA, hns, hrr⟩ := hx
      obtain ⟨od, ho, hl⟩ := lookIn_ns hns
      have J : PySem.W.InstAt s.heap a oe D (some od) := ⟨hget, hz.1, by unfold PySem.W.notCls; rw [hv] <;> rfl, by rw [hz.2]; exact ho⟩
      obtain ⟨cd, hcc, _⟩ := PySem.W.any_some C.hd
      exact PySem.W.kia_one (PySem.W.kitx_exc (gt := none) (by rw [hcc]; rfl) C.hg C.hk C.hs C.ha C.hn C.ht C.hm) I.kIn J e (fun z => nomatch z) fun tk => ⟨.bl b, H, I.kept (t' := tk) fun _ _ z => z, rfl, q⟩
end
theorem call_isEdX {X : Cx} {a D : Addr} {cls : Value} {d : Option Addr} {oe : Obj} {pn : List (Addr × Obj)} (C : ExcC X.K D) (hz : Zc cls d oe) (hf : ∃ vs, oe.data = .fields vs) : CallR (X.suite a ((a, oe) :: pn)) (.builtin "isinstance") (fun xs H Q => cls = .ref D ∧ ∃ dd, d = some dd ∧ ∃ (c : V) (cv : Value) (b : Bool) (fs : List (Str × V)), xs = [.ref a, c] ∧ (∀ u, RelV c u → u = cv) ∧ PySem.W.kitOne X.K (.ref D) cv = some b ∧ H dd = some (.xd fs) ∧ Q (.bl b) H) := by
  intro pins s σ H xs us Q I r h
  obtain ⟨rfl, dd, rfl, h⟩ := h
  exact call_isEd C hz hf pins s σ H xs us Q I r h
/-! repr of a plain thing -/
def reprV : V → Str
  | .non => "None"
  | .bl b => if b then "True" else "False"
  | .int i => toString i
  | .str z => reprText z
  | _ => ""
def reprOk : V → Prop
  | .non => True
  | .bl b => True
  | .int i => i.natAbs.log2 < 1920
  | .str z => (reprText z).length ≤ sizeLine
  | _ => False
theorem call_reprF {X : Cx} : CallR X (.builtin "repr") (fun xs H Q => ∃ v, xs = [v] ∧ reprOk v ∧ Q (.str (reprV v)) H) := by
  intro pins s σ H xs us Q I r h
  obtain ⟨v, rfl, hz, q⟩ := h
  obtain ⟨u, rfl, ru⟩ := r.one
  cases v with
  | non => cases ru; exact PySem.P.repr_of_none ⟨.str _, H, I.tok _, ⟨_, rfl⟩, q⟩
  | bl b => cases ru; exact PySem.P.repr_of_bool ⟨.str _, H, I.tok _, ⟨_, rfl⟩, q⟩
  | int i => obtain ⟨t, rfl⟩ := ru; exact PySem.P.repr_of_int hz ⟨.str _, H, I.tok _, ⟨_, rfl⟩, q⟩
  | str z => obtain ⟨t, rfl⟩ := ru; exact PySem.P.repr_of_str ⟨.str _, H, I.tok _, ⟨_, rfl⟩, q⟩ hz
  | _ => exact hz.elim
end K7E
end
/-! ## EW -/
section
namespace K7E
open PySem PySem.Spec PyProof.Rows L2
/-! a class that is called under try -/
section
variable {X : Cx} {W : WX} {k : Nat} {f C : Addr} {fd : FuncData} {ps : List Str} {sp : Sp} {dvs : List V} {ds : List Value} {x m : Str} {p pos apos : Pos} {e o : Expr} {es : List Expr} {ta : TE} {t : TA}
theorem run_makeW {pins : List (Addr × Obj)} {σ : L2.St} {H : Hp} {s : Shared} {Q : VK} {us : List Value} {vs : List V} (M : Mk X.K C f) (F : FnOk X.prog X.w X.K X.mg X.base (L2.CX X.prog X.w) k f fd ps sp) (hr : Room (k + 1) X.A) (hb : Binds X.K fd ps ds) (hd : Vals dvs ds)
    (tk : Takes X W) (I : Inv X pins σ H s) (r : Vals vs us)
    (h : ∀ x dx, H x = none → H dx = none → dx ≠ x → sp (.ref x :: (vs ++ dvs)) (upd (upd H dx (.own x)) x (.ins C dx [])) (fun v H2 => v = .non ∧ Q (.ref x) H2) (fun cls d H' => W cls d σ H')) :
    wpAny (model X.prog X.w) X.A (call (.ref C) us) (EP X pins σ Q) X.xe s := by
  have hq := h (s.heap.objs.size + 1) s.heap.objs.size (I.hok.fresh (Nat.le_succ _)) (I.hok.fresh (Nat.le_refl _)) (Nat.ne_of_lt (Nat.lt_succ_self _))
  have I2 := Inv.made (C := C) I
  have r2 : Vals (V.ref (s.heap.objs.size + 1) :: (vs ++ dvs)) (Value.ref (s.heap.objs.size + 1) :: (us ++ ds)) := .cons rfl (r.append hd)
  have hl : (Value.ref (s.heap.objs.size + 1) :: us ++ ds).length = ps.length := by
    have e := r2.length
    rw [F.len _ _ _ _ hq] at e
    exact e.symm
  refine wpAny_call (make_map (f := f) I.kIn M.makes M.init (beq_iff_eq.mp M.fn) (codeAny_mono (F.run _ X.stack _ _ ⟨Value.ref (s.heap.objs.size + 1) :: us, []⟩ (Value.ref (s.heap.objs.size + 1) :: (us ++ ds)) _ _ _ (hr.make C us [])
    (I2.env0.make C us []) (hb _ (Value.ref (s.heap.objs.size + 1) :: us) I2.kIn hl) r2 hq) fun r s' hq' => ?_))
  cases r with
  | error e => exact tk e s' (XE.of_call (E := fun cls d H' => W cls d σ H') I2 (fun cls d H' h => h) hq')
  | ok fl =>
    cases fl with
    | ret u =>
      obtain ⟨v, H', I3, rv, ev, q3⟩ := I2.after hq'
      subst ev
      exact ⟨rv, ⟨V.ref (s.heap.objs.size + 1), H', I3, rfl, q3⟩⟩
    | next => exact False.elim hq'
    | brk => exact False.elim hq'
    | cont => exact False.elim hq'
theorem pe_makeW (M : Mk X.K C f) (F : FnOk X.prog X.w X.K X.mg X.base (L2.CX X.prog X.w) k f fd ps sp) (hr : Room (k + 1) X.A) (hg : Gl X x) (hm : X.mg x = some (.ref C)) (hb : Binds X.K fd ps ds) (hd : Vals dvs ds) (tk : Takes X W)
    (ha : PA X (e :: es) t) (hdb : (x == ("__debug__" : Str)) = false := by decide) (he : starEach (e :: es) X.env = (false, eval e X.env) :: starEach es X.env := by rfl) (hpl : (backTo pos (starEach es X.env)).any (·.1) = false := by rfl) :
    PE X (.Call (.Name x p) (e :: es) [] pos) (fun σ H Q => t σ H fun vs H1 => ∀ x dx, H1 x = none → H1 dx = none → dx ≠ x → sp (.ref x :: (vs ++ dvs)) (upd (upd H1 dx (.own x)) x (.ins C dx [])) (fun v H2 => v = .non ∧ Q (.ref x) H2) (fun cls d H' => W cls d σ H')) := by
  refine ⟨fun pins s σ H Q I h => ?_⟩
  refine wpAny_Call_Name_kw (ld_glob I hg hm ?_ hdb)
  refine PySem.W.callWith_K (h₀ := X.base) I.ok.mod.kin M.kp (thn (ha.run pos pins s σ H _ I h) fun us s1 ⟨vs, H1, I1, r, q⟩ => ⟨I1.kIn, ?_⟩) he hpl
  exact run_makeW M F hr hb hd tk I1 r q
end
/-! isinstance(e, (A, B)), e the exception that the suite holds -/
theorem call_isEdT {X : Cx} {a D : Addr} {cls : Value} {d : Option Addr} {oe : Obj} {pn : List (Addr × Obj)} (C : ExcC X.K D) (hz : Zc cls d oe) (hf : ∃ vs, oe.data = .fields vs) : CallR (X.suite a ((a, oe) :: pn)) (.builtin "isinstance") (fun xs H Q => cls = .ref D ∧ ∃ dd, d = some dd ∧ ∃ (tp : Addr) (cs : List V) (ws : List Value) (b : Bool) (fs : List (Str × V)), xs = [.ref a, .ref tp] ∧ H tp = some (.tup cs) ∧ Paired ClsV cs ws ∧ PySem.W.kitAny X.K (.ref D) ws = some b ∧ H dd = some (.xd fs) ∧ Q (.bl b) H) := by
  intro pins s σ H xs us Q I r h
  obtain ⟨rfl, dd, rfl, tp, cs, ws, b, fs, rfl, hT, k, e, hd, q⟩ := h
  obtain ⟨u1, u2, rfl, r1, r2⟩ := vals2 r
  cases r1
  cases (show u2 = Value.ref tp from r2)
  obtain ⟨_, its, rv, o, h1, h2, n, h3⟩ := (show ObjOk X.prog X.w H s.heap tp (.tup cs) from I.hok tp _ hT)
  have e3 := ClsV.all k rv
  subst e3
  obtain ⟨oc, od, dt, sl⟩ := o
  simp only at h2 h3
  subst h2 h3
  obtain ⟨hget, _⟩ := I.pin (a, oe) (List.mem_append.mpr (.inl List.mem_cons_self))
  obtain ⟨vs, hv⟩ := hf
  have hx : ObjOk X.prog X.w H s.heap dd (.xd fs) := I.hok dd _ hd
  obtain ⟨mA, hns, hrr⟩ := hx
  obtain ⟨od', ho, hl⟩ := lookIn_ns hns
  have J : PySem.W.InstAt s.heap a oe D (some od') := ⟨hget, hz.1, by unfold PySem.W.notCls; rw [hv] <;> rfl, by rw [hz.2]; exact ho⟩
  obtain ⟨cd, hcc, _⟩ := PySem.W.any_some C.hd
  exact PySem.W.kia_tup (PySem.W.kitx_exc (gt := none) (by rw [hcc]; rfl) C.hg C.hk C.hs C.ha C.hn C.ht C.hm) I.kIn J h1 e (fun z => nomatch z) fun tk => ⟨.bl b, H, I.kept (t' := tk) fun _ _ z => z, rfl, q⟩
end K7E
end
/-! ## P25 -/
section
open PySem PySem.Spec PyProof.Rows L2
namespace K7
abbrev N__law_twin_word : List Str := ["_law_one", "_law_other", "_law_told", "e"]
abbrev s__law_twin_word : Stmt := topS 55
theorem sc__law_twin_word : FnScope ["_law_one", "_law_other", "_law_told", "e"] ["_law_one", "_law_other"] (defScope s__law_twin_word) := ⟨rfl, rfl, rfl, by decide +kernel, rfl, by decide +kernel, by decide +kernel⟩
abbrev N__law_refused : List Str := ["_law_one", "_law_other", "_law_what", "_law_due"]
abbrev s__law_refused : Stmt := topS 56
theorem sc__law_refused : FnScope ["_law_one", "_law_other", "_law_what", "_law_due"] ["_law_one", "_law_other", "_law_what"] (defScope s__law_refused) := ⟨rfl, rfl, rfl, by decide +kernel, rfl, by decide +kernel, by decide +kernel⟩
abbrev N__law_measure_refused : List Str := ["_law_twin", "_law_odd", "_law_told", "e"]
abbrev s__law_measure_refused : Stmt := topS 57
theorem sc__law_measure_refused : FnScope ["_law_twin", "_law_odd", "_law_told", "e"] ["_law_twin", "_law_odd"] (defScope s__law_measure_refused) := ⟨rfl, rfl, rfl, by decide +kernel, rfl, by decide +kernel, by decide +kernel⟩
abbrev N__law_start_refused : List Str := ["_law_land_here", "_law_odd", "_law_told", "e"]
abbrev s__law_start_refused : Stmt := topS 58
theorem sc__law_start_refused : FnScope ["_law_land_here", "_law_odd", "_law_told", "e"] ["_law_land_here", "_law_odd"] (defScope s__law_start_refused) := ⟨rfl, rfl, rfl, by decide +kernel, rfl, by decide +kernel, by decide +kernel⟩
/-! ### what is refused -/
structure Te (K : PySem.W.Frag) (mg : Str → Option Value) (B BT BM L : Addr) : Prop where
  gL : mg "LandError" = some (.ref L)
  exB : ExcC K B
  exT : ExcC K BT
  exM : ExcC K BM
  xfB : XfC K B
  xfT : XfC K BT
  xfM : XfC K BM
  mB : PySem.W.exmOne K (.ref B) (.ref B) = some true
  mT : PySem.W.exmOne K (.ref BT) (.ref BT) = some true
  mM : PySem.W.exmOne K (.ref BM) (.ref BM) = some true
  kBL : PySem.W.kitOne K (.ref B) (.ref L) = some true
  kTL : PySem.W.kitOne K (.ref BT) (.ref L) = some true
  kTa : PySem.W.kitAny K (.ref BT) [.ref BM, .ref B] = some false
  kMV : PySem.W.kitOne K (.ref BM) (.type "ValueError") = some true
  kMT : PySem.W.kitOne K (.ref BM) (.ref BT) = some false
/-- two things that are no twin view, and what is wrong -/
def TwBad (K : PySem.W.Frag) (C VC : Addr) (H : Hp) (y z : V) (wt : Str) : Prop :=
  (∃ (p q l l' : Addr) (n : Nat) (es : List (Nat × Nat)) (rd : List Nat) (c : Nat) (own r1 : List Nat) (n' : Nat) (es' : List (Nat × Nat)) (rd' : List Nat) (c' : Nat) (own' r2 : List Nat), y = .ref p ∧ z = .ref q ∧ VwO C VC H p l n es rd c own r1 ∧ VwO C VC H q l' n' es' rd' c' own' r2 ∧
      ((¬ (n = n' ∧ es = es' ∧ rd = rd') ∧ wt = "land") ∨ ((n = n' ∧ es = es' ∧ rd = rd') ∧ c ≠ c' ∧ wt = "cell") ∨ ((n = n' ∧ es = es' ∧ rd = rd') ∧ c = c' ∧ own ≠ own' ∧ wt = "own"))) ∨
   (NonC K H VC y ∧ wt = "views") ∨
   (∃ (p l : Addr) (n : Nat) (es : List (Nat × Nat)) (rd : List Nat) (c : Nat) (own r1 : List Nat), y = .ref p ∧ VwO C VC H p l n es rd c own r1 ∧ NonC K H VC z ∧ wt = "views")
theorem TwBad.same {K : PySem.W.Frag} {C VC : Addr} {H H' : Hp} {y z : V} {wt : Str} (h : TwBad K C VC H y z wt) (e : Same H H') : TwBad K C VC H' y z wt := by
  rcases h with ⟨p, q, l, l', n, es, rd, c, own, r1, n', es', rd', c', own', r2, h1, h2, h3, h4, h5⟩ | ⟨h1, h2⟩ | ⟨p, l, n, es, rd, c, own, r1, h1, h2, h3, h4⟩
  · exact .inl ⟨p, q, l, l', n, es, rd, c, own, r1, n', es', rd', c', own', r2, h1, h2, h3.same e, h4.same e, h5⟩
  · exact .inr (.inl ⟨h1.same e, h2⟩)
  · exact .inr (.inr ⟨p, l, n, es, rd, c, own, r1, h1, h2.same e, h3.same e, h4⟩)
/-- a thing of plain data -/
def DatD (K : PySem.W.Frag) (H : Hp) (y : V) : Prop := ∃ d, SeqAt.shaped d = true ∧ PyData.canLay0 d = true ∧ ∀ H', Same H H' → Dp K H' y d
theorem DatD.same {K : PySem.W.Frag} {H H' : Hp} {y : V} (h : DatD K H y) (e : Same H H') : DatD K H' y := by
  obtain ⟨d, h1, h2, h3⟩ := h
  exact ⟨d, h1, h2, fun H'' e' => h3 H'' (e.trans e')⟩
section
variable {P : Program} {w : World} {K : PySem.W.Frag} {mg : Str → Option Value} {base : Heap} {a : AdL} {VC TC fE fQ fQT BT iT BM iM aMS L : Addr}
def spTwW (K : PySem.W.Frag) (a : AdL) (VC : Addr) : Sp := fun vs H Q _ => ∃ (y z : V) (wt : Str), vs = [y, z] ∧ TwBad K a.C VC H y z wt ∧ ∀ H' t, Same H H' → H t = none → H' t = some (.tup [.str wt, .bl true, .bl false]) → Q (.ref t) H'
theorem ok_tww (T : Tl K mg a) (T3 : Te K mg a.B BT BM L) (TT : Tt K mg TC fQT) (TB : Er K mg "BadTwin" "what" BT iT) (TM : Er K mg "BadMeasure" "measure" BM iM) {f fI : Addr} {fd fdI : FuncData} (F : Fun K "_law_twin_word" "_law_twin_word" s__law_twin_word f fd)
    (MT : Mk K TC fI) (GT : FnOk P w K mg base (L2.CX P w) 3 fI fdI ["self", "one", "other"] (spTwI K a VC TC BT)) (bT : Binds K fdI ["self", "one", "other"] [])
    (m_isinstance : mg "isinstance" = none) : FnOk P w K mg base CX0 7 f fd ["_law_one", "_law_other"] (spTwW K a VC) := by
  refine F.ok sc__law_twin_word (fun vs H Q E h => ?_) (fun cdv A outer s H vs Q E hr h => ?_)
  · obtain ⟨y, z, wt, rfl, _⟩ := h
    rfl
  · obtain ⟨y, z, wt, rfl, bad, q⟩ := h
    refine ⟨_, (pss_cons (ps_set (i := 2) sc__law_twin_word.nd rfl (by first | exact Or.inl rfl | exact Or.inr rfl) pe_str)
 (pss_cons (ps_try_as (i := 3) rfl rfl sc__law_twin_word.nd rfl rfl ⟨rfl, by decide, .inl TB.g⟩ takes0 (fun W pn xe tk _ => (pss_one (ps_expr (K7E.pe_makeW MT GT (hr.mono (by decide)) (by rfl) TT.g bT .nil tk (pa_cons (pv 0) (pa_cons (pv 1) pa_nil)))))) (fun b oe cls d pn hz hf => (pss_one (ps_set (i := 2) sc__law_twin_word.nd rfl (by first | exact Or.inl rfl | exact Or.inr rfl) (pe_tup (pa_cons (pe_xf T3.xfT TB.no hz hf (pv 3)) (pa_cons (pe_callB (K7E.call_isEdX T3.exT hz hf) (by rfl) m_isinstance boot_isinstance (pa_cons (pv 3) (pa_cons (pe_glob (v := .ref _) (by rfl) T3.gL rfl) pa_nil))) (pa_cons (pe_callB (K7E.call_isEdT T3.exT hz hf) (by rfl) m_isinstance boot_isinstance (pa_cons (pv 3) (pa_cons (pe_tup (pa_cons (pe_glob (v := .ref _) (by rfl) TM.g rfl) (pa_cons (pe_glob (v := .ref _) (by rfl) T.gB rfl) pa_nil))) pa_nil))) pa_nil))))))))
 (pss_one (ps_ret (pv 2))))), ?_⟩
    refine ⟨_, rfl, _, rfl, fun x dx hx hdx hne => ?_⟩
    have e : Same H (upd (upd H dx (.own x)) x (.ins TC dx [])) := same_new (same_new (Same.refl H) hdx) (by rw [upd_ne hne.symm]; exact hx)
    refine ⟨x, dx, y, z, rfl, upd_same, ?_⟩
    rcases bad with ⟨p, q', l, l', n, es, rd, c, own, r1, n', es', rd', c', own', r2, rfl, rfl, W, W', ⟨hn, rfl⟩ | ⟨hs, hc, rfl⟩ | ⟨hs, hc, ho, rfl⟩⟩ | ⟨hN, rfl⟩ | ⟨p, l, n, es, rd, c, own, r1, rfl, W, hN, rfl⟩
    · obtain ⟨dp, _, _, _, _, _, _, p1, _⟩ := W.at_
      obtain ⟨dq, _, _, _, _, _, _, q1, _⟩ := W'.at_
      obtain ⟨dl, _, _, _, _, _, _, _, m1, _⟩ := W.ld.at_
      obtain ⟨dl', _, _, _, _, _, _, _, m1', _⟩ := W'.ld.at_
      refine .inl ⟨p, q', l, l', n, es, rd, c, own, r1, n', es', rd', c', own', r2, rfl, rfl, W.same e, W'.same e, ne_of_none p1 hx, ne_of_none q1 hx, ne_of_none m1 hx, ne_of_none m1' hx, .inr (.inl ⟨hn, fun H' d e2 nd hd => ?_⟩)⟩
      refine ⟨true, T3.mT, fun _ b hb' => ?_, fun z => nomatch z⟩
      refine ⟨_, rfl, rfl, rfl, d, _, _, rfl, hd, rfl, _, rfl, rfl, d, rfl, .ref L, .ref L, true, _, rfl, fun u h => h, T3.kTL, hd, _, rfl, by show 2 ≤ sizeLine; decide, fun tp ntp => ?_⟩
      refine ⟨rfl, d, rfl, tp, [.ref BM, .ref a.B], [.ref BM, .ref a.B], false, _, rfl, upd_same, .cons (.own _) (.cons (.own _) .nil), T3.kTa, (al ntp) _ _ hd, by show 3 ≤ sizeLine; decide, fun t nt => ?_⟩
      have e3 := (e.trans e2).trans (al (o := .tup [.ref BM, .ref a.B]) ntp)
      exact ⟨_, rfl, q _ t (e3.trans (al nt)) (e3.free nt) upd_same⟩
    · obtain ⟨dp, _, _, _, _, _, _, p1, _⟩ := W.at_
      obtain ⟨dq, _, _, _, _, _, _, q1, _⟩ := W'.at_
      obtain ⟨dl, _, _, _, _, _, _, _, m1, _⟩ := W.ld.at_
      obtain ⟨dl', _, _, _, _, _, _, _, m1', _⟩ := W'.ld.at_
      refine .inl ⟨p, q', l, l', n, es, rd, c, own, r1, n', es', rd', c', own', r2, rfl, rfl, W.same e, W'.same e, ne_of_none p1 hx, ne_of_none q1 hx, ne_of_none m1 hx, ne_of_none m1' hx, .inr (.inr (.inl ⟨hs, hc, fun H' d e2 nd hd => ?_⟩))⟩
      refine ⟨true, T3.mT, fun _ b hb' => ?_, fun z => nomatch z⟩
      refine ⟨_, rfl, rfl, rfl, d, _, _, rfl, hd, rfl, _, rfl, rfl, d, rfl, .ref L, .ref L, true, _, rfl, fun u h => h, T3.kTL, hd, _, rfl, by show 2 ≤ sizeLine; decide, fun tp ntp => ?_⟩
      refine ⟨rfl, d, rfl, tp, [.ref BM, .ref a.B], [.ref BM, .ref a.B], false, _, rfl, upd_same, .cons (.own _) (.cons (.own _) .nil), T3.kTa, (al ntp) _ _ hd, by show 3 ≤ sizeLine; decide, fun t nt => ?_⟩
      have e3 := (e.trans e2).trans (al (o := .tup [.ref BM, .ref a.B]) ntp)
      exact ⟨_, rfl, q _ t (e3.trans (al nt)) (e3.free nt) upd_same⟩
    · obtain ⟨dp, _, _, _, _, _, _, p1, _⟩ := W.at_
      obtain ⟨dq, _, _, _, _, _, _, q1, _⟩ := W'.at_
      obtain ⟨dl, _, _, _, _, _, _, _, m1, _⟩ := W.ld.at_
      obtain ⟨dl', _, _, _, _, _, _, _, m1', _⟩ := W'.ld.at_
      refine .inl ⟨p, q', l, l', n, es, rd, c, own, r1, n', es', rd', c', own', r2, rfl, rfl, W.same e, W'.same e, ne_of_none p1 hx, ne_of_none q1 hx, ne_of_none m1 hx, ne_of_none m1' hx, .inr (.inr (.inr ⟨hs, hc, ho, fun H' d e2 nd hd => ?_⟩))⟩
      refine ⟨true, T3.mT, fun _ b hb' => ?_, fun z => nomatch z⟩
      refine ⟨_, rfl, rfl, rfl, d, _, _, rfl, hd, rfl, _, rfl, rfl, d, rfl, .ref L, .ref L, true, _, rfl, fun u h => h, T3.kTL, hd, _, rfl, by show 2 ≤ sizeLine; decide, fun tp ntp => ?_⟩
      refine ⟨rfl, d, rfl, tp, [.ref BM, .ref a.B], [.ref BM, .ref a.B], false, _, rfl, upd_same, .cons (.own _) (.cons (.own _) .nil), T3.kTa, (al ntp) _ _ hd, by show 3 ≤ sizeLine; decide, fun t nt => ?_⟩
      have e3 := (e.trans e2).trans (al (o := .tup [.ref BM, .ref a.B]) ntp)
      exact ⟨_, rfl, q _ t (e3.trans (al nt)) (e3.free nt) upd_same⟩
    · refine .inr (.inl ⟨hN.same e, fun H' d e2 nd hd => ?_⟩)
      refine ⟨true, T3.mT, fun _ b hb' => ?_, fun z => nomatch z⟩
      refine ⟨_, rfl, rfl, rfl, d, _, _, rfl, hd, rfl, _, rfl, rfl, d, rfl, .ref L, .ref L, true, _, rfl, fun u h => h, T3.kTL, hd, _, rfl, by show 2 ≤ sizeLine; decide, fun tp ntp => ?_⟩
      refine ⟨rfl, d, rfl, tp, [.ref BM, .ref a.B], [.ref BM, .ref a.B], false, _, rfl, upd_same, .cons (.own _) (.cons (.own _) .nil), T3.kTa, (al ntp) _ _ hd, by show 3 ≤ sizeLine; decide, fun t nt => ?_⟩
      have e3 := (e.trans e2).trans (al (o := .tup [.ref BM, .ref a.B]) ntp)
      exact ⟨_, rfl, q _ t (e3.trans (al nt)) (e3.free nt) upd_same⟩
    · refine .inr (.inr ⟨p, l, n, es, rd, c, own, r1, rfl, W.same e, hN.same e, fun H' d e2 nd hd => ?_⟩)
      refine ⟨true, T3.mT, fun _ b hb' => ?_, fun z => nomatch z⟩
      refine ⟨_, rfl, rfl, rfl, d, _, _, rfl, hd, rfl, _, rfl, rfl, d, rfl, .ref L, .ref L, true, _, rfl, fun u h => h, T3.kTL, hd, _, rfl, by show 2 ≤ sizeLine; decide, fun tp ntp => ?_⟩
      refine ⟨rfl, d, rfl, tp, [.ref BM, .ref a.B], [.ref BM, .ref a.B], false, _, rfl, upd_same, .cons (.own _) (.cons (.own _) .nil), T3.kTa, (al ntp) _ _ hd, by show 3 ≤ sizeLine; decide, fun t nt => ?_⟩
      have e3 := (e.trans e2).trans (al (o := .tup [.ref BM, .ref a.B]) ntp)
      exact ⟨_, rfl, q _ t (e3.trans (al nt)) (e3.free nt) upd_same⟩
def spRfT (K : PySem.W.Frag) (a : AdL) (VC : Addr) : Sp := fun vs H Q _ => ∃ (y z : V) (wt : Str), vs = [y, z, .str wt] ∧ PyData.strOk wt = true ∧ TwBad K a.C VC H y z wt ∧ TwBad K a.C VC H z y wt ∧ ∀ H', Same H H' → Q (.bl true) H'
theorem ok_rft {f ftw : Addr} {fd fdtw : FuncData} (F : Fun K "_law_refused" "_law_refused" s__law_refused f fd)
    (Gtw : FnOk P w K mg base CX0 7 ftw fdtw ["_law_one", "_law_other"] (spTwW K a VC)) (gtw : mg "_law_twin_word" = some (.ref ftw)) (ktw : PySem.W.keepIn K (.ref ftw) = true) (btw : Binds K fdtw ["_law_one", "_law_other"] []) : FnOk P w K mg base CX0 8 f fd ["_law_one", "_law_other", "_law_what"] (spRfT K a VC) := by
  refine F.ok sc__law_refused (fun vs H Q E h => ?_) (fun cdv A outer s H vs Q E hr h => ?_)
  · obtain ⟨y, z, wt, rfl, _⟩ := h
    rfl
  · obtain ⟨y, z, wt, rfl, so, b1, b2, q⟩ := h
    refine ⟨_, (pss_cons (ps_set (i := 3) sc__law_refused.nd rfl (by first | exact Or.inl rfl | exact Or.inr rfl) (pe_tup (pa_cons (pv 2) (pa_cons pe_bl (pa_cons pe_bl pa_nil)))))
 (pss_one (ps_ret (pe_and (pe_cmpR (op_eqD hr.units) (pe_call Gtw (hr.mono (by decide)) (by rfl) gtw ktw btw .nil pass0 (pa_cons (pv 0) (pa_cons (pv 1) pa_nil))) (pv 3) (nomark _)) (pe_one (pe_cmpR (op_eqD hr.units) (pe_call Gtw (hr.mono (by decide)) (by rfl) gtw ktw btw .nil pass0 (pa_cons (pv 1) (pa_cons (pv 0) pa_nil))) (pv 3) (nomark _))))))), ?_⟩
    have cl : PyData.canLay0 (.tuple [.str wt, .bool true, .bool false]) = true := by simp [PyData.canLay0, PyData.canLayAll0, so]
    have sh : SeqAt.shaped (.tuple [.str wt, .bool true, .bool false]) = true := by
      show (PyData.canLay0 (.tuple [.str wt, .bool true, .bool false]) && decide (PyData.depth (.tuple [.str wt, .bool true, .bool false]) ≤ 64)) = true
      rw [cl]
      simp [PyData.depth, PyData.depthAll]
    have dp : ∀ {H' : Hp} {t : Addr}, H' t = some (.tup [.str wt, .bl true, .bl false]) → Dp K H' (.ref t) (.tuple [.str wt, .bool true, .bool false]) := fun h => .tup (.inl (.inl h)) (.cons (.str _) (.cons (.bl _) (.cons (.bl _) .nil)))
    refine ⟨_, rfl, by show 3 ≤ sizeLine; decide, fun D nD => ?_⟩
    have e1 := al (o := .tup [.str wt, .bl true, .bl false]) nD
    have hD : upd H D (.tup [.str wt, .bl true, .bl false]) D = some (.tup [.str wt, .bl true, .bl false]) := upd_same
    generalize upd H D (.tup [.str wt, .bl true, .bl false]) = H1 at e1 hD ⊢
    refine ⟨_, rfl, _, rfl, y, z, wt, rfl, b1.same e1, fun H2 t e2 nt ht => ?_⟩
    refine ⟨_, rfl, _, _, dp ht, dp (e2 _ _ hD), sh, sh, ?_⟩
    rw [PySem.SeqAt.eqv_refl _ cl]
    have e12 := e1.trans e2
    refine ⟨_, rfl, _, rfl, _, rfl, z, y, wt, rfl, b2.same e12, fun H3 t2 e3 nt2 ht2 => ?_⟩
    refine ⟨_, rfl, _, _, dp ht2, dp ((e2.trans e3) _ _ hD), sh, sh, ?_⟩
    rw [PySem.SeqAt.eqv_refl _ cl]
    exact q _ (e12.trans e3)
theorem flags_eq {K : PySem.W.Frag} {H : Hp} {t u : Addr} (bs : List Bool) {X : Bool → Prop} (hl : bs.length ≤ 10) (ht : H t = some (.tup (bs.map V.bl))) (hu : H u = some (.tup (bs.map V.bl))) (q : X true) :
    ∃ d1 d2, Dp K H (.ref t) d1 ∧ Dp K H (.ref u) d2 ∧ SeqAt.shaped d1 = true ∧ SeqAt.shaped d2 = true ∧ X (PyData.eqv d1 d2) := by
  have dp : ∀ bs : List Bool, DpAll K H (bs.map V.bl) (bs.map PyData.bool) := fun bs => by
    induction bs with
    | nil => exact .nil
    | cons b t ih => exact .cons (.bl b) ih
  have la : ∀ bs : List Bool, PyData.canLayAll0 (bs.map PyData.bool) = true := fun bs => by
    induction bs with
    | nil => rfl
    | cons b t ih => simp [PyData.canLayAll0, PyData.canLay0, ih]
  have de : ∀ bs : List Bool, PyData.depthAll (bs.map PyData.bool) ≤ 10 := fun bs => by
    induction bs with
    | nil => simp [PyData.depthAll]
    | cons b t ih => simp [PyData.depthAll, PyData.depth, ih]
  have cl : PyData.canLay0 (.tuple (bs.map PyData.bool)) = true := by simp [PyData.canLay0, la]
  have sh : SeqAt.shaped (.tuple (bs.map PyData.bool)) = true := by
    show (PyData.canLay0 (.tuple (bs.map PyData.bool)) && decide (PyData.depth (.tuple (bs.map PyData.bool)) ≤ 64)) = true
    rw [cl]
    have z := de bs
    rw [Bool.true_and]
    unfold PyData.depth
    exact decide_eq_true (by omega)
  refine ⟨_, _, .tup (.inl (.inl ht)) (dp bs), .tup (.inl (.inl hu)) (dp bs), sh, sh, ?_⟩
  rw [PySem.SeqAt.eqv_refl _ cl]
  exact q
def spMrf (K : PySem.W.Frag) (a : AdL) (VC TC : Addr) : Sp := fun vs H Q _ => ∃ (t p q l l' : Addr) (n : Nat) (es : List (Nat × Nat)) (rd : List Nat) (c : Nat) (own r1 r2 : List Nat) (x : V), vs = [.ref t, x] ∧ TwO a.C VC TC H t p q l l' n es rd c own r1 r2 ∧ InW K H measuresL x false ∧ DatD K H x ∧ ∀ H', Same H H' → Q (.bl true) H'
theorem ok_mrf (T : Tl K mg a) (T3 : Te K mg a.B BT BM L) (TT : Tt K mg TC fQT) (TB : Er K mg "BadTwin" "what" BT iT) (TM : Er K mg "BadMeasure" "measure" BM iM) {f fdi : Addr} {fd fddi : FuncData} (F : Fun K "_law_measure_refused" "_law_measure_refused" s__law_measure_refused f fd)
    (mdi : Meth K TC "differs" fdi) (Gdi : FnOk P w K mg base (L2.CX P w) 4 fdi fddi ["self", "measure"] (spDif K a VC TC BM)) (bdi : Binds K fddi ["self", "measure"] [])
    (m_isinstance : mg "isinstance" = none) (m_ValueError : mg "ValueError" = none) : FnOk P w K mg base CX0 5 f fd ["_law_twin", "_law_odd"] (spMrf K a VC TC) := by
  refine F.ok sc__law_measure_refused (fun vs H Q E h => ?_) (fun cdv A outer s H vs Q E hr h => ?_)
  · obtain ⟨t, p, q, l, l', n, es, rd, c, own, r1, r2, x, rfl, _⟩ := h
    rfl
  · obtain ⟨t, p, q, l, l', n, es, rd, c, own, r1, r2, x, rfl, W, iw, dd, k⟩ := h
    refine ⟨_, (pss_cons (ps_set (i := 2) sc__law_measure_refused.nd rfl (by first | exact Or.inl rfl | exact Or.inr rfl) pe_str)
 (pss_cons (ps_try_as (i := 3) rfl rfl sc__law_measure_refused.nd rfl rfl ⟨rfl, by decide, .inl TM.g⟩ takes0 (fun W pn xe tk _ => (pss_one (ps_expr (K7E.pe_methW (pv 0) TT.cl mdi Gdi (hr.mono (by decide)) bdi .nil tk (pa_cons (pv 1) pa_nil))))) (fun b oe cls d pn hz hf => (pss_one (ps_set (i := 2) sc__law_measure_refused.nd rfl (by first | exact Or.inl rfl | exact Or.inr rfl) (pe_tup (pa_cons (pe_cmpR (show OpR _ _ (rEqD K) from op_eqD hr.units) (pe_xf T3.xfM TM.no hz hf (pv 3)) (pv 1) (nomark _)) (pa_cons (pe_callB (K7E.call_isEdX T3.exM hz hf) (by rfl) m_isinstance boot_isinstance (pa_cons (pv 3) (pa_cons (pe_bltn (v := .ty "ValueError") (by rfl) m_ValueError boot_ValueError rfl) pa_nil))) (pa_cons (pe_callB (K7E.call_isEdX T3.exM hz hf) (by rfl) m_isinstance boot_isinstance (pa_cons (pv 3) (pa_cons (pe_glob (v := .ref _) (by rfl) TB.g rfl) pa_nil))) pa_nil))))))))
 (pss_one (ps_ret (pe_cmpR (op_eqD hr.units) (pv 2) (pe_tup (pa_cons pe_bl (pa_cons pe_bl (pa_cons pe_bl pa_nil)))) (nomark _)))))), ?_⟩
    obtain ⟨dx, to, tn, h1, h2, h3⟩ := W.at_
    obtain ⟨pd, z1, z2, z3⟩ := dd
    refine ⟨_, rfl, t, dx, _, rfl, h1, rfl, _, rfl, t, p, q, l, l', n, es, rd, c, own, r1, r2, x, rfl, W, .inr ⟨iw, fun H' d e2 nd hd => ?_⟩⟩
    refine ⟨true, T3.mM, fun _ b hb' => ?_, fun z => nomatch z⟩
    refine ⟨_, rfl, rfl, rfl, d, _, _, rfl, hd, rfl, _, rfl, pd, pd, z3 _ e2, z3 _ e2, z1, z1, ?_⟩
    rw [PySem.SeqAt.eqv_refl _ z2]
    refine ⟨_, rfl, rfl, d, rfl, .ty "ValueError", .type "ValueError", true, _, rfl, fun u h => h, T3.kMV, hd, ?_⟩
    refine ⟨_, rfl, rfl, d, rfl, .ref BT, .ref BT, false, _, rfl, fun u h => h, T3.kMT, hd, by show 3 ≤ sizeLine; decide, fun t1 nt1 => ?_⟩
    have e3 := al (o := .tup [.bl true, .bl true, .bl false]) nt1
    refine ⟨_, rfl, by show 3 ≤ sizeLine; decide, fun u nu => ?_⟩
    have e4 := al (o := .tup [.bl true, .bl true, .bl false]) nu
    exact flags_eq (X := fun b => Q (.bl b) (upd (upd H' t1 (HO.tup [V.bl true, V.bl true, V.bl false])) u (HO.tup [V.bl true, V.bl true, V.bl false]))) [true, true, false] (by decide) (e4 _ _ upd_same) upd_same (k _ ((e2.trans e3).trans e4))
def spSrf (K : PySem.W.Frag) (a : AdL) : Sp := fun vs H Q _ => ∃ (l : Addr) (n : Nat) (es : List (Nat × Nat)) (rd : List Nat) (y : V), vs = [.ref l, y] ∧ LandO a.C H l n es rd ∧ Thing H y ∧ wholeV y 0 ((n : Nat) - 1) = false ∧ DatD K H y ∧ ∀ H', Same H H' → Q (.bl true) H'
theorem ok_srf (T : Tl K mg a) (T3 : Te K mg a.B BT BM L) {f fts : Addr} {fd fdts : FuncData} (F : Fun K "_law_start_refused" "_law_start_refused" s__law_start_refused f fd)
    (Gts : FnOk P w K mg base (L2.CX P w) 9 fts fdts ["land", "cell"] (spTwS a VC TC)) (gts : mg "twin_start" = some (.ref fts)) (kts : PySem.W.keepIn K (.ref fts) = true) (bts : Binds K fdts ["land", "cell"] [])
    (m_isinstance : mg "isinstance" = none) : FnOk P w K mg base CX0 10 f fd ["_law_land_here", "_law_odd"] (spSrf K a) := by
  refine F.ok sc__law_start_refused (fun vs H Q E h => ?_) (fun cdv A outer s H vs Q E hr h => ?_)
  · obtain ⟨l, n, es, rd, y, rfl, _⟩ := h
    rfl
  · obtain ⟨l, n, es, rd, y, rfl, L0, th, wv, dd, k⟩ := h
    refine ⟨_, (pss_cons (ps_set (i := 2) sc__law_start_refused.nd rfl (by first | exact Or.inl rfl | exact Or.inr rfl) pe_str)
 (pss_cons (ps_try_as (i := 3) rfl rfl sc__law_start_refused.nd rfl rfl ⟨rfl, by decide, .inl T.gB⟩ takes0 (fun W pn xe tk _ => (pss_one (ps_expr (K7E.pe_callW Gts (hr.mono (by decide)) (by rfl) gts kts bts .nil tk (pa_cons (pv 0) (pa_cons (pv 1) pa_nil)))))) (fun b oe cls d pn hz hf => (pss_one (ps_set (i := 2) sc__law_start_refused.nd rfl (by first | exact Or.inl rfl | exact Or.inr rfl) (pe_tup (pa_cons (pe_cmpR (show OpR _ _ (rEqD K) from op_eqD hr.units) (pe_xf T3.xfB T.nB hz hf (pv 3)) (pv 1) (nomark _)) (pa_cons (pe_callB (K7E.call_isEdX T3.exB hz hf) (by rfl) m_isinstance boot_isinstance (pa_cons (pv 3) (pa_cons (pe_glob (v := .ref _) (by rfl) T3.gL rfl) pa_nil))) pa_nil)))))))
 (pss_one (ps_ret (pe_cmpR (op_eqD hr.units) (pv 2) (pe_tup (pa_cons pe_bl (pa_cons pe_bl pa_nil))) (nomark _)))))), ?_⟩
    obtain ⟨pd, z1, z2, z3⟩ := dd
    refine ⟨_, rfl, _, rfl, l, n, es, rd, y, rfl, L0, .inr ⟨th, wv, fun H' d e2 nd hd => ?_⟩⟩
    refine ⟨true, T3.mB, fun _ b hb' => ?_, fun z => nomatch z⟩
    refine ⟨_, rfl, rfl, rfl, d, _, _, rfl, hd, rfl, _, rfl, pd, pd, z3 _ e2, z3 _ e2, z1, z1, ?_⟩
    rw [PySem.SeqAt.eqv_refl _ z2]
    refine ⟨_, rfl, rfl, d, rfl, .ref L, .ref L, true, _, rfl, fun u h => h, T3.kBL, hd, by show 2 ≤ sizeLine; decide, fun t1 nt1 => ?_⟩
    have e3 := al (o := .tup [.bl true, .bl true]) nt1
    refine ⟨_, rfl, by show 2 ≤ sizeLine; decide, fun u nu => ?_⟩
    have e4 := al (o := .tup [.bl true, .bl true]) nu
    exact flags_eq (X := fun b => Q (.bl b) (upd (upd H' t1 (HO.tup [V.bl true, V.bl true])) u (HO.tup [V.bl true, V.bl true]))) [true, true] (by decide) (e4 _ _ upd_same) upd_same (k _ ((e2.trans e3).trans e4))
end
end K7
end
/-! ## P26 -/
section
open PySem PySem.Spec PyProof.Rows L2
namespace K7
abbrev N__law_due_differs : List Str := ["_law_land_here", "_law_owns", "_law_rows_here", "_law_n", "_law_passed_here", "_law_opens"]
abbrev s__law_due_differs : Stmt := topS 59
theorem sc__law_due_differs : FnScope ["_law_land_here", "_law_owns", "_law_rows_here", "_law_n", "_law_passed_here", "_law_opens"] ["_law_land_here", "_law_owns", "_law_rows_here"] (defScope s__law_due_differs) := ⟨rfl, rfl, rfl, by decide +kernel, rfl, by decide +kernel, by decide +kernel⟩
/-! ### what the law owes of the measures -/
theorem flt_iff {l : List Nat} {p q : Nat → Bool} : l.filter p = l.filter q ↔ ∀ x ∈ l, p x = q x := by
  refine ⟨fun e x hx => Bool.eq_iff_iff.mpr ⟨fun h => ?_, fun h => ?_⟩, fun h => List.filter_congr h⟩
  · have z : x ∈ l.filter q := e ▸ List.mem_filter.mpr ⟨hx, h⟩
    exact (List.mem_filter.mp z).2
  · have z : x ∈ l.filter p := e ▸ List.mem_filter.mpr ⟨hx, h⟩
    exact (List.mem_filter.mp z).2
theorem rig_eq (n : Nat) (own row : List Nat) : rigF n own row = (List.range n).filter fun b => rightV (row.getD b 0) && !decide (b ∈ own) := by
  unfold rigF outF
  rw [List.filter_filter]
theorem pas_rig {n : Nat} {own r1 r2 : List Nat} : pasF n own r1 = pasF n own r2 ↔ rigF n own r1 = rigF n own r2 := by
  rw [rig_eq, rig_eq]
  unfold pasF
  rw [flt_iff, flt_iff]
  refine forall_congr' fun x => forall_congr' fun _ => ?_
  cases decide (x ∈ own) <;> cases rightV (r1.getD x 0) <;> cases rightV (r2.getD x 0) <;> simp
theorem mem_pas {n : Nat} {own row : List Nat} (lt : ∀ b ∈ own, b < n) (x : Nat) : x ∈ pasF n own row ↔ x ∈ own ++ rigF n own row := by
  rw [rig_eq]
  unfold pasF
  rw [List.mem_append, List.mem_filter, List.mem_filter, List.mem_range, Bool.or_eq_true, Bool.and_eq_true, decide_eq_true_iff]
  constructor
  · rintro ⟨h1, h2 | h2⟩
    · exact .inl h2
    · by_cases h : x ∈ own
      · exact .inl h
      · exact .inr ⟨h1, h2, by rw [decide_eq_false h]; rfl⟩
  · rintro (h | ⟨h1, h2, _⟩)
    · exact ⟨lt x h, .inl h⟩
    · exact ⟨h1, .inr h2⟩
theorem openV_congr {es : List (Nat × Nat)} {rd ps ps' : List Nat} {c : Nat} (h : ∀ x, x ∈ ps ↔ x ∈ ps') : OpenV es rd ps c ↔ OpenV es rd ps' c :=
  ⟨fun ⟨x, hx, r⟩ => ⟨x, hx, r.mono (fun _ _ e => e) fun b hb => (h b).mp hb⟩, fun ⟨x, hx, r⟩ => ⟨x, hx, r.mono (fun _ _ e => e) fun b hb => (h b).mpr hb⟩⟩
theorem openB_congr {es : List (Nat × Nat)} {rd ps ps' : List Nat} {c : Nat} (h : ∀ x, x ∈ ps ↔ x ∈ ps') : openB es rd ps c = openB es rd ps' c := by
  refine openB_is ?_
  rw [← openV_congr h]
  unfold openB
  exact @decide_eq_true_iff _ (Classical.propDecidable _)
theorem out_perm {n : Nat} {own own' : List Nat} (h : ∀ b, b ∈ own' ↔ b ∈ own) : outF n own' = outF n own := by
  unfold outF
  refine List.filter_congr fun x _ => ?_
  rw [decide_eq_decide.mpr (h x)]
theorem rig_perm {n : Nat} {own own' row : List Nat} (h : ∀ b, b ∈ own' ↔ b ∈ own) : rigF n own' row = rigF n own row := by
  unfold rigF
  rw [out_perm h]
theorem difV_perm {i n : Nat} {es : List (Nat × Nat)} {rd : List Nat} {c : Nat} {own own' r1 r2 : List Nat} (h : ∀ b, b ∈ own' ↔ b ∈ own) : difV i n es rd c own' r1 r2 = difV i n es rd c own r1 r2 := by
  have ap : ∀ r, ∀ x, x ∈ own' ++ rigF n own r ↔ x ∈ own ++ rigF n own r := fun r x => by rw [List.mem_append, List.mem_append, h x]
  unfold difV
  rw [rig_perm h, rig_perm h, openB_congr (ap r1), openB_congr (ap r2)]
def intL (l : List Nat) : PyData := .list (l.map fun c => .int (c : Nat))
theorem shapedL_ints (l : List Nat) : SeqAt.shaped (intL l) = true := shaped_ints l
theorem shapedL_wds (l : List Nat) : SeqAt.shaped (.list ((l.map wd).map PyData.str)) = true := shaped_wds l
theorem eqvL_ints (l m : List Nat) : PyData.eqv (intL l) (intL m) = decide (l = m) := eqv_intD l m
theorem eqvL_wds (l m : List Nat) : PyData.eqv (.list ((l.map wd).map PyData.str)) (.list ((m.map wd).map PyData.str)) = decide (l.map wd = m.map wd) := eqv_strs _ _
theorem dpL_ints {K : PySem.W.Frag} {H : Hp} {D : Addr} {l : List Nat} (h : H D = some (.lst (ints_ l))) : Dp K H (.ref D) (intL l) := .lst (.inl (.inl h)) (dp_ints l)
theorem dpL_wds {K : PySem.W.Frag} {H : Hp} {D : Addr} {l : List Nat} (h : H D = some (.lst (wds l))) : Dp K H (.ref D) (.list ((l.map wd).map PyData.str)) := .lst (.inl (.inl h)) (dp_wds l)
section
variable {P : Program} {w : World} {K : PySem.W.Frag} {mg : Str → Option Value} {base : Heap} {a : AdL} {VC TC fE fQ fQT BT iT BM iM aMS L : Addr}
def spDue : Sp := fun vs H Q _ => ∃ (q W LL O R0 R1 : Addr) (n : Nat) (es : List (Nat × Nat)) (lot : List Nat) (c : Nat) (own r0 r1 : List Nat), vs = [.ref q, .ref W, .ref LL] ∧ LandAt H q n es lot ∧ n ≤ 5 ∧ es.length ≤ 32 ∧ H W = some (.lst [.ref O, .int (c : Nat)]) ∧ H LL = some (.lst [.ref R0, .ref R1]) ∧ H O = some (.lst (ints_ own)) ∧ H R0 = some (.lst (wds r0)) ∧ H R1 = some (.lst (wds r1)) ∧ VwOk n c own r0 ∧ VwOk n c own r1 ∧
  ∀ H' D, Same H H' → H D = none → H' D = some (.lst [.bl (difV 0 n es lot c own r0 r1), .bl (difV 1 n es lot c own r0 r1), .bl (difV 2 n es lot c own r0 r1)]) → Q (.ref D) H'
theorem ok_due {f fps flo : Addr} {fd fdps fdlo : FuncData} (F : Fun K "_law_due_differs" "_law_due_differs" s__law_due_differs f fd)
    (Gps : FnOk P w K mg base CX0 1 fps fdps ["_law_n", "_law_own", "_law_row"] spPsL) (gps : mg "_law_passed" = some (.ref fps)) (kps : PySem.W.keepIn K (.ref fps) = true) (bps : Binds K fdps ["_law_n", "_law_own", "_law_row"] [])
    (Glo : FnOk P w K mg base CX0 2 flo fdlo ["_law_land_here", "_law_cell", "_law_passing"] spLOpen) (glo : mg "_law_open" = some (.ref flo)) (klo : PySem.W.keepIn K (.ref flo) = true) (blo : Binds K fdlo ["_law_land_here", "_law_cell", "_law_passing"] []) : FnOk P w K mg base CX0 3 f fd ["_law_land_here", "_law_owns", "_law_rows_here"] spDue := by
  refine F.ok sc__law_due_differs (fun vs H Q E h => ?_) (fun cdv A outer s H vs Q E hr h => ?_)
  · obtain ⟨q, W, LL, O, R0, R1, n, es, lot, c, own, r0, r1, rfl, _⟩ := h
    rfl
  · obtain ⟨q, W, LL, O, R0, R1, n, es, lot, c, own, r0, r1, rfl, L, n5, e32, hW, hL, hO, h0, h1, v0, v1, k⟩ := h
    refine ⟨_, (pss_cons (ps_set (i := 3) sc__law_due_differs.nd rfl (by first | exact Or.inl rfl | exact Or.inr rfl) (pe_ix ix_tup (pv 0) pe_int (fun _ _ => rfl)))
 (pss_cons (ps_set (i := 4) sc__law_due_differs.nd rfl (by first | exact Or.inl rfl | exact Or.inr rfl) (pe_lst (pa_cons (pe_call Gps (hr.mono (by decide)) (by rfl) gps kps bps .nil pass0 (pa_cons (pv 3) (pa_cons (pe_ix ix_list (pv 1) pe_int (fun _ _ => rfl)) (pa_cons (pe_ix ix_list (pv 2) pe_int (fun _ _ => rfl)) pa_nil)))) (pa_cons (pe_call Gps (hr.mono (by decide)) (by rfl) gps kps bps .nil pass0 (pa_cons (pv 3) (pa_cons (pe_ix ix_list (pv 1) pe_int (fun _ _ => rfl)) (pa_cons (pe_ix ix_list (pv 2) pe_int (fun _ _ => rfl)) pa_nil)))) pa_nil))))
 (pss_cons (ps_set (i := 5) sc__law_due_differs.nd rfl (by first | exact Or.inl rfl | exact Or.inr rfl) (pe_lst (pa_cons (pe_call Glo (hr.mono (by decide)) (by rfl) glo klo blo .nil pass0 (pa_cons (pv 0) (pa_cons (pe_ix ix_list (pv 1) pe_int (fun _ _ => rfl)) (pa_cons (pe_ix ix_list (pv 4) pe_int (fun _ _ => rfl)) pa_nil)))) (pa_cons (pe_call Glo (hr.mono (by decide)) (by rfl) glo klo blo .nil pass0 (pa_cons (pv 0) (pa_cons (pe_ix ix_list (pv 1) pe_int (fun _ _ => rfl)) (pa_cons (pe_ix ix_list (pv 4) pe_int (fun _ _ => rfl)) pa_nil)))) pa_nil))))
 (pss_one (ps_ret (pe_lst (pa_cons (pe_cmpR (op_neD hr.units) (pe_ix ix_list (pv 2) pe_int (fun _ _ => rfl)) (pe_ix ix_list (pv 2) pe_int (fun _ _ => rfl)) (nomark _)) (pa_cons (pe_cmpR (op_neD hr.units) (pe_ix ix_list (pv 4) pe_int (fun _ _ => rfl)) (pe_ix ix_list (pv 4) pe_int (fun _ _ => rfl)) (nomark _)) (pa_cons (pe_cmpR op_ne (pe_ix ix_list (pv 5) pe_int (fun _ _ => rfl)) (pe_ix ix_list (pv 5) pe_int (fun _ _ => rfl)) (nomark _)) pa_nil))))))))), ?_⟩
    obtain ⟨rA, sA, ts, l1, l2, l3, l4⟩ := L.at_
    refine ⟨_, rfl, q, _, _, _, rfl, rfl, .inl (.inl l1), atI_nat (j := 0) rfl, ?_⟩
    -- what is passed
    refine ⟨_, rfl, _, rfl, W, _, _, _, rfl, rfl, .inl (.inl hW), atI_nat (j := 0) rfl, _, rfl, LL, _, _, _, rfl, rfl, .inl (.inl hL), atI_nat (j := 0) rfl, O, R0, n, own, r0, rfl, hO, h0, v0.rl, n5, fun H1 D0 e1 nD0 hD0 => ?_⟩
    refine ⟨_, rfl, _, rfl, W, _, _, _, rfl, rfl, .inl (.inl (e1 _ _ hW)), atI_nat (j := 0) rfl, _, rfl, LL, _, _, _, rfl, rfl, .inl (.inl (e1 _ _ hL)), atI_nat (j := 1) rfl, O, R1, n, own, r1, rfl, e1 _ _ hO, e1 _ _ h1, v1.rl, n5, fun H2 D1 e2 nD1 hD1 => ?_⟩
    refine ⟨by show 2 ≤ sizeLine; decide, fun PP nPP => ?_⟩
    have e3 := al (o := .lst [.ref D0, .ref D1]) nPP
    have hPP : upd H2 PP (.lst [.ref D0, .ref D1]) PP = some (.lst [.ref D0, .ref D1]) := upd_same
    have hD0' := (e2.trans e3) _ _ hD0
    have hD1' := e3 _ _ hD1
    have e13 := (e1.trans e2).trans e3
    generalize upd H2 PP (.lst [.ref D0, .ref D1]) = H3 at e3 hPP hD0' hD1' e13 ⊢
    -- whether it is open
    refine ⟨_, rfl, _, rfl, W, _, _, _, rfl, rfl, .inl (.inl (e13 _ _ hW)), atI_nat (j := 1) rfl, _, rfl, PP, _, _, _, rfl, rfl, .inl (.inl hPP), atI_nat (j := 0) rfl, q, n, es, lot, c, D0, pasF n own r0, rfl, L.same e13, n5, e32, v0.cn, .inr hD0', fun H4 b0 e4 hb0 => ?_⟩
    have e14 := e13.trans e4
    refine ⟨_, rfl, _, rfl, W, _, _, _, rfl, rfl, .inl (.inl (e14 _ _ hW)), atI_nat (j := 1) rfl, _, rfl, PP, _, _, _, rfl, rfl, .inl (.inl (e4 _ _ hPP)), atI_nat (j := 1) rfl, q, n, es, lot, c, D1, pasF n own r1, rfl, L.same e14, n5, e32, v0.cn, .inr (e4 _ _ hD1'), fun H5 b1 e5 hb1 => ?_⟩
    refine ⟨by show 2 ≤ sizeLine; decide, fun OO nOO => ?_⟩
    have e6 := al (o := .lst [.bl b0, .bl b1]) nOO
    have hOO : upd H5 OO (.lst [.bl b0, .bl b1]) OO = some (.lst [.bl b0, .bl b1]) := upd_same
    have e36 := (e4.trans e5).trans e6
    have e16 := e13.trans e36
    generalize upd H5 OO (.lst [.bl b0, .bl b1]) = H6 at e6 hOO e36 e16 ⊢
    have ob0 : b0 = openB es lot (own ++ rigF n own r0) c := (openB_is hb0).trans (openB_congr (mem_pas v0.lt))
    have ob1 : b1 = openB es lot (own ++ rigF n own r1) c := (openB_is hb1).trans (openB_congr (mem_pas v0.lt))
    refine ⟨_, rfl, LL, _, _, _, rfl, rfl, .inl (.inl (e16 _ _ hL)), atI_nat (j := 0) rfl, _, rfl, LL, _, _, _, rfl, rfl, .inl (.inl (e16 _ _ hL)), atI_nat (j := 1) rfl, _, _, dpL_wds (e16 _ _ h0), dpL_wds (e16 _ _ h1), shapedL_wds _, shapedL_wds _, ?_⟩
    rw [eqvL_wds]
    refine ⟨_, rfl, PP, _, _, _, rfl, rfl, .inl (.inl (e36 _ _ hPP)), atI_nat (j := 0) rfl, _, rfl, PP, _, _, _, rfl, rfl, .inl (.inl (e36 _ _ hPP)), atI_nat (j := 1) rfl, _, _, dpL_ints (e36 _ _ hD0'), dpL_ints (e36 _ _ hD1'), shapedL_ints _, shapedL_ints _, ?_⟩
    rw [eqvL_ints]
    refine ⟨_, rfl, OO, _, _, _, rfl, rfl, .inl (.inl hOO), atI_nat (j := 0) rfl, _, rfl, OO, _, _, _, rfl, rfl, .inl (.inl hOO), atI_nat (j := 1) rfl, rfl, ?_⟩
    refine ⟨by show 3 ≤ sizeLine; decide, fun D nD => ?_⟩
    have e7 := al (o := .lst [.bl (!decide (r0.map wd = r1.map wd)), .bl (!decide (pasF n own r0 = pasF n own r1)), .bl (!decide (V.bl b0 = V.bl b1))]) nD
    refine k _ D (e16.trans e7) (e16.free nD) (upd_same.trans ?_)
    have d0 : difV 0 n es lot c own r0 r1 = !decide (r0.map wd = r1.map wd) := rfl
    have d1 : difV 1 n es lot c own r0 r1 = !decide (pasF n own r0 = pasF n own r1) := by
      show (!decide (rigF n own r0 = rigF n own r1)) = _
      rw [decide_eq_decide.mpr (pas_rig (n := n) (own := own) (r1 := r0) (r2 := r1))]
    have d2 : difV 2 n es lot c own r0 r1 = !decide (V.bl b0 = V.bl b1) := by
      show (!decide (openB es lot (own ++ rigF n own r0) c = openB es lot (own ++ rigF n own r1) c)) = _
      rw [ob0, ob1]
      exact congrArg (fun z => !z) (decide_eq_decide.mpr ⟨fun e => by rw [e], fun e => by injection e⟩)
    rw [d0, d1, d2]
end
end K7
end
/-! ## RVT -/
section
/-! t[::-1], t a tuple -/
namespace HT
open PySem PyProof.Rows
open PySem.SeqAt
open PySem.AutoSeq1 (wpAny_loadPart')
open PySem.MeetsSeq PySem.MeetsSeq2 PySem.MeetsSeq3
theorem filterMap_ext {α β : Type} {f g : α → Option β} : ∀ (l : List α), (∀ m ∈ l, f m = g m) → l.filterMap f = l.filterMap g
  | [], _ => rfl
  | m :: l, h => by
    rw [List.filterMap_cons, List.filterMap_cons, h m List.mem_cons_self, filterMap_ext l fun x hx => h x (List.mem_cons_of_mem _ hx)]
theorem adjust_rev (n : Nat) : Builtin.Slice.sliceAdjust none none (-1) (n : Int) = ((n : Int) - 1, -1) := by
  unfold Builtin.Slice.sliceAdjust
  have h1 : ((-1 : Int) < 0) := by omega
  simp only [h1, if_true]
theorem places_rev (n : Nat) : Builtin.Slice.slicePlaces ((n : Int) - 1) (-1) (-1) = n := by
  unfold Builtin.Slice.slicePlaces
  have h1 : ¬ ((-1 : Int) > 0) := by omega
  have e : ((n : Int) - 1 - -1 - 1) / (- -1) = (n : Int) - 1 := by
    rw [show (- -1 : Int) = 1 by decide, Int.ediv_one]
    omega
  simp only [h1, if_false, e]
  split <;> omega
theorem pick_rev (xs : Array Value) : ((List.range xs.size).filterMap fun (m : Nat) => xs[(((xs.size : Int) - 1) + (m : Int) * (-1)).toNat]?).toArray = xs.toList.reverse.toArray := by
  have e : ((List.range xs.size).filterMap fun (m : Nat) => xs[(((xs.size : Int) - 1) + (m : Int) * (-1)).toNat]?) = ((List.range xs.size).map fun k => xs.size - 1 - k).filterMap (xs[·]?) := by
    rw [List.filterMap_map]
    refine filterMap_ext _ fun m hm => ?_
    have hm := List.mem_range.mp hm
    show xs[(((xs.size : Int) - 1) + (m : Int) * (-1)).toNat]? = xs[xs.size - 1 - m]?
    rw [show (((xs.size : Int) - 1) + (m : Int) * (-1)).toNat = xs.size - 1 - m by omega]
  rw [e, PySem.W.krv_range, List.filterMap_reverse, PySem.W.krv_all]
variable {prog : Program} {w : World} {A : Around} {E : Value → Shared → Prop} {s : Shared}
theorem sliceApplied_rev {sl : Addr} {vl vu vs : Value} {n : Nat} {Q : Int × Int × Nat → Shared → Prop} (hs : s.heap.IsSliceOf sl vl vu vs) (pl : IsPart vl none) (pu : IsPart vu none) (ps : IsPart vs (some (-1)))
    (h : Q ((n : Int) - 1, -1, n) s) : wpAny (model prog w) A (Builtin.Slice.sliceApplied (.ref sl) (pure (n : Int))) Q E s := by
  obtain ⟨os, hos, hcs, hds⟩ := id hs
  unfold Builtin.Slice.sliceApplied Builtin.Slice.sliceFields
  refine wpAny_bind (wpAny_bind (wpAny_field hos hds (x := vl) rfl (wpAny_bind (wpAny_field hos hds (x := vu) rfl (wpAny_bind (wpAny_field hos hds (x := vs) rfl (wpAny_pure ?_)))))))
  refine wpAny_bind (slicePart_ ps ?_)
  show wpAny _ _ (if ((-1 : Int) == 0) = true then _ else _) _ _ s
  rw [if_neg (by decide)]
  refine wpAny_bind (slicePart_ pl (wpAny_bind (slicePart_ pu (wpAny_bind (wpAny_pure ?_)))))
  show wpAny _ _ (match Builtin.Slice.sliceAdjust none none (-1) (n : Int) with | (lo, hi) => pure (lo, (-1 : Int), Builtin.Slice.slicePlaces lo hi (-1))) _ _ s
  rw [adjust_rev n]
  show wpAny _ _ (pure ((n : Int) - 1, (-1 : Int), Builtin.Slice.slicePlaces ((n : Int) - 1) (-1) (-1))) _ _ s
  rw [places_rev]
  exact wpAny_pure h
theorem getItem_tuple_rev {t sl : Addr} {items : Array Value} {vl vu vs : Value} {Q : Value → Shared → Prop} (ht : IsTup s.heap t items) (hs : s.heap.IsSliceOf sl vl vu vs) (pl : IsPart vl none) (pu : IsPart vu none) (ps : IsPart vs (some (-1)))
    (h : Q (.ref s.heap.objs.size) { s with heap := s.heap.push { cls := .type "tuple", data := .seq items.toList.reverse.toArray } })
    (hsz : items.size ≤ sizeLine) : wpAny (model prog w) A (getItem (.ref t) (.ref sl)) Q E s := by
  have htake : sizeOk (.seq items.toList.reverse.toArray) := by
    show items.toList.reverse.toArray.size ≤ sizeLine
    rw [List.size_toArray, List.length_reverse, Array.length_toList]
    exact hsz
  obtain ⟨os, hos, hcs, hds⟩ := id hs
  have hTs : s.TypeIs (.ref sl) "slice" := ⟨os, hos, hcs⟩
  unfold getItem
  try with_reducible refine wpAny_holding ?_
  first | refine wpAny_bind (wpAny_pure ?_) | skip
  refine wpAny_bind (wpAny_sequenceKey ht.typeIs (by decide) ?_)
  refine wpAny_bind (wpAny_callSpecial?_slot (name := Str.ofString "__getitem__") ht.typeIs PyProof.Rows.slot_tuple_getitem
    (wpAny_call_entry PyProof.Rows.slot_tuple_getitem ht.typeIs entry_tuple_getitem ?_ (args_tuple_getitem _ _)))
  show wpAny _ _ (Builtin.Tuple.tupleItemsOf (.ref t) >>= _) _ _ s
  refine wpAny_bind (tupleItemsOf_ ht ?_)
  refine wpAny_bind (wpAny_typeOf hTs ?_)
  rw [if_pos (by decide)]
  refine wpAny_bind (sliceApplied_rev hs pl pu ps ?_)
  have hno : ¬ ((((items.size : Int) - 1) == 0 && (-1 : Int) == 1 && items.size == items.size) = true) := by
    intro q
    rw [Bool.and_eq_true, Bool.and_eq_true] at q
    exact absurd q.1.2 (by decide)
  show wpAny _ _ (if (((items.size : Int) - 1) == 0 && (-1 : Int) == 1 && items.size == items.size) = true then _ else _) _ _ s
  rw [if_neg hno, pick_rev]
  first
    | exact wpAny_bind (m := Builtin.Tuple.tupleExact _) (wpAny_newObj_type (wpAny_pure ⟨_, rfl, wpAny_pure h⟩) htake)
    | exact wpAny_bind (m := Builtin.Tuple.tupleExact _) (wpAny_newObj_type (wpAny_bind (wpAny_pure (wpAny_pure ⟨_, rfl, wpAny_pure h⟩))) htake)
    | exact wpAny_bind (wpAny_bind (m := Builtin.Tuple.tupleExact _) (wpAny_newObj_type (wpAny_pure (wpAny_pure ⟨_, rfl, wpAny_pure h⟩)) htake))
    | exact wpAny_bind (wpAny_bind (m := Builtin.Tuple.tupleExact _) (wpAny_newObj_type (wpAny_pure ⟨_, rfl, wpAny_pure h⟩) htake))
end HT
namespace L2
open PySem PySem.Spec PyProof.Rows
variable {X : Cx}
def tRevT (K : PySem.W.Frag) (te : TE) : TE := fun σ H Q => te σ H fun x H1 => ∃ a xs, x = .ref a ∧ SqT K H1 a xs ∧ ∀ p, H1 p = none → Q (.ref p) (upd H1 p (.tup xs.reverse))
theorem pe_revT {e : Expr} {te : TE} {k : Nat} {p1 p2 p3 pos : Pos} (he : PE X e te) : PE X (.Subscript e (.Slice none none (some (.UnaryOp .USub (.Constant (.int 1) k p1) p2)) p3) pos) (tRevT X.K te) := by
  refine ⟨fun pins s σ H Q I h => ?_⟩
  refine Subscript_ (thn (he.run pins s σ H _ I h) fun v s1 ⟨x, H1, I1, r1, q1⟩ => ?_)
  obtain ⟨a, xs, ex, hx, q⟩ := q1
  subst ex
  cases r1
  have hst : PO X (some (.UnaryOp .USub (.Constant (.int 1) k p1) p2)) (tPart (tUn (rU fun i => .int (-i)) (tC (.int 1)))) := po_some (pe_un un_neg pe_int)
  refine wpAny_Slice (thn (po_none.run pins s1 σ H1 (fun o H2 => o = none ∧ H2 = H1) I1 ⟨rfl, rfl⟩) fun vl s2 ⟨l, H2, I2, pl, el, e2⟩ => ?_)
  subst el e2
  refine thn (po_none.run pins s2 σ H2 (fun o H3 => o = none ∧ H3 = H2) I2 ⟨rfl, rfl⟩) fun vu s3 ⟨u, H3, I3, pu, eu, e3⟩ => ?_
  subst eu e3
  refine thn (hst.run pins s3 σ H3 (fun o H4 => o = some (-1) ∧ H4 = H3) I3 ⟨1, rfl, -1, rfl, rfl, rfl⟩) fun vs s4 ⟨o, H4, I4, ps, eo, e4⟩ => ?_
  subst eo e4
  have I5 : Inv X pins σ H4 { s4 with heap := s4.heap.push { cls := .type "slice", data := .fields #[vl, vu, vs] } } := I4.kept (t' := s4.toks) fun b ob q => Heap.get?_push_of_some _ q
  obtain ⟨its, r, ht, hz⟩ := I5.tuple hx
  have hlen := r.length
  show wpAny (model X.prog X.w) X.A (subscriptTail e (.Slice none none (some (.UnaryOp .USub (.Constant (.int 1) k p1) p2)) p3) (.ref a) (.ref s4.heap.objs.size)) (EP X pins σ Q) X.xe { s4 with heap := s4.heap.push { cls := .type "slice", data := .fields #[vl, vu, vs] } }
  refine tail_any (ops := [.ref a, .ref s4.heap.objs.size]) ht.typeIs PyProof.Rows.slot_tuple_getitem.lookup ?_ (by with_unfolding_all rfl)
  refine HT.getItem_tuple_rev ht (Heap.IsSliceOf.new _ vl vu vs) pl pu ps ?_ (by rw [List.size_toArray]; omega)
  refine ⟨.ref _, _, I5.laid (t' := s4.toks) (o := .tup xs.reverse) (fun b ob q => Heap.get?_push_of_some _ q) (Nat.le_refl _) ?_, rfl, q _ (I5.hok.fresh (Nat.le_refl _))⟩
  exact ⟨by rw [List.length_reverse]; exact hz, _, r.reverse, IsTup.new _ _⟩
end L2
end
/-! ## P27 -/
section
open PySem PySem.Spec PyProof.Rows L2
namespace K7
abbrev N__law_exchanged : List Str := ["_law_twin", "_law_views", "_law_rows_here", "_law_surplus", "_law_turned"]
abbrev s__law_exchanged : Stmt := topS 61
theorem sc__law_exchanged : FnScope ["_law_twin", "_law_views", "_law_rows_here", "_law_surplus", "_law_turned"] ["_law_twin", "_law_views", "_law_rows_here", "_law_surplus"] (defScope s__law_exchanged) := ⟨rfl, rfl, rfl, by decide +kernel, rfl, by decide +kernel, by decide +kernel⟩
/-! ### views exchanged -/
structure Tq (K : PySem.W.Frag) (VC TC : Addr) : Prop where
  nfV : PySem.W.notFirst K TC (.ref VC) = true
  nfN : PySem.W.notFirst K TC (.type "NoneType") = true
  kV : PySem.W.kitOne K (.ref VC) (.ref TC) = some false
  kN : PySem.W.kitOne K (.type "NoneType") (.ref TC) = some false
section
variable {P : Program} {w : World} {K : PySem.W.Frag} {mg : Str → Option Value} {base : Heap} {a : AdL} {VC TC fE fQ fQT BT iT BM iM aMS L : Addr}
theorem TwO.ty (TT : Tt K mg TC fQT) {C : Addr} {H : Hp} {t p q l l' : Addr} {n : Nat} {es : List (Nat × Nat)} {rd : List Nat} {c : Nat} {own r1 r2 : List Nat} (W : TwO C VC TC H t p q l l' n es rd c own r1 r2) : TyX K H (.ref t) (.ref TC) := by
  obtain ⟨dx, to, tn, h1, _⟩ := W.at_
  exact .base (.ins h1 TT.cl TT.ha TT.hn TT.ht TT.hm)
def spExc (K : PySem.W.Frag) (a : AdL) (VC TC : Addr) : Sp := fun vs H Q _ => ∃ (t p q l l' W LL R0 R1 S : Addr) (n : Nat) (es : List (Nat × Nat)) (rd : List Nat) (c : Nat) (own r1 r2 : List Nat), vs = [.ref t, .ref W, .ref LL, .ref S] ∧ TwO a.C VC TC H t p q l l' n es rd c own r1 r2 ∧ H W = some (.lst [.ref p, .ref q]) ∧ H LL = some (.lst [.ref R0, .ref R1]) ∧ H R0 = some (.lst (wds r1)) ∧ H R1 = some (.lst (wds r2)) ∧ H S = some (.tup (ints_ (surF n own r2 r1))) ∧
  ∀ H', Same H H' → Q (.bl true) H'
theorem ok_exc (TV : Tv K mg VC fQ) (TT : Tt K mg TC fQT) (TQ : Tq K VC TC) {f ftr pg fsu : Addr} {fd fdtr fdsu fdQ fdQT : FuncData} (F : Fun K "_law_exchanged" "_law_exchanged" s__law_exchanged f fd)
    (mtr : Meth K TC "turned" ftr) (Gtr : FnOk P w K mg base CX0 5 ftr fdtr ["self"] (spTrn a VC TC)) (btr : Binds K fdtr ["self"] [])
    (psu : PropOf K TC "surplus" pg fsu) (Gsu : FnOk P w K mg base CX0 1 fsu fdsu ["self"] (spSur a VC TC)) (bsu : Binds K fdsu ["self"] [])
    (GQ : FnOk P w K mg base CX0 2 fQ fdQ ["self", "other"] (spEqV a VC)) (bQ : Binds K fdQ ["self", "other"] [])
    (GQT : FnOk P w K mg base CX0 3 fQT fdQT ["self", "other"] (spEqT K a VC TC)) (bQT : Binds K fdQT ["self", "other"] [])
    (m_isinstance : mg "isinstance" = none) : FnOk P w K mg base CX0 6 f fd ["_law_twin", "_law_views", "_law_rows_here", "_law_surplus"] (spExc K a VC TC) := by
  refine F.ok sc__law_exchanged (fun vs H Q E h => ?_) (fun cdv A outer s H vs Q E hr h => ?_)
  · obtain ⟨t, p, q, l, l', W, LL, R0, R1, S, n, es, rd, c, own, r1, r2, rfl, _⟩ := h
    rfl
  · obtain ⟨t, p, q, l, l', W, LL, R0, R1, S, n, es, rd, c, own, r1, r2, rfl, Z, hW, hL, h0, h1, hS, k⟩ := h
    refine ⟨_, (pss_cons (ps_set (i := 4) sc__law_exchanged.nd rfl (by first | exact Or.inl rfl | exact Or.inr rfl) (pe_meth0 (pv 0) TT.cl mtr Gtr (hr.mono (by decide)) btr .nil pass0))
 (pss_cons (ps_if (pw_or (pt_not (pt_val (pe_callB call_isi (by rfl) m_isinstance boot_isinstance (pa_cons (pv 4) (pa_cons (pe_glob (v := .ref _) (by rfl) TT.g rfl) pa_nil))))) (pw_or (pt_cmpR (K7E.op_neOwn GQ TV.ne TV.hm TV.eq TV.eqF bQ (hr.mono (by decide)) pass0) (pe_fld (pv 4) rfl) (pe_ix ix_list (pv 1) pe_int (fun _ _ => rfl)) (nomark _)) (pw_or1 (pt_cmpR (K7E.op_neOwn GQ TV.ne TV.hm TV.eq TV.eqF bQ (hr.mono (by decide)) pass0) (pe_fld (pv 4) rfl) (pe_ix ix_list (pv 1) pe_int (fun _ _ => rfl)) (nomark _))))).pt
  (pss_one (ps_ret pe_bl))
  pss_nil)
 (pss_cons (ps_if (pw_or (pt_cmpR (op_neD hr.units) (pe_fld (pv 4) rfl) (pe_revT (pe_fld (pv 0) rfl)) (nomark _)) (pw_or (pt_cmpR (op_neD hr.units) (pe_prop (pv 4) TT.cl psu Gsu (hr.mono (by decide)) bsu .nil pass0 rfl) (pv 3) (nomark _)) (pw_or1 (pt_cmpR (K7E.op_neOwn GQT TT.ne TT.hm TT.eq TT.eqF bQT (hr.mono (by decide)) pass0) (pe_meth0 (pv 4) TT.cl mtr Gtr (hr.mono (by decide)) btr .nil pass0) (pv 0) (nomark _))))).pt
  (pss_one (ps_ret pe_bl))
  pss_nil)
 (pss_one (ps_ret (pe_and (pe_cmpR op_eq (pe_cmpR (K7E.op_eqOwn GQT TT.eq TT.eqF bQT (hr.mono (by decide)) pass0) (pv 4) (pv 0) (nomark _)) (pe_cmpR (op_eqD hr.units) (pe_ix ix_list (pv 2) pe_int (fun _ _ => rfl)) (pe_ix ix_list (pv 2) pe_int (fun _ _ => rfl)) (nomark _)) (nomark _)) (pe_and (pe_cmpR (K7E.op_neOwn GQT TT.ne TT.hm TT.eq TT.eqF bQT (hr.mono (by decide)) pass0) (pv 0) (pe_ix ix_list (pv 1) pe_int (fun _ _ => rfl)) (nomark _)) (pe_one (pe_not (pe_cmpR (K7E.op_eqOwnV GQT TT.eq TT.eqF bQT (hr.mono (by decide)) pass0) (pv 0) pe_non (nomark _))))))))))), ?_⟩
    obtain ⟨dx, to, tn, g1, g2, g3⟩ := Z.at_
    refine ⟨_, rfl, t, dx, _, rfl, g1, rfl, t, p, q, l, l', n, es, rd, c, own, r1, r2, rfl, Z, fun H1 u e1 nu U => ?_⟩
    obtain ⟨dy, uo, un, f1, f2, f3⟩ := U.at_
    have Z1 := Z.same e1
    obtain ⟨dp, _, _, _, _, _, _, p1, _⟩ := Z1.one.at_
    obtain ⟨dq, _, _, _, _, _, _, q1, _⟩ := Z1.two.at_
    refine ⟨_, rfl, _, _, _, _, _, rfl, .own _, U.ty TT, TT.own, true, rfl, ?_⟩
    have W1 := e1 _ _ hW
    refine ⟨_, rfl, u, TC, dy, _, _, rfl, f1, TT.cl, TT.nT _ (by decide), rfl, _, rfl, W, _, _, _, rfl, rfl, .inl (.inl W1), atI_nat (j := 1) rfl, q, dq, _, q, .ref VC, rfl, rfl, q1, Z1.two.ty TV, nfC K VC, q, q, l', l', n, es, rd, c, own, r2, n, es, rd, c, own, r2, rfl, Z1.two, Z1.two, _, rfl, ?_⟩
    rw [eqVw_refl]
    refine ⟨_, rfl, _, rfl, u, TC, dy, _, _, rfl, f1, TT.cl, TT.nT _ (by decide), rfl, _, rfl, W, _, _, _, rfl, rfl, .inl (.inl W1), atI_nat (j := 0) rfl, p, dp, _, p, .ref VC, rfl, rfl, p1, Z1.one.ty TV, nfC K VC, p, p, l, l, n, es, rd, c, own, r1, n, es, rd, c, own, r1, rfl, Z1.one, Z1.one, _, rfl, ?_⟩
    rw [eqVw_refl]
    -- its numbers, its surplus, exchanged again
    refine ⟨_, rfl, ?_⟩
    refine iteF ⟨_, rfl, u, TC, dy, _, _, rfl, f1, TT.cl, TT.nT _ (by decide), rfl, _, rfl, t, TC, dx, _, _, rfl, e1 _ _ g1, TT.cl, TT.nT _ (by decide), rfl, tn, _, rfl, .inl (.inl (e1 _ _ g3)), fun v nv => ?_⟩
    have e2 := al (o := .tup [V.int (numR own r1 c n : Nat), V.int (numR own r2 c n : Nat)].reverse) nv
    refine ⟨intD [numR own r2 c n, numR own r1 c n], intD [numR own r2 c n, numR own r1 c n], .tup (.inl (.inl (e2 _ _ f3))) (dp_ints [_, _]), .tup (.inl (.inl upd_same)) (dp_ints [_, _]), shaped_ints _, shaped_ints _, ?_⟩
    rw [eqv_intD, decide_eq_true rfl]
    have U2 := U.same e2
    have Z2 := Z1.same e2
    have hS2 := e2 _ _ (e1 _ _ hS)
    have hW2 := e2 _ _ W1
    have hL2 := e2 _ _ (e1 _ _ hL)
    have h02 := e2 _ _ (e1 _ _ h0)
    have h12 := e2 _ _ (e1 _ _ h1)
    have e02 := e1.trans e2
    have f12 := e2 _ _ f1
    have g12 := e02 _ _ g1
    generalize upd H1 v (.tup [V.int (numR own r1 c n : Nat), V.int (numR own r2 c n : Nat)].reverse) = H2 at e2 U2 Z2 hS2 hW2 hL2 h02 h12 e02 f12 g12 ⊢
    refine ⟨_, rfl, _, rfl, u, dy, _, rfl, f12, u, q, p, l', l, n, es, rd, c, own, r2, r1, rfl, U2, fun H3 su e3 nsu hsu => ?_⟩
    refine ⟨_, rfl, intD (surF n own r2 r1), intD (surF n own r2 r1), .tup (.inl (.inl hsu)) (dp_ints _), .tup (.inl (.inl (e3 _ _ hS2))) (dp_ints _), shaped_ints _, shaped_ints _, ?_⟩
    rw [eqv_intD, decide_eq_true rfl]
    have U3 := U2.same e3
    have Z3 := Z2.same e3
    refine ⟨_, rfl, _, rfl, u, dy, _, rfl, e3 _ _ f12, rfl, u, q, p, l', l, n, es, rd, c, own, r2, r1, rfl, U3, fun H4 x e4 nx X => ?_⟩
    obtain ⟨dz, xo, xn, x1, x2, x3⟩ := X.at_
    have Z4 := Z3.same e4
    have U4 := U3.same e4
    have e34 := e3.trans e4
    refine ⟨_, rfl, x, dz, _, t, .ref TC, rfl, rfl, x1, Z4.ty TT, nfC K TC, x, p, q, l, l', n, es, rd, c, own, r1, r2, .ref t, rfl, X, .inl ⟨t, p, q, l, l', n, es, rd, c, own, r1, r2, rfl, Z4, ?_⟩⟩
    rw [eqVw_refl, eqVw_refl]
    refine ⟨_, rfl, _, rfl, iteF ?_⟩
    -- it is compared
    have e04 := e02.trans e34
    have ev : (eqVw n es rd c own r2 n es rd c own r1 && eqVw n es rd c own r1 n es rd c own r2) = decide (r1.map wd = r2.map wd) := by
      unfold eqVw
      rw [decide_eq_true (p := c = c) rfl, decide_eq_true (p := own = own) rfl, decide_eq_true (p := n = n ∧ es = es ∧ rd = rd) ⟨rfl, rfl, rfl⟩, Bool.and_true, Bool.true_and, Bool.true_and, Bool.and_true, Bool.true_and, Bool.true_and, decide_eq_decide.mpr (show r2.map wd = r1.map wd ↔ r1.map wd = r2.map wd from ⟨Eq.symm, Eq.symm⟩), Bool.and_self]
    refine ⟨_, rfl, _, rfl, u, dy, _, t, .ref TC, rfl, rfl, e34 _ _ f12, Z4.ty TT, nfC K TC, u, q, p, l', l, n, es, rd, c, own, r2, r1, .ref t, rfl, U4, .inl ⟨t, p, q, l, l', n, es, rd, c, own, r1, r2, rfl, Z4, ?_⟩⟩
    rw [ev]
    refine ⟨_, rfl, LL, _, _, _, rfl, rfl, .inl (.inl (e34 _ _ hL2)), atI_nat (j := 0) rfl, _, rfl, LL, _, _, _, rfl, rfl, .inl (.inl (e34 _ _ hL2)), atI_nat (j := 1) rfl, _, _, dpL_wds (e34 _ _ h02), dpL_wds (e34 _ _ h12), shapedL_wds _, shapedL_wds _, ?_⟩
    rw [eqvL_wds]
    refine ⟨rfl, _, rfl, ?_⟩
    rw [decide_eq_true rfl]
    refine iteT ?_
    refine ⟨_, rfl, _, rfl, W, _, _, _, rfl, rfl, .inl (.inl (e34 _ _ hW2)), atI_nat (j := 0) rfl, t, dx, _, p, .ref VC, rfl, rfl, e34 _ _ g12, Z4.one.ty TV, TQ.nfV, t, p, q, l, l', n, es, rd, c, own, r1, r2, .ref p, rfl, Z4, .inr ⟨⟨.ref VC, fun H' e' => (Z4.one.same e').ty TV, TQ.kV⟩, _, rfl, ?_⟩⟩
    refine ⟨_, rfl, _, rfl, t, dx, _, .type "NoneType", rfl, e34 _ _ g12, .base .non, TQ.nfN, t, p, q, l, l', n, es, rd, c, own, r1, r2, .non, rfl, Z4, .inr ⟨⟨.type "NoneType", fun H' e' => .base .non, TQ.kN⟩, ?_⟩⟩
    exact ⟨_, rfl, k _ e04⟩
end
end K7
end
/-! ## P28 -/
section
open PySem PySem.Spec PyProof.Rows L2
namespace K7
abbrev N__law_refusals : List Str := ["_law_hand_here", "_law_land_here", "_law_made_here", "_law_cell", "_law_own", "_law_view", "_law_n", "_law_roads", "_law_lot", "_law_far", "_law_place", "_law_menu", "_law_odd", "_law_b"]
abbrev s__law_refusals : Stmt := topS 60
theorem sc__law_refusals : FnScope ["_law_hand_here", "_law_land_here", "_law_made_here", "_law_cell", "_law_own", "_law_view", "_law_n", "_law_roads", "_law_lot", "_law_far", "_law_place", "_law_menu", "_law_odd", "_law_b"] ["_law_hand_here", "_law_land_here", "_law_made_here", "_law_cell", "_law_own", "_law_view"] (defScope s__law_refusals) := ⟨rfl, rfl, rfl, by decide +kernel, rfl, by decide +kernel, by decide +kernel⟩
/-! ### the refusals of the law -/
section
variable {h c0 : Addr} {H H' : Hp}
theorem Stay.ins {b C dx : Addr} {fs : List (Str × V)} (x : Stay h c0 H H') (hb : H b = some (.ins C dx fs)) : H' b = some (.ins C dx fs) := x.but b _ (x.hand0.nei hb) hb
theorem LandO.stay {C p : Addr} {n : Nat} {es : List (Nat × Nat)} {rd : List Nat} (L : LandO C H p n es rd) (x : Stay h c0 H H') : LandO C H' p n es rd := by
  obtain ⟨dx, an, ar, ay, ac, tn, ty, tc, h1, h2, h3, h4, h5, h6, h7, h8⟩ := L.at_
  exact ⟨⟨dx, an, ar, ay, ac, tn, ty, tc, x.ins h1, x.tup h2, h3.mono fun b xs hb => x.tup hb, x.tup h4, x.tup h5, h6.mono fun b xs hb => x.tup hb, x.tup h7, h8.mono fun b xs hb => x.tup hb⟩, L.n2, L.n5, L.ok, L.rlt, L.rnd, L.rso, L.r0, L.rn⟩
theorem VwO.stay {C VC p l : Addr} {n : Nat} {es : List (Nat × Nat)} {rd : List Nat} {c : Nat} {own row : List Nat} (W : VwO C VC H p l n es rd c own row) (x : Stay h c0 H H') : VwO C VC H' p l n es rd c own row := by
  obtain ⟨dx, to, ts, t1, t2, t3, t4, h1, h2, h3, h4, h5, h6, h7⟩ := W.at_
  exact ⟨⟨dx, to, ts, t1, t2, t3, t4, x.ins h1, x.tup h2, x.tup h3, x.tup h4, x.tup h5, x.tup h6, x.tup h7⟩, W.ld.stay x, W.ok, W.so⟩
theorem TwO.stay {C VC TC t p q l l' : Addr} {n : Nat} {es : List (Nat × Nat)} {rd : List Nat} {c : Nat} {own r1 r2 : List Nat} (W : TwO C VC TC H t p q l l' n es rd c own r1 r2) (x : Stay h c0 H H') : TwO C VC TC H' t p q l l' n es rd c own r1 r2 := by
  obtain ⟨dx, to, tn, h1, h2, h3⟩ := W.at_
  exact ⟨⟨dx, to, tn, x.ins h1, x.tup h2, x.tup h3⟩, W.one.stay x, W.two.stay x⟩
theorem LandAt.stay {q : Addr} {n : Nat} {es : List (Nat × Nat)} {lot : List Nat} (L : LandAt H q n es lot) (x : Stay h c0 H H') : LandAt H' q n es lot := by
  obtain ⟨rA, sA, ts, h1, h2, h3, h4⟩ := L.at_
  exact ⟨⟨rA, sA, ts, x.tup h1, x.lst h2 (notHand_refs ts), h3.mono fun b xs hb => x.tup hb, x.lst h4 (notHand_ints lot)⟩, L.ok, L.lot⟩
end
theorem zero_ok {n c : Nat} {own : List Nat} (hc : c < n) (lt : ∀ b ∈ own, b < n) (nd : own.Nodup) (me : c ∈ own) : VwOk n c own (List.replicate n 0) := by
  have g : ∀ b, (List.replicate n 0).getD b 0 = 0 := fun b => by
    rw [List.getD_eq_getElem?_getD, List.getElem?_replicate]
    split <;> rfl
  exact ⟨hc, lt, nd, me, List.length_replicate, g c, fun b _ => .inl (g b), fun b _ _ => by rw [g b]; decide⟩
def goodLot (n : Nat) (l : List Nat) : Bool := decide (0 < l.length) && decide (l.length < n)
def roadsF (n : Nat) (lot : List Nat) : List (List Nat) := (lotsTo (List.range n) n).filter fun l => goodLot n l && !decide (l = lot)
theorem ones_in : ∀ n : Fin 6, 2 ≤ n.val → [0] ∈ lotsTo (List.range n.val) n.val ∧ [1] ∈ lotsTo (List.range n.val) n.val := by decide +kernel
theorem roads_some {n : Nat} (n2 : 2 ≤ n) (n5 : n ≤ 5) (lot : List Nat) : 0 < (roadsF n lot).length ∧ (roadsF n lot).length ≤ 32 := by
  obtain ⟨i0, i1⟩ := ones_in ⟨n, by omega⟩ n2
  have g : ∀ l : List Nat, l.length = 1 → goodLot n l = true := fun l hl => by
    unfold goodLot
    rw [decide_eq_true (by omega), decide_eq_true (by omega)]
    rfl
  refine ⟨?_, Nat.le_trans (List.length_filter_le _ _) (level_len ⟨n, by omega⟩ ⟨n, by omega⟩).2⟩
  by_cases e : [0] = lot
  · refine List.length_pos_of_mem (a := [1]) (List.mem_filter.mpr ⟨i1, ?_⟩)
    rw [g [1] rfl, decide_eq_false (by rw [← e]; decide)]
    rfl
  · refine List.length_pos_of_mem (a := [0]) (List.mem_filter.mpr ⟨i0, ?_⟩)
    rw [g [0] rfl, decide_eq_false e]
    rfl
theorem place_ne {n c : Nat} {r : Int} (hc : c < n) (n2 : 2 ≤ n) (r0 : 0 ≤ r) (r1 : r < (n : Int) - 1) : ∃ e : Nat, ((c : Nat) : Int) + 1 + r = (e : Nat) ∧ e % n < n ∧ e % n ≠ c := by
  obtain ⟨j, rfl⟩ : ∃ j : Nat, r = (j : Int) := ⟨r.toNat, by omega⟩
  refine ⟨c + 1 + j, by omega, Nat.mod_lt _ (by omega), fun e => ?_⟩
  by_cases z : c + 1 + j < n
  · rw [Nat.mod_eq_of_lt z] at e
    omega
  · rw [Nat.mod_eq_sub_mod (by omega), Nat.mod_eq_of_lt (by omega)] at e
    omega
/-- what the top says of things that are no view -/
structure Tz (K : PySem.W.Frag) (C VC : Addr) : Prop where
  n : PySem.W.kitOne K (.type "NoneType") (.ref VC) = some false
  i : PySem.W.kitOne K (.type "int") (.ref VC) = some false
  s : PySem.W.kitOne K (.type "str") (.ref VC) = some false
  l : PySem.W.kitOne K (.type "list") (.ref VC) = some false
  c : PySem.W.kitOne K (.ref C) (.ref VC) = some false
section
variable {P : Program} {w : World} {K : PySem.W.Frag} {mg : Str → Option Value} {base : Heap} {a : AdL} {VC TC fE fQ fQT BT iT BM iM aMS L : Addr}
def refQ (R : Addr → Hp → Prop) : VK := fun v H => match v with | .ref x => R x H | _ => True
theorem new_landR {H1 : Hp} {R : Addr → Hp → Prop} {E : XK} {n : Nat} {an : Addr} {ts : List Addr} {cs : List (Nat × Nat)} {ar : Addr} {lot : List Nat} (n2 : 2 ≤ n) (n5 : n ≤ 5) (han : SqOf H1 an (ts.map V.ref)) (hT : CoAll H1 ts cs) (hc : Cos n cs) (cn : KL.Conn n cs) (har : SqOf H1 ar (ints_ lot)) (llt : ∀ c ∈ lot, c < n) (lnd : lot.Nodup) (l0 : 0 < lot.length) (ln : lot.length < n)
    (q : ∀ H' x es rd, Same H1 H' → H1 x = none → LandO a.C H' x n es rd → es.Perm (cs.map KL.srt) → rd.Perm lot → R x H') :
    ∀ x dx, H1 x = none → H1 dx = none → dx ≠ x → spLandI a (.ref x :: ([.int (n : Nat), .ref an, .ref ar] ++ [])) (upd (upd H1 dx (.own x)) x (.ins a.C dx [])) (fun v H2 => v = .non ∧ R x H2) E :=
  new_land (a := a) (Q := refQ R) n2 n5 han hT hc cn har llt lnd l0 ln q
theorem new_viewR {H1 : Hp} {R : Addr → Hp → Prop} {E : XK} {l o t : Addr} {n : Nat} {es : List (Nat × Nat)} {rd : List Nat} {c : Nat} {own row : List Nat} (L : LandO a.C H1 l n es rd) (ho : SqOf H1 o (ints_ own)) (ht : SqOf H1 t (wds row)) (ok : VwOk n c own row)
    (q : ∀ H' x own', Same H1 H' → H1 x = none → own'.Perm own → VwO a.C VC H' x l n es rd c own' row → R x H') :
    ∀ x dx, H1 x = none → H1 dx = none → dx ≠ x → spVwI a VC (.ref x :: ([.ref l, .int (c : Nat), .ref o, .ref t] ++ [])) (upd (upd H1 dx (.own x)) x (.ins VC dx [])) (fun v H2 => v = .non ∧ R x H2) E :=
  new_view (a := a) (VC := VC) (Q := refQ R) L ho ht ok q
theorem LandO.ty (T : Tl K mg a) (T2 : Tk K a.C fE) {H : Hp} {p : Addr} {n : Nat} {es : List (Nat × Nat)} {rd : List Nat} (W : LandO a.C H p n es rd) : TyX K H (.ref p) (.ref a.C) := by
  obtain ⟨dl, an, ar, ay, ac, tn, ty, tc, m1, _⟩ := W.at_
  exact .base (.ins m1 T.cl T2.ha T2.hn T2.ht T2.hm)
def spRefs (a : AdL) (VC : Addr) : Sp := fun vs H Q _ => ∃ (h c0 q m O p l : Addr) (n : Nat) (es : List (Nat × Nat)) (lot : List Nat) (c : Nat) (own own' row : List Nat), vs = [.ref h, .ref q, .ref m, .int (c : Nat), .ref O, .ref p] ∧ Hand H h c0 ∧ LandAt H q n es lot ∧ LandO a.C H m n es lot ∧ H O = some (.lst (ints_ own)) ∧ VwO a.C VC H p l n es lot c own' row ∧ own'.Perm own ∧
  ∀ H', Q (.bl true) H'
theorem ok_refs (T : Tl K mg a) (T2 : Tk K a.C fE) (TV : Tv K mg VC fQ) (TZ : Tz K a.C VC) {f fdr fpk flo frf fI fV : Addr} {fd fddr fdpk fdlo fdrf fdI fdV : FuncData} (F : Fun K "_law_refusals" "_law_refusals" s__law_refusals f fd)
    (Gdr : FnOk P w K mg base CX0 2 fdr fddr ["_law_hand_here", "_law_many"] spDraw) (gdr : mg "_law_draw" = some (.ref fdr)) (kdr : PySem.W.keepIn K (.ref fdr) = true) (bdr : Binds K fddr ["_law_hand_here", "_law_many"] [])
    (Gpk : FnOk P w K mg base CX0 3 fpk fdpk ["_law_hand_here", "_law_things"] spPick) (gpk : mg "_law_pick" = some (.ref fpk)) (kpk : PySem.W.keepIn K (.ref fpk) = true) (bpk : Binds K fdpk ["_law_hand_here", "_law_things"] [])
    (Glo : FnOk P w K mg base CX0 1 flo fdlo ["_law_cells"] spLots) (glo : mg "_law_lots" = some (.ref flo)) (klo : PySem.W.keepIn K (.ref flo) = true) (blo : Binds K fdlo ["_law_cells"] [])
    (Grf : FnOk P w K mg base CX0 8 frf fdrf ["_law_one", "_law_other", "_law_what"] (spRfT K a VC)) (grf : mg "_law_refused" = some (.ref frf)) (krf : PySem.W.keepIn K (.ref frf) = true) (brf : Binds K fdrf ["_law_one", "_law_other", "_law_what"] [])
    (MC : Mk K a.C fI) (GI : FnOk P w K mg base CX0 5 fI fdI ["self", "cells", "neighbours", "roads"] (spLandI a)) (bI : Binds K fdI ["self", "cells", "neighbours", "roads"] [])
    (MV : Mk K VC fV) (GV : FnOk P w K mg base CX0 4 fV fdV ["self", "land", "cell", "own", "standings"] (spVwI a VC)) (bV : Binds K fdV ["self", "land", "cell", "own", "standings"] [])
    (m_range : mg "range" = none) (m_len : mg "len" = none) (m_list : mg "list" = none) (m_int : mg "int" = none) : FnOk P w K mg base CX0 9 f fd ["_law_hand_here", "_law_land_here", "_law_made_here", "_law_cell", "_law_own", "_law_view"] (spRefs a VC) := by
  refine F.ok sc__law_refusals (fun vs H Q E h => ?_) (fun cdv A outer s H vs Q E hr h => ?_)
  · obtain ⟨h, c0, q, m, O, p, l, n, es, lot, c, own, own', row, rfl, _⟩ := h
    rfl
  · obtain ⟨h, c0, q, m, O, p, l, n, es, lot, c, own, own', row, rfl, hh, L, M, hO, W, pm, k⟩ := h
    refine ⟨_, (pss_cons (ps_set (i := 6) sc__law_refusals.nd rfl (by first | exact Or.inl rfl | exact Or.inr rfl) (pe_ix ix_tup (pv 1) pe_int (fun _ _ => rfl)))
 (pss_cons (ps_setLc (i := 7) (own := [("_law_lot", 8)]) (g := gName 8) rfl sc__law_refusals.nd rfl rfl (sw_true rfl rfl rfl (by decide +kernel)) (pi_list (pe_call Glo (hr.mono (by decide)) (by rfl) glo klo blo .nil pass0 (pa_cons (pe_callTy (K7E.cr_list_rng rfl) (by rfl) m_list boot_list (pa_cons (pe_callTy K7E.cr_range1 (by rfl) m_range boot_range (pa_cons (pv 6) pa_nil)) pa_nil)) pa_nil))) (blkOk_by (own := [("_law_lot", 8)]) (N := N__law_refusals) (sc := defScope s__law_refusals) (by decide +kernel)) (fun _ _ _ _ _ => (pg_name (i := 8) sc__law_refusals.nd rfl (by first | exact Or.inl rfl | exact Or.inr rfl))) (fun _ _ _ _ _ => (pts_one (PW.pt (pw_and (pt_chain op_lt op_lt pe_int (pe_callB (show CallR _ (.builtin "len") (rLen_ K) from call_len_seq) (by rfl) m_len boot_len (pa_cons (pv 8) pa_nil)) (pv 6)) (pw_and1 (pt_cmpR (show OpR _ _ (rNeD K) from op_neD hr.units) (pe_callTy (show CallR _ (.type "list") (rLst K) from call_list_of) (by rfl) m_list boot_list (pa_cons (pv 8) pa_nil)) (pe_ix (show IxR _ (rIxT K) from ix_tup) (pv 1) pe_int (fun _ _ => rfl)) (nomark _))))))) (fun _ _ _ _ _ => (pv 8)))
 (pss_cons (ps_set (i := 9) sc__law_refusals.nd rfl (by first | exact Or.inl rfl | exact Or.inr rfl) (pe_make MC GI (hr.mono (by decide)) (by rfl) T.gC bI .nil pass0 (pa_cons (pv 6) (pa_cons (pe_ix ix_tup (pv 1) pe_int (fun _ _ => rfl)) (pa_cons (pe_call Gpk (hr.mono (by decide)) (by rfl) gpk kpk bpk .nil pass0 (pa_cons (pv 0) (pa_cons (pv 7) pa_nil))) pa_nil)))))
 (pss_cons (ps_set (i := 10) sc__law_refusals.nd rfl (by first | exact Or.inl rfl | exact Or.inr rfl) (pe_op op_mod (pe_callTy call_int1 (by rfl) m_int boot_int (pa_cons (pe_op op_add (pe_op op_add (pv 3) pe_int) (pe_call Gdr (hr.mono (by decide)) (by rfl) gdr kdr bdr .nil pass0 (pa_cons (pv 0) (pa_cons (pe_op op_sub (pv 6) pe_int) pa_nil)))) pa_nil)) (pv 6)))
 (pss_cons (ps_set (i := 11) sc__law_refusals.nd rfl (by first | exact Or.inl rfl | exact Or.inr rfl) (pe_op op_rep (pe_lst (pa_cons pe_str pa_nil)) (pv 6)))
 (pss_cons (ps_for PassesOwn.never rfl (pi_tup (pe_tup (pa_cons pe_non (pa_cons pe_int (pa_cons pe_str (pa_cons (pv 2) (pa_cons (pe_lst (pa_cons (pv 5) pa_nil)) pa_nil))))))) (pg_name (i := 12) sc__law_refusals.nd rfl (by first | exact Or.inl rfl | exact Or.inr rfl))
  (pss_one (ps_if (pt_not (pt_val (pe_call Grf (hr.mono (by decide)) (by rfl) grf krf brf .nil pass0 (pa_cons (pv 5) (pa_cons (pv 12) (pa_cons pe_str pa_nil))))))
  (pss_one (ps_ret pe_bl))
  pss_nil)))
 (pss_cons (ps_if (pw_or (pt_not (pt_val (pe_call Grf (hr.mono (by decide)) (by rfl) grf krf brf .nil pass0 (pa_cons (pv 5) (pa_cons (pe_make MV GV (hr.mono (by decide)) (by rfl) TV.g bV .nil pass0 (pa_cons (pv 9) (pa_cons (pv 3) (pa_cons (pv 4) (pa_cons (pv 11) pa_nil))))) (pa_cons pe_str pa_nil)))))) (pw_or1 (pt_not (pt_val (pe_call Grf (hr.mono (by decide)) (by rfl) grf krf brf .nil pass0 (pa_cons (pv 5) (pa_cons (pe_make MV GV (hr.mono (by decide)) (by rfl) TV.g bV .nil pass0 (pa_cons (pv 9) (pa_cons (pv 10) (pa_cons (pe_lst (pa_cons (pv 10) pa_nil)) (pa_cons (pv 11) pa_nil))))) (pa_cons pe_str pa_nil)))))))).pt
  (pss_one (ps_ret pe_bl))
  pss_nil)
 (pss_cons (ps_if (pt_not (pt_val (pe_call Grf (hr.mono (by decide)) (by rfl) grf krf brf .nil pass0 (pa_cons (pv 5) (pa_cons (pe_make MV GV (hr.mono (by decide)) (by rfl) TV.g bV .nil pass0 (pa_cons (pv 2) (pa_cons (pv 10) (pa_cons (pe_lst (pa_cons (pv 10) pa_nil)) (pa_cons (pv 11) pa_nil))))) (pa_cons pe_str pa_nil))))))
  (pss_one (ps_ret pe_bl))
  pss_nil)
 (pss_cons (ps_if (pt_cmpR op_in_seq (pv 10) (pv 4) (by with_unfolding_all rfl))
  (pss_one (ps_ret (pe_call Grf (hr.mono (by decide)) (by rfl) grf krf brf .nil pass0 (pa_cons (pv 5) (pa_cons (pe_make MV GV (hr.mono (by decide)) (by rfl) TV.g bV .nil pass0 (pa_cons (pv 2) (pa_cons (pv 3) (pa_cons (pe_lc (own := [("_law_b", 13)]) (g := gName 13) rfl sc__law_refusals.nd (pi_list (pv 4)) (blkOk_by (own := [("_law_b", 13)]) (N := N__law_refusals) (sc := defScope s__law_refusals) (by decide +kernel)) (fun _ _ _ _ _ => (pg_name (i := 13) sc__law_refusals.nd rfl (by first | exact Or.inl rfl | exact Or.inr rfl))) (fun _ _ _ _ _ => (pts_one (pt_cmpR op_ne (pv 13) (pv 10) (nomark _)))) (fun _ _ _ _ _ => (pv 13))) (pa_cons (pv 11) pa_nil))))) (pa_cons pe_str pa_nil))))))
  pss_nil)
 (pss_one (ps_ret (pe_call Grf (hr.mono (by decide)) (by rfl) grf krf brf .nil pass0 (pa_cons (pv 5) (pa_cons (pe_make MV GV (hr.mono (by decide)) (by rfl) TV.g bV .nil pass0 (pa_cons (pv 2) (pa_cons (pv 3) (pa_cons (pe_op op_cat (pv 4) (pe_lst (pa_cons (pv 10) pa_nil))) (pa_cons (pv 11) pa_nil))))) (pa_cons pe_str pa_nil))))))))))))))), ?_⟩
    have n2 := M.n2
    have n5 := M.n5
    have olt : ∀ b ∈ own, b < n := fun b hb => W.ok.lt b (pm.mem_iff.mpr hb)
    have ond : own.Nodup := pm.nodup_iff.mp W.ok.nd
    have ome : c ∈ own := pm.mem_iff.mp W.ok.me
    have hc : c < n := W.ok.cn
    have o5 : own.length ≤ 5 := by rw [← pm.length_eq]; exact Nat.le_trans W.ok.ol n5
    obtain ⟨rA, sA, ts, l1, l2, l3, l4⟩ := L.at_
    refine ⟨_, rfl, q, _, _, _, rfl, rfl, .inl (.inl l1), atI_nat (j := 0) rfl, ?_⟩
    -- other roads
    refine ⟨_, rfl, _, rfl, fun rg nrg => ?_⟩
    refine ⟨rg, n, rfl, upd_same, by omega, fun l0 nl0 => ?_⟩
    have s1 : Same H (upd (upd H rg (.rng 0 n)) l0 (.lst (K7E.upTo n))) := same_new (same_new (Same.refl H) nrg) nl0
    refine ⟨l0, n, rfl, n5, upd_same, fun H1 lo ls e1 nlo hlo tlo => ?_⟩
    have e1 := s1.trans e1
    refine ⟨lo, rfl, ⟨_, .inl (.inl hlo)⟩, fun D hD => lc_list (xs := ls.map V.ref) (fun j H2 => Same H1 H2 ∧ ∃ us, H2 D = some (.lst (us.map V.ref)) ∧ TAt H2 us (((lotsTo (List.range n) n).take j).filter fun l => goodLot n l && !decide (l = lot)) ∧ us.length ≤ j) ⟨al hD, [], upd_same, .nil, Nat.le_refl _⟩ (fun j H2 _ pv => .inl (.inl (pv.1 _ _ hlo))) (fun j x H2 hx pv => ?_) (fun H2 pv => ?_)⟩
    · obtain ⟨e, us, hD3, tD, lu⟩ := pv
      rw [List.getElem?_map] at hx
      obtain ⟨t, ht, rfl⟩ := Option.map_eq_some_iff.mp hx
      obtain ⟨y, el, hl⟩ := tlo.get ht
      have jl : j < 32 := by
        have h1 := (List.getElem?_eq_some_iff.mp el).1
        have h2 : (lotsTo (List.range n) n).length ≤ 32 := (level_len ⟨n, by omega⟩ ⟨n, by omega⟩).2
        omega
      have hl2 := e _ _ hl
      have f1 : ((lotsTo (List.range n) n).take (j + 1)).filter (fun l => goodLot n l && !decide (l = lot)) = ((lotsTo (List.range n) n).take j).filter (fun l => goodLot n l && !decide (l = lot)) ++ (if (goodLot n y && !decide (y = lot)) = true then [y] else []) := by
        rw [List.take_add_one, el, List.filter_append]
        congr 1
        show List.filter _ [y] = _
        rw [List.filter_cons]
        rfl
      have skip : ∀ H3, Same H2 H3 → (goodLot n y && !decide (y = lot)) = false → Same H1 H3 ∧ ∃ us, H3 D = some (.lst (us.map V.ref)) ∧ TAt H3 us (((lotsTo (List.range n) n).take (j + 1)).filter fun l => goodLot n l && !decide (l = lot)) ∧ us.length ≤ j + 1 := fun H3 e3 z => by
        refine ⟨e.trans e3, us, e3 _ _ hD3, ?_, by omega⟩
        rw [f1, if_neg (by rw [z]; decide), List.append_nil]
        exact tD.same e3
      refine ⟨rfl, _, rfl, t, _, rfl, .inr (.inl (.inl hl2)), _, _, rfl, rfl, _, rfl, ite2 (fun q1 => ?_) (fun q1 => ?_)⟩
      · have q1' : 0 < y.length := by
          have z : (0 : Int) < (((y.map fun c => V.int (c : Nat)).length : Nat) : Int) := of_decide_eq_true q1
          rw [List.length_map] at z
          omega
        refine ⟨_, rfl, _, _, rfl, rfl, _, rfl, ?_⟩
        refine ite2 (fun q2 => ?_) (fun q2 => ?_)
        · have q2' : y.length < n := by
            have z : (((y.map fun c => V.int (c : Nat)).length : Nat) : Int) < (n : Nat) := of_decide_eq_true q2
            rw [List.length_map] at z
            omega
          have gl : goodLot n y = true := by unfold goodLot; rw [decide_eq_true q1', decide_eq_true q2']; rfl
          refine ⟨_, rfl, t, _, rfl, .inr (.inl (.inl hl2)), fun r nr => ?_⟩
          have e3 := al (o := .lst (y.map fun c => V.int (c : Nat))) nr
          have hr3 : upd H2 r (.lst (y.map fun c => V.int (c : Nat))) r = some (.lst (ints_ y)) := upd_same
          generalize upd H2 r (.lst (y.map fun c => V.int (c : Nat))) = H3 at e3 hr3 ⊢
          have e03 := (e1.trans e).trans e3
          refine ⟨_, rfl, q, _, _, _, rfl, rfl, .inl (.inl (e03 _ _ l1)), atI_nat (j := 2) rfl, _, _, dpL_ints hr3, dpL_ints (e03 _ _ l4), shapedL_ints _, shapedL_ints _, ?_⟩
          rw [eqvL_ints]
          by_cases ey : y = lot
          · rw [decide_eq_true ey]
            exact ⟨_, rfl, iteF (skip H3 e3 (by rw [decide_eq_true ey, gl]; rfl))⟩
          · rw [decide_eq_false ey]
            have hD4 := e3 _ _ hD3
            refine ⟨_, rfl, iteT ⟨_, rfl, _, hD4, by rw [List.length_map]; exact small1000 (by omega), fun b o hb => ?_, us ++ [t], by rw [upd_same, List.map_append]; rfl, ?_, by rw [List.length_append, List.length_singleton]; omega⟩⟩
            · rw [upd_ne (ne_of_none hb hD)]
              exact e3 _ _ (e _ _ hb)
            · rw [f1, if_pos (by rw [gl, decide_eq_false ey]; rfl)]
              have up : ∀ b xs, H3 b = some (.tup xs) → upd H3 D (.lst (us.map V.ref ++ [.ref t])) b = some (.tup xs) := fun b xs hb => by
                rw [upd_ne (fun z => by rw [z, hD4] at hb; cases hb)]
                exact hb
              exact ((tD.same e3).mono up).append (.cons (up _ _ (e3 _ _ hl2)) .nil)
        · have q2' : ¬ y.length < n := fun z => q2 (decide_eq_true (by rw [List.length_map]; omega))
          exact skip H2 (Same.refl H2) (by unfold goodLot; rw [decide_eq_false q2', Bool.and_false, Bool.false_and])
      · have q1' : ¬ 0 < y.length := fun z => q1 (decide_eq_true (by rw [List.length_map]; omega))
        refine ⟨_, rfl, ?_⟩
        refine iteF (skip H2 (Same.refl H2) (by unfold goodLot; rw [decide_eq_false q1', Bool.false_and, Bool.false_and]))
    obtain ⟨e2, vs, hD2, tD2, lv⟩ := pv
    have lsl : ls.length = (lotsTo (List.range n) n).length := tlo.len
    rw [List.length_map, lsl, List.take_length] at tD2
    have tD2 : TAt H2 vs (roadsF n lot) := tD2
    obtain ⟨v0, v32⟩ := roads_some n2 n5 lot
    have vl : vs.length = (roadsF n lot).length := tD2.len
    have x2 := Stay.of_same hh (e1.trans e2)
    obtain ⟨nDh, _⟩ := (hh.same e1).ne hD
    -- a land of other roads
    refine ⟨_, rfl, _, rfl, q, _, _, _, rfl, rfl, .inl (.inl (x2.tup l1)), atI_nat (j := 1) rfl, _, rfl, _, rfl, h, c0, D, _, rfl, x2.hand, nDh, hD2, by rw [List.length_map, vl]; exact v0, by rw [List.length_map, vl]; omega, fun H3 j v d3 hv => ?_⟩
    rw [List.getElem?_map] at hv
    obtain ⟨t, ht, rfl⟩ := Option.map_eq_some_iff.mp hv
    obtain ⟨y, hy, hty⟩ := tD2.get ht
    have d3 := Stay.of_drawn x2.hand d3
    have x3 := x2.trans d3
    have hty := d3.tup hty
    obtain ⟨my, gy⟩ := List.mem_filter.mp (List.mem_of_getElem? hy)
    obtain ⟨gy1, gy2⟩ := Bool.and_eq_true_iff.mp gy
    obtain ⟨gy3, gy4⟩ := Bool.and_eq_true_iff.mp gy1
    have ney : y ≠ lot := fun z => by rw [decide_eq_true z] at gy2; cases gy2
    obtain ⟨y1, y2⟩ := lot_lt n5 my
    have L3 := L.stay x3
    refine new_landR (a := a) n2 n5 (.inr (x3.lst l2 (notHand_refs ts))) (co_lit (l3.mono fun b xs hb => x3.tup hb)) (cos_es L.ok n5) L.ok.conn (.inl hty) y1 (pw_nodup y2) (of_decide_eq_true gy3) (of_decide_eq_true gy4) fun H4 fr es' rd' e4 nfr Fo pe pr => ?_
    rw [srt_map L.ok] at pe
    rw [es_is Fo.ok pe (L.ok.sorted.imp fun h => h), rd_is Fo.rso pr (y2.imp fun h => Nat.le_of_lt h)] at Fo
    have x4 := x3.same e4
    refine ⟨_, rfl, _, _, rfl, rfl, _, rfl, _, rfl, _, _, rfl, rfl, h, c0, _, rfl, x4.hand, by omega, ?_, fun H5 r d5 r0 r1 => ?_⟩
    · exact Int.lt_of_le_of_lt (show ((n : Nat) : Int) - 1 ≤ 1000 by omega) (by decide)
    obtain ⟨e, he, el, ene⟩ := place_ne hc n2 r0 r1
    refine ⟨_, _, rfl, rfl, .inl ⟨_, rfl, _, rfl, _, _, rfl, rfl, by omega, ?_⟩⟩
    rw [he]
    show gName 10 (V.int ((e % n : Nat) : Int)) _ _ _
    generalize e % n = b at el ene ⊢
    clear he r0 r1
    have d5 := Stay.of_drawn x4.hand d5
    have x5 := x4.trans d5
    -- a row of none
    refine ⟨by show 1 ≤ sizeLine; decide, fun t0 nt0 => ⟨_, rfl, t0, (n : Nat), [.str "none"], rfl, rfl, upd_same, by omega, by omega, ?_, fun Z nZ => ?_⟩⟩
    · rw [Int.toNat_natCast]
      exact Nat.le_of_lt (small1000 (by show 1 * n ≤ 1000; omega))
    have hZ : (upd (upd H5 t0 (.lst [.str "none"])) Z (.lst (List.replicate ((n : Nat) : Int).toNat [V.str "none"]).flatten)) Z = some (.lst (wds (List.replicate n 0))) := by
      rw [upd_same, Int.toNat_natCast, flat_one]
      unfold wds
      rw [List.map_replicate]
      rfl
    have e6 : Same H5 (upd (upd H5 t0 (.lst [.str "none"])) Z (.lst (List.replicate ((n : Nat) : Int).toNat [V.str "none"]).flatten)) := (al nt0).trans (al nZ)
    have x6 := x5.same e6
    have Fo6 := (Fo.stay d5).same e6
    generalize upd (upd H5 t0 (.lst [.str "none"])) Z (.lst (List.replicate ((n : Nat) : Int).toNat [V.str "none"]).flatten) = H6 at hZ e6 x6 Fo6 ⊢
    have W6 := W.stay x6
    have M6 := M.stay x6
    have hO6 := x6.lst hO (notHand_ints own)
    have zk := zero_ok hc olt ond ome
    have zb : VwOk n b [b] (List.replicate n 0) := zero_ok el (fun x hx => by rw [List.mem_singleton.mp hx]; exact el) (by simp) (List.mem_singleton.mpr rfl)
    -- things that are no view
    refine ⟨_, rfl, _, rfl, by show 1 ≤ sizeLine; decide, fun vl nvl => ?_⟩
    have e7 := al (o := .lst [.ref p]) nvl
    have hvl7 : upd H6 vl (.lst [.ref p]) vl = some (.lst [.ref p]) := upd_same
    generalize upd H6 vl (.lst [.ref p]) = H7 at e7 hvl7 ⊢
    refine ⟨by show 5 ≤ sizeLine; decide, fun tp ntp => ?_⟩
    have e8 := al (o := .tup [.non, .int 0, .str "view", .ref m, .ref vl]) ntp
    have htp : upd H7 tp (.tup [.non, .int 0, .str "view", .ref m, .ref vl]) tp = some (.tup [.non, .int 0, .str "view", .ref m, .ref vl]) := upd_same
    have hvl8 := e8 _ _ hvl7
    have e68 := e7.trans e8
    generalize upd H7 tp (.tup [.non, .int 0, .str "view", .ref m, .ref vl]) = H8 at e8 htp hvl8 e68 ⊢
    have odds : ∀ H', Same H8 H' → ∀ x ∈ [V.non, V.int 0, V.str "view", V.ref m, V.ref vl], NonC K H' VC x := fun H' e x hx => by
      simp only [List.mem_cons, List.not_mem_nil, or_false] at hx
      rcases hx with rfl | rfl | rfl | rfl | rfl
      · exact ⟨_, fun _ _ => .base .non, TZ.n⟩
      · exact ⟨_, fun _ _ => .base (.int _), TZ.i⟩
      · exact ⟨_, fun _ _ => .base (.str _), TZ.s⟩
      · exact ⟨_, fun H'' e' => ((M6.same (e68.trans e)).same e').ty T T2, TZ.c⟩
      · exact ⟨_, fun H'' e' => .base (.lst ((e.trans e') _ _ hvl8)), TZ.l⟩
    refine ⟨tp, rfl, ⟨_, .inl (.inl htp)⟩, for_tup (xs := [V.non, V.int 0, V.str "view", V.ref m, V.ref vl]) (fun i σ H' => ∃ y, σ = [some (.ref h), some (.ref q), some (.ref m), some (.int (c : Nat)), some (.ref O), some (.ref p), some (.int (n : Nat)), some (.ref D), none, some (.ref fr), some (.int (b : Nat)), some (.ref Z), y, none] ∧ Same H8 H') ⟨none, rfl, Same.refl H8⟩ (fun i σ H' _ pv => ?_) (fun i x σ H' hx pv => ?_) (fun σ H' pv => ?_)⟩
    · obtain ⟨y, rfl, e⟩ := pv
      exact .inl (.inl (e _ _ htp))
    · obtain ⟨y, rfl, e⟩ := pv
      have nx := odds H' e x (List.mem_of_getElem? hx)
      refine ⟨_, rfl, _, rfl, .ref p, x, "views", rfl, by decide +kernel, .inr (.inr ⟨p, l, n, es, lot, c, own', row, rfl, W6.same (e68.trans e), nx, rfl⟩), .inr (.inl ⟨nx, rfl⟩), fun H'' e' => ?_⟩
      exact ⟨_, rfl, iteF ⟨_, rfl, e.trans e'⟩⟩
    obtain ⟨y12, rfl, e⟩ := pv
    have e9 := e68.trans e
    have W9 := W6.same e9
    have M9 := M6.same e9
    have Fo9 := Fo6.same e9
    have hO9 := e9 _ _ hO6
    have hZ9 := e9 _ _ hZ
    clear e odds htp hvl8 e68 e8 e7 hvl7
    have bl : ∀ Ha va la ca oa ra, Same H' Ha → VwO a.C VC Ha va la n es y ca oa ra → TwBad K a.C VC Ha (.ref p) (.ref va) "land" ∧ TwBad K a.C VC Ha (.ref va) (.ref p) "land" := fun Ha va la ca oa ra ea A =>
      ⟨.inl ⟨p, va, l, la, n, es, lot, c, own', row, n, es, y, ca, oa, ra, rfl, rfl, W9.same ea, A, .inl ⟨fun z => ney z.2.2.symm, rfl⟩⟩, .inl ⟨va, p, la, l, n, es, y, ca, oa, ra, n, es, lot, c, own', row, rfl, rfl, A, W9.same ea, .inl ⟨fun z => ney z.2.2, rfl⟩⟩⟩
    have bc : ∀ Ha va la oa ra, Same H' Ha → VwO a.C VC Ha va la n es lot b oa ra → TwBad K a.C VC Ha (.ref p) (.ref va) "cell" ∧ TwBad K a.C VC Ha (.ref va) (.ref p) "cell" := fun Ha va la oa ra ea A =>
      ⟨.inl ⟨p, va, l, la, n, es, lot, c, own', row, n, es, lot, b, oa, ra, rfl, rfl, W9.same ea, A, .inr (.inl ⟨⟨rfl, rfl, rfl⟩, fun z => ene z.symm, rfl⟩)⟩, .inl ⟨va, p, la, l, n, es, lot, b, oa, ra, n, es, lot, c, own', row, rfl, rfl, A, W9.same ea, .inr (.inl ⟨⟨rfl, rfl, rfl⟩, ene, rfl⟩)⟩⟩
    have bo : ∀ Ha va la oa ra, Same H' Ha → VwO a.C VC Ha va la n es lot c oa ra → oa ≠ own' → TwBad K a.C VC Ha (.ref p) (.ref va) "own" ∧ TwBad K a.C VC Ha (.ref va) (.ref p) "own" := fun Ha va la oa ra ea A no =>
      ⟨.inl ⟨p, va, l, la, n, es, lot, c, own', row, n, es, lot, c, oa, ra, rfl, rfl, W9.same ea, A, .inr (.inr ⟨⟨rfl, rfl, rfl⟩, rfl, fun z => no z.symm, rfl⟩)⟩, .inl ⟨va, p, la, l, n, es, lot, c, oa, ra, n, es, lot, c, own', row, rfl, rfl, A, W9.same ea, .inr (.inr ⟨⟨rfl, rfl, rfl⟩, rfl, no, rfl⟩)⟩⟩
    refine ⟨_, rfl, _, rfl, _, rfl, _, rfl, _, rfl, new_viewR (a := a) (VC := VC) Fo9 (.inr hO9) (.inr hZ9) zk fun Ha va oa ea na pa A => ?_⟩
    obtain ⟨bl1, bl2⟩ := bl Ha va fr c oa _ ea A
    refine ⟨.ref p, .ref va, "land", rfl, by decide +kernel, bl1, bl2, fun Hb eb => ?_⟩
    have f1 := ea.trans eb
    refine ⟨_, rfl, _, rfl, _, rfl, _, rfl, _, rfl, by show 1 ≤ sizeLine; decide, fun B nB => ?_⟩
    have f2 := f1.trans (al (o := .lst [.int (b : Nat)]) nB)
    have hB2 : upd Hb B (.lst [.int (b : Nat)]) B = some (.lst (ints_ [b])) := upd_same
    generalize upd Hb B (.lst [.int (b : Nat)]) = Hc at f2 hB2 ⊢
    refine ⟨_, rfl, new_viewR (a := a) (VC := VC) (Fo9.same f2) (.inr hB2) (.inr (f2 _ _ hZ9)) zb fun Hd vd od ed nd pd A2 => ?_⟩
    obtain ⟨bl3, bl4⟩ := bl Hd vd fr b od _ (f2.trans ed) A2
    refine ⟨.ref p, .ref vd, "land", rfl, by decide +kernel, bl3, bl4, fun He ee => ?_⟩
    have f3 := (f2.trans ed).trans ee
    refine ⟨_, rfl, iteF ?_⟩
    -- another cell
    refine ⟨_, rfl, _, rfl, _, rfl, _, rfl, by show 1 ≤ sizeLine; decide, fun B' nB' => ?_⟩
    have f4 := f3.trans (al (o := .lst [.int (b : Nat)]) nB')
    have hB4 : upd He B' (.lst [.int (b : Nat)]) B' = some (.lst (ints_ [b])) := upd_same
    generalize upd He B' (.lst [.int (b : Nat)]) = Hf at f4 hB4 ⊢
    refine ⟨_, rfl, new_viewR (a := a) (VC := VC) (M9.same f4) (.inr hB4) (.inr (f4 _ _ hZ9)) zb fun Hg vg og eg ng pg A3 => ?_⟩
    obtain ⟨bc1, bc2⟩ := bc Hg vg m og _ (f4.trans eg) A3
    refine ⟨.ref p, .ref vg, "cell", rfl, by decide +kernel, bc1, bc2, fun Hi ei => ?_⟩
    have f5 := (f4.trans eg).trans ei
    refine ⟨_, rfl, iteF ?_⟩
    -- other own cells
    refine ⟨_, rfl, _, rfl, O, _, rfl, .inl (.inl (.inl (f5 _ _ hO9))), rfl, flat_ints own, _, rfl, ?_⟩
    rw [show inV (.int (b : Nat)) (ints_ own) = decide (b ∈ own) from inV_ints b own]
    by_cases bi : b ∈ own
    · rw [decide_eq_true bi]
      refine iteT ?_
      have hOi := f5 _ _ hO9
      refine ⟨_, rfl, _, rfl, _, rfl, _, rfl, O, rfl, ⟨_, .inl (.inl hOi)⟩, fun D2 hD2 => lc_list (xs := ints_ own) (fun j H2 => Same Hi H2 ∧ H2 D2 = some (.lst (ints_ ((own.take j).filter fun x => !decide (x = b))))) ⟨al hD2, upd_same⟩ (fun j H2 _ pv => .inl (.inl (pv.1 _ _ hOi))) (fun j x H2 hx pv => ?_) (fun H2 pv => ?_)⟩
      · obtain ⟨g2, hD3⟩ := pv
        unfold ints_ at hx
        rw [List.getElem?_map] at hx
        obtain ⟨z, hz, rfl⟩ := Option.map_eq_some_iff.mp hx
        have jl := (List.getElem?_eq_some_iff.mp hz).1
        have f1 : (own.take (j + 1)).filter (fun x => !decide (x = b)) = (own.take j).filter (fun x => !decide (x = b)) ++ (if (!decide (z = b)) = true then [z] else []) := by
          rw [List.take_add_one, hz, List.filter_append]
          congr 1
          show List.filter _ [z] = _
          rw [List.filter_cons]
          rfl
        refine ⟨rfl, _, rfl, _, rfl, rfl, _, rfl, ?_⟩
        rw [dec_int]
        by_cases zb' : z = b
        · rw [decide_eq_true zb']
          refine iteF ⟨g2, ?_⟩
          rw [f1, if_neg (by rw [decide_eq_true zb']; decide), List.append_nil]
          exact hD3
        · rw [decide_eq_false zb']
          refine iteT ⟨_, rfl, _, hD3, by rw [ints_len]; exact small1000 (Nat.le_trans (List.length_filter_le _ _) (by rw [List.length_take]; omega)), fun w o hw => ?_, ?_⟩
          · rw [upd_ne (ne_of_none hw hD2)]
            exact g2 _ _ hw
          · rw [upd_same, f1, if_pos (by rw [decide_eq_false zb']; rfl), ints_snoc]
      · obtain ⟨g2, hD3⟩ := pv
        have le : (ints_ own).length = own.length := ints_len own
        rw [le, List.take_length] at hD3
        have f6 := f5.trans g2
        have mf : ∀ x, x ∈ own.filter (fun x => !decide (x = b)) → x ∈ own ∧ x ≠ b := fun x hx => by
          obtain ⟨m1, m2⟩ := List.mem_filter.mp hx
          exact ⟨m1, fun z => by rw [decide_eq_true z] at m2; cases m2⟩
        have okf : VwOk n c (own.filter fun x => !decide (x = b)) (List.replicate n 0) := zero_ok hc (fun x hx => olt x (mf x hx).1) (ond.filter _) (List.mem_filter.mpr ⟨ome, by rw [decide_eq_false (fun z => ene z.symm)]; rfl⟩)
        refine ⟨_, rfl, new_viewR (a := a) (VC := VC) (M9.same f6) (.inr hD3) (.inr (f6 _ _ hZ9)) okf fun Hj vj oj ej nj pj A4 => ?_⟩
        obtain ⟨bo1, bo2⟩ := bo Hj vj m oj _ (f6.trans ej) A4 fun z => (mf b (pj.mem_iff.mp (by rw [z]; exact pm.mem_iff.mpr bi))).2 rfl
        exact ⟨.ref p, .ref vj, "own", rfl, by decide +kernel, bo1, bo2, fun H' _ => k H'⟩
    · rw [decide_eq_false bi]
      refine iteF ?_
      refine ⟨_, rfl, _, rfl, _, rfl, _, rfl, _, rfl, by show 1 ≤ sizeLine; decide, fun B2 nB2 => ?_⟩
      have f6 := f5.trans (al (o := .lst [.int (b : Nat)]) nB2)
      have hB6 : upd Hi B2 (.lst [.int (b : Nat)]) B2 = some (.lst (ints_ [b])) := upd_same
      generalize upd Hi B2 (.lst [.int (b : Nat)]) = Hj at f6 hB6 ⊢
      refine ⟨O, B2, _, _, rfl, rfl, f6 _ _ hO9, hB6, by rw [ints_len, ints_len]; exact Nat.le_of_lt (small1000 (by show own.length + 1 ≤ 1000; omega)), fun R2 nR2 => ?_⟩
      have f7 := f6.trans (al (o := .lst (ints_ own ++ ints_ [b])) nR2)
      have hR7 : upd Hj R2 (.lst (ints_ own ++ ints_ [b])) R2 = some (.lst (ints_ (own ++ [b]))) := by
        rw [upd_same]
        unfold ints_
        rw [List.map_append]
      generalize upd Hj R2 (.lst (ints_ own ++ ints_ [b])) = Hk at f7 hR7 ⊢
      have okg : VwOk n c (own ++ [b]) (List.replicate n 0) := zero_ok hc (fun x hx => (List.mem_append.mp hx).elim (olt x) fun z => by rw [List.mem_singleton.mp z]; exact el) (List.nodup_append.mpr ⟨ond, by simp, fun x hx x' hx' z => bi (by rw [← List.mem_singleton.mp hx', ← z]; exact hx)⟩) (List.mem_append.mpr (.inl ome))
      refine ⟨_, rfl, new_viewR (a := a) (VC := VC) (M9.same f7) (.inr hR7) (.inr (f7 _ _ hZ9)) okg fun Hm vm om em nm pm' A5 => ?_⟩
      obtain ⟨bo1, bo2⟩ := bo Hm vm m om _ (f7.trans em) A5 fun z => bi (pm.mem_iff.mp (by rw [← z]; exact pm'.mem_iff.mpr (List.mem_append.mpr (.inr (List.mem_singleton.mpr rfl)))))
      exact ⟨.ref p, .ref vm, "own", rfl, by decide +kernel, bo1, bo2, fun H' _ => k H'⟩
end
end K7
end
/-! ## P29 -/
section
open PySem PySem.Spec PyProof.Rows L2
namespace K7
abbrev N_law : List Str := ["_law_script", "_law_hand_here", "_law_n", "_law_land_here", "_law_cell", "_law_own", "_law_rows_here", "_law_made_here", "_law_views", "_law_twin", "_law_passed_here", "_law_b", "_law_told", "_law_measure", "_law_flag", "_law_word", "_law_odd", "_law_start"]
abbrev s_law : Stmt := topS 62
theorem sc_law : FnScope ["_law_script", "_law_hand_here", "_law_n", "_law_land_here", "_law_cell", "_law_own", "_law_rows_here", "_law_made_here", "_law_views", "_law_twin", "_law_passed_here", "_law_b", "_law_told", "_law_measure", "_law_flag", "_law_word", "_law_odd", "_law_start"] ["_law_script"] (defScope s_law) := ⟨rfl, rfl, rfl, by decide +kernel, rfl, by decide +kernel, by decide +kernel⟩
/-! ### the law -/
theorem numR_start {n c : Nat} : ∀ j, j ≤ n → numR (List.range n) (List.replicate n 0) c j = 0
  | 0, _ => rfl
  | j + 1, h => by
    have ih := numR_start (n := n) (c := c) j (by omega)
    show (if j = c then numR (List.range n) (List.replicate n 0) c j else numR (List.range n) (List.replicate n 0) c j * 5 + wayK (decide (j ∈ List.range n)) ((List.replicate n 0).getD j 0)) = 0
    have g : (List.replicate n 0).getD j 0 = 0 := by
      rw [List.getD_eq_getElem?_getD, List.getElem?_replicate]
      split <;> rfl
    rw [ih, g, decide_eq_true (List.mem_range.mpr (by omega))]
    split <;> rfl
theorem pas_len (n : Nat) (own row : List Nat) : (pasF n own row).length ≤ n := Nat.le_trans (List.length_filter_le _ _) (by rw [List.length_range]; exact Nat.le_refl n)
theorem sur_pas {n : Nat} {own own0 w0 w1 : List Nat} (h : ∀ b, b ∈ own0 ↔ b ∈ own) : (pasF n own w0).filter (fun b => !decide (b ∈ pasF n own w1)) = surF n own0 w0 w1 := by
  unfold surF
  rw [rig_perm h, rig_perm h, rig_eq n own w0]
  unfold pasF
  rw [List.filter_filter, List.filter_filter]
  refine List.filter_congr fun x hx => ?_
  have e1 : decide (x ∈ (List.range n).filter fun b => decide (b ∈ own) || rightV (w1.getD b 0)) = (decide (x ∈ own) || rightV (w1.getD x 0)) := by
    rw [Bool.eq_iff_iff, decide_eq_true_iff, List.mem_filter]
    exact ⟨fun z => z.2, fun z => ⟨hx, z⟩⟩
  have e2 : decide (x ∈ rigF n own w1) = (rightV (w1.getD x 0) && !decide (x ∈ own)) := by
    rw [rig_eq, Bool.eq_iff_iff, decide_eq_true_iff, List.mem_filter]
    exact ⟨fun z => z.2, fun z => ⟨hx, z⟩⟩
  rw [e1, e2]
  cases decide (x ∈ own) <;> cases rightV (w0.getD x 0) <;> cases rightV (w1.getD x 0) <;> rfl
theorem boolsL {K : PySem.W.Frag} {H : Hp} {D : Addr} (bs : List Bool) (hl : bs.length ≤ 10) (h : H D = some (.lst (bs.map V.bl))) : Dp K H (.ref D) (.list (bs.map PyData.bool)) ∧ SeqAt.shaped (.list (bs.map PyData.bool)) = true ∧ PyData.canLay0 (.list (bs.map PyData.bool)) = true := by
  have dp : ∀ bs : List Bool, DpAll K H (bs.map V.bl) (bs.map PyData.bool) := fun bs => by
    induction bs with
    | nil => exact .nil
    | cons b t ih => exact .cons (.bl b) ih
  have la : ∀ bs : List Bool, PyData.canLayAll0 (bs.map PyData.bool) = true := fun bs => by
    induction bs with
    | nil => rfl
    | cons b t ih => simp [PyData.canLayAll0, PyData.canLay0, ih]
  have de : ∀ bs : List Bool, PyData.depthAll (bs.map PyData.bool) ≤ 10 := fun bs => by
    induction bs with
    | nil => simp [PyData.depthAll]
    | cons b t ih => simp [PyData.depthAll, PyData.depth, ih]
  have cl : PyData.canLay0 (.list (bs.map PyData.bool)) = true := by simp [PyData.canLay0, la]
  refine ⟨.lst (.inl (.inl h)) (dp bs), ?_, cl⟩
  show (PyData.canLay0 (.list (bs.map PyData.bool)) && decide (PyData.depth (.list (bs.map PyData.bool)) ≤ 64)) = true
  rw [cl]
  have z := de bs
  rw [Bool.true_and]
  unfold PyData.depth
  exact decide_eq_true (by omega)
theorem datS {K : PySem.W.Frag} {H : Hp} {z : Str} (ok : PyData.strOk z = true) : DatD K H (.str z) := by
  have cl : PyData.canLay0 (.str z) = true := by simp [PyData.canLay0, ok]
  refine ⟨.str z, ?_, cl, fun _ _ => .str _⟩
  show (PyData.canLay0 (.str z) && decide (PyData.depth (.str z) ≤ 64)) = true
  rw [cl]
  simp [PyData.depth]
theorem datT {K : PySem.W.Frag} {H : Hp} {z : Str} {A : Addr} (ok : PyData.strOk z = true) (h : H A = some (.tup [.str z])) : DatD K H (.ref A) := by
  have cl : PyData.canLay0 (.tuple [.str z]) = true := by simp [PyData.canLay0, PyData.canLayAll0, ok]
  refine ⟨.tuple [.str z], ?_, cl, fun _ e => .tup (.inl (.inl (e _ _ h))) (.cons (.str _) .nil)⟩
  show (PyData.canLay0 (.tuple [.str z]) && decide (PyData.depth (.tuple [.str z]) ≤ 64)) = true
  rw [cl]
  simp [PyData.depth, PyData.depthAll]
theorem datL {K : PySem.W.Frag} {H : Hp} {z : Str} {A : Addr} (ok : PyData.strOk z = true) (h : H A = some (.lst [.str z])) : DatD K H (.ref A) := by
  have cl : PyData.canLay0 (.list [.str z]) = true := by simp [PyData.canLay0, PyData.canLayAll0, ok]
  refine ⟨.list [.str z], ?_, cl, fun _ e => .lst (.inl (.inl (e _ _ h))) (.cons (.str _) .nil)⟩
  show (PyData.canLay0 (.list [.str z]) && decide (PyData.depth (.list [.str z]) ≤ 64)) = true
  rw [cl]
  simp [PyData.depth, PyData.depthAll]
theorem datI {K : PySem.W.Frag} {H : Hp} (i : Int) : DatD K H (.int i) := ⟨.int i, by simp [SeqAt.shaped, PyData.canLay0, PyData.depth], by simp [PyData.canLay0], fun _ _ => .int _⟩
theorem datB {K : PySem.W.Frag} {H : Hp} (b : Bool) : DatD K H (.bl b) := ⟨.bool b, by simp [SeqAt.shaped, PyData.canLay0, PyData.depth], by simp [PyData.canLay0], fun _ _ => .bl _⟩
theorem datN {K : PySem.W.Frag} {H : Hp} : DatD K H .non := ⟨.none, by simp [SeqAt.shaped, PyData.canLay0, PyData.depth], by simp [PyData.canLay0], fun _ _ => .non⟩
theorem inW_no {K : PySem.W.Frag} {H : Hp} {z : Str} (h : decide (z ∈ measuresL) = false) : InW K H measuresL (.str z) false := h ▸ InW.str z
theorem words_odd : ∀ j : Fin 3, (msr j.val).length ≤ 10 ∧ PyData.strOk (msr j.val) = true ∧ decide ((msr j.val ++ ("s" : Str)) ∈ measuresL) = false ∧ PyData.strOk (msr j.val ++ ("s" : Str)) = true ∧ decide (cutS (msr j.val) (some 1) none ∈ measuresL) = false ∧ PyData.strOk (cutS (msr j.val) (some 1) none) = true := by decide +kernel
/-- what stands while the law looks on -/
structure LwS (a : AdL) (VC TC : Addr) (H : Hp) (h c0 q m O LL R0 R1 WW t p p' : Addr) (n c : Nat) (es : List (Nat × Nat)) (lot own own0 w0 w1 : List Nat) : Prop where
  hh : Hand H h c0
  la : LandAt H q n es lot
  md : LandO a.C H m n es lot
  o : H O = some (.lst (ints_ own))
  l : H LL = some (.lst [.ref R0, .ref R1])
  a0 : H R0 = some (.lst (wds w0))
  a1 : H R1 = some (.lst (wds w1))
  w : H WW = some (.lst [.ref p, .ref p'])
  tw : TwO a.C VC TC H t p p' m m n es lot c own0 w0 w1
  pm : own0.Perm own
  v0 : VwOk n c own w0
  v1 : VwOk n c own w1
  n2 : 2 ≤ n
  n5 : n ≤ 5
theorem LwS.same {a : AdL} {VC TC : Addr} {H H' : Hp} {h c0 q m O LL R0 R1 WW t p p' : Addr} {n c : Nat} {es : List (Nat × Nat)} {lot own own0 w0 w1 : List Nat} (x : LwS a VC TC H h c0 q m O LL R0 R1 WW t p p' n c es lot own own0 w0 w1) (e : Same H H') : LwS a VC TC H' h c0 q m O LL R0 R1 WW t p p' n c es lot own own0 w0 w1 :=
  ⟨x.hh.same e, x.la.same e, x.md.same e, e _ _ x.o, e _ _ x.l, e _ _ x.a0, e _ _ x.a1, e _ _ x.w, x.tw.same e, x.pm, x.v0, x.v1, x.n2, x.n5⟩
theorem LwS.stay {a : AdL} {VC TC : Addr} {H H' : Hp} {h c0 q m O LL R0 R1 WW t p p' : Addr} {n c : Nat} {es : List (Nat × Nat)} {lot own own0 w0 w1 : List Nat} (x : LwS a VC TC H h c0 q m O LL R0 R1 WW t p p' n c es lot own own0 w0 w1) (e : Stay h c0 H H') : LwS a VC TC H' h c0 q m O LL R0 R1 WW t p p' n c es lot own own0 w0 w1 :=
  ⟨e.hand, x.la.stay e, x.md.stay e, e.lst x.o (notHand_ints own), e.lst x.l (notHand_refs [R0, R1]), e.wds x.a0, e.wds x.a1, e.lst x.w (notHand_refs [p, p']), x.tw.stay e, x.pm, x.v0, x.v1, x.n2, x.n5⟩
def lwT (s0 h q O LL m WW t : Addr) (n c : Nat) (r : List (Option V)) : L2.St := [some (.ref s0), some (.ref h), some (.int (n : Nat)), some (.ref q), some (.int (c : Nat)), some (.ref O), some (.ref LL), some (.ref m), some (.ref WW), some (.ref t)] ++ r
section
variable {P : Program} {w : World} {K : PySem.W.Frag} {mg : Str → Option Value} {base : Heap} {a : AdL} {VC TC fE fQ fQT BT iT BM iM aMS L : Addr}
theorem new_twinR {H1 : Hp} {R : Addr → Hp → Prop} {E : XK} {p q l l' : Addr} {n : Nat} {es : List (Nat × Nat)} {rd : List Nat} {c : Nat} {own r1 r2 : List Nat} (W : VwO a.C VC H1 p l n es rd c own r1) (W' : VwO a.C VC H1 q l' n es rd c own r2)
    (k : ∀ H' x, Same H1 H' → H1 x = none → TwO a.C VC TC H' x p q l l' n es rd c own r1 r2 → R x H') :
    ∀ x dx, H1 x = none → H1 dx = none → dx ≠ x → spTwI K a VC TC BT (.ref x :: ([.ref p, .ref q] ++ [])) (upd (upd H1 dx (.own x)) x (.ins TC dx [])) (fun v H2 => v = .non ∧ R x H2) E :=
  new_twin (a := a) (VC := VC) (TC := TC) (BT := BT) (Q := refQ R) W W' k
def spLaw (K : PySem.W.Frag) : Sp := fun vs H Q _ => ∃ (s : Addr) (ns : List Int), vs = [.ref s] ∧ SqL K H s (ns.map V.int) ∧ ns.length ≤ 63 ∧ ∀ H', Q (.bl true) H'
theorem ok_law (T : Tl K mg a) (T2 : Tk K a.C fE) (TV : Tv K mg VC fQ) (TT : Tt K mg TC fQT) (gMS : mg "MEASURES" = some (.ref aMS)) (sMS : ∀ H, SqT K H aMS (measuresL.map V.str))
    {f fha fdr fld fpk frw fmd fnn fps fdd fex fmr fsr frs fts fdi psg fsu fV fT : Addr} {fd fdha fddr fdld fdpk fdrw fdmd fdnn fdps fddd fdex fdmr fdsr fdrs fdts fddi fdsu fdV fdT fdQ fdQT fdE : FuncData} (F : Fun K "law" "law" s_law f fd)
    (Gha : FnOk P w K mg base CX0 1 fha fdha ["_law_script"] (spHand K)) (gha : mg "_law_hand" = some (.ref fha)) (kha : PySem.W.keepIn K (.ref fha) = true) (bha : Binds K fdha ["_law_script"] [])
    (Gdr : FnOk P w K mg base CX0 2 fdr fddr ["_law_hand_here", "_law_many"] spDraw) (gdr : mg "_law_draw" = some (.ref fdr)) (kdr : PySem.W.keepIn K (.ref fdr) = true) (bdr : Binds K fddr ["_law_hand_here", "_law_many"] [])
    (Gld : FnOk P w K mg base CX0 4 fld fdld ["_law_hand_here", "_law_n"] spLand) (gld : mg "_law_land" = some (.ref fld)) (kld : PySem.W.keepIn K (.ref fld) = true) (bld : Binds K fdld ["_law_hand_here", "_law_n"] [])
    (Gpk : FnOk P w K mg base CX0 3 fpk fdpk ["_law_hand_here", "_law_things"] spPick) (gpk : mg "_law_pick" = some (.ref fpk)) (kpk : PySem.W.keepIn K (.ref fpk) = true) (bpk : Binds K fdpk ["_law_hand_here", "_law_things"] [])
    (Grw : FnOk P w K mg base CX0 4 frw fdrw ["_law_hand_here", "_law_n", "_law_cell"] spRws) (grw : mg "_law_rows" = some (.ref frw)) (krw : PySem.W.keepIn K (.ref frw) = true) (brw : Binds K fdrw ["_law_hand_here", "_law_n", "_law_cell"] [])
    (Gmd : FnOk P w K mg base CX0 7 fmd fdmd ["_law_land_here"] (spMade a)) (gmd : mg "_law_made" = some (.ref fmd)) (kmd : PySem.W.keepIn K (.ref fmd) = true) (bmd : Binds K fdmd ["_law_land_here"] [])
    (Gnn : FnOk P w K mg base CX0 1 fnn fdnn ["_law_n", "_law_cell", "_law_own", "_law_row"] spNmL) (gnn : mg "_law_number" = some (.ref fnn)) (knn : PySem.W.keepIn K (.ref fnn) = true) (bnn : Binds K fdnn ["_law_n", "_law_cell", "_law_own", "_law_row"] [])
    (Gps : FnOk P w K mg base CX0 1 fps fdps ["_law_n", "_law_own", "_law_row"] spPsL) (gps : mg "_law_passed" = some (.ref fps)) (kps : PySem.W.keepIn K (.ref fps) = true) (bps : Binds K fdps ["_law_n", "_law_own", "_law_row"] [])
    (Gdd : FnOk P w K mg base CX0 3 fdd fddd ["_law_land_here", "_law_owns", "_law_rows_here"] spDue) (gdd : mg "_law_due_differs" = some (.ref fdd)) (kdd : PySem.W.keepIn K (.ref fdd) = true) (bdd : Binds K fddd ["_law_land_here", "_law_owns", "_law_rows_here"] [])
    (Gex : FnOk P w K mg base CX0 6 fex fdex ["_law_twin", "_law_views", "_law_rows_here", "_law_surplus"] (spExc K a VC TC)) (gex : mg "_law_exchanged" = some (.ref fex)) (kex : PySem.W.keepIn K (.ref fex) = true) (bex : Binds K fdex ["_law_twin", "_law_views", "_law_rows_here", "_law_surplus"] [])
    (Gmr : FnOk P w K mg base CX0 5 fmr fdmr ["_law_twin", "_law_odd"] (spMrf K a VC TC)) (gmr : mg "_law_measure_refused" = some (.ref fmr)) (kmr : PySem.W.keepIn K (.ref fmr) = true) (bmr : Binds K fdmr ["_law_twin", "_law_odd"] [])
    (Gsr : FnOk P w K mg base CX0 10 fsr fdsr ["_law_land_here", "_law_odd"] (spSrf K a)) (gsr : mg "_law_start_refused" = some (.ref fsr)) (ksr : PySem.W.keepIn K (.ref fsr) = true) (bsr : Binds K fdsr ["_law_land_here", "_law_odd"] [])
    (Grs : FnOk P w K mg base CX0 9 frs fdrs ["_law_hand_here", "_law_land_here", "_law_made_here", "_law_cell", "_law_own", "_law_view"] (spRefs a VC)) (grs : mg "_law_refusals" = some (.ref frs)) (krs : PySem.W.keepIn K (.ref frs) = true) (brs : Binds K fdrs ["_law_hand_here", "_law_land_here", "_law_made_here", "_law_cell", "_law_own", "_law_view"] [])
    (Gts : FnOk P w K mg base (L2.CX P w) 9 fts fdts ["land", "cell"] (spTwS a VC TC)) (gts : mg "twin_start" = some (.ref fts)) (kts : PySem.W.keepIn K (.ref fts) = true) (bts : Binds K fdts ["land", "cell"] [])
    (mdi : Meth K TC "differs" fdi) (Gdi : FnOk P w K mg base (L2.CX P w) 4 fdi fddi ["self", "measure"] (spDif K a VC TC BM)) (bdi : Binds K fddi ["self", "measure"] [])
    (psu : PropOf K TC "surplus" psg fsu) (Gsu : FnOk P w K mg base CX0 1 fsu fdsu ["self"] (spSur a VC TC)) (bsu : Binds K fdsu ["self"] [])
    (MV : Mk K VC fV) (GV : FnOk P w K mg base CX0 4 fV fdV ["self", "land", "cell", "own", "standings"] (spVwI a VC)) (bV : Binds K fdV ["self", "land", "cell", "own", "standings"] [])
    (MT : Mk K TC fT) (GT : FnOk P w K mg base (L2.CX P w) 3 fT fdT ["self", "one", "other"] (spTwI K a VC TC BT)) (bT : Binds K fdT ["self", "one", "other"] [])
    (GQ : FnOk P w K mg base CX0 2 fQ fdQ ["self", "other"] (spEqV a VC)) (bQ : Binds K fdQ ["self", "other"] [])
    (GQT : FnOk P w K mg base CX0 3 fQT fdQT ["self", "other"] (spEqT K a VC TC)) (bQT : Binds K fdQT ["self", "other"] [])
    (GE : FnOk P w K mg base CX0 1 fE fdE ["self", "other"] (spEqL a.C)) (bE : Binds K fdE ["self", "other"] [])
    (m_list : mg "list" = none) (m_tuple : mg "tuple" = none) (m_sorted : mg "sorted" = none) (m_isinstance : mg "isinstance" = none) (m_bool : mg "bool" = none) (m_len : mg "len" = none) : FnOk P w K mg base CX0 11 f fd ["_law_script"] (spLaw K) := by
  refine F.ok sc_law (fun vs H Q E h => ?_) (fun cdv A outer s H vs Q E hr h => ?_)
  · obtain ⟨s, ns, rfl, _⟩ := h
    rfl
  · obtain ⟨s0, ns, rfl, hS, hl, fin⟩ := h
    refine ⟨_, (pss_cons (ps_set (i := 1) sc_law.nd rfl (by first | exact Or.inl rfl | exact Or.inr rfl) (pe_call Gha (hr.mono (by decide)) (by rfl) gha kha bha .nil pass0 (pa_cons (pv 0) pa_nil)))
 (pss_cons (ps_set (i := 2) sc_law.nd rfl (by first | exact Or.inl rfl | exact Or.inr rfl) (pe_op op_add pe_int (pe_call Gdr (hr.mono (by decide)) (by rfl) gdr kdr bdr .nil pass0 (pa_cons (pv 1) (pa_cons pe_int pa_nil)))))
 (pss_cons (ps_set (i := 3) sc_law.nd rfl (by first | exact Or.inl rfl | exact Or.inr rfl) (pe_call Gld (hr.mono (by decide)) (by rfl) gld kld bld .nil pass0 (pa_cons (pv 1) (pa_cons (pv 2) pa_nil))))
 (pss_cons (ps_set (i := 4) sc_law.nd rfl (by first | exact Or.inl rfl | exact Or.inr rfl) (pe_call Gdr (hr.mono (by decide)) (by rfl) gdr kdr bdr .nil pass0 (pa_cons (pv 1) (pa_cons (pv 2) pa_nil))))
 (pss_cons (ps_asg (pe_call Grw (hr.mono (by decide)) (by rfl) grw krw brw .nil pass0 (pa_cons (pv 1) (pa_cons (pv 2) (pa_cons (pv 4) pa_nil)))) (pg_tup rfl (pgs_cons (pg_name (i := 5) sc_law.nd rfl (by first | exact Or.inl rfl | exact Or.inr rfl)) (pgs_cons (pg_name (i := 6) sc_law.nd rfl (by first | exact Or.inl rfl | exact Or.inr rfl)) pgs_nil))))
 (pss_cons (ps_set (i := 7) sc_law.nd rfl (by first | exact Or.inl rfl | exact Or.inr rfl) (pe_call Gmd (hr.mono (by decide)) (by rfl) gmd kmd bmd .nil pass0 (pa_cons (pv 3) pa_nil)))
 (pss_cons (ps_set (i := 8) sc_law.nd rfl (by first | exact Or.inl rfl | exact Or.inr rfl) (pe_lst (pa_cons (pe_make MV GV (hr.mono (by decide)) (by rfl) TV.g bV .nil pass0 (pa_cons (pv 7) (pa_cons (pv 4) (pa_cons (pv 5) (pa_cons (pe_ix ix_list (pv 6) pe_int (fun _ _ => rfl)) pa_nil))))) (pa_cons (pe_make MV GV (hr.mono (by decide)) (by rfl) TV.g bV .nil pass0 (pa_cons (pv 7) (pa_cons (pv 4) (pa_cons (pv 5) (pa_cons (pe_ix ix_list (pv 6) pe_int (fun _ _ => rfl)) pa_nil))))) pa_nil))))
 (pss_cons (ps_set (i := 9) sc_law.nd rfl (by first | exact Or.inl rfl | exact Or.inr rfl) (pe_make MT GT (hr.mono (by decide)) (by rfl) TT.g bT .nil passL (pa_cons (pe_ix ix_list (pv 8) pe_int (fun _ _ => rfl)) (pa_cons (pe_ix ix_list (pv 8) pe_int (fun _ _ => rfl)) pa_nil))))
 (pss_cons (ps_if (pw_or (pt_cmpR (K7E.op_neOwn GQ TV.ne TV.hm TV.eq TV.eqF bQ (hr.mono (by decide)) pass0) (pe_fld (pv 9) rfl) (pe_ix ix_list (pv 8) pe_int (fun _ _ => rfl)) (nomark _)) (pw_or (pt_cmpR (K7E.op_neOwn GQ TV.ne TV.hm TV.eq TV.eqF bQ (hr.mono (by decide)) pass0) (pe_fld (pv 9) rfl) (pe_ix ix_list (pv 8) pe_int (fun _ _ => rfl)) (nomark _)) (pw_or (pt_cmpR (K7E.op_neOwn GE T2.ne T2.hm T2.eq T2.eqF bE (hr.mono (by decide)) pass0) (pe_fld (pv 9) rfl) (pv 7) (nomark _)) (pw_or1 (pt_cmpR op_ne (pe_fld (pv 9) rfl) (pv 4) (nomark _)))))).pt
  (pss_one (ps_ret pe_bl))
  pss_nil)
 (Evl.pss_cut (ps_if (pw_or (pt_cmpR (op_neD hr.units) (pe_fld (pv 9) rfl) (pe_callTy call_tuple_of (by rfl) m_tuple boot_tuple (pa_cons (pe_callB K7S.cr_sortA (by rfl) m_sorted boot_sorted (pa_cons (pv 5) pa_nil)) pa_nil)) (nomark _)) (pw_or1 (pt_cmpR (op_neD hr.units) (pe_fld (pv 9) rfl) (pe_tup (pa_cons (pe_call Gnn (hr.mono (by decide)) (by rfl) gnn knn bnn .nil pass0 (pa_cons (pv 2) (pa_cons (pv 4) (pa_cons (pv 5) (pa_cons (pe_ix ix_list (pv 6) pe_int (fun _ _ => rfl)) pa_nil))))) (pa_cons (pe_call Gnn (hr.mono (by decide)) (by rfl) gnn knn bnn .nil pass0 (pa_cons (pv 2) (pa_cons (pv 4) (pa_cons (pv 5) (pa_cons (pe_ix ix_list (pv 6) pe_int (fun _ _ => rfl)) pa_nil))))) pa_nil))) (nomark _)))).pt
  (pss_one (ps_ret pe_bl))
  pss_nil)
 (pss_cons (ps_set (i := 10) sc_law.nd rfl (by first | exact Or.inl rfl | exact Or.inr rfl) (pe_lst (pa_cons (pe_call Gps (hr.mono (by decide)) (by rfl) gps kps bps .nil pass0 (pa_cons (pv 2) (pa_cons (pv 5) (pa_cons (pe_ix ix_list (pv 6) pe_int (fun _ _ => rfl)) pa_nil)))) (pa_cons (pe_call Gps (hr.mono (by decide)) (by rfl) gps kps bps .nil pass0 (pa_cons (pv 2) (pa_cons (pv 5) (pa_cons (pe_ix ix_list (pv 6) pe_int (fun _ _ => rfl)) pa_nil)))) pa_nil))))
 (pss_cons (ps_if (pt_cmpR (op_neD hr.units) (pe_prop (pv 9) TT.cl psu Gsu (hr.mono (by decide)) bsu .nil pass0 rfl) (pe_callTy call_tuple_of (by rfl) m_tuple boot_tuple (pa_cons (pe_lc (own := [("_law_b", 11)]) (g := gName 11) rfl sc_law.nd (pi_list (pe_ix ix_list (pv 10) pe_int (fun _ _ => rfl))) (blkOk_by (own := [("_law_b", 11)]) (N := N_law) (sc := defScope s_law) (by decide +kernel)) (fun _ _ _ _ _ => (pg_name (i := 11) sc_law.nd rfl (by first | exact Or.inl rfl | exact Or.inr rfl))) (fun _ _ _ _ _ => (pts_one (pt_cmpR (show OpR _ _ (rIn K true) from op_notIn_seq) (pv 11) (pe_ix (show IxR _ (rIxL K) from ix_list) (pv 10) pe_int (fun _ _ => rfl)) (by with_unfolding_all rfl)))) (fun _ _ _ _ _ => (pv 11))) pa_nil)) (nomark _))
  (pss_one (ps_ret pe_bl))
  pss_nil)
 (pss_cons (ps_setLc (i := 12) (own := [("_law_measure", 13)]) (g := gName 13) (tt := tYes) rfl sc_law.nd rfl rfl (sw_true rfl rfl rfl (by decide +kernel)) (pi_tup (pe_glob (v := .ref _) (by rfl) gMS rfl)) (blkOk_by (own := [("_law_measure", 13)]) (N := N_law) (sc := defScope s_law) (by decide +kernel)) (fun _ _ _ _ _ => (pg_name (i := 13) sc_law.nd rfl (by first | exact Or.inl rfl | exact Or.inr rfl))) (fun _ _ _ _ _ => pts_nil) (fun _ _ _ _ _ => (pe_meth (pv 9) TT.cl mdi Gdi (hr.mono (by decide)) bdi .nil passL (pa_cons (pv 13) pa_nil))))
 (Evl.pss_cut (ps_if (pw_or (pt_cmpR (op_neD hr.units) (pe_glob (v := .ref _) (by rfl) gMS rfl) (pe_tup (pa_cons pe_str (pa_cons pe_str (pa_cons pe_str pa_nil)))) (nomark _)) (pw_or1 (pt_cmpR (op_neD hr.units) (pv 12) (pe_call Gdd (hr.mono (by decide)) (by rfl) gdd kdd bdd .nil pass0 (pa_cons (pv 3) (pa_cons (pe_lst (pa_cons (pv 5) (pa_cons (pv 4) pa_nil))) (pa_cons (pv 6) pa_nil)))) (nomark _)))).pt
  (pss_one (ps_ret pe_bl))
  pss_nil)
 (pss_cons (ps_if (pt_cmpR (op_neD hr.units) (pe_lc (own := [("_law_flag", 14)]) (g := gName 14) rfl sc_law.nd (pi_list (pv 12)) (blkOk_by (own := [("_law_flag", 14)]) (N := N_law) (sc := defScope s_law) (by decide +kernel)) (fun _ _ _ _ _ => (pg_name (i := 14) sc_law.nd rfl (by first | exact Or.inl rfl | exact Or.inr rfl))) (fun _ _ _ _ _ => (pts_one (pt_not (pt_val (pe_callB (show CallR _ (.builtin "isinstance") (rIsi K) from call_isi) (by rfl) m_isinstance boot_isinstance (pa_cons (pv 14) (pa_cons (pe_bltn (v := .ty "bool") (by rfl) m_bool boot_bool rfl) pa_nil))))))) (fun _ _ _ _ _ => (pv 14))) (pe_lst pa_nil) (nomark _))
  (pss_one (ps_ret pe_bl))
  pss_nil)
 (pss_cons (ps_if (pt_not (pt_val (pe_call Gex (hr.mono (by decide)) (by rfl) gex kex bex .nil pass0 (pa_cons (pv 9) (pa_cons (pv 8) (pa_cons (pv 6) (pa_cons (pe_callTy call_tuple_of (by rfl) m_tuple boot_tuple (pa_cons (pe_lc (own := [("_law_b", 11)]) (g := gName 11) rfl sc_law.nd (pi_list (pe_ix ix_list (pv 10) pe_int (fun _ _ => rfl))) (blkOk_by (own := [("_law_b", 11)]) (N := N_law) (sc := defScope s_law) (by decide +kernel)) (fun _ _ _ _ _ => (pg_name (i := 11) sc_law.nd rfl (by first | exact Or.inl rfl | exact Or.inr rfl))) (fun _ _ _ _ _ => (pts_one (pt_cmpR (show OpR _ _ (rIn K true) from op_notIn_seq) (pv 11) (pe_ix (show IxR _ (rIxL K) from ix_list) (pv 10) pe_int (fun _ _ => rfl)) (by with_unfolding_all rfl)))) (fun _ _ _ _ _ => (pv 11))) pa_nil)) pa_nil)))))))
  (pss_one (ps_ret pe_bl))
  pss_nil)
 (Evl.pss_cut (ps_if (pt_cmpR (K7E.op_neOwn GQT TT.ne TT.hm TT.eq TT.eqF bQT (hr.mono (by decide)) pass0) (pv 9) (pe_make MT GT (hr.mono (by decide)) (by rfl) TT.g bT .nil passL (pa_cons (pe_make MV GV (hr.mono (by decide)) (by rfl) TV.g bV .nil pass0 (pa_cons (pv 7) (pa_cons (pv 4) (pa_cons (pe_revL (pv 5)) (pa_cons (pe_callTy call_list_of (by rfl) m_list boot_list (pa_cons (pe_ix ix_list (pv 6) pe_int (fun _ _ => rfl)) pa_nil)) pa_nil))))) (pa_cons (pe_make MV GV (hr.mono (by decide)) (by rfl) TV.g bV .nil pass0 (pa_cons (pv 7) (pa_cons (pv 4) (pa_cons (pv 5) (pa_cons (pe_callTy call_tuple_of (by rfl) m_tuple boot_tuple (pa_cons (pe_ix ix_list (pv 6) pe_int (fun _ _ => rfl)) pa_nil)) pa_nil))))) pa_nil))) (nomark _))
  (pss_one (ps_ret pe_bl))
  pss_nil)
 (pss_cons (ps_set (i := 15) sc_law.nd rfl (by first | exact Or.inl rfl | exact Or.inr rfl) (pe_call Gpk (hr.mono (by decide)) (by rfl) gpk kpk bpk .nil pass0 (pa_cons (pv 1) (pa_cons (pe_lst (pa_cons pe_str (pa_cons pe_str (pa_cons pe_str pa_nil)))) pa_nil))))
 (pss_cons (ps_for PassesOwn.never rfl (pi_tup (pe_tup (pa_cons (pe_op op_add_str (pv 15) pe_str) (pa_cons (pe_slice sl_str (pv 15) (po_some pe_int) po_none) (pa_cons pe_str (pa_cons pe_non (pa_cons pe_bl (pa_cons pe_int (pa_cons (pe_tup (pa_cons (pv 15) pa_nil)) (pa_cons (pe_lst (pa_cons (pv 15) pa_nil)) pa_nil)))))))))) (pg_name (i := 16) sc_law.nd rfl (by first | exact Or.inl rfl | exact Or.inr rfl))
  (pss_one (ps_if (pt_not (pt_val (pe_call Gmr (hr.mono (by decide)) (by rfl) gmr kmr bmr .nil pass0 (pa_cons (pv 9) (pa_cons (pv 16) pa_nil)))))
  (pss_one (ps_ret pe_bl))
  pss_nil)))
 (pss_cons (ps_for PassesOwn.never rfl (pi_tup (pe_tup (pa_cons (pv 2) (pa_cons (pe_un un_neg pe_int) (pa_cons pe_bl (pa_cons pe_non (pa_cons pe_str pa_nil))))))) (pg_name (i := 16) sc_law.nd rfl (by first | exact Or.inl rfl | exact Or.inr rfl))
  (pss_one (ps_if (pt_not (pt_val (pe_call Gsr (hr.mono (by decide)) (by rfl) gsr ksr bsr .nil pass0 (pa_cons (pv 7) (pa_cons (pv 16) pa_nil)))))
  (pss_one (ps_ret pe_bl))
  pss_nil)))
 (pss_cons (ps_set (i := 17) sc_law.nd rfl (by first | exact Or.inl rfl | exact Or.inr rfl) (pe_call Gts (hr.mono (by decide)) (by rfl) gts kts bts .nil passL (pa_cons (pv 7) (pa_cons (pv 4) pa_nil))))
 (pss_cons (ps_if (pw_or (pt_cmpR (op_neD hr.units) (pe_fld (pv 17) rfl) (pe_tup (pa_cons pe_int (pa_cons pe_int pa_nil))) (nomark _)) (pw_or (pt_cmpR op_ne (pe_callB call_len_seq (by rfl) m_len boot_len (pa_cons (pe_fld (pv 17) rfl) pa_nil)) (pv 2) (nomark _)) (pw_or1 (pt_val (pe_meth (pv 17) TT.cl mdi Gdi (hr.mono (by decide)) bdi .nil passL (pa_cons pe_str pa_nil)))))).pt
  (pss_one (ps_ret pe_bl))
  pss_nil)
 (pss_one (ps_ret (pe_call Grs (hr.mono (by decide)) (by rfl) grs krs brs .nil pass0 (pa_cons (pv 1) (pa_cons (pv 3) (pa_cons (pv 7) (pa_cons (pv 4) (pa_cons (pv 5) (pa_cons (pe_ix ix_list (pv 8) pe_int (fun _ _ => rfl)) pa_nil))))))))))))))))))))))))))))))), ?_⟩
    refine ⟨_, rfl, s0, ns, rfl, hS, hl, fun H1 h c0 e1 nh nc hh1 => ?_⟩
    refine ⟨_, rfl, h, c0, 4, rfl, hh1, by decide, by decide, fun H2 r d2 r0 r1 => ⟨_, _, rfl, rfl, ?_⟩⟩
    obtain ⟨n, hn⟩ : ∃ n : Nat, (2 : Int) + r = (n : Nat) := ⟨((2 : Int) + r).toNat, by omega⟩
    show gName 2 (V.int ((2 : Int) + r)) _ _ _
    rw [hn]
    have n2 : 2 ≤ n := by omega
    have n5 : n ≤ 5 := by omega
    have x2 := Stay.of_drawn hh1 d2
    refine ⟨_, rfl, _, rfl, h, c0, n, rfl, x2.hand, n2, n5, fun H3 q es lot x3 nq La => ?_⟩
    refine ⟨_, rfl, _, rfl, h, c0, n, rfl, x3.hand, by omega, Int.lt_of_le_of_lt (show ((n : Nat) : Int) ≤ 1000 by omega) (by decide), fun H4 rc d4 rc0 rc1 => ?_⟩
    obtain ⟨c, rfl⟩ : ∃ c : Nat, rc = (c : Nat) := ⟨rc.toNat, by omega⟩
    have hc : c < n := by omega
    have x4 := Stay.of_drawn x3.hand d4
    refine ⟨_, rfl, _, rfl, _, rfl, h, c0, n, c, rfl, x4.hand, hc, n5, fun H5 u O LL R0 R1 own w0 w1 x5 nu hu hO hL h0 h1 v0 v1 => ?_⟩
    have La5 := (La.stay x4).stay x5
    have hh5 := x5.hand
    refine ⟨u, _, rfl, .inl (.inl hu), rfl, _, _, rfl, _, _, rfl, rfl, ?_⟩
    clear e1 nh nc hh1 d2 x2 d4 x4 x3 La nq x5 nu hu
    -- the land, the views, the twin view
    refine ⟨_, rfl, q, n, es, lot, rfl, La5, n2, n5, fun H6 m e6 nm M => ?_⟩
    refine ⟨_, rfl, _, rfl, _, rfl, _, rfl, LL, _, _, _, rfl, rfl, .inl (.inl (e6 _ _ hL)), atI_nat (j := 0) rfl, new_viewR (a := a) (VC := VC) M (.inr (e6 _ _ hO)) (.inr (e6 _ _ h0)) v0 fun H7 p own0 e7 np pm W0 => ?_⟩
    have e57 := e6.trans e7
    refine ⟨_, rfl, _, rfl, _, rfl, _, rfl, LL, _, _, _, rfl, rfl, .inl (.inl (e57 _ _ hL)), atI_nat (j := 1) rfl, new_viewR (a := a) (VC := VC) (M.same e7) (.inr (e57 _ _ hO)) (.inr (e57 _ _ h1)) v1 fun H8 p' own1 e8 np' pm1 W1 => ?_⟩
    rw [srt_uniq W1.so W0.so (pm1.trans pm.symm)] at W1
    have W0 := W0.same e8
    have e58 := e57.trans e8
    refine ⟨by show 2 ≤ sizeLine; decide, fun WW nWW => ?_⟩
    have e9 := al (o := .lst [.ref p, .ref p']) nWW
    have hW9 : upd H8 WW (.lst [.ref p, .ref p']) WW = some (.lst [.ref p, .ref p']) := upd_same
    generalize upd H8 WW (.lst [.ref p, .ref p']) = H9 at e9 hW9 ⊢
    have W0 := W0.same e9
    have W1 := W1.same e9
    refine ⟨_, rfl, WW, _, _, _, rfl, rfl, .inl (.inl hW9), atI_nat (j := 0) rfl, _, rfl, WW, _, _, _, rfl, rfl, .inl (.inl hW9), atI_nat (j := 1) rfl, new_twinR (a := a) (VC := VC) (TC := TC) (BT := BT) W0 W1 fun HA t eA nt Tw => ?_⟩
    have e5A := (e58.trans e9).trans eA
    have LaA := La5.same e5A
    have MA : LandO a.C HA m n es lot := (M.same (e7.trans e8)).same (e9.trans eA)
    have hOA := e5A _ _ hO
    have hLA := e5A _ _ hL
    have h0A := e5A _ _ h0
    have h1A := e5A _ _ h1
    have hWA := eA _ _ hW9
    have hhA := hh5.same e5A
    clear e6 e7 e57 e8 e58 e9 hW9 W0 W1 eA nm np np' nWW nt La5 M hO hL h0 h1 hh5 e5A
    obtain ⟨dx, to, tn, t1, t2, t3⟩ := Tw.at_
    obtain ⟨dp, _, _, _, _, _, _, p1, _⟩ := Tw.one.at_
    obtain ⟨dq, _, _, _, _, _, _, q1, _⟩ := Tw.two.at_
    obtain ⟨dl, _, _, _, _, _, _, _, m1, _⟩ := MA.at_
    refine ⟨_, rfl, t, TC, dx, _, _, rfl, t1, TT.cl, TT.nT _ (by decide), rfl, _, rfl, WW, _, _, _, rfl, rfl, .inl (.inl hWA), atI_nat (j := 0) rfl, p, dp, _, p, .ref VC, rfl, rfl, p1, Tw.one.ty TV, nfC K VC, p, p, m, m, n, es, lot, c, own0, w0, n, es, lot, c, own0, w0, rfl, Tw.one, Tw.one, _, rfl, ?_⟩
    rw [eqVw_refl]
    refine ⟨_, rfl, _, rfl, t, TC, dx, _, _, rfl, t1, TT.cl, TT.nT _ (by decide), rfl, _, rfl, WW, _, _, _, rfl, rfl, .inl (.inl hWA), atI_nat (j := 1) rfl, p', dq, _, p', .ref VC, rfl, rfl, q1, Tw.two.ty TV, nfC K VC, p', p', m, m, n, es, lot, c, own0, w1, n, es, lot, c, own0, w1, rfl, Tw.two, Tw.two, _, rfl, ?_⟩
    rw [eqVw_refl]
    refine ⟨_, rfl, _, rfl, t, TC, dx, _, _, rfl, t1, TT.cl, TT.nT _ (by decide), rfl, _, rfl, m, dl, _, m, .ref a.C, rfl, rfl, m1, MA.ty T T2, nfC K a.C, m, m, n, es, lot, n, es, lot, rfl, MA, MA, _, rfl, ?_⟩
    rw [decide_eq_true (p := n = n ∧ es = es ∧ lot = lot) ⟨rfl, rfl, rfl⟩]
    refine ⟨_, rfl, _, rfl, t, TC, dx, _, _, rfl, t1, TT.cl, TT.nT _ (by decide), rfl, _, rfl, rfl, _, rfl, ?_⟩
    rw [dec_int, decide_eq_true rfl]
    refine iteF ?_
    -- its own cells, its numbers
    have X : LwS a VC TC HA h c0 q m O LL R0 R1 WW t p p' n c es lot own own0 w0 w1 := ⟨hhA, LaA, MA, hOA, hLA, h0A, h1A, hWA, Tw, pm, v0, v1, n2, n5⟩
    refine ⟨fun τ H' => τ = lwT s0 h q O LL m WW t n c [none, none, none, none, none, none, none, none] ∧ Same HA H', ?_, fun τ HE hM => ?_⟩
    rotate_left 1
    · obtain ⟨rfl, eAE⟩ := hM
      have X := X.same eAE
      clear eAE hhA LaA MA hOA hLA h0A h1A hWA Tw t1 t2 t3 p1 q1 m1 hn hS hl pm1
      refine ⟨_, rfl, _, rfl, _, rfl, LL, _, _, _, rfl, rfl, .inl (.inl X.l), atI_nat (j := 0) rfl, O, R0, n, own, w0, rfl, X.o, X.a0, X.v0.rl, n5, fun HF D0 eF nD0 hD0 => ?_⟩
      have XF := X.same eF
      refine ⟨_, rfl, _, rfl, _, rfl, LL, _, _, _, rfl, rfl, .inl (.inl XF.l), atI_nat (j := 1) rfl, O, R1, n, own, w1, rfl, XF.o, XF.a1, X.v1.rl, n5, fun HG D1 eG nD1 hD1 => ?_⟩
      refine ⟨by show 2 ≤ sizeLine; decide, fun PP nPP => ?_⟩
      have eP := al (o := .lst [.ref D0, .ref D1]) nPP
      have hPP : upd HG PP (.lst [.ref D0, .ref D1]) PP = some (.lst [.ref D0, .ref D1]) := upd_same
      have X := (XF.same eG).same eP
      have hD0 := (eG.trans eP) _ _ hD0
      have hD1 := eP _ _ hD1
      generalize upd HG PP (.lst [.ref D0, .ref D1]) = HP at eP hPP X hD0 hD1 ⊢
      clear eF XF eG nD0 nD1 nPP eP
      obtain ⟨dx, to, tn, t1, t2, t3⟩ := X.tw.at_
      have nb : ∀ b, b ∈ own0 ↔ b ∈ own := fun b => pm.mem_iff
      -- its surplus
      refine ⟨_, rfl, t, dx, _, rfl, t1, t, p, p', m, m, n, es, lot, c, own0, w0, w1, rfl, X.tw, fun HQ su eQ nsu hsu => ?_⟩
      refine ⟨_, rfl, PP, _, _, _, rfl, rfl, .inl (.inl (eQ _ _ hPP)), atI_nat (j := 0) rfl, D0, rfl, ⟨_, .inl (.inl (eQ _ _ hD0))⟩, fun D hD => lc_list (xs := ints_ (pasF n own w0)) (fun j H2 => Same HQ H2 ∧ H2 D = some (.lst (ints_ (((pasF n own w0).take j).filter fun b => !decide (b ∈ pasF n own w1))))) ⟨al hD, upd_same⟩ (fun j H2 _ pv => .inl (.inl (pv.1 _ _ (eQ _ _ hD0)))) (fun j x H2 hx pv => ?_) (fun H2 pv => ?_)⟩
      · obtain ⟨g2, hD3⟩ := pv
        unfold ints_ at hx
        rw [List.getElem?_map] at hx
        obtain ⟨z, hz, rfl⟩ := Option.map_eq_some_iff.mp hx
        have jl := (List.getElem?_eq_some_iff.mp hz).1
        have pl := pas_len n own w0
        have f1 : ((pasF n own w0).take (j + 1)).filter (fun b => !decide (b ∈ pasF n own w1)) = ((pasF n own w0).take j).filter (fun b => !decide (b ∈ pasF n own w1)) ++ (if (!decide (z ∈ pasF n own w1)) = true then [z] else []) := by
          rw [List.take_add_one, hz, List.filter_append]
          congr 1
          show List.filter _ [z] = _
          rw [List.filter_cons]
          rfl
        refine ⟨rfl, _, rfl, _, rfl, PP, _, _, _, rfl, rfl, .inl (.inl (g2 _ _ (eQ _ _ hPP))), atI_nat (j := 1) rfl, D1, _, rfl, .inl (.inl (.inl (g2 _ _ (eQ _ _ hD1)))), rfl, flat_ints _, _, rfl, ?_⟩
        show if (!inV (.int (z : Nat)) (ints_ (pasF n own w1))) = true then _ else _
        rw [inV_ints]
        refine iteB (fun t => ?_) (fun t => ?_)
        · refine ⟨_, rfl, _, hD3, by rw [ints_len]; exact small1000 (Nat.le_trans (List.length_filter_le _ _) (by rw [List.length_take]; omega)), fun w o hw => ?_, ?_⟩
          · rw [upd_ne (ne_of_none hw hD)]
            exact g2 _ _ hw
          · rw [upd_same, f1, if_pos t, ints_snoc]
        · refine ⟨g2, ?_⟩
          rw [f1, if_neg (by rw [t]; decide), List.append_nil]
          exact hD3
      obtain ⟨g2, hD3⟩ := pv
      rw [ints_len, List.take_length, sur_pas nb] at hD3
      refine ⟨D, _, rfl, .inl ⟨.inl (.inl hD3), fun u nu => ?_⟩⟩
      have eR := g2.trans (al (o := .tup (ints_ (surF n own0 w0 w1))) nu)
      refine ⟨intD (surF n own0 w0 w1), intD (surF n own0 w0 w1), .tup (.inl (.inl (eR _ _ hsu))) (dp_ints _), .tup (.inl (.inl upd_same)) (dp_ints _), shaped_ints _, shaped_ints _, ?_⟩
      rw [eqv_intD, decide_eq_true rfl]
      generalize upd H2 u (.tup (ints_ (surF n own0 w0 w1))) = HR at eR ⊢
      have eR := eQ.trans eR
      have X := X.same eR
      have hPP := eR _ _ hPP
      have hD0 := eR _ _ hD0
      have hD1 := eR _ _ hD1
      have t1 := eR _ _ t1
      clear g2 hD3 eQ nsu hsu hD nu t2 t3
      refine ⟨_, rfl, iteF ?_⟩
      -- its measures
      refine ⟨aMS, rfl, ⟨_, sMS _⟩, fun DT hD => lc_tup (xs := measuresL.map V.str) (fun j H2 => Same HR H2 ∧ H2 DT = some (.lst ((List.range j).map fun i => V.bl (difV i n es lot c own0 w0 w1)))) ⟨al hD, upd_same⟩ (fun j H2 _ pv => sMS _) (fun j x H2 hx pv => ?_) (fun H2 pv => ?_)⟩
      · obtain ⟨g2, hD3⟩ := pv
        rw [List.getElem?_map] at hx
        obtain ⟨z, hz, rfl⟩ := Option.map_eq_some_iff.mp hx
        have jl : j < 3 := (List.getElem?_eq_some_iff.mp hz).1
        have ez : z = msr j := by
          unfold msr
          rw [List.getD_eq_getElem?_getD, hz]
          rfl
        refine ⟨rfl, _, rfl, t, dx, _, rfl, g2 _ _ t1, rfl, _, rfl, t, p, p', m, m, n, es, lot, c, own0, w0, w1, .str z, rfl, X.tw.same g2, .inl ⟨j, jl, by rw [ez], fun H3 e3 => ?_⟩⟩
        refine ⟨_, e3 _ _ hD3, by rw [List.length_map, List.length_range]; exact small1000 (by omega), fun w o hw => ?_, ?_⟩
        · rw [upd_ne (ne_of_none hw hD)]
          exact e3 _ _ (g2 _ _ hw)
        · rw [upd_same, List.range_succ, List.map_append]
          rfl
      obtain ⟨g2, hD3⟩ := pv
      have hT3 : H2 DT = some (.lst ([difV 0 n es lot c own w0 w1, difV 1 n es lot c own w0 w1, difV 2 n es lot c own w0 w1].map V.bl)) := by
        rw [← difV_perm nb (i := 0), ← difV_perm nb (i := 1), ← difV_perm nb (i := 2)]
        exact hD3
      have X := X.same g2
      have hPP := g2 _ _ hPP
      have hD0 := g2 _ _ hD0
      have hD1 := g2 _ _ hD1
      have t1 := g2 _ _ t1
      clear g2 hD3 eR
      refine ⟨fun τ H' => τ = lwT s0 h q O LL m WW t n c [some (.ref PP), none, some (.ref DT), none, none, none, none, none] ∧ Same H2 H', ?_, fun τ H3 hM => ?_⟩
      · have dm : Dp K H2 (.ref aMS) (.tuple (measuresL.map PyData.str)) := .tup (sMS _) (dp_strs _)
        have sh : SeqAt.shaped (.tuple (measuresL.map PyData.str)) = true := by decide +kernel
        have cl : PyData.canLay0 (.tuple (measuresL.map PyData.str)) = true := by decide +kernel
        refine ⟨by show 3 ≤ sizeLine; decide, fun u nu => ?_⟩
        have e4 := al (o := .tup (measuresL.map V.str)) nu
        refine ⟨.tuple (measuresL.map PyData.str), .tuple (measuresL.map PyData.str), .tup (sMS _) (dp_strs _), .tup (.inl (.inl upd_same)) (dp_strs measuresL), sh, sh, ?_⟩
        rw [PySem.SeqAt.eqv_refl _ cl]
        refine ⟨_, rfl, _, rfl, _, rfl, _, rfl, _, rfl, by show 2 ≤ sizeLine; decide, fun Wo nWo => ?_⟩
        have e5 := e4.trans (al (o := .lst [.ref O, .int (c : Nat)]) nWo)
        have X5 := X.same e5
        refine ⟨_, rfl, q, Wo, LL, O, R0, R1, n, es, lot, c, own, w0, w1, rfl, X5.la, n5, es_len X5.la.ok n5, upd_same, X5.l, X5.o, X5.a0, X5.a1, v0, v1, fun H6 DD e6 nDD hDD => ?_⟩
        have e56 := e5.trans e6
        obtain ⟨b1, b2, b3⟩ := boolsL (K := K) [difV 0 n es lot c own w0 w1, difV 1 n es lot c own w0 w1, difV 2 n es lot c own w0 w1] (by show 3 ≤ 10; decide) (e56 _ _ hT3)
        obtain ⟨c1, _, _⟩ := boolsL (K := K) [difV 0 n es lot c own w0 w1, difV 1 n es lot c own w0 w1, difV 2 n es lot c own w0 w1] (by show 3 ≤ 10; decide) hDD
        refine ⟨_, _, b1, c1, b2, b2, ?_⟩
        rw [PySem.SeqAt.eqv_refl _ b3]
        exact ⟨_, rfl, iteF ⟨rfl, e56⟩⟩
      obtain ⟨rfl, e3⟩ := hM
      have X := X.same e3
      have hPP := e3 _ _ hPP
      have hD0 := e3 _ _ hD0
      have hD1 := e3 _ _ hD1
      have t1 := e3 _ _ t1
      have hT := e3 _ _ hT3
      clear e3 hT3
      -- its flags
      refine ⟨_, rfl, DT, rfl, ⟨_, .inl (.inl hT)⟩, fun D4 hD4 => lc_list (xs := [difV 0 n es lot c own w0 w1, difV 1 n es lot c own w0 w1, difV 2 n es lot c own w0 w1].map V.bl) (fun j H4 => Same H3 H4 ∧ H4 D4 = some (.lst [])) ⟨al hD4, upd_same⟩ (fun j H4 _ pv => .inl (.inl (pv.1 _ _ hT))) (fun j x H4 hx pv => ?_) (fun H4 pv => ?_)⟩
      · obtain ⟨g2, hD3⟩ := pv
        rw [List.getElem?_map] at hx
        obtain ⟨b, hb, rfl⟩ := Option.map_eq_some_iff.mp hx
        refine ⟨rfl, _, rfl, _, _, _, _, true, rfl, .ty _, .base (.bl b), kit_ty (by decide +kernel), true, rfl, ?_⟩
        exact iteF ⟨g2, hD3⟩
      obtain ⟨g2, hD3⟩ := pv
      refine ⟨by show 0 ≤ sizeLine; decide, fun D5 nD5 => ?_⟩
      have e5 := al (o := .lst []) nD5
      have sh0 : SeqAt.shaped (.list []) = true := by decide +kernel
      refine ⟨.list [], .list [], .lst (.inl (.inl (e5 _ _ hD3))) .nil, .lst (.inl (.inl upd_same)) .nil, sh0, sh0, ?_⟩
      refine ⟨_, rfl, iteF ?_⟩
      have e35 := g2.trans e5
      have X := X.same e35
      have hPP := e35 _ _ hPP
      have hD0 := e35 _ _ hD0
      have hD1 := e35 _ _ hD1
      have t1 := e35 _ _ t1
      generalize upd H4 D5 (.lst []) = H5 at e5 e35 X hPP hD0 hD1 t1 ⊢
      clear e5 e35 g2 hD3 hT
      -- exchanged
      refine ⟨_, rfl, _, rfl, _, rfl, _, rfl, PP, _, _, _, rfl, rfl, .inl (.inl hPP), atI_nat (j := 1) rfl, D1, rfl, ⟨_, .inl (.inl hD1)⟩, fun D hD => lc_list (xs := ints_ (pasF n own w1)) (fun j H2 => Same H5 H2 ∧ H2 D = some (.lst (ints_ (((pasF n own w1).take j).filter fun b => !decide (b ∈ pasF n own w0))))) ⟨al hD, upd_same⟩ (fun j H2 _ pv => .inl (.inl (pv.1 _ _ hD1))) (fun j x H2 hx pv => ?_) (fun H2 pv => ?_)⟩
      · obtain ⟨g2, hD3⟩ := pv
        unfold ints_ at hx
        rw [List.getElem?_map] at hx
        obtain ⟨z, hz, rfl⟩ := Option.map_eq_some_iff.mp hx
        have jl := (List.getElem?_eq_some_iff.mp hz).1
        have pl := pas_len n own w1
        have f1 : ((pasF n own w1).take (j + 1)).filter (fun b => !decide (b ∈ pasF n own w0)) = ((pasF n own w1).take j).filter (fun b => !decide (b ∈ pasF n own w0)) ++ (if (!decide (z ∈ pasF n own w0)) = true then [z] else []) := by
          rw [List.take_add_one, hz, List.filter_append]
          congr 1
          show List.filter _ [z] = _
          rw [List.filter_cons]
          rfl
        refine ⟨rfl, _, rfl, _, rfl, PP, _, _, _, rfl, rfl, .inl (.inl (g2 _ _ hPP)), atI_nat (j := 0) rfl, D0, _, rfl, .inl (.inl (.inl (g2 _ _ hD0))), rfl, flat_ints _, _, rfl, ?_⟩
        show if (!inV (.int (z : Nat)) (ints_ (pasF n own w0))) = true then _ else _
        rw [inV_ints]
        refine iteB (fun t => ?_) (fun t => ?_)
        · refine ⟨_, rfl, _, hD3, by rw [ints_len]; exact small1000 (Nat.le_trans (List.length_filter_le _ _) (by rw [List.length_take]; omega)), fun w o hw => ?_, ?_⟩
          · rw [upd_ne (ne_of_none hw hD)]
            exact g2 _ _ hw
          · rw [upd_same, f1, if_pos t, ints_snoc]
        · refine ⟨g2, ?_⟩
          rw [f1, if_neg (by rw [t]; decide), List.append_nil]
          exact hD3
      obtain ⟨g2, hD3⟩ := pv
      rw [ints_len, List.take_length, sur_pas nb] at hD3
      refine ⟨D, _, rfl, .inl ⟨.inl (.inl hD3), fun u nu => ?_⟩⟩
      have eR := g2.trans (al (o := .tup (ints_ (surF n own0 w1 w0))) nu)
      have XR := X.same eR
      refine ⟨t, p, p', m, m, WW, LL, R0, R1, u, n, es, lot, c, own0, w0, w1, rfl, XR.tw, XR.w, XR.l, XR.a0, XR.a1, upd_same, fun H6 e6 => ⟨_, rfl, iteF ?_⟩⟩
      have X := XR.same e6
      have t1 := (eR.trans e6) _ _ t1
      clear g2 hD3 eR XR e6 hPP hD0 hD1 hD nu
      -- made once more
      refine ⟨fun τ H' => τ = lwT s0 h q O LL m WW t n c [some (.ref PP), none, some (.ref DT), none, none, none, none, none] ∧ Same H6 H', ?_, fun τ H7 hM => ?_⟩
      · refine ⟨_, rfl, _, rfl, _, rfl, _, rfl, O, _, rfl, .inl (.inl X.o), fun Rv nRv => ?_⟩
        have e7 := al (o := .lst (ints_ own).reverse) nRv
        have hRv : upd H6 Rv (.lst (ints_ own).reverse) Rv = some (.lst (ints_ own.reverse)) := by
          rw [upd_same]
          unfold ints_
          rw [List.map_reverse]
        generalize upd H6 Rv (.lst (ints_ own).reverse) = H7 at e7 hRv ⊢
        have X7 := X.same e7
        refine ⟨_, rfl, LL, _, _, _, rfl, rfl, .inl (.inl X7.l), atI_nat (j := 0) rfl, R0, _, rfl, .inl (.inl (.inl X7.a0)), fun Cp nCp => ?_⟩
        have e8 := al (o := .lst (wds w0)) nCp
        have hCp : upd H7 Cp (.lst (wds w0)) Cp = some (.lst (wds w0)) := upd_same
        generalize upd H7 Cp (.lst (wds w0)) = H8 at e8 hCp ⊢
        have X8 := X7.same e8
        refine new_viewR (a := a) (VC := VC) X8.md (.inr (e8 _ _ hRv)) (.inr hCp) v0.rev fun H9 pa oa e9 npa pa' A => ?_
        rw [srt_uniq A.so X.tw.one.so (pa'.trans ((List.reverse_perm own).trans pm.symm))] at A
        have X9 := X8.same e9
        refine ⟨_, rfl, _, rfl, _, rfl, _, rfl, LL, _, _, _, rfl, rfl, .inl (.inl X9.l), atI_nat (j := 1) rfl, R1, _, rfl, .inl ⟨.inl (.inl X9.a1), fun Tp nTp => ?_⟩⟩
        have e10 := al (o := .tup (wds w1)) nTp
        have hTp : upd H9 Tp (.tup (wds w1)) Tp = some (.tup (wds w1)) := upd_same
        generalize upd H9 Tp (.tup (wds w1)) = H10 at e10 hTp ⊢
        have X10 := X9.same e10
        refine new_viewR (a := a) (VC := VC) X10.md (.inr X10.o) (.inl hTp) v1 fun H11 pb ob e11 npb pb' B => ?_
        rw [srt_uniq B.so X.tw.one.so (pb'.trans pm.symm)] at B
        have A := (A.same e10).same e11
        refine new_twinR (a := a) (VC := VC) (TC := TC) (BT := BT) A B fun H12 t2 e12 nt2 Tw2 => ?_
        have e612 := ((((e7.trans e8).trans e9).trans e10).trans e11).trans e12
        refine ⟨t, dx, _, t2, .ref TC, rfl, rfl, e612 _ _ t1, Tw2.ty TT, nfC K TC, t, p, p', m, m, n, es, lot, c, own0, w0, w1, .ref t2, rfl, X.tw.same e612, .inl ⟨t2, pa, pb, m, m, n, es, lot, c, own0, w0, w1, rfl, Tw2, _, rfl, ?_⟩⟩
        rw [eqVw_refl, eqVw_refl]
        exact ⟨_, rfl, iteF ⟨rfl, e612⟩⟩
      obtain ⟨rfl, e7⟩ := hM
      have X := X.same e7
      clear e7 t1
      have hh := X.hh
      refine ⟨_, rfl, by show 3 ≤ sizeLine; decide, fun Lw nLw => ?_⟩
      have e8 := al (o := .lst (measuresL.map V.str)) nLw
      refine ⟨h, c0, Lw, measuresL.map V.str, rfl, hh.same e8, (hh.ne nLw).1, upd_same, by decide, by decide, fun H8 j v d8 hv => ?_⟩
      have x8 := (Stay.of_same hh e8).drawn d8
      have X := X.stay x8
      rw [List.getElem?_map] at hv
      obtain ⟨z, hz, rfl⟩ := Option.map_eq_some_iff.mp hv
      have jl : j < 3 := (List.getElem?_eq_some_iff.mp hz).1
      have ez : z = msr j := by
        unfold msr
        rw [List.getD_eq_getElem?_getD, hz]
        rfl
      subst ez
      clear hh e8 nLw d8 x8 hv hz
      obtain ⟨wl, w1k, w2, w3, w4, w5⟩ := words_odd ⟨j, jl⟩
      have wl : (msr j).length ≤ 10 := wl
      have w1k : PyData.strOk (msr j) = true := w1k
      have w2 : decide ((msr j ++ ("s" : Str)) ∈ measuresL) = false := w2
      have w3 : PyData.strOk (msr j ++ ("s" : Str)) = true := w3
      have w4 : decide (cutS (msr j) (some 1) none ∈ measuresL) = false := w4
      have w5 : PyData.strOk (cutS (msr j) (some 1) none) = true := w5
      generalize msr j = z at wl w1k w2 w3 w4 w5 ⊢
      -- no measures
      refine ⟨_, rfl, _, _, rfl, rfl, Nat.le_of_lt (small1000 (by show z.length + 1 ≤ 1000; omega)), ?_⟩
      refine ⟨_, rfl, 1, rfl, z, rfl, Nat.le_of_lt (small1000 (by omega)), ?_⟩
      refine ⟨_, rfl, by show 1 ≤ sizeLine; decide, fun A1 nA1 => ?_⟩
      have e1 := al (o := .tup [.str z]) nA1
      have hA1 : upd H8 A1 (.tup [.str z]) A1 = some (.tup [.str z]) := upd_same
      generalize upd H8 A1 (.tup [.str z]) = H9 at e1 hA1 ⊢
      refine ⟨_, rfl, by show 1 ≤ sizeLine; decide, fun A2 nA2 => ?_⟩
      have e2 := al (o := .lst [.str z]) nA2
      have hA2 : upd H9 A2 (.lst [.str z]) A2 = some (.lst [.str z]) := upd_same
      have hA1 := e2 _ _ hA1
      have e12 := e1.trans e2
      generalize upd H9 A2 (.lst [.str z]) = H10 at e2 hA1 hA2 e12 ⊢
      refine ⟨by show 8 ≤ sizeLine; decide, fun TP nTP => ?_⟩
      have e3 := al (o := .tup [.str (z ++ ("s" : Str)), .str (cutS z (some 1) none), .str "", .non, .bl true, .int 0, .ref A1, .ref A2]) nTP
      have hTP : upd H10 TP (.tup [.str (z ++ ("s" : Str)), .str (cutS z (some 1) none), .str "", .non, .bl true, .int 0, .ref A1, .ref A2]) TP = some (.tup [.str (z ++ ("s" : Str)), .str (cutS z (some 1) none), .str "", .non, .bl true, .int 0, .ref A1, .ref A2]) := upd_same
      have hA1 := e3 _ _ hA1
      have hA2 := e3 _ _ hA2
      have X := (X.same e12).same e3
      generalize upd H10 TP (.tup [.str (z ++ ("s" : Str)), .str (cutS z (some 1) none), .str "", .non, .bl true, .int 0, .ref A1, .ref A2]) = H11 at e3 hTP hA1 hA2 X ⊢
      have odds : ∀ H', Same H11 H' → ∀ x ∈ [V.str (z ++ ("s" : Str)), .str (cutS z (some 1) none), .str "", .non, .bl true, .int 0, .ref A1, .ref A2], InW K H' measuresL x false ∧ DatD K H' x := fun H' e x hx => by
        simp only [List.mem_cons, List.not_mem_nil, or_false] at hx
        rcases hx with rfl | rfl | rfl | rfl | rfl | rfl | rfl | rfl
        · exact ⟨inW_no w2, datS w3⟩
        · exact ⟨inW_no w4, datS w5⟩
        · exact ⟨inW_no (by decide +kernel), datS (by decide +kernel)⟩
        · exact ⟨.odd .non, datN⟩
        · exact ⟨.odd (.bl _), datB _⟩
        · exact ⟨.odd (.int _), datI _⟩
        · exact ⟨.odd (.tup (e _ _ hA1)), datT w1k (e _ _ hA1)⟩
        · exact ⟨.odd (.lst (e _ _ hA2)), datL w1k (e _ _ hA2)⟩
      refine ⟨TP, rfl, ⟨_, .inl (.inl hTP)⟩, for_tup (xs := [V.str (z ++ ("s" : Str)), .str (cutS z (some 1) none), .str "", .non, .bl true, .int 0, .ref A1, .ref A2]) (fun i σ H' => ∃ y, σ = lwT s0 h q O LL m WW t n c [some (.ref PP), none, some (.ref DT), none, none, some (.str z), y, none] ∧ Same H11 H') ⟨none, rfl, Same.refl _⟩ (fun i σ H' _ pv => ?_) (fun i x σ H' hx pv => ?_) (fun σ H' pv => ?_)⟩
      · obtain ⟨y, rfl, e⟩ := pv
        exact .inl (.inl (e _ _ hTP))
      · obtain ⟨y, rfl, e⟩ := pv
        obtain ⟨o1, o2⟩ := odds H' e x (List.mem_of_getElem? hx)
        refine ⟨_, rfl, _, rfl, t, p, p', m, m, n, es, lot, c, own0, w0, w1, x, rfl, X.tw.same e, o1, o2, fun H'' e' => ?_⟩
        exact ⟨_, rfl, iteF ⟨_, rfl, e.trans e'⟩⟩
      obtain ⟨y16, rfl, e⟩ := pv
      have X := X.same e
      clear e odds hTP hA1 hA2 e3 e12 e1 e2 nA1 nA2 nTP w2 w3 w4 w5
      -- no cells
      refine ⟨_, rfl, 1, rfl, by show 5 ≤ sizeLine; decide, fun TP nTP => ?_⟩
      have e3 := al (o := .tup [.int (n : Nat), .int (-1), .bl true, .non, .str "0"]) nTP
      have hTP : upd H' TP (.tup [.int (n : Nat), .int (-1), .bl true, .non, .str "0"]) TP = some (.tup [.int (n : Nat), .int (-1), .bl true, .non, .str "0"]) := upd_same
      have X := X.same e3
      generalize upd H' TP (.tup [.int (n : Nat), .int (-1), .bl true, .non, .str "0"]) = H12 at e3 hTP X ⊢
      have odds : ∀ H', Same H12 H' → ∀ x ∈ [V.int (n : Nat), .int (-1), .bl true, .non, .str "0"], Thing H' x ∧ wholeV x 0 ((n : Nat) - 1) = false ∧ DatD K H' x := fun H' e x hx => by
        simp only [List.mem_cons, List.not_mem_nil, or_false] at hx
        rcases hx with rfl | rfl | rfl | rfl | rfl
        · exact ⟨.flat (.int _), by rw [wholeV_int, decide_eq_false (p := ((n : Nat) : Int) ≤ _) (by omega), Bool.and_false], datI _⟩
        · exact ⟨.flat (.int _), by rw [wholeV_int, decide_eq_false (by omega), Bool.false_and], datI _⟩
        · exact ⟨.flat (.bl _), rfl, datB _⟩
        · exact ⟨.flat .non, rfl, datN⟩
        · exact ⟨.flat (.str _), rfl, datS (by decide +kernel)⟩
      refine ⟨TP, rfl, ⟨_, .inl (.inl hTP)⟩, for_tup (xs := [V.int (n : Nat), .int (-1), .bl true, .non, .str "0"]) (fun i σ H' => ∃ y, σ = lwT s0 h q O LL m WW t n c [some (.ref PP), none, some (.ref DT), none, none, some (.str z), y, none] ∧ Same H12 H') ⟨_, rfl, Same.refl _⟩ (fun i σ H' _ pv => ?_) (fun i x σ H' hx pv => ?_) (fun σ H' pv => ?_)⟩
      · obtain ⟨y, rfl, e⟩ := pv
        exact .inl (.inl (e _ _ hTP))
      · obtain ⟨y, rfl, e⟩ := pv
        obtain ⟨o1, o2, o3⟩ := odds H' e x (List.mem_of_getElem? hx)
        refine ⟨_, rfl, _, rfl, m, n, es, lot, x, rfl, X.md.same e, o1, o2, o3, fun H'' e' => ?_⟩
        exact ⟨_, rfl, iteF ⟨_, rfl, e.trans e'⟩⟩
      obtain ⟨y17, rfl, e⟩ := pv
      have X := X.same e
      clear e odds hTP e3 nTP
      -- the start
      refine ⟨_, rfl, _, rfl, m, n, es, lot, .int (c : Nat), rfl, X.md, .inl ⟨c, rfl, hc, fun H13 ts ps qs e TS => ?_⟩⟩
      have X := X.same e
      obtain ⟨dy, uo, un, f1, f2, f3⟩ := TS.at_
      rw [numR_start n (Nat.le_refl n)] at f3
      refine ⟨_, rfl, ts, TC, dy, _, _, rfl, f1, TT.cl, TT.nT _ (by decide), rfl, by show 2 ≤ sizeLine; decide, fun u nu => ?_⟩
      have e5 := al (o := .tup [.int 0, .int 0]) nu
      refine ⟨intD [0, 0], intD [0, 0], .tup (.inl (.inl (e5 _ _ f3))) (dp_ints [_, _]), .tup (.inl (.inl upd_same)) (dp_ints [0, 0]), shaped_ints _, shaped_ints _, ?_⟩
      rw [eqv_intD, decide_eq_true rfl]
      refine ⟨_, rfl, _, rfl, ts, TC, dy, _, _, rfl, e5 _ _ f1, TT.cl, TT.nT _ (by decide), rfl, ?_⟩
      refine ⟨uo, _, rfl, .inr (.inl (.inl (e5 _ _ f2))), _, rfl, rfl, _, rfl, ?_⟩
      rw [ints_len, List.length_range, dec_int, decide_eq_true rfl]
      have T5 := TS.same e5
      have X := X.same e5
      obtain ⟨dz, vo, vn, g1, _⟩ := T5.at_
      refine ⟨_, rfl, ts, dz, _, rfl, g1, rfl, ts, ps, qs, m, m, n, es, lot, c, List.range n, List.replicate n 0, List.replicate n 0, .str "standing", rfl, T5, .inl ⟨0, by decide, rfl, fun H14 e6 => ?_⟩⟩
      have d0 : difV 0 n es lot c (List.range n) (List.replicate n 0) (List.replicate n 0) = false := by
        show (!decide ((List.replicate n 0).map wd = (List.replicate n 0).map wd)) = false
        rw [decide_eq_true rfl]
        rfl
      rw [d0]
      have X := X.same e6
      refine ⟨_, rfl, iteF ?_⟩
      exact ⟨_, rfl, _, rfl, _, rfl, _, rfl, _, rfl, _, rfl, WW, _, _, _, rfl, rfl, .inl (.inl X.w), atI_nat (j := 0) rfl, h, c0, q, m, O, p, m, n, es, lot, c, own, own0, w0, rfl, X.hh, X.la, X.md, X.o, X.tw.one, pm, fin⟩
    have o5 : own.length ≤ 5 := by rw [← pm.length_eq]; exact Nat.le_trans Tw.one.ok.ol n5
    refine ⟨_, rfl, t, TC, dx, _, _, rfl, t1, TT.cl, TT.nT _ (by decide), rfl, ?_⟩
    have e3 : (own.map fun c => ((c : Nat) : Int)).map V.int = ints_ own := (ints_map own).symm
    refine ⟨_, rfl, O, own.map (fun c => ((c : Nat) : Int)), rfl, by rw [e3]; exact .inl (.inl (.inl hOA)), by rw [List.length_map]; omega, fun ms sp pp so np => ?_⟩
    have back := ints_back pp
    have pm' : (ms.map Int.toNat).Perm own := by
      have z := pp.map Int.toNat
      rw [List.map_map] at z
      exact z.trans (List.Perm.of_eq ((List.map_congr_left fun c _ => rfl).trans (List.map_id own)))
    have so' : (ms.map Int.toNat).Pairwise (· < ·) := by
      have nd := pm'.nodup_iff.mpr (pm.nodup_iff.mp Tw.one.ok.nd)
      rw [back, List.pairwise_map] at so
      exact (so.and (List.nodup_iff_pairwise_ne.mp nd)).imp fun h => by have h1 := h.1; have h2 := h.2; omega
    have vi : ms.map V.int = ints_ own0 := by
      rw [ints_map, ← srt_uniq so' Tw.one.so (pm'.trans pm.symm), ← back]
    rw [vi]
    have eB := al (o := .lst (ints_ own0)) np
    refine ⟨sp, _, rfl, .inl ⟨.inl (.inl upd_same), fun su nsu => ?_⟩⟩
    have eB := eB.trans (al (o := .tup (ints_ own0)) nsu)
    refine ⟨intD own0, intD own0, .tup (.inl (.inl (eB _ _ t2))) (dp_ints _), .tup (.inl (.inl upd_same)) (dp_ints _), shaped_ints _, shaped_ints _, ?_⟩
    rw [eqv_intD, decide_eq_true rfl]
    generalize upd (upd HA sp (.lst (ints_ own0))) su (.tup (ints_ own0)) = HB at eB ⊢
    refine ⟨_, rfl, _, rfl, t, TC, dx, _, _, rfl, eB _ _ t1, TT.cl, TT.nT _ (by decide), rfl, ?_⟩
    refine ⟨_, rfl, _, rfl, _, rfl, _, rfl, LL, _, _, _, rfl, rfl, .inl (.inl (eB _ _ hLA)), atI_nat (j := 0) rfl, O, R0, n, c, own, w0, rfl, eB _ _ hOA, eB _ _ h0A, v0.rl, n5, fun HC eC => ?_⟩
    have eAC := eB.trans eC
    refine ⟨_, rfl, _, rfl, _, rfl, _, rfl, LL, _, _, _, rfl, rfl, .inl (.inl (eAC _ _ hLA)), atI_nat (j := 1) rfl, O, R1, n, c, own, w1, rfl, eAC _ _ hOA, eAC _ _ h1A, v1.rl, n5, fun HD eD => ?_⟩
    have eAD := eAC.trans eD
    have nb : ∀ b, b ∈ own0 ↔ b ∈ own := fun b => pm.mem_iff
    rw [← numR_perm nb, ← numR_perm nb]
    refine ⟨by show 2 ≤ sizeLine; decide, fun nt nnt => ?_⟩
    have eE := al (o := .tup [.int (numR own0 w0 c n : Nat), .int (numR own0 w1 c n : Nat)]) nnt
    have eAE := eAD.trans eE
    refine ⟨intD [numR own0 w0 c n, numR own0 w1 c n], intD [numR own0 w0 c n, numR own0 w1 c n], .tup (.inl (.inl (eAE _ _ t3))) (dp_ints [_, _]), .tup (.inl (.inl upd_same)) (dp_ints [_, _]), shaped_ints _, shaped_ints _, ?_⟩
    rw [eqv_intD, decide_eq_true rfl]
    exact ⟨_, rfl, iteF ⟨rfl, eAE⟩⟩
end
end K7
end
/-! ## P30 -/
section
open PySem PySem.Spec PyProof.Rows L2
namespace K7
theorem all_mk {P : Program} {w : World} {K : PySem.W.Frag} {h : Heap} {mg : Str → Option Value} {fa : Addr} (X : K.In h) (G : h.Ns mainGlobals mg) (hfa : mg "law" = some (.ref fa))
  {f_sq : Addr}
  (a_sq : PySem.W.nsIn K mainGlobals "is_sequence" = some (some (.ref f_sq)))
  {od_sq an_sq : Option Addr}
  {sl_sq : Array (Option Value)}
  {oc_sq kV_sq dc_sq pm_sq cd_sq ct_sq : Value}
  (l_sq : K.lookup f_sq = some ⟨oc_sq, od_sq, .func (PySem.W.fnOf "is_sequence" "is_sequence" (defArgs s_is_sequence) (defBody s_is_sequence) (defScope s_is_sequence) .none kV_sq dc_sq pm_sq an_sq cd_sq ct_sq), sl_sq⟩)
  (c_sq : PySem.W.codeIn K cd_sq "is_sequence" = true)
  (k_sq : PySem.W.keepIn K (.ref f_sq) = true)
  {f_isw : Addr}
  (a_isw : PySem.W.nsIn K mainGlobals "is_whole" = some (some (.ref f_isw)))
  {od_isw an_isw : Option Addr}
  {sl_isw : Array (Option Value)}
  {oc_isw kV_isw dc_isw pm_isw cd_isw ct_isw : Value}
  (l_isw : K.lookup f_isw = some ⟨oc_isw, od_isw, .func (PySem.W.fnOf "is_whole" "is_whole" (defArgs s_is_whole) (defBody s_is_whole) (defScope s_is_whole) .none kV_isw dc_isw pm_isw an_isw cd_isw ct_isw), sl_isw⟩)
  (c_isw : PySem.W.codeIn K cd_isw "is_whole" = true)
  (k_isw : PySem.W.keepIn K (.ref f_isw) = true)
  {f_ac : Addr}
  (a_ac : PySem.W.nsIn K mainGlobals "are_cells" = some (some (.ref f_ac)))
  {od_ac an_ac : Option Addr}
  {sl_ac : Array (Option Value)}
  {oc_ac kV_ac dc_ac pm_ac cd_ac ct_ac : Value}
  (l_ac : K.lookup f_ac = some ⟨oc_ac, od_ac, .func (PySem.W.fnOf "are_cells" "are_cells" (defArgs s_are_cells) (defBody s_are_cells) (defScope s_are_cells) .none kV_ac dc_ac pm_ac an_ac cd_ac ct_ac), sl_ac⟩)
  (c_ac : PySem.W.codeIn K cd_ac "are_cells" = true)
  (k_ac : PySem.W.keepIn K (.ref f_ac) = true)
  {f_a2 : Addr}
  (a_a2 : PySem.W.nsIn K mainGlobals "are_two_cells" = some (some (.ref f_a2)))
  {od_a2 an_a2 : Option Addr}
  {sl_a2 : Array (Option Value)}
  {oc_a2 kV_a2 dc_a2 pm_a2 cd_a2 ct_a2 : Value}
  (l_a2 : K.lookup f_a2 = some ⟨oc_a2, od_a2, .func (PySem.W.fnOf "are_two_cells" "are_two_cells" (defArgs s_are_two_cells) (defBody s_are_two_cells) (defScope s_are_two_cells) .none kV_a2 dc_a2 pm_a2 an_a2 cd_a2 ct_a2), sl_a2⟩)
  (c_a2 : PySem.W.codeIn K cd_a2 "are_two_cells" = true)
  (k_a2 : PySem.W.keepIn K (.ref f_a2) = true)
  {f_ic : Addr}
  (a_ic : PySem.W.nsIn K mainGlobals "is_cell" = some (some (.ref f_ic)))
  {od_ic an_ic : Option Addr}
  {sl_ic : Array (Option Value)}
  {oc_ic kV_ic dc_ic pm_ic cd_ic ct_ic : Value}
  (l_ic : K.lookup f_ic = some ⟨oc_ic, od_ic, .func (PySem.W.fnOf "is_cell" "is_cell" (defArgs s_is_cell) (defBody s_is_cell) (defScope s_is_cell) .none kV_ic dc_ic pm_ic an_ic cd_ic ct_ic), sl_ic⟩)
  (c_ic : PySem.W.codeIn K cd_ic "is_cell" = true)
  (k_ic : PySem.W.keepIn K (.ref f_ic) = true)
  {f_il : Addr}
  (a_il : PySem.W.nsIn K mainGlobals "is_lot" = some (some (.ref f_il)))
  {od_il an_il : Option Addr}
  {sl_il : Array (Option Value)}
  {oc_il kV_il dc_il pm_il cd_il ct_il : Value}
  (l_il : K.lookup f_il = some ⟨oc_il, od_il, .func (PySem.W.fnOf "is_lot" "is_lot" (defArgs s_is_lot) (defBody s_is_lot) (defScope s_is_lot) .none kV_il dc_il pm_il an_il cd_il ct_il), sl_il⟩)
  (c_il : PySem.W.codeIn K cd_il "is_lot" = true)
  (k_il : PySem.W.keepIn K (.ref f_il) = true)
  {f_ck : Addr}
  (a_ck : PySem.W.nsIn K mainGlobals "check_cells" = some (some (.ref f_ck)))
  {od_ck an_ck : Option Addr}
  {sl_ck : Array (Option Value)}
  {oc_ck kV_ck dc_ck pm_ck cd_ck ct_ck : Value}
  (l_ck : K.lookup f_ck = some ⟨oc_ck, od_ck, .func (PySem.W.fnOf "check_cells" "check_cells" (defArgs s_check_cells) (defBody s_check_cells) (defScope s_check_cells) .none kV_ck dc_ck pm_ck an_ck cd_ck ct_ck), sl_ck⟩)
  (c_ck : PySem.W.codeIn K cd_ck "check_cells" = true)
  (k_ck : PySem.W.keepIn K (.ref f_ck) = true)
  {f_sp : Addr}
  (a_sp : PySem.W.nsIn K mainGlobals "spread" = some (some (.ref f_sp)))
  {od_sp an_sp : Option Addr}
  {sl_sp : Array (Option Value)}
  {oc_sp kV_sp dc_sp pm_sp cd_sp ct_sp : Value}
  (l_sp : K.lookup f_sp = some ⟨oc_sp, od_sp, .func (PySem.W.fnOf "spread" "spread" (defArgs s_spread) (defBody s_spread) (defScope s_spread) .none kV_sp dc_sp pm_sp an_sp cd_sp ct_sp), sl_sp⟩)
  (c_sp : PySem.W.codeIn K cd_sp "spread" = true)
  (k_sp : PySem.W.keepIn K (.ref f_sp) = true)
  {f_ny : Addr}
  (a_ny : PySem.W.nsIn K mainGlobals "nearby_cells" = some (some (.ref f_ny)))
  {od_ny an_ny : Option Addr}
  {sl_ny : Array (Option Value)}
  {oc_ny kV_ny dc_ny pm_ny cd_ny ct_ny : Value}
  (l_ny : K.lookup f_ny = some ⟨oc_ny, od_ny, .func (PySem.W.fnOf "nearby_cells" "nearby_cells" (defArgs s_nearby_cells) (defBody s_nearby_cells) (defScope s_nearby_cells) .none kV_ny dc_ny pm_ny an_ny cd_ny ct_ny), sl_ny⟩)
  (c_ny : PySem.W.codeIn K cd_ny "nearby_cells" = true)
  (k_ny : PySem.W.keepIn K (.ref f_ny) = true)
  {f_ht : Addr}
  (a_ht : PySem.W.nsIn K mainGlobals "hang_together" = some (some (.ref f_ht)))
  {od_ht an_ht : Option Addr}
  {sl_ht : Array (Option Value)}
  {oc_ht kV_ht dc_ht pm_ht cd_ht ct_ht : Value}
  (l_ht : K.lookup f_ht = some ⟨oc_ht, od_ht, .func (PySem.W.fnOf "hang_together" "hang_together" (defArgs s_hang_together) (defBody s_hang_together) (defScope s_hang_together) .none kV_ht dc_ht pm_ht an_ht cd_ht ct_ht), sl_ht⟩)
  (c_ht : PySem.W.codeIn K cd_ht "hang_together" = true)
  (k_ht : PySem.W.keepIn K (.ref f_ht) = true)
  {f_nb : Addr}
  (a_nb : PySem.W.nsIn K mainGlobals "_are_neighbours" = some (some (.ref f_nb)))
  {od_nb an_nb : Option Addr}
  {sl_nb : Array (Option Value)}
  {oc_nb kV_nb dc_nb pm_nb cd_nb ct_nb : Value}
  (l_nb : K.lookup f_nb = some ⟨oc_nb, od_nb, .func (PySem.W.fnOf "_are_neighbours" "_are_neighbours" (defArgs s__are_neighbours) (defBody s__are_neighbours) (defScope s__are_neighbours) .none kV_nb dc_nb pm_nb an_nb cd_nb ct_nb), sl_nb⟩)
  (c_nb : PySem.W.codeIn K cd_nb "_are_neighbours" = true)
  (k_nb : PySem.W.keepIn K (.ref f_nb) = true)
  {f_op : Addr}
  (a_op : PySem.W.nsIn K mainGlobals "opens" = some (some (.ref f_op)))
  {od_op an_op : Option Addr}
  {sl_op : Array (Option Value)}
  {oc_op kV_op dc_op pm_op cd_op ct_op : Value}
  (l_op : K.lookup f_op = some ⟨oc_op, od_op, .func (PySem.W.fnOf "opens" "opens" (defArgs s_opens) (defBody s_opens) (defScope s_opens) .none kV_op dc_op pm_op an_op cd_op ct_op), sl_op⟩)
  (c_op : PySem.W.codeIn K cd_op "opens" = true)
  (k_op : PySem.W.keepIn K (.ref f_op) = true)
  {f_ir : Addr}
  (a_ir : PySem.W.nsIn K mainGlobals "is_row" = some (some (.ref f_ir)))
  {od_ir an_ir : Option Addr}
  {sl_ir : Array (Option Value)}
  {oc_ir kV_ir dc_ir pm_ir cd_ir ct_ir : Value}
  (l_ir : K.lookup f_ir = some ⟨oc_ir, od_ir, .func (PySem.W.fnOf "is_row" "is_row" (defArgs s_is_row) (defBody s_is_row) (defScope s_is_row) .none kV_ir dc_ir pm_ir an_ir cd_ir ct_ir), sl_ir⟩)
  (c_ir : PySem.W.codeIn K cd_ir "is_row" = true)
  (k_ir : PySem.W.keepIn K (.ref f_ir) = true)
  {f_nr : Addr}
  (a_nr : PySem.W.nsIn K mainGlobals "number_of_row" = some (some (.ref f_nr)))
  {od_nr an_nr : Option Addr}
  {sl_nr : Array (Option Value)}
  {oc_nr kV_nr dc_nr pm_nr cd_nr ct_nr : Value}
  (l_nr : K.lookup f_nr = some ⟨oc_nr, od_nr, .func (PySem.W.fnOf "number_of_row" "number_of_row" (defArgs s_number_of_row) (defBody s_number_of_row) (defScope s_number_of_row) .none kV_nr dc_nr pm_nr an_nr cd_nr ct_nr), sl_nr⟩)
  (c_nr : PySem.W.codeIn K cd_nr "number_of_row" = true)
  (k_nr : PySem.W.keepIn K (.ref f_nr) = true)
  {f_cv : Addr}
  (a_cv : PySem.W.nsIn K mainGlobals "_check_places" = some (some (.ref f_cv)))
  {od_cv an_cv : Option Addr}
  {sl_cv : Array (Option Value)}
  {oc_cv kV_cv dc_cv pm_cv cd_cv ct_cv : Value}
  (l_cv : K.lookup f_cv = some ⟨oc_cv, od_cv, .func (PySem.W.fnOf "_check_places" "_check_places" (defArgs s__check_places) (defBody s__check_places) (defScope s__check_places) .none kV_cv dc_cv pm_cv an_cv cd_cv ct_cv), sl_cv⟩)
  (c_cv : PySem.W.codeIn K cd_cv "_check_places" = true)
  (k_cv : PySem.W.keepIn K (.ref f_cv) = true)
  {f_vb : Addr}
  (a_vb : PySem.W.nsIn K mainGlobals "view_by_ways" = some (some (.ref f_vb)))
  {od_vb an_vb : Option Addr}
  {sl_vb : Array (Option Value)}
  {oc_vb kV_vb dc_vb pm_vb cd_vb ct_vb : Value}
  (l_vb : K.lookup f_vb = some ⟨oc_vb, od_vb, .func (PySem.W.fnOf "view_by_ways" "view_by_ways" (defArgs s_view_by_ways) (defBody s_view_by_ways) (defScope s_view_by_ways) .none kV_vb dc_vb pm_vb an_vb cd_vb ct_vb), sl_vb⟩)
  (c_vb : PySem.W.codeIn K cd_vb "view_by_ways" = true)
  (k_vb : PySem.W.keepIn K (.ref f_vb) = true)
  {f_nu : Addr}
  (a_nu : PySem.W.nsIn K mainGlobals "_numbered" = some (some (.ref f_nu)))
  {od_nu an_nu : Option Addr}
  {sl_nu : Array (Option Value)}
  {oc_nu kV_nu dc_nu pm_nu cd_nu ct_nu : Value}
  (l_nu : K.lookup f_nu = some ⟨oc_nu, od_nu, .func (PySem.W.fnOf "_numbered" "_numbered" (defArgs s__numbered) (defBody s__numbered) (defScope s__numbered) .none kV_nu dc_nu pm_nu an_nu cd_nu ct_nu), sl_nu⟩)
  (c_nu : PySem.W.codeIn K cd_nu "_numbered" = true)
  (k_nu : PySem.W.keepIn K (.ref f_nu) = true)
  {f_sv : Addr}
  (a_sv : PySem.W.nsIn K mainGlobals "start_view" = some (some (.ref f_sv)))
  {od_sv an_sv : Option Addr}
  {sl_sv : Array (Option Value)}
  {oc_sv kV_sv dc_sv pm_sv cd_sv ct_sv : Value}
  (l_sv : K.lookup f_sv = some ⟨oc_sv, od_sv, .func (PySem.W.fnOf "start_view" "start_view" (defArgs s_start_view) (defBody s_start_view) (defScope s_start_view) .none kV_sv dc_sv pm_sv an_sv cd_sv ct_sv), sl_sv⟩)
  (c_sv : PySem.W.codeIn K cd_sv "start_view" = true)
  (k_sv : PySem.W.keepIn K (.ref f_sv) = true)
  {f_cm : Addr}
  (a_cm : PySem.W.nsIn K mainGlobals "check_measure" = some (some (.ref f_cm)))
  {od_cm an_cm : Option Addr}
  {sl_cm : Array (Option Value)}
  {oc_cm kV_cm dc_cm pm_cm cd_cm ct_cm : Value}
  (l_cm : K.lookup f_cm = some ⟨oc_cm, od_cm, .func (PySem.W.fnOf "check_measure" "check_measure" (defArgs s_check_measure) (defBody s_check_measure) (defScope s_check_measure) .none kV_cm dc_cm pm_cm an_cm cd_cm ct_cm), sl_cm⟩)
  (c_cm : PySem.W.codeIn K cd_cm "check_measure" = true)
  (k_cm : PySem.W.keepIn K (.ref f_cm) = true)
  {f_ts : Addr}
  (a_ts : PySem.W.nsIn K mainGlobals "twin_start" = some (some (.ref f_ts)))
  {od_ts an_ts : Option Addr}
  {sl_ts : Array (Option Value)}
  {oc_ts kV_ts dc_ts pm_ts cd_ts ct_ts : Value}
  (l_ts : K.lookup f_ts = some ⟨oc_ts, od_ts, .func (PySem.W.fnOf "twin_start" "twin_start" (defArgs s_twin_start) (defBody s_twin_start) (defScope s_twin_start) .none kV_ts dc_ts pm_ts an_ts cd_ts ct_ts), sl_ts⟩)
  (c_ts : PySem.W.codeIn K cd_ts "twin_start" = true)
  (k_ts : PySem.W.keepIn K (.ref f_ts) = true)
  {f_mi : Addr}
  (a_mi : PySem.W.nsIn K mainGlobals "_law_mix" = some (some (.ref f_mi)))
  {od_mi an_mi : Option Addr}
  {sl_mi : Array (Option Value)}
  {oc_mi kV_mi dc_mi pm_mi cd_mi ct_mi : Value}
  (l_mi : K.lookup f_mi = some ⟨oc_mi, od_mi, .func (PySem.W.fnOf "_law_mix" "_law_mix" (defArgs s__law_mix) (defBody s__law_mix) (defScope s__law_mix) .none kV_mi dc_mi pm_mi an_mi cd_mi ct_mi), sl_mi⟩)
  (c_mi : PySem.W.codeIn K cd_mi "_law_mix" = true)
  (k_mi : PySem.W.keepIn K (.ref f_mi) = true)
  {f_ha : Addr}
  (a_ha : PySem.W.nsIn K mainGlobals "_law_hand" = some (some (.ref f_ha)))
  {od_ha an_ha : Option Addr}
  {sl_ha : Array (Option Value)}
  {oc_ha kV_ha dc_ha pm_ha cd_ha ct_ha : Value}
  (l_ha : K.lookup f_ha = some ⟨oc_ha, od_ha, .func (PySem.W.fnOf "_law_hand" "_law_hand" (defArgs s__law_hand) (defBody s__law_hand) (defScope s__law_hand) .none kV_ha dc_ha pm_ha an_ha cd_ha ct_ha), sl_ha⟩)
  (c_ha : PySem.W.codeIn K cd_ha "_law_hand" = true)
  (k_ha : PySem.W.keepIn K (.ref f_ha) = true)
  {f_dr : Addr}
  (a_dr : PySem.W.nsIn K mainGlobals "_law_draw" = some (some (.ref f_dr)))
  {od_dr an_dr : Option Addr}
  {sl_dr : Array (Option Value)}
  {oc_dr kV_dr dc_dr pm_dr cd_dr ct_dr : Value}
  (l_dr : K.lookup f_dr = some ⟨oc_dr, od_dr, .func (PySem.W.fnOf "_law_draw" "_law_draw" (defArgs s__law_draw) (defBody s__law_draw) (defScope s__law_draw) .none kV_dr dc_dr pm_dr an_dr cd_dr ct_dr), sl_dr⟩)
  (c_dr : PySem.W.codeIn K cd_dr "_law_draw" = true)
  (k_dr : PySem.W.keepIn K (.ref f_dr) = true)
  {f_pk : Addr}
  (a_pk : PySem.W.nsIn K mainGlobals "_law_pick" = some (some (.ref f_pk)))
  {od_pk an_pk : Option Addr}
  {sl_pk : Array (Option Value)}
  {oc_pk kV_pk dc_pk pm_pk cd_pk ct_pk : Value}
  (l_pk : K.lookup f_pk = some ⟨oc_pk, od_pk, .func (PySem.W.fnOf "_law_pick" "_law_pick" (defArgs s__law_pick) (defBody s__law_pick) (defScope s__law_pick) .none kV_pk dc_pk pm_pk an_pk cd_pk ct_pk), sl_pk⟩)
  (c_pk : PySem.W.codeIn K cd_pk "_law_pick" = true)
  (k_pk : PySem.W.keepIn K (.ref f_pk) = true)
  {f_lo : Addr}
  (a_lo : PySem.W.nsIn K mainGlobals "_law_lots" = some (some (.ref f_lo)))
  {od_lo an_lo : Option Addr}
  {sl_lo : Array (Option Value)}
  {oc_lo kV_lo dc_lo pm_lo cd_lo ct_lo : Value}
  (l_lo : K.lookup f_lo = some ⟨oc_lo, od_lo, .func (PySem.W.fnOf "_law_lots" "_law_lots" (defArgs s__law_lots) (defBody s__law_lots) (defScope s__law_lots) .none kV_lo dc_lo pm_lo an_lo cd_lo ct_lo), sl_lo⟩)
  (c_lo : PySem.W.codeIn K cd_lo "_law_lots" = true)
  (k_lo : PySem.W.keepIn K (.ref f_lo) = true)
  {f_ld : Addr}
  (a_ld : PySem.W.nsIn K mainGlobals "_law_land" = some (some (.ref f_ld)))
  {od_ld an_ld : Option Addr}
  {sl_ld : Array (Option Value)}
  {oc_ld kV_ld dc_ld pm_ld cd_ld ct_ld : Value}
  (l_ld : K.lookup f_ld = some ⟨oc_ld, od_ld, .func (PySem.W.fnOf "_law_land" "_law_land" (defArgs s__law_land) (defBody s__law_land) (defScope s__law_land) .none kV_ld dc_ld pm_ld an_ld cd_ld ct_ld), sl_ld⟩)
  (c_ld : PySem.W.codeIn K cd_ld "_law_land" = true)
  (k_ld : PySem.W.keepIn K (.ref f_ld) = true)
  {f_lc : Addr}
  (a_lc : PySem.W.nsIn K mainGlobals "_law_comes" = some (some (.ref f_lc)))
  {od_lc an_lc : Option Addr}
  {sl_lc : Array (Option Value)}
  {oc_lc kV_lc dc_lc pm_lc cd_lc ct_lc : Value}
  (l_lc : K.lookup f_lc = some ⟨oc_lc, od_lc, .func (PySem.W.fnOf "_law_comes" "_law_comes" (defArgs s__law_comes) (defBody s__law_comes) (defScope s__law_comes) .none kV_lc dc_lc pm_lc an_lc cd_lc ct_lc), sl_lc⟩)
  (c_lc : PySem.W.codeIn K cd_lc "_law_comes" = true)
  (k_lc : PySem.W.keepIn K (.ref f_lc) = true)
  {f_lop : Addr}
  (a_lop : PySem.W.nsIn K mainGlobals "_law_open" = some (some (.ref f_lop)))
  {od_lop an_lop : Option Addr}
  {sl_lop : Array (Option Value)}
  {oc_lop kV_lop dc_lop pm_lop cd_lop ct_lop : Value}
  (l_lop : K.lookup f_lop = some ⟨oc_lop, od_lop, .func (PySem.W.fnOf "_law_open" "_law_open" (defArgs s__law_open) (defBody s__law_open) (defScope s__law_open) .none kV_lop dc_lop pm_lop an_lop cd_lop ct_lop), sl_lop⟩)
  (c_lop : PySem.W.codeIn K cd_lop "_law_open" = true)
  (k_lop : PySem.W.keepIn K (.ref f_lop) = true)
  {f_md : Addr}
  (a_md : PySem.W.nsIn K mainGlobals "_law_made" = some (some (.ref f_md)))
  {od_md an_md : Option Addr}
  {sl_md : Array (Option Value)}
  {oc_md kV_md dc_md pm_md cd_md ct_md : Value}
  (l_md : K.lookup f_md = some ⟨oc_md, od_md, .func (PySem.W.fnOf "_law_made" "_law_made" (defArgs s__law_made) (defBody s__law_made) (defScope s__law_made) .none kV_md dc_md pm_md an_md cd_md ct_md), sl_md⟩)
  (c_md : PySem.W.codeIn K cd_md "_law_made" = true)
  (k_md : PySem.W.keepIn K (.ref f_md) = true)
  {f_rw : Addr}
  (a_rw : PySem.W.nsIn K mainGlobals "_law_rows" = some (some (.ref f_rw)))
  {od_rw an_rw : Option Addr}
  {sl_rw : Array (Option Value)}
  {oc_rw kV_rw dc_rw pm_rw cd_rw ct_rw : Value}
  (l_rw : K.lookup f_rw = some ⟨oc_rw, od_rw, .func (PySem.W.fnOf "_law_rows" "_law_rows" (defArgs s__law_rows) (defBody s__law_rows) (defScope s__law_rows) .none kV_rw dc_rw pm_rw an_rw cd_rw ct_rw), sl_rw⟩)
  (c_rw : PySem.W.codeIn K cd_rw "_law_rows" = true)
  (k_rw : PySem.W.keepIn K (.ref f_rw) = true)
  {f_nn : Addr}
  (a_nn : PySem.W.nsIn K mainGlobals "_law_number" = some (some (.ref f_nn)))
  {od_nn an_nn : Option Addr}
  {sl_nn : Array (Option Value)}
  {oc_nn kV_nn dc_nn pm_nn cd_nn ct_nn : Value}
  (l_nn : K.lookup f_nn = some ⟨oc_nn, od_nn, .func (PySem.W.fnOf "_law_number" "_law_number" (defArgs s__law_number) (defBody s__law_number) (defScope s__law_number) .none kV_nn dc_nn pm_nn an_nn cd_nn ct_nn), sl_nn⟩)
  (c_nn : PySem.W.codeIn K cd_nn "_law_number" = true)
  (k_nn : PySem.W.keepIn K (.ref f_nn) = true)
  {f_ps : Addr}
  (a_ps : PySem.W.nsIn K mainGlobals "_law_passed" = some (some (.ref f_ps)))
  {od_ps an_ps : Option Addr}
  {sl_ps : Array (Option Value)}
  {oc_ps kV_ps dc_ps pm_ps cd_ps ct_ps : Value}
  (l_ps : K.lookup f_ps = some ⟨oc_ps, od_ps, .func (PySem.W.fnOf "_law_passed" "_law_passed" (defArgs s__law_passed) (defBody s__law_passed) (defScope s__law_passed) .none kV_ps dc_ps pm_ps an_ps cd_ps ct_ps), sl_ps⟩)
  (c_ps : PySem.W.codeIn K cd_ps "_law_passed" = true)
  (k_ps : PySem.W.keepIn K (.ref f_ps) = true)
  {f_tw : Addr}
  (a_tw : PySem.W.nsIn K mainGlobals "_law_twin_word" = some (some (.ref f_tw)))
  {od_tw an_tw : Option Addr}
  {sl_tw : Array (Option Value)}
  {oc_tw kV_tw dc_tw pm_tw cd_tw ct_tw : Value}
  (l_tw : K.lookup f_tw = some ⟨oc_tw, od_tw, .func (PySem.W.fnOf "_law_twin_word" "_law_twin_word" (defArgs s__law_twin_word) (defBody s__law_twin_word) (defScope s__law_twin_word) .none kV_tw dc_tw pm_tw an_tw cd_tw ct_tw), sl_tw⟩)
  (c_tw : PySem.W.codeIn K cd_tw "_law_twin_word" = true)
  (k_tw : PySem.W.keepIn K (.ref f_tw) = true)
  {f_rf : Addr}
  (a_rf : PySem.W.nsIn K mainGlobals "_law_refused" = some (some (.ref f_rf)))
  {od_rf an_rf : Option Addr}
  {sl_rf : Array (Option Value)}
  {oc_rf kV_rf dc_rf pm_rf cd_rf ct_rf : Value}
  (l_rf : K.lookup f_rf = some ⟨oc_rf, od_rf, .func (PySem.W.fnOf "_law_refused" "_law_refused" (defArgs s__law_refused) (defBody s__law_refused) (defScope s__law_refused) .none kV_rf dc_rf pm_rf an_rf cd_rf ct_rf), sl_rf⟩)
  (c_rf : PySem.W.codeIn K cd_rf "_law_refused" = true)
  (k_rf : PySem.W.keepIn K (.ref f_rf) = true)
  {f_mr : Addr}
  (a_mr : PySem.W.nsIn K mainGlobals "_law_measure_refused" = some (some (.ref f_mr)))
  {od_mr an_mr : Option Addr}
  {sl_mr : Array (Option Value)}
  {oc_mr kV_mr dc_mr pm_mr cd_mr ct_mr : Value}
  (l_mr : K.lookup f_mr = some ⟨oc_mr, od_mr, .func (PySem.W.fnOf "_law_measure_refused" "_law_measure_refused" (defArgs s__law_measure_refused) (defBody s__law_measure_refused) (defScope s__law_measure_refused) .none kV_mr dc_mr pm_mr an_mr cd_mr ct_mr), sl_mr⟩)
  (c_mr : PySem.W.codeIn K cd_mr "_law_measure_refused" = true)
  (k_mr : PySem.W.keepIn K (.ref f_mr) = true)
  {f_sr : Addr}
  (a_sr : PySem.W.nsIn K mainGlobals "_law_start_refused" = some (some (.ref f_sr)))
  {od_sr an_sr : Option Addr}
  {sl_sr : Array (Option Value)}
  {oc_sr kV_sr dc_sr pm_sr cd_sr ct_sr : Value}
  (l_sr : K.lookup f_sr = some ⟨oc_sr, od_sr, .func (PySem.W.fnOf "_law_start_refused" "_law_start_refused" (defArgs s__law_start_refused) (defBody s__law_start_refused) (defScope s__law_start_refused) .none kV_sr dc_sr pm_sr an_sr cd_sr ct_sr), sl_sr⟩)
  (c_sr : PySem.W.codeIn K cd_sr "_law_start_refused" = true)
  (k_sr : PySem.W.keepIn K (.ref f_sr) = true)
  {f_dd : Addr}
  (a_dd : PySem.W.nsIn K mainGlobals "_law_due_differs" = some (some (.ref f_dd)))
  {od_dd an_dd : Option Addr}
  {sl_dd : Array (Option Value)}
  {oc_dd kV_dd dc_dd pm_dd cd_dd ct_dd : Value}
  (l_dd : K.lookup f_dd = some ⟨oc_dd, od_dd, .func (PySem.W.fnOf "_law_due_differs" "_law_due_differs" (defArgs s__law_due_differs) (defBody s__law_due_differs) (defScope s__law_due_differs) .none kV_dd dc_dd pm_dd an_dd cd_dd ct_dd), sl_dd⟩)
  (c_dd : PySem.W.codeIn K cd_dd "_law_due_differs" = true)
  (k_dd : PySem.W.keepIn K (.ref f_dd) = true)
  {f_ex : Addr}
  (a_ex : PySem.W.nsIn K mainGlobals "_law_exchanged" = some (some (.ref f_ex)))
  {od_ex an_ex : Option Addr}
  {sl_ex : Array (Option Value)}
  {oc_ex kV_ex dc_ex pm_ex cd_ex ct_ex : Value}
  (l_ex : K.lookup f_ex = some ⟨oc_ex, od_ex, .func (PySem.W.fnOf "_law_exchanged" "_law_exchanged" (defArgs s__law_exchanged) (defBody s__law_exchanged) (defScope s__law_exchanged) .none kV_ex dc_ex pm_ex an_ex cd_ex ct_ex), sl_ex⟩)
  (c_ex : PySem.W.codeIn K cd_ex "_law_exchanged" = true)
  (k_ex : PySem.W.keepIn K (.ref f_ex) = true)
  {f_rs : Addr}
  (a_rs : PySem.W.nsIn K mainGlobals "_law_refusals" = some (some (.ref f_rs)))
  {od_rs an_rs : Option Addr}
  {sl_rs : Array (Option Value)}
  {oc_rs kV_rs dc_rs pm_rs cd_rs ct_rs : Value}
  (l_rs : K.lookup f_rs = some ⟨oc_rs, od_rs, .func (PySem.W.fnOf "_law_refusals" "_law_refusals" (defArgs s__law_refusals) (defBody s__law_refusals) (defScope s__law_refusals) .none kV_rs dc_rs pm_rs an_rs cd_rs ct_rs), sl_rs⟩)
  (c_rs : PySem.W.codeIn K cd_rs "_law_refusals" = true)
  (k_rs : PySem.W.keepIn K (.ref f_rs) = true)
  {f_la : Addr}
  (a_la : PySem.W.nsIn K mainGlobals "law" = some (some (.ref f_la)))
  {od_la an_la : Option Addr}
  {sl_la : Array (Option Value)}
  {oc_la kV_la dc_la pm_la cd_la ct_la : Value}
  (l_la : K.lookup f_la = some ⟨oc_la, od_la, .func (PySem.W.fnOf "law" "law" (defArgs s_law) (defBody s_law) (defScope s_law) .none kV_la dc_la pm_la an_la cd_la ct_la), sl_la⟩)
  (c_la : PySem.W.codeIn K cd_la "law" = true)
  (k_la : PySem.W.keepIn K (.ref f_la) = true)
  {L : Addr}
  (aL : PySem.W.nsIn K mainGlobals "LandError" = some (some (.ref L)))
  (eL : PySem.W.subIn K (.ref L) (.type "BaseException") = some true)
  (dL : PySem.W.hasDictIn K L = true)
  (tL : PySem.W.typeIn K (.ref L) = some (.type "type"))
  (icL : PySem.W.isClsIn K L = true)
  (hnO : PySem.W.specialIn K (.builtin "object.__class__") "__get__" = some (some (.builtin "getset_descriptor.__get__")))
  (htO : PySem.W.takesIn K (.builtin "object.__class__") = some true)
  {LC : Addr}
  (aLC : PySem.W.nsIn K mainGlobals "Land" = some (some (.ref LC)))
  (pgLC : PySem.W.plainGet K LC Str.empty = true)
  (hdLC : PySem.W.hasDictIn K LC = true)
  (poLC : PySem.W.plainOver K LC = true)
  (saLC : PySem.W.findIn K (.ref LC) "__setattr__" = some (some (.builtin "object.__setattr__")))
  (mkLC : PySem.W.makesIn K LC = true)
  (kcLC : PySem.W.keepIn K (.ref LC) = true)
  (haLC : PySem.W.findIn K (.ref LC) "__class__" = some (some (.builtin "object.__class__")))
  (hmLC : PySem.W.mroIn K LC (.type "object") = some true)
  (neLC : PySem.W.findIn K (.ref LC) "__ne__" = some (some (.builtin "object.__ne__")))
  (n_LC_cells : PySem.W.findIn K (.ref LC) "cells" = some none)
  (n_LC_neighbours : PySem.W.findIn K (.ref LC) "neighbours" = some none)
  (n_LC_roads : PySem.W.findIn K (.ref LC) "roads" = some none)
  (n_LC_nearby : PySem.W.findIn K (.ref LC) "nearby" = some none)
  (n_LC__couples : PySem.W.findIn K (.ref LC) "_couples" = some none)
  {f_cI : Addr}
  (a_cI : PySem.W.findIn K (.ref LC) "__init__" = some (some (.ref f_cI)))
  (i_cI : PySem.W.isFn K (.ref f_cI) = true)
  {od_cI an_cI : Option Addr}
  {sl_cI : Array (Option Value)}
  {oc_cI kV_cI dc_cI pm_cI cd_cI ct_cI : Value}
  (l_cI : K.lookup f_cI = some ⟨oc_cI, od_cI, .func (PySem.W.fnOf "__init__" "Land.__init__" (defArgs s_Land___init__) (defBody s_Land___init__) (defScope s_Land___init__) .none kV_cI dc_cI pm_cI an_cI cd_cI ct_cI), sl_cI⟩)
  (c_cI : PySem.W.codeIn K cd_cI "Land.__init__" = true)
  (k_cI : PySem.W.keepIn K (.ref f_cI) = true)
  {f_eq : Addr}
  (a_eq : PySem.W.findIn K (.ref LC) "__eq__" = some (some (.ref f_eq)))
  (i_eq : PySem.W.isFn K (.ref f_eq) = true)
  {od_eq an_eq : Option Addr}
  {sl_eq : Array (Option Value)}
  {oc_eq kV_eq dc_eq pm_eq cd_eq ct_eq : Value}
  (l_eq : K.lookup f_eq = some ⟨oc_eq, od_eq, .func (PySem.W.fnOf "__eq__" "Land.__eq__" (defArgs s_Land___eq__) (defBody s_Land___eq__) (defScope s_Land___eq__) .none kV_eq dc_eq pm_eq an_eq cd_eq ct_eq), sl_eq⟩)
  (c_eq : PySem.W.codeIn K cd_eq "Land.__eq__" = true)
  (k_eq : PySem.W.keepIn K (.ref f_eq) = true)
  {VC : Addr}
  (aVC : PySem.W.nsIn K mainGlobals "View" = some (some (.ref VC)))
  (pgVC : PySem.W.plainGet K VC Str.empty = true)
  (hdVC : PySem.W.hasDictIn K VC = true)
  (poVC : PySem.W.plainOver K VC = true)
  (saVC : PySem.W.findIn K (.ref VC) "__setattr__" = some (some (.builtin "object.__setattr__")))
  (mkVC : PySem.W.makesIn K VC = true)
  (kcVC : PySem.W.keepIn K (.ref VC) = true)
  (haVC : PySem.W.findIn K (.ref VC) "__class__" = some (some (.builtin "object.__class__")))
  (hmVC : PySem.W.mroIn K VC (.type "object") = some true)
  (neVC : PySem.W.findIn K (.ref VC) "__ne__" = some (some (.builtin "object.__ne__")))
  (icVC : PySem.W.isClsIn K VC = true)
  (tyVC : PySem.W.typeIn K (.ref VC) = some (.type "type"))
  (n_VC_land : PySem.W.findIn K (.ref VC) "land" = some none)
  (n_VC_cell : PySem.W.findIn K (.ref VC) "cell" = some none)
  (n_VC_own : PySem.W.findIn K (.ref VC) "own" = some none)
  (n_VC_standings : PySem.W.findIn K (.ref VC) "standings" = some none)
  (n_VC_outside : PySem.W.findIn K (.ref VC) "outside" = some none)
  (n_VC_rights : PySem.W.findIn K (.ref VC) "rights" = some none)
  (n_VC_needed : PySem.W.findIn K (.ref VC) "needed" = some none)
  (n_VC_sleeping : PySem.W.findIn K (.ref VC) "sleeping" = some none)
  (n_VC_number : PySem.W.findIn K (.ref VC) "number" = some none)
  {f_vI : Addr}
  (a_vI : PySem.W.findIn K (.ref VC) "__init__" = some (some (.ref f_vI)))
  (i_vI : PySem.W.isFn K (.ref f_vI) = true)
  {od_vI an_vI : Option Addr}
  {sl_vI : Array (Option Value)}
  {oc_vI kV_vI dc_vI pm_vI cd_vI ct_vI : Value}
  (l_vI : K.lookup f_vI = some ⟨oc_vI, od_vI, .func (PySem.W.fnOf "__init__" "View.__init__" (defArgs s_View___init__) (defBody s_View___init__) (defScope s_View___init__) .none kV_vI dc_vI pm_vI an_vI cd_vI ct_vI), sl_vI⟩)
  (c_vI : PySem.W.codeIn K cd_vI "View.__init__" = true)
  (k_vI : PySem.W.keepIn K (.ref f_vI) = true)
  {f_vQ : Addr}
  (a_vQ : PySem.W.findIn K (.ref VC) "__eq__" = some (some (.ref f_vQ)))
  (i_vQ : PySem.W.isFn K (.ref f_vQ) = true)
  {od_vQ an_vQ : Option Addr}
  {sl_vQ : Array (Option Value)}
  {oc_vQ kV_vQ dc_vQ pm_vQ cd_vQ ct_vQ : Value}
  (l_vQ : K.lookup f_vQ = some ⟨oc_vQ, od_vQ, .func (PySem.W.fnOf "__eq__" "View.__eq__" (defArgs s_View___eq__) (defBody s_View___eq__) (defScope s_View___eq__) .none kV_vQ dc_vQ pm_vQ an_vQ cd_vQ ct_vQ), sl_vQ⟩)
  (c_vQ : PySem.W.codeIn K cd_vQ "View.__eq__" = true)
  (k_vQ : PySem.W.keepIn K (.ref f_vQ) = true)
  {f_vo : Addr}
  (a_vo : PySem.W.findIn K (.ref VC) "is_open" = some (some (.ref f_vo)))
  (i_vo : PySem.W.isFn K (.ref f_vo) = true)
  {od_vo an_vo : Option Addr}
  {sl_vo : Array (Option Value)}
  {oc_vo kV_vo dc_vo pm_vo cd_vo ct_vo : Value}
  (l_vo : K.lookup f_vo = some ⟨oc_vo, od_vo, .func (PySem.W.fnOf "is_open" "View.is_open" (defArgs s_View_is_open) (defBody s_View_is_open) (defScope s_View_is_open) .none kV_vo dc_vo pm_vo an_vo cd_vo ct_vo), sl_vo⟩)
  (c_vo : PySem.W.codeIn K cd_vo "View.is_open" = true)
  (k_vo : PySem.W.keepIn K (.ref f_vo) = true)
  {TC : Addr}
  (aTC : PySem.W.nsIn K mainGlobals "TwinView" = some (some (.ref TC)))
  (pgTC : PySem.W.plainGet K TC Str.empty = true)
  (hdTC : PySem.W.hasDictIn K TC = true)
  (poTC : PySem.W.plainOver K TC = true)
  (saTC : PySem.W.findIn K (.ref TC) "__setattr__" = some (some (.builtin "object.__setattr__")))
  (mkTC : PySem.W.makesIn K TC = true)
  (kcTC : PySem.W.keepIn K (.ref TC) = true)
  (haTC : PySem.W.findIn K (.ref TC) "__class__" = some (some (.builtin "object.__class__")))
  (hmTC : PySem.W.mroIn K TC (.type "object") = some true)
  (neTC : PySem.W.findIn K (.ref TC) "__ne__" = some (some (.builtin "object.__ne__")))
  (icTC : PySem.W.isClsIn K TC = true)
  (tyTC : PySem.W.typeIn K (.ref TC) = some (.type "type"))
  (n_TC_one : PySem.W.findIn K (.ref TC) "one" = some none)
  (n_TC_other : PySem.W.findIn K (.ref TC) "other" = some none)
  (n_TC_land : PySem.W.findIn K (.ref TC) "land" = some none)
  (n_TC_cell : PySem.W.findIn K (.ref TC) "cell" = some none)
  (n_TC_own : PySem.W.findIn K (.ref TC) "own" = some none)
  (n_TC_numbers : PySem.W.findIn K (.ref TC) "numbers" = some none)
  {f_tI : Addr}
  (a_tI : PySem.W.findIn K (.ref TC) "__init__" = some (some (.ref f_tI)))
  (i_tI : PySem.W.isFn K (.ref f_tI) = true)
  {od_tI an_tI : Option Addr}
  {sl_tI : Array (Option Value)}
  {oc_tI kV_tI dc_tI pm_tI cd_tI ct_tI : Value}
  (l_tI : K.lookup f_tI = some ⟨oc_tI, od_tI, .func (PySem.W.fnOf "__init__" "TwinView.__init__" (defArgs s_TwinView___init__) (defBody s_TwinView___init__) (defScope s_TwinView___init__) .none kV_tI dc_tI pm_tI an_tI cd_tI ct_tI), sl_tI⟩)
  (c_tI : PySem.W.codeIn K cd_tI "TwinView.__init__" = true)
  (k_tI : PySem.W.keepIn K (.ref f_tI) = true)
  {f_tQ : Addr}
  (a_tQ : PySem.W.findIn K (.ref TC) "__eq__" = some (some (.ref f_tQ)))
  (i_tQ : PySem.W.isFn K (.ref f_tQ) = true)
  {od_tQ an_tQ : Option Addr}
  {sl_tQ : Array (Option Value)}
  {oc_tQ kV_tQ dc_tQ pm_tQ cd_tQ ct_tQ : Value}
  (l_tQ : K.lookup f_tQ = some ⟨oc_tQ, od_tQ, .func (PySem.W.fnOf "__eq__" "TwinView.__eq__" (defArgs s_TwinView___eq__) (defBody s_TwinView___eq__) (defScope s_TwinView___eq__) .none kV_tQ dc_tQ pm_tQ an_tQ cd_tQ ct_tQ), sl_tQ⟩)
  (c_tQ : PySem.W.codeIn K cd_tQ "TwinView.__eq__" = true)
  (k_tQ : PySem.W.keepIn K (.ref f_tQ) = true)
  {f_di : Addr}
  (a_di : PySem.W.findIn K (.ref TC) "differs" = some (some (.ref f_di)))
  (i_di : PySem.W.isFn K (.ref f_di) = true)
  {od_di an_di : Option Addr}
  {sl_di : Array (Option Value)}
  {oc_di kV_di dc_di pm_di cd_di ct_di : Value}
  (l_di : K.lookup f_di = some ⟨oc_di, od_di, .func (PySem.W.fnOf "differs" "TwinView.differs" (defArgs s_TwinView_differs) (defBody s_TwinView_differs) (defScope s_TwinView_differs) .none kV_di dc_di pm_di an_di cd_di ct_di), sl_di⟩)
  (c_di : PySem.W.codeIn K cd_di "TwinView.differs" = true)
  (k_di : PySem.W.keepIn K (.ref f_di) = true)
  {f_tr : Addr}
  (a_tr : PySem.W.findIn K (.ref TC) "turned" = some (some (.ref f_tr)))
  (i_tr : PySem.W.isFn K (.ref f_tr) = true)
  {od_tr an_tr : Option Addr}
  {sl_tr : Array (Option Value)}
  {oc_tr kV_tr dc_tr pm_tr cd_tr ct_tr : Value}
  (l_tr : K.lookup f_tr = some ⟨oc_tr, od_tr, .func (PySem.W.fnOf "turned" "TwinView.turned" (defArgs s_TwinView_turned) (defBody s_TwinView_turned) (defScope s_TwinView_turned) .none kV_tr dc_tr pm_tr an_tr cd_tr ct_tr), sl_tr⟩)
  (c_tr : PySem.W.codeIn K cd_tr "TwinView.turned" = true)
  (k_tr : PySem.W.keepIn K (.ref f_tr) = true)
  {pr_su f_su : Addr}
  (a_su : PySem.W.findIn K (.ref TC) "surplus" = some (some (.ref pr_su)))
  (gp_su : PySem.W.specialIn K (.ref pr_su) "__get__" = some (some (.builtin "property.__get__")))
  (tp_su : PySem.W.takesIn K (.ref pr_su) = some true)
  {rest_su : List Value}
  (rp_su : PySem.W.recIn K pr_su "property" = some (.ref f_su :: rest_su))
  {od_su an_su : Option Addr}
  {sl_su : Array (Option Value)}
  {oc_su kV_su dc_su pm_su cd_su ct_su : Value}
  (l_su : K.lookup f_su = some ⟨oc_su, od_su, .func (PySem.W.fnOf "surplus" "TwinView.surplus" (defArgs s_TwinView_surplus) (defBody s_TwinView_surplus) (defScope s_TwinView_surplus) .none kV_su dc_su pm_su an_su cd_su ct_su), sl_su⟩)
  (c_su : PySem.W.codeIn K cd_su "TwinView.surplus" = true)
  (k_su : PySem.W.keepIn K (.ref f_su) = true)
  {B : Addr}
  (aB : PySem.W.nsIn K mainGlobals "BadCell" = some (some (.ref B)))
  {nmB qB : Str}
  {N_B : Addr}
  {bsB bmB subB : List Value}
  {snB : List Str}
  {abB : Bool}
  {colB : Option Bool}
  {ddB : Option Addr}
  {m0B m1B m2B m3B m5B : Option Value}
  (xB : K.lookup B = some (excClassObj nmB qB B N_B bsB bmB true snB subB abB colB ddB m0B m1B m2B m3B m5B "ValueError.__new__"))
  (rB : PySem.HandSPX.refsVE bmB = true)
  (saB : PySem.W.findIn K (.ref B) "__setattr__" = some (some (.builtin "object.__setattr__")))
  (exB : PySem.W.subIn K (.ref B) (.type "BaseException") = some true)
  (tyB : PySem.W.typeIn K (.ref B) = some (.type "type"))
  (kpB : PySem.W.keepIn K (.ref B) = true)
  (hgB : PySem.W.findIn K (.ref B) "__getattribute__" = some (some (.builtin "BaseException.__getattribute__")))
  (hkB : PySem.W.findIn K (.ref B) "__getattr__" = some none)
  (hdB : PySem.W.hasDictIn K B = true)
  (haB : PySem.W.findIn K (.ref B) "__class__" = some (some (.builtin "object.__class__")))
  (hmB : PySem.W.mroIn K B (.type "object") = some true)
  (icB : PySem.W.isClsIn K B = true)
  (ssB : PySem.W.subIn K (.ref B) (.ref B) = some true)
  (suB : PySem.W.subIn K (.ref B) (.ref L) = some true)
  (noB : PySem.W.findIn K (.ref B) "cell" = some none)
  {f_iB : Addr}
  (a_iB : PySem.W.findIn K (.ref B) "__init__" = some (some (.ref f_iB)))
  (t_iB : PySem.W.typeIn K (.ref f_iB) = some (.type "function"))
  {od_iB an_iB : Option Addr}
  {sl_iB : Array (Option Value)}
  {oc_iB kV_iB dc_iB pm_iB cd_iB ct_iB : Value}
  (l_iB : K.lookup f_iB = some ⟨oc_iB, od_iB, .func (PySem.W.fnOf "__init__" "BadCell.__init__" (defArgs s_BadCell___init__) (defBody s_BadCell___init__) (defScope s_BadCell___init__) .none kV_iB dc_iB pm_iB an_iB cd_iB ct_iB), sl_iB⟩)
  (c_iB : PySem.W.codeIn K cd_iB "BadCell.__init__" = true)
  (k_iB : PySem.W.keepIn K (.ref f_iB) = true)
  {BT : Addr}
  (aBT : PySem.W.nsIn K mainGlobals "BadTwin" = some (some (.ref BT)))
  {nmBT qBT : Str}
  {N_BT : Addr}
  {bsBT bmBT subBT : List Value}
  {snBT : List Str}
  {abBT : Bool}
  {colBT : Option Bool}
  {ddBT : Option Addr}
  {m0BT m1BT m2BT m3BT m5BT : Option Value}
  (xBT : K.lookup BT = some (excClassObj nmBT qBT BT N_BT bsBT bmBT true snBT subBT abBT colBT ddBT m0BT m1BT m2BT m3BT m5BT "ValueError.__new__"))
  (rBT : PySem.HandSPX.refsVE bmBT = true)
  (saBT : PySem.W.findIn K (.ref BT) "__setattr__" = some (some (.builtin "object.__setattr__")))
  (exBT : PySem.W.subIn K (.ref BT) (.type "BaseException") = some true)
  (tyBT : PySem.W.typeIn K (.ref BT) = some (.type "type"))
  (kpBT : PySem.W.keepIn K (.ref BT) = true)
  (hgBT : PySem.W.findIn K (.ref BT) "__getattribute__" = some (some (.builtin "BaseException.__getattribute__")))
  (hkBT : PySem.W.findIn K (.ref BT) "__getattr__" = some none)
  (hdBT : PySem.W.hasDictIn K BT = true)
  (haBT : PySem.W.findIn K (.ref BT) "__class__" = some (some (.builtin "object.__class__")))
  (hmBT : PySem.W.mroIn K BT (.type "object") = some true)
  (icBT : PySem.W.isClsIn K BT = true)
  (ssBT : PySem.W.subIn K (.ref BT) (.ref BT) = some true)
  (suBT : PySem.W.subIn K (.ref BT) (.ref L) = some true)
  (noBT : PySem.W.findIn K (.ref BT) "what" = some none)
  {f_iBT : Addr}
  (a_iBT : PySem.W.findIn K (.ref BT) "__init__" = some (some (.ref f_iBT)))
  (t_iBT : PySem.W.typeIn K (.ref f_iBT) = some (.type "function"))
  {od_iBT an_iBT : Option Addr}
  {sl_iBT : Array (Option Value)}
  {oc_iBT kV_iBT dc_iBT pm_iBT cd_iBT ct_iBT : Value}
  (l_iBT : K.lookup f_iBT = some ⟨oc_iBT, od_iBT, .func (PySem.W.fnOf "__init__" "BadTwin.__init__" (defArgs s_BadTwin___init__) (defBody s_BadTwin___init__) (defScope s_BadTwin___init__) .none kV_iBT dc_iBT pm_iBT an_iBT cd_iBT ct_iBT), sl_iBT⟩)
  (c_iBT : PySem.W.codeIn K cd_iBT "BadTwin.__init__" = true)
  (k_iBT : PySem.W.keepIn K (.ref f_iBT) = true)
  {BM : Addr}
  (aBM : PySem.W.nsIn K mainGlobals "BadMeasure" = some (some (.ref BM)))
  {nmBM qBM : Str}
  {N_BM : Addr}
  {bsBM bmBM subBM : List Value}
  {snBM : List Str}
  {abBM : Bool}
  {colBM : Option Bool}
  {ddBM : Option Addr}
  {m0BM m1BM m2BM m3BM m5BM : Option Value}
  (xBM : K.lookup BM = some (excClassObj nmBM qBM BM N_BM bsBM bmBM true snBM subBM abBM colBM ddBM m0BM m1BM m2BM m3BM m5BM "ValueError.__new__"))
  (rBM : PySem.HandSPX.refsVE bmBM = true)
  (saBM : PySem.W.findIn K (.ref BM) "__setattr__" = some (some (.builtin "object.__setattr__")))
  (exBM : PySem.W.subIn K (.ref BM) (.type "BaseException") = some true)
  (tyBM : PySem.W.typeIn K (.ref BM) = some (.type "type"))
  (kpBM : PySem.W.keepIn K (.ref BM) = true)
  (hgBM : PySem.W.findIn K (.ref BM) "__getattribute__" = some (some (.builtin "BaseException.__getattribute__")))
  (hkBM : PySem.W.findIn K (.ref BM) "__getattr__" = some none)
  (hdBM : PySem.W.hasDictIn K BM = true)
  (haBM : PySem.W.findIn K (.ref BM) "__class__" = some (some (.builtin "object.__class__")))
  (hmBM : PySem.W.mroIn K BM (.type "object") = some true)
  (icBM : PySem.W.isClsIn K BM = true)
  (ssBM : PySem.W.subIn K (.ref BM) (.ref BM) = some true)
  (noBM : PySem.W.findIn K (.ref BM) "measure" = some none)
  {f_iBM : Addr}
  (a_iBM : PySem.W.findIn K (.ref BM) "__init__" = some (some (.ref f_iBM)))
  (t_iBM : PySem.W.typeIn K (.ref f_iBM) = some (.type "function"))
  {od_iBM an_iBM : Option Addr}
  {sl_iBM : Array (Option Value)}
  {oc_iBM kV_iBM dc_iBM pm_iBM cd_iBM ct_iBM : Value}
  (l_iBM : K.lookup f_iBM = some ⟨oc_iBM, od_iBM, .func (PySem.W.fnOf "__init__" "BadMeasure.__init__" (defArgs s_BadMeasure___init__) (defBody s_BadMeasure___init__) (defScope s_BadMeasure___init__) .none kV_iBM dc_iBM pm_iBM an_iBM cd_iBM ct_iBM), sl_iBM⟩)
  (c_iBM : PySem.W.codeIn K cd_iBM "BadMeasure.__init__" = true)
  (k_iBM : PySem.W.keepIn K (.ref f_iBM) = true)
  (sLV : PySem.W.subIn K (.ref LC) (.ref VC) = some false)
  (ssLC : PySem.W.subIn K (.ref LC) (.ref LC) = some true)
  (sNV : PySem.W.subIn K (.type "NoneType") (.ref VC) = some false)
  (sIV : PySem.W.subIn K (.type "int") (.ref VC) = some false)
  (sSV : PySem.W.subIn K (.type "str") (.ref VC) = some false)
  (sLiV : PySem.W.subIn K (.type "list") (.ref VC) = some false)
  (sVT : PySem.W.subIn K (.ref VC) (.ref TC) = some false)
  (ssVC : PySem.W.subIn K (.ref VC) (.ref VC) = some true)
  (sNT : PySem.W.subIn K (.type "NoneType") (.ref TC) = some false)
  (nfTV : PySem.W.notFirst K TC (.ref VC) = true)
  (nfTN : PySem.W.notFirst K TC (.type "NoneType") = true)
  (sTM : PySem.W.subIn K (.ref BT) (.ref BM) = some false)
  (sTB : PySem.W.subIn K (.ref BT) (.ref B) = some false)
  (sMT : PySem.W.subIn K (.ref BM) (.ref BT) = some false)
  (sMV : PySem.W.subIn K (.ref BM) (.type "ValueError") = some true)
  {t_M : Tok}
  (a_M : PySem.W.nsIn K mainGlobals "MOST_CELLS" = some (some (.int 5 t_M)))
  {ST : Addr}
  (a_ST : PySem.W.nsIn K mainGlobals "STANDINGS" = some (some (.ref ST)))
  {o_ST : Array Value}
  {z_ST : Nat}
  {s_ST : Array (Option Value)}
  (l_ST : K.lookup ST = some ⟨.type "tuple", none, .seq o_ST z_ST, s_ST⟩)
  (v_ST : Vals ([.str "none", .str "awake", .str "needed", .str "asleep"]) o_ST.toList)
  (w_ST : o_ST.size ≤ sizeLine)
  {RI : Addr}
  (a_RI : PySem.W.nsIn K mainGlobals "RIGHTS" = some (some (.ref RI)))
  {o_RI : Array Value}
  {z_RI : Nat}
  {s_RI : Array (Option Value)}
  (l_RI : K.lookup RI = some ⟨.type "tuple", none, .seq o_RI z_RI, s_RI⟩)
  (v_RI : Vals ([.str "awake", .str "needed"]) o_RI.toList)
  (w_RI : o_RI.size ≤ sizeLine)
  {DG : Addr}
  (a_DG : PySem.W.nsIn K mainGlobals "DIGITS" = some (some (.ref DG)))
  {o_DG : Array Value}
  {z_DG : Nat}
  {s_DG : Array (Option Value)}
  (l_DG : K.lookup DG = some ⟨.type "tuple", none, .seq o_DG z_DG, s_DG⟩)
  (v_DG : Vals ([.str "own", .str "asleep", .str "none", .str "awake", .str "needed"]) o_DG.toList)
  (w_DG : o_DG.size ≤ sizeLine)
  {OW : Addr}
  (a_OW : PySem.W.nsIn K mainGlobals "_OWN" = some (some (.ref OW)))
  {o_OW : Array Value}
  {z_OW : Nat}
  {s_OW : Array (Option Value)}
  (l_OW : K.lookup OW = some ⟨.type "tuple", none, .seq o_OW z_OW, s_OW⟩)
  (v_OW : Vals ([.str "own", .str "asleep"]) o_OW.toList)
  (w_OW : o_OW.size ≤ sizeLine)
  {MS : Addr}
  (a_MS : PySem.W.nsIn K mainGlobals "MEASURES" = some (some (.ref MS)))
  {o_MS : Array Value}
  {z_MS : Nat}
  {s_MS : Array (Option Value)}
  (l_MS : K.lookup MS = some ⟨.type "tuple", none, .seq o_MS z_MS, s_MS⟩)
  (v_MS : Vals ([.str "standing", .str "passing", .str "open"]) o_MS.toList)
  (w_MS : o_MS.size ≤ sizeLine)
  (z_isinstance : PySem.W.nsIn K mainGlobals "isinstance" = some none)
  (z_int : PySem.W.nsIn K mainGlobals "int" = some none)
  (z_bool : PySem.W.nsIn K mainGlobals "bool" = some none)
  (z_str : PySem.W.nsIn K mainGlobals "str" = some none)
  (z_tuple : PySem.W.nsIn K mainGlobals "tuple" = some none)
  (z_list : PySem.W.nsIn K mainGlobals "list" = some none)
  (z_enumerate : PySem.W.nsIn K mainGlobals "enumerate" = some none)
  (z_len : PySem.W.nsIn K mainGlobals "len" = some none)
  (z_abs : PySem.W.nsIn K mainGlobals "abs" = some none)
  (z_range : PySem.W.nsIn K mainGlobals "range" = some none)
  (z_min : PySem.W.nsIn K mainGlobals "min" = some none)
  (z_max : PySem.W.nsIn K mainGlobals "max" = some none)
  (z_sorted : PySem.W.nsIn K mainGlobals "sorted" = some none)
  (z_set : PySem.W.nsIn K mainGlobals "set" = some none)
  (z_all : PySem.W.nsIn K mainGlobals "all" = some none)
  (z_any : PySem.W.nsIn K mainGlobals "any" = some none)
  (z_ValueError : PySem.W.nsIn K mainGlobals "ValueError" = some none) :
    ∃ fd : FuncData, (∀ (s : Shared) (u : Value), BindsTo s fd ⟨[u], []⟩ [("_law_script", u)]) ∧ ∀ base : Heap, K.In base → base.Ns mainGlobals mg → FnOk P w K mg base CX0 11 fa fd ["_law_script"] (spLaw K) := by
  have e := hfa.symm.trans (PySem.W.mg_of X G a_la)
  cases e
  have F_sq := fun_mk (st := s_is_sequence) l_sq c_sq k_sq
  have b_sq := F_sq.binds (ps := ["thing"]) fun _ _ _ _ _ _ us hl => match us, hl with | [_], _ => rfl
  have g_sq := PySem.W.mg_of X G a_sq
  have F_isw := fun_mk (st := s_is_whole) l_isw c_isw k_isw
  have b_isw := F_isw.binds (ps := ["thing", "low", "high"]) fun _ _ _ _ _ _ us hl => match us, hl with | [_, _, _], _ => rfl
  have g_isw := PySem.W.mg_of X G a_isw
  have F_ac := fun_mk (st := s_are_cells) l_ac c_ac k_ac
  have b_ac := F_ac.binds (ps := ["many", "thing", "least"]) fun _ _ _ _ _ _ us hl => match us, hl with | [_, _, _], _ => rfl
  have g_ac := PySem.W.mg_of X G a_ac
  have F_a2 := fun_mk (st := s_are_two_cells) l_a2 c_a2 k_a2
  have b_a2 := F_a2.binds (ps := ["many", "thing"]) fun _ _ _ _ _ _ us hl => match us, hl with | [_, _], _ => rfl
  have g_a2 := PySem.W.mg_of X G a_a2
  have F_ic := fun_mk (st := s_is_cell) l_ic c_ic k_ic
  have b_ic := F_ic.binds (ps := ["land", "thing"]) fun _ _ _ _ _ _ us hl => match us, hl with | [_, _], _ => rfl
  have g_ic := PySem.W.mg_of X G a_ic
  have F_il := fun_mk (st := s_is_lot) l_il c_il k_il
  have b_il := F_il.binds (ps := ["land", "thing", "least"]) fun _ _ _ _ _ _ us hl => match us, hl with | [_, _, _], _ => rfl
  have g_il := PySem.W.mg_of X G a_il
  have F_ck := fun_mk (st := s_check_cells) l_ck c_ck k_ck
  have g_ck := PySem.W.mg_of X G a_ck
  have F_sp := fun_mk (st := s_spread) l_sp c_sp k_sp
  have b_sp := F_sp.binds (ps := ["nearby", "cell", "passing"]) fun _ _ _ _ _ _ us hl => match us, hl with | [_, _, _], _ => rfl
  have g_sp := PySem.W.mg_of X G a_sp
  have F_ny := fun_mk (st := s_nearby_cells) l_ny c_ny k_ny
  have b_ny := F_ny.binds (ps := ["cells", "couples"]) fun _ _ _ _ _ _ us hl => match us, hl with | [_, _], _ => rfl
  have g_ny := PySem.W.mg_of X G a_ny
  have F_ht := fun_mk (st := s_hang_together) l_ht c_ht k_ht
  have b_ht := F_ht.binds (ps := ["cells", "couples"]) fun _ _ _ _ _ _ us hl => match us, hl with | [_, _], _ => rfl
  have g_ht := PySem.W.mg_of X G a_ht
  have F_nb := fun_mk (st := s__are_neighbours) l_nb c_nb k_nb
  have b_nb := F_nb.binds (ps := ["cells", "thing"]) fun _ _ _ _ _ _ us hl => match us, hl with | [_, _], _ => rfl
  have g_nb := PySem.W.mg_of X G a_nb
  have F_op := fun_mk (st := s_opens) l_op c_op k_op
  have b_op := F_op.binds (ps := ["land", "cell", "passing"]) fun _ _ _ _ _ _ us hl => match us, hl with | [_, _, _], _ => rfl
  have g_op := PySem.W.mg_of X G a_op
  have F_ir := fun_mk (st := s_is_row) l_ir c_ir k_ir
  have b_ir := F_ir.binds (ps := ["land", "a", "thing"]) fun _ _ _ _ _ _ us hl => match us, hl with | [_, _, _], _ => rfl
  have g_ir := PySem.W.mg_of X G a_ir
  have F_nr := fun_mk (st := s_number_of_row) l_nr c_nr k_nr
  have b_nr := F_nr.binds (ps := ["cell", "own", "row"]) fun _ _ _ _ _ _ us hl => match us, hl with | [_, _, _], _ => rfl
  have g_nr := PySem.W.mg_of X G a_nr
  have F_cv := fun_mk (st := s__check_places) l_cv c_cv k_cv
  have b_cv := F_cv.binds (ps := ["own", "standings"]) fun _ _ _ _ _ _ us hl => match us, hl with | [_, _], _ => rfl
  have g_cv := PySem.W.mg_of X G a_cv
  have F_vb := fun_mk (st := s_view_by_ways) l_vb c_vb k_vb
  have b_vb := F_vb.binds (ps := ["land", "cell", "ways"]) fun _ _ _ _ _ _ us hl => match us, hl with | [_, _, _], _ => rfl
  have g_vb := PySem.W.mg_of X G a_vb
  have F_nu := fun_mk (st := s__numbered) l_nu c_nu k_nu
  have b_nu := F_nu.binds (ps := ["land", "cell", "number"]) fun _ _ _ _ _ _ us hl => match us, hl with | [_, _, _], _ => rfl
  have g_nu := PySem.W.mg_of X G a_nu
  have F_sv := fun_mk (st := s_start_view) l_sv c_sv k_sv
  have b_sv := F_sv.binds (ps := ["land", "cell"]) fun _ _ _ _ _ _ us hl => match us, hl with | [_, _], _ => rfl
  have g_sv := PySem.W.mg_of X G a_sv
  have F_cm := fun_mk (st := s_check_measure) l_cm c_cm k_cm
  have b_cm := F_cm.binds (ps := ["measure"]) fun _ _ _ _ _ _ us hl => match us, hl with | [_], _ => rfl
  have g_cm := PySem.W.mg_of X G a_cm
  have F_ts := fun_mk (st := s_twin_start) l_ts c_ts k_ts
  have b_ts := F_ts.binds (ps := ["land", "cell"]) fun _ _ _ _ _ _ us hl => match us, hl with | [_, _], _ => rfl
  have g_ts := PySem.W.mg_of X G a_ts
  have F_mi := fun_mk (st := s__law_mix) l_mi c_mi k_mi
  have b_mi := F_mi.binds (ps := ["_law_number_here", "_law_turn"]) fun _ _ _ _ _ _ us hl => match us, hl with | [_, _], _ => rfl
  have g_mi := PySem.W.mg_of X G a_mi
  have F_ha := fun_mk (st := s__law_hand) l_ha c_ha k_ha
  have b_ha := F_ha.binds (ps := ["_law_script"]) fun _ _ _ _ _ _ us hl => match us, hl with | [_], _ => rfl
  have g_ha := PySem.W.mg_of X G a_ha
  have F_dr := fun_mk (st := s__law_draw) l_dr c_dr k_dr
  have b_dr := F_dr.binds (ps := ["_law_hand_here", "_law_many"]) fun _ _ _ _ _ _ us hl => match us, hl with | [_, _], _ => rfl
  have g_dr := PySem.W.mg_of X G a_dr
  have F_pk := fun_mk (st := s__law_pick) l_pk c_pk k_pk
  have b_pk := F_pk.binds (ps := ["_law_hand_here", "_law_things"]) fun _ _ _ _ _ _ us hl => match us, hl with | [_, _], _ => rfl
  have g_pk := PySem.W.mg_of X G a_pk
  have F_lo := fun_mk (st := s__law_lots) l_lo c_lo k_lo
  have b_lo := F_lo.binds (ps := ["_law_cells"]) fun _ _ _ _ _ _ us hl => match us, hl with | [_], _ => rfl
  have g_lo := PySem.W.mg_of X G a_lo
  have F_ld := fun_mk (st := s__law_land) l_ld c_ld k_ld
  have b_ld := F_ld.binds (ps := ["_law_hand_here", "_law_n"]) fun _ _ _ _ _ _ us hl => match us, hl with | [_, _], _ => rfl
  have g_ld := PySem.W.mg_of X G a_ld
  have F_lc := fun_mk (st := s__law_comes) l_lc c_lc k_lc
  have b_lc := F_lc.binds (ps := ["_law_land_here", "_law_cell", "_law_passing"]) fun _ _ _ _ _ _ us hl => match us, hl with | [_, _, _], _ => rfl
  have g_lc := PySem.W.mg_of X G a_lc
  have F_lop := fun_mk (st := s__law_open) l_lop c_lop k_lop
  have b_lop := F_lop.binds (ps := ["_law_land_here", "_law_cell", "_law_passing"]) fun _ _ _ _ _ _ us hl => match us, hl with | [_, _, _], _ => rfl
  have g_lop := PySem.W.mg_of X G a_lop
  have F_md := fun_mk (st := s__law_made) l_md c_md k_md
  have b_md := F_md.binds (ps := ["_law_land_here"]) fun _ _ _ _ _ _ us hl => match us, hl with | [_], _ => rfl
  have g_md := PySem.W.mg_of X G a_md
  have F_rw := fun_mk (st := s__law_rows) l_rw c_rw k_rw
  have b_rw := F_rw.binds (ps := ["_law_hand_here", "_law_n", "_law_cell"]) fun _ _ _ _ _ _ us hl => match us, hl with | [_, _, _], _ => rfl
  have g_rw := PySem.W.mg_of X G a_rw
  have F_nn := fun_mk (st := s__law_number) l_nn c_nn k_nn
  have b_nn := F_nn.binds (ps := ["_law_n", "_law_cell", "_law_own", "_law_row"]) fun _ _ _ _ _ _ us hl => match us, hl with | [_, _, _, _], _ => rfl
  have g_nn := PySem.W.mg_of X G a_nn
  have F_ps := fun_mk (st := s__law_passed) l_ps c_ps k_ps
  have b_ps := F_ps.binds (ps := ["_law_n", "_law_own", "_law_row"]) fun _ _ _ _ _ _ us hl => match us, hl with | [_, _, _], _ => rfl
  have g_ps := PySem.W.mg_of X G a_ps
  have F_tw := fun_mk (st := s__law_twin_word) l_tw c_tw k_tw
  have b_tw := F_tw.binds (ps := ["_law_one", "_law_other"]) fun _ _ _ _ _ _ us hl => match us, hl with | [_, _], _ => rfl
  have g_tw := PySem.W.mg_of X G a_tw
  have F_rf := fun_mk (st := s__law_refused) l_rf c_rf k_rf
  have b_rf := F_rf.binds (ps := ["_law_one", "_law_other", "_law_what"]) fun _ _ _ _ _ _ us hl => match us, hl with | [_, _, _], _ => rfl
  have g_rf := PySem.W.mg_of X G a_rf
  have F_mr := fun_mk (st := s__law_measure_refused) l_mr c_mr k_mr
  have b_mr := F_mr.binds (ps := ["_law_twin", "_law_odd"]) fun _ _ _ _ _ _ us hl => match us, hl with | [_, _], _ => rfl
  have g_mr := PySem.W.mg_of X G a_mr
  have F_sr := fun_mk (st := s__law_start_refused) l_sr c_sr k_sr
  have b_sr := F_sr.binds (ps := ["_law_land_here", "_law_odd"]) fun _ _ _ _ _ _ us hl => match us, hl with | [_, _], _ => rfl
  have g_sr := PySem.W.mg_of X G a_sr
  have F_dd := fun_mk (st := s__law_due_differs) l_dd c_dd k_dd
  have b_dd := F_dd.binds (ps := ["_law_land_here", "_law_owns", "_law_rows_here"]) fun _ _ _ _ _ _ us hl => match us, hl with | [_, _, _], _ => rfl
  have g_dd := PySem.W.mg_of X G a_dd
  have F_ex := fun_mk (st := s__law_exchanged) l_ex c_ex k_ex
  have b_ex := F_ex.binds (ps := ["_law_twin", "_law_views", "_law_rows_here", "_law_surplus"]) fun _ _ _ _ _ _ us hl => match us, hl with | [_, _, _, _], _ => rfl
  have g_ex := PySem.W.mg_of X G a_ex
  have F_rs := fun_mk (st := s__law_refusals) l_rs c_rs k_rs
  have b_rs := F_rs.binds (ps := ["_law_hand_here", "_law_land_here", "_law_made_here", "_law_cell", "_law_own", "_law_view"]) fun _ _ _ _ _ _ us hl => match us, hl with | [_, _, _, _, _, _], _ => rfl
  have g_rs := PySem.W.mg_of X G a_rs
  have F_la := fun_mk (st := s_law) l_la c_la k_la
  have b_la := F_la.binds (ps := ["_law_script"]) fun _ _ _ _ _ _ us hl => match us, hl with | [_], _ => rfl
  have g_la := PySem.W.mg_of X G a_la
  have gcL := PySem.W.mg_of X G aL
  have F_cI := fun_mk (st := s_Land___init__) l_cI c_cI k_cI
  have b_cI := F_cI.binds (ps := ["self", "cells", "neighbours", "roads"]) fun _ _ _ _ _ _ us hl => match us, hl with | [_, _, _, _], _ => rfl
  have M_LC : Mk K LC f_cI := ⟨mkLC, a_cI, i_cI, kcLC⟩
  have F_eq := fun_mk (st := s_Land___eq__) l_eq c_eq k_eq
  have b_eq := F_eq.binds (ps := ["self", "other"]) fun _ _ _ _ _ _ us hl => match us, hl with | [_, _], _ => rfl
  have clsLC : Cls K LC := ⟨pgLC, hdLC, poLC, saLC⟩
  have gcLC := PySem.W.mg_of X G aLC
  have F_vI := fun_mk (st := s_View___init__) l_vI c_vI k_vI
  have b_vI := F_vI.binds (ps := ["self", "land", "cell", "own", "standings"]) fun _ _ _ _ _ _ us hl => match us, hl with | [_, _, _, _, _], _ => rfl
  have M_VC : Mk K VC f_vI := ⟨mkVC, a_vI, i_vI, kcVC⟩
  have F_vQ := fun_mk (st := s_View___eq__) l_vQ c_vQ k_vQ
  have b_vQ := F_vQ.binds (ps := ["self", "other"]) fun _ _ _ _ _ _ us hl => match us, hl with | [_, _], _ => rfl
  have F_vo := fun_mk (st := s_View_is_open) l_vo c_vo k_vo
  have b_vo := F_vo.binds (ps := ["self"]) fun _ _ _ _ _ _ us hl => match us, hl with | [_], _ => rfl
  have m_vo : Meth K VC "is_open" f_vo := ⟨a_vo, i_vo, k_vo⟩
  have clsVC : Cls K VC := ⟨pgVC, hdVC, poVC, saVC⟩
  have gcVC := PySem.W.mg_of X G aVC
  have F_tI := fun_mk (st := s_TwinView___init__) l_tI c_tI k_tI
  have b_tI := F_tI.binds (ps := ["self", "one", "other"]) fun _ _ _ _ _ _ us hl => match us, hl with | [_, _, _], _ => rfl
  have M_TC : Mk K TC f_tI := ⟨mkTC, a_tI, i_tI, kcTC⟩
  have F_tQ := fun_mk (st := s_TwinView___eq__) l_tQ c_tQ k_tQ
  have b_tQ := F_tQ.binds (ps := ["self", "other"]) fun _ _ _ _ _ _ us hl => match us, hl with | [_, _], _ => rfl
  have F_di := fun_mk (st := s_TwinView_differs) l_di c_di k_di
  have b_di := F_di.binds (ps := ["self", "measure"]) fun _ _ _ _ _ _ us hl => match us, hl with | [_, _], _ => rfl
  have m_di : Meth K TC "differs" f_di := ⟨a_di, i_di, k_di⟩
  have F_tr := fun_mk (st := s_TwinView_turned) l_tr c_tr k_tr
  have b_tr := F_tr.binds (ps := ["self"]) fun _ _ _ _ _ _ us hl => match us, hl with | [_], _ => rfl
  have m_tr : Meth K TC "turned" f_tr := ⟨a_tr, i_tr, k_tr⟩
  have F_su := fun_mk (st := s_TwinView_surplus) l_su c_su k_su
  have b_su := F_su.binds (ps := ["self"]) fun _ _ _ _ _ _ us hl => match us, hl with | [_], _ => rfl
  have p_su : PropOf K TC "surplus" pr_su f_su := ⟨a_su, gp_su, tp_su, _, rp_su⟩
  have clsTC : Cls K TC := ⟨pgTC, hdTC, poTC, saTC⟩
  have gcTC := PySem.W.mg_of X G aTC
  have F_iB := fun_mk (st := s_BadCell___init__) l_iB c_iB k_iB
  have b_iB := F_iB.binds (ps := ["self", "cell"]) fun _ _ _ _ _ _ us hl => match us, hl with | [_, _], _ => rfl
  have oxB : OexC K B := ⟨⟨_, _, _, _, _, _, _, _, _, _, _, _, _, _, _, xB, rB⟩, saB, exB, tyB, kpB⟩
  have gcB := PySem.W.mg_of X G aB
  have emB : PySem.W.exmOne K (.ref B) (.ref B) = some true := PySem.W.exm_ref exB hdB tyB ssB
  have F_iBT := fun_mk (st := s_BadTwin___init__) l_iBT c_iBT k_iBT
  have b_iBT := F_iBT.binds (ps := ["self", "what"]) fun _ _ _ _ _ _ us hl => match us, hl with | [_, _], _ => rfl
  have oxBT : OexC K BT := ⟨⟨_, _, _, _, _, _, _, _, _, _, _, _, _, _, _, xBT, rBT⟩, saBT, exBT, tyBT, kpBT⟩
  have gcBT := PySem.W.mg_of X G aBT
  have emBT : PySem.W.exmOne K (.ref BT) (.ref BT) = some true := PySem.W.exm_ref exBT hdBT tyBT ssBT
  have F_iBM := fun_mk (st := s_BadMeasure___init__) l_iBM c_iBM k_iBM
  have b_iBM := F_iBM.binds (ps := ["self", "measure"]) fun _ _ _ _ _ _ us hl => match us, hl with | [_, _], _ => rfl
  have oxBM : OexC K BM := ⟨⟨_, _, _, _, _, _, _, _, _, _, _, _, _, _, _, xBM, rBM⟩, saBM, exBM, tyBM, kpBM⟩
  have gcBM := PySem.W.mg_of X G aBM
  have emBM : PySem.W.exmOne K (.ref BM) (.ref BM) = some true := PySem.W.exm_ref exBM hdBM tyBM ssBM
  have g_M := PySem.W.mg_of X G a_M
  have g_ST := PySem.W.mg_of X G a_ST
  have g_RI := PySem.W.mg_of X G a_RI
  have g_DG := PySem.W.mg_of X G a_DG
  have g_OW := PySem.W.mg_of X G a_OW
  have g_MS := PySem.W.mg_of X G a_MS
  have m_isinstance := PySem.W.mg_none_of X G z_isinstance
  have m_int := PySem.W.mg_none_of X G z_int
  have m_bool := PySem.W.mg_none_of X G z_bool
  have m_str := PySem.W.mg_none_of X G z_str
  have m_tuple := PySem.W.mg_none_of X G z_tuple
  have m_list := PySem.W.mg_none_of X G z_list
  have m_enumerate := PySem.W.mg_none_of X G z_enumerate
  have m_len := PySem.W.mg_none_of X G z_len
  have m_abs := PySem.W.mg_none_of X G z_abs
  have m_range := PySem.W.mg_none_of X G z_range
  have m_min := PySem.W.mg_none_of X G z_min
  have m_max := PySem.W.mg_none_of X G z_max
  have m_sorted := PySem.W.mg_none_of X G z_sorted
  have m_set := PySem.W.mg_none_of X G z_set
  have m_all := PySem.W.mg_none_of X G z_all
  have m_any := PySem.W.mg_none_of X G z_any
  have m_ValueError := PySem.W.mg_none_of X G z_ValueError
  have self : ∀ c : Addr, PySem.W.kitOne K (.ref c) (.ref c) = some true := fun c => by simp [PySem.W.kitOne]
  have kcls : ∀ t : Value, ∀ c : Addr, PySem.W.isClsIn K c = true → PySem.W.typeIn K (.ref c) = some (.type "type") → PySem.W.kitCls K t (.ref c) = PySem.W.subIn K t (.ref c) := fun t c i y => by
    have e1 : ((PySem.W.clsIn K c).isSome && PySem.W.typeIn K (.ref c) == some (.type "type")) = true := by rw [show (PySem.W.clsIn K c).isSome = true from i, y] <;> rfl
    show (if ((PySem.W.clsIn K c).isSome && PySem.W.typeIn K (.ref c) == some (.type "type")) = true then PySem.W.subIn K t (.ref c) else none) = _
    rw [if_pos e1]
  have kT : ∀ t c : Addr, PySem.W.isClsIn K c = true → PySem.W.typeIn K (.ref c) = some (.type "type") → PySem.W.subIn K (.ref t) (.ref c) = some true → PySem.W.kitOne K (.ref t) (.ref c) = some true := fun t c i y s => by
    unfold PySem.W.kitOne
    rw [kcls _ c i y, s]
    split <;> rfl
  have kF : ∀ t c : Addr, PySem.W.isClsIn K c = true → PySem.W.typeIn K (.ref c) = some (.type "type") → PySem.W.subIn K (.ref t) (.ref c) = some false → PySem.W.subIn K (.ref t) (.ref t) = some true → PySem.W.kitOne K (.ref t) (.ref c) = some false := fun t c i y s ss => by
    have hn : ¬ ((Value.ref t == Value.ref c) = true) := fun e => by
      have e' : t = c := by simpa using e
      subst e'
      rw [ss] at s
      cases s
    unfold PySem.W.kitOne
    rw [if_neg hn, kcls _ c i y, s]
  have kTy : ∀ t : String, ∀ c : Addr, PySem.W.isClsIn K c = true → PySem.W.typeIn K (.ref c) = some (.type "type") → PySem.W.subIn K (.type t) (.ref c) = some false → PySem.W.kitOne K (.type t) (.ref c) = some false := fun t c i y s => by
    have e1 : ((PySem.W.clsIn K c).isSome && PySem.W.typeIn K (.ref c) == some (.type "type")) = true := by rw [show (PySem.W.clsIn K c).isSome = true from i, y] <;> rfl
    show (if ((PySem.W.clsIn K c).isSome && PySem.W.typeIn K (.ref c) == some (.type "type")) = true then PySem.W.subIn K (.type t) (.ref c) else none) = some false
    rw [if_pos e1]
    exact s
  have TL : Tl K mg ⟨LC, B, f_iB⟩ :=
    { gC := gcLC, cl := clsLC, gB := gcB, oxB := oxB, iCB := a_iB, tIB := t_iB, nB := noB, nA := fun f hf => by
        simp only [lfields, List.mem_cons, List.not_mem_nil, or_false] at hf
        rcases hf with rfl | rfl | rfl | rfl | rfl
        · exact n_LC_cells
        · exact n_LC_neighbours
        · exact n_LC_roads
        · exact n_LC_nearby
        · exact n_LC__couples }
  have T2 : Tk K LC f_eq := ⟨haLC, hnO, htO, hmLC, self LC, a_eq, i_eq, neLC⟩
  have nVC : ∀ f ∈ vfields, NoAttr K VC f := fun f hf => by
        simp only [vfields, List.mem_cons, List.not_mem_nil, or_false] at hf
        rcases hf with rfl | rfl | rfl | rfl | rfl | rfl | rfl | rfl | rfl
        · exact n_VC_land
        · exact n_VC_cell
        · exact n_VC_own
        · exact n_VC_standings
        · exact n_VC_outside
        · exact n_VC_rights
        · exact n_VC_needed
        · exact n_VC_sleeping
        · exact n_VC_number
  have nTC : ∀ f ∈ tfields, NoAttr K TC f := fun f hf => by
        simp only [tfields, List.mem_cons, List.not_mem_nil, or_false] at hf
        rcases hf with rfl | rfl | rfl | rfl | rfl | rfl
        · exact n_TC_one
        · exact n_TC_other
        · exact n_TC_land
        · exact n_TC_cell
        · exact n_TC_own
        · exact n_TC_numbers
  have TV : Tv K mg VC f_vQ := ⟨gcVC, clsVC, nVC, haVC, hnO, htO, hmVC, self VC, a_vQ, i_vQ, neVC⟩
  have TT : Tt K mg TC f_tQ := ⟨gcTC, clsTC, nTC, haTC, hnO, htO, hmTC, self TC, a_tQ, i_tQ, neTC⟩
  have kDG : KTup K DG (digs.map V.str) := ⟨_, o_DG, z_DG, l_DG, rfl, rfl, w_DG, v_DG, rfl⟩
  have T5 : T5s K mg ST RI DG OW := ⟨g_ST, g_RI, g_DG, g_OW, fun _ => .inr ⟨_, o_ST, z_ST, l_ST, rfl, rfl, w_ST, v_ST⟩, fun _ => .inr ⟨_, o_RI, z_RI, l_RI, rfl, rfl, w_RI, v_RI⟩, kDG.t, kDG.ty, fun _ => .inr ⟨_, o_OW, z_OW, l_OW, rfl, rfl, w_OW, v_OW⟩⟩
  have TB : Er K mg "BadTwin" "what" BT f_iBT := ⟨gcBT, oxBT, a_iBT, t_iBT, noBT⟩
  have TM : Er K mg "BadMeasure" "measure" BM f_iBM := ⟨gcBM, oxBM, a_iBM, t_iBM, noBM⟩
  have sMS : ∀ H, SqT K H MS (measuresL.map V.str) := fun _ => .inr ⟨_, o_MS, z_MS, l_MS, rfl, rfl, w_MS, v_MS⟩
  have kMV : PySem.W.kitOne K (.ref BM) (.type "ValueError") = some true := by
    have km : PySem.W.kitMeta "ValueError" = true := by decide +kernel
    unfold PySem.W.kitOne
    split
    · rfl
    · show (if PySem.W.kitMeta "ValueError" = true then PySem.W.subIn K (.ref BM) (.type "ValueError") else none) = some true
      rw [if_pos km]
      exact sMV
  have kTa : PySem.W.kitAny K (.ref BT) [.ref BM, .ref B] = some false := kitAny_cons (kF BT BM icBM tyBM sTM ssBT) (fun _ => kitAny_cons (kF BT B icB tyB sTB ssBT) (fun _ => kitAny_nil) fun z => nomatch z) fun z => nomatch z
  have T3 : Te K mg B BT BM L := ⟨gcL, ⟨hgB, hkB, exB, hdB, haB, hnO, htO, hmB⟩, ⟨hgBT, hkBT, exBT, hdBT, haBT, hnO, htO, hmBT⟩, ⟨hgBM, hkBM, exBM, hdBM, haBM, hnO, htO, hmBM⟩, ⟨hgB, hkB, exB, hdB⟩, ⟨hgBT, hkBT, exBT, hdBT⟩, ⟨hgBM, hkBM, exBM, hdBM⟩, emB, emBT, emBM, kT B L icL tL suB, kT BT L icL tL suBT, kTa, kMV, kF BM BT icBT tyBT sMT ssBM⟩
  have TZ : Tz K LC VC := ⟨kTy "NoneType" VC icVC tyVC sNV, kTy "int" VC icVC tyVC sIV, kTy "str" VC icVC tyVC sSV, kTy "list" VC icVC tyVC sLiV, kF LC VC icVC tyVC sLV ssLC⟩
  have TQ : Tq K VC TC := ⟨nfTV, nfTN, kF VC TC icTC tyTC sVT ssVC, kTy "NoneType" TC icTC tyTC sNT⟩
  refine ⟨PySem.W.fnOf "law" "law" (defArgs s_law) (defBody s_law) (defScope s_law) .none kV_la dc_la pm_la an_la cd_la ct_la, fun s u => .of_eq rfl, fun base _ _ => ?_⟩
  have G_mi := ok_mix (P := P) (w := w) (mg := mg) (base := base)  F_mi m_int
  have G_ha := ok_hand (P := P) (w := w) (mg := mg) (base := base)  F_ha m_int m_abs m_enumerate
  have G_dr := ok_draw (P := P) (w := w) (mg := mg) (base := base)  F_dr F_mi g_mi b_mi m_int m_len
  have G_pk := ok_pick (P := P) (w := w) (mg := mg) (base := base)  F_pk k_dr G_dr g_dr b_dr m_len
  have G_lo := ok_lots (P := P) (w := w) (mg := mg) (base := base)  F_lo m_range m_len m_list
  have G_ld := ok_land (P := P) (w := w) (mg := mg) (base := base)  F_ld G_dr g_dr k_dr b_dr G_pk g_pk k_pk b_pk G_lo g_lo k_lo b_lo m_range m_len m_list m_min m_max m_sorted
  have G_isw := ok_whole (P := P) (w := w) (mg := mg) (base := base)  F_isw m_isinstance m_int m_bool
  have G_sq := ok_seq (P := P) (w := w) (mg := mg) (base := base)  F_sq m_isinstance m_list m_tuple
  have G_ac := ok_cells (P := P) (w := w) (mg := mg) (base := base)  F_ac G_sq g_sq k_sq b_sq G_isw g_isw k_isw b_isw m_len m_set m_all
  have G_a2 := ok_two (P := P) (w := w) (mg := mg) (base := base)  F_a2 G_ac g_ac k_ac b_ac m_len
  have G_sp := ok_spread (P := P) (w := w) (mg := mg) (base := base)  F_sp m_len
  have G_ny := ok_near (P := P) (w := w) (mg := mg) (base := base)  F_ny m_range m_tuple
  have G_ht := ok_hang (P := P) (w := w) (mg := mg) (base := base)  F_ht G_ny g_ny k_ny b_ny G_sp g_sp k_sp b_sp m_len m_list m_range
  have G_nb := ok_nbrs (P := P) (w := w) (mg := mg) (base := base)  F_nb G_sq g_sq k_sq b_sq G_a2 g_a2 k_a2 b_a2 m_len m_all m_tuple m_sorted
  have G_ic := ok_iscell (P := P) (w := w) (mg := mg) (base := base)  TL F_ic G_isw g_isw k_isw b_isw
  have G_ck := ok_check (P := P) (w := w) (mg := mg) (base := base)  TL F_ck G_ic g_ic k_ic b_ic F_iB b_iB
  have G_cI := ok_landI (P := P) (w := w) (mg := mg) (base := base)  TL g_M F_cI G_isw g_isw k_isw b_isw G_nb g_nb k_nb b_nb G_ac g_ac k_ac b_ac G_ht g_ht k_ht b_ht G_ny g_ny k_ny b_ny m_len m_sorted m_tuple m_range
  have G_eq := ok_eqL (P := P) (w := w) (mg := mg) (base := base)  TL T2 F_eq m_isinstance
  have G_il := ok_islot (P := P) (w := w) (mg := mg) (base := base)  TL F_il G_ac g_ac k_ac b_ac
  have G_ir := ok_isrow (P := P) (w := w) (mg := mg) (base := base)  TL T5 F_ir G_sq g_sq k_sq b_sq m_len m_all
  have G_op := ok_opens (P := P) (w := w) (mg := mg) (base := base)  TL F_op G_sp g_sp k_sp b_sp m_any
  have G_nr := ok_numr (P := P) (w := w) (mg := mg) (base := base)  T5 F_nr m_enumerate
  have G_cv := ok_chv (P := P) (w := w) (mg := mg) (base := base)  F_cv m_enumerate
  have G_vI := ok_vwi (P := P) (w := w) (mg := mg) (base := base)  TL T2 T5 clsVC nVC F_vI G_ic g_ic k_ic b_ic G_il g_il k_il b_il G_ir g_ir k_ir b_ir G_cv g_cv k_cv b_cv G_nr g_nr k_nr b_nr m_isinstance m_tuple m_sorted m_range
  have G_vQ := ok_eqV (P := P) (w := w) (mg := mg) (base := base)  TL TV T2 F_vQ m_isinstance G_eq b_eq
  have G_vo := ok_vopen (P := P) (w := w) (mg := mg) (base := base)  TV F_vo G_op g_op k_op b_op
  have G_vb := ok_vbyw (P := P) (w := w) (mg := mg) (base := base)  TV T5 F_vb M_VC G_vI b_vI m_list m_enumerate
  have G_nu := ok_num0 (P := P) (w := w) (mg := mg) (base := base)  TL T5 F_nu G_vb g_vb k_vb b_vb m_range
  have G_sv := ok_startv (P := P) (w := w) (mg := mg) (base := base)  G_ck g_ck k_ck F_sv G_nu g_nu k_nu b_nu
  have G_tI := ok_twi (P := P) (w := w) (mg := mg) (base := base)  TL TV TT T2 TB F_tI F_iBT b_iBT G_eq b_eq m_isinstance
  have G_tQ := ok_eqT (P := P) (w := w) (mg := mg) (base := base) (a := ⟨LC, B, f_iB⟩) TV TT F_tQ m_isinstance G_vQ b_vQ
  have G_su := ok_sur (P := P) (w := w) (mg := mg) (base := base) (a := ⟨LC, B, f_iB⟩) TV TT F_su m_tuple
  have G_cm := ok_chm (P := P) (w := w) (mg := mg) (base := base)  TM g_MS sMS F_cm F_iBM b_iBM
  have G_di := ok_dif (P := P) (w := w) (mg := mg) (base := base) (a := ⟨LC, B, f_iB⟩) TV TT F_di G_cm g_cm k_cm b_cm G_vQ b_vQ m_vo G_vo b_vo
  have G_tr := ok_trn (P := P) (w := w) (mg := mg) (base := base) (a := ⟨LC, B, f_iB⟩) TT F_tr M_TC G_tI b_tI
  have G_ts := ok_tws (P := P) (w := w) (mg := mg) (base := base)  TT F_ts G_sv g_sv k_sv b_sv M_TC G_tI b_tI
  have G_lc := ok_comes (P := P) (w := w) (mg := mg) (base := base)  F_lc m_range m_len
  have G_lop := ok_lopen (P := P) (w := w) (mg := mg) (base := base)  F_lop G_lc g_lc k_lc b_lc m_len
  have G_md := ok_made (P := P) (w := w) (mg := mg) (base := base)  TL F_md M_LC G_cI b_cI m_list
  have G_rw := ok_rws (P := P) (w := w) (mg := mg) (base := base)  F_rw G_dr g_dr k_dr b_dr G_pk g_pk k_pk b_pk m_range
  have G_nn := ok_nml (P := P) (w := w) (mg := mg) (base := base)  F_nn m_range
  have G_ps := ok_psl (P := P) (w := w) (mg := mg) (base := base)  F_ps m_range
  have G_tw := ok_tww (P := P) (w := w) (mg := mg) (base := base)  TL T3 TT TB TM F_tw M_TC G_tI b_tI m_isinstance
  have G_rf := ok_rft (P := P) (w := w) (mg := mg) (base := base)  F_rf G_tw g_tw k_tw b_tw
  have G_mr := ok_mrf (P := P) (w := w) (mg := mg) (base := base)  TL T3 TT TB TM F_mr m_di G_di b_di m_isinstance m_ValueError
  have G_sr := ok_srf (P := P) (w := w) (mg := mg) (base := base)  TL T3 F_sr G_ts g_ts k_ts b_ts m_isinstance
  have G_dd := ok_due (P := P) (w := w) (mg := mg) (base := base)  F_dd G_ps g_ps k_ps b_ps G_lop g_lop k_lop b_lop
  have G_ex := ok_exc (P := P) (w := w) (mg := mg) (base := base)  TV TT TQ F_ex m_tr G_tr b_tr p_su G_su b_su G_vQ b_vQ G_tQ b_tQ m_isinstance
  have G_rs := ok_refs (P := P) (w := w) (mg := mg) (base := base)  TL T2 TV TZ F_rs G_dr g_dr k_dr b_dr G_pk g_pk k_pk b_pk G_lo g_lo k_lo b_lo G_rf g_rf k_rf b_rf M_LC G_cI b_cI M_VC G_vI b_vI m_range m_len m_list m_int
  exact ok_law TL T2 TV TT g_MS sMS F_la G_ha g_ha k_ha b_ha G_dr g_dr k_dr b_dr G_ld g_ld k_ld b_ld G_pk g_pk k_pk b_pk G_rw g_rw k_rw b_rw G_md g_md k_md b_md G_nn g_nn k_nn b_nn G_ps g_ps k_ps b_ps G_dd g_dd k_dd b_dd G_ex g_ex k_ex b_ex G_mr g_mr k_mr b_mr G_sr g_sr k_sr b_sr G_rs g_rs k_rs b_rs G_ts g_ts k_ts b_ts m_di G_di b_di p_su G_su b_su M_VC G_vI b_vI M_TC G_tI b_tI G_vQ b_vQ G_tQ b_tQ G_eq b_eq m_list m_tuple m_sorted m_isinstance m_bool m_len
end K7
end
open PySem PySem.W PyProof.Rows
set_option maxHeartbeats 0 in
theorem PySem.Challenge.cw_landways_k46_twin_views_made_and_compare_holds : PySem.Challenge.rw_landways_k46_twin_views_made_and_compare.Holds := by
  w_on; o_law; k_head; (case hw => w_witness2)
  k_fill
  refine L2.walk_ofB (l := PySem.Challenge.rw_landways_k46_twin_views_made_and_compare) (n := 63) (k := 11) (x := "_law_script") (CX := fun _ => L2.CX0) (sp := fun w => K7.spLaw _) rfl (by decide) rfl ⟨rfl, by decide, by decide⟩ (fun w h Y => PySem.W.kIn_of Y) ?F (fun _ _ a ns hl _ _ hS => ⟨a, ns, rfl, hS, hl, fun _ => rfl⟩) (fun _ _ _ _ _ h => h)
  case F =>
    intro w mg fa h KX G hmg
    refine' K7.all_mk KX G hmg ?a_sq ?l_sq ?c_sq ?k_sq ?a_isw ?l_isw ?c_isw ?k_isw ?a_ac ?l_ac ?c_ac ?k_ac ?a_a2 ?l_a2 ?c_a2 ?k_a2 ?a_ic ?l_ic ?c_ic ?k_ic ?a_il ?l_il ?c_il ?k_il ?a_ck ?l_ck ?c_ck ?k_ck ?a_sp ?l_sp ?c_sp ?k_sp ?a_ny ?l_ny ?c_ny ?k_ny ?a_ht ?l_ht ?c_ht ?k_ht ?a_nb ?l_nb ?c_nb ?k_nb ?a_op ?l_op ?c_op ?k_op ?a_ir ?l_ir ?c_ir ?k_ir ?a_nr ?l_nr ?c_nr ?k_nr ?a_cv ?l_cv ?c_cv ?k_cv ?a_vb ?l_vb ?c_vb ?k_vb ?a_nu ?l_nu ?c_nu ?k_nu ?a_sv ?l_sv ?c_sv ?k_sv ?a_cm ?l_cm ?c_cm ?k_cm ?a_ts ?l_ts ?c_ts ?k_ts ?a_mi ?l_mi ?c_mi ?k_mi ?a_ha ?l_ha ?c_ha ?k_ha ?a_dr ?l_dr ?c_dr ?k_dr ?a_pk ?l_pk ?c_pk ?k_pk ?a_lo ?l_lo ?c_lo ?k_lo ?a_ld ?l_ld ?c_ld ?k_ld ?a_lc ?l_lc ?c_lc ?k_lc ?a_lop ?l_lop ?c_lop ?k_lop ?a_md ?l_md ?c_md ?k_md ?a_rw ?l_rw ?c_rw ?k_rw ?a_nn ?l_nn ?c_nn ?k_nn ?a_ps ?l_ps ?c_ps ?k_ps ?a_tw ?l_tw ?c_tw ?k_tw ?a_rf ?l_rf ?c_rf ?k_rf ?a_mr ?l_mr ?c_mr ?k_mr ?a_sr ?l_sr ?c_sr ?k_sr ?a_dd ?l_dd ?c_dd ?k_dd ?a_ex ?l_ex ?c_ex ?k_ex ?a_rs ?l_rs ?c_rs ?k_rs ?a_la ?l_la ?c_la ?k_la ?aL ?eL ?dL ?tL ?icL ?hnO ?htO ?aLC ?pgLC ?hdLC ?poLC ?saLC ?mkLC ?kcLC ?haLC ?hmLC ?neLC ?n_LC_cells ?n_LC_neighbours ?n_LC_roads ?n_LC_nearby ?n_LC__couples ?a_cI ?i_cI ?l_cI ?c_cI ?k_cI ?a_eq ?i_eq ?l_eq ?c_eq ?k_eq ?aVC ?pgVC ?hdVC ?poVC ?saVC ?mkVC ?kcVC ?haVC ?hmVC ?neVC ?icVC ?tyVC ?n_VC_land ?n_VC_cell ?n_VC_own ?n_VC_standings ?n_VC_outside ?n_VC_rights ?n_VC_needed ?n_VC_sleeping ?n_VC_number ?a_vI ?i_vI ?l_vI ?c_vI ?k_vI ?a_vQ ?i_vQ ?l_vQ ?c_vQ ?k_vQ ?a_vo ?i_vo ?l_vo ?c_vo ?k_vo ?aTC ?pgTC ?hdTC ?poTC ?saTC ?mkTC ?kcTC ?haTC ?hmTC ?neTC ?icTC ?tyTC ?n_TC_one ?n_TC_other ?n_TC_land ?n_TC_cell ?n_TC_own ?n_TC_numbers ?a_tI ?i_tI ?l_tI ?c_tI ?k_tI ?a_tQ ?i_tQ ?l_tQ ?c_tQ ?k_tQ ?a_di ?i_di ?l_di ?c_di ?k_di ?a_tr ?i_tr ?l_tr ?c_tr ?k_tr ?a_su ?gp_su ?tp_su ?rp_su ?l_su ?c_su ?k_su ?aB ?xB ?rB ?saB ?exB ?tyB ?kpB ?hgB ?hkB ?hdB ?haB ?hmB ?icB ?ssB ?suB ?noB ?a_iB ?t_iB ?l_iB ?c_iB ?k_iB ?aBT ?xBT ?rBT ?saBT ?exBT ?tyBT ?kpBT ?hgBT ?hkBT ?hdBT ?haBT ?hmBT ?icBT ?ssBT ?suBT ?noBT ?a_iBT ?t_iBT ?l_iBT ?c_iBT ?k_iBT ?aBM ?xBM ?rBM ?saBM ?exBM ?tyBM ?kpBM ?hgBM ?hkBM ?hdBM ?haBM ?hmBM ?icBM ?ssBM ?noBM ?a_iBM ?t_iBM ?l_iBM ?c_iBM ?k_iBM ?sLV ?ssLC ?sNV ?sIV ?sSV ?sLiV ?sVT ?ssVC ?sNT ?nfTV ?nfTN ?sTM ?sTB ?sMT ?sMV ?a_M ?a_ST ?l_ST ?v_ST ?w_ST ?a_RI ?l_RI ?v_RI ?w_RI ?a_DG ?l_DG ?v_DG ?w_DG ?a_OW ?l_OW ?v_OW ?w_OW ?a_MS ?l_MS ?v_MS ?w_MS ?z_isinstance ?z_int ?z_bool ?z_str ?z_tuple ?z_list ?z_enumerate ?z_len ?z_abs ?z_range ?z_min ?z_max ?z_sorted ?z_set ?z_all ?z_any ?z_ValueError
    (case a_sq => k_is)
    (case l_sq => k_is)
    (case c_sq => k_is)
    (case k_sq => k_is)
    (case a_isw => k_is)
    (case l_isw => k_is)
    (case c_isw => k_is)
    (case k_isw => k_is)
    (case a_ac => k_is)
    (case l_ac => k_is)
    (case c_ac => k_is)
    (case k_ac => k_is)
    (case a_a2 => k_is)
    (case l_a2 => k_is)
    (case c_a2 => k_is)
    (case k_a2 => k_is)
    (case a_ic => k_is)
    (case l_ic => k_is)
    (case c_ic => k_is)
    (case k_ic => k_is)
    (case a_il => k_is)
    (case l_il => k_is)
    (case c_il => k_is)
    (case k_il => k_is)
    (case a_ck => k_is)
    (case l_ck => k_is)
    (case c_ck => k_is)
    (case k_ck => k_is)
    (case a_sp => k_is)
    (case l_sp => k_is)
    (case c_sp => k_is)
    (case k_sp => k_is)
    (case a_ny => k_is)
    (case l_ny => k_is)
    (case c_ny => k_is)
    (case k_ny => k_is)
    (case a_ht => k_is)
    (case l_ht => k_is)
    (case c_ht => k_is)
    (case k_ht => k_is)
    (case a_nb => k_is)
    (case l_nb => k_is)
    (case c_nb => k_is)
    (case k_nb => k_is)
    (case a_op => k_is)
    (case l_op => k_is)
    (case c_op => k_is)
    (case k_op => k_is)
    (case a_ir => k_is)
    (case l_ir => k_is)
    (case c_ir => k_is)
    (case k_ir => k_is)
    (case a_nr => k_is)
    (case l_nr => k_is)
    (case c_nr => k_is)
    (case k_nr => k_is)
    (case a_cv => k_is)
    (case l_cv => k_is)
    (case c_cv => k_is)
    (case k_cv => k_is)
    (case a_vb => k_is)
    (case l_vb => k_is)
    (case c_vb => k_is)
    (case k_vb => k_is)
    (case a_nu => k_is)
    (case l_nu => k_is)
    (case c_nu => k_is)
    (case k_nu => k_is)
    (case a_sv => k_is)
    (case l_sv => k_is)
    (case c_sv => k_is)
    (case k_sv => k_is)
    (case a_cm => k_is)
    (case l_cm => k_is)
    (case c_cm => k_is)
    (case k_cm => k_is)
    (case a_ts => k_is)
    (case l_ts => k_is)
    (case c_ts => k_is)
    (case k_ts => k_is)
    (case a_mi => k_is)
    (case l_mi => k_is)
    (case c_mi => k_is)
    (case k_mi => k_is)
    (case a_ha => k_is)
    (case l_ha => k_is)
    (case c_ha => k_is)
    (case k_ha => k_is)
    (case a_dr => k_is)
    (case l_dr => k_is)
    (case c_dr => k_is)
    (case k_dr => k_is)
    (case a_pk => k_is)
    (case l_pk => k_is)
    (case c_pk => k_is)
    (case k_pk => k_is)
    (case a_lo => k_is)
    (case l_lo => k_is)
    (case c_lo => k_is)
    (case k_lo => k_is)
    (case a_ld => k_is)
    (case l_ld => k_is)
    (case c_ld => k_is)
    (case k_ld => k_is)
    (case a_lc => k_is)
    (case l_lc => k_is)
    (case c_lc => k_is)
    (case k_lc => k_is)
    (case a_lop => k_is)
    (case l_lop => k_is)
    (case c_lop => k_is)
    (case k_lop => k_is)
    (case a_md => k_is)
    (case l_md => k_is)
    (case c_md => k_is)
    (case k_md => k_is)
    (case a_rw => k_is)
    (case l_rw => k_is)
    (case c_rw => k_is)
    (case k_rw => k_is)
    (case a_nn => k_is)
    (case l_nn => k_is)
    (case c_nn => k_is)
    (case k_nn => k_is)
    (case a_ps => k_is)
    (case l_ps => k_is)
    (case c_ps => k_is)
    (case k_ps => k_is)
    (case a_tw => k_is)
    (case l_tw => k_is)
    (case c_tw => k_is)
    (case k_tw => k_is)
    (case a_rf => k_is)
    (case l_rf => k_is)
    (case c_rf => k_is)
    (case k_rf => k_is)
    (case a_mr => k_is)
    (case l_mr => k_is)
    (case c_mr => k_is)
    (case k_mr => k_is)
    (case a_sr => k_is)
    (case l_sr => k_is)
    (case c_sr => k_is)
    (case k_sr => k_is)
    (case a_dd => k_is)
    (case l_dd => k_is)
    (case c_dd => k_is)
    (case k_dd => k_is)
    (case a_ex => k_is)
    (case l_ex => k_is)
    (case c_ex => k_is)
    (case k_ex => k_is)
    (case a_rs => k_is)
    (case l_rs => k_is)
    (case c_rs => k_is)
    (case k_rs => k_is)
    (case a_la => k_is)
    (case l_la => k_is)
    (case c_la => k_is)
    (case k_la => k_is)
    (case aL => k_is)
    (case eL => k_is)
    (case dL => k_is)
    (case tL => k_is)
    (case icL => k_is)
    (case hnO => k_is)
    (case htO => k_is)
    (case aLC => k_is)
    (case pgLC => k_is)
    (case hdLC => k_is)
    (case poLC => k_is)
    (case saLC => k_is)
    (case mkLC => k_is)
    (case kcLC => k_is)
    (case haLC => k_is)
    (case hmLC => k_is)
    (case neLC => k_is)
    (case n_LC_cells => k_is)
    (case n_LC_neighbours => k_is)
    (case n_LC_roads => k_is)
    (case n_LC_nearby => k_is)
    (case n_LC__couples => k_is)
    (case a_cI => k_is)
    (case i_cI => k_is)
    (case l_cI => k_is)
    (case c_cI => k_is)
    (case k_cI => k_is)
    (case a_eq => k_is)
    (case i_eq => k_is)
    (case l_eq => k_is)
    (case c_eq => k_is)
    (case k_eq => k_is)
    (case aVC => k_is)
    (case pgVC => k_is)
    (case hdVC => k_is)
    (case poVC => k_is)
    (case saVC => k_is)
    (case mkVC => k_is)
    (case kcVC => k_is)
    (case haVC => k_is)
    (case hmVC => k_is)
    (case neVC => k_is)
    (case icVC => k_is)
    (case tyVC => k_is)
    (case n_VC_land => k_is)
    (case n_VC_cell => k_is)
    (case n_VC_own => k_is)
    (case n_VC_standings => k_is)
    (case n_VC_outside => k_is)
    (case n_VC_rights => k_is)
    (case n_VC_needed => k_is)
    (case n_VC_sleeping => k_is)
    (case n_VC_number => k_is)
    (case a_vI => k_is)
    (case i_vI => k_is)
    (case l_vI => k_is)
    (case c_vI => k_is)
    (case k_vI => k_is)
    (case a_vQ => k_is)
    (case i_vQ => k_is)
    (case l_vQ => k_is)
    (case c_vQ => k_is)
    (case k_vQ => k_is)
    (case a_vo => k_is)
    (case i_vo => k_is)
    (case l_vo => k_is)
    (case c_vo => k_is)
    (case k_vo => k_is)
    (case aTC => k_is)
    (case pgTC => k_is)
    (case hdTC => k_is)
    (case poTC => k_is)
    (case saTC => k_is)
    (case mkTC => k_is)
    (case kcTC => k_is)
    (case haTC => k_is)
    (case hmTC => k_is)
    (case neTC => k_is)
    (case icTC => k_is)
    (case tyTC => k_is)
    (case n_TC_one => k_is)
    (case n_TC_other => k_is)
    (case n_TC_land => k_is)
    (case n_TC_cell => k_is)
    (case n_TC_own => k_is)
    (case n_TC_numbers => k_is)
    (case a_tI => k_is)
    (case i_tI => k_is)
    (case l_tI => k_is)
    (case c_tI => k_is)
    (case k_tI => k_is)
    (case a_tQ => k_is)
    (case i_tQ => k_is)
    (case l_tQ => k_is)
    (case c_tQ => k_is)
    (case k_tQ => k_is)
    (case a_di => k_is)
    (case i_di => k_is)
    (case l_di => k_is)
    (case c_di => k_is)
    (case k_di => k_is)
    (case a_tr => k_is)
    (case i_tr => k_is)
    (case l_tr => k_is)
    (case c_tr => k_is)
    (case k_tr => k_is)
    (case a_su => k_is)
    (case gp_su => k_is)
    (case tp_su => k_is)
    (case rp_su => k_is)
    (case l_su => k_is)
    (case c_su => k_is)
    (case k_su => k_is)
    (case aB => k_is)
    (case xB => k_is)
    (case rB => decide +kernel)
    (case saB => k_is)
    (case exB => k_is)
    (case tyB => k_is)
    (case kpB => k_is)
    (case hgB => k_is)
    (case hkB => k_is)
    (case hdB => k_is)
    (case haB => k_is)
    (case hmB => k_is)
    (case icB => k_is)
    (case ssB => k_is)
    (case suB => k_is)
    (case noB => k_is)
    (case a_iB => k_is)
    (case t_iB => k_is)
    (case l_iB => k_is)
    (case c_iB => k_is)
    (case k_iB => k_is)
    (case aBT => k_is)
    (case xBT => k_is)
    (case rBT => decide +kernel)
    (case saBT => k_is)
    (case exBT => k_is)
    (case tyBT => k_is)
    (case kpBT => k_is)
    (case hgBT => k_is)
    (case hkBT => k_is)
    (case hdBT => k_is)
    (case haBT => k_is)
    (case hmBT => k_is)
    (case icBT => k_is)
    (case ssBT => k_is)
    (case suBT => k_is)
    (case noBT => k_is)
    (case a_iBT => k_is)
    (case t_iBT => k_is)
    (case l_iBT => k_is)
    (case c_iBT => k_is)
    (case k_iBT => k_is)
    (case aBM => k_is)
    (case xBM => k_is)
    (case rBM => decide +kernel)
    (case saBM => k_is)
    (case exBM => k_is)
    (case tyBM => k_is)
    (case kpBM => k_is)
    (case hgBM => k_is)
    (case hkBM => k_is)
    (case hdBM => k_is)
    (case haBM => k_is)
    (case hmBM => k_is)
    (case icBM => k_is)
    (case ssBM => k_is)
    (case noBM => k_is)
    (case a_iBM => k_is)
    (case t_iBM => k_is)
    (case l_iBM => k_is)
    (case c_iBM => k_is)
    (case k_iBM => k_is)
    (case sLV => k_is)
    (case ssLC => k_is)
    (case sNV => k_is)
    (case sIV => k_is)
    (case sSV => k_is)
    (case sLiV => k_is)
    (case sVT => k_is)
    (case ssVC => k_is)
    (case sNT => k_is)
    (case nfTV => k_is)
    (case nfTN => k_is)
    (case sTM => k_is)
    (case sTB => k_is)
    (case sMT => k_is)
    (case sMV => k_is)
    (case a_M => k_is)
    (case a_ST => k_is)
    (case l_ST => k_is)
    (case v_ST => exact (.cons ⟨_, rfl⟩ (.cons ⟨_, rfl⟩ (.cons ⟨_, rfl⟩ (.cons ⟨_, rfl⟩ .nil)))))
    (case w_ST => decide)
    (case a_RI => k_is)
    (case l_RI => k_is)
    (case v_RI => exact (.cons ⟨_, rfl⟩ (.cons ⟨_, rfl⟩ .nil)))
    (case w_RI => decide)
    (case a_DG => k_is)
    (case l_DG => k_is)
    (case v_DG => exact (.cons ⟨_, rfl⟩ (.cons ⟨_, rfl⟩ (.cons ⟨_, rfl⟩ (.cons ⟨_, rfl⟩ (.cons ⟨_, rfl⟩ .nil))))))
    (case w_DG => decide)
    (case a_OW => k_is)
    (case l_OW => k_is)
    (case v_OW => exact (.cons ⟨_, rfl⟩ (.cons ⟨_, rfl⟩ .nil)))
    (case w_OW => decide)
    (case a_MS => k_is)
    (case l_MS => k_is)
    (case v_MS => exact (.cons ⟨_, rfl⟩ (.cons ⟨_, rfl⟩ (.cons ⟨_, rfl⟩ .nil))))
    (case w_MS => decide)
    (case z_isinstance => k_is)
    (case z_int => k_is)
    (case z_bool => k_is)
    (case z_str => k_is)
    (case z_tuple => k_is)
    (case z_list => k_is)
    (case z_enumerate => k_is)
    (case z_len => k_is)
    (case z_abs => k_is)
    (case z_range => k_is)
    (case z_min => k_is)
    (case z_max => k_is)
    (case z_sorted => k_is)
    (case z_set => k_is)
    (case z_all => k_is)
    (case z_any => k_is)
    (case z_ValueError => k_is)

