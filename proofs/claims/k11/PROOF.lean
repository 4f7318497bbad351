import PyProof.Rows.All
import Wide.All
import OpenK.AllK
import Wide.FinOn
import PySem.Challenge.RW_landways_k11_states_refused
import HandS.ForMost
import HandS.Wide
import HandS.Evl
import HandS.Walk
import HandS.Zip
import HandS.TupAny
import HandS.Sort
import PyProof.ListRange
import HandS.Deep
import HandS.SortRule
import HandS.Star
import HandS.IsInst
import HandS.TupSets
import HandS.SetFor
import HandS.SetBool
import PyProof.TupleOfSeq
import HandS.Property
import HandS.ExcIs
import HandS.ExcField
import HandS.ForExc
import HandS.ExcInit
import HandS.Iter
import KE.GoesMore
import KE.GoesEnum
import HandS.Style
import HandS.RaiseMore
import HandS.SlotsOwn
import HandS.OwnEq
import KE.KExcIs
import HandS.EndBits
import PyProof.Rows.ReprOcc
import PyProof.Rows.StrJoinMade
import PyProof.FactsAll.dict_1
import PyProof.NeKinds
import PyProof.EqKinds
import HandS.MakeKw
import HandS.TupMul
import PyProof.InstEq
import PyProof.Rows.StrMul
import HandS.ExcBuiltin
import HandS.EndBits
set_option Elab.async false
set_option linter.all false
set_option maxRecDepth 100000
set_option maxHeartbeats 4000000
/-! ## P1 -/
section
open PySem PySem.Spec PyProof.Rows L2
namespace K7

def topS (i : Nat) : Stmt := PySem.Challenge.pw_landways_k11_states_refused.main.body.getD i (.Pass ⟨0, 0, 0, 0⟩)
abbrev N__law_mix : List Str := ["_law_number", "_law_turn", "_law_once", "_law_twice"]
abbrev s__law_mix : Stmt := topS 31
theorem sc__law_mix : FnScope ["_law_number", "_law_turn", "_law_once", "_law_twice"] ["_law_number", "_law_turn"] (defScope s__law_mix) := ⟨rfl, rfl, rfl, by decide +kernel, rfl, by decide +kernel, by decide +kernel⟩

abbrev N__law_draw : List Str := ["_law_hand_here", "_law_many", "_law_cell", "_law_rest"]
abbrev s__law_draw : Stmt := topS 33
theorem sc__law_draw : FnScope ["_law_hand_here", "_law_many", "_law_cell", "_law_rest"] ["_law_hand_here", "_law_many"] (defScope s__law_draw) := ⟨rfl, rfl, rfl, by decide +kernel, rfl, by decide +kernel, by decide +kernel⟩

abbrev N__law_pick : List Str := ["_law_hand_here", "_law_things"]
abbrev s__law_pick : Stmt := topS 34
theorem sc__law_pick : FnScope ["_law_hand_here", "_law_things"] ["_law_hand_here", "_law_things"] (defScope s__law_pick) := ⟨rfl, rfl, rfl, by decide +kernel, rfl, by decide +kernel, by decide +kernel⟩

abbrev N__law_hand : List Str := ["_law_script", "_law_total", "_law_k", "_law_cell"]
abbrev s__law_hand : Stmt := topS 32
theorem sc__law_hand : FnScope ["_law_script", "_law_total", "_law_k", "_law_cell"] ["_law_script"] (defScope s__law_hand) := ⟨rfl, rfl, rfl, by decide +kernel, rfl, by decide +kernel, by decide +kernel⟩

section
variable {P : Program} {w : World} {K : PySem.W.Frag} {mg : Str → Option Value} {base : Heap}
/-! mix: some number from 0 on -/
def spMix : Sp := fun vs H Q _ => ∃ n t : Int, vs = [.int n, .int t] ∧ ∀ r : Int, 0 ≤ r → Q (.int r) H
theorem ok_mix {f : Addr} {fd : FuncData} (F : Fun K "_law_mix" "_law_mix" s__law_mix f fd) (m_int : mg "int" = none) : FnOk P w K mg base CX0 1 f fd ["_law_number", "_law_turn"] spMix := by
  refine F.ok sc__law_mix (fun vs H Q E h => ?_) (fun cdv A outer s H vs Q E hr h => ?_)
  · obtain ⟨n, t, rfl, _⟩ := h
    rfl
  · obtain ⟨n, t, rfl, q⟩ := h
    refine ⟨_, (pss_cons (ps_set (i := 2) sc__law_mix.nd rfl (by first | exact Or.inl rfl | exact Or.inr rfl) (pe_op op_mod (pe_callTy call_int1 (by rfl) m_int boot_int (pa_cons (pe_op op_add (pe_op op_add (pe_op op_mul (pv 0) pe_int) (pe_op op_mul (pv 1) pe_int)) pe_int) pa_nil)) pe_int))
 (pss_cons (ps_set (i := 3) sc__law_mix.nd rfl (by first | exact Or.inl rfl | exact Or.inr rfl) (pe_op op_mod (pe_callTy call_int1 (by rfl) m_int boot_int (pa_cons (pe_op op_add (pe_op op_add (pe_op op_mul (pv 2) (pv 2)) (pe_op op_mul (pe_op op_fdiv (pv 2) pe_int) pe_int)) (pe_op op_mul (pv 1) pe_int)) pa_nil)) pe_int))
 (pss_one (ps_ret (pe_op op_fdiv (pe_op op_mod (pe_callTy call_int1 (by rfl) m_int boot_int (pa_cons (pe_op op_add (pe_op op_fdiv (pe_op op_mul (pv 3) (pv 3)) pe_int) (pv 2)) pa_nil)) pe_int) pe_int))))), ?_⟩
    have e1 : ∀ z : Int, 0 ≤ z % 2147483647 ∧ z % 2147483647 < 2147483647 := fun z => ⟨Int.emod_nonneg _ (by decide), Int.emod_lt_of_pos _ (by decide)⟩
    have e2 : ∀ z : Int, 0 ≤ z % 2147483399 ∧ z % 2147483399 < 2147483399 := fun z => ⟨Int.emod_nonneg _ (by decide), Int.emod_lt_of_pos _ (by decide)⟩
    refine ⟨_, rfl, _, _, rfl, rfl, .inr ⟨by decide, by decide⟩, _, rfl, _, _, rfl, rfl, .inr ⟨by decide, by decide⟩, _, _, rfl, rfl, _, _, rfl, rfl, .inl ⟨_, rfl, ?_⟩⟩
    refine ⟨_, _, rfl, rfl, show (0 : Int) < _ by decide, ?_⟩
    have b1 := e1 (n * 48271 + t * 16807 + 11)
    refine ⟨_, rfl, _, rfl, _, _, rfl, rfl, .inl ⟨by omega, by omega⟩, _, rfl, _, _, rfl, rfl, ⟨by decide, by decide⟩, _, _, rfl, rfl, .inr ⟨by decide, by decide⟩, _, _, rfl, rfl, _, rfl, _, _, rfl, rfl, .inr ⟨by decide, by decide⟩, _, _, rfl, rfl, .inl ⟨_, rfl, ?_⟩⟩
    refine ⟨_, _, rfl, rfl, show (0 : Int) < _ by decide, ?_⟩
    refine ⟨_, rfl, _, rfl, _, _, rfl, rfl, .inl ⟨by omega, by omega⟩, _, _, rfl, rfl, ⟨by decide, by decide⟩, _, rfl, _, _, rfl, rfl, .inl ⟨_, rfl, _, _, rfl, rfl, show (0 : Int) < _ by decide, _, _, rfl, rfl, ⟨by decide, by decide⟩, ?_⟩⟩
    exact q _ (Int.ediv_nonneg (Int.emod_nonneg _ (by decide)) (by decide))
/-! the hand -/
structure HandB (ns : List Int) (i x t : Int) : Prop where
  len : ns.length ≤ 63
  lo : 0 ≤ i
  hi : i ≤ ns.length
  x0 : 0 ≤ x
  t0 : 0 ≤ t
  pos : ∀ n ∈ ns, 0 ≤ n
def HandO (c : Addr) (i x t : Int) : HO := .lst [.ref c, .int i, .int x, .int t]
def Hand (H : Hp) (a c : Addr) : Prop := ∃ ns i x t, H a = some (HandO c i x t) ∧ H c = some (.lst (ns.map V.int)) ∧ HandB ns i x t
/-- H' is H but for the hand at a, which is a hand still -/
structure Drawn (H H' : Hp) (a c : Addr) : Prop where
  but : ∀ b, b ≠ a → H' b = H b
  hand : Hand H' a c
def spDraw : Sp := fun vs H Q _ => ∃ (a c : Addr) (many : Int), vs = [.ref a, .int many] ∧ Hand H a c ∧ 0 < many ∧ many < 2 ^ 200 ∧ ∀ H' r, Drawn H H' a c → 0 ≤ r → r < many → Q (.int r) H'
theorem hand_ne {H : Hp} {a c : Addr} {ns : List Int} {i x t : Int} (h1 : H a = some (HandO c i x t)) (h2 : H c = some (.lst (ns.map V.int))) : c ≠ a := by
  intro e
  subst e
  rw [h1] at h2
  unfold HandO at h2
  injection h2 with h2
  injection h2 with h2
  cases ns with
  | nil => cases h2
  | cons n r => rw [List.map_cons] at h2; injection h2 with h3 h4; cases h3
theorem drawn_of {H H0 : Hp} {a c : Addr} {ns : List Int} {i x t : Int} (hb : ∀ b, b ≠ a → H0 b = H b) (hc : c ≠ a) (h2 : H c = some (.lst (ns.map V.int))) (B : HandB ns i x t) : Drawn H (upd H0 a (HandO c i x t)) a c :=
  ⟨fun b h => by rw [upd_ne h]; exact hb b h, ⟨ns, i, x, t, upd_same, by rw [upd_ne hc, hb c hc]; exact h2, B⟩⟩
theorem wide200 {many : Int} (h0 : 0 < many) (h1 : many < 2 ^ 200) (i : Int) : CDivW i many := wide_div (b := 200) h0 (by omega) (by decide) (by decide)
theorem ok_draw {f fM : Addr} {fd fdM : FuncData} (F : Fun K "_law_draw" "_law_draw" s__law_draw f fd) (FM : Fun K "_law_mix" "_law_mix" s__law_mix fM fdM) (g_law_mix : mg "_law_mix" = some (.ref fM)) (b_law_mix : Binds K fdM ["_law_number", "_law_turn"] [])
    (m_int : mg "int" = none) (m_len : mg "len" = none) : FnOk P w K mg base CX0 2 f fd ["_law_hand_here", "_law_many"] spDraw := by
  have G_law_mix : FnOk P w K mg base CX0 1 fM fdM ["_law_number", "_law_turn"] spMix := ok_mix FM m_int
  have k_law_mix := FM.kp
  refine F.ok sc__law_draw (fun vs H Q E h => ?_) (fun cdv A outer s H vs Q E hr h => ?_)
  · obtain ⟨a, c, n, rfl, _⟩ := h
    rfl
  · obtain ⟨a, c, many, rfl, ⟨ns, i, x, t, h1, h2, B⟩, hm0, hm1, q⟩ := h
    have hr_law_mix := hr
    have hc := hand_ne h1 h2
    refine ⟨_, (Evl.pss_cut (ps_if (pw_and (pt_cmpR op_eq (pe_ix ix_list (pv 0) pe_int (fun _ _ => rfl)) pe_int (nomark _)) (pw_and1 (pt_cmpR op_lt (pe_ix ix_list (pv 0) pe_int (fun _ _ => rfl)) (pe_callB call_len_seq (by rfl) m_len boot_len (pa_cons (pe_ix ix_list (pv 0) pe_int (fun _ _ => rfl)) pa_nil)) (nomark _)))).pt
  (pss_cons (ps_set (i := 2) sc__law_draw.nd rfl (by first | exact Or.inl rfl | exact Or.inr rfl) (pe_ix ix_list (pe_ix ix_list (pv 0) pe_int (fun _ _ => rfl)) (pe_ix ix_list (pv 0) pe_int (fun _ _ => rfl)) (fun _ _ => rfl)))
 (pss_cons (ps_asg (pe_op op_add (pe_ix ix_list (pv 0) pe_int (fun _ _ => rfl)) pe_int) (pg_sub (pv 0) pe_int set_list))
 (pss_cons (ps_if (pt_cmpR op_lt (pv 2) (pe_op op_pow pe_int pe_int) (nomark _))
  (pss_one (ps_ret (pe_op op_mod (pe_callTy call_int1 (by rfl) m_int boot_int (pa_cons (pe_call G_law_mix hr_law_mix (by rfl) g_law_mix k_law_mix b_law_mix .nil pass0 (pa_cons (pe_op op_mod (pe_callTy call_int1 (by rfl) m_int boot_int (pa_cons (pv 2) pa_nil)) pe_int) (pa_cons (pe_ix ix_list (pv 0) pe_int (fun _ _ => rfl)) pa_nil))) pa_nil)) (pv 1))))
  pss_nil)
 (pss_one (ps_asg (pv 2) (pg_sub (pv 0) pe_int set_list))))))
  pss_nil)
 (pss_cons (ps_if (pt_cmpR op_gt (pe_ix ix_list (pv 0) pe_int (fun _ _ => rfl)) pe_int (nomark _))
  (pss_cons (ps_set (i := 3) sc__law_draw.nd rfl (by first | exact Or.inl rfl | exact Or.inr rfl) (pe_ix ix_list (pv 0) pe_int (fun _ _ => rfl)))
 (pss_cons (ps_asg (pe_op op_fdivW (pv 3) (pv 1)) (pg_sub (pv 0) pe_int set_list))
 (pss_one (ps_ret (pe_op op_mod (pe_callTy call_int1 (by rfl) m_int boot_int (pa_cons (pv 3) pa_nil)) (pv 1))))))
  pss_nil)
 (pss_cons (ps_asg (pe_op op_mod (pe_callTy call_int1 (by rfl) m_int boot_int (pa_cons (pe_op op_add (pe_ix ix_list (pv 0) pe_int (fun _ _ => rfl)) pe_int) pa_nil)) pe_int) (pg_sub (pv 0) pe_int set_list))
 (pss_one (ps_ret (pe_op op_mod (pe_callTy call_int1 (by rfl) m_int boot_int (pa_cons (pe_call G_law_mix hr_law_mix (by rfl) g_law_mix k_law_mix b_law_mix .nil pass0 (pa_cons (pe_ix ix_list (pv 0) pe_int (fun _ _ => rfl)) (pa_cons (pe_ix ix_list (pv 0) pe_int (fun _ _ => rfl)) pa_nil))) pa_nil)) (pv 1))))))), ?_⟩
    have hS : SqL K H a [.ref c, .int i, .int x, .int t] := .inl (.inl h1)
    have hC : SqL K H c (ns.map V.int) := .inl (.inl h2)
    have last : ∀ (i' : Int) (σ : L2.St) , 0 ≤ i' → i' ≤ ns.length → True := fun _ _ _ _ => trivial
    refine ⟨fun σ' H' => ∃ i' x' y2, σ' = [some (.ref a), some (.int many), y2, none] ∧ (∀ b, b ≠ a → H' b = H b) ∧ H' a = some (HandO c i' x' t) ∧ HandB ns i' x' t, ?_, fun σ' H' hM => ?_⟩
    refine ⟨.ref a, rfl, a, _, _, _, rfl, rfl, hS, rfl, rfl, _, rfl, ite2 (fun e => ?_) (fun e => ?_)⟩
    · have ex : x = 0 := V.int.inj (of_decide_eq_true e)
      subst ex
      refine ⟨.ref a, rfl, a, _, _, _, rfl, rfl, hS, rfl, .ref a, rfl, a, _, _, _, rfl, rfl, hS, rfl, c, _, rfl, .inl hC, _, _, rfl, rfl, _, rfl, ite2 (fun e => ?_) (fun e => ?_)⟩
      · have hi : i < ((ns.map V.int).length : Int) := of_decide_eq_true e
        rw [List.length_map] at hi
        have hlo := B.lo
        obtain ⟨j, rfl⟩ : ∃ j : Nat, i = (j : Int) := ⟨i.toNat, by omega⟩
        have hj : j < ns.length := by omega
        have gj : (ns.map V.int)[j]? = some (.int ns[j]) := by
          rw [List.getElem?_map, List.getElem?_eq_getElem hj]
          rfl
        have p0 : 0 ≤ ns[j] := B.pos _ (List.getElem_mem hj)
        refine ⟨.ref a, rfl, a, _, _, _, rfl, rfl, hS, rfl, .ref a, rfl, a, _, _, _, rfl, rfl, hS, rfl, c, _, _, _, rfl, rfl, hC, atI_nat gj, ?_⟩
        refine ⟨.ref a, rfl, a, _, _, _, rfl, rfl, hS, rfl, _, _, rfl, rfl, .ref a, rfl, a, _, _, _, rfl, rfl, h1, rfl, ?_⟩
        have hS2 : SqL K (upd H a (HandO c (j + 1) 0 t)) a [.ref c, .int (j + 1), .int 0, .int t] := .inl (.inl upd_same)
        refine ⟨_, rfl, _, _, rfl, rfl, ⟨by decide, by decide, by decide⟩, _, _, rfl, rfl, _, rfl, ite2 (fun e => ?_) (fun e => ?_)⟩
        · refine ⟨_, rfl, .inl ⟨_, rfl, _, _, rfl, rfl, show (0 : Int) < _ by decide, .ref a, rfl, a, _, _, _, rfl, rfl, hS2, rfl, _, _, rfl, fun r r0 => .inl ⟨_, rfl, _, rfl, _, _, rfl, rfl, hm0, ?_⟩⟩⟩
          exact q _ _ (drawn_of (H0 := H) (fun _ _ => rfl) hc h2 ⟨B.len, by omega, by omega, by decide, B.t0, B.pos⟩) (Int.emod_nonneg _ (by omega)) (Int.emod_lt_of_pos _ hm0)
        · refine ⟨_, rfl, .ref a, rfl, a, _, _, _, rfl, rfl, upd_same, rfl, ?_⟩
          refine ⟨_, _, _, rfl, fun b hb => by rw [upd_ne hb, upd_ne hb], upd_same, ⟨B.len, by omega, by omega, p0, B.t0, B.pos⟩⟩
      · exact ⟨i, 0, none, rfl, fun _ _ => rfl, h1, B⟩
    · exact ⟨i, x, none, rfl, fun _ _ => rfl, h1, B⟩
    · obtain ⟨i', x', y2, rfl, hb, h1', B'⟩ := hM
      have h2' : H' c = some (.lst (ns.map V.int)) := by rw [hb c hc]; exact h2
      have hS' : SqL K H' a [.ref c, .int i', .int x', .int t] := .inl (.inl h1')
      refine ⟨.ref a, rfl, a, _, _, _, rfl, rfl, hS', rfl, _, _, rfl, rfl, _, rfl, ite2 (fun e => ?_) (fun e => ?_)⟩
      · refine ⟨.ref a, rfl, a, _, _, _, rfl, rfl, hS', rfl, _, rfl, _, rfl, _, _, rfl, rfl, wide200 hm0 hm1 _, .ref a, rfl, a, _, _, _, rfl, rfl, h1', rfl, ?_⟩
        refine ⟨_, rfl, .inl ⟨_, rfl, _, rfl, _, _, rfl, rfl, hm0, ?_⟩⟩
        exact q _ _ (drawn_of (H0 := H') hb hc h2 ⟨B.len, B'.lo, B'.hi, Int.ediv_nonneg B'.x0 (by omega), B.t0, B.pos⟩) (Int.emod_nonneg _ (by omega)) (Int.emod_lt_of_pos _ hm0)
      · refine ⟨.ref a, rfl, a, _, _, _, rfl, rfl, hS', rfl, _, _, rfl, rfl, .inl ⟨_, rfl, _, _, rfl, rfl, show (0 : Int) < _ by decide, .ref a, rfl, a, _, _, _, rfl, rfl, h1', rfl, ?_⟩⟩
        have hS3 : SqL K (upd H' a (HandO c i' x' ((t + 1) % 2147483629))) a [.ref c, .int i', .int x', .int ((t + 1) % 2147483629)] := .inl (.inl upd_same)
        refine ⟨.ref a, rfl, a, _, _, _, rfl, rfl, hS3, rfl, .ref a, rfl, a, _, _, _, rfl, rfl, hS3, rfl, _, _, rfl, fun r r0 => .inl ⟨_, rfl, _, rfl, _, _, rfl, rfl, hm0, ?_⟩⟩
        exact q _ _ (drawn_of (H0 := H') hb hc h2 ⟨B.len, B'.lo, B'.hi, B'.x0, Int.emod_nonneg _ (by decide), B.pos⟩) (Int.emod_nonneg _ (by omega)) (Int.emod_lt_of_pos _ hm0)
theorem Hand.same {H H' : Hp} {a c : Addr} (h : Hand H a c) (e : Same H H') : Hand H' a c := by
  obtain ⟨ns, i, x, t, h1, h2, B⟩ := h
  exact ⟨ns, i, x, t, e _ _ h1, e _ _ h2, B⟩
theorem Hand.upd {H : Hp} {a c l : Addr} {o : HO} (h : Hand H a c) (h1 : l ≠ a) (h2 : l ≠ c) : Hand (upd H l o) a c := by
  obtain ⟨ns, i, x, t, e1, e2, B⟩ := h
  exact ⟨ns, i, x, t, by rw [upd_ne h1.symm]; exact e1, by rw [upd_ne h2.symm]; exact e2, B⟩
theorem Hand.ne {H : Hp} {a c l : Addr} (h : Hand H a c) (n : H l = none) : l ≠ a ∧ l ≠ c := by
  obtain ⟨ns, i, x, t, e1, e2, B⟩ := h
  exact ⟨(ne_of_none e1 n).symm, (ne_of_none e2 n).symm⟩
/-- an item of a list -/
def spPick : Sp := fun vs H Q _ => ∃ (a c l : Addr) (xs : List V), vs = [.ref a, .ref l] ∧ Hand H a c ∧ l ≠ a ∧ H l = some (.lst xs) ∧ 0 < xs.length ∧ xs.length ≤ 1000 ∧ ∀ H' (j : Nat) v, Drawn H H' a c → xs[j]? = some v → Q v H'
theorem ok_pick {f fD : Addr} {fd fdD : FuncData} (F : Fun K "_law_pick" "_law_pick" s__law_pick f fd) (k_law_draw : PySem.W.keepIn K (.ref fD) = true) (G_law_draw : FnOk P w K mg base CX0 2 fD fdD ["_law_hand_here", "_law_many"] spDraw) (g_law_draw : mg "_law_draw" = some (.ref fD)) (b_law_draw : Binds K fdD ["_law_hand_here", "_law_many"] [])
    (m_len : mg "len" = none) : FnOk P w K mg base CX0 3 f fd ["_law_hand_here", "_law_things"] spPick := by
  refine F.ok sc__law_pick (fun vs H Q E h => ?_) (fun cdv A outer s H vs Q E hr h => ?_)
  · obtain ⟨a, c, l, xs, rfl, _⟩ := h
    rfl
  · obtain ⟨a, c, l, xs, rfl, hh, hla, hl, h0, h1, q⟩ := h
    have hr_law_draw := hr
    refine ⟨_, (pss_one (ps_ret (pe_ix ix_list (pv 1) (pe_call G_law_draw hr_law_draw (by rfl) g_law_draw k_law_draw b_law_draw .nil pass0 (pa_cons (pv 0) (pa_cons (pe_callB call_len_seq (by rfl) m_len boot_len (pa_cons (pv 1) pa_nil)) pa_nil))) (fun _ _ => rfl)))), ?_⟩
    have hm : ((xs.length : Nat) : Int) < 2 ^ 200 := Int.lt_of_le_of_lt (show ((xs.length : Nat) : Int) ≤ 1000 by omega) (by decide)
    refine ⟨.ref l, rfl, .ref a, rfl, .ref l, rfl, l, _, rfl, .inl (.inl (.inl hl)), a, c, _, rfl, hh, by omega, hm, fun H' r d r0 r1 => ?_⟩
    obtain ⟨j, rfl⟩ : ∃ j : Nat, r = (j : Int) := ⟨r.toNat, by omega⟩
    have hj : j < xs.length := by omega
    have e : xs[j]? = some xs[j] := List.getElem?_eq_getElem hj
    have hl' : H' l = some (.lst xs) := by rw [d.but l hla]; exact hl
    exact ⟨l, xs, _, _, rfl, rfl, .inl (.inl hl'), atI_nat e, q H' j _ d e⟩
/-- the hand of a script -/
def spHand (K : PySem.W.Frag) : Sp := fun vs H Q _ => ∃ (s : Addr) (ns : List Int), vs = [.ref s] ∧ SqL K H s (ns.map V.int) ∧ ns.length ≤ 63 ∧ ∀ H' a c, Same H H' → H a = none → H c = none → Hand H' a c → Q (.ref a) H'
theorem ok_hand {f : Addr} {fd : FuncData} (F : Fun K "_law_hand" "_law_hand" s__law_hand f fd) (m_int : mg "int" = none) (m_abs : mg "abs" = none) (m_enumerate : mg "enumerate" = none) : FnOk P w K mg base CX0 1 f fd ["_law_script"] (spHand K) := by
  refine F.ok sc__law_hand (fun vs H Q E h => ?_) (fun cdv A outer s H vs Q E hr h => ?_)
  · obtain ⟨a, ns, rfl, _⟩ := h
    rfl
  · obtain ⟨a, ns, rfl, hS, hlen, q⟩ := h
    refine ⟨_, (pss_cons (ps_set (i := 1) sc__law_hand.nd rfl (by first | exact Or.inl rfl | exact Or.inr rfl) pe_int)
 (pss_cons (ps_for PassesOwn.never rfl (pi_enum (by rfl) m_enumerate (pa_cons (pv 0) pa_nil)) (pg_tup rfl (pgs_cons (pg_name (i := 2) sc__law_hand.nd rfl (by first | exact Or.inl rfl | exact Or.inr rfl)) (pgs_cons (pg_name (i := 3) sc__law_hand.nd rfl (by first | exact Or.inl rfl | exact Or.inr rfl)) pgs_nil)))
  (pss_one (ps_set (i := 1) sc__law_hand.nd rfl (by first | exact Or.inl rfl | exact Or.inr rfl) (pe_op op_mod (pe_callTy call_int1 (by rfl) m_int boot_int (pa_cons (pe_op op_add (pe_op op_mul (pv 1) pe_int) (pe_op op_mul (pe_callTy call_int1 (by rfl) m_int boot_int (pa_cons (pv 3) pa_nil)) (pe_op op_add (pv 2) pe_int))) pa_nil)) pe_int))))
 (pss_one (ps_ret (pe_lst (pa_cons (pe_lc (own := [("_law_cell", 3)]) (g := gName 3) (tt := tYes) rfl sc__law_hand.nd (pi_list (pv 0)) (blkOk_by (own := [("_law_cell", 3)]) (N := N__law_hand) (sc := defScope s__law_hand) (by decide +kernel)) (fun _ _ _ _ _ => (pg_name (i := 3) sc__law_hand.nd rfl (by first | exact Or.inl rfl | exact Or.inr rfl))) (fun _ _ _ _ _ => pts_nil) (fun _ _ _ _ _ => (pe_callB call_abs (by rfl) m_abs boot_abs (pa_cons (pe_callTy call_int1 (by rfl) m_int boot_int (pa_cons (pv 3) pa_nil)) pa_nil)))) (pa_cons pe_int (pa_cons pe_int (pa_cons (pv 1) pa_nil))))))))), ?_⟩
    have hlen' : (ns.map V.int).length = ns.length := List.length_map ..
    refine ⟨.ref a, rfl, a, _, rfl, hS, for_it (walk_enum (xs := ns.map V.int)) (fun i σ H' => ∃ tot y2 y3, σ = [some (.ref a), some (.int tot), y2, y3] ∧ 0 ≤ tot ∧ tot < 2147483629 ∧ Same H H') ⟨0, none, none, rfl, by decide, by decide, Same.refl H⟩ (fun i σ H' _ p => ?_) (fun i v σ H' H'' hi p y => ?_) (fun σ H1 p => ?_)⟩
    · obtain ⟨tot, y2, y3, rfl, _, _, e⟩ := p
      exact e.seq hS
    · obtain ⟨tot, y2, y3, rfl, t0, t1, e⟩ := p
      obtain ⟨T, x, y, rfl, nT, rfl, ex, ey⟩ := y
      rw [hlen'] at hi
      obtain rfl : .int (i : Nat) = x := Option.some.inj ex
      obtain ⟨n, rfl⟩ : ∃ n : Int, y = .int n := by
        have ey : (ns.map V.int)[i]? = some y := ey
        rw [List.getElem?_map, List.getElem?_eq_getElem hi] at ey
        exact ⟨_, (Option.some.inj ey).symm⟩
      refine ⟨T, _, rfl, .inl (.inl upd_same), rfl, _, _, rfl, _, _, rfl, rfl, ?_⟩
      refine ⟨_, rfl, _, _, rfl, rfl, .inr ⟨by decide, by decide⟩, _, rfl, .inl ⟨_, rfl, _, rfl, _, _, rfl, rfl, _, _, rfl, rfl, .inr ⟨by omega, by omega⟩, _, _, rfl, rfl, .inl ⟨_, rfl, _, _, rfl, rfl, show (0 : Int) < _ by decide, ?_⟩⟩⟩
      refine ⟨_, _, _, rfl, Int.emod_nonneg _ (by decide), Int.emod_lt_of_pos _ (by decide), e.trans fun b z hz => ?_⟩
      rw [upd_ne (ne_of_none hz nT)]
      exact hz
    · obtain ⟨tot, y2, y3, rfl, t0, t1, e⟩ := p
      have hS1 : SqL K H1 a (ns.map V.int) := e.seq hS
      refine ⟨.ref a, rfl, a, rfl, ⟨_, hS1⟩, fun D hD => lc_list (xs := ns.map V.int) (fun i H2 => Same H1 H2 ∧ H2 D = some (.lst ((ns.take i).map fun n => .int (if n < 0 then -n else n)))) ⟨fun b z hz => ?_, upd_same⟩ (fun i H2 _ p => p.1.seq hS1) (fun i x H2 hx p => ?_) (fun H2 p => ?_)⟩
      · rw [upd_ne (ne_of_none hz hD)]
        exact hz
      · obtain ⟨e2, hd⟩ := p
        rw [List.getElem?_map] at hx
        obtain ⟨n, hn, rfl⟩ := Option.map_eq_some_iff.mp hx
        refine ⟨rfl, ?_⟩
        refine ⟨_, rfl, .inl ⟨_, rfl, _, rfl, _, hd, ?_, fun b z hz => ?_, ?_⟩⟩
        · rw [List.length_map, List.length_take]
          exact Nat.lt_of_le_of_lt (Nat.min_le_right _ _) (small1000 (by omega))
        · rw [upd_ne (ne_of_none hz hD)]
          exact e2 _ _ hz
        · rw [upd_same, List.take_add_one, hn, List.map_append]
          rfl
      · obtain ⟨e2, hd⟩ := p
        rw [hlen', List.take_length] at hd
        refine ⟨_, rfl, by show 4 ≤ sizeLine; decide, fun p hp => ?_⟩
        have npD : D ≠ p := ne_of_none hd hp
        refine q _ p D ?_ ((e.trans e2).free hp) (e.free hD) ⟨ns.map fun n => if n < 0 then -n else n, 0, 0, tot, upd_same, ?_, ?_⟩
        · exact fun b z hz => by
            rw [upd_ne (ne_of_none ((e.trans e2) _ _ hz) hp)]
            exact (e.trans e2) _ _ hz
        · rw [upd_ne npD, hd, List.map_map]
          rfl
        · refine ⟨by rw [List.length_map]; exact hlen, by decide, by omega, by decide, t0, fun n hn => ?_⟩
          obtain ⟨m, _, rfl⟩ := List.mem_map.mp hn
          split <;> omega
end
end K7
end
/-! ## P2 -/
section
open PySem PySem.Spec PyProof.Rows L2
namespace K7
abbrev N__law_lots : List Str := ["_law_cells", "_law_found", "_law_last", "_law_turn", "_law_grown", "_law_lot", "_law_cell"]
abbrev s__law_lots : Stmt := topS 35
theorem sc__law_lots : FnScope ["_law_cells", "_law_found", "_law_last", "_law_turn", "_law_grown", "_law_lot", "_law_cell"] ["_law_cells"] (defScope s__law_lots) := ⟨rfl, rfl, rfl, by decide +kernel, rfl, by decide +kernel, by decide +kernel⟩

theorem same_new {H H' : Hp} {p : Addr} {o : HO} (e : Same H H') (h : H' p = none) : Same H (upd H' p o) := fun b z hz => by
  have h2 := e _ _ hz
  rw [upd_ne (ne_of_none h2 h)]
  exact h2
def But (x : Addr) (H H' : Hp) : Prop := ∀ b o, b ≠ x → H b = some o → H' b = some o
/-! ### all lots of the cells -/
def grow1 (cells lot : List Nat) : List (List Nat) := (cells.filter fun c => lot.isEmpty || decide (lot.getLastD 0 < c)).map fun c => lot ++ [c]
def level (cells : List Nat) : Nat → List (List Nat)
  | 0 => [[]]
  | k + 1 => (level cells k).flatMap (grow1 cells)
def lotsTo (cells : List Nat) : Nat → List (List Nat)
  | 0 => [[]]
  | k + 1 => lotsTo cells k ++ level cells (k + 1)
theorem level_len : ∀ n : Fin 6, ∀ k : Fin 7, (level (List.range n.val) k.val).length ≤ 10 ∧ (lotsTo (List.range n.val) k.val).length ≤ 32 := by decide +kernel
theorem level_lot : ∀ n : Fin 6, ∀ k : Fin 7, (level (List.range n.val) k.val).all (fun l => decide (l.length ≤ 990)) = true := by decide +kernel
theorem lot_len {n t i : Nat} {lot : List Nat} (hn : n ≤ 5) (ht : t ≤ 6) (h : (level (List.range n) t)[i]? = some lot) : lot.length ≤ 990 := by
  have := List.all_eq_true.mp (level_lot ⟨n, by omega⟩ ⟨t, by omega⟩) lot (List.mem_of_getElem? h)
  exact of_decide_eq_true this
/-- tuples of cells at these places -/
inductive TAt (H : Hp) : List Addr → List (List Nat) → Prop
  | nil : TAt H [] []
  | cons {t : Addr} {l : List Nat} {ts : List Addr} {ls : List (List Nat)} (h : H t = some (.tup (l.map fun c => .int (c : Nat)))) (r : TAt H ts ls) : TAt H (t :: ts) (l :: ls)
theorem TAt.same {H H' : Hp} (e : Same H H') : ∀ {ts ls}, TAt H ts ls → TAt H' ts ls
  | _, _, .nil => .nil
  | _, _, .cons h r => .cons (e _ _ h) (r.same e)
theorem TAt.mono {H H' : Hp} (e : ∀ b xs, H b = some (.tup xs) → H' b = some (.tup xs)) : ∀ {ts ls}, TAt H ts ls → TAt H' ts ls
  | _, _, .nil => .nil
  | _, _, .cons h r => .cons (e _ _ h) (r.mono e)
theorem TAt.append {H : Hp} : ∀ {ts ls us ms}, TAt H ts ls → TAt H us ms → TAt H (ts ++ us) (ls ++ ms)
  | _, _, _, _, .nil, r => r
  | _, _, _, _, .cons h q, r => .cons h (q.append r)
theorem TAt.len {H : Hp} : ∀ {ts ls}, TAt H ts ls → ts.length = ls.length
  | _, _, .nil => rfl
  | _, _, .cons _ r => congrArg Nat.succ r.len
theorem TAt.get {H : Hp} : ∀ {ts ls} {i : Nat} {t : Addr}, TAt H ts ls → ts[i]? = some t → ∃ l, ls[i]? = some l ∧ H t = some (.tup (l.map fun c => .int (c : Nat)))
  | _, _, 0, _, .cons h r, e => by
    cases e
    exact ⟨_, rfl, h⟩
  | _, _, i + 1, _, .cons h r, e => r.get (i := i) e
def ints_ (l : List Nat) : List V := l.map fun c => .int (c : Nat)
def intD (l : List Nat) : PyData := .tuple (l.map fun c => .int (c : Nat))
theorem dp_ints {K : PySem.W.Frag} {H : Hp} : ∀ l : List Nat, DpAll K H (l.map fun c => .int (c : Nat)) (l.map fun c => PyData.int (c : Nat))
  | [] => .nil
  | x :: l => .cons (.int _) (dp_ints l)
theorem shaped_ints (l : List Nat) : SeqAt.shaped (intD l) = true := by
  have h1 : ∀ l : List Nat, PyData.canLayAll0 (l.map fun c => PyData.int (c : Nat)) = true ∧ PyData.depthAll (l.map fun c => PyData.int (c : Nat)) = 0 := fun l => by
    induction l with
    | nil => exact ⟨by simp [PyData.canLayAll0], by simp [PyData.depthAll]⟩
    | cons x r ih => exact ⟨by simp [PyData.canLayAll0, PyData.canLay0, ih.1], by simp [PyData.depthAll, PyData.depth, ih.2]⟩
  show ((PyData.canLay0 (intD l)) && decide (PyData.depth (intD l) ≤ 64)) = true
  simp [intD, PyData.canLay0, PyData.depth, (h1 l).1, (h1 l).2]
theorem eqv_empty (l : List Nat) : PyData.eqv (intD l) (.tuple []) = l.isEmpty := by
  cases l with
  | nil => simp [intD, PyData.eqv, PyData.eqvAll]
  | cons x r => simp [intD, PyData.eqv, PyData.eqvAll]
theorem last_get : ∀ (r : List Nat) (x : Nat), (x :: r)[r.length]? = some (r.getLastD x)
  | [], x => rfl
  | y :: r, x => by
    rw [List.getLastD_cons]
    exact last_get r y
theorem last_at {l : List Nat} (h : l.isEmpty = false) : atI (ints_ l) (-1) = some (.int (l.getLastD 0 : Nat)) := by
  cases l with
  | nil => cases h
  | cons x r =>
    have hl : (ints_ (x :: r)).length = r.length + 1 := by unfold ints_; rw [List.length_map]; rfl
    unfold atI
    rw [hl]
    have e : ixN (r.length + 1) (-1) = some r.length := by
      unfold ixN
      simp
      omega
    rw [e]
    show (ints_ (x :: r))[r.length]? = _
    unfold ints_
    rw [List.getElem?_map]
    have e2 : (x :: r)[r.length]? = some ((x :: r).getLastD 0) := by
      rw [List.getLastD_cons]
      exact last_get r x
    rw [e2]
    rfl
section
variable {P : Program} {w : World} {K : PySem.W.Frag} {mg : Str → Option Value} {base : Heap}
def spLots : Sp := fun vs H Q _ => ∃ (r : Addr) (n : Nat), vs = [.ref r] ∧ n ≤ 5 ∧ H r = some (.lst (ints_ (List.range n))) ∧ ∀ H' q ts, Same H H' → H q = none → H' q = some (.lst (ts.map V.ref)) → TAt H' ts (lotsTo (List.range n) n) → Q (.ref q) H'
theorem ok_lots {f : Addr} {fd : FuncData} (F : Fun K "_law_lots" "_law_lots" s__law_lots f fd) (m_range : mg "range" = none) (m_len : mg "len" = none) (m_list : mg "list" = none) : FnOk P w K mg base CX0 1 f fd ["_law_cells"] spLots := by
  refine F.ok sc__law_lots (fun vs H Q E h => ?_) (fun cdv A outer s H vs Q E hr h => ?_)
  · obtain ⟨r, n, rfl, _⟩ := h
    rfl
  · obtain ⟨r, n, rfl, hn, hr0, q⟩ := h
    refine ⟨_, (pss_cons (ps_par (by rfl) sc__law_lots.nd (i := 1) (j := 2) rfl rfl (by decide) rfl rfl (pa_cons (pe_lst (pa_cons (pe_tup pa_nil) pa_nil)) (pa_cons (pe_lst (pa_cons (pe_tup pa_nil) pa_nil)) pa_nil)) (by rfl))
 (pss_cons (ps_for PassesOwn.never rfl (pi_range1 rfl m_range (pa_cons (pe_callB call_len_seq (by rfl) m_len boot_len (pa_cons (pv 0) pa_nil)) pa_nil)) (pg_name (i := 3) sc__law_lots.nd rfl (by first | exact Or.inl rfl | exact Or.inr rfl))
  (pss_cons (ps_set (i := 4) sc__law_lots.nd rfl (by first | exact Or.inl rfl | exact Or.inr rfl) (pe_lst pa_nil))
 (pss_cons (ps_for PassesOwn.never rfl (pi_list (pv 2)) (pg_name (i := 5) sc__law_lots.nd rfl (by first | exact Or.inl rfl | exact Or.inr rfl))
  (pss_one (ps_for PassesOwn.never rfl (pi_list (pv 0)) (pg_name (i := 6) sc__law_lots.nd rfl (by first | exact Or.inl rfl | exact Or.inr rfl))
  (pss_one (ps_if (pw_or (pt_cmpR (op_eqD hr.units) (pv 5) (pe_tup pa_nil) (nomark _)) (pw_or1 (pt_cmpR op_gt (pv 6) (pe_ix ix_tup (pv 5) (pe_un un_neg pe_int) (fun _ _ => rfl)) (nomark _)))).pt
  (pss_one (ps_expr (pe_bm PySem.F.plainAttrs_list PySem.F.slot_list_append PySem.F.type_list_append mt_append (pv 4) (pa_cons (pe_op op_catA (pv 5) (pe_tup (pa_cons (pv 6) pa_nil))) pa_nil))))
  pss_nil)))))
 (pss_cons (ps_expr (pe_bm PySem.F.plainAttrs_list PySem.F.slot_list_extend PySem.F.type_list_extend mt_extend (pv 1) (pa_cons (pv 4) pa_nil)))
 (pss_one (ps_set (i := 2) sc__law_lots.nd rfl (by first | exact Or.inl rfl | exact Or.inr rfl) (pe_callTy call_list_of (by rfl) m_list boot_list (pa_cons (pv 4) pa_nil))))))))
 (pss_one (ps_ret (pv 1))))), ?_⟩
    have hlen : (ints_ (List.range n)).length = n := by unfold ints_; rw [List.length_map, List.length_range]
    refine ⟨by show 0 ≤ sizeLine; decide, fun e0 ne0 => ⟨by show 1 ≤ sizeLine; decide, fun F0 nF0 => ⟨by show 0 ≤ sizeLine; decide, fun e1 ne1 => ⟨by show 1 ≤ sizeLine; decide, fun L0 nL0 => ?_⟩⟩⟩⟩
    have s1 : Same H (upd H e0 (.tup [])) := same_new (Same.refl H) ne0
    have s2 : Same (upd H e0 (.tup [])) (upd (upd H e0 (.tup [])) F0 (.lst [.ref e0])) := same_new (Same.refl _) nF0
    generalize hA : upd (upd H e0 (.tup [])) F0 (.lst [.ref e0]) = HA at s2 ne1 nL0 ⊢
    have hF : HA F0 = some (.lst [.ref e0]) := by rw [← hA]; exact upd_same
    have he0 : HA e0 = some (.tup []) := s2 _ _ upd_same
    have s3 : Same HA (upd HA e1 (.tup [])) := same_new (Same.refl _) ne1
    have s4 : Same (upd HA e1 (.tup [])) (upd (upd HA e1 (.tup [])) L0 (.lst [.ref e1])) := same_new (Same.refl _) nL0
    have hL : upd (upd HA e1 (.tup [])) L0 (.lst [.ref e1]) L0 = some (.lst [.ref e1]) := upd_same
    have he1 := s4 _ _ (show upd HA e1 (.tup []) e1 = some (.tup []) from upd_same)
    have hFL : F0 ≠ L0 := ne_of_none (s3 _ _ hF) nL0
    have hF2 := s4 _ _ (s3 _ _ hF)
    have he02 := s4 _ _ (s3 _ _ he0)
    have sB := s1.trans (s2.trans (s3.trans s4))
    generalize upd (upd HA e1 (.tup [])) L0 (.lst [.ref e1]) = HB at hL he1 hF2 he02 sB ⊢
    refine ⟨_, _, rfl, ?_⟩
    have hFn : H F0 = none := s1.free nF0
    refine ⟨_, rfl, r, _, rfl, .inl (.inl (.inl (sB _ _ hr0))), _, rfl, by omega, by omega, for_range (fun t σ H' => t ≤ n ∧ ∃ La fs las y3 y4 y5 y6, σ = [some (.ref r), some (.ref F0), some (.ref La), y3, y4, y5, y6] ∧ Same H H' ∧ H' F0 = some (.lst (fs.map V.ref)) ∧ H' La = some (.lst (las.map V.ref)) ∧ La ≠ F0 ∧ TAt H' fs (lotsTo (List.range n) t) ∧ TAt H' las (level (List.range n) t)) ⟨Nat.zero_le _, L0, [e0], [e1], none, none, none, none, rfl, sB, hF2, hL, hFL.symm, .cons he02 .nil, .cons he1 .nil⟩ (fun t σ H' ht pv => ?_) (fun σ H' pv => ?_)⟩
    · obtain ⟨_, La, fs, las, y3, y4, y5, y6, rfl, e, hF', hLa, nLF, tF, tL⟩ := pv
      rw [hlen] at ht
      have ht : t < n := by simpa using ht
      refine ⟨by show 0 ≤ sizeLine; decide, fun G nG => ?_⟩
      have gF : F0 ≠ G := ne_of_none hF' nG
      have gL : La ≠ G := ne_of_none hLa nG
      have eG : Same H' (upd H' G (.lst [])) := same_new (Same.refl H') nG
      obtain ⟨lv, lt5⟩ := level_len ⟨n, by omega⟩ ⟨t, by omega⟩
      obtain ⟨lv2, lt6⟩ := level_len ⟨n, by omega⟩ ⟨t + 1, by omega⟩
      have lv : (level (List.range n) t).length ≤ 10 := lv
      refine ⟨_, rfl, La, rfl, ⟨_, .inl (.inl (eG _ _ hLa))⟩, for_list (xs := las.map V.ref) (fun i σ H2 => ∃ gs y5 y6, σ = [some (.ref r), some (.ref F0), some (.ref La), some (.int (0 + (t : Nat))), some (.ref G), y5, y6] ∧ But G H' H2 ∧ H2 G = some (.lst (gs.map V.ref)) ∧ TAt H2 gs (((level (List.range n) t).take i).flatMap (grow1 (List.range n))) ∧ gs.length ≤ 5 * i)
        ⟨[], y5, y6, rfl, fun b o hb hz => by rw [upd_ne hb]; exact hz, upd_same, .nil, Nat.le_refl _⟩ (fun i σ H2 _ pv => ?_) (fun i x σ H2 hx pv => ?_) (fun σ H2 pv => ?_)⟩
      · obtain ⟨gs, y5, y6, rfl, bt, hG, tG, hg⟩ := pv
        exact .inl (.inl (bt _ _ gL hLa))
      · obtain ⟨gs, y5, y6, rfl, bt, hG, tG, hg⟩ := pv
        rw [List.getElem?_map] at hx
        obtain ⟨ti, hti, rfl⟩ := Option.map_eq_some_iff.mp hx
        obtain ⟨lot, elot, hlot⟩ := tL.get hti
        have hi10 : i < 10 := by
          have := (List.getElem?_eq_some_iff.mp elot).1
          omega
        have tG' : ∀ {b : Addr} {xs : List V}, H' b = some (.tup xs) → H2 b = some (.tup xs) := fun {b xs} hb => bt b _ (ne_of_none hb nG) hb
        have hr2 : H2 r = some (.lst (ints_ (List.range n))) := bt _ _ (ne_of_none (e _ _ hr0) nG) (e _ _ hr0)
        have nrG : r ≠ G := ne_of_none (e _ _ hr0) nG
        refine ⟨_, rfl, r, rfl, ⟨_, .inl (.inl hr2)⟩, for_list (xs := ints_ (List.range n)) (fun j σ H3 => ∃ gs' y6, σ = [some (.ref r), some (.ref F0), some (.ref La), some (.int (0 + (t : Nat))), some (.ref G), some (.ref ti), y6] ∧ But G H' H3 ∧ H3 G = some (.lst (gs'.map V.ref)) ∧ TAt H3 gs' (((level (List.range n) t).take i).flatMap (grow1 (List.range n)) ++ grow1 ((List.range n).take j) lot) ∧ gs'.length ≤ 5 * i + j)
          ⟨gs, y6, rfl, bt, hG, by simpa [grow1] using tG, by omega⟩ (fun j σ H3 _ pv => ?_) (fun j x σ H3 hx pv => ?_) (fun σ H3 pv => ?_)⟩
        · obtain ⟨gs', y6, rfl, bt3, hG3, tG3, hg3⟩ := pv
          exact .inl (.inl (bt3 _ _ nrG (e _ _ hr0)))
        · obtain ⟨gs', y6, rfl, bt3, hG3, tG3, hg3⟩ := pv
          unfold ints_ at hx
          rw [List.getElem?_map] at hx
          obtain ⟨c, hc, rfl⟩ := Option.map_eq_some_iff.mp hx
          have hj5 : j < 5 := by
            have := (List.getElem?_eq_some_iff.mp hc).1
            rw [List.length_range] at this
            omega
          have hlot3 : H3 ti = some (.tup (lot.map fun c => .int (c : Nat))) := bt3 ti _ (ne_of_none hlot nG) hlot
          have hll : lot.length ≤ 990 := lot_len hn (by omega) elot
          have g1 : grow1 ((List.range n).take (j + 1)) lot = grow1 ((List.range n).take j) lot ++ (if (lot.isEmpty || decide (lot.getLastD 0 < c)) = true then [lot ++ [c]] else []) := by
            unfold grow1
            rw [List.take_add_one, hc, List.filter_append, List.map_append]
            congr 1
            by_cases z : (lot.isEmpty || decide (lot.getLastD 0 < c)) = true
            · rw [if_pos z]
              show List.map _ (List.filter _ [c]) = _
              rw [List.filter_cons, if_pos z]
              rfl
            · rw [if_neg z]
              show List.map _ (List.filter _ [c]) = _
              rw [List.filter_cons, if_neg z]
              rfl
          have endOk : ∀ (Hf : Hp) (v : Addr), Same H3 Hf → Hf v = some (.tup ((lot ++ [c]).map fun c => .int (c : Nat))) → (lot.isEmpty || decide (lot.getLastD 0 < c)) = true →
              But G H' (upd Hf G (.lst (gs'.map V.ref ++ [.ref v]))) ∧ upd Hf G (.lst (gs'.map V.ref ++ [.ref v])) G = some (.lst ((gs' ++ [v]).map V.ref)) ∧
                TAt (upd Hf G (.lst (gs'.map V.ref ++ [.ref v]))) (gs' ++ [v]) (((level (List.range n) t).take i).flatMap (grow1 (List.range n)) ++ grow1 ((List.range n).take (j + 1)) lot) ∧ (gs' ++ [v]).length ≤ 5 * i + (j + 1) := by
            intro Hf v sF hv hcond
            have up : ∀ b xs, Hf b = some (.tup xs) → upd Hf G (.lst (gs'.map V.ref ++ [.ref v])) b = some (.tup xs) := fun b xs hb => by
              have n1 : b ≠ G := fun z => by rw [z, sF _ _ hG3] at hb; cases hb
              rw [upd_ne n1]; exact hb
            refine ⟨fun b o nb hb => by rw [upd_ne nb]; exact sF _ _ (bt3 b o nb hb), by rw [upd_same, List.map_append]; rfl, ?_, by rw [List.length_append, List.length_singleton]; omega⟩
            rw [g1, if_pos hcond, ← List.append_assoc]
            exact ((tG3.same sF).mono up).append (.cons (up _ _ hv) .nil)
          refine ⟨_, rfl, by show 0 ≤ sizeLine; decide, fun em nem => ?_⟩
          have sX := same_new (o := .tup []) (Same.refl H3) nem
          refine ⟨_, _, .tup (.inl (.inl (sX _ _ hlot3))) (dp_ints lot), .tup (.inl (.inl upd_same)) .nil, shaped_ints lot, shaped_ints [], ?_⟩
          rw [show PyData.eqv (.tuple (lot.map fun c => PyData.int (c : Nat))) (.tuple []) = lot.isEmpty from eqv_empty lot]
          refine ⟨_, rfl, ite2 (fun q1 => ?_) (fun q1 => ?_)⟩
          · have hcond : (lot.isEmpty || decide (lot.getLastD 0 < c)) = true := by rw [q1]; rfl
            have hG4 := sX _ _ hG3
            refine ⟨_, rfl, .inl ⟨rfl, _, .inl (.inl hG4)⟩, _, rfl, _, rfl, by show 1 ≤ sizeLine; decide, fun u nu => ?_⟩
            have sU := sX.trans (same_new (o := .tup [.int (c : Nat)]) (Same.refl _) nu)
            refine ⟨ti, u, _, _, rfl, rfl, .inl (.inl (sU _ _ hlot3)), .inl (.inl upd_same), ?_, fun z => ?_, (fun _ z2 => nomatch z2), fun z1 _ p np => ?_⟩
            · rw [List.length_map]
              exact Nat.le_trans (show lot.length + 1 ≤ 1000 by omega) (by decide)
            · have lot0 : lot = [] := by simpa using z
              obtain ⟨k1, k2, k3, k4⟩ := endOk _ u sU (by rw [upd_same, lot0]; rfl) hcond
              exact ⟨G, _, _, rfl, rfl, sU _ _ hG3, by rw [List.length_map]; exact small1000 (by omega), gs' ++ [u], _, rfl, k1, k2, k3, k4⟩
            · obtain ⟨k1, k2, k3, k4⟩ := endOk _ p (sU.trans (same_new (Same.refl _) np)) (by rw [upd_same, List.map_append]) hcond
              exact ⟨G, _, _, rfl, rfl, (sU.trans (same_new (Same.refl _) np)) _ _ hG3, by rw [List.length_map]; exact small1000 (by omega), gs' ++ [p], _, rfl, k1, k2, k3, k4⟩
          · have q1' : lot.isEmpty = false := Bool.eq_false_iff.mpr q1
            refine ⟨_, rfl, _, rfl, _, rfl, ti, _, _, .int (lot.getLastD 0 : Nat), rfl, rfl, .inl (.inl (sX _ _ hlot3)), last_at q1', _, _, rfl, rfl, _, rfl, ite2 (fun q2 => ?_) (fun q2 => ?_)⟩
            · have hcond : (lot.isEmpty || decide (lot.getLastD 0 < c)) = true := by
                rw [q1', Bool.false_or]
                have := of_decide_eq_true q2
                exact decide_eq_true (by omega)
              have hG4 := sX _ _ hG3
              refine ⟨_, rfl, .inl ⟨rfl, _, .inl (.inl hG4)⟩, _, rfl, _, rfl, by show 1 ≤ sizeLine; decide, fun u nu => ?_⟩
              have sU := sX.trans (same_new (o := .tup [.int (c : Nat)]) (Same.refl _) nu)
              refine ⟨ti, u, _, _, rfl, rfl, .inl (.inl (sU _ _ hlot3)), .inl (.inl upd_same), ?_, fun z => ?_, (fun _ z2 => nomatch z2), fun z1 _ p np => ?_⟩
              · rw [List.length_map]
                exact Nat.le_trans (show lot.length + 1 ≤ 1000 by omega) (by decide)
              · have lot0 : lot = [] := by simpa using z
                obtain ⟨k1, k2, k3, k4⟩ := endOk _ u sU (by rw [upd_same, lot0]; rfl) hcond
                exact ⟨G, _, _, rfl, rfl, sU _ _ hG3, by rw [List.length_map]; exact small1000 (by omega), gs' ++ [u], _, rfl, k1, k2, k3, k4⟩
              · obtain ⟨k1, k2, k3, k4⟩ := endOk _ p (sU.trans (same_new (Same.refl _) np)) (by rw [upd_same, List.map_append]) hcond
                exact ⟨G, _, _, rfl, rfl, (sU.trans (same_new (Same.refl _) np)) _ _ hG3, by rw [List.length_map]; exact small1000 (by omega), gs' ++ [p], _, rfl, k1, k2, k3, k4⟩
            · have hcond : ¬ (lot.isEmpty || decide (lot.getLastD 0 < c)) = true := by
                rw [q1', Bool.false_or]
                intro z
                have z' := of_decide_eq_true z
                exact q2 (decide_eq_true (by omega))
              refine ⟨gs', _, rfl, fun b o nb hb => sX _ _ (bt3 b o nb hb), sX _ _ hG3, ?_, by omega⟩
              rw [g1, if_neg hcond, List.append_nil]
              exact tG3.same sX
        · obtain ⟨gs', y6, rfl, bt3, hG3, tG3, hg3⟩ := pv
          refine ⟨gs', _, _, rfl, bt3, hG3, ?_, ?_⟩
          · rw [hlen, show (List.range n).take n = List.range n from List.take_of_length_le (by rw [List.length_range]; exact Nat.le_refl n)] at tG3
            rw [List.take_add_one, elot, List.flatMap_append]
            simpa using tG3
          · rw [hlen] at hg3
            omega
      · obtain ⟨gs, y5, y6, rfl, bt, hG, tG, hg⟩ := pv
        rw [List.length_map] at tG hg
        rw [tL.len, List.take_length] at tG
        have hF3 := bt _ _ gF hF'
        have lfs : fs.length ≤ 32 := by rw [tF.len]; exact (level_len ⟨n, by omega⟩ ⟨t, by omega⟩).2
        have lgs : gs.length ≤ 10 := by rw [tG.len]; exact lv2
        refine ⟨_, rfl, .inl ⟨rfl, _, .inl (.inl hF3)⟩, _, rfl, F0, G, _, _, rfl, rfl, hF3, hG, ?_, ?_⟩
        · rw [List.length_map, List.length_map]
          exact Nat.le_trans (show fs.length + gs.length ≤ 42 by omega) (by decide)
        have hG4 : upd H2 F0 (.lst (fs.map V.ref ++ gs.map V.ref)) G = some (.lst (gs.map V.ref)) := by rw [upd_ne gF.symm]; exact hG
        refine ⟨_, rfl, G, _, rfl, .inl (.inl (.inl hG4)), fun L2 nL2 => ?_⟩
        have hF4 : upd H2 F0 (.lst (fs.map V.ref ++ gs.map V.ref)) F0 = some (.lst ((fs ++ gs).map V.ref)) := by rw [upd_same, List.map_append]
        have nL2F : L2 ≠ F0 := fun z => by rw [z, hF4] at nL2; cases nL2
        have up : ∀ b xs, H2 b = some (.tup xs) → upd (upd H2 F0 (.lst (fs.map V.ref ++ gs.map V.ref))) L2 (.lst (gs.map V.ref)) b = some (.tup xs) := fun b xs hb => by
          have n1 : b ≠ F0 := fun z => by rw [z, hF3] at hb; cases hb
          have h1 : upd H2 F0 (.lst (fs.map V.ref ++ gs.map V.ref)) b = some (.tup xs) := by rw [upd_ne n1]; exact hb
          rw [upd_ne (ne_of_none h1 nL2)]
          exact h1
        have tF' : TAt H2 fs (lotsTo (List.range n) t) := tF.mono fun b xs hb => bt b _ (ne_of_none hb nG) hb
        refine ⟨by omega, L2, fs ++ gs, gs, _, _, _, _, rfl, fun b o hb => ?_, by rw [upd_ne nL2F.symm]; exact hF4, upd_same, nL2F, (tF'.mono up).append (tG.mono up), tG.mono up⟩
        have n0 : b ≠ F0 := ne_of_none hb hFn
        have h1 := e _ _ hb
        have h2 := bt _ _ (ne_of_none h1 nG) h1
        have h3 : upd H2 F0 (.lst (fs.map V.ref ++ gs.map V.ref)) b = some o := by rw [upd_ne n0]; exact h2
        rw [upd_ne (ne_of_none h3 nL2)]
        exact h3
    · obtain ⟨_, La, fs, las, y3, y4, y5, y6, rfl, e, hF', hLa, nLF, tF, tL⟩ := pv
      rw [hlen] at tF
      exact ⟨_, rfl, q H' F0 fs e hFn hF' (by simpa using tF)⟩
end
end K7
end
/-! ## KL -/
section
/-! ## pure facts about drawn lands (no program in them) -/
namespace KL
/-- every set that holds cell 0 and is not left over any couple holds all cells -/
def Conn (n : Nat) (es : List (Nat × Nat)) : Prop := ∀ S : Nat → Bool, S 0 = true → (∀ e ∈ es, S e.1 = S e.2) → ∀ c, c < n → S c = true
theorem erase_perm {α : Type} : ∀ (l : List α) (j : Nat) (h : j < l.length), (l[j] :: l.eraseIdx j).Perm l
  | x :: l, 0, _ => List.Perm.refl _
  | x :: l, j + 1, h => (List.Perm.swap x (l[j]'(Nat.lt_of_succ_lt_succ h)) (l.eraseIdx j)).trans (List.Perm.cons x (erase_perm l j (Nat.lt_of_succ_lt_succ h)))
/-- one item drawn out of what is left -/
theorem pop_perm {names left : List Nat} {j : Nat} (h : j < left.length) : ((names ++ [left[j]]) ++ left.eraseIdx j).Perm (names ++ left) := by
  rw [List.append_assoc]
  refine List.Perm.append_left names ?_
  exact erase_perm left j h
def couple (names : List Nat) (a b : Nat) : Nat × Nat := (min (names.getD a 0) (names.getD b 0), max (names.getD a 0) (names.getD b 0))
theorem couple_mem {names : List Nat} {n : Nat} (hp : names.Perm (List.range n)) {a : Nat} (ha : a < n) : names.getD a 0 < n := by
  have hl : names.length = n := by rw [hp.length_eq, List.length_range]
  have e : names.getD a 0 = names[a]'(by omega) := by
    rw [List.getD_eq_getElem?_getD, List.getElem?_eq_getElem (by omega)]
    rfl
  rw [e]
  exact List.mem_range.mp (hp.mem_iff.mp (List.getElem_mem _))
/-- a tree under drawn names hangs together -/
theorem conn_tree {n : Nat} {names : List Nat} (hp : names.Perm (List.range n)) {es : List (Nat × Nat)} (h : ∀ k, 0 < k → k < n → ∃ d, d < k ∧ couple names k d ∈ es) : Conn n es := by
  intro S h0 hS c hc
  have hl : names.length = n := by rw [hp.length_eq, List.length_range]
  have step : ∀ k d, couple names k d ∈ es → S (names.getD k 0) = S (names.getD d 0) := by
    intro k d m
    have e := hS _ m
    unfold couple at e
    simp only at e
    by_cases q : names.getD k 0 ≤ names.getD d 0
    · rw [Nat.min_eq_left q, Nat.max_eq_right q] at e
      exact e
    · rw [Nat.min_eq_right (by omega), Nat.max_eq_left (by omega)] at e
      exact e.symm
  have all : ∀ k, k < n → S (names.getD k 0) = S (names.getD 0 0) := by
    intro k
    induction k using Nat.strongRecOn with
    | _ k ih =>
      intro hk
      by_cases z : k = 0
      · rw [z]
      · obtain ⟨d, hd, m⟩ := h k (by omega) hk
        rw [step k d m]
        exact ih d hd (by omega)
  have at_ : ∀ x, x < n → ∃ k, k < n ∧ names.getD k 0 = x := by
    intro x hx
    have m : x ∈ names := hp.mem_iff.mpr (List.mem_range.mpr hx)
    obtain ⟨k, hk, e⟩ := List.mem_iff_getElem.mp m
    refine ⟨k, by omega, ?_⟩
    rw [List.getD_eq_getElem?_getD, List.getElem?_eq_getElem hk, e]
    rfl
  obtain ⟨k0, hk0, e0⟩ := at_ 0 (by omega)
  obtain ⟨k, hk, e⟩ := at_ c hc
  have r0 := all k0 hk0
  rw [e0, h0] at r0
  rw [← e, all k hk, ← r0]
/-- a list of cells that is closed under the couples and holds cell 0 holds all cells -/
theorem conn_closed {n : Nat} {es : List (Nat × Nat)} (h : Conn n es) {found : List Nat} (h0 : 0 ∈ found) (hc : ∀ a b, ((a, b) ∈ es ∨ (b, a) ∈ es) → a ∈ found → b ∈ found) : ∀ c, c < n → c ∈ found := by
  intro c hc'
  have := h (fun x => decide (x ∈ found)) (by simpa using h0) (fun e he => by
    have e1 : e.1 ∈ found ↔ e.2 ∈ found := ⟨fun q => hc e.1 e.2 (.inl he) q, fun q => hc e.2 e.1 (.inr he) q⟩
    exact decide_eq_decide.mpr e1) c hc'
  simpa using this
/-- as many as there are cells, none twice: all cells -/
theorem all_len {n : Nat} {found : List Nat} (hn : found.Nodup) (hb : ∀ c ∈ found, c < n) (ha : ∀ c, c < n → c ∈ found) : found.length = n := by
  have hp : found.Perm (List.range n) := by
    rw [List.perm_ext_iff_of_nodup hn List.nodup_range]
    intro a
    exact ⟨fun q => List.mem_range.mpr (hb a q), fun q => ha a (List.mem_range.mp q)⟩
  rw [hp.length_eq, List.length_range]
end KL
namespace KL
theorem couple_inj {names : List Nat} {n : Nat} (hp : names.Perm (List.range n)) {a b a' b' : Nat} (h1 : b < a) (h2 : a < n) (h1' : b' < a') (h2' : a' < n) (e : couple names a b = couple names a' b') : (a, b) = (a', b') := by
  have hl : names.length = n := by rw [hp.length_eq, List.length_range]
  have nd : names.Nodup := hp.nodup_iff.mpr List.nodup_range
  have inj : ∀ x y, x < n → y < n → names.getD x 0 = names.getD y 0 → x = y := by
    intro x y hx hy q
    rw [List.getD_eq_getElem?_getD, List.getD_eq_getElem?_getD, List.getElem?_eq_getElem (by omega), List.getElem?_eq_getElem (by omega)] at q
    exact (List.getElem_inj nd).mp q
  have ne : ∀ x y, x < n → y < n → x ≠ y → names.getD x 0 ≠ names.getD y 0 := fun x y hx hy q z => q (inj x y hx hy z)
  unfold couple at e
  injection e with e1 e2
  have q1 := ne a b h2 (by omega) (by omega)
  have q2 := ne a' b' h2' (by omega) (by omega)
  by_cases c1 : names.getD a 0 ≤ names.getD b 0
  · rw [Nat.min_eq_left c1] at e1
    rw [Nat.max_eq_right c1] at e2
    by_cases c2 : names.getD a' 0 ≤ names.getD b' 0
    · rw [Nat.min_eq_left c2] at e1
      rw [Nat.max_eq_right c2] at e2
      rw [inj a a' h2 h2' e1, inj b b' (by omega) (by omega) e2]
    · rw [Nat.min_eq_right (by omega)] at e1
      rw [Nat.max_eq_left (by omega)] at e2
      have r1 := inj a b' h2 (by omega) e1
      have r2 := inj b a' (by omega) h2' e2
      omega
  · rw [Nat.min_eq_right (by omega)] at e1
    rw [Nat.max_eq_left (by omega)] at e2
    by_cases c2 : names.getD a' 0 ≤ names.getD b' 0
    · rw [Nat.min_eq_left c2] at e1
      rw [Nat.max_eq_right c2] at e2
      have r1 := inj b a' (by omega) h2' e1
      have r2 := inj a b' h2 (by omega) e2
      omega
    · rw [Nat.min_eq_right (by omega)] at e1
      rw [Nat.max_eq_left (by omega)] at e2
      rw [inj a a' h2 h2' e2, inj b b' (by omega) (by omega) e1]
end KL
end
/-! ## ER -/
section
namespace K7E
open PySem PySem.Spec PyProof.Rows L2
theorem cr_range1 {X : Cx} : CallR X (.type "range") (fun vs H Q => ∃ j, vs = [V.int j] ∧ ∀ p, H p = none → Q (.ref p) (upd H p (.rng 0 j))) := by
  intro pins s σ H vs us Q I r h
  obtain ⟨j, rfl, q⟩ := h
  obtain ⟨u1, rfl, t, rfl⟩ := r.one
  refine call_range_1 ⟨.ref s.heap.objs.size, upd H s.heap.objs.size (.rng 0 j), I.laid (t' := s.toks + 1 + 1) (fun b o e => Heap.get?_push_of_some _ e) (Nat.le_refl _) ?_, rfl, q _ (I.hok.fresh (Nat.le_refl _))⟩
  exact ⟨s.toks, t, s.toks + 1, Heap.get?_push_size _ rfl⟩
def upTo (n : Nat) : List V := (List.range n).map fun i => .int (i : Nat)
theorem vals_upTo : ∀ (n : Nat) (us : List Value), us.length = n → (∀ (j : Nat) v, us[j]? = some v → ∃ t, v = .int (j : Nat) t) → Vals (upTo n) us := by
  intro n
  induction n with
  | zero => intro us h _; cases us with | nil => exact .nil | cons => cases h
  | succ n ih =>
    intro us h hv
    have e : us = us.take n ++ [us[n]'(by omega)] := by
      have := List.take_append_getElem (l := us) (i := n) (by omega)
      rw [this, List.take_of_length_le (by omega)]
    have e2 : upTo (n + 1) = upTo n ++ [.int (n : Nat)] := by
      unfold upTo
      rw [List.range_succ, List.map_append]
      rfl
    rw [e, e2]
    refine (ih _ (by rw [List.length_take]; omega) fun j v hj => ?_).append (.cons ?_ .nil)
    · rw [List.getElem?_take] at hj
      split at hj
      · exact hv j v hj
      · cases hj
    · exact hv n _ (List.getElem?_eq_getElem (by omega))
theorem small_all : ∀ k : Fin 1001, Builtin.Range.small 0 (k.val : Int) 1 = true := by decide +kernel
theorem cr_list_rng {X : Cx} (hc : X.calm = true) : CallR X (.type "list") (fun vs H Q => ∃ (r : Addr) (n : Nat), vs = [V.ref r] ∧ H r = some (.rng 0 n) ∧ n ≤ 1000 ∧ ∀ l, H l = none → Q (.ref l) (upd H l (.lst (upTo n)))) := by
  intro pins s σ H vs us Q I rv h
  obtain ⟨r, n, rfl, hr, hn, q⟩ := h
  obtain ⟨u, rfl, ru⟩ := rv.one
  cases ru
  obtain ⟨t, u, v, hg⟩ := I.hok r _ hr
  refine call_list_range (n := n) (I.ok.hd hc) (show IsRange s.heap r 0 n 1 t u v from hg) ?_ ?_ ?_ fun h' tk acc' c' hk hl hi => ?_
  · have h1 : (0 : Int) ≤ n := by omega
    have h2 : (n : Int) ≤ 1000 := by omega
    exact small_all ⟨n, by omega⟩
  · show (if (0 : Int) < (n : Int) then ((n : Int) - 0 - 1) / 1 + 1 else 0) = (n : Int)
    split <;> omega
  · exact Nat.le_trans hn (by decide)
  · refine ⟨.ref s.heap.objs.size, upd H s.heap.objs.size (.lst (upTo n)), I.laid (t' := tk) hk (Nat.le_refl _) ⟨?_, acc'.toList, c', vals_upTo n _ ?_ fun j w hj => ?_, ?_⟩, rfl, q _ (I.hok.fresh (Nat.le_refl _))⟩
    · unfold upTo; rw [List.length_map, List.length_range]; exact Nat.le_trans hn (by decide)
    · simpa using hi.1
    · obtain ⟨t', e⟩ := hi.2 j w (by simpa using hj)
      exact ⟨t', by rw [e]; simp⟩
    · simpa using hl
end K7E
end
/-! ## P3 -/
section
open PySem PySem.Spec PyProof.Rows L2
namespace K7L
theorem hu65 {k : Nat} {A : Around} (hr : Room k A) : A.units + 65 < cLine := by have := hr.un; omega
end K7L
namespace K7
abbrev N__law_land : List Str := ["_law_hand_here", "_law_n", "_law_names", "_law_left", "_law_k", "_law_couples", "_law_high", "_law_low", "_law_rows_here", "_law_a", "_law_b", "_law_lots_here", "_law_lot"]
abbrev s__law_land : Stmt := topS 36
theorem sc__law_land : FnScope ["_law_hand_here", "_law_n", "_law_names", "_law_left", "_law_k", "_law_couples", "_law_high", "_law_low", "_law_rows_here", "_law_a", "_law_b", "_law_lots_here", "_law_lot"] ["_law_hand_here", "_law_n"] (defScope s__law_land) := ⟨rfl, rfl, rfl, by decide +kernel, rfl, by decide +kernel, by decide +kernel⟩
/-! ### what stays -/
def notHand : List V → Bool
  | [.ref _, .int _, .int _, .int _] => false
  | _ => true
theorem notHand_strs : ∀ ss : List Str, notHand (ss.map V.str) = true
  | [] => rfl
  | [_] => rfl
  | [_, _] => rfl
  | [_, _, _] => rfl
  | [_, _, _, _] => rfl
  | _ :: _ :: _ :: _ :: _ :: _ => rfl
theorem notHand_len : ∀ xs : List V, xs.length ≠ 4 → notHand xs = true
  | [], _ => rfl
  | [_], _ => by unfold notHand; split <;> first | rfl | (rename_i h; cases h)
  | [_, _], _ => by unfold notHand; split <;> first | rfl | (rename_i h; cases h)
  | [_, _, _], _ => by unfold notHand; split <;> first | rfl | (rename_i h; cases h)
  | [_, _, _, _], h => absurd rfl h
  | _ :: _ :: _ :: _ :: _ :: _, _ => by unfold notHand; split <;> first | rfl | (rename_i h; cases h)
/-- all but the hand at h is as it was, and the hand is a hand -/
structure Stay (h c : Addr) (H H' : Hp) : Prop where
  but : But h H H'
  hand0 : Hand H h c
  hand : Hand H' h c
theorem Stay.of_same {h c : Addr} {H H' : Hp} (hh : Hand H h c) (e : Same H H') : Stay h c H H' := ⟨fun b o _ z => e b o z, hh, hh.same e⟩
theorem Stay.of_drawn {h c : Addr} {H H' : Hp} (hh : Hand H h c) (d : Drawn H H' h c) : Stay h c H H' := ⟨fun b o nb z => by rw [d.but b nb]; exact z, hh, d.hand⟩
theorem Stay.trans {h c : Addr} {H H' H'' : Hp} (x : Stay h c H H') (y : Stay h c H' H'') : Stay h c H H'' := ⟨fun b o nb z => y.but b o nb (x.but b o nb z), x.hand0, y.hand⟩
theorem Stay.same {h c : Addr} {H H' H'' : Hp} (x : Stay h c H H') (e : Same H' H'') : Stay h c H H'' := x.trans (.of_same x.hand e)
theorem Stay.drawn {h c : Addr} {H H' H'' : Hp} (x : Stay h c H H') (e : Drawn H' H'' h c) : Stay h c H H'' := x.trans (.of_drawn x.hand e)
theorem Hand.nel {h c b : Addr} {H : Hp} {xs : List V} (hh : Hand H h c) (hb : H b = some (.lst xs)) (hx : notHand xs = true) : b ≠ h := by
  intro e
  subst e
  obtain ⟨ns, i, x, t, h1, _, _⟩ := hh
  rw [hb] at h1
  injection h1 with h1
  unfold HandO at h1
  injection h1 with h1
  subst h1
  cases hx
theorem Hand.nei {h c b C dx : Addr} {H : Hp} {fs : List (Str × V)} (hh : Hand H h c) (hb : H b = some (.ins C dx fs)) : b ≠ h := by
  intro e
  subst e
  obtain ⟨ns, i, x, t, h1, _, _⟩ := hh
  rw [hb] at h1
  cases h1
theorem Hand.net {h c b : Addr} {H : Hp} {xs : List V} (hh : Hand H h c) (hb : H b = some (.tup xs)) : b ≠ h := by
  intro e
  subst e
  obtain ⟨ns, i, x, t, h1, _, _⟩ := hh
  rw [hb] at h1
  cases h1
theorem Hand.ned {h c b : Addr} {H : Hp} {kvs : List (Key × V)} (hh : Hand H h c) (hb : H b = some (.dK kvs)) : b ≠ h := by
  intro e
  subst e
  obtain ⟨ns, i, x, t, h1, _, _⟩ := hh
  rw [hb] at h1
  cases h1
section
variable {h c : Addr} {H H' : Hp}
theorem Stay.lst {b : Addr} {xs : List V} (x : Stay h c H H') (hb : H b = some (.lst xs)) (hx : notHand xs = true) : H' b = some (.lst xs) := x.but b _ (x.hand0.nel hb hx) hb
theorem Stay.row {b : Addr} {ss : List Str} (x : Stay h c H H') (hb : H b = some (.lst (ss.map V.str))) : H' b = some (.lst (ss.map V.str)) := x.lst hb (notHand_strs ss)
end
theorem map_erase {α β : Type} (f : α → β) : ∀ (l : List α) (j : Nat), (l.map f).eraseIdx j = (l.eraseIdx j).map f
  | [], _ => rfl
  | x :: l, 0 => rfl
  | x :: l, j + 1 => congrArg (f x :: ·) (map_erase f l j)
theorem ixN_nat {n i : Nat} (h : i < n) : ixN n (i : Int) = some i := by
  have e : (List.range n)[i]? = some i := by rw [List.getElem?_range h]
  have := atI_nat e
  unfold atI at this
  rw [List.length_range] at this
  cases q : ixN n (i : Int) with
  | none => rw [q] at this; cases this
  | some j =>
    rw [q] at this
    have h2 : (List.range n)[j]? = some i := this
    rw [List.getElem?_eq_some_iff] at h2
    obtain ⟨h3, h4⟩ := h2
    rw [List.getElem_range] at h4
    rw [h4]
section
variable {P : Program} {w : World} {K : PySem.W.Frag} {mg : Str → Option Value} {base : Heap}
def rLen_ (K : PySem.W.Frag) : List V → Hp → VK → Prop := fun xs H Q => ∃ p ys, xs = [.ref p] ∧ (SqL K H p ys ∨ SqT K H p ys) ∧ Q (.int ys.length) H
def pairs (es : List (Nat × Nat)) : List (List Nat) := es.map fun e => [e.1, e.2]
/-- couples before the cells have their names: each cell below m hangs on a lower one -/
structure Tree (n m : Nat) (cs : List (Nat × Nat)) : Prop where
  lt : ∀ e ∈ cs, e.2 < e.1 ∧ e.1 < m ∧ e.1 < n
  nd : cs.Nodup
  low : ∀ k, 0 < k → k < m → ∃ d, d < k ∧ (k, d) ∈ cs
theorem Tree.nil (n : Nat) : Tree n 1 [] := ⟨fun e h => (nomatch h), List.nodup_nil, fun k h0 h1 => by omega⟩
theorem Tree.add {n k j : Nat} {cs : List (Nat × Nat)} (t : Tree n (k + 1) cs) (hk : k + 1 < n) (hj : j < k + 1) : Tree n (k + 1 + 1) (cs ++ [(k + 1, j)]) := by
  refine ⟨fun e h => ?_, ?_, fun x x0 x1 => ?_⟩
  · rcases List.mem_append.mp h with q | q
    · obtain ⟨a, b, c⟩ := t.lt e q
      exact ⟨a, by omega, c⟩
    · rw [List.mem_singleton.mp q]
      exact ⟨hj, by show k + 1 < k + 1 + 1; omega, hk⟩
  · rw [List.nodup_append]
    refine ⟨t.nd, by simp, fun a ha b hb => ?_⟩
    rw [List.mem_singleton.mp hb]
    intro z
    rw [z] at ha
    have := (t.lt _ ha).2.1
    simp only at this
    omega
  · by_cases z : x = k + 1
    · exact ⟨j, by omega, List.mem_append_right _ (by rw [z]; exact List.mem_singleton.mpr rfl)⟩
    · obtain ⟨d, d1, d2⟩ := t.low x x0 (by omega)
      exact ⟨d, d1, List.mem_append_left _ d2⟩
theorem Tree.more {n a b : Nat} {cs : List (Nat × Nat)} (t : Tree n n cs) (h1 : b < a) (h2 : a < n) (h3 : (a, b) ∉ cs) : Tree n n (cs ++ [(a, b)]) := by
  refine ⟨fun e h => ?_, ?_, fun x x0 x1 => ?_⟩
  · rcases List.mem_append.mp h with q | q
    · exact t.lt e q
    · rw [List.mem_singleton.mp q]
      exact ⟨h1, h2, h2⟩
  · rw [List.nodup_append]
    refine ⟨t.nd, by simp, fun x hx y hy => ?_⟩
    rw [List.mem_singleton.mp hy]
    intro z
    exact h3 (z ▸ hx)
  · obtain ⟨d, d1, d2⟩ := t.low x x0 x1
    exact ⟨d, d1, List.mem_append_left _ d2⟩
/-! ### couples as data -/
theorem dp_pair {K : PySem.W.Frag} {H : Hp} (k j : Nat) : DpAll K H [.int (2 + (k : Nat)), .int (0 + (j : Nat))] [.int ((2 + k : Nat) : Int), .int (j : Nat)] := by
  rw [show (2 : Int) + (k : Nat) = ((2 + k : Nat) : Int) by omega, Int.zero_add]
  exact .cons (.int _) (.cons (.int _) .nil)
theorem dp_rows {K : PySem.W.Frag} {H : Hp} : ∀ {ts : List Addr} {ls : List (List Nat)}, TAt H ts ls → DpAll K H (ts.map V.ref) (ls.map intD)
  | _, _, .nil => .nil
  | _, _, .cons h r => .cons (.tup (.inl (.inl h)) (dp_ints _)) (dp_rows r)
theorem shaped_rows (ls : List (List Nat)) : SeqAt.shaped (.list (ls.map intD)) = true := by
  have h1 : ∀ l : List Nat, PyData.canLay0 (intD l) = true ∧ PyData.depth (intD l) ≤ 1 := fun l => by
    have z := shaped_ints l
    have z : ((PyData.canLay0 (intD l)) && decide (PyData.depth (intD l) ≤ 64)) = true := z
    refine ⟨(Bool.and_eq_true_iff.mp z).1, ?_⟩
    have : ∀ l : List Nat, PyData.depthAll (l.map fun c => PyData.int (c : Nat)) = 0 := fun l => by
      induction l with
      | nil => simp [PyData.depthAll]
      | cons x r ih => simp [PyData.depthAll, PyData.depth, ih]
    simp [intD, PyData.depth, this l]
  have h2 : ∀ ls : List (List Nat), PyData.canLayAll0 (ls.map intD) = true ∧ PyData.depthAll (ls.map intD) ≤ 1 := fun ls => by
    induction ls with
    | nil => exact ⟨by simp [PyData.canLayAll0], by simp [PyData.depthAll]⟩
    | cons x r ih =>
      refine ⟨by simp [PyData.canLayAll0, (h1 x).1, ih.1], ?_⟩
      rw [List.map_cons, PyData.depthAll]
      exact Nat.max_le.mpr ⟨(h1 x).2, ih.2⟩
  show ((PyData.canLay0 (.list (ls.map intD))) && decide (PyData.depth (.list (ls.map intD)) ≤ 64)) = true
  have d : PyData.depth (.list (ls.map intD)) ≤ 64 := by
    rw [PyData.depth]
    have := (h2 ls).2
    omega
  simp [PyData.canLay0, (h2 ls).1, d]
theorem any_rows (cs : List (Nat × Nat)) (a b : Nat) : ((pairs cs).map intD).any (fun z => PyData.eqv z (intD [a, b])) = decide ((a, b) ∈ cs) := by
  induction cs with
  | nil => rfl
  | cons e cs ih =>
    show (PyData.eqv (intD [e.1, e.2]) (intD [a, b]) || ((pairs cs).map intD).any (fun z => PyData.eqv z (intD [a, b]))) = _
    rw [ih]
    have h : PyData.eqv (intD [e.1, e.2]) (intD [a, b]) = decide (e = (a, b)) := by
      obtain ⟨x, y⟩ := e
      simp [intD, PyData.eqv, PyData.eqvAll]
      by_cases z1 : x = a <;> by_cases z2 : y = b <;> simp [z1, z2] <;> omega
    rw [h]
    by_cases z : e = (a, b)
    · simp [z]
    · have z2 : ¬ (a, b) = e := fun q => z q.symm
      simp [z, z2]
structure LandOk (n : Nat) (es : List (Nat × Nat)) : Prop where
  lt : ∀ e ∈ es, e.1 < e.2 ∧ e.2 < n
  nd : es.Nodup
  sorted : es.Pairwise fun a b => a.1 < b.1 ∨ (a.1 = b.1 ∧ a.2 ≤ b.2)
  conn : KL.Conn n es
structure LandOk0 (n : Nat) (es : List (Nat × Nat)) : Prop where
  lt : ∀ e ∈ es, e.1 < e.2 ∧ e.2 < n
  nd : es.Nodup
  conn : KL.Conn n es
theorem tree_land {n : Nat} {nm : List Nat} {cs : List (Nat × Nat)} (hp : nm.Perm (List.range n)) (t : Tree n n cs) : LandOk0 n (cs.map fun e => KL.couple nm e.1 e.2) := by
  have nd : nm.Nodup := hp.nodup_iff.mpr List.nodup_range
  have hl : nm.length = n := by rw [hp.length_eq, List.length_range]
  refine ⟨fun e he => ?_, ?_, ?_⟩
  · obtain ⟨x, hx, rfl⟩ := List.mem_map.mp he
    obtain ⟨t1, t2, t3⟩ := t.lt x hx
    have m1 := KL.couple_mem hp (a := x.1) t3
    have m2 := KL.couple_mem hp (a := x.2) (by omega)
    have ne : nm.getD x.1 0 ≠ nm.getD x.2 0 := by
      intro z
      rw [List.getD_eq_getElem?_getD, List.getD_eq_getElem?_getD, List.getElem?_eq_getElem (by omega), List.getElem?_eq_getElem (by omega)] at z
      have := (List.getElem_inj nd).mp z
      omega
    show min _ _ < max _ _ ∧ max _ _ < n
    omega
  · rw [List.nodup_iff_pairwise_ne, List.pairwise_map]
    refine (List.nodup_iff_pairwise_ne.mp t.nd).imp_of_mem fun {a b} ha hb hab z => ?_
    obtain ⟨a1, a2, a3⟩ := t.lt a ha
    obtain ⟨b1, b2, b3⟩ := t.lt b hb
    exact hab (KL.couple_inj hp a1 a3 b1 b3 z)
  · refine KL.conn_tree hp fun k k0 k1 => ?_
    obtain ⟨d, d1, d2⟩ := t.low k k0 k1
    exact ⟨d, d1, List.mem_map.mpr ⟨(k, d), d2, rfl⟩⟩
/-- the two numbers of a couple's tuple -/
def kfOf (H : Hp) : V → Int × Int
  | .ref a => (match H a with | some (.tup [.int i, .int j]) => (i, j) | _ => (0, 0))
  | _ => (0, 0)
def gOf (H : Hp) (x : V) : Nat × Nat := ((kfOf H x).1.toNat, (kfOf H x).2.toNat)
theorem kf_at {H : Hp} {a : Addr} {x y : Nat} (h : H a = some (.tup [.int (x : Nat), .int (y : Nat)])) : kfOf H (.ref a) = ((x : Int), (y : Int)) := by
  unfold kfOf
  simp only [h]
theorem g_at {H : Hp} {a : Addr} {e : Nat × Nat} (h : H a = some (.tup [.int (e.1 : Nat), .int (e.2 : Nat)])) : gOf H (.ref a) = e := by
  unfold gOf
  rw [kf_at h]
  rfl
theorem g_map {H : Hp} : ∀ {us : List Addr} {es : List (Nat × Nat)}, TAt H us (pairs es) → (us.map V.ref).map (gOf H) = es
  | [], [], _ => rfl
  | _ :: _, [], h => nomatch h
  | [], _ :: _, h => nomatch h
  | u :: us, e :: es, .cons h r => by
    show gOf H (.ref u) :: (us.map V.ref).map (gOf H) = _
    rw [g_at h, g_map r]
theorem g_mem {H : Hp} {us : List Addr} {es : List (Nat × Nat)} (t : TAt H us (pairs es)) : ∀ x ∈ us.map V.ref, ∃ (a : Addr) (e : Nat × Nat), x = V.ref a ∧ H a = some (.tup [.int (e.1 : Nat), .int (e.2 : Nat)]) := by
  intro x hx
  obtain ⟨a, ha, rfl⟩ := List.mem_map.mp hx
  obtain ⟨i, hi, e⟩ := List.mem_iff_getElem.mp ha
  obtain ⟨l, el, hl⟩ := t.get (i := i) (t := a) (by rw [List.getElem?_eq_getElem hi, e])
  unfold pairs at el
  rw [List.getElem?_map] at el
  obtain ⟨ab, eab, rfl⟩ := Option.map_eq_some_iff.mp el
  exact ⟨a, ab, rfl, hl⟩
theorem tat_of {H : Hp} : ∀ ys : List V, (∀ x ∈ ys, ∃ (a : Addr) (e : Nat × Nat), x = V.ref a ∧ H a = some (.tup [.int (e.1 : Nat), .int (e.2 : Nat)])) → ∃ ts, ys = ts.map V.ref ∧ TAt H ts (pairs (ys.map (gOf H)))
  | [], _ => ⟨[], rfl, .nil⟩
  | y :: ys, h => by
    obtain ⟨a, e, rfl, ha⟩ := h y List.mem_cons_self
    obtain ⟨ts, rfl, t⟩ := tat_of ys fun x hx => h x (List.mem_cons_of_mem _ hx)
    refine ⟨a :: ts, rfl, ?_⟩
    show TAt H (a :: ts) ([(gOf H (.ref a)).1, (gOf H (.ref a)).2] :: _)
    rw [g_at ha]
    exact .cons ha t
theorem sorted_of {H : Hp} : ∀ ys : List V, (∀ x ∈ ys, ∃ (a : Addr) (e : Nat × Nat), x = V.ref a ∧ H a = some (.tup [.int (e.1 : Nat), .int (e.2 : Nat)])) → SrtO.Srtd (ltP (kfOf H)) ys → (ys.map (gOf H)).Pairwise fun a b => a.1 < b.1 ∨ (a.1 = b.1 ∧ a.2 ≤ b.2) := by
  intro ys h s
  rw [List.pairwise_map]
  refine List.Pairwise.imp_of_mem (fun {x y} hx hy q => ?_) s
  obtain ⟨a, e, rfl, ha⟩ := h x hx
  obtain ⟨b, e', rfl, hb⟩ := h y hy
  rw [g_at ha, g_at hb]
  have q : SrtO.lexB (kfOf H (.ref b)) (kfOf H (.ref a)) = false := q
  rw [kf_at ha, kf_at hb] at q
  have z : ¬ ((e'.1 : Int) < e.1 ∨ ((e'.1 : Int) = e.1 ∧ (e'.2 : Int) < e.2)) := fun z => by
    rw [SrtO.lexB_iff.mpr z] at q
    cases q
  omega
theorem Stay.free {h c b : Addr} {H H' : Hp} (y : Stay h c H H') (n : H' b = none) : H b = none := by
  cases z : H b with
  | none => rfl
  | some o =>
    by_cases e : b = h
    · subst e
      obtain ⟨ns, i, x, t, h1, _, _⟩ := y.hand
      rw [h1] at n
      cases n
    · rw [y.but b o e z] at n
      cases n
theorem lots_some : ∀ n : Fin 6, 2 ≤ n.val → ((lotsTo (List.range n.val) n.val).filter fun l => decide (0 < l.length) && decide (l.length < n.val)).length ≠ 4 ∧ 0 < ((lotsTo (List.range n.val) n.val).filter fun l => decide (0 < l.length) && decide (l.length < n.val)).length ∧
    ((lotsTo (List.range n.val) n.val).filter fun l => decide (0 < l.length) && decide (l.length < n.val)).length ≤ 32 := by decide +kernel
/-- a drawn land: its number of cells, its couples, its roads -/
structure LandAt (H : Hp) (q : Addr) (n : Nat) (es : List (Nat × Nat)) (lot : List Nat) : Prop where
  at_ : ∃ rA sA ts, H q = some (.tup [.int (n : Nat), .ref rA, .ref sA]) ∧ H rA = some (.lst (ts.map V.ref)) ∧ TAt H ts (pairs es) ∧ H sA = some (.lst (ints_ lot))
  ok : LandOk n es
  lot : lot ∈ lotsTo (List.range n) n ∧ 0 < lot.length ∧ lot.length < n
def spLand : Sp := fun vs H Q _ => ∃ (h c : Addr) (n : Nat), vs = [.ref h, .int (n : Nat)] ∧ Hand H h c ∧ 2 ≤ n ∧ n ≤ 5 ∧ ∀ H' q es lot, Stay h c H H' → H q = none → LandAt H' q n es lot → Q (.ref q) H'
theorem ok_land {f fdr fpk flo : Addr} {fd fddr fdpk fdlo : FuncData} (F : Fun K "_law_land" "_law_land" s__law_land f fd)
    (Gdr : FnOk P w K mg base CX0 2 fdr fddr ["_law_hand_here", "_law_many"] spDraw) (gdr : mg "_law_draw" = some (.ref fdr)) (kdr : PySem.W.keepIn K (.ref fdr) = true) (bdr : Binds K fddr ["_law_hand_here", "_law_many"] [])
    (Gpk : FnOk P w K mg base CX0 3 fpk fdpk ["_law_hand_here", "_law_things"] spPick) (gpk : mg "_law_pick" = some (.ref fpk)) (kpk : PySem.W.keepIn K (.ref fpk) = true) (bpk : Binds K fdpk ["_law_hand_here", "_law_things"] [])
    (Glo : FnOk P w K mg base CX0 1 flo fdlo ["_law_cells"] spLots) (glo : mg "_law_lots" = some (.ref flo)) (klo : PySem.W.keepIn K (.ref flo) = true) (blo : Binds K fdlo ["_law_cells"] [])
    (m_range : mg "range" = none) (m_len : mg "len" = none) (m_list : mg "list" = none) (m_min : mg "min" = none) (m_max : mg "max" = none) (m_sorted : mg "sorted" = none) :
    FnOk P w K mg base CX0 4 f fd ["_law_hand_here", "_law_n"] spLand := by
  refine F.ok sc__law_land (fun vs H Q E h => ?_) (fun cdv A outer s H vs Q E hr h => ?_)
  · obtain ⟨h, c, n, rfl, _⟩ := h
    rfl
  · obtain ⟨h, c, n, rfl, hh, n2, n5, q⟩ := h
    refine ⟨_, (pss_cons (ps_set (i := 2) sc__law_land.nd rfl (by first | exact Or.inl rfl | exact Or.inr rfl) (pe_lst pa_nil))
 (pss_cons (ps_set (i := 3) sc__law_land.nd rfl (by first | exact Or.inl rfl | exact Or.inr rfl) (pe_callTy (K7E.cr_list_rng rfl) (by rfl) m_list boot_list (pa_cons (pe_callTy K7E.cr_range1 (by rfl) m_range boot_range (pa_cons (pv 1) pa_nil)) pa_nil)))
 (Evl.pss_cut (ps_for PassesOwn.never rfl (pi_range1 rfl m_range (pa_cons (pv 1) pa_nil)) (pg_name (i := 4) sc__law_land.nd rfl (by first | exact Or.inl rfl | exact Or.inr rfl))
  (pss_one (ps_expr (pe_bm PySem.F.plainAttrs_list PySem.F.slot_list_append PySem.F.type_list_append mt_append (pv 2) (pa_cons (pe_bm PySem.F.plainAttrs_list PySem.F.slot_list_pop PySem.F.type_list_pop mt_popAt (pv 3) (pa_cons (pe_call Gdr (hr.mono (by decide)) (by rfl) gdr kdr bdr .nil pass0 (pa_cons (pv 0) (pa_cons (pe_callB call_len_seq (by rfl) m_len boot_len (pa_cons (pv 3) pa_nil)) pa_nil))) pa_nil)) pa_nil)))))
 (pss_cons (ps_set (i := 5) sc__law_land.nd rfl (by first | exact Or.inl rfl | exact Or.inr rfl) (pe_lst pa_nil))
 (Evl.pss_cut (ps_for PassesOwn.never rfl (pi_range2 rfl m_range (pa_cons pe_int (pa_cons (pv 1) pa_nil))) (pg_name (i := 4) sc__law_land.nd rfl (by first | exact Or.inl rfl | exact Or.inr rfl))
  (pss_one (ps_expr (pe_bm PySem.F.plainAttrs_list PySem.F.slot_list_append PySem.F.type_list_append mt_append (pv 5) (pa_cons (pe_tup (pa_cons (pv 4) (pa_cons (pe_call Gdr (hr.mono (by decide)) (by rfl) gdr kdr bdr .nil pass0 (pa_cons (pv 0) (pa_cons (pv 4) pa_nil))) pa_nil))) pa_nil)))))
 (Evl.pss_cut (ps_for PassesOwn.never rfl (pi_range2 rfl m_range (pa_cons pe_int (pa_cons (pv 1) pa_nil))) (pg_name (i := 6) sc__law_land.nd rfl (by first | exact Or.inl rfl | exact Or.inr rfl))
  (pss_one (ps_for PassesOwn.never rfl (pi_range1 rfl m_range (pa_cons (pv 6) pa_nil)) (pg_name (i := 7) sc__law_land.nd rfl (by first | exact Or.inl rfl | exact Or.inr rfl))
  (pss_one (ps_if (pw_and (pt_cmpR (op_notInD (K7L.hu65 hr)) (pe_tup (pa_cons (pv 6) (pa_cons (pv 7) pa_nil))) (pv 5) (by with_unfolding_all rfl)) (pw_and1 (pt_cmpR op_eq (pe_call Gdr (hr.mono (by decide)) (by rfl) gdr kdr bdr .nil pass0 (pa_cons (pv 0) (pa_cons pe_int pa_nil))) pe_int (nomark _)))).pt
  (pss_one (ps_expr (pe_bm PySem.F.plainAttrs_list PySem.F.slot_list_append PySem.F.type_list_append mt_append (pv 5) (pa_cons (pe_tup (pa_cons (pv 6) (pa_cons (pv 7) pa_nil))) pa_nil))))
  pss_nil)))))
 (pss_cons (ps_setLc (i := 8) (own := [("_law_a", 9), ("_law_b", 10)]) (g := gTup K 2 (gCons (gName 9) (gCons (gName 10) (gNil)))) (tt := tYes) rfl sc__law_land.nd rfl rfl (sw_true rfl rfl rfl (by decide +kernel)) (pi_list (pv 5)) (blkOk_by (own := [("_law_a", 9), ("_law_b", 10)]) (N := N__law_land) (sc := defScope s__law_land) (by decide +kernel)) (fun _ _ _ _ _ => (pg_tup rfl (pgs_cons (pg_name (i := 9) sc__law_land.nd rfl (by first | exact Or.inl rfl | exact Or.inr rfl)) (pgs_cons (pg_name (i := 10) sc__law_land.nd rfl (by first | exact Or.inl rfl | exact Or.inr rfl)) pgs_nil)))) (fun _ _ _ _ _ => pts_nil) (fun _ _ _ _ _ => (pe_tup (pa_cons (pe_callB (call_min2 rfl) (by rfl) m_min boot_min (pa_cons (pe_ix (show IxR _ (rIxL K) from ix_list) (pv 2) (pv 9) (fun _ _ => rfl)) (pa_cons (pe_ix (show IxR _ (rIxL K) from ix_list) (pv 2) (pv 10) (fun _ _ => rfl)) pa_nil))) (pa_cons (pe_callB (call_max2 rfl) (by rfl) m_max boot_max (pa_cons (pe_ix (show IxR _ (rIxL K) from ix_list) (pv 2) (pv 9) (fun _ _ => rfl)) (pa_cons (pe_ix (show IxR _ (rIxL K) from ix_list) (pv 2) (pv 10) (fun _ _ => rfl)) pa_nil))) pa_nil)))))
 (pss_cons (ps_setLc (i := 11) (own := [("_law_lot", 12)]) (g := gName 12) rfl sc__law_land.nd rfl rfl (sw_true rfl rfl rfl (by decide +kernel)) (pi_list (pe_call Glo (hr.mono (by decide)) (by rfl) glo klo blo .nil pass0 (pa_cons (pe_callTy (K7E.cr_list_rng rfl) (by rfl) m_list boot_list (pa_cons (pe_callTy K7E.cr_range1 (by rfl) m_range boot_range (pa_cons (pv 1) pa_nil)) pa_nil)) pa_nil))) (blkOk_by (own := [("_law_lot", 12)]) (N := N__law_land) (sc := defScope s__law_land) (by decide +kernel)) (fun _ _ _ _ _ => (pg_name (i := 12) sc__law_land.nd rfl (by first | exact Or.inl rfl | exact Or.inr rfl))) (fun _ _ _ _ _ => (pts_one (pt_chain op_lt op_lt pe_int (pe_callB (show CallR _ (.builtin "len") (rLen_ K) from call_len_seq) (by rfl) m_len boot_len (pa_cons (pv 12) pa_nil)) (pv 1)))) (fun _ _ _ _ _ => (pv 12)))
 (pss_one (ps_ret (pe_tup (pa_cons (pv 1) (pa_cons (pe_callB cr_sortedPO (by rfl) m_sorted boot_sorted (pa_cons (pv 8) pa_nil)) (pa_cons (pe_callTy call_list_of (by rfl) m_list boot_list (pa_cons (pe_call Gpk (hr.mono (by decide)) (by rfl) gpk kpk bpk .nil pass0 (pa_cons (pv 0) (pa_cons (pv 11) pa_nil))) pa_nil)) pa_nil)))))))))))))), ?_⟩
    have l10 : ∀ {xs : List Nat} {k : Nat}, xs.length ≤ k → k ≤ 1000 → (ints_ xs).length < sizeLine := fun {xs k} h1 h2 => by
      unfold ints_; rw [List.length_map]; exact small1000 (Nat.le_trans h1 h2)
    refine ⟨by show 0 ≤ sizeLine; decide, fun N0 nN => ?_⟩
    refine ⟨_, rfl, _, rfl, fun rg nrg => ?_⟩
    refine ⟨rg, n, rfl, upd_same, by omega, fun Lf nLf => ?_⟩
    have e1 : Same H (upd H N0 (.lst [])) := same_new (Same.refl H) nN
    have e2 : Same H (upd (upd H N0 (.lst [])) rg (.rng 0 n)) := same_new e1 nrg
    have e3 : Same H (upd (upd (upd H N0 (.lst [])) rg (.rng 0 n)) Lf (.lst (K7E.upTo n))) := same_new e2 nLf
    have hN3 : upd (upd (upd H N0 (.lst [])) rg (.rng 0 n)) Lf (.lst (K7E.upTo n)) N0 = some (.lst []) := same_new (Same.refl _) nLf _ _ (same_new (Same.refl _) nrg _ _ upd_same)
    have hL3 : upd (upd (upd H N0 (.lst [])) rg (.rng 0 n)) Lf (.lst (K7E.upTo n)) Lf = some (.lst (ints_ (List.range n))) := upd_same
    have fN : H N0 = none := nN
    have fL : H Lf = none := e2.free nLf
    have nNL : N0 ≠ Lf := ne_of_none (same_new (o := .rng 0 n) (Same.refl _) nrg _ _ upd_same) nLf
    obtain ⟨hNh, hNc⟩ := hh.ne fN
    obtain ⟨hLh, hLc⟩ := hh.ne fL
    generalize upd (upd (upd H N0 (.lst [])) rg (.rng 0 n)) Lf (.lst (K7E.upTo n)) = H3 at e3 hN3 hL3 ⊢
    refine ⟨fun σ' H' => ∃ nm y4, σ' = [some (.ref h), some (.int (n : Nat)), some (.ref N0), some (.ref Lf), y4, none, none, none, none, none, none, none, none] ∧ Stay h c H H' ∧ H' N0 = some (.lst (ints_ nm)) ∧ nm.Perm (List.range n), ?_, ?_⟩
    · refine ⟨_, rfl, _, rfl, by omega, by omega, for_range (fun k σ' H' => k ≤ n ∧ ∃ nm lf y4, σ' = [some (.ref h), some (.int (n : Nat)), some (.ref N0), some (.ref Lf), y4, none, none, none, none, none, none, none, none] ∧ Stay h c H H' ∧ H' N0 = some (.lst (ints_ nm)) ∧ H' Lf = some (.lst (ints_ lf)) ∧ (nm ++ lf).Perm (List.range n) ∧ nm.length = k)
        ⟨Nat.zero_le _, [], List.range n, none, rfl, .of_same hh e3, hN3, hL3, List.Perm.refl _, rfl⟩ (fun k σ' H' hk pv => ?_) (fun σ' H' pv => ?_)⟩
      · obtain ⟨_, nm, lf, y4, rfl, st, hN, hL, hp, hl⟩ := pv
        have hk : k < n := by simpa using hk
        have hll : lf.length = n - k := by
          have := hp.length_eq
          rw [List.length_append, List.length_range] at this
          omega
        have hil : (ints_ lf).length = lf.length := by unfold ints_; rw [List.length_map]
        refine ⟨_, rfl, .inl ⟨rfl, _, .inl (.inl hN)⟩, _, rfl, .inl ⟨rfl, _, .inl (.inl hL)⟩, _, rfl, _, rfl, Lf, _, rfl, .inl (.inl (.inl hL)), h, c, _, rfl, st.hand, by omega, ?_, fun H4 x d x0 x1 => ?_⟩
        · exact Int.lt_of_le_of_lt (show (((ints_ lf).length : Nat) : Int) ≤ 1000 by omega) (by decide)
        obtain ⟨j, rfl⟩ : ∃ j : Nat, x = (j : Int) := ⟨x.toNat, by omega⟩
        have hj : j < lf.length := by omega
        have hN4 : H4 N0 = some (.lst (ints_ nm)) := by rw [d.but N0 hNh]; exact hN
        have hL4 : H4 Lf = some (.lst (ints_ lf)) := by rw [d.but Lf hLh]; exact hL
        refine ⟨Lf, _, _, j, .int (lf[j] : Nat), rfl, rfl, hL4, by omega, by omega, (ixN_seq (ixN_nat (by omega))).1, ?_, ?_⟩
        · unfold ints_
          rw [List.getElem?_map, List.getElem?_eq_getElem hj]
          rfl
        have hN5 : upd H4 Lf (.lst ((ints_ lf).eraseIdx j)) N0 = some (.lst (ints_ nm)) := by rw [upd_ne nNL]; exact hN4
        refine ⟨N0, _, _, rfl, rfl, hN5, l10 (Nat.le_of_eq hl) (by omega), ?_⟩
        refine ⟨by omega, nm ++ [lf[j]], lf.eraseIdx j, _, rfl, ⟨fun b o nb hb => ?_, hh, ((d.hand.upd hLh hLc).upd hNh hNc)⟩, ?_, ?_, (KL.pop_perm hj).trans hp, by rw [List.length_append, hl]; rfl⟩
        · rw [upd_ne (ne_of_none hb fN), upd_ne (ne_of_none hb fL), d.but b nb]
          exact st.but b o nb hb
        · rw [upd_same]
          unfold ints_
          rw [List.map_append]
          rfl
        · rw [upd_ne nNL.symm, upd_same]
          unfold ints_
          rw [map_erase]
      · obtain ⟨_, nm, lf, y4, rfl, st, hN, hL, hp, hl⟩ := pv
        have hl : nm.length = n := by simpa using hl
        have l0 : lf = [] := by
          have := hp.length_eq
          rw [List.length_append, List.length_range] at this
          exact List.length_eq_zero_iff.mp (by omega)
        subst l0
        rw [List.append_nil] at hp
        exact ⟨nm, y4, rfl, st, hN, hp⟩
    rintro _ H4 ⟨nm, y4, rfl, st4, hN, hp⟩
    -- the tree
    refine ⟨by show 0 ≤ sizeLine; decide, fun C0 nC => ?_⟩
    have hC5 : upd H4 C0 (.lst []) C0 = some (.lst []) := upd_same
    have hN5 : upd H4 C0 (.lst []) N0 = some (.lst (ints_ nm)) := by rw [upd_ne (ne_of_none hN nC)]; exact hN
    obtain ⟨hCh, hCc⟩ := st4.hand.ne nC
    have st5 := st4.same (same_new (o := .lst []) (Same.refl H4) nC)
    have fC : H C0 = none := by
      cases z : H C0 with
      | none => rfl
      | some o =>
        have h1 := st4.but C0 o hCh z
        rw [nC] at h1
        cases h1
    have nNC : N0 ≠ C0 := ne_of_none hN nC
    generalize upd H4 C0 (.lst []) = H5 at hC5 hN5 st5 ⊢
    refine ⟨fun σ' H' => ∃ ts cs y4, σ' = [some (.ref h), some (.int (n : Nat)), some (.ref N0), some (.ref Lf), y4, some (.ref C0), none, none, none, none, none, none, none] ∧ Stay h c H H' ∧ H' N0 = some (.lst (ints_ nm)) ∧ H' C0 = some (.lst (ts.map V.ref)) ∧ TAt H' ts (pairs cs) ∧ Tree n n cs ∧ cs.length ≤ 10, ?_, ?_⟩
    · refine ⟨_, rfl, 1, _, rfl, ⟨by decide, by decide, by omega, by omega⟩, for_range (lo := 1) (fun k σ' H' => k + 1 ≤ n ∧ ∃ ts cs y4, σ' = [some (.ref h), some (.int (n : Nat)), some (.ref N0), some (.ref Lf), y4, some (.ref C0), none, none, none, none, none, none, none] ∧ Stay h c H H' ∧ H' N0 = some (.lst (ints_ nm)) ∧ H' C0 = some (.lst (ts.map V.ref)) ∧ TAt H' ts (pairs cs) ∧ Tree n (k + 1) cs ∧ cs.length = k)
        ⟨by omega, [], [], y4, rfl, st5, hN5, hC5, .nil, Tree.nil n, rfl⟩ (fun k σ' H' hk pv => ?_) (fun σ' H' pv => ?_)⟩
      · obtain ⟨_, ts, cs, y4, rfl, st, hN, hC, tC, tr, hl⟩ := pv
        have hk : k + 1 < n := by omega
        refine ⟨_, rfl, .inl ⟨rfl, _, .inl (.inl hC)⟩, _, rfl, _, rfl, _, rfl, h, c, _, rfl, st.hand, by omega, ?_, fun H6 x d x0 x1 => ?_⟩
        · exact Int.lt_of_le_of_lt (show (1 : Int) + (k : Nat) ≤ 1000 by omega) (by decide)
        obtain ⟨j, rfl⟩ : ∃ j : Nat, x = (j : Int) := ⟨x.toNat, by omega⟩
        have hj : j < k + 1 := by omega
        refine ⟨by show 2 ≤ sizeLine; decide, fun t nt => ?_⟩
        have y6 := (Stay.of_drawn st.hand d).same (same_new (o := .tup [.int (1 + (k : Nat)), .int (j : Nat)]) (Same.refl H6) nt)
        have hC6 := y6.but C0 _ hCh hC
        have hN6 := y6.but N0 _ hNh hN
        have ltx : ts.length = k := by rw [tC.len]; unfold pairs; rw [List.length_map, hl]
        refine ⟨C0, _, _, rfl, rfl, hC6, by rw [List.length_map, ltx]; exact small1000 (by omega), ?_⟩
        have up : ∀ b xs, upd H6 t (.tup [.int (1 + (k : Nat)), .int (j : Nat)]) b = some (.tup xs) → upd (upd H6 t (.tup [.int (1 + (k : Nat)), .int (j : Nat)])) C0 (.lst (ts.map V.ref ++ [.ref t])) b = some (.tup xs) := fun b xs hb => by
          rw [upd_ne (fun z => by rw [z, hC6] at hb; cases hb)]
          exact hb
        have tC6 : TAt (upd H6 t (.tup [.int (1 + (k : Nat)), .int (j : Nat)])) ts (pairs cs) := tC.mono fun b xs hb => y6.but b _ (st.hand.net hb) hb
        refine ⟨by omega, ts ++ [t], cs ++ [(k + 1, j)], _, rfl, ⟨fun b o nb hb => ?_, hh, y6.hand.upd hCh hCc⟩, ?_, ?_, ?_, tr.add hk hj, by rw [List.length_append, hl]; rfl⟩
        · rw [upd_ne (ne_of_none hb fC)]
          exact y6.but b o nb (st.but b o nb hb)
        · rw [upd_ne nNC]; exact hN6
        · rw [upd_same, List.map_append]; rfl
        · unfold pairs
          rw [List.map_append]
          refine (tC6.mono up).append (.cons (up _ _ ?_) .nil)
          rw [upd_same, show (1 : Int) + (k : Nat) = ((k + 1 : Nat) : Int) by omega]
          rfl
      · obtain ⟨hk, ts, cs, y4, rfl, st, hN, hC, tC, tr, hl⟩ := pv
        refine ⟨ts, cs, y4, rfl, st, hN, hC, tC, ?_, by omega⟩
        have e : ((n : Int) - 1).toNat + 1 = n := by omega
        rw [e] at tr
        exact tr
    rintro _ H6 ⟨ts, cs, y4, rfl, st6, hN6, hC6, tC6, tr6, ln6⟩
    -- more couples
    refine ⟨fun σ' H' => ∃ ts cs y6 y7, σ' = [some (.ref h), some (.int (n : Nat)), some (.ref N0), some (.ref Lf), y4, some (.ref C0), y6, y7, none, none, none, none, none] ∧ Stay h c H H' ∧ H' N0 = some (.lst (ints_ nm)) ∧ H' C0 = some (.lst (ts.map V.ref)) ∧ TAt H' ts (pairs cs) ∧ Tree n n cs ∧ cs.length ≤ 60, ?_, ?_⟩
    · refine ⟨_, rfl, 2, _, rfl, ⟨by decide, by decide, by omega, by omega⟩, for_range (lo := 2) (fun k σ' H' => k ≤ 5 ∧ ∃ ts cs y6 y7, σ' = [some (.ref h), some (.int (n : Nat)), some (.ref N0), some (.ref Lf), y4, some (.ref C0), y6, y7, none, none, none, none, none] ∧ Stay h c H H' ∧ H' N0 = some (.lst (ints_ nm)) ∧ H' C0 = some (.lst (ts.map V.ref)) ∧ TAt H' ts (pairs cs) ∧ Tree n n cs ∧ cs.length ≤ 10 + 10 * k)
        ⟨by omega, ts, cs, none, none, rfl, st6, hN6, hC6, tC6, tr6, ln6⟩ (fun k σ' H' hk pv => ?_) (fun σ' H' pv => ?_)⟩
      · obtain ⟨_, ts, cs, y6, y7, rfl, st, hN, hC, tC, tr, ln⟩ := pv
        have hk : 2 + k < n := by omega
        refine ⟨_, rfl, _, rfl, by omega, by omega, for_range (fun j σ' H' => ∃ ts cs y7, σ' = [some (.ref h), some (.int (n : Nat)), some (.ref N0), some (.ref Lf), y4, some (.ref C0), some (.int (2 + (k : Nat))), y7, none, none, none, none, none] ∧ Stay h c H H' ∧ H' N0 = some (.lst (ints_ nm)) ∧ H' C0 = some (.lst (ts.map V.ref)) ∧ TAt H' ts (pairs cs) ∧ Tree n n cs ∧ cs.length ≤ 10 + 10 * k + j)
          ⟨ts, cs, y7, rfl, st, hN, hC, tC, tr, by omega⟩ (fun j σ' H' hj pv => ?_) (fun σ' H' pv => ?_)⟩
        · obtain ⟨ts, cs, y7, rfl, st, hN, hC, tC, tr, ln⟩ := pv
          have hj : j < 2 + k := by omega
          have ltx : ts.length = cs.length := by rw [tC.len]; unfold pairs; rw [List.length_map]
          refine ⟨_, rfl, _, rfl, by show 2 ≤ sizeLine; decide, fun t nt => ?_⟩
          have sT := same_new (o := .tup [.int (2 + (k : Nat)), .int (0 + (j : Nat))]) (Same.refl H') nt
          have stT := st.same sT
          refine ⟨_, rfl, intD [2 + k, j], _, .tup (xs := [.int (2 + (k : Nat)), .int (0 + (j : Nat))]) (.inl (.inl upd_same)) (dp_pair k j), .lst (.inl (.inl (sT _ _ hC))) (dp_rows (tC.same sT)), shaped_ints _, shaped_rows _, ?_⟩
          rw [any_rows]
          refine ⟨_, rfl, ite2 (fun q1 => ?_) (fun q1 => ?_)⟩
          · have hnm : (2 + k, j) ∉ cs := by
              intro z
              rw [decide_eq_true z] at q1
              cases q1
            refine ⟨_, rfl, h, c, _, rfl, stT.hand, by decide, by decide, fun H7 x d x0 x1 => ?_⟩
            have st7 := stT.drawn d
            have hC7 : H7 C0 = some (.lst (ts.map V.ref)) := by rw [d.but C0 hCh]; exact sT _ _ hC
            have hN7 : H7 N0 = some (.lst (ints_ nm)) := by rw [d.but N0 hNh]; exact sT _ _ hN
            have tC7 : TAt H7 ts (pairs cs) := (tC.same sT).mono fun b xs hb => by rw [d.but b (stT.hand.net hb)]; exact hb
            refine ⟨rfl, _, rfl, ite2 (fun q2 => ?_) (fun q2 => ?_)⟩
            · refine ⟨_, rfl, .inl ⟨rfl, _, .inl (.inl hC7)⟩, _, rfl, _, rfl, by show 2 ≤ sizeLine; decide, fun t2 nt2 => ?_⟩
              have sU := same_new (o := .tup [.int (2 + (k : Nat)), .int (0 + (j : Nat))]) (Same.refl H7) nt2
              refine ⟨C0, _, _, rfl, rfl, sU _ _ hC7, by rw [List.length_map, ltx]; exact small1000 (by omega), ?_⟩
              have up : ∀ b xs, upd H7 t2 (.tup [.int (2 + (k : Nat)), .int (0 + (j : Nat))]) b = some (.tup xs) → upd (upd H7 t2 (.tup [.int (2 + (k : Nat)), .int (0 + (j : Nat))])) C0 (.lst (ts.map V.ref ++ [.ref t2])) b = some (.tup xs) := fun b xs hb => by
                rw [upd_ne (fun z => by rw [z, sU _ _ hC7] at hb; cases hb)]
                exact hb
              refine ⟨ts ++ [t2], cs ++ [(2 + k, j)], _, rfl, ⟨fun b o nb hb => ?_, hh, (st7.same sU).hand.upd hCh hCc⟩, ?_, ?_, ?_, tr.more hj hk hnm, by rw [List.length_append, List.length_singleton]; omega⟩
              · rw [upd_ne (ne_of_none hb fC)]
                exact (st7.same sU).but b o nb hb
              · rw [upd_ne nNC]; exact sU _ _ hN7
              · rw [upd_same, List.map_append]; rfl
              · unfold pairs
                rw [List.map_append]
                refine ((tC7.same sU).mono up).append (.cons (up _ _ ?_) .nil)
                rw [upd_same, show (2 : Int) + (k : Nat) = ((2 + k : Nat) : Int) by omega, Int.zero_add]
                rfl
            · exact ⟨ts, cs, _, rfl, st7, hN7, hC7, tC7, tr, by omega⟩
          · exact ⟨ts, cs, _, rfl, stT, sT _ _ hN, sT _ _ hC, tC.same sT, tr, by omega⟩
        · obtain ⟨ts, cs, y7, rfl, st, hN, hC, tC, tr, ln⟩ := pv
          exact ⟨by omega, ts, cs, _, _, rfl, st, hN, hC, tC, tr, by omega⟩
      · obtain ⟨hk, ts, cs, y6, y7, rfl, st, hN, hC, tC, tr, ln⟩ := pv
        exact ⟨ts, cs, y6, y7, rfl, st, hN, hC, tC, tr, by omega⟩
    rintro _ H8 ⟨ts, cs, y6, y7, rfl, st8, hN8, hC8, tC8, tr8, ln8⟩
    -- under their names
    have nml : nm.length = n := by rw [hp.length_eq, List.length_range]
    have ltx : ts.length = cs.length := by rw [tC8.len]; unfold pairs; rw [List.length_map]
    refine ⟨_, rfl, C0, rfl, ⟨_, .inl (.inl hC8)⟩, fun D hD => lc_list (xs := ts.map V.ref) (fun j H2 => Same H8 H2 ∧ ∃ us, H2 D = some (.lst (us.map V.ref)) ∧ TAt H2 us (pairs ((cs.take j).map fun e => KL.couple nm e.1 e.2)) ∧ us.length ≤ j) ⟨same_new (Same.refl H8) hD, [], upd_same, .nil, Nat.le_refl _⟩ (fun j H2 _ pv => .inl (.inl (pv.1 _ _ hC8))) (fun j x H2 hx pv => ?_) (fun H9 pv => ?_)⟩
    · obtain ⟨e, us, hD2, tD, lu⟩ := pv
      rw [List.getElem?_map] at hx
      obtain ⟨t, ht, rfl⟩ := Option.map_eq_some_iff.mp hx
      obtain ⟨l, el, hl⟩ := tC8.get ht
      unfold pairs at el
      rw [List.getElem?_map] at el
      obtain ⟨ab, eab, rfl⟩ := Option.map_eq_some_iff.mp el
      obtain ⟨a, b'⟩ := ab
      obtain ⟨t1, t2, t3⟩ := tr8.lt _ (List.mem_of_getElem? eab)
      have t1 : b' < a := t1
      have t3 : a < n := t3
      have jl : j < 60 := by
        have := (List.getElem?_eq_some_iff.mp eab).1
        omega
      have at_ : ∀ x, x < n → atI (ints_ nm) ((x : Nat) : Int) = some (.int (nm.getD x 0 : Nat)) := fun x hx' => by
        refine atI_nat ?_
        unfold ints_
        rw [List.getElem?_map, List.getElem?_eq_getElem (by omega), List.getD_eq_getElem?_getD, List.getElem?_eq_getElem (by omega)]
        rfl
      have hN9 := e _ _ hN8
      refine ⟨t, [.int (a : Nat), .int (b' : Nat)], rfl, .inl (.inl (e _ _ hl)), rfl, _, _, rfl, _, _, rfl, rfl, rfl, ?_⟩
      refine ⟨_, rfl, _, rfl, N0, _, _, _, rfl, rfl, .inl (.inl hN9), at_ a t3, _, rfl, _, rfl, N0, _, _, _, rfl, rfl, .inl (.inl hN9), at_ b' (by omega), _, _, rfl, ?_⟩
      refine ⟨_, rfl, _, rfl, N0, _, _, _, rfl, rfl, .inl (.inl hN9), at_ a t3, _, rfl, _, rfl, N0, _, _, _, rfl, rfl, .inl (.inl hN9), at_ b' (by omega), _, _, rfl, ?_⟩
      refine ⟨by show 2 ≤ sizeLine; decide, fun u nu => ?_⟩
      have nDu : D ≠ u := ne_of_none hD2 nu
      refine ⟨_, by rw [upd_ne nDu]; exact hD2, by rw [List.length_map]; exact small1000 (by omega), fun b o hb => ?_, us ++ [u], by rw [upd_same, List.map_append]; rfl, ?_, by rw [List.length_append, List.length_singleton]; omega⟩
      · have h1 := e _ _ hb
        rw [upd_ne (ne_of_none hb hD), upd_ne (ne_of_none h1 nu)]
        exact h1
      · rw [List.take_add_one, eab, List.map_append]
        unfold pairs at tD ⊢
        rw [List.map_append]
        refine (tD.mono fun b xs hb => ?_).append (.cons ?_ .nil)
        · rw [upd_ne (fun z => by rw [z, hD2] at hb; cases hb), upd_ne (ne_of_none hb nu)]
          exact hb
        · have m1 : ∀ x y : Nat, (if (y : Int) < (x : Int) then (y : Int) else (x : Int)) = ((min x y : Nat) : Int) := fun x y => by split <;> omega
          have m2 : ∀ x y : Nat, (if (y : Int) > (x : Int) then (y : Int) else (x : Int)) = ((max x y : Nat) : Int) := fun x y => by split <;> omega
          rw [upd_ne nDu.symm, upd_same, m1, m2]
          rfl
    obtain ⟨e9, us, hD9, tD9, lu9⟩ := pv
    rw [List.length_map, ltx, List.take_length] at tD9
    rw [List.length_map, ltx] at lu9
    have st9 := st8.same e9
    -- the lots
    refine ⟨_, rfl, _, rfl, fun rg nrg => ?_⟩
    refine ⟨rg, n, rfl, upd_same, by omega, fun l0 nl0 => ?_⟩
    have s10 : Same H9 (upd (upd H9 rg (.rng 0 n)) l0 (.lst (K7E.upTo n))) := same_new (same_new (Same.refl H9) nrg) nl0
    refine ⟨l0, n, rfl, n5, upd_same, fun H11 lo ls e11 nlo hlo tlo => ?_⟩
    have e11 := s10.trans e11
    refine ⟨lo, rfl, ⟨_, .inl (.inl hlo)⟩, fun D2 hD2 => lc_list (xs := ls.map V.ref) (fun j H2 => Same H11 H2 ∧ ∃ us, H2 D2 = some (.lst (us.map V.ref)) ∧ TAt H2 us (((lotsTo (List.range n) n).take j).filter fun l => decide (0 < l.length) && decide (l.length < n)) ∧ us.length ≤ j) ⟨same_new (Same.refl H11) hD2, [], upd_same, .nil, Nat.le_refl _⟩ (fun j H2 _ pv => .inl (.inl (pv.1 _ _ hlo))) (fun j x H2 hx pv => ?_) (fun H12 pv => ?_)⟩
    · obtain ⟨e, us, hD3, tD, lu⟩ := pv
      rw [List.getElem?_map] at hx
      obtain ⟨t, ht, rfl⟩ := Option.map_eq_some_iff.mp hx
      obtain ⟨l, el, hl⟩ := tlo.get ht
      have jl : j < 32 := by
        have h1 := (List.getElem?_eq_some_iff.mp el).1
        have h2 : (lotsTo (List.range n) n).length ≤ 32 := (level_len ⟨n, by omega⟩ ⟨n, by omega⟩).2
        omega
      have hll : (l.map fun c => V.int (c : Nat)).length = l.length := List.length_map ..
      have hl2 := e _ _ hl
      have f1 : ((lotsTo (List.range n) n).take (j + 1)).filter (fun l => decide (0 < l.length) && decide (l.length < n)) = ((lotsTo (List.range n) n).take j).filter (fun l => decide (0 < l.length) && decide (l.length < n)) ++ (if (decide (0 < l.length) && decide (l.length < n)) = true then [l] else []) := by
        rw [List.take_add_one, el, List.filter_append]
        congr 1
        show List.filter _ [l] = _
        rw [List.filter_cons]
        rfl
      refine ⟨rfl, _, rfl, t, _, rfl, .inr (.inl (.inl hl2)), _, _, rfl, rfl, _, rfl, ite2 (fun q1 => ?_) (fun q1 => ?_)⟩
      · have q1' : 0 < l.length := by
          have z : (0 : Int) < (((l.map fun c => V.int (c : Nat)).length : Nat) : Int) := of_decide_eq_true q1
          omega
        refine ⟨_, rfl, _, _, rfl, rfl, _, rfl, ite2 (fun q2 => ?_) (fun q2 => ?_)⟩
        · have q2' : l.length < n := by
            have z : (((l.map fun c => V.int (c : Nat)).length : Nat) : Int) < (n : Nat) := of_decide_eq_true q2
            omega
          refine ⟨_, rfl, _, hD3, by rw [List.length_map]; exact small1000 (by omega), fun b o hb => ?_, us ++ [t], by rw [upd_same, List.map_append]; rfl, ?_, by rw [List.length_append, List.length_singleton]; omega⟩
          · rw [upd_ne (ne_of_none hb hD2)]
            exact e _ _ hb
          · rw [f1, if_pos (by rw [decide_eq_true q1', decide_eq_true q2']; rfl)]
            have up : ∀ b xs, H2 b = some (.tup xs) → upd H2 D2 (.lst (us.map V.ref ++ [.ref t])) b = some (.tup xs) := fun b xs hb => by
              rw [upd_ne (fun z => by rw [z, hD3] at hb; cases hb)]
              exact hb
            exact (tD.mono up).append (.cons (up _ _ hl2) .nil)
        · have q2' : ¬ l.length < n := fun z => q2 (decide_eq_true (by omega))
          refine ⟨e, us, hD3, ?_, by omega⟩
          rw [f1, if_neg (by rw [decide_eq_false q2', Bool.and_false]; decide), List.append_nil]
          exact tD
      · have q1' : ¬ 0 < l.length := fun z => q1 (decide_eq_true (by omega))
        refine ⟨_, rfl, iteF ?_⟩
        refine ⟨e, us, hD3, ?_, by omega⟩
        rw [f1, if_neg (by rw [decide_eq_false q1', Bool.false_and]; decide), List.append_nil]
        exact tD
    obtain ⟨e12, vs, hD12, tD12, lv12⟩ := pv
    have e12 := e11.trans e12
    have lsl : ls.length = (lotsTo (List.range n) n).length := tlo.len
    rw [List.length_map, lsl, List.take_length] at tD12
    have st12 := st9.same e12
    have hR12 := e12 _ _ hD9
    have tR12 := tD9.same e12
    -- the land
    have okl : LandOk0 n (cs.map fun e => KL.couple nm e.1 e.2) := tree_land hp tr8
    refine ⟨_, rfl, _, rfl, D, _, kfOf H12, rfl, .inl (.inl hR12), fun x hx => ?_, fun ys p srt stb np => ?_⟩
    · obtain ⟨a, e, rfl, ha⟩ := g_mem tR12 x hx
      exact ⟨a, rfl, by rw [kf_at ha]; exact ha⟩
    have hys := fun x (hx : x ∈ ys) => g_mem tR12 x (stb.perm.mem_iff.mp hx)
    obtain ⟨ts', rfl, tY⟩ := tat_of ys hys
    have pe : ((ts'.map V.ref).map (gOf H12)).Perm (cs.map fun e => KL.couple nm e.1 e.2) := by
      rw [← g_map tR12]
      exact stb.perm.map _
    have ok : LandOk n ((ts'.map V.ref).map (gOf H12)) := ⟨fun e he => okl.lt e (pe.mem_iff.mp he), pe.nodup_iff.mpr okl.nd, sorted_of _ hys srt, fun S h0 hS => okl.conn S h0 fun e he => hS e (pe.mem_iff.mpr he)⟩
    have s13 := same_new (o := .lst (ts'.map V.ref)) (Same.refl H12) np
    obtain ⟨hph, _⟩ := st12.hand.ne np
    have st13 := st12.same s13
    have hp13 : upd H12 p (.lst (ts'.map V.ref)) p = some (.lst (ts'.map V.ref)) := upd_same
    have tY13 := tY.same s13
    have hD13 := s13 _ _ hD12
    have tD13 := tD12.same s13
    generalize (ts'.map V.ref).map (gOf H12) = es at ok tY13 pe tY
    generalize upd H12 p (.lst (ts'.map V.ref)) = H13 at s13 st13 hp13 tY13 hD13 tD13 ⊢
    obtain ⟨k4, k0, k32⟩ := lots_some ⟨n, by omega⟩ n2
    have hvl : vs.length = ((lotsTo (List.range n) n).filter fun l => decide (0 < l.length) && decide (l.length < n)).length := tD13.len
    have k4 : vs.length ≠ 4 := by rw [hvl]; exact k4
    have k0 : 0 < vs.length := by rw [hvl]; exact k0
    have k32 : vs.length ≤ 32 := by rw [hvl]; exact k32
    refine ⟨_, rfl, _, rfl, h, c, D2, _, rfl, st13.hand, st13.hand.nel hD13 (notHand_len _ (by rw [List.length_map]; exact k4)), hD13, by rw [List.length_map]; exact k0, by rw [List.length_map]; omega, fun H14 j v d ej => ?_⟩
    rw [List.getElem?_map] at ej
    obtain ⟨t, ht, rfl⟩ := Option.map_eq_some_iff.mp ej
    obtain ⟨lot, elot, hlot⟩ := tD13.get ht
    have st14 := st13.drawn d
    have keep : ∀ {b : Addr} {xs : List V}, H13 b = some (.tup xs) → H14 b = some (.tup xs) := fun {b xs} hb => by rw [d.but b (st13.hand.net hb)]; exact hb
    have hp14 : H14 p = some (.lst (ts'.map V.ref)) := by rw [d.but p hph]; exact hp13
    have tY14 := tY13.mono fun b xs hb => keep hb
    refine ⟨t, _, rfl, .inr (.inl (.inl (keep hlot))), fun sA nsA => ?_⟩
    refine ⟨by show 3 ≤ sizeLine; decide, fun q0 nq0 => ?_⟩
    have s15 := same_new (o := .lst (lot.map fun c => .int (c : Nat))) (Same.refl H14) nsA
    have s16 := same_new (o := .tup [.int (n : Nat), .ref p, .ref sA]) s15 nq0
    have nsq : sA ≠ q0 := ne_of_none (show upd H14 sA (.lst (lot.map fun c => .int (c : Nat))) sA = some (.lst (lot.map fun c => .int (c : Nat))) from upd_same) nq0
    have hmem := List.mem_filter.mp (List.mem_of_getElem? elot)
    obtain ⟨hm1, hm2⟩ := hmem
    have hm2 := Bool.and_eq_true_iff.mp hm2
    exact q _ q0 es lot (st14.same s16) ((st14.same s15).free nq0) ⟨⟨p, sA, ts', upd_same, s16 _ _ hp14, tY14.same s16, by rw [upd_ne nsq, upd_same]; rfl⟩, ok, hm1, of_decide_eq_true hm2.1, of_decide_eq_true hm2.2⟩
end
end K7
end
/-! ## P4 -/
section
open PySem PySem.Spec PyProof.Rows L2
namespace K7
abbrev N_is_whole : List Str := ["thing", "low", "high"]
abbrev s_is_whole : Stmt := topS 10
theorem sc_is_whole : FnScope ["thing", "low", "high"] ["thing", "low", "high"] (defScope s_is_whole) := ⟨rfl, rfl, rfl, by decide +kernel, rfl, by decide +kernel, by decide +kernel⟩
abbrev N_is_sequence : List Str := ["thing"]
abbrev s_is_sequence : Stmt := topS 9
theorem sc_is_sequence : FnScope ["thing"] ["thing"] (defScope s_is_sequence) := ⟨rfl, rfl, rfl, by decide +kernel, rfl, by decide +kernel, by decide +kernel⟩
section
variable {P : Program} {w : World} {K : PySem.W.Frag} {mg : Str → Option Value} {base : Heap}
/-! is_whole -/
def wholeV (x : V) (lo hi : Int) : Bool := match x with
  | .int i => decide (lo ≤ i) && decide (i ≤ hi)
  | _ => false
theorem wholeV_int (i lo hi : Int) : wholeV (.int i) lo hi = (decide (lo ≤ i) && decide (i ≤ hi)) := rfl
inductive Flat4 : V → Prop where
  | non : Flat4 .non
  | bl (b : Bool) : Flat4 (.bl b)
  | int (i : Int) : Flat4 (.int i)
  | str (z : Str) : Flat4 (.str z)
/-- what a row of the law holds -/
inductive Thing (H : Hp) : V → Prop where
  | flat {x : V} (h : Flat4 x) : Thing H x
  | tup {a : Addr} {xs : List V} (h : H a = some (.tup xs)) : Thing H (.ref a)
  | lst {a : Addr} {xs : List V} (h : H a = some (.lst xs)) : Thing H (.ref a)
theorem Thing.same {H H' : Hp} {x : V} (h : Thing H x) (e : Same H H') : Thing H' x := by
  cases h with
  | flat h => exact .flat h
  | tup h => exact .tup (e _ _ h)
  | lst h => exact .lst (e _ _ h)
def spWhole : Sp := fun vs H Q _ => ∃ (x : V) (lo hi : Int), vs = [x, .int lo, .int hi] ∧ Thing H x ∧ Q (.bl (wholeV x lo hi)) H
theorem ok_whole {f : Addr} {fd : FuncData} (F : Fun K "is_whole" "is_whole" s_is_whole f fd) (m_isinstance : mg "isinstance" = none) (m_int : mg "int" = none) (m_bool : mg "bool" = none) : FnOk P w K mg base CX0 1 f fd ["thing", "low", "high"] spWhole := by
  refine F.ok sc_is_whole (fun vs H Q E h => ?_) (fun cdv A outer s H vs Q E hr h => ?_)
  · obtain ⟨x, lo, hi, rfl, _⟩ := h
    rfl
  · obtain ⟨x, lo, hi, rfl, hx, q⟩ := h
    refine ⟨_, (pss_one (ps_ret (pe_and (pe_callB call_isi (by rfl) m_isinstance boot_isinstance (pa_cons (pv 0) (pa_cons (pe_bltn (v := .ty "int") (by rfl) m_int boot_int rfl) pa_nil))) (pe_and (pe_not (pe_callB call_isi (by rfl) m_isinstance boot_isinstance (pa_cons (pv 0) (pa_cons (pe_bltn (v := .ty "bool") (by rfl) m_bool boot_bool rfl) pa_nil)))) (pe_one (pe_chain op_le op_le (pv 1) (pv 0) (pv 2))))))), ?_⟩
    rcases hx with ⟨hx⟩ | hx | hx
    rotate_left
    · exact ⟨_, rfl, _, _, _, _, _, rfl, .ty _, .base (.tup hx), kit_ty (r := false) (by decide +kernel), false, rfl, q⟩
    · exact ⟨_, rfl, _, _, _, _, _, rfl, .ty _, .base (.lst hx), kit_ty (r := false) (by decide +kernel), false, rfl, q⟩
    cases hx with
    | non => exact ⟨_, rfl, _, _, _, _, _, rfl, .ty _, .base .non, kit_ty (r := false) (by decide +kernel), false, rfl, q⟩
    | bl b => 
      refine ⟨_, rfl, _, _, _, _, _, rfl, .ty _, .base (.bl b), kit_ty (r := true) (by decide +kernel), true, rfl, ?_⟩
      exact ⟨_, rfl, _, _, _, _, _, rfl, .ty _, .base (.bl b), kit_ty (r := true) (by decide +kernel), _, rfl, _, rfl, q⟩
    | str z => exact ⟨_, rfl, _, _, _, _, _, rfl, .ty _, .base (.str z), kit_ty (r := false) (by decide +kernel), false, rfl, q⟩
    | int i =>
      refine ⟨_, rfl, _, _, _, _, _, rfl, .ty _, .base (.int i), kit_ty (r := true) (by decide +kernel), true, rfl, ?_⟩
      refine ⟨_, rfl, _, _, _, _, _, rfl, .ty _, .base (.int i), kit_ty (r := false) (by decide +kernel), _, rfl, _, rfl, ?_⟩
      refine ⟨_, rfl, _, rfl, _, _, rfl, rfl, _, rfl, ite2 (fun e => ?_) (fun e => ?_)⟩
      · rw [wholeV_int, e, Bool.true_and] at q
        exact ⟨_, rfl, _, _, rfl, rfl, q⟩
      · rw [wholeV_int, Bool.eq_false_iff.mpr e, Bool.false_and] at q
        exact q

/-! is_sequence -/
/-- a tuple or a list -/
def SqA (K : PySem.W.Frag) (H : Hp) (a : Addr) (xs : List V) : Prop := SqL K H a xs ∨ SqT K H a xs
def spSeq (K : PySem.W.Frag) : Sp := fun vs H Q _ => ∃ (x : V) (t : String) (b : Bool), vs = [x] ∧ (∀ H1, Same H H1 → TyX K H1 x (.type t)) ∧ PySem.W.kitAny K (.type t) [.type "list", .type "tuple"] = some b ∧ ∀ H1, Same H H1 → Q (.bl b) H1
theorem ok_seq {f : Addr} {fd : FuncData} (F : Fun K "is_sequence" "is_sequence" s_is_sequence f fd) (m_isinstance : mg "isinstance" = none) (m_list : mg "list" = none) (m_tuple : mg "tuple" = none) : FnOk P w K mg base CX0 1 f fd ["thing"] (spSeq K) := by
  refine F.ok sc_is_sequence (fun vs H Q E h => ?_) (fun cdv A outer s H vs Q E hr h => ?_)
  · obtain ⟨x, t, b, rfl, _⟩ := h
    rfl
  · obtain ⟨x, t, b, rfl, ty, k, q⟩ := h
    refine ⟨_, (pss_one (ps_ret (pe_callB call_isiT (by rfl) m_isinstance boot_isinstance (pa_cons (pv 0) (pa_cons (pe_tup (pa_cons (pe_bltn (v := .ty "list") (by rfl) m_list boot_list rfl) (pa_cons (pe_bltn (v := .ty "tuple") (by rfl) m_tuple boot_tuple rfl) pa_nil))) pa_nil))))), ?_⟩
    refine ⟨_, rfl, by show 2 ≤ sizeLine; decide, fun tp np => ?_⟩
    have s1 := same_new (o := .tup [.ty "list", .ty "tuple"]) (Same.refl H) np
    exact ⟨x, tp, _, .type t, _, b, rfl, upd_same, .cons (.ty _) (.cons (.ty _) .nil), ty _ s1, k, q _ s1⟩
theorem any_tup : PySem.W.kitAny K (.type "tuple") [.type "list", .type "tuple"] = some true := kitAny_cons (b := false) (kit_ty (by decide +kernel)) (fun _ => kitAny_cons (b := true) (kit_ty (by decide +kernel)) (fun z => nomatch z) (fun _ => rfl)) (fun z => nomatch z)
theorem any_lst : PySem.W.kitAny K (.type "list") [.type "list", .type "tuple"] = some true := kitAny_cons (b := true) (kit_ty (by decide +kernel)) (fun z => nomatch z) (fun _ => rfl)
theorem any_int : PySem.W.kitAny K (.type "int") [.type "list", .type "tuple"] = some false := kitAny_cons (b := false) (kit_ty (by decide +kernel)) (fun _ => kitAny_cons (b := false) (kit_ty (by decide +kernel)) (fun _ => kitAny_nil) (fun z => nomatch z)) (fun z => nomatch z)
theorem any_str : PySem.W.kitAny K (.type "str") [.type "list", .type "tuple"] = some false := kitAny_cons (b := false) (kit_ty (by decide +kernel)) (fun _ => kitAny_cons (b := false) (kit_ty (by decide +kernel)) (fun _ => kitAny_nil) (fun z => nomatch z)) (fun z => nomatch z)
theorem any_non : PySem.W.kitAny K (.type "NoneType") [.type "list", .type "tuple"] = some false := kitAny_cons (b := false) (kit_ty (by decide +kernel)) (fun _ => kitAny_cons (b := false) (kit_ty (by decide +kernel)) (fun _ => kitAny_nil) (fun z => nomatch z)) (fun z => nomatch z)
theorem any_bool : PySem.W.kitAny K (.type "bool") [.type "list", .type "tuple"] = some false := kitAny_cons (b := false) (kit_ty (by decide +kernel)) (fun _ => kitAny_cons (b := false) (kit_ty (by decide +kernel)) (fun _ => kitAny_nil) (fun z => nomatch z)) (fun z => nomatch z)
end
end K7
end
/-! ## EL -/
section
open PySem PySem.Spec PyProof.Rows L2
namespace K7E
theorem nodup_le {α : Type} [DecidableEq α] : ∀ (l D : List α), l.Nodup → (∀ x ∈ l, x ∈ D) → l.length ≤ D.length
  | [], _, _, _ => Nat.zero_le _
  | x :: l, D, h, m => by
    obtain ⟨h1, h2⟩ := List.nodup_cons.mp h
    have hx := m x List.mem_cons_self
    have z := nodup_le l (D.erase x) h2 fun y hy => (List.mem_erase_of_ne (fun (e : y = x) => h1 (by rw [← e]; exact hy))).mpr (m y (List.mem_cons_of_mem _ hy))
    rw [List.length_erase_of_mem hx] at z
    have := List.length_pos_of_mem hx
    rw [List.length_cons]
    omega
theorem nodup_of_le {α : Type} [DecidableEq α] : ∀ (l D : List α), l.Nodup → (∀ x ∈ l, x ∈ D) → D.length ≤ l.length → D.Nodup
  | [], [], _, _, _ => List.nodup_nil
  | [], _ :: _, _, _, z => absurd z (by rw [List.length_cons, List.length_nil]; omega)
  | x :: l, D, h, m, z => by
    obtain ⟨h1, h2⟩ := List.nodup_cons.mp h
    have hx := m x List.mem_cons_self
    have hl := List.length_erase_of_mem hx
    have sub : ∀ y ∈ l, y ∈ D.erase x := fun y hy => (List.mem_erase_of_ne (fun (e : y = x) => h1 (by rw [← e]; exact hy))).mpr (m y (List.mem_cons_of_mem _ hy))
    rw [List.length_cons] at z
    have hp := List.length_pos_of_mem hx
    have hd := nodup_of_le l (D.erase x) h2 sub (by omega)
    rw [(List.perm_cons_erase hx).nodup_iff, List.nodup_cons]
    refine ⟨fun hm => ?_, hd⟩
    have w := nodup_le (x :: l) (D.erase x) h fun y hy => by
      rcases List.mem_cons.mp hy with rfl | hy
      · exact hm
      · exact sub y hy
    rw [List.length_cons] at w
    omega
section
variable {X : Cx}
/-- len(set(x)), x a tuple of ints: how many there are of them, and all of them only if no two are the same -/
def tLenSetT (K : PySem.W.Frag) (ta : TE) : TE := fun σ H Q => ta σ H fun x H1 => ∃ (l : Addr) (ns : List Int), x = V.ref l ∧ SqT K H1 l (ns.map V.int) ∧ ns.length < 64 ∧ ∀ c : Nat, c ≤ ns.length → (c = ns.length ↔ ns.Nodup) → Q (.int c) H1
theorem pe_lenSetT {a : Expr} {ta : TE} {p p2 q pos : Pos} (hc : X.calm = true) (hg : Gl X "len") (hm : X.mg "len" = none) (hg2 : Gl X "set") (hm2 : X.mg "set" = none) (ha : PE X a ta)
    (na : starEach [a] X.env = (false, eval a X.env) :: starEach [] X.env := by rfl) : PE X (.Call (.Name "len" p) [.Call (.Name "set" p2) [a] [] q] [] pos) (tLenSetT X.K ta) := by
  refine ⟨fun pins s σ H Q I h => ?_⟩
  refine Call_ (ld_blt I hg hm PySem.boot_len ?_)
  refine PyProof.Rows.callWith_builtin1 (PyProof.Rows.args_cons ?_ rfl) rfl rfl
  refine Call_ (ld_blt I hg2 hm2 PyProof.Rows.boot_set ?_)
  refine PyProof.Rows.callWith_type1 (PyProof.Rows.args_cons (thn (ha.run pins s σ H _ I h) fun v s1 ⟨x, H1, I1, r1, q1⟩ => PyProof.Rows.args_nil ?_) na) na rfl
  obtain ⟨l, ns, rfl, hq, h1, q1⟩ := q1
  cases r1
  obtain ⟨its, r, pl, hz⟩ := I1.tuple hq
  have hi : IntsAre its.toArray.toList ns := ints_of_vals r
  refine call_set_tupI ns (I1.ok.hd hc) (show s1.heap.IsTuple l its.toArray from pl) hi (by unfold scanBound; omega) fun h' tk c hS hcn hk => ?_
  refine PyProof.Rows.args_nil ?_
  obtain ⟨o, es, ep, t, ho, hex, hd, g, nd, hm2, hb, hf, hn, hr, hl2⟩ := hS
  have I2 : Inv X pins σ H1 { s1 with heap := h', toks := tk } := I1.kept fun b o e => hk b o e
  have hmem : ∀ k, k ∈ es.toList.map keyOf ↔ k ∈ ns := fun k => by rw [← hm2 k, decide_eq_true_eq]
  have hlen : (es.toList.map keyOf).length = c := by rw [List.length_map, Array.length_toList, hn]
  have key : c = ns.length ↔ ns.Nodup := by
    constructor
    · intro e
      exact nodup_of_le _ _ nd (fun k hk => (hmem k).mp hk) (by rw [hlen, e]; exact Nat.le_refl _)
    · intro hn2
      have w := nodup_le _ _ hn2 fun k hk => (hmem k).mpr hk
      rw [hlen] at w
      omega
  refine call_len_set ho hex hd hf (by rw [hn] <;> omega) ⟨.int c, H1, I2.tok _, ⟨_, by rw [hn]⟩, q1 c hcn key⟩
/-- the same over a list -/
theorem firstMet_nd (val : Nat → Int) : ∀ i, (firstMet val i).Nodup
  | 0 => List.nodup_nil
  | i + 1 => by
    rw [firstMet_succ]
    unfold step_dedup
    split
    · exact firstMet_nd val i
    · rename_i h
      refine List.nodup_append.mpr ⟨firstMet_nd val i, List.nodup_cons.mpr ⟨List.not_mem_nil, List.nodup_nil⟩, fun a ha b hb e => h ?_⟩
      rw [List.mem_singleton] at hb
      exact List.any_eq_true.mpr ⟨a, ha, by rw [e, hb]; exact beq_self_eq_true _⟩
theorem firstMet_mem (ns : List Int) (k : Int) : k ∈ firstMet (fun i => ns.getD i 0) ns.length ↔ k ∈ ns := by
  have e := firstMet_any (fun i => ns.getD i 0) ns.length k
  have em : (List.range ns.length).map (fun i => ns.getD i 0) = ns := by
    refine List.ext_getElem (by rw [List.length_map, List.length_range]) fun j h1 h2 => ?_
    rw [List.getElem_map, List.getElem_range, List.getD_eq_getElem?_getD, List.getElem?_eq_getElem h2]
    rfl
  rw [em] at e
  have w : ∀ l : List Int, l.any (· == k) = true ↔ k ∈ l := fun l => by
    rw [List.any_eq_true]
    exact ⟨fun ⟨x, hx, ex⟩ => by rw [← beq_iff_eq.mp ex]; exact hx, fun hx => ⟨k, hx, beq_self_eq_true _⟩⟩
  rw [← w, ← w, e]
def tLenSetL (K : PySem.W.Frag) (ta : TE) : TE := fun σ H Q => ta σ H fun x H1 => ∃ (l : Addr) (ns : List Int), x = V.ref l ∧ SqL K H1 l (ns.map V.int) ∧ ns.length < 64 ∧ ∀ c : Nat, c ≤ ns.length → (c = ns.length ↔ ns.Nodup) → Q (.int c) H1
theorem pe_lenSetL {a : Expr} {ta : TE} {p p2 q pos : Pos} (hc : X.calm = true) (hg : Gl X "len") (hm : X.mg "len" = none) (hg2 : Gl X "set") (hm2 : X.mg "set" = none) (ha : PE X a ta)
    (na : starEach [a] X.env = (false, eval a X.env) :: starEach [] X.env := by rfl) : PE X (.Call (.Name "len" p) [.Call (.Name "set" p2) [a] [] q] [] pos) (tLenSetL X.K ta) := by
  refine ⟨fun pins s σ H Q I h => ?_⟩
  refine Call_ (ld_blt I hg hm PySem.boot_len ?_)
  refine PyProof.Rows.callWith_builtin1 (PyProof.Rows.args_cons ?_ rfl) rfl rfl
  refine Call_ (ld_blt I hg2 hm2 PyProof.Rows.boot_set ?_)
  refine PyProof.Rows.callWith_type1 (PyProof.Rows.args_cons (thn (ha.run pins s σ H _ I h) fun v s1 ⟨x, H1, I1, r1, q1⟩ => PyProof.Rows.args_nil ?_) na) na rfl
  obtain ⟨l, ns, rfl, hq, h1, q1⟩ := q1
  cases r1
  obtain ⟨its, r, pl, hz⟩ := I1.list hq
  have hl : its.toArray.size = ns.length := by rw [List.size_toArray, ← r.length, List.length_map]
  refine call_set_list (I1.ok.hd hc) pl.isList (ns := ns) (by simpa using r.ints) (by unfold scanBound; omega) fun h' tk hS hk => ?_
  rw [hl] at hS
  have nd := firstMet_nd (fun i => ns.getD i 0) ns.length
  have mm := firstMet_mem ns
  have hcn := firstMet_length_le (fun i => ns.getD i 0) ns.length
  generalize firstMet (fun i => ns.getD i 0) ns.length = L at hS nd mm hcn
  refine PyProof.Rows.args_nil ?_
  obtain ⟨o, es, ep, t, ho, hex, hd, _, _, _, hf, hn⟩ := hS
  have I2 : Inv X pins σ H1 { s1 with heap := h', toks := tk } := I1.kept fun b o e => hk b o (Heap.lt_size e) e
  have key : L.length = ns.length ↔ ns.Nodup := by
    constructor
    · intro e
      exact nodup_of_le _ _ nd (fun k hk => (mm k).mp hk) (by rw [e]; exact Nat.le_refl _)
    · intro hn2
      have w := nodup_le _ _ hn2 fun k hk => (mm k).mpr hk
      omega
  refine call_len_set ho hex hd hf (by rw [hn] <;> omega) ⟨.int L.length, H1, I2.tok _, ⟨_, by rw [hn]⟩, q1 _ hcn key⟩
/-- one of two readings -/
theorem pe_either {e : Expr} {t1 t2 : TE} (a : PE X e t1) (b : PE X e t2) : PE X e (fun σ H Q => t1 σ H Q ∨ t2 σ H Q) := ⟨fun pins s σ H Q I h => h.elim (a.run pins s σ H Q I) (b.run pins s σ H Q I)⟩
theorem pi_either {tg e : Expr} {t1 t2 : TI} (a : PI X tg e t1) (b : PI X tg e t2) : PI X tg e (fun σ H R => t1 σ H R ∨ t2 σ H R) := ⟨fun pins s σ H R I h => h.elim (a.run pins s σ H R I) (b.run pins s σ H R I)⟩
end
end K7E
end
/-! ## P5 -/
section
open PySem PySem.Spec PyProof.Rows L2
namespace K7
abbrev N_are_cells : List Str := ["many", "thing", "least", "cell"]
abbrev s_are_cells : Stmt := topS 11
theorem sc_are_cells : FnScope ["many", "thing", "least", "cell"] ["many", "thing", "least"] (defScope s_are_cells) := ⟨rfl, rfl, rfl, by decide +kernel, rfl, by decide +kernel, by decide +kernel⟩
section
variable {P : Program} {w : World} {K : PySem.W.Frag} {mg : Str → Option Value} {base : Heap}
def intOf : V → Int | .int i => i | _ => 0
/-- what are_cells says of a row -/
def cellsV (many : Int) (xs : List V) (least : Int) : Bool := decide (least ≤ (xs.length : Nat)) && xs.all (fun x => wholeV x 0 (many - 1)) && decide (xs.map intOf).Nodup
theorem whole_int {x : V} {lo hi : Int} (h : wholeV x lo hi = true) : x = .int (intOf x) := by
  unfold wholeV at h
  split at h
  · rfl
  · cases h
def spCells (K : PySem.W.Frag) : Sp := fun vs H Q _ => ∃ (many : Int) (x : V) (least : Int), vs = [.int many, x, .int least] ∧
  ((∃ t : String, (∀ H1, Same H H1 → TyX K H1 x (.type t)) ∧ PySem.W.kitAny K (.type t) [.type "list", .type "tuple"] = some false ∧ ∀ H1, Same H H1 → Q (.bl false) H1) ∨
   (∃ (a : Addr) (xs : List V), x = .ref a ∧ (H a = some (.tup xs) ∨ H a = some (.lst xs)) ∧ (∀ y ∈ xs, Thing H y) ∧ xs.length < 64 ∧ ∀ H1, Same H H1 → Q (.bl (cellsV many xs least)) H1))
theorem ok_cells {f fS fW : Addr} {fd fdS fdW : FuncData} (F : Fun K "are_cells" "are_cells" s_are_cells f fd)
    (Gsq : FnOk P w K mg base CX0 1 fS fdS ["thing"] (spSeq K)) (gsq : mg "is_sequence" = some (.ref fS)) (ksq : PySem.W.keepIn K (.ref fS) = true) (bsq : Binds K fdS ["thing"] [])
    (Giw : FnOk P w K mg base CX0 1 fW fdW ["thing", "low", "high"] spWhole) (giw : mg "is_whole" = some (.ref fW)) (kiw : PySem.W.keepIn K (.ref fW) = true) (biw : Binds K fdW ["thing", "low", "high"] [])
    (m_len : mg "len" = none) (m_set : mg "set" = none) (m_all : mg "all" = none) : FnOk P w K mg base CX0 2 f fd ["many", "thing", "least"] (spCells K) := by
  refine F.ok sc_are_cells (fun vs H Q E h => ?_) (fun cdv A outer s H vs Q E hr h => ?_)
  · obtain ⟨m, x, l, rfl, _⟩ := h
    rfl
  · obtain ⟨m, x, l, rfl, h⟩ := h
    refine ⟨_, (pss_cons (ps_if (pw_or (pt_not (pt_val (pe_call Gsq (hr.mono (by decide)) (by rfl) gsq ksq bsq .nil pass0 (pa_cons (pv 1) pa_nil)))) (pw_or1 (pt_cmpR op_lt (pe_callB call_len_seq (by rfl) m_len boot_len (pa_cons (pv 1) pa_nil)) (pv 2) (nomark _)))).pt
  (pss_one (ps_ret pe_bl))
  pss_nil)
 (pss_cons (ps_if (pt_not (pt_val (pe_callB (cr_all rfl) (by rfl) m_all boot_all (pa_cons (pe_lc (own := [("cell", 3)]) (g := gName 3) (tt := tYes) rfl sc_are_cells.nd (K7E.pi_either (pi_tup (pv 1)) (pi_list (pv 1))) (blkOk_by (own := [("cell", 3)]) (N := N_are_cells) (sc := defScope s_are_cells) (by decide +kernel)) (fun _ _ _ _ _ => (pg_name (i := 3) sc_are_cells.nd rfl (by first | exact Or.inl rfl | exact Or.inr rfl))) (fun _ _ _ _ _ => pts_nil) (fun _ _ _ _ _ => (pe_call Giw (hr.mono (by decide)) (by rfl) giw kiw biw .nil pass0 (pa_cons (pv 3) (pa_cons pe_int (pa_cons (pe_op op_sub (pv 0) pe_int) pa_nil)))))) pa_nil))))
  (pss_one (ps_ret pe_bl))
  pss_nil)
 (pss_one (ps_ret (pe_cmpR op_eq (K7E.pe_either (K7E.pe_lenSetT rfl (by rfl) m_len (by rfl) m_set (pv 1)) (K7E.pe_lenSetL rfl (by rfl) m_len (by rfl) m_set (pv 1))) (pe_callB call_len_seq (by rfl) m_len boot_len (pa_cons (pv 1) pa_nil)) (nomark _)))))), ?_⟩
    rcases h with ⟨t, ty, k, q⟩ | ⟨a, xs, rfl, ha, th, h64, q⟩
    · refine ⟨_, rfl, x, t, false, rfl, ty, k, fun H1 e1 => ?_⟩
      exact ⟨_, rfl, q H1 e1⟩
    · have sq : ∀ H1, Same H H1 → (SqL K H1 a xs ∨ SqT K H1 a xs) := fun H1 e1 => ha.elim (fun z => .inr (.inl (.inl (e1 _ _ z)))) (fun z => .inl (.inl (.inl (e1 _ _ z))))
      have ex : ∃ t : String, (∀ H1, Same H H1 → TyX K H1 (.ref a) (.type t)) ∧ PySem.W.kitAny K (.type t) [.type "list", .type "tuple"] = some true := by
        rcases ha with z | z
        · exact ⟨"tuple", fun H1 e1 => .base (.tup (e1 _ _ z)), any_tup⟩
        · exact ⟨"list", fun H1 e1 => .base (.lst (e1 _ _ z)), any_lst⟩
      obtain ⟨t, ty, kk⟩ := ex
      refine ⟨_, rfl, _, t, true, rfl, ty, kk, fun H1 e1 => ⟨_, rfl, ?_⟩⟩
      refine ⟨_, rfl, a, xs, rfl, sq H1 e1, _, rfl, _, _, rfl, rfl, _, rfl, ite2 (fun c1 => ?_) (fun c1 => ?_)⟩
      · have c1' : ((xs.length : Nat) : Int) < l := of_decide_eq_true c1
        have z := q H1 e1
        have e0 : cellsV m xs l = false := by
          unfold cellsV
          rw [decide_eq_false (show ¬ l ≤ ((xs.length : Nat) : Int) by omega), Bool.false_and, Bool.false_and]
        rw [e0] at z
        exact z
      · have c1' : ¬ ((xs.length : Nat) : Int) < l := fun z => c1 (decide_eq_true z)
        have c2 : decide (l ≤ ((xs.length : Nat) : Int)) = true := decide_eq_true (by omega)
        rcases ha with z | z
        · refine .inl ⟨_, rfl, a, rfl, ⟨xs, .inl (.inl (e1 _ _ z))⟩, fun D hD => lc_tup (xs := xs) (fun j H2 => Same H1 H2 ∧ H2 D = some (.lst (((xs.take j).map fun x => wholeV x 0 (m - 1)).map V.bl))) ⟨same_new (Same.refl H1) hD, upd_same⟩ (fun j H2 _ pv => .inl (.inl (pv.1 _ _ (e1 _ _ z)))) (fun j x H2 hx pv => ?_) (fun H2 pv => ?_)⟩
          · obtain ⟨e2, hD2⟩ := pv
            have hm := th x (List.mem_of_getElem? hx)
            have hj : j < xs.length := (List.getElem?_eq_some_iff.mp hx).1
            refine ⟨rfl, _, rfl, _, rfl, _, _, rfl, rfl, x, 0, m - 1, rfl, hm.same (e1.trans e2), _, hD2, by rw [List.length_map, List.length_map, List.length_take]; exact small1000 (by omega), fun b o hb => ?_, ?_⟩
            · rw [upd_ne (ne_of_none hb hD)]
              exact e2 _ _ hb
            · rw [upd_same, List.take_add_one, hx, List.map_append, List.map_append]
              rfl
          · obtain ⟨e2, hD2⟩ := pv
            rw [List.take_length] at hD2
            refine ⟨D, xs.map fun x => wholeV x 0 (m - 1), rfl, .inl (.inl hD2), _, rfl, ?_⟩
            have call_ : (xs.map fun x => wholeV x 0 (m - 1)).all id = xs.all fun x => wholeV x 0 (m - 1) := by rw [List.all_map]; rfl
            refine ite2 (fun c3 => ?_) (fun c3 => ?_)
            rotate_left
            · have w : xs.all (fun x => wholeV x 0 (m - 1)) = true := by
                rw [← call_]
                cases hq : (xs.map fun x => wholeV x 0 (m - 1)).all id with
                | true => rfl
                | false => exact absurd (by rw [hq]; rfl) c3
              have exs : xs = (xs.map intOf).map V.int := by
                rw [List.map_map]
                refine (List.map_id xs).symm.trans (List.map_congr_left fun y hy => ?_)
                exact whole_int (List.all_eq_true.mp w y hy)
              refine Or.inl ⟨_, rfl, a, xs.map intOf, rfl, by rw [← exs]; exact .inl (.inl (e2 _ _ (e1 _ _ z))), by rw [List.length_map]; exact h64, fun c hc1 hc2 => ?_⟩
              refine ⟨_, rfl, a, xs, rfl, sq H2 (e1.trans e2), rfl, ?_⟩
              have zz := q H2 (e1.trans e2)
              unfold cellsV at zz
              rw [c2, w, Bool.true_and, Bool.true_and] at zz
              rw [List.length_map] at hc2
              have ee : decide (V.int (c : Nat) = V.int (xs.length : Nat)) = decide (xs.map intOf).Nodup := by
                refine decide_eq_decide.mpr ⟨fun e => hc2.mp ?_, fun e => by rw [hc2.mpr e]⟩
                injection e with e
                omega
              rw [← ee] at zz
              exact zz
            · have w : xs.all (fun x => wholeV x 0 (m - 1)) = false := by
                rw [← call_]
                cases hq : (xs.map fun x => wholeV x 0 (m - 1)).all id with
                | false => rfl
                | true => rw [hq] at c3; cases c3
              have zz := q H2 (e1.trans e2)
              unfold cellsV at zz
              rw [w, Bool.and_false, Bool.false_and] at zz
              exact zz
        · refine .inr ⟨_, rfl, a, rfl, ⟨xs, .inl (.inl (e1 _ _ z))⟩, fun D hD => lc_list (xs := xs) (fun j H2 => Same H1 H2 ∧ H2 D = some (.lst (((xs.take j).map fun x => wholeV x 0 (m - 1)).map V.bl))) ⟨same_new (Same.refl H1) hD, upd_same⟩ (fun j H2 _ pv => .inl (.inl (pv.1 _ _ (e1 _ _ z)))) (fun j x H2 hx pv => ?_) (fun H2 pv => ?_)⟩
          · obtain ⟨e2, hD2⟩ := pv
            have hm := th x (List.mem_of_getElem? hx)
            have hj : j < xs.length := (List.getElem?_eq_some_iff.mp hx).1
            refine ⟨rfl, _, rfl, _, rfl, _, _, rfl, rfl, x, 0, m - 1, rfl, hm.same (e1.trans e2), _, hD2, by rw [List.length_map, List.length_map, List.length_take]; exact small1000 (by omega), fun b o hb => ?_, ?_⟩
            · rw [upd_ne (ne_of_none hb hD)]
              exact e2 _ _ hb
            · rw [upd_same, List.take_add_one, hx, List.map_append, List.map_append]
              rfl
          · obtain ⟨e2, hD2⟩ := pv
            rw [List.take_length] at hD2
            refine ⟨D, xs.map fun x => wholeV x 0 (m - 1), rfl, .inl (.inl hD2), _, rfl, ?_⟩
            have call_ : (xs.map fun x => wholeV x 0 (m - 1)).all id = xs.all fun x => wholeV x 0 (m - 1) := by rw [List.all_map]; rfl
            refine ite2 (fun c3 => ?_) (fun c3 => ?_)
            rotate_left
            · have w : xs.all (fun x => wholeV x 0 (m - 1)) = true := by
                rw [← call_]
                cases hq : (xs.map fun x => wholeV x 0 (m - 1)).all id with
                | true => rfl
                | false => exact absurd (by rw [hq]; rfl) c3
              have exs : xs = (xs.map intOf).map V.int := by
                rw [List.map_map]
                refine (List.map_id xs).symm.trans (List.map_congr_left fun y hy => ?_)
                exact whole_int (List.all_eq_true.mp w y hy)
              refine Or.inr ⟨_, rfl, a, xs.map intOf, rfl, by rw [← exs]; exact .inl (.inl (e2 _ _ (e1 _ _ z))), by rw [List.length_map]; exact h64, fun c hc1 hc2 => ?_⟩
              refine ⟨_, rfl, a, xs, rfl, sq H2 (e1.trans e2), rfl, ?_⟩
              have zz := q H2 (e1.trans e2)
              unfold cellsV at zz
              rw [c2, w, Bool.true_and, Bool.true_and] at zz
              rw [List.length_map] at hc2
              have ee : decide (V.int (c : Nat) = V.int (xs.length : Nat)) = decide (xs.map intOf).Nodup := by
                refine decide_eq_decide.mpr ⟨fun e => hc2.mp ?_, fun e => by rw [hc2.mpr e]⟩
                injection e with e
                omega
              rw [← ee] at zz
              exact zz
            · have w : xs.all (fun x => wholeV x 0 (m - 1)) = false := by
                rw [← call_]
                cases hq : (xs.map fun x => wholeV x 0 (m - 1)).all id with
                | false => rfl
                | true => rw [hq] at c3; cases c3
              have zz := q H2 (e1.trans e2)
              unfold cellsV at zz
              rw [w, Bool.and_false, Bool.false_and] at zz
              exact zz
end
end K7
end
/-! ## P6 -/
section
open PySem PySem.Spec PyProof.Rows L2
namespace K7
abbrev N_are_two_cells : List Str := ["many", "thing"]
abbrev s_are_two_cells : Stmt := topS 12
theorem sc_are_two_cells : FnScope ["many", "thing"] ["many", "thing"] (defScope s_are_two_cells) := ⟨rfl, rfl, rfl, by decide +kernel, rfl, by decide +kernel, by decide +kernel⟩
section
variable {P : Program} {w : World} {K : PySem.W.Frag} {mg : Str → Option Value} {base : Heap}
/-- what are_two_cells says of a row -/
def twoV (many : Int) (xs : List V) : Bool := cellsV many xs 2 && decide (xs.length = 2)
def spTwo (K : PySem.W.Frag) : Sp := fun vs H Q _ => ∃ (many : Int) (x : V), vs = [.int many, x] ∧
  ((∃ t : String, (∀ H1, Same H H1 → TyX K H1 x (.type t)) ∧ PySem.W.kitAny K (.type t) [.type "list", .type "tuple"] = some false ∧ ∀ H1, Same H H1 → Q (.bl false) H1) ∨
   (∃ (a : Addr) (xs : List V), x = .ref a ∧ (H a = some (.tup xs) ∨ H a = some (.lst xs)) ∧ (∀ y ∈ xs, Thing H y) ∧ xs.length < 64 ∧ ∀ H1, Same H H1 → Q (.bl (twoV many xs)) H1))
theorem ok_two {f fC : Addr} {fd fdC : FuncData} (F : Fun K "are_two_cells" "are_two_cells" s_are_two_cells f fd)
    (Gac : FnOk P w K mg base CX0 2 fC fdC ["many", "thing", "least"] (spCells K)) (gac : mg "are_cells" = some (.ref fC)) (kac : PySem.W.keepIn K (.ref fC) = true) (bac : Binds K fdC ["many", "thing", "least"] [])
    (m_len : mg "len" = none) : FnOk P w K mg base CX0 3 f fd ["many", "thing"] (spTwo K) := by
  refine F.ok sc_are_two_cells (fun vs H Q E h => ?_) (fun cdv A outer s H vs Q E hr h => ?_)
  · obtain ⟨m, x, rfl, _⟩ := h
    rfl
  · obtain ⟨m, x, rfl, h⟩ := h
    refine ⟨_, (pss_one (ps_ret (pe_and (pe_call Gac (hr.mono (by decide)) (by rfl) gac kac bac .nil pass0 (pa_cons (pv 0) (pa_cons (pv 1) (pa_cons pe_int pa_nil)))) (pe_one (pe_cmpR op_eq (pe_callB call_len_seq (by rfl) m_len boot_len (pa_cons (pv 1) pa_nil)) pe_int (nomark _)))))), ?_⟩
    refine ⟨_, rfl, _, rfl, m, x, 2, rfl, ?_⟩
    rcases h with ⟨t, ty, k, q⟩ | ⟨a, xs, rfl, ha, th, h64, q⟩
    · exact .inl ⟨t, ty, k, fun H1 e1 => ⟨false, rfl, q H1 e1⟩⟩
    · refine .inr ⟨a, xs, rfl, ha, th, h64, fun H1 e1 => ⟨_, rfl, ite2 (fun c1 => ?_) (fun c1 => ?_)⟩⟩
      · refine ⟨_, rfl, a, xs, rfl, ha.elim (fun z => .inr (.inl (.inl (e1 _ _ z)))) (fun z => .inl (.inl (.inl (e1 _ _ z)))), rfl, ?_⟩
        have zz := q H1 e1
        unfold twoV at zz
        rw [c1, Bool.true_and] at zz
        have ee : decide (V.int (xs.length : Nat) = V.int 2) = decide (xs.length = 2) := by
          refine decide_eq_decide.mpr ⟨fun e => ?_, fun e => by rw [e]; rfl⟩
          injection e with e
          omega
        rw [← ee] at zz
        exact zz
      · have zz := q H1 e1
        unfold twoV at zz
        rw [Bool.eq_false_iff.mpr c1, Bool.false_and] at zz
        exact zz
end
end K7
end
/-! ## KM -/
section
/-! ## more pure facts: couples put in order -/
namespace KL
def srt (c : Nat × Nat) : Nat × Nat := (min c.1 c.2, max c.1 c.2)
theorem srt_le (c : Nat × Nat) : (srt c).1 ≤ (srt c).2 := by unfold srt; simp only; omega
theorem srt_lt {c : Nat × Nat} (h : c.1 ≠ c.2) : (srt c).1 < (srt c).2 := by unfold srt; simp only; omega
theorem srt_of {c : Nat × Nat} (h : c.1 < c.2) : srt c = c := by
  obtain ⟨a, b⟩ := c
  unfold srt
  simp only at h ⊢
  rw [Nat.min_eq_left (by omega), Nat.max_eq_right (by omega)]
/-- two numbers put in order -/
theorem two_sorted {ms : List Int} {x y : Nat} (p : ms.Perm [(x : Int), (y : Int)]) (s : ms.Pairwise (· ≤ ·)) : ms = [((min x y : Nat) : Int), ((max x y : Nat) : Int)] := by
  have hl := p.length_eq
  match ms, hl with
  | [u, v], _ =>
    have huv : u ≤ v := (List.pairwise_cons.mp s).1 v (List.mem_singleton.mpr rfl)
    have hu : u ∈ [(x : Int), (y : Int)] := p.mem_iff.mp List.mem_cons_self
    rcases List.mem_cons.mp hu with e | e
    · subst e
      have := (List.Perm.cons_inv p).eq_singleton
      injection this with e
      subst e
      have hxy : x ≤ y := by omega
      rw [Nat.min_eq_left hxy, Nat.max_eq_right hxy]
    · rw [List.mem_singleton] at e
      subst e
      have p2 : [(y : Int), v].Perm [(y : Int), (x : Int)] := p.trans (List.Perm.swap ..)
      have := (List.Perm.cons_inv p2).eq_singleton
      injection this with e
      subst e
      have hxy : y ≤ x := by omega
      rw [Nat.min_eq_right hxy, Nat.max_eq_left hxy]
def lexLe (a b : Nat × Nat) : Prop := a.1 < b.1 ∨ (a.1 = b.1 ∧ a.2 ≤ b.2)
/-- a sorted list is told by its items -/
theorem uniq {α : Type} {le : α → α → Prop} (anti : ∀ a b, le a b → le b a → a = b) : ∀ {l m : List α}, l.Perm m → l.Pairwise le → m.Pairwise le → l = m
  | [], m, p, _, _ => p.symm.eq_nil.symm
  | x :: l, [], p, _, _ => absurd p.length_eq (by simp)
  | x :: l, y :: m, p, hl, hm => by
    have e : x = y := by
      rcases List.mem_cons.mp (p.mem_iff.mp (List.mem_cons_self (a := x) (l := l))) with e | hx
      · exact e
      · rcases List.mem_cons.mp (p.mem_iff.mpr (List.mem_cons_self (a := y) (l := m))) with e | hy
        · exact e.symm
        · exact anti _ _ ((List.pairwise_cons.mp hl).1 y hy) ((List.pairwise_cons.mp hm).1 x hx)
    subst e
    rw [uniq anti p.cons_inv (List.pairwise_cons.mp hl).2 (List.pairwise_cons.mp hm).2]
theorem lex_anti (a b : Nat × Nat) (h1 : lexLe a b) (h2 : lexLe b a) : a = b := by
  unfold lexLe at h1 h2
  exact Prod.ext (by omega) (by omega)
theorem int_anti (a b : Int) (h1 : a ≤ b) (h2 : b ≤ a) : a = b := by omega
/-- all couples of n cells -/
def allC (n : Nat) : List (Nat × Nat) := (List.range n).flatMap fun a => ((List.range n).filter fun b => decide (a ≠ b)).map fun b => (a, b)
/-- couples taken either way round hang together as the ordered ones do -/
theorem conn_srt {n : Nat} {cs es : List (Nat × Nat)} (h : Conn n cs) (hp : es.Perm (cs.map srt)) : Conn n es := by
  intro S h0 he
  refine h S h0 fun c hc => ?_
  have z := he (srt c) (hp.mem_iff.mpr (List.mem_map.mpr ⟨c, hc, rfl⟩))
  unfold srt at z
  simp only at z
  rcases Nat.le_total c.1 c.2 with q | q
  · rw [Nat.min_eq_left q, Nat.max_eq_right q] at z
    exact z
  · rw [Nat.min_eq_right q, Nat.max_eq_left q] at z
    exact z.symm
/-- what is reached from c over passing cells -/
inductive Rch (E : Nat → Nat → Prop) (ps : List Nat) (c : Nat) : Nat → Prop
  | base : Rch E ps c c
  | step {a b : Nat} (h : Rch E ps c a) (e : E a b) (p : b ∈ ps) : Rch E ps c b
theorem Rch.mono {E E' : Nat → Nat → Prop} {ps ps' : List Nat} {c x : Nat} (h : Rch E ps c x) (he : ∀ a b, E a b → E' a b) (hp : ∀ b ∈ ps, b ∈ ps') : Rch E' ps' c x := by
  induction h with
  | base => exact .base
  | step _ e p ih => exact .step ih (he _ _ e) (hp _ p)
/-- a closed list that holds c holds what is reached -/
theorem Rch.mem {E : Nat → Nat → Prop} {ps : List Nat} {c x : Nat} {fd : List Nat} (h : Rch E ps c x) (h0 : c ∈ fd) (hc : ∀ a b, a ∈ fd → E a b → b ∈ ps → b ∈ fd) : x ∈ fd := by
  induction h with
  | base => exact h0
  | step _ e p ih => exact hc _ _ ih e p
end KL
end
/-! ## P7 -/
section
open PySem PySem.Spec PyProof.Rows L2
namespace K7
abbrev N_spread : List Str := ["nearby", "cell", "passing", "found", "done", "here", "b"]
abbrev s_spread : Stmt := topS 15
theorem sc_spread : FnScope ["nearby", "cell", "passing", "found", "done", "here", "b"] ["nearby", "cell", "passing"] (defScope s_spread) := ⟨rfl, rfl, rfl, by decide +kernel, rfl, by decide +kernel, by decide +kernel⟩
theorem flat_ints : ∀ l : List Nat, (ints_ l).all flatV = true
  | [] => rfl
  | _ :: l => flat_ints l
theorem inV_ints (c : Nat) : ∀ l : List Nat, inV (.int (c : Nat)) (ints_ l) = decide (c ∈ l)
  | [] => rfl
  | y :: l => by
    show (eqV (.int (y : Nat)) (.int (c : Nat)) || inV (.int (c : Nat)) (ints_ l)) = _
    rw [inV_ints c l]
    have e : eqV (.int (y : Nat)) (.int (c : Nat)) = decide (c = y) := by
      show decide ((y : Int) = (c : Int)) = _
      exact decide_eq_decide.mpr (by omega)
    rw [e, ← Bool.decide_or]
    exact decide_eq_decide.mpr List.mem_cons.symm
section
variable {P : Program} {w : World} {K : PySem.W.Frag} {mg : Str → Option Value} {base : Heap}
def SqOf (H : Hp) (a : Addr) (xs : List V) : Prop := H a = some (.tup xs) ∨ H a = some (.lst xs)
theorem SqOf.same {H H' : Hp} {a : Addr} {xs : List V} (h : SqOf H a xs) (e : Same H H') : SqOf H' a xs := h.imp (e _ _) (e _ _)
theorem SqOf.sq {H : Hp} {a : Addr} {xs : List V} (h : SqOf H a xs) : SqL K H a xs ∨ SqT K H a xs := h.elim (fun z => .inr (.inl (.inl z))) fun z => .inl (.inl (.inl z))
def nbE (Nb : List (List Nat)) (a b : Nat) : Prop := ∃ l, Nb[a]? = some l ∧ b ∈ l
def SpInv (H : Hp) (nb pa F0 : Addr) (Nb : List (List Nat)) (ps : List Nat) (c m : Nat) (σ' : L2.St) (H' : Hp) : Prop := ∃ (fd : List Nat) (d : Nat) (y5 y6 : Option V), σ' = [some (.ref nb), some (.int (c : Nat)), some (.ref pa), some (.ref F0), some (.int (d : Nat)), y5, y6] ∧ But F0 H H' ∧ H' F0 = some (.lst (ints_ fd)) ∧ fd.Nodup ∧ c ∈ fd ∧ (∀ x ∈ fd, x < Nb.length) ∧ d ≤ fd.length ∧
      (∀ i a, i < d → fd[i]? = some a → ∀ l, Nb[a]? = some l → ∀ b ∈ l, b ∈ ps → b ∈ fd) ∧ m + d = Nb.length ∧ ∀ x ∈ fd, KL.Rch (nbE Nb) ps c x
/-- what spread finds: the cell, and all that is near to what is found -/
structure Found (Nb : List (List Nat)) (ps : List Nat) (c : Nat) (fd : List Nat) : Prop where
  nd : fd.Nodup
  me : c ∈ fd
  lt : ∀ x ∈ fd, x < Nb.length
  cl : ∀ a ∈ fd, ∀ l, Nb[a]? = some l → ∀ b ∈ l, b ∈ ps → b ∈ fd
  so : ∀ x ∈ fd, KL.Rch (nbE Nb) ps c x
def spSpread : Sp := fun vs H Q _ => ∃ (nb : Addr) (ts : List Addr) (Nb : List (List Nat)) (c : Nat) (pa : Addr) (ps : List Nat), vs = [.ref nb, .int c, .ref pa] ∧ H nb = some (.tup (ts.map V.ref)) ∧ TAt H ts Nb ∧ SqOf H pa (ints_ ps) ∧
  Nb.length ≤ 5 ∧ c < Nb.length ∧ (∀ l ∈ Nb, ∀ x ∈ l, x < Nb.length) ∧ ∀ H' q fd, Same H H' → H q = none → H' q = some (.lst (ints_ fd)) → Found Nb ps c fd → Q (.ref q) H'
theorem ok_spread {f : Addr} {fd : FuncData} (F : Fun K "spread" "spread" s_spread f fd) (m_len : mg "len" = none) : FnOk P w K mg base CX0 1 f fd ["nearby", "cell", "passing"] spSpread := by
  refine F.ok sc_spread (fun vs H Q E h => ?_) (fun cdv A outer s H vs Q E hr h => ?_)
  · obtain ⟨nb, ts, Nb, c, pa, ps, rfl, _⟩ := h
    rfl
  · obtain ⟨nb, ts, Nb, c, pa, ps, rfl, hnb, tN, hpa, h5, hc, hlt, q⟩ := h
    refine ⟨_, (pss_cons (ps_set (i := 3) sc_spread.nd rfl (by first | exact Or.inl rfl | exact Or.inr rfl) (pe_lst (pa_cons (pv 1) pa_nil)))
 (pss_cons (ps_set (i := 4) sc_spread.nd rfl (by first | exact Or.inl rfl | exact Or.inr rfl) pe_int)
 (pss_cons (ps_while PassesOwn.never (pt_cmpR op_lt (pv 4) (pe_callB call_len_seq (by rfl) m_len boot_len (pa_cons (pv 3) pa_nil)) (nomark _))
  (pss_cons (ps_set (i := 5) sc_spread.nd rfl (by first | exact Or.inl rfl | exact Or.inr rfl) (pe_ix ix_list (pv 3) (pv 4) (fun _ _ => rfl)))
 (pss_cons (ps_for PassesOwn.never rfl (pi_tup (pe_ix ix_tup (pv 0) (pv 5) (fun _ _ => rfl))) (pg_name (i := 6) sc_spread.nd rfl (by first | exact Or.inl rfl | exact Or.inr rfl))
  (pss_one (ps_if (pw_and (pt_cmpR op_in_seq (pv 6) (pv 2) (by with_unfolding_all rfl)) (pw_and1 (pt_cmpR op_notIn_seq (pv 6) (pv 3) (by with_unfolding_all rfl)))).pt
  (pss_one (ps_expr (pe_bm PySem.F.plainAttrs_list PySem.F.slot_list_append PySem.F.type_list_append mt_append (pv 3) (pa_cons (pv 6) pa_nil))))
  pss_nil)))
 (pss_one (ps_aug (i := 4) sc_spread.nd rfl (by first | exact Or.inl rfl | exact Or.inr rfl) pe_int ip_add)))))
 (pss_one (ps_ret (pv 3)))))), ?_⟩
    refine ⟨_, rfl, by show 1 ≤ sizeLine; decide, fun F0 nF => ?_⟩
    refine ⟨SpInv H nb pa F0 Nb ps c, ⟨Nb.length, [c], 0, none, none, rfl, ?_, upd_same, ?_, List.mem_singleton.mpr rfl, ?_, Nat.zero_le _, ?_, rfl, fun x hx => by rw [List.mem_singleton.mp hx]; exact .base⟩, fun m σ' H' wv => ?_⟩
    · exact fun b o hb e => by rw [upd_ne hb]; exact e
    · exact List.nodup_cons.mpr ⟨List.not_mem_nil, List.nodup_nil⟩
    · intro x hx
      rw [List.mem_singleton] at hx
      rw [hx]
      exact hc
    · exact fun i a hi => absurd hi (Nat.not_lt_zero _)
    · obtain ⟨fd, d, y5, y6, rfl, bt, hF, nd, hcm, lt, hd, cl, hm, so⟩ := wv
      have h1 : fd.length ≤ Nb.length := by
        have z := K7E.nodup_le fd (List.range Nb.length) nd fun x hx => List.mem_range.mpr (lt x hx)
        rw [List.length_range] at z
        exact z
      refine ⟨_, rfl, _, rfl, F0, _, rfl, .inl (.inl (.inl hF)), _, _, rfl, rfl, _, rfl, ite2 (fun c1 => ?_) (fun c1 => ?_)⟩
      · have c1' : d < fd.length := by
          have z : ((d : Nat) : Int) < (((ints_ fd).length : Nat) : Int) := of_decide_eq_true c1
          rw [show (ints_ fd).length = fd.length from List.length_map ..] at z
          omega
        refine ⟨SpInv H nb pa F0 Nb ps c (m - 1), fun σ2 H2 z => ⟨m - 1, by omega, z⟩, ?_⟩
        obtain ⟨a, ea⟩ : ∃ a, fd[d]? = some a := ⟨_, List.getElem?_eq_getElem c1'⟩
        have ma := List.mem_of_getElem? ea
        have la := lt a ma
        obtain ⟨l, el⟩ : ∃ l, Nb[a]? = some l := ⟨_, List.getElem?_eq_getElem la⟩
        have ltsl : a < ts.length := by rw [tN.len]; exact la
        obtain ⟨t, et⟩ : ∃ t, ts[a]? = some t := ⟨_, List.getElem?_eq_getElem ltsl⟩
        obtain ⟨l', el', ht⟩ := tN.get et
        have : l' = l := by rw [el] at el'; injection el' with e; exact e.symm
        subst this
        have sm : Same H H' := fun b o hb => bt b o (ne_of_none hb nF) hb
        refine ⟨_, rfl, _, rfl, F0, _, _, .int (a : Nat), rfl, rfl, .inl (.inl hF), atI_nat (by unfold ints_; rw [List.getElem?_map, ea]; rfl), ?_⟩
        refine ⟨_, rfl, _, rfl, nb, _, _, .ref t, rfl, rfl, .inl (.inl (sm _ _ hnb)), atI_nat (by rw [List.getElem?_map, et]; rfl), t, rfl, ⟨_, .inl (.inl (sm _ _ ht))⟩, for_tup (xs := ints_ l') (fun j σ2 H2 => ∃ (fd2 r : List Nat) (y6 : Option V), σ2 = [some (.ref nb), some (.int (c : Nat)), some (.ref pa), some (.ref F0), some (.int (d : Nat)), some (.int (a : Nat)), y6] ∧ But F0 H H2 ∧ H2 F0 = some (.lst (ints_ fd2)) ∧ fd2.Nodup ∧ fd2 = fd ++ r ∧ (∀ x ∈ fd2, x < Nb.length) ∧ (∀ b ∈ l'.take j, b ∈ ps → b ∈ fd2) ∧ ∀ x ∈ fd2, KL.Rch (nbE Nb) ps c x)
          ⟨fd, [], y6, rfl, bt, hF, nd, (List.append_nil _).symm, lt, fun b hb => (by cases hb), so⟩ (fun j σ2 H2 _ pv => ?_) (fun j x σ2 H2 hx pv => ?_) (fun σ2 H2 pv => ?_)⟩
        · obtain ⟨fd2, r, y6, _, bt2, _⟩ := pv
          exact .inl (.inl (bt2 t _ (ne_of_none ht nF) ht))
        · obtain ⟨fd2, r, y6, rfl, bt2, hF2, nd2, rfl, lt2, cl2, so2⟩ := pv
          have sm2 : Same H H2 := fun b o hb => bt2 b o (ne_of_none hb nF) hb
          unfold ints_ at hx
          rw [List.getElem?_map] at hx
          obtain ⟨b, eb, rfl⟩ := Option.map_eq_some_iff.mp hx
          have hbl := hlt l' (List.mem_of_getElem? el) b (List.mem_of_getElem? eb)
          have tk : l'.take (j + 1) = l'.take j ++ [b] := by rw [List.take_add_one, eb]; rfl
          refine ⟨_, rfl, _, rfl, pa, _, rfl, (hpa.same sm2).sq, rfl, flat_ints ps, _, rfl, ite2 (fun q1 => ?_) (fun q1 => ?_)⟩
          · have q1' : b ∈ ps := of_decide_eq_true ((inV_ints b ps).symm.trans q1)
            refine ⟨_, rfl, _, rfl, F0, _, rfl, .inl (.inl (.inl hF2)), rfl, flat_ints _, _, rfl, ite2 (fun q2 => ?_) (fun q2 => ?_)⟩
            · have q2' : b ∉ fd ++ r := by
                intro hb2
                have z : (!inV (.int (b : Nat)) (ints_ (fd ++ r))) = true := q2
                rw [inV_ints, decide_eq_true hb2] at z
                cases z
              have hl2 : (fd ++ r).length ≤ 5 := by
                have z := K7E.nodup_le (fd ++ r) (List.range Nb.length) nd2 fun x hx => List.mem_range.mpr (lt2 x hx)
                rw [List.length_range] at z
                omega
              refine ⟨_, rfl, .inl ⟨rfl, _, .inl (.inl hF2)⟩, _, rfl, F0, _, _, rfl, rfl, hF2, by unfold ints_; rw [List.length_map]; exact small1000 (by omega), ?_⟩
              refine ⟨(fd ++ r) ++ [b], r ++ [b], some (.int (b : Nat)), rfl, fun b' o hb' e => by rw [upd_ne hb']; exact bt2 b' o hb' e, by rw [upd_same]; exact congrArg (fun z => some (HO.lst z)) (List.map_append (f := fun c : Nat => V.int (c : Nat)) (l₁ := fd ++ r) (l₂ := [b])).symm, ?_, List.append_assoc .., fun x hx => ?_, fun x hx hp => ?_, fun x hx => ?_⟩
              · exact List.nodup_append.mpr ⟨nd2, List.nodup_cons.mpr ⟨List.not_mem_nil, List.nodup_nil⟩, fun a' ha' b' hb' e => by rw [List.mem_singleton] at hb'; exact q2' (by rw [← hb', ← e]; exact ha')⟩
              · rcases List.mem_append.mp hx with hx | hx
                · exact lt2 x hx
                · rw [List.mem_singleton] at hx
                  rw [hx]
                  exact hbl
              · rw [tk] at hx
                rcases List.mem_append.mp hx with hx | hx
                · exact List.mem_append_left _ (cl2 x hx hp)
                · exact List.mem_append_right _ hx
              · rcases List.mem_append.mp hx with hx | hx
                · exact so2 x hx
                · rw [List.mem_singleton.mp hx]
                  exact .step (so a ma) ⟨_, el, List.mem_of_getElem? eb⟩ q1'
            · have q2' : b ∈ fd ++ r := by
                refine Classical.byContradiction fun hn => q2 ?_
                show (!inV (.int (b : Nat)) (ints_ (fd ++ r))) = true
                rw [inV_ints, decide_eq_false hn]
                rfl
              refine ⟨fd ++ r, r, some (.int (b : Nat)), rfl, bt2, hF2, nd2, rfl, lt2, fun x hx hp => ?_, so2⟩
              rw [tk] at hx
              rcases List.mem_append.mp hx with hx | hx
              · exact cl2 x hx hp
              · rw [List.mem_singleton] at hx
                rw [hx]
                exact q2'
          · have q1' : b ∉ ps := fun hb => q1 ((inV_ints b ps).trans (decide_eq_true hb))
            refine iteF ?_
            refine ⟨fd ++ r, r, some (.int (b : Nat)), rfl, bt2, hF2, nd2, rfl, lt2, fun x hx hp => ?_, so2⟩
            rw [tk] at hx
            rcases List.mem_append.mp hx with hx | hx
            · exact cl2 x hx hp
            · rw [List.mem_singleton] at hx
              rw [hx] at hp
              exact absurd hp q1'
        · obtain ⟨fd2, r, y6, rfl, bt2, hF2, nd2, rfl, lt2, cl2, so2⟩ := pv
          rw [show (ints_ l').length = l'.length from List.length_map .., List.take_length] at cl2
          refine ⟨_, rfl, _, _, rfl, rfl, ?_⟩
          refine ⟨fd ++ r, d + 1, some (.int (a : Nat)), y6, rfl, bt2, hF2, nd2, List.mem_append_left _ hcm, lt2, by rw [List.length_append]; omega, fun i a' hi ea' l2 el2 b hb hp => ?_, by omega, so2⟩
          rw [List.getElem?_append_left (by omega)] at ea'
          rcases Nat.lt_or_ge i d with hid | hid
          · exact List.mem_append_left _ (cl i a' hid ea' l2 el2 b hb hp)
          · have : i = d := by omega
            subst this
            rw [ea] at ea'
            injection ea' with e3
            subst e3
            rw [el] at el2
            injection el2 with e4
            subst e4
            exact cl2 b hb hp
      · have c1' : ¬ d < fd.length := fun z => c1 (decide_eq_true (by rw [show (ints_ fd).length = fd.length from List.length_map ..]; omega))
        refine ⟨_, rfl, q H' F0 fd (fun b o hb => bt b o (ne_of_none hb nF) hb) nF hF ⟨nd, hcm, lt, fun a ha l hl b hb hp => ?_, so⟩⟩
        obtain ⟨i, hi, e⟩ := List.getElem_of_mem ha
        exact cl i a (by omega) (by rw [List.getElem?_eq_getElem hi, e]) l hl b hb hp
end
end K7
end
/-! ## P8 -/
section
open PySem PySem.Spec PyProof.Rows L2
namespace K7
abbrev N_nearby_cells : List Str := ["cells", "couples", "b", "a"]
abbrev s_nearby_cells : Stmt := topS 16
theorem sc_nearby_cells : FnScope ["cells", "couples", "b", "a"] ["cells", "couples"] (defScope s_nearby_cells) := ⟨rfl, rfl, rfl, by decide +kernel, rfl, by decide +kernel, by decide +kernel⟩
abbrev scA : Scope := { kind := ScopeKind.function, names := [(".0", NameKind.local), ("a", NameKind.cell), ("tuple", NameKind.globalImplicit), ("range", NameKind.globalImplicit), ("cells", NameKind.cell), ("couples", NameKind.cell)], isGenerator := false, isCoroutine := false }
def rTup_ (K : PySem.W.Frag) : List V → Hp → VK → Prop := fun xs H Q => ∃ p ys, xs = [V.ref p] ∧ ((SqL K H p ys ∧ ∀ l, H l = none → Q (.ref l) (upd H l (.tup ys))) ∨ SqT K H p ys ∧ Q (.ref p) H)
section
variable {P : Program} {w : World} {K : PySem.W.Frag} {mg : Str → Option Value} {base : Heap}
/-- the neighbours of each cell -/
def nearV (n : Nat) (es : List (Nat × Nat)) : List (List Nat) := (List.range n).map fun a => (List.range n).filter fun b => decide ((a, b) ∈ es) || decide ((b, a) ∈ es)
theorem ints_snoc (l : List Nat) (j : Nat) : ints_ (l ++ [j]) = ints_ l ++ [.int (j : Nat)] := by
  unfold ints_
  rw [List.map_append]
  rfl
theorem range_filter (p : Nat → Bool) (j : Nat) : (List.range (j + 1)).filter p = (List.range j).filter p ++ (if p j = true then [j] else []) := by
  rw [List.range_succ, List.filter_append, List.filter_cons]
  rfl
theorem dp_two {H : Hp} (k j : Nat) : DpAll K H [.int (0 + (k : Nat)), .int (0 + (j : Nat))] [.int (k : Nat), .int (j : Nat)] := by
  rw [Int.zero_add, Int.zero_add]
  exact .cons (.int _) (.cons (.int _) .nil)
def spNear : Sp := fun vs H Q _ => ∃ (n : Nat) (ca : Addr) (ts : List Addr) (es : List (Nat × Nat)), vs = [.int n, .ref ca] ∧ n ≤ 5 ∧ H ca = some (.lst (ts.map V.ref)) ∧ TAt H ts (pairs es) ∧ es.length ≤ 32 ∧
  ∀ H' q us, Same H H' → H q = none → H' q = some (.tup (us.map V.ref)) → TAt H' us (nearV n es) → Q (.ref q) H'
theorem ok_near {f : Addr} {fd : FuncData} (F : Fun K "nearby_cells" "nearby_cells" s_nearby_cells f fd) (m_range : mg "range" = none) (m_tuple : mg "tuple" = none) : FnOk P w K mg base CX0 1 f fd ["cells", "couples"] spNear := by
  refine F.ok sc_nearby_cells (fun vs H Q E h => ?_) (fun cdv A outer s H vs Q E hr h => ?_)
  · obtain ⟨n, ca, ts, es, rfl, _⟩ := h
    rfl
  · obtain ⟨n, ca, ts, es, rfl, hn, hca, tE, h32, q⟩ := h
    refine ⟨_, (pss_one (ps_ret (pe_callTy call_tuple_of (by rfl) m_tuple boot_tuple (pa_cons (pe_lc (own := [("a", 3)]) (g := gName 3) (tt := tYes) rfl sc_nearby_cells.nd (pi_range1 rfl m_range (pa_cons (pv 0) pa_nil)) (blkOk_by (own := [("a", 3)]) (N := N_nearby_cells) (sc := defScope s_nearby_cells) (by decide +kernel)) (fun _ _ _ _ _ => (pg_name (i := 3) sc_nearby_cells.nd rfl (by first | exact Or.inl rfl | exact Or.inr rfl))) (fun _ _ _ _ _ => pts_nil) (fun _ _ _ _ _ => (pe_callTy (show CallR _ (.type "tuple") (rTup_ K) from call_tuple_of) (by rfl) m_tuple boot_tuple (pa_cons (pe_lc (own := [("b", 2)]) (g := gName 2) rfl sc_nearby_cells.nd (pi_range1 rfl m_range (pa_cons (pv 0) pa_nil)) (blkOk_by (own := [("b", 2)]) (N := N_nearby_cells) (sc := scA) (by decide +kernel)) (fun _ _ _ _ _ => (pg_name (i := 2) sc_nearby_cells.nd rfl (by first | exact Or.inl rfl | exact Or.inr rfl))) (fun _ _ _ _ _ => (pts_one (PW.pt (pw_or (pt_cmpR (show OpR _ _ (rInD K) from op_inD (K7L.hu65 hr)) (pe_tup (pa_cons (pv 3) (pa_cons (pv 2) pa_nil))) (pv 1) (by with_unfolding_all rfl)) (pw_or1 (pt_cmpR (show OpR _ _ (rInD K) from op_inD (K7L.hu65 hr)) (pe_tup (pa_cons (pv 2) (pa_cons (pv 3) pa_nil))) (pv 1) (by with_unfolding_all rfl))))))) (fun _ _ _ _ _ => (pv 2))) pa_nil)))) pa_nil)))), ?_⟩
    refine ⟨_, rfl, _, rfl, by omega, by omega, fun D hD => lc_range (lo := 0) (n := n) (fun i H1 => Same H H1 ∧ ∃ us : List Addr, H1 D = some (.lst (us.map V.ref)) ∧ TAt H1 us ((nearV n es).take i) ∧ us.length ≤ i) ⟨same_new (Same.refl H) hD, [], upd_same, .nil, Nat.le_refl _⟩ (fun i H1 hi pv => ?_) (fun H1 pv => ?_)⟩
    · obtain ⟨e1, us, hD1, tU, lu⟩ := pv
      refine ⟨rfl, _, rfl, _, rfl, by omega, by omega, fun D2 hD2 => lc_range (lo := 0) (n := n) (fun j H2 => Same H1 H2 ∧ H2 D2 = some (.lst (ints_ ((List.range j).filter fun b => decide ((i, b) ∈ es) || decide ((b, i) ∈ es))))) ⟨same_new (Same.refl H1) hD2, upd_same⟩ (fun j H2 hj pv => ?_) (fun H2 pv => ?_)⟩
      · obtain ⟨e2, h2⟩ := pv
        have eA := e1.trans e2
        refine ⟨rfl, _, rfl, _, rfl, by show 2 ≤ sizeLine; decide, fun t nt => ?_⟩
        have s3 := same_new (o := .tup [.int (0 + (i : Nat)), .int (0 + (j : Nat))]) (Same.refl H2) nt
        refine ⟨_, rfl, intD [i, j], _, .tup (xs := [.int (0 + (i : Nat)), .int (0 + (j : Nat))]) (.inl (.inl upd_same)) (dp_two i j), .lst (.inl (.inl (s3 _ _ (eA _ _ hca)))) (dp_rows (tE.same (eA.trans s3))), shaped_ints _, shaped_rows _, ?_⟩
        rw [any_rows]
        have e2b := e2
        refine ⟨_, rfl, ite2 (fun q1 => ?_) (fun q1 => ?_)⟩
        · have g : ∀ {b : Addr} {o : HO}, H2 b = some o → upd H2 t (.tup [.int (0 + (i : Nat)), .int (0 + (j : Nat))]) b = some o := fun hb => s3 _ _ hb
          refine ⟨_, rfl, _, g h2, by unfold ints_; rw [List.length_map]; exact small1000 (Nat.le_trans (List.length_filter_le _ _) (by rw [List.length_range]; omega)), fun b o hb => ?_, ?_⟩
          · rw [upd_ne (ne_of_none hb hD2)]
            exact g (e2 _ _ hb)
          · rw [upd_same, range_filter, if_pos (by rw [q1]; rfl), Int.zero_add]
            rw [ints_snoc]
        · refine ⟨_, rfl, _, rfl, by show 2 ≤ sizeLine; decide, fun t2 nt2 => ?_⟩
          have s4 := same_new (o := .tup [.int (0 + (j : Nat)), .int (0 + (i : Nat))]) s3 nt2
          refine ⟨_, rfl, intD [j, i], _, .tup (xs := [.int (0 + (j : Nat)), .int (0 + (i : Nat))]) (.inl (.inl upd_same)) (dp_two j i), .lst (.inl (.inl (s4 _ _ (eA _ _ hca)))) (dp_rows (tE.same (eA.trans s4))), shaped_ints _, shaped_rows _, ?_⟩
          rw [any_rows]
          refine ⟨_, rfl, ite2 (fun q2 => ?_) (fun q2 => ?_)⟩
          · refine ⟨_, rfl, _, s4 _ _ h2, by unfold ints_; rw [List.length_map]; exact small1000 (Nat.le_trans (List.length_filter_le _ _) (by rw [List.length_range]; omega)), fun b o hb => ?_, ?_⟩
            · rw [upd_ne (ne_of_none hb hD2)]
              exact s4 _ _ (e2 _ _ hb)
            · rw [upd_same, range_filter, if_pos (by rw [q2, Bool.or_true]), Int.zero_add]
              rw [ints_snoc]
          · refine ⟨e2.trans s4, ?_⟩
            rw [range_filter, if_neg (by rw [Bool.eq_false_iff.mpr q1, Bool.eq_false_iff.mpr q2]; decide), List.append_nil]
            exact s4 _ _ h2
      · obtain ⟨e2, h2⟩ := pv
        have eA := e1.trans e2
        refine ⟨D2, _, rfl, .inl ⟨.inl (.inl h2), fun l nl => ?_⟩⟩
        have s4 := same_new (o := .tup (ints_ ((List.range n).filter fun b => decide ((i, b) ∈ es) || decide ((b, i) ∈ es)))) (Same.refl H2) nl
        have hD4 := s4 _ _ (e2 _ _ hD1)
        have tk : (nearV n es).take (i + 1) = (nearV n es).take i ++ [(List.range n).filter fun b => decide ((i, b) ∈ es) || decide ((b, i) ∈ es)] := by
          rw [List.take_add_one]
          congr 1
          unfold nearV
          rw [List.getElem?_map, List.getElem?_range hi]
          rfl
        have up : ∀ b xs, upd H2 l (.tup (ints_ ((List.range n).filter fun b => decide ((i, b) ∈ es) || decide ((b, i) ∈ es)))) b = some (.tup xs) → upd (upd H2 l (.tup (ints_ ((List.range n).filter fun b => decide ((i, b) ∈ es) || decide ((b, i) ∈ es))))) D (.lst (us.map V.ref ++ [.ref l])) b = some (.tup xs) := fun b xs hb => by
          rw [upd_ne (fun z => by rw [z, hD4] at hb; cases hb)]
          exact hb
        refine ⟨_, hD4, by rw [List.length_map]; exact small1000 (by omega), fun b o hb => ?_, us ++ [l], by rw [upd_same, List.map_append]; rfl, ?_, by rw [List.length_append, List.length_singleton]; omega⟩
        · rw [upd_ne (ne_of_none hb hD)]
          exact s4 _ _ (eA _ _ hb)
        · rw [tk]
          exact ((tU.same (e2.trans s4)).mono up).append (.cons (up _ _ upd_same) .nil)
    · obtain ⟨e1, us, hD1, tU, lu⟩ := pv
      rw [List.take_of_length_le (by unfold nearV; rw [List.length_map, List.length_range]; exact Nat.le_refl _)] at tU
      refine ⟨D, _, rfl, .inl ⟨.inl (.inl hD1), fun l nl => ?_⟩⟩
      have s3 := same_new (o := .tup (us.map V.ref)) e1 nl
      refine q _ l us s3 (e1.free nl) upd_same (tU.same (same_new (Same.refl H1) nl))
end
end K7
end
/-! ## P9 -/
section
open PySem PySem.Spec PyProof.Rows L2
namespace K7
abbrev N_hang_together : List Str := ["cells", "couples"]
abbrev s_hang_together : Stmt := topS 17
theorem sc_hang_together : FnScope ["cells", "couples"] ["cells", "couples"] (defScope s_hang_together) := ⟨rfl, rfl, rfl, by decide +kernel, rfl, by decide +kernel, by decide +kernel⟩
section
variable {P : Program} {w : World} {K : PySem.W.Frag} {mg : Str → Option Value} {base : Heap}
def spHang : Sp := fun vs H Q _ => ∃ (n : Nat) (ca : Addr) (ts : List Addr) (es : List (Nat × Nat)), vs = [.int n, .ref ca] ∧ 0 < n ∧ n ≤ 5 ∧ H ca = some (.lst (ts.map V.ref)) ∧ TAt H ts (pairs es) ∧ es.length ≤ 32 ∧
  (∀ e ∈ es, e.1 < n ∧ e.2 < n) ∧ KL.Conn n es ∧ ∀ H', Same H H' → Q (.bl true) H'
theorem ok_hang {f fN fS : Addr} {fd fdN fdS : FuncData} (F : Fun K "hang_together" "hang_together" s_hang_together f fd)
    (Gnc : FnOk P w K mg base CX0 1 fN fdN ["cells", "couples"] spNear) (gnc : mg "nearby_cells" = some (.ref fN)) (knc : PySem.W.keepIn K (.ref fN) = true) (bnc : Binds K fdN ["cells", "couples"] [])
    (Gsp : FnOk P w K mg base CX0 1 fS fdS ["nearby", "cell", "passing"] spSpread) (gsp : mg "spread" = some (.ref fS)) (ksp : PySem.W.keepIn K (.ref fS) = true) (bsp : Binds K fdS ["nearby", "cell", "passing"] [])
    (m_len : mg "len" = none) (m_list : mg "list" = none) (m_range : mg "range" = none) : FnOk P w K mg base CX0 2 f fd ["cells", "couples"] spHang := by
  refine F.ok sc_hang_together (fun vs H Q E h => ?_) (fun cdv A outer s H vs Q E hr h => ?_)
  · obtain ⟨n, ca, ts, es, rfl, _⟩ := h
    rfl
  · obtain ⟨n, ca, ts, es, rfl, n0, hn, hca, tE, h32, elt, cn, q⟩ := h
    refine ⟨_, (pss_one (ps_ret (pe_cmpR op_eq (pe_callB call_len_seq (by rfl) m_len boot_len (pa_cons (pe_call Gsp (hr.mono (by decide)) (by rfl) gsp ksp bsp .nil pass0 (pa_cons (pe_call Gnc (hr.mono (by decide)) (by rfl) gnc knc bnc .nil pass0 (pa_cons (pv 0) (pa_cons (pv 1) pa_nil))) (pa_cons pe_int (pa_cons (pe_callTy (K7E.cr_list_rng rfl) (by rfl) m_list boot_list (pa_cons (pe_callTy K7E.cr_range1 (by rfl) m_range boot_range (pa_cons (pv 0) pa_nil)) pa_nil)) pa_nil)))) pa_nil)) (pv 0) (nomark _)))), ?_⟩
    refine ⟨_, rfl, _, rfl, n, ca, ts, es, rfl, hn, hca, tE, h32, fun H1 nb us e1 nf1 hnb tU => ?_⟩
    refine ⟨_, rfl, n, rfl, fun p1 np1 => ?_⟩
    refine ⟨p1, n, rfl, upd_same, by omega, fun p2 np2 => ?_⟩
    have s1 := same_new (o := .rng 0 n) (Same.refl H1) np1
    have s2 := same_new (o := .lst (K7E.upTo n)) s1 np2
    have hps : upd (upd H1 p1 (.rng 0 n)) p2 (.lst (K7E.upTo n)) p2 = some (.lst (ints_ (List.range n))) := upd_same
    generalize upd (upd H1 p1 (.rng 0 n)) p2 (.lst (K7E.upTo n)) = H2 at s2 hps ⊢
    have ln : (nearV n es).length = n := by unfold nearV; rw [List.length_map, List.length_range]
    have hget : ∀ a, a < n → (nearV n es)[a]? = some ((List.range n).filter fun b => decide ((a, b) ∈ es) || decide ((b, a) ∈ es)) := fun a ha => by
      unfold nearV
      rw [List.getElem?_map, List.getElem?_range ha]
      rfl
    refine ⟨nb, us, nearV n es, 0, p2, List.range n, rfl, s2 _ _ hnb, tU.same s2, .inr hps, by rw [ln]; exact hn, by rw [ln]; exact n0, fun l hl x hx => ?_, fun H3 qa fd e3 nq hq fo => ?_⟩
    · rw [ln]
      unfold nearV at hl
      obtain ⟨a, _, rfl⟩ := List.mem_map.mp hl
      exact List.mem_range.mp (List.mem_filter.mp hx).1
    · have hlt : ∀ x ∈ fd, x < n := fun x hx => by have z := fo.lt x hx; rw [ln] at z; exact z
      have all := KL.conn_closed cn fo.me fun a b hab ha => by
        have hb : b < n := by
          rcases hab with z | z
          · exact (elt _ z).2
          · exact (elt _ z).1
        refine fo.cl a ha _ (hget a (hlt a ha)) b (List.mem_filter.mpr ⟨List.mem_range.mpr hb, ?_⟩) (List.mem_range.mpr hb)
        rcases hab with z | z
        · rw [decide_eq_true z]; rfl
        · rw [decide_eq_true z, Bool.or_true]
      have len := KL.all_len fo.nd hlt all
      refine ⟨qa, _, rfl, .inl (.inl (.inl hq)), _, rfl, rfl, ?_⟩
      have lq : (ints_ fd).length = n := by unfold ints_; rw [List.length_map]; exact len
      rw [lq, decide_eq_true rfl]
      exact q H3 (e1.trans (s2.trans e3))
end
end K7
end
/-! ## ES -/
section
/-! A set comprehension of tuples of ints, and how many there are in such a set. -/
namespace K7S
open PySem PySem.Spec PyProof.Rows L2
abbrev eS (w : World) : Obj := { cls := .type "set", dict := none, data := .set #[] 0 (.fresh 0 0 (!w.params.followText "set-order")) }
abbrev eD : Obj := { cls := .type "dict", data := .dict #[] }
section
variable {X : Cx}
/-- one more tuple -/
theorem addT_ok {pins : List (Addr × Obj)} {τ : L2.St} {H : Hp} {s : Shared} {E : Value → Shared → Prop} {D t : Addr} {L : List (Addr × List Int)} {k : List Int} {Q : Value → Shared → Prop} (I : Inv X pins τ H s) (hD : H D = some (SetTO X.prog X.w D L)) (ht : ∀ p ∈ L, SqT X.K H p.1 (p.2.map V.int)) (hy : SqT X.K H t (k.map V.int)) (hf : L.length + 1 < 64) (hu : X.A.units + 1 < cLine)
    (h : ∀ s' L', (k ∈ L.map (·.2) → L' = L) → (k ∉ L.map (·.2) → L'.Perm ((t, k) :: L)) → Inv X pins τ (upd H D (SetTO X.prog X.w D L')) s' → Q .none s') : wpAny (model X.prog X.w) X.A (call (.builtin "set.add") [.ref D, .ref t]) Q E s := by
  obtain ⟨es, ep, tb, R⟩ := SetT0.full (I.hok D _ hD).1 fun p hp => I.isT (ht p hp)
  obtain ⟨o, ho, hex, hd⟩ := id R.ob
  have hT : s.TypeIs (.ref D) "set" := ⟨o, ho, hex.1⟩
  refine wpAny_call_entry F.slot_set_add hT F.entry_set_add ?_ (F.args_set_add_2 _ _)
  unfold Builtin.«set.add» Builtin.Frozenset.oneOther
  simp only [List.isEmpty_nil, bind_assoc]
  unfold Builtin.Frozenset.addrOf setAdd
  refine wpAny_bind (wpAny_pure ?_)
  try dsimp only
  refine wpAny_bind (wpAny_pure ?_)
  try dsimp only
  refine wpAny_bind (wpAny_holding (wpAny_bind (wpAny_pyHash_tuple (show X.A.units + 1 < cLine from hu) (I.isT hy) ?_)))
  refine add_at (s := { s with toks := s.toks + (k.length + 1) }) R (I.isT hy) (show X.A.units + 1 < cLine from hu) hf fun b h' L' es' ep' tb' sb R' c1 c2 => ?_
  show wpAny _ _ (ret Value.none) _ _ _
  obtain ⟨o', ho', _⟩ := id R'.ob
  exact wpAny_pure ⟨_, rfl, h _ L' c1 c2 (I.write (e := D) (t' := s.toks + (k.length + 1)) (by rw [hD]; trivial) (.inl rfl) (fun b u hb hu => (sb.2 b hb).trans hu) ⟨o', ho'⟩ (setTO_new R'.t0))⟩
/-- how many -/
theorem call_lenT : CallR X (.builtin "len") (fun xs H Q => ∃ a L, xs = [V.ref a] ∧ H a = some (SetTO X.prog X.w a L) ∧ (∀ p ∈ L, SqT X.K H p.1 (p.2.map V.int)) ∧ Q (.int (L.length : Nat)) H) := by
  intro pins s τ H xs us Q I r h
  obtain ⟨a, L, rfl, ha, ht, q⟩ := h
  rw [Vals.ref1 r]
  obtain ⟨es, ep, tb, R⟩ := SetT0.full (I.hok a _ ha).1 fun p hp => I.isT (ht p hp)
  obtain ⟨o, ho, hex, hd⟩ := id R.ob
  have n1 := R.size
  have n2 := R.few
  exact call_len_set ho hex hd R.fits (by omega) ⟨.int (L.length : Nat), H, I.tok _, ⟨_, by rw [n1]⟩, q⟩
/-- {elt for target in iter}, elt a tuple of ints: D the new set -/
def tSt (P : Program) (w : World) (K : PySem.W.Frag) (wi : TI) (g : TG) (te : TE) (vs : List Nat) : TE := fun τ H Q => wi τ H fun J H1 => ∀ D, H1 D = none → ∃ W : Nat → Nat → Hp → Prop, (∃ m, W 0 m (upd H1 D (SetTO P w D []))) ∧ ∀ i m H, W i m H →
  (J.stop i H ∧ Q (.ref D) H) ∨ (J.go i H ∧ ∃ Nx : Hp → Prop, (∀ H', Nx H' → ∃ m', m' < m ∧ W (i + 1) m' H') ∧ ∀ x H', J.yld i H x H' → g x (wipe τ vs) H' fun τ2 H3 => wipe τ2 vs = wipe τ vs ∧
    te τ2 H3 fun y H4 => ∃ (t : Addr) (k : List Int) (L : List (Addr × List Int)), y = .ref t ∧ SqT K H4 t (k.map V.int) ∧ H4 D = some (SetTO P w D L) ∧ (∀ p ∈ L, SqT K H4 p.1 (p.2.map V.int)) ∧ L.length + 1 < 64 ∧
      ∀ L', (k ∈ L.map (·.2) → L' = L) → (k ∉ L.map (·.2) → L'.Perm ((t, k) :: L)) → Nx (upd H4 D (SetTO P w D L')))
theorem fresh0 (P : Program) (w : World) (h : Heap) : SetT0 P w (h.push (eS w)) h.objs.size [] := (setTR_fresh (P := P) (w := w) (h := h.push (eS w)) (a := h.objs.size) (Heap.get?_push_size _ rfl)).t0
/-- as a value -/
theorem pe_st {elt tg iter : Expr} {scope : Scope} {own : List (PySem.Str × Nat)} {pos : Pos} {wi : TI} {g : TG} {te : TE} (hc : X.calm = true) (hu : X.A.units + 1 < cLine) (hN : X.N.Nodup) (hi : PI X tg iter wi) (ok : BlkOk X.N X.env.scope scope own)
    (hg : ∀ (s : Shared) (H : Hp) (C : Addr) (cl : List (PySem.Str × Addr)) (fp : List Addr), PG (X.blk s H scope (compEnvC scope cl C X.env) fp) tg g) (he : ∀ (s : Shared) (H : Hp) (C : Addr) (cl : List (PySem.Str × Addr)) (fp : List Addr), PE (X.blk s H scope (compEnvC scope cl C X.env) fp) elt te)
    (hs : ∀ x, foldedSetIterable iter X.env x = pure x := by intro _; rfl) : PE X (.SetComp elt [⟨tg, iter, [], 0⟩] scope pos) (tSt X.prog X.w X.K wi g te (own.map (·.2))) := by
  refine ⟨fun pins s τ H Q I h => ?_⟩
  rw [PpSet.eval_SetComp]
  have hfree : ∀ z ∈ scope.names, z.2 = .free → ∃ c, X.env.cells.lookup z.1 = some c := fun z hz e => (ok.free z hz e).elim (fun k => I.ok.has _ (.inl k)) fun k => I.ok.has _ (.inr k)
  refine wpAny_comprehension_free (use := none) rfl hs (closure_ok hfree) ok.kind (fun z hz e => by rw [ok.uniq z hz, e]) (thn (hi.run pins s τ H _ I h) fun xv s1 hx => thn hx fun itv s2 z2 => ?_)
  obtain ⟨it, fp, tn, J, H2, rfl, I2, T, st2, f2, q⟩ := z2
  refine PpSet.newSet_ok (newEnv_comp ?_)
  show codeAny _ _ (.compStart (.SetComp elt [⟨tg, iter, [], 0⟩] scope pos) 0 (.ref it) (.ref s2.heap.objs.size) (compEnvC scope (cellsFrom ((s2.heap.push (eS X.w)).objs.size + 1) scope.names (cloFrom X.env.cells scope.names [])) (s2.heap.push (eS X.w)).objs.size X.env)) _ { s2 with heap := pushCells ((s2.heap.push (eS X.w)).push eD) scope.names }
  have nD : H2 s2.heap.objs.size = none := I2.hok.fresh (Nat.le_refl _)
  have IS : Inv X pins τ (upd H2 s2.heap.objs.size (SetTO X.prog X.w s2.heap.objs.size [])) { s2 with heap := s2.heap.push (eS X.w) } := I2.laid (t' := s2.toks) (fun b o e => Heap.get?_push_of_some _ e) (Nat.le_refl _) (setTO_new (fresh0 _ _ _))
  have stS : tn 0 (s2.heap.push (eS X.w)) := T.keep _ _ _ st2 fun b _ o e => Heap.get?_push_of_some _ e
  have fS : ∀ b ∈ fp, FpOk X pins (upd H2 s2.heap.objs.size (SetTO X.prog X.w s2.heap.objs.size [])) b ∧ b < (s2.heap.push (eS X.w)).objs.size := fun b hb => by
    obtain ⟨o, e, _⟩ := T.obj _ _ st2 b hb
    have l1 := Heap.lt_size e
    exact ⟨⟨by rw [upd_ne (Nat.ne_of_lt l1)]; exact (f2 b hb).1, (f2 b hb).2⟩, by rw [Heap.size_push]; exact Nat.lt_succ_of_lt l1⟩
  obtain ⟨W, ⟨m0, w0⟩, turn⟩ := q _ nD
  have IB := block_start IS ok hN fS
  have stB : tn 0 (pushCells ((s2.heap.push (eS X.w)).push eD) scope.names) := T.keep _ _ _ stS fun b _ o e => pushCells_keeps _ _ _ _ (Heap.get?_push_of_some _ e)
  generalize s2.heap.objs.size = D at *
  generalize upd H2 D (SetTO X.prog X.w D []) = HS at IS IB w0 fS
  generalize eS3 : ({ s2 with heap := s2.heap.push (eS X.w) } : Shared) = s3 at IS IB
  have e3 : s2.heap.push (eS X.w) = s3.heap := by rw [← eS3]
  rw [e3] at fS stS stB ⊢
  have e4 : ({ s2 with heap := pushCells (s3.heap.push eD) scope.names } : Shared) = { s3 with heap := pushCells (s3.heap.push eD) scope.names } := by rw [← eS3]
  rw [e4]
  have pg := hg s3 HS s3.heap.objs.size (cellsFrom (s3.heap.objs.size + 1) scope.names (cloFrom X.env.cells scope.names [])) fp
  have pe := he s3 HS s3.heap.objs.size (cellsFrom (s3.heap.objs.size + 1) scope.names (cloFrom X.env.cells scope.names [])) fp
  generalize hce : compEnvC scope (cellsFrom (s3.heap.objs.size + 1) scope.names (cloFrom X.env.cells scope.names [])) s3.heap.objs.size X.env = ce at IB pg pe ⊢
  have cL : ce.locals = s3.heap.objs.size := by rw [← hce]; rfl
  generalize hs4 : ({ s3 with heap := pushCells (s3.heap.push eD) scope.names } : Shared) = s4 at IB ⊢
  have st4 : tn 0 s4.heap := by rw [← hs4]; exact stB
  have nf : ∀ b ∈ fp, HS b = none := fun b hb => (fS b hb).1.1
  have stat : ∀ {τ' : L2.St} {H' : Hp} {s' : Shared}, Inv (X.blk s3 HS scope ce fp) [] τ' H' s' → (∀ b ∈ fp, H' b = none) → ∀ b ∈ fp, FpOk (X.blk s3 HS scope ce fp) [] H' b := fun {τ' H' s'} I' hn b hb =>
    ⟨hn b hb, (I'.ok.exf b hb).1, I'.ok.exfs b hb, .inl hb, fun x c e => (I'.ok.exf b hb).2 x c e, fun p hp => absurd (show p ∈ ([] : List (Addr × Obj)) ++ [] from hp) (by simp)⟩
  suffices loop : codeAny (model X.prog X.w) X.A (.compLoop (.SetComp elt [⟨tg, iter, [], 0⟩] scope pos) 0 (.ref it) (.ref D) ce) (compPost (model X.prog X.w) X.A X.xe none (EP X pins τ Q) (.ref D) s3.heap.objs.size) s4 from PpSet.codeAny_compStart_set loop (T.self X.A 0 _ _ _ st4 loop)
  refine PpSet.compLoopS_any (fun n s' => ∃ i H', Inv (X.blk s3 HS scope ce fp) [] (wipe τ (own.map (·.2))) H' s' ∧ tn i s'.heap ∧ (∀ b ∈ fp, H' b = none) ∧ W i n H') (fun n s5 z5 => ?_) m0 ⟨0, HS, IB, st4, nf, w0⟩
  obtain ⟨i, H5, I5, st5, n5, w5⟩ := z5
  rcases turn i n H5 w5 with ⟨stop, qq⟩ | ⟨go, Nx, hNx, step⟩
  · refine thnF (T.done (X.blk s3 HS scope ce fp) rfl rfl rfl hc i [] s5 _ H5 (fun _ _ => False) I5 (stat I5 n5) st5 stop) fun r s6 ⟨hr, I6⟩ => ?_
    subst hr
    have I7 : Inv X pins τ H5 s6 := IS.call' (ch := fp) I6.os I6.base I6.hok I6.bare fun b hb => ⟨(fS b hb).1.2.2.2.1, (fS b hb).1.2.1, (fS b hb).1.2.2.2.2.1, (fS b hb).1.2.2.2.2.2⟩
    have nC : H5 s3.heap.objs.size = none := by rw [← cL]; exact I6.free
    obtain ⟨m, hn, _⟩ := I6.loc
    have hn : s6.heap.Ns s3.heap.objs.size m := by rw [← cL]; exact hn
    obtain ⟨f0, f1, f2', f3, f4, f5⟩ := IS.fpOk (Nat.le_refl _) nC
    exact ⟨m, hn, fun h'' sb => ⟨.ref D, H5, I7.turned (t' := s6.toks) (fun b o hb e => (sb.2 b hb).trans e) f0 f1 f3 f4 f5, rfl, qq⟩⟩
  · refine thnF (T.item (X.blk s3 HS scope ce fp) rfl rfl rfl hc i [] s5 _ H5 (fun _ _ => False) I5 (stat I5 n5) st5 go) fun r s6 ⟨u, hr, h6⟩ => ?_
    subst hr
    refine thnF h6 fun _ s7 ⟨x, H7, I7, r7, y7, st7, n7⟩ => ?_
    refine thnF (pg.run _ s7 _ H7 x u _ (I7.pinned (stat I7 n7) (T.obj _ _ st7)) r7 (step x H7 y7)) fun _ s8 ⟨τ8, H8, I8, hw8, q8⟩ => ?_
    refine wpAny_tests_nil ?_
    rw [if_pos rfl]
    refine thnF (pe.run _ s8 τ8 H8 _ I8 q8) fun z s10 ⟨yv, H10, I10, r10, t, k, L, ey, hy, hD10, hL, hlt, nx⟩ => ?_
    subst ey
    cases (show z = Value.ref t from r10)
    refine addT_ok (X := X.blk s3 HS scope ce fp) I10 hD10 hL hy hlt hu fun s11 L' c1 c2 I11 => ?_
    obtain ⟨m', hm, w'⟩ := hNx _ (nx L' c1 c2)
    have pin' : ∀ b ∈ fp, ∀ o, s7.heap.get? b = some o → s11.heap.get? b = some o ∧ (upd H10 D (SetTO X.prog X.w D L')) b = none := fun b hb o e =>
      let z := I11.pin (b, o) (List.mem_append_right _ (List.mem_append_right _ (mem_pinsAt hb e)))
      ⟨z.1, z.2.1⟩
    refine ⟨m', hm, i + 1, _, (I11.unpinned (pins := [])).weak (by rw [← hw8, wipe_length]) (fun j v e => (wipe_some (by rw [hw8]; exact e)).1), T.keep _ _ _ st7 fun b hb o e => (pin' b hb o e).1, fun b hb => ?_, w'⟩
    obtain ⟨o, e, _⟩ := T.obj _ _ st7 b hb
    exact (pin' b hb o e).2
/-- over a list that the block leaves as it is -/
theorem st_list {P : Program} {w : World} {K : PySem.W.Frag} {a : Addr} {xs : List V} {g : TG} {te : TE} {vs : List Nat} {τ : L2.St} {H1 : Hp} {D : Addr} {Qd : Hp → Prop} (Pv : Nat → Hp → Prop) (h0 : Pv 0 (upd H1 D (SetTO P w D []))) (hl : ∀ i H, i ≤ xs.length → Pv i H → SqL K H a xs)
    (hs : ∀ i x H, xs[i]? = some x → Pv i H → g x (wipe τ vs) H fun τ2 H3 => wipe τ2 vs = wipe τ vs ∧
      te τ2 H3 fun y H4 => ∃ (t : Addr) (k : List Int) (L : List (Addr × List Int)), y = .ref t ∧ SqT K H4 t (k.map V.int) ∧ H4 D = some (SetTO P w D L) ∧ (∀ p ∈ L, SqT K H4 p.1 (p.2.map V.int)) ∧ L.length + 1 < 64 ∧
      ∀ L', (k ∈ L.map (·.2) → L' = L) → (k ∉ L.map (·.2) → L'.Perm ((t, k) :: L)) → Pv (i + 1) (upd H4 D (SetTO P w D L'))) (hd : ∀ H, Pv xs.length H → Qd H) :
    ∃ W : Nat → Nat → Hp → Prop, (∃ m, W 0 m (upd H1 D (SetTO P w D []))) ∧ ∀ i m H, W i m H →
      ((Itl K a).stop i H ∧ Qd H) ∨ ((Itl K a).go i H ∧ ∃ Nx : Hp → Prop, (∀ H', Nx H' → ∃ m', m' < m ∧ W (i + 1) m' H') ∧ ∀ x H', (Itl K a).yld i H x H' → g x (wipe τ vs) H' fun τ2 H3 => wipe τ2 vs = wipe τ vs ∧
        te τ2 H3 fun y H4 => ∃ (t : Addr) (k : List Int) (L : List (Addr × List Int)), y = .ref t ∧ SqT K H4 t (k.map V.int) ∧ H4 D = some (SetTO P w D L) ∧ (∀ p ∈ L, SqT K H4 p.1 (p.2.map V.int)) ∧ L.length + 1 < 64 ∧
      ∀ L', (k ∈ L.map (·.2) → L' = L) → (k ∉ L.map (·.2) → L'.Perm ((t, k) :: L)) → Nx (upd H4 D (SetTO P w D L'))) := by
  refine ⟨fun i m H => m + i = xs.length ∧ Pv i H, ⟨xs.length, rfl, h0⟩, fun i m H z => ?_⟩
  obtain ⟨hm, p⟩ := z
  have q := hl i H (by omega) p
  rcases Nat.lt_or_ge i xs.length with lt | ge
  · refine .inr ⟨⟨xs, xs[i], q, List.getElem?_eq_getElem lt⟩, Pv (i + 1), fun H' p' => ⟨m - 1, by omega, by omega, p'⟩, fun x H' y => ?_⟩
    obtain ⟨rfl, y⟩ := y
    exact hs i x _ (y xs q) p
  · obtain rfl : i = xs.length := by omega
    exact .inl ⟨⟨xs, q, Nat.le_refl _⟩, hd H p⟩
/-- over a tuple that the block leaves as it is -/
theorem st_tup {P : Program} {w : World} {K : PySem.W.Frag} {a : Addr} {xs : List V} {g : TG} {te : TE} {vs : List Nat} {τ : L2.St} {H1 : Hp} {D : Addr} {Qd : Hp → Prop} (Pv : Nat → Hp → Prop) (h0 : Pv 0 (upd H1 D (SetTO P w D []))) (hl : ∀ i H, i ≤ xs.length → Pv i H → SqT K H a xs)
    (hs : ∀ i x H, xs[i]? = some x → Pv i H → g x (wipe τ vs) H fun τ2 H3 => wipe τ2 vs = wipe τ vs ∧
      te τ2 H3 fun y H4 => ∃ (t : Addr) (k : List Int) (L : List (Addr × List Int)), y = .ref t ∧ SqT K H4 t (k.map V.int) ∧ H4 D = some (SetTO P w D L) ∧ (∀ p ∈ L, SqT K H4 p.1 (p.2.map V.int)) ∧ L.length + 1 < 64 ∧
      ∀ L', (k ∈ L.map (·.2) → L' = L) → (k ∉ L.map (·.2) → L'.Perm ((t, k) :: L)) → Pv (i + 1) (upd H4 D (SetTO P w D L'))) (hd : ∀ H, Pv xs.length H → Qd H) :
    ∃ W : Nat → Nat → Hp → Prop, (∃ m, W 0 m (upd H1 D (SetTO P w D []))) ∧ ∀ i m H, W i m H →
      ((Itt K a).stop i H ∧ Qd H) ∨ ((Itt K a).go i H ∧ ∃ Nx : Hp → Prop, (∀ H', Nx H' → ∃ m', m' < m ∧ W (i + 1) m' H') ∧ ∀ x H', (Itt K a).yld i H x H' → g x (wipe τ vs) H' fun τ2 H3 => wipe τ2 vs = wipe τ vs ∧
        te τ2 H3 fun y H4 => ∃ (t : Addr) (k : List Int) (L : List (Addr × List Int)), y = .ref t ∧ SqT K H4 t (k.map V.int) ∧ H4 D = some (SetTO P w D L) ∧ (∀ p ∈ L, SqT K H4 p.1 (p.2.map V.int)) ∧ L.length + 1 < 64 ∧
      ∀ L', (k ∈ L.map (·.2) → L' = L) → (k ∉ L.map (·.2) → L'.Perm ((t, k) :: L)) → Nx (upd H4 D (SetTO P w D L'))) := by
  refine ⟨fun i m H => m + i = xs.length ∧ Pv i H, ⟨xs.length, rfl, h0⟩, fun i m H z => ?_⟩
  obtain ⟨hm, p⟩ := z
  have q := hl i H (by omega) p
  rcases Nat.lt_or_ge i xs.length with lt | ge
  · refine .inr ⟨⟨xs, xs[i], q, List.getElem?_eq_getElem lt⟩, Pv (i + 1), fun H' p' => ⟨m - 1, by omega, by omega, p'⟩, fun x H' y => ?_⟩
    obtain ⟨rfl, y⟩ := y
    exact hs i x _ (y xs q) p
  · obtain rfl : i = xs.length := by omega
    exact .inl ⟨⟨xs, q, Nat.le_refl _⟩, hd H p⟩
theorem hu1 {k : Nat} {A : Around} (hr : Room k A) : A.units + 1 < cLine := by have := hr.un; omega
end
end K7S
end
/-! ## ET -/
section
/-! sorted of a tuple, or of a list, of ints. -/
namespace K7S
open PySem PySem.Spec PyProof.Rows L2
section
variable {X : Cx}
def rSortA (K : PySem.W.Frag) : List V → Hp → VK → Prop := fun vs H Q => ∃ (a : Addr) (ns : List Int), vs = [V.ref a] ∧ (SqL K H a (ns.map V.int) ∨ SqT K H a (ns.map V.int)) ∧ ns.length < 64 ∧ ∀ (ms : List Int) (p : Addr), ms.Perm ns → ms.Pairwise (· ≤ ·) → H p = none → Q (.ref p) (upd H p (.lst (ms.map V.int)))
theorem cr_sortA : CallR X (.builtin "sorted") (rSortA X.K) := by
  intro pins s τ H vs us Q I r h
  obtain ⟨a, ns, rfl, hs, h64, q⟩ := h
  rw [Vals.ref1 r]
  have got : ∃ (its : List Value) (o : Obj) (n : Nat) (T : String), Vals (ns.map V.int) its ∧ (T = "list" ∨ T = "tuple") ∧ s.heap.get? a = some o ∧ o.cls = .type T ∧ o.data = .seq its.toArray n := by
    rcases hs with z | z
    · obtain ⟨its, rv, pl, _⟩ := I.list z
      obtain ⟨o, ho, hc, n, hd⟩ := pl.isList
      exact ⟨its, o, n, "list", rv, .inl rfl, ho, hc, hd⟩
    · obtain ⟨its, rv, ⟨o, ho, hc, n, hd⟩, _⟩ := I.tuple z
      exact ⟨its, o, n, "tuple", rv, .inr rfl, ho, hc, hd⟩
  obtain ⟨its, o, n, T, rv, hT, ho, hc, hd⟩ := got
  have hi := rv.ints
  have h64' : its.length < 64 := by rw [hi.length]; exact h64
  refine Calls.call_function_entry kind_sorted plain_sorted entry_sorted (args_sorted1 _) ?_
  unfold Builtin.«sorted»
  refine wpAny_bind (m := checkCount "sorted" 1 1 _) (wpAny_pure (wpAny_bind (wpAny_collect_seq a hT ho hc hd (fun h' kp => ?_) (by rw [List.size_toArray, sizeLine_eq]; omega))))
  have hoL : (h'.push (seqObj "list" its.toArray 0)).get? h'.objs.size = some (seqObj "list" its.toArray 0) := Heap.get?_push_size _ rfl
  refine wpAny_bind (wpAny_newList ?_ (by rw [sizeLine_eq]; show its.length ≤ _; omega))
  show wpAny _ _ _ _ _ { s with heap := h'.push (seqObj "list" its.toArray 0) }
  refine wpAny_bind (wpAny_holding (wpAny_call_entry slot_list_sort ⟨_, hoL, rfl⟩ entry_list_sort (list_sort_tree hoL hi h64' fun out ms a1 a2 a3 => ⟨_, rfl, wpAny_pure ⟨_, rfl, ?_⟩⟩) (args_list_sort _)))
  obtain ⟨e, he⟩ := sortedHeap_at (vs := its) (out := out) hoL
  have hlen : (ms.map V.int).length ≤ sizeLine := by rw [List.length_map, a2.length_eq]; exact small64 h64
  have I1 : Inv X pins τ H { s with heap := h' } := I.kept (t' := s.toks) kp
  refine ⟨.ref h'.objs.size, upd H h'.objs.size (.lst (ms.map V.int)), I1.laid (t' := s.toks) (fun b u hb => ?_) (Nat.le_refl _) ⟨hlen, out.toList, e, vals_of_ints a1, he⟩, rfl, q ms _ a2 a3 (I1.hok.fresh (Nat.le_refl _))⟩
  have lt := Heap.lt_size hb
  exact (sortedHeap_old (Nat.ne_of_lt lt) (by rw [size_push']; exact Nat.lt_succ_of_lt lt)).trans (Heap.get?_push_of_some _ hb)
end
end K7S
end
/-! ## P10 -/
section
open PySem PySem.Spec PyProof.Rows L2
namespace K7
abbrev N__are_neighbours : List Str := ["cells", "thing", "couple"]
abbrev s__are_neighbours : Stmt := topS 18
theorem sc__are_neighbours : FnScope ["cells", "thing", "couple"] ["cells", "thing"] (defScope s__are_neighbours) := ⟨rfl, rfl, rfl, by decide +kernel, rfl, by decide +kernel, by decide +kernel⟩
section
variable {P : Program} {w : World} {K : PySem.W.Frag} {mg : Str → Option Value} {base : Heap}
/-! ### couples that are handed in: rows of two cells, either way round, tuples or lists -/
theorem SqOf.ty {H : Hp} {a : Addr} {xs : List V} (h : SqOf H a xs) : ∃ t : String, (∀ H1, Same H H1 → TyX K H1 (.ref a) (.type t)) ∧ PySem.W.kitAny K (.type t) [.type "list", .type "tuple"] = some true := by
  rcases h with z | z
  · exact ⟨"tuple", fun H1 e1 => .base (.tup (e1 _ _ z)), any_tup⟩
  · exact ⟨"list", fun H1 e1 => .base (.lst (e1 _ _ z)), any_lst⟩
def CoAt (H : Hp) (t : Addr) (c : Nat × Nat) : Prop := SqOf H t (ints_ [c.1, c.2])
def CoAll (H : Hp) (ts : List Addr) (cs : List (Nat × Nat)) : Prop := ts.length = cs.length ∧ ∀ (i : Nat) t c, ts[i]? = some t → cs[i]? = some c → CoAt H t c
theorem CoAll.same {H H' : Hp} {ts : List Addr} {cs : List (Nat × Nat)} (h : CoAll H ts cs) (e : Same H H') : CoAll H' ts cs := ⟨h.1, fun i t c h1 h2 => (h.2 i t c h1 h2).same e⟩
structure Cos (n : Nat) (cs : List (Nat × Nat)) : Prop where
  lt : ∀ c ∈ cs, c.1 < n ∧ c.2 < n ∧ c.1 ≠ c.2
  nd : (cs.map KL.srt).Nodup
  len : cs.length ≤ 32
theorem two_co {n : Nat} {c : Nat × Nat} (h : c.1 < n ∧ c.2 < n ∧ c.1 ≠ c.2) : twoV (n : Nat) (ints_ [c.1, c.2]) = true := by
  obtain ⟨h1, h2, h3⟩ := h
  unfold twoV cellsV
  have e1 : wholeV (.int (c.1 : Nat)) 0 (((n : Nat) : Int) - 1) = true := by rw [wholeV_int, decide_eq_true (by omega), decide_eq_true (by omega)]; rfl
  have e2 : wholeV (.int (c.2 : Nat)) 0 (((n : Nat) : Int) - 1) = true := by rw [wholeV_int, decide_eq_true (by omega), decide_eq_true (by omega)]; rfl
  have e3 : (ints_ [c.1, c.2]).all (fun x => wholeV x 0 (((n : Nat) : Int) - 1)) = true := by
    show (wholeV (.int (c.1 : Nat)) 0 (((n : Nat) : Int) - 1) && (wholeV (.int (c.2 : Nat)) 0 (((n : Nat) : Int) - 1) && true)) = true
    rw [e1, e2]; rfl
  have e4 : ((ints_ [c.1, c.2]).map intOf).Nodup := by
    show [((c.1 : Nat) : Int), ((c.2 : Nat) : Int)].Nodup
    refine List.nodup_cons.mpr ⟨fun m => ?_, List.nodup_cons.mpr ⟨List.not_mem_nil, List.nodup_nil⟩⟩
    rw [List.mem_singleton] at m
    omega
  rw [e3, decide_eq_true e4, decide_eq_true (show (2 : Int) ≤ (((ints_ [c.1, c.2]).length : Nat) : Int) from (by decide : (2 : Int) ≤ ((2 : Nat) : Int))), decide_eq_true (show (ints_ [c.1, c.2]).length = 2 from rfl)]
  rfl
def keyOf (c : Nat × Nat) : List Int := [((KL.srt c).1 : Int), ((KL.srt c).2 : Int)]
theorem keyOf_inj {c d : Nat × Nat} (h : keyOf c = keyOf d) : KL.srt c = KL.srt d := by
  unfold keyOf at h
  injection h with h1 h2
  injection h2 with h2
  exact Prod.ext (by omega) (by omega)
theorem keys_nd {cs : List (Nat × Nat)} (h : (cs.map KL.srt).Nodup) : (cs.map keyOf).Nodup := by
  induction cs with
  | nil => exact List.nodup_nil
  | cons c cs ih =>
    rw [List.map_cons, List.nodup_cons] at h
    rw [List.map_cons, List.nodup_cons]
    refine ⟨fun m => ?_, ih h.2⟩
    obtain ⟨d, hd, e⟩ := List.mem_map.mp m
    exact h.1 (List.mem_map.mpr ⟨d, hd, keyOf_inj e⟩)
theorem key_ints (c : Nat × Nat) : (keyOf c).map V.int = ints_ [(KL.srt c).1, (KL.srt c).2] := rfl
def spNbrs : Sp := fun vs H Q _ => ∃ (n : Nat) (a : Addr) (ts : List Addr) (cs : List (Nat × Nat)), vs = [.int (n : Nat), .ref a] ∧ SqOf H a (ts.map V.ref) ∧ CoAll H ts cs ∧ Cos n cs ∧ ∀ H', Same H H' → Q (.bl true) H'
theorem ok_nbrs {f fS fT : Addr} {fd fdS fdT : FuncData} (F : Fun K "_are_neighbours" "_are_neighbours" s__are_neighbours f fd)
    (Gsq : FnOk P w K mg base CX0 1 fS fdS ["thing"] (spSeq K)) (gsq : mg "is_sequence" = some (.ref fS)) (ksq : PySem.W.keepIn K (.ref fS) = true) (bsq : Binds K fdS ["thing"] [])
    (Ga2 : FnOk P w K mg base CX0 3 fT fdT ["many", "thing"] (spTwo K)) (ga2 : mg "are_two_cells" = some (.ref fT)) (ka2 : PySem.W.keepIn K (.ref fT) = true) (ba2 : Binds K fdT ["many", "thing"] [])
    (m_len : mg "len" = none) (m_all : mg "all" = none) (m_tuple : mg "tuple" = none) (m_sorted : mg "sorted" = none) : FnOk P w K mg base CX0 4 f fd ["cells", "thing"] spNbrs := by
  refine F.ok sc__are_neighbours (fun vs H Q E h => ?_) (fun cdv A outer s H vs Q E hr h => ?_)
  · obtain ⟨n, a, ts, cs, rfl, _⟩ := h
    rfl
  · obtain ⟨n, a, ts, cs, rfl, ha, hT, hc, q⟩ := h
    refine ⟨_, (pss_cons (ps_if (pw_or (pt_not (pt_val (pe_call Gsq (hr.mono (by decide)) (by rfl) gsq ksq bsq .nil pass0 (pa_cons (pv 1) pa_nil)))) (pw_or1 (pt_not (pt_val (pe_callB (cr_all rfl) (by rfl) m_all boot_all (pa_cons (pe_lc (own := [("couple", 2)]) (g := gName 2) (tt := tYes) rfl sc__are_neighbours.nd (K7E.pi_either (pi_tup (pv 1)) (pi_list (pv 1))) (blkOk_by (own := [("couple", 2)]) (N := N__are_neighbours) (sc := defScope s__are_neighbours) (by decide +kernel)) (fun _ _ _ _ _ => (pg_name (i := 2) sc__are_neighbours.nd rfl (by first | exact Or.inl rfl | exact Or.inr rfl))) (fun _ _ _ _ _ => pts_nil) (fun _ _ _ _ _ => (pe_call Ga2 (hr.mono (by decide)) (by rfl) ga2 ka2 ba2 .nil pass0 (pa_cons (pv 0) (pa_cons (pv 2) pa_nil))))) pa_nil)))))).pt
  (pss_one (ps_ret pe_bl))
  pss_nil)
 (pss_one (ps_ret (pe_cmpR op_eq (pe_callB K7S.call_lenT (by rfl) m_len boot_len (pa_cons (K7S.pe_st (own := [("couple", 2)]) (g := gName 2) rfl (K7S.hu1 hr) sc__are_neighbours.nd (K7E.pi_either (pi_tup (pv 1)) (pi_list (pv 1))) (blkOk_by (own := [("couple", 2)]) (N := N__are_neighbours) (sc := defScope s__are_neighbours) (by decide +kernel)) (fun _ _ _ _ _ => (pg_name (i := 2) sc__are_neighbours.nd rfl (by first | exact Or.inl rfl | exact Or.inr rfl))) (fun _ _ _ _ _ => (pe_callTy (show CallR _ (.type "tuple") (rTup_ K) from call_tuple_of) (by rfl) m_tuple boot_tuple (pa_cons (pe_callB (show CallR _ (.builtin "sorted") (K7S.rSortA K) from K7S.cr_sortA) (by rfl) m_sorted boot_sorted (pa_cons (pv 2) pa_nil)) pa_nil)))) pa_nil)) (pe_callB call_len_seq (by rfl) m_len boot_len (pa_cons (pv 1) pa_nil)) (nomark _))))), ?_⟩
    obtain ⟨t, ty, kk⟩ := ha.ty (K := K)
    have hl : ts.length = cs.length := hT.1
    have h32 := hc.len
    refine ⟨_, rfl, _, t, true, rfl, ty, kk, fun H1 e1 => ⟨_, rfl, ?_⟩⟩
    have ha1 := ha.same e1
    have hT1 := hT.same e1
    -- the second half: the set, behind any heap
    have half : ∀ H2, Same H1 H2 → ∀ D, H2 D = none → ∀ (j : Nat) (x : V) (H3 : Hp), (ts.map V.ref)[j]? = some x → (Same H2 H3 ∧ ∃ L : List (Addr × List Int), H3 D = some (SetTO P w D L) ∧ (∀ p ∈ L, H3 p.1 = some (.tup (p.2.map V.int))) ∧ (L.map (·.2)).Perm ((cs.take j).map keyOf)) →
        ∃ c t', x = .ref t' ∧ cs[j]? = some c ∧ CoAt H3 t' c ∧ keyOf c ∉ (cs.take j).map keyOf := by
      intro H2 e2 D hD j x H3 hx pv
      rw [List.getElem?_map] at hx
      obtain ⟨t', ht', rfl⟩ := Option.map_eq_some_iff.mp hx
      have hj : j < cs.length := by rw [← hl]; exact (List.getElem?_eq_some_iff.mp ht').1
      refine ⟨cs[j], t', rfl, List.getElem?_eq_getElem hj, (hT1.2 j t' _ ht' (List.getElem?_eq_getElem hj)).same (e2.trans pv.1), fun m => ?_⟩
      have nd := keys_nd hc.nd
      have e3 : cs.map keyOf = (cs.take j).map keyOf ++ (cs.drop j).map keyOf := by rw [← List.map_append, List.take_append_drop]
      rw [e3, List.nodup_append] at nd
      exact nd.2.2 _ m _ (List.mem_map.mpr ⟨cs[j], by rw [List.drop_eq_getElem_cons hj]; exact List.mem_cons_self, rfl⟩) rfl
    have fin : ∀ H2, Same H1 H2 → ∀ L : List (Addr × List Int), (L.map (·.2)).Perm ((cs.take (ts.map V.ref).length).map keyOf) → (Same H H2 → decide (V.int (L.length : Nat) = V.int ((ts.map V.ref).length : Nat)) = true) := by
      intro H2 e2 L p _
      have z := p.length_eq
      rw [List.length_map, List.length_map, List.length_map, hl, List.take_length] at z
      rw [List.length_map, z, hl]
      exact decide_eq_true rfl
    have Q2 : ∀ H2, Same H1 H2 → Q (.bl true) H2 := fun H2 e2 => q H2 (e1.trans e2)
    have sz : (ts.map V.ref).length = cs.length := by rw [List.length_map, hl]
    rcases ha1 with z | z
    · refine .inl ⟨_, rfl, a, rfl, ⟨_, .inl (.inl z)⟩, fun D hD => lc_tup (xs := ts.map V.ref) (fun j H2 => Same H1 H2 ∧ ∃ bs : List Bool, H2 D = some (.lst (bs.map V.bl)) ∧ bs.all id = true ∧ bs.length = j) ⟨same_new (Same.refl H1) hD, [], upd_same, rfl, rfl⟩ (fun j H2 _ pv => .inl (.inl (pv.1 _ _ z))) (fun j x H2 hx pv => ?_) (fun H2 pv => ?_)⟩
      · obtain ⟨e2, bs, hD2, hb, lb⟩ := pv
        have hjx := (List.getElem?_eq_some_iff.mp hx).1
        rw [List.getElem?_map] at hx
        obtain ⟨t', ht', rfl⟩ := Option.map_eq_some_iff.mp hx
        have hj : j < cs.length := by rw [← sz]; exact hjx
        have hco := hc.lt cs[j] (List.getElem_mem hj)
        refine ⟨rfl, _, rfl, _, rfl, n, .ref t', rfl, .inr ⟨t', _, rfl, (hT1.2 j t' cs[j] ht' (List.getElem?_eq_getElem hj)).same e2, fun y hy => ?_, by show 2 < 64; decide, fun H3 e3 => ?_⟩⟩
        · obtain ⟨k, _, rfl⟩ := List.mem_map.mp hy
          exact .flat (.int _)
        · rw [two_co hco]
          refine ⟨_, e3 _ _ hD2, by rw [List.length_map]; exact small1000 (by omega), fun b o hb => ?_, bs ++ [true], ?_, ?_, by rw [List.length_append, lb]; rfl⟩
          · rw [upd_ne (ne_of_none hb hD)]
            exact e3 _ _ (e2 _ _ hb)
          · rw [upd_same, List.map_append]
            rfl
          · rw [List.all_append, hb]
            rfl
      · obtain ⟨e2, bs, hD2, hb, lb⟩ := pv
        refine ⟨D, bs, rfl, .inl (.inl hD2), _, rfl, ?_⟩
        rw [hb]
        refine iteF ?_
        refine .inl ⟨_, rfl, a, rfl, ⟨_, .inl (.inl (e2 _ _ z))⟩, fun D2 hD2 => K7S.st_tup (xs := ts.map V.ref) (fun j H3 => Same H2 H3 ∧ ∃ L : List (Addr × List Int), H3 D2 = some (SetTO P w D2 L) ∧ (∀ p ∈ L, H3 p.1 = some (.tup (p.2.map V.int))) ∧ (L.map (·.2)).Perm ((cs.take j).map keyOf)) ⟨same_new (Same.refl H2) hD2, [], upd_same, fun p hp => (nomatch hp), List.Perm.refl _⟩ (fun j H3 _ pv => .inl (.inl (pv.1 _ _ (e2 _ _ z)))) (fun j x H3 hx pv => ?_) (fun H3 pv => ?_)⟩
        · obtain ⟨c, t', rfl, hcj, hco, hnew⟩ := half H2 e2 D2 hD2 j x H3 hx pv
          obtain ⟨e3, L, hL, hLt, pm⟩ := pv
          have ll : L.length = j := by
            have z := pm.length_eq
            rw [List.length_map, List.length_map, List.length_take, Nat.min_eq_left (Nat.le_of_lt (List.getElem?_eq_some_iff.mp hcj).1)] at z
            exact z
          have hjc := (List.getElem?_eq_some_iff.mp hcj).1
          refine ⟨rfl, _, rfl, t', [(c.1 : Int), (c.2 : Int)], rfl, hco.sq, by show 2 < 64; decide, fun ms p pm2 so np => ?_⟩
          have em := KL.two_sorted pm2 so
          subst em
          refine ⟨p, _, rfl, .inl ⟨.inl (.inl upd_same), fun l nl => ?_⟩⟩
          have s1 := same_new (o := .lst ([((min c.1 c.2 : Nat) : Int), ((max c.1 c.2 : Nat) : Int)].map V.int)) (Same.refl H3) np
          have s2 := same_new (o := .tup ([((min c.1 c.2 : Nat) : Int), ((max c.1 c.2 : Nat) : Int)].map V.int)) s1 nl
          refine ⟨l, keyOf c, L, rfl, .inl (.inl upd_same), s2 _ _ hL, fun p hp => .inl (.inl (s2 _ _ (hLt p hp))), by omega, fun L' _ c2 => ?_⟩
          have pm' := c2 (fun m => hnew (pm.mem_iff.mp m))
          have nlD : l ≠ D2 := fun e => by rw [e, s1 _ _ hL] at nl; cases nl
          refine ⟨fun b o hb => ?_, L', upd_same, fun p hp => ?_, ?_⟩
          · rw [upd_ne (ne_of_none hb hD2)]
            exact s2 _ _ (e3 _ _ hb)
          · have tp : ∀ p ∈ L', (upd (upd H3 _ _) l (.tup ((keyOf c).map V.int))) p.1 = some (.tup (p.2.map V.int)) := fun p hp => by
              rcases List.mem_cons.mp (pm'.mem_iff.mp hp) with rfl | hp
              · exact upd_same
              · exact s2 _ _ (hLt p hp)
            have z := tp p hp
            rw [upd_ne (fun e => by rw [e] at z; exact absurd (z.symm.trans (s2 _ _ hL)) (fun w => by cases w))]
            exact z
          · refine (pm'.map (·.2)).trans ?_
            rw [List.take_add_one, hcj, List.map_append]
            exact ((List.perm_append_singleton _ _).trans (pm.symm.cons _)).symm
        · obtain ⟨e3, L, hL, hLt, pm⟩ := pv
          have eq2 := fin H3 (e2.trans e3) L pm (e1.trans (e2.trans e3))
          refine ⟨D2, L, rfl, hL, fun p hp => .inl (.inl (hLt p hp)), _, rfl, a, ts.map V.ref, rfl, ?_, rfl, ?_⟩
          · exact (SqOf.sq (K := K) (H := H3) (show SqOf H3 a (ts.map V.ref) from (ha.same e1).same (e2.trans e3)))
          · rw [eq2]
            exact Q2 H3 (e2.trans e3)
    · refine .inr ⟨_, rfl, a, rfl, ⟨_, .inl (.inl z)⟩, fun D hD => lc_list (xs := ts.map V.ref) (fun j H2 => Same H1 H2 ∧ ∃ bs : List Bool, H2 D = some (.lst (bs.map V.bl)) ∧ bs.all id = true ∧ bs.length = j) ⟨same_new (Same.refl H1) hD, [], upd_same, rfl, rfl⟩ (fun j H2 _ pv => .inl (.inl (pv.1 _ _ z))) (fun j x H2 hx pv => ?_) (fun H2 pv => ?_)⟩
      · obtain ⟨e2, bs, hD2, hb, lb⟩ := pv
        have hjx := (List.getElem?_eq_some_iff.mp hx).1
        rw [List.getElem?_map] at hx
        obtain ⟨t', ht', rfl⟩ := Option.map_eq_some_iff.mp hx
        have hj : j < cs.length := by rw [← sz]; exact hjx
        have hco := hc.lt cs[j] (List.getElem_mem hj)
        refine ⟨rfl, _, rfl, _, rfl, n, .ref t', rfl, .inr ⟨t', _, rfl, (hT1.2 j t' cs[j] ht' (List.getElem?_eq_getElem hj)).same e2, fun y hy => ?_, by show 2 < 64; decide, fun H3 e3 => ?_⟩⟩
        · obtain ⟨k, _, rfl⟩ := List.mem_map.mp hy
          exact .flat (.int _)
        · rw [two_co hco]
          refine ⟨_, e3 _ _ hD2, by rw [List.length_map]; exact small1000 (by omega), fun b o hb => ?_, bs ++ [true], ?_, ?_, by rw [List.length_append, lb]; rfl⟩
          · rw [upd_ne (ne_of_none hb hD)]
            exact e3 _ _ (e2 _ _ hb)
          · rw [upd_same, List.map_append]
            rfl
          · rw [List.all_append, hb]
            rfl
      · obtain ⟨e2, bs, hD2, hb, lb⟩ := pv
        refine ⟨D, bs, rfl, .inl (.inl hD2), _, rfl, ?_⟩
        rw [hb]
        refine iteF ?_
        refine .inr ⟨_, rfl, a, rfl, ⟨_, .inl (.inl (e2 _ _ z))⟩, fun D2 hD2 => K7S.st_list (xs := ts.map V.ref) (fun j H3 => Same H2 H3 ∧ ∃ L : List (Addr × List Int), H3 D2 = some (SetTO P w D2 L) ∧ (∀ p ∈ L, H3 p.1 = some (.tup (p.2.map V.int))) ∧ (L.map (·.2)).Perm ((cs.take j).map keyOf)) ⟨same_new (Same.refl H2) hD2, [], upd_same, fun p hp => (nomatch hp), List.Perm.refl _⟩ (fun j H3 _ pv => .inl (.inl (pv.1 _ _ (e2 _ _ z)))) (fun j x H3 hx pv => ?_) (fun H3 pv => ?_)⟩
        · obtain ⟨c, t', rfl, hcj, hco, hnew⟩ := half H2 e2 D2 hD2 j x H3 hx pv
          obtain ⟨e3, L, hL, hLt, pm⟩ := pv
          have ll : L.length = j := by
            have z := pm.length_eq
            rw [List.length_map, List.length_map, List.length_take, Nat.min_eq_left (Nat.le_of_lt (List.getElem?_eq_some_iff.mp hcj).1)] at z
            exact z
          have hjc := (List.getElem?_eq_some_iff.mp hcj).1
          refine ⟨rfl, _, rfl, t', [(c.1 : Int), (c.2 : Int)], rfl, hco.sq, by show 2 < 64; decide, fun ms p pm2 so np => ?_⟩
          have em := KL.two_sorted pm2 so
          subst em
          refine ⟨p, _, rfl, .inl ⟨.inl (.inl upd_same), fun l nl => ?_⟩⟩
          have s1 := same_new (o := .lst ([((min c.1 c.2 : Nat) : Int), ((max c.1 c.2 : Nat) : Int)].map V.int)) (Same.refl H3) np
          have s2 := same_new (o := .tup ([((min c.1 c.2 : Nat) : Int), ((max c.1 c.2 : Nat) : Int)].map V.int)) s1 nl
          refine ⟨l, keyOf c, L, rfl, .inl (.inl upd_same), s2 _ _ hL, fun p hp => .inl (.inl (s2 _ _ (hLt p hp))), by omega, fun L' _ c2 => ?_⟩
          have pm' := c2 (fun m => hnew (pm.mem_iff.mp m))
          have nlD : l ≠ D2 := fun e => by rw [e, s1 _ _ hL] at nl; cases nl
          refine ⟨fun b o hb => ?_, L', upd_same, fun p hp => ?_, ?_⟩
          · rw [upd_ne (ne_of_none hb hD2)]
            exact s2 _ _ (e3 _ _ hb)
          · have tp : ∀ p ∈ L', (upd (upd H3 _ _) l (.tup ((keyOf c).map V.int))) p.1 = some (.tup (p.2.map V.int)) := fun p hp => by
              rcases List.mem_cons.mp (pm'.mem_iff.mp hp) with rfl | hp
              · exact upd_same
              · exact s2 _ _ (hLt p hp)
            have z := tp p hp
            rw [upd_ne (fun e => by rw [e] at z; exact absurd (z.symm.trans (s2 _ _ hL)) (fun w => by cases w))]
            exact z
          · refine (pm'.map (·.2)).trans ?_
            rw [List.take_add_one, hcj, List.map_append]
            exact ((List.perm_append_singleton _ _).trans (pm.symm.cons _)).symm
        · obtain ⟨e3, L, hL, hLt, pm⟩ := pv
          have eq2 := fin H3 (e2.trans e3) L pm (e1.trans (e2.trans e3))
          refine ⟨D2, L, rfl, hL, fun p hp => .inl (.inl (hLt p hp)), _, rfl, a, ts.map V.ref, rfl, ?_, rfl, ?_⟩
          · exact (SqOf.sq (K := K) (H := H3) (show SqOf H3 a (ts.map V.ref) from (ha.same e1).same (e2.trans e3)))
          · rw [eq2]
            exact Q2 H3 (e2.trans e3)
end
end K7
end
/-! ## EU -/
section
namespace K7E
open PySem PySem.Spec PyProof.Rows L2
section
variable {X : Cx} {CX : CXT} {k : Nat} {f : Addr} {sp : Sp} {E : XK} {x : Str} {e : Expr} {es : List Expr} {t : TA} {p pos : Pos}
/-- x(e, ..) by a positional promise -/
theorem pe_callR0 (F : FnR X.prog X.w X.K X.mg X.base CX k f sp) (hr : Room k X.A) (hg : Gl X x) (hm : X.mg x = some (.ref f)) (hk : PySem.W.keepIn X.K (.ref f) = true) (hx : Passes CX X E) (ha : PA X (e :: es) t) (hd : (x == ("__debug__" : Str)) = false := by decide)
    (h1 : starEach (e :: es) X.env = (false, eval e X.env) :: starEach es X.env := by rfl) (h2 : (backTo pos (starEach es X.env)).any (·.1) = false := by rfl) : PE X (.Call (.Name x p) (e :: es) [] pos) (fun τ H Q => t τ H fun vs H1 => sp vs H1 Q E) := by
  refine ⟨fun pins s τ H Q I h => wpAny_Call_Name_kw (ld_glob I hg hm (PySem.W.callWith_K (h₀ := X.base) I.ok.mod.kin hk (thn (ha.run pos pins s τ H _ I h) fun us s1 ⟨vs, H1, I1, r, q⟩ => ⟨I1.kIn, ?_⟩) h1 h2) hd)⟩
  exact wpAny_call (run_fnR F hr hx I1 r q)
end
end K7E
end
/-! ## P11 -/
section
open PySem PySem.Spec PyProof.Rows L2
namespace K7
abbrev N_BadCell___init__ : List Str := ["self", "cell"]
abbrev s_BadCell___init__ : Stmt := inClass (topS 4) 0
theorem sc_BadCell___init__ : FnScope ["self", "cell"] ["self", "cell"] (defScope s_BadCell___init__) := ⟨rfl, rfl, rfl, by decide +kernel, rfl, by decide +kernel, by decide +kernel⟩
abbrev N_is_cell : List Str := ["land", "thing"]
abbrev s_is_cell : Stmt := topS 13
theorem sc_is_cell : FnScope ["land", "thing"] ["land", "thing"] (defScope s_is_cell) := ⟨rfl, rfl, rfl, by decide +kernel, rfl, by decide +kernel, by decide +kernel⟩
abbrev N_check_cells : List Str := ["land", "things", "thing"]
abbrev s_check_cells : Stmt := topS 14
theorem sc_check_cells : FnScope ["land", "things", "thing"] ["land", "things"] (defScope s_check_cells) := ⟨rfl, rfl, rfl, by decide +kernel, rfl, by decide +kernel, by decide +kernel⟩
/-! ### a land that stands, and what the top says of it -/
def landFs (n : Int) (an ar ay ac : Addr) : List (Str × V) := putF "_couples" (.ref ac) (putF "nearby" (.ref ay) (putF "roads" (.ref ar) (putF "neighbours" (.ref an) (putF "cells" (.int n) []))))
def lfields : List Str := ["cells", "neighbours", "roads", "nearby", "_couples"]
structure AdL where
  (C B iB : Addr)
structure Tl (K : PySem.W.Frag) (mg : Str → Option Value) (a : AdL) : Prop where
  gC : mg "Land" = some (.ref a.C)
  cl : Cls K a.C
  nA : ∀ f ∈ lfields, NoAttr K a.C f
  gB : mg "BadCell" = some (.ref a.B)
  oxB : OexC K a.B
  iCB : PySem.W.findIn K (.ref a.B) "__init__" = some (some (.ref a.iB))
  tIB : PySem.W.typeIn K (.ref a.iB) = some (.type "function")
  nB : PySem.W.findIn K (.ref a.B) "cell" = some none
/-- an error of the class C with one field is raised -/
def Flies (H : Hp) (C : Addr) (f : Str) (v : V) (E : XK) : Prop := ∀ H' d, Same H H' → H d = none → H' d = some (.xd [(f, v)]) → E (.ref C) (some d) H'
theorem Flies.later {H H1 : Hp} {C : Addr} {f : Str} {v : V} {E : XK} (h : Flies H C f v E) (e : Same H H1) : Flies H1 C f v E := fun H' d e' n q => h H' d (e.trans e') (e.free n) q
/-- an instance with a number of cells -/
def LandC (C : Addr) (H : Hp) (p : Addr) (n : Nat) : Prop := ∃ dx fs, H p = some (.ins C dx fs) ∧ fs.lookup ("cells" : Str) = some (V.int (n : Nat))
theorem LandC.same {C : Addr} {H H' : Hp} {p : Addr} {n : Nat} (h : LandC C H p n) (e : Same H H') : LandC C H' p n := by
  obtain ⟨dx, fs, h1, h2⟩ := h
  exact ⟨dx, fs, e _ _ h1, h2⟩
section
variable {P : Program} {w : World} {K : PySem.W.Frag} {mg : Str → Option Value} {base : Heap} {a : AdL}
def spX (C : Addr) (f : Str) : Sp := fun vs H Q _ => ∃ (e : Addr) (y : V), vs = [.ref e, y] ∧ H e = some (exo e C none) ∧ ∀ d, H d = none → d ≠ e → Q .non (upd (upd H d (exd d [(f, y)])) e (exo e C (some d)))
theorem ok_iB (T : Tl K mg a) {f : Addr} {fd : FuncData} (F : Fun K "__init__" "BadCell.__init__" s_BadCell___init__ f fd) : FnOk P w K mg base (L2.CX P w) 1 f fd ["self", "cell"] (spX a.B "cell") := by
  refine F.okX sc_BadCell___init__ (fun vs H Q E h => ?_) (fun cdv A outer s H vs Q E hr h => ?_)
  · obtain ⟨e, y, rfl, _⟩ := h
    rfl
  · obtain ⟨e, y, rfl, he, q⟩ := h
    refine ⟨_, (pss_one (ps_ost (pv 0) (pv 1))), ?_⟩
    exact ⟨y, rfl, .ref e, rfl, e, a.B, rfl, T.oxB, T.nB, .inl ⟨he, fun d hd hn => q d hd hn⟩⟩
/-- the reading of «raise X(y)» -/
theorem flies_go {H : Hp} {C : Addr} {f : Str} {y : V} {E : XK} (h : Flies H C f y E) :
    ∀ e, H e = none → spX C f (.ref e :: ([y] ++ [])) (upd H e (exo e C none)) (fun v H2 => v = .non ∧ ∃ (d : Addr) (fs : List (Str × V)), H2 e = some (exo e C (some d)) ∧ H2 d = some (exd d fs) ∧ H d = none ∧ E (.ref C) (some d) (upd (del H2 e) d (.xd fs))) (fun _ _ _ => False) := by
  intro e he
  refine ⟨e, y, rfl, upd_same, fun d hd hne => ⟨rfl, d, _, upd_same, by rw [upd_ne hne, upd_same], ?_, ?_⟩⟩
  · rw [upd_ne hne] at hd
    exact hd
  · rw [upd_ne hne] at hd
    refine h _ d (fun b o hb => ?_) hd upd_same
    have h1 : b ≠ d := ne_of_none hb hd
    have h2 : b ≠ e := ne_of_none hb he
    rw [upd_ne h1, del_ne h2, upd_ne h2, upd_ne h1, upd_ne h2]
    exact hb
/-! is_cell -/
def spIsCell (C : Addr) : Sp := fun vs H Q _ => ∃ (p : Addr) (n : Nat) (x : V), vs = [.ref p, x] ∧ LandC C H p n ∧ Thing H x ∧ Q (.bl (wholeV x 0 ((n : Nat) - 1))) H
theorem ok_iscell (T : Tl K mg a) {f fW : Addr} {fd fdW : FuncData} (F : Fun K "is_cell" "is_cell" s_is_cell f fd)
    (Giw : FnOk P w K mg base CX0 1 fW fdW ["thing", "low", "high"] spWhole) (giw : mg "is_whole" = some (.ref fW)) (kiw : PySem.W.keepIn K (.ref fW) = true) (biw : Binds K fdW ["thing", "low", "high"] []) : FnOk P w K mg base CX0 2 f fd ["land", "thing"] (spIsCell a.C) := by
  refine F.ok sc_is_cell (fun vs H Q E h => ?_) (fun cdv A outer s H vs Q E hr h => ?_)
  · obtain ⟨p, n, x, rfl, _⟩ := h
    rfl
  · obtain ⟨p, n, x, rfl, ⟨dx, fs, hp, hl⟩, hx, q⟩ := h
    refine ⟨_, (pss_one (ps_ret (pe_call Giw (hr.mono (by decide)) (by rfl) giw kiw biw .nil pass0 (pa_cons (pv 1) (pa_cons pe_int (pa_cons (pe_op op_sub (pe_fld (pv 0) rfl) pe_int) pa_nil)))))), ?_⟩
    exact ⟨_, rfl, .ref p, rfl, p, a.C, dx, fs, _, rfl, hp, T.cl, T.nA _ (by decide), hl, _, _, rfl, rfl, x, 0, _, rfl, hx, q⟩
/-! check_cells -/
def AllIn (n : Nat) (xs : List V) : Prop := ∀ x ∈ xs, wholeV x 0 ((n : Nat) - 1) = true
def spCheck (a : AdL) : Sp := fun vs H Q E => ∃ (p : Addr) (n : Nat) (xs : List V), vs = .ref p :: xs ∧ LandC a.C H p n ∧ xs.length < 64 ∧
  (((∀ x ∈ xs, Thing H x) ∧ AllIn n xs ∧ ∀ H', Same H H' → Q .non H') ∨ (∃ ys x zs, xs = ys ++ x :: zs ∧ (∀ x ∈ ys, Thing H x) ∧ AllIn n ys ∧ Thing H x ∧ wholeV x 0 ((n : Nat) - 1) = false ∧ Flies H a.B "cell" x E))
theorem ok_check (T : Tl K mg a) {f fI : Addr} {fd fdI fdB : FuncData} (F : Fun K "check_cells" "check_cells" s_check_cells f fd)
    (Gic : FnOk P w K mg base CX0 2 fI fdI ["land", "thing"] (spIsCell a.C)) (gic : mg "is_cell" = some (.ref fI)) (kic : PySem.W.keepIn K (.ref fI) = true) (bic : Binds K fdI ["land", "thing"] [])
    (FB0 : Fun K "__init__" "BadCell.__init__" s_BadCell___init__ a.iB fdB) (bB : Binds K fdB ["self", "cell"] []) : FnR P w K mg base (L2.CX P w) 4 f (spCheck a) := by
  have FB : FnOk P w K mg base (L2.CX P w) 1 a.iB fdB ["self", "cell"] (spX a.B "cell") := ok_iB T FB0
  obtain ⟨oc, od, kV, doc, pm, an, cdv, ct, osl, rfl, lk, hcd⟩ := F.ex
  have G := StX.fn_star (CX := L2.CX P w) (P := P) (w := w) (mg := mg) (base := base) (k := 3) (ps := ["land"]) (pv := "things") (sp := fun vs H Q E => ∃ (p t : Addr) (n : Nat) (xs : List V), vs = [.ref p, .ref t] ∧ H t = some (.tup xs) ∧ LandC a.C H p n ∧ xs.length < 64 ∧
    (((∀ x ∈ xs, Thing H x) ∧ AllIn n xs ∧ ∀ H', Same H H' → Q .non H') ∨ (∃ ys x zs, xs = ys ++ x :: zs ∧ (∀ x ∈ ys, Thing H x) ∧ AllIn n ys ∧ Thing H x ∧ wholeV x 0 ((n : Nat) - 1) = false ∧ Flies H a.B "cell" x E))) lk hcd sc_check_cells StX.cxUp (StX.bind_star1 (B := fun l => bindArgs (PySem.W.fnOf "check_cells" "check_cells" (defArgs s_check_cells) (defBody s_check_cells) (defScope s_check_cells) .none kV doc pm an cdv ct) ⟨l, []⟩) (p1 := "land") (pv := "things") (fun _ => rfl) fun _ _ _ => rfl) ?_
  · refine G.imp fun vs H Q E h => ?_
    obtain ⟨p, n, xs, rfl, hl, h64, hh⟩ := h
    refine ⟨[.ref p], xs, rfl, rfl, by rw [sizeLine_eq]; omega, fun t ht => ⟨p, t, n, xs, rfl, upd_same, hl.same (same_new (Same.refl H) ht), h64, ?_⟩⟩
    have e := same_new (o := .tup xs) (Same.refl H) ht
    rcases hh with ⟨h1, h2, h3⟩ | ⟨ys, x, zs, h1, h2, h3, h4, h5, h6⟩
    · exact .inl ⟨fun x hx => (h1 x hx).same e, h2, fun H' e' => h3 H' (e.trans e')⟩
    · exact .inr ⟨ys, x, zs, h1, fun x hx => (h2 x hx).same e, h3, h4.same e, h5, h6.later e⟩
  · intro A outer s H vs Q E hr h
    obtain ⟨p, t, n, xs, rfl, ht, hl, h64, hh⟩ := h
    have hrx : Room (1 + 1) _ := hr.mono (by decide)
    refine ⟨_, (pss_one (ps_for (passes_of rfl) rfl (pi_tup (pv 1)) (pg_name (i := 2) sc_check_cells.nd rfl (by first | exact Or.inl rfl | exact Or.inr rfl))
  (pss_one (ps_if (pt_not (pt_val (pe_call Gic (hr.mono (by decide)) (by rfl) gic kic bic .nil pass0 (pa_cons (pv 0) (pa_cons (pv 2) pa_nil)))))
  (pss_one (ps_raise rfl (takes_of rfl rfl rfl rfl) (pmk_oex T.oxB T.iCB T.tIB FB hrx bB .nil passL (by rfl) T.gB (pa_cons (pv 2) pa_nil))))
  pss_nil)))), ?_⟩
    refine ⟨_, rfl, t, rfl, ⟨xs, .inl (.inl ht)⟩, for_tup (xs := xs) (fun j τ H1 => H1 = H ∧ AllIn n (xs.take j) ∧ ∃ y, τ = [some (.ref p), some (.ref t), y]) ⟨rfl, fun x hx => (nomatch hx), none, rfl⟩ (fun j τ H1 _ pv => ?_) (fun j x τ H1 hx pv => ?_) (fun τ H1 pv => ?_)⟩
    · obtain ⟨rfl, _⟩ := pv
      exact .inl (.inl ht)
    · obtain ⟨rfl, al, y, rfl⟩ := pv
      have fin : ∀ b, wholeV x 0 ((n : Nat) - 1) = b → Thing H1 x ∧ (b = false → Flies H1 a.B "cell" x E) := by
        intro b hb
        rcases hh with ⟨h1, h2, h3⟩ | ⟨ys, x', zs, rfl, h2, h3, h4, h5, h6⟩
        · refine ⟨h1 x (List.mem_of_getElem? hx), fun e => ?_⟩
          rw [h2 x (List.mem_of_getElem? hx)] at hb
          rw [← hb] at e
          cases e
        · rcases Nat.lt_trichotomy j ys.length with lt | e | gt
          · rw [List.getElem?_append_left lt] at hx
            have m := List.mem_of_getElem? hx
            refine ⟨h2 x m, fun e => ?_⟩
            rw [h3 x m] at hb
            rw [← hb] at e
            cases e
          · rw [List.getElem?_append_right (by omega), e, Nat.sub_self] at hx
            obtain rfl : x' = x := Option.some.inj hx
            exact ⟨h4, fun _ => h6⟩
          · have m : x' ∈ (ys ++ x' :: zs).take j := by
              rw [List.take_append, List.take_of_length_le (by omega)]
              exact List.mem_append_right _ (by
                obtain ⟨k, hk⟩ : ∃ k, j - ys.length = k + 1 := ⟨j - ys.length - 1, by omega⟩
                rw [hk]
                exact List.mem_cons_self)
            rw [al x' m] at h5
            cases h5
      obtain ⟨hth, hfl⟩ := fin _ rfl
      refine ⟨_, rfl, _, rfl, p, n, x, rfl, hl, hth, _, rfl, ?_⟩
      cases hb : wholeV x 0 ((n : Nat) - 1) with
      | true =>
        refine iteF ⟨rfl, fun z hz => ?_, _, rfl⟩
        rw [List.take_add_one, hx] at hz
        rcases List.mem_append.mp hz with hz | hz
        · exact al z hz
        · rw [List.mem_singleton.mp hz]
          exact hb
      | false => exact iteT ⟨_, rfl, by show 1 ≤ 1000; decide, flies_go (hfl hb)⟩
    · obtain ⟨rfl, al, y, rfl⟩ := pv
      rcases hh with ⟨h1, h2, h3⟩ | ⟨ys, x', zs, rfl, h2, h3, h4, h5, h6⟩
      · exact h3 _ (Same.refl _)
      · rw [List.take_length] at al
        rw [al x' (List.mem_append_right _ List.mem_cons_self)] at h5
        cases h5
end
end K7
end
/-! ## EV -/
section
namespace K7E
open PySem PySem.Spec PyProof.Rows L2
/-- the inner range of a comprehension of two -/
theorem in_range {lo : Int} {n : Nat} {g : TG} {tt : TT} {te : TE} {vs : List Nat} {τ : L2.St} {H4 : Hp} {D : Addr} {Nx : Hp → Prop} (Pw : Nat → Hp → Prop) (h0 : Pw 0 H4)
    (hs : ∀ j H, j < n → Pw j H → g (.int (lo + j)) (wipe τ vs) H fun t3 H5 => wipe t3 vs = wipe τ vs ∧ tt t3 H5 fun b H6 => if b = true then te t3 H6 fun y H7 => ∃ acc, H7 D = some (.lst acc) ∧ acc.length < sizeLine ∧ Pw (j + 1) (upd H7 D (.lst (acc ++ [y]))) else Pw (j + 1) H6) (hd : ∀ H, Pw n H → Nx H) :
    ∃ W1 : Nat → Nat → Hp → Prop, (∃ m, W1 0 m H4) ∧ ∀ j k H, W1 j k H → ((Itr lo n).stop j H ∧ Nx H) ∨ ((Itr lo n).go j H ∧ ∃ N1 : Hp → Prop, (∀ H', N1 H' → ∃ k', k' < k ∧ W1 (j + 1) k' H') ∧
      ∀ x H', (Itr lo n).yld j H x H' → g x (wipe τ vs) H' fun t3 H5 => wipe t3 vs = wipe τ vs ∧ tt t3 H5 fun b H6 => if b = true then te t3 H6 fun y H7 => ∃ acc, H7 D = some (.lst acc) ∧ acc.length < sizeLine ∧ N1 (upd H7 D (.lst (acc ++ [y]))) else N1 H6) := by
  refine ⟨fun j k H => k + j = n ∧ Pw j H, ⟨n, rfl, h0⟩, fun j k H z => ?_⟩
  obtain ⟨hk, p⟩ := z
  rcases Nat.lt_or_ge j n with lt | ge
  · refine .inr ⟨lt, Pw (j + 1), fun H' p' => ⟨k - 1, by omega, by omega, p'⟩, fun x H' y => ?_⟩
    obtain ⟨rfl, rfl⟩ := y
    exact hs j _ lt p
  · obtain rfl : j = n := by omega
    exact .inl ⟨Nat.le_refl _, hd H p⟩
/-- the outer one -/
theorem out_range {lo : Int} {n : Nat} {g : TG} {tt : TT} {inner : (Hp → Prop) → L2.St → Hp → Prop} {vs : List Nat} {τ : L2.St} {H1 : Hp} {D : Addr} {Qd : Hp → Prop} (Pv : Nat → Hp → Prop) (h0 : Pv 0 (upd H1 D (.lst [])))
    (hs : ∀ i H, i < n → Pv i H → g (.int (lo + i)) (wipe τ vs) H fun t2 H2 => wipe t2 vs = wipe τ vs ∧ tt t2 H2 fun b H3 => if b = true then inner (Pv (i + 1)) t2 H3 else Pv (i + 1) H3) (hd : ∀ H, Pv n H → Qd H) :
    ∃ W : Nat → Nat → Hp → Prop, (∃ m, W 0 m (upd H1 D (.lst []))) ∧ ∀ i m H, W i m H → ((Itr lo n).stop i H ∧ Qd H) ∨ ((Itr lo n).go i H ∧ ∃ Nx : Hp → Prop, (∀ H', Nx H' → ∃ m', m' < m ∧ W (i + 1) m' H') ∧
      ∀ x H', (Itr lo n).yld i H x H' → g x (wipe τ vs) H' fun t2 H2 => wipe t2 vs = wipe τ vs ∧ tt t2 H2 fun b H3 => if b = true then inner Nx t2 H3 else Nx H3) := by
  refine ⟨fun i m H => m + i = n ∧ Pv i H, ⟨n, rfl, h0⟩, fun i m H z => ?_⟩
  obtain ⟨hm, p⟩ := z
  rcases Nat.lt_or_ge i n with lt | ge
  · refine .inr ⟨lt, Pv (i + 1), fun H' p' => ⟨m - 1, by omega, by omega, p'⟩, fun x H' y => ?_⟩
    obtain ⟨rfl, rfl⟩ := y
    exact hs i _ lt p
  · obtain rfl : i = n := by omega
    exact .inl ⟨Nat.le_refl _, hd H p⟩
end K7E
end
/-! ## P12 -/
section
open PySem PySem.Spec PyProof.Rows L2
namespace K7
abbrev N_Land___init__ : List Str := ["self", "cells", "neighbours", "roads", "couples", "couple", "a", "b"]
abbrev s_Land___init__ : Stmt := inClass (topS 19) 0
theorem sc_Land___init__ : FnScope ["self", "cells", "neighbours", "roads", "couples", "couple", "a", "b"] ["self", "cells", "neighbours", "roads"] (defScope s_Land___init__) := ⟨rfl, rfl, rfl, by decide +kernel, rfl, by decide +kernel, by decide +kernel⟩
/-! ### a land is made -/
structure LandO (C : Addr) (H : Hp) (p : Addr) (n : Nat) (es : List (Nat × Nat)) (rd : List Nat) : Prop where
  at_ : ∃ dx an ar ay ac tn ty tc, H p = some (.ins C dx (landFs (n : Nat) an ar ay ac)) ∧ H an = some (.tup (tn.map V.ref)) ∧ TAt H tn (pairs es) ∧ H ar = some (.tup (ints_ rd)) ∧ H ay = some (.tup (ty.map V.ref)) ∧ TAt H ty (nearV n es) ∧ H ac = some (.tup (tc.map V.ref)) ∧ TAt H tc (pairs (KL.allC n))
  n2 : 2 ≤ n
  n5 : n ≤ 5
  ok : LandOk n es
  rlt : ∀ c ∈ rd, c < n
  rnd : rd.Nodup
  rso : rd.Pairwise (· ≤ ·)
  r0 : 0 < rd.length
  rn : rd.length < n
theorem LandO.same {C : Addr} {H H' : Hp} {p : Addr} {n : Nat} {es : List (Nat × Nat)} {rd : List Nat} (h : LandO C H p n es rd) (e : Same H H') : LandO C H' p n es rd := by
  obtain ⟨dx, an, ar, ay, ac, tn, ty, tc, h1, h2, h3, h4, h5, h6, h7, h8⟩ := h.at_
  exact ⟨⟨dx, an, ar, ay, ac, tn, ty, tc, e _ _ h1, e _ _ h2, h3.same e, e _ _ h4, e _ _ h5, h6.same e, e _ _ h7, h8.same e⟩, h.n2, h.n5, h.ok, h.rlt, h.rnd, h.rso, h.r0, h.rn⟩
theorem LandO.c {C : Addr} {H : Hp} {p : Addr} {n : Nat} {es : List (Nat × Nat)} {rd : List Nat} (h : LandO C H p n es rd) : LandC C H p n := by
  obtain ⟨dx, an, ar, ay, ac, tn, ty, tc, h1, _⟩ := h.at_
  exact ⟨dx, _, h1, rfl⟩
/-- a land is written while an object is made: what is not an instance stays -/
theorem keepNI {C dx x : Addr} {fs : List (Str × V)} {H : Hp} (hx : H x = some (.ins C dx fs)) {b : Addr} {o o' : HO} (hb : H b = some o) (no : ∀ C dx fs, o ≠ .ins C dx fs) : upd H x o' b = some o := by
  rw [upd_ne (fun e => by rw [e, hx] at hb; exact no _ _ _ (Option.some.inj hb).symm)]
  exact hb
theorem cells_lot {n : Nat} {lot : List Nat} (h1 : ∀ c ∈ lot, c < n) (h2 : lot.Nodup) (h3 : 0 < lot.length) : cellsV (n : Nat) (ints_ lot) 1 = true := by
  unfold cellsV
  have e1 : (ints_ lot).all (fun x => wholeV x 0 (((n : Nat) : Int) - 1)) = true := by
    refine List.all_eq_true.mpr fun x hx => ?_
    obtain ⟨c, hc, rfl⟩ := List.mem_map.mp hx
    have := h1 c hc
    rw [wholeV_int, decide_eq_true (by omega), decide_eq_true (by omega)]
    rfl
  have e2 : ((ints_ lot).map intOf).Nodup := by
    unfold ints_
    rw [List.map_map, List.nodup_iff_pairwise_ne, List.pairwise_map]
    refine (List.nodup_iff_pairwise_ne.mp h2).imp fun {a b} ne e => ne ?_
    have e : ((a : Nat) : Int) = ((b : Nat) : Int) := e
    omega
  have e3 : (ints_ lot).length = lot.length := List.length_map ..
  rw [e1, decide_eq_true e2, e3, decide_eq_true (by omega)]
  rfl
theorem ints_back {ms : List Int} {lot : List Nat} (p : ms.Perm (lot.map fun c => ((c : Nat) : Int))) : ms = (ms.map Int.toNat).map fun c => ((c : Nat) : Int) := by
  rw [List.map_map]
  refine (List.map_id ms).symm.trans (List.map_congr_left fun x hx => ?_)
  obtain ⟨c, _, rfl⟩ := List.mem_map.mp (p.mem_iff.mp hx)
  rfl
/-- one more couple of the comprehension of all of them -/
def rowC (n i j : Nat) : List (Nat × Nat) := ((List.range j).filter fun b => decide (i ≠ b)).map fun b => (i, b)
def upC (n i : Nat) : List (Nat × Nat) := (List.range i).flatMap fun a => rowC n a n
theorem upC_succ (n i : Nat) : upC n (i + 1) = upC n i ++ rowC n i n := by
  unfold upC
  rw [List.range_succ, List.flatMap_append, List.flatMap_cons, List.flatMap_nil, List.append_nil]
theorem rowC_succ (n i j : Nat) : rowC n i (j + 1) = rowC n i j ++ (if i ≠ j then [(i, j)] else []) := by
  unfold rowC
  rw [range_filter, List.map_append]
  by_cases h : i = j
  · rw [if_neg (by rw [decide_eq_false (by simpa using h)]; decide), if_neg (by simpa using h)]
    rfl
  · rw [if_pos (decide_eq_true h), if_pos h]
    rfl
theorem rowC_len (n i j : Nat) : (rowC n i j).length ≤ j := by
  unfold rowC
  rw [List.length_map]
  exact Nat.le_trans (List.length_filter_le _ _) (by rw [List.length_range]; exact Nat.le_refl _)
theorem upC_len (n : Nat) : ∀ i, (upC n i).length ≤ i * n
  | 0 => Nat.zero_le _
  | i + 1 => by
    rw [upC_succ, List.length_append, Nat.succ_mul]
    exact Nat.add_le_add (upC_len n i) (rowC_len n i n)
theorem SqOf.ni {C dx x : Addr} {fs : List (Str × V)} {H : Hp} (hx : H x = some (.ins C dx fs)) {b : Addr} {xs : List V} (h : SqOf H b xs) (o' : HO) : SqOf (upd H x o') b xs :=
  h.imp (fun z => keepNI hx z fun _ _ _ e => by cases e) fun z => keepNI hx z fun _ _ _ e => by cases e
theorem TAt.ni {C dx x : Addr} {fs : List (Str × V)} {H : Hp} (hx : H x = some (.ins C dx fs)) {ts : List Addr} {ls : List (List Nat)} (h : TAt H ts ls) (o' : HO) : TAt (upd H x o') ts ls := h.mono fun b xs hb => keepNI hx hb fun _ _ _ e => by cases e
theorem But.put {x : Addr} {H H' : Hp} (h : But x H H') (o : HO) : But x H (upd H' x o) := fun b o' nb hb => by rw [upd_ne nb]; exact h b o' nb hb
theorem But.new {x p : Addr} {H H' : Hp} (h : But x H H') (np : H' p = none) (o : HO) : But x H (upd H' p o) := fun b o' nb hb => by
  have z := h b o' nb hb
  rw [upd_ne (ne_of_none z np)]
  exact z
theorem But.same {x : Addr} {H H' H'' : Hp} (h : But x H H') (e : Same H' H'') : But x H H'' := fun b o nb hb => e _ _ (h b o nb hb)
theorem iteTo {c : Prop} [Decidable c] {p q : Prop} (h : c) (x : p) : if c then p else q := by rw [if_pos h]; exact x
theorem iteFo {b : Bool} {p q : Prop} (h : b = false) (x : q) : if b = true then p else q := by rw [h]; exact x
theorem ints_map (lot : List Nat) : ints_ lot = (lot.map fun c => ((c : Nat) : Int)).map V.int := by
  unfold ints_
  rw [List.map_map]
  rfl
section
variable {P : Program} {w : World} {K : PySem.W.Frag} {mg : Str → Option Value} {base : Heap} {a : AdL}
def spLandI (a : AdL) : Sp := fun vs H Q _ => ∃ (x dx : Addr) (n : Nat) (an : Addr) (ts : List Addr) (cs : List (Nat × Nat)) (ar : Addr) (lot : List Nat), vs = [.ref x, .int (n : Nat), .ref an, .ref ar] ∧ H x = some (.ins a.C dx []) ∧ 2 ≤ n ∧ n ≤ 5 ∧
  SqOf H an (ts.map V.ref) ∧ CoAll H ts cs ∧ Cos n cs ∧ KL.Conn n cs ∧ SqOf H ar (ints_ lot) ∧ (∀ c ∈ lot, c < n) ∧ lot.Nodup ∧ 0 < lot.length ∧ lot.length < n ∧
  ∀ H' es rd, But x H H' → LandO a.C H' x n es rd → es.Perm (cs.map KL.srt) → rd.Perm lot → Q .non H'
theorem ok_landI (T : Tl K mg a) {tM : Tok} (gM : mg "MOST_CELLS" = some (.int 5 tM)) {f fW fB fC fH fN : Addr} {fd fdW fdB fdC fdH fdN : FuncData} (F : Fun K "__init__" "Land.__init__" s_Land___init__ f fd)
    (Giw : FnOk P w K mg base CX0 1 fW fdW ["thing", "low", "high"] spWhole) (giw : mg "is_whole" = some (.ref fW)) (kiw : PySem.W.keepIn K (.ref fW) = true) (biw : Binds K fdW ["thing", "low", "high"] [])
    (Gnb : FnOk P w K mg base CX0 4 fB fdB ["cells", "thing"] spNbrs) (gnb : mg "_are_neighbours" = some (.ref fB)) (knb : PySem.W.keepIn K (.ref fB) = true) (bnb : Binds K fdB ["cells", "thing"] [])
    (Gac : FnOk P w K mg base CX0 2 fC fdC ["many", "thing", "least"] (spCells K)) (gac : mg "are_cells" = some (.ref fC)) (kac : PySem.W.keepIn K (.ref fC) = true) (bac : Binds K fdC ["many", "thing", "least"] [])
    (Ght : FnOk P w K mg base CX0 2 fH fdH ["cells", "couples"] spHang) (ght : mg "hang_together" = some (.ref fH)) (kht : PySem.W.keepIn K (.ref fH) = true) (bht : Binds K fdH ["cells", "couples"] [])
    (Gnc : FnOk P w K mg base CX0 1 fN fdN ["cells", "couples"] spNear) (gnc : mg "nearby_cells" = some (.ref fN)) (knc : PySem.W.keepIn K (.ref fN) = true) (bnc : Binds K fdN ["cells", "couples"] [])
    (m_len : mg "len" = none) (m_sorted : mg "sorted" = none) (m_tuple : mg "tuple" = none) (m_range : mg "range" = none) : FnOk P w K mg base CX0 5 f fd ["self", "cells", "neighbours", "roads"] (spLandI a) := by
  refine F.ok sc_Land___init__ (fun vs H Q E h => ?_) (fun cdv A outer s H vs Q E hr h => ?_)
  · obtain ⟨x, dx, n, an, ts, cs, ar, lot, rfl, _⟩ := h
    rfl
  · obtain ⟨x, dx, n, an, ts, cs, ar, lot, rfl, hx, n2, n5, han, hT, hc, cn, har, llt, lnd, l0, ln, q⟩ := h
    refine ⟨_, (pss_cons (ps_if (pt_not (pt_val (pe_call Giw (hr.mono (by decide)) (by rfl) giw kiw biw .nil pass0 (pa_cons (pv 1) (pa_cons pe_int (pa_cons (pe_glob (v := .int 5) rfl gM ⟨_, rfl⟩) pa_nil))))))
  (pss_one ps_never)
  pss_nil)
 (pss_cons (ps_if (pt_not (pt_val (pe_call Gnb (hr.mono (by decide)) (by rfl) gnb knb bnb .nil pass0 (pa_cons (pv 1) (pa_cons (pv 2) pa_nil)))))
  (pss_one ps_never)
  pss_nil)
 (pss_cons (ps_if (pw_or (pt_not (pt_val (pe_call Gac (hr.mono (by decide)) (by rfl) gac kac bac .nil pass0 (pa_cons (pv 1) (pa_cons (pv 3) (pa_cons pe_int pa_nil)))))) (pw_or1 (pt_cmpR op_eq (pe_callB call_len_seq (by rfl) m_len boot_len (pa_cons (pv 3) pa_nil)) (pv 1) (nomark _)))).pt
  (pss_one ps_never)
  pss_nil)
 (Evl.pss_cut (ps_set (i := 4) sc_Land___init__.nd rfl (by first | exact Or.inl rfl | exact Or.inr rfl) (pe_callB cr_sortedPO (by rfl) m_sorted boot_sorted (pa_cons (pe_lc (own := [("couple", 5)]) (g := gName 5) (tt := tYes) rfl sc_Land___init__.nd (K7E.pi_either (pi_tup (pv 2)) (pi_list (pv 2))) (blkOk_by (own := [("couple", 5)]) (N := N_Land___init__) (sc := defScope s_Land___init__) (by decide +kernel)) (fun _ _ _ _ _ => (pg_name (i := 5) sc_Land___init__.nd rfl (by first | exact Or.inl rfl | exact Or.inr rfl))) (fun _ _ _ _ _ => pts_nil) (fun _ _ _ _ _ => (pe_callTy (show CallR _ (.type "tuple") (rTup_ K) from call_tuple_of) (by rfl) m_tuple boot_tuple (pa_cons (pe_callB (show CallR _ (.builtin "sorted") (K7S.rSortA K) from K7S.cr_sortA) (by rfl) m_sorted boot_sorted (pa_cons (pv 5) pa_nil)) pa_nil)))) pa_nil)))
 (pss_cons (ps_if (pt_not (pt_val (pe_call Ght (hr.mono (by decide)) (by rfl) ght kht bht .nil pass0 (pa_cons (pv 1) (pa_cons (pv 4) pa_nil)))))
  (pss_one ps_never)
  pss_nil)
 (pss_cons (ps_fld (pv 0) (pv 1) rfl)
 (pss_cons (ps_fld (pv 0) (pe_callTy call_tuple_of (by rfl) m_tuple boot_tuple (pa_cons (pv 4) pa_nil)) rfl)
 (pss_cons (ps_fld (pv 0) (pe_callTy call_tuple_of (by rfl) m_tuple boot_tuple (pa_cons (pe_callB K7S.cr_sortA (by rfl) m_sorted boot_sorted (pa_cons (pv 3) pa_nil)) pa_nil)) rfl)
 (pss_cons (ps_fld (pv 0) (pe_call Gnc (hr.mono (by decide)) (by rfl) gnc knc bnc .nil pass0 (pa_cons (pv 1) (pa_cons (pv 4) pa_nil))) rfl)
 (pss_one (ps_fld (pv 0) (pe_callTy call_tuple_of (by rfl) m_tuple boot_tuple (pa_cons (pe_lc2 (own := [("a", 6), ("b", 7)]) (vs1 := [7]) (g := gName 6) (g1 := gName 7) (tt := tYes) rfl sc_Land___init__.nd (pi_range1 rfl m_range (pa_cons (pv 1) pa_nil)) (blkOk_by (own := [("a", 6), ("b", 7)]) (N := N_Land___init__) (sc := defScope s_Land___init__) (by decide +kernel)) (by decide) (fun _ _ _ _ _ => (pg_name (i := 6) sc_Land___init__.nd rfl (by first | exact Or.inl rfl | exact Or.inr rfl))) (fun _ _ _ _ _ => pts_nil) (fun _ _ _ _ _ => (pi_range1 rfl m_range (pa_cons (pv 1) pa_nil))) (fun _ _ _ _ _ => (pg_name (i := 7) sc_Land___init__.nd rfl (by first | exact Or.inl rfl | exact Or.inr rfl))) (fun _ _ _ _ _ => (pts_one (pt_cmpR op_ne (pv 6) (pv 7) (nomark _)))) (fun _ _ _ _ _ => (pe_tup (pa_cons (pv 6) (pa_cons (pv 7) pa_nil))))) pa_nil)) rfl))))))))))), ?_⟩
    have hl : ts.length = cs.length := hT.1
    have h32 := hc.len
    have lilen : (ints_ lot).length = lot.length := List.length_map ..
    refine ⟨_, rfl, .int (n : Nat), 2, 5, rfl, .flat (.int _), _, rfl, ?_⟩
    rw [wholeV_int, decide_eq_true (by omega), decide_eq_true (by omega)]
    refine iteF ?_
    refine ⟨_, rfl, _, rfl, n, an, ts, cs, rfl, han, hT, hc, fun H1 e1 => ⟨_, rfl, iteF ?_⟩⟩
    refine ⟨_, rfl, _, rfl, n, .ref ar, 1, rfl, .inr ⟨ar, ints_ lot, rfl, har.same e1, fun y hy => ?_, by rw [lilen]; omega, fun H2 e2 => ?_⟩⟩
    · obtain ⟨k, _, rfl⟩ := List.mem_map.mp hy
      exact .flat (.int _)
    rw [cells_lot llt lnd l0]
    have e02 := e1.trans e2
    refine ⟨_, rfl, _, rfl, ar, ints_ lot, rfl, (har.same e02).sq, _, rfl, rfl, _, rfl, ?_⟩
    rw [lilen, decide_eq_false (fun e => by injection e with e; omega)]
    refine iteF ?_
    have han2 := han.same e02
    have hT2 := hT.same e02
    -- the couples, in order
    refine ⟨fun σ' H' => ∃ p us es y5 y6 y7, σ' = [some (.ref x), some (.int (n : Nat)), some (.ref an), some (.ref ar), some (.ref p), y5, y6, y7] ∧ Same H H' ∧ H' p = some (.lst (us.map V.ref)) ∧ TAt H' us (pairs es) ∧ LandOk n es ∧ es.Perm (cs.map KL.srt), ?_, fun σ' H' hM => ?_⟩
    · rcases han2 with z | z
      · refine .inl ⟨_, rfl, an, rfl, ⟨_, .inl (.inl z)⟩, fun D hD => lc_tup (xs := ts.map V.ref) (fun j H3 => Same H2 H3 ∧ ∃ us, H3 D = some (.lst (us.map V.ref)) ∧ TAt H3 us (pairs ((cs.take j).map KL.srt)) ∧ us.length ≤ j) ⟨same_new (Same.refl H2) hD, [], upd_same, .nil, Nat.le_refl _⟩ (fun j H3 _ pv => .inl (.inl (pv.1 _ _ z))) (fun j y H3 hy pv => ?_) (fun H3 pv => ?_)⟩
        · obtain ⟨e3, us, hD3, tD, lu⟩ := pv
          rw [List.getElem?_map] at hy
          obtain ⟨t', ht', rfl⟩ := Option.map_eq_some_iff.mp hy
          have hj : j < cs.length := by rw [← hl]; exact (List.getElem?_eq_some_iff.mp ht').1
          have hco := (hT2.2 j t' _ ht' (List.getElem?_eq_getElem hj)).same e3
          refine ⟨rfl, _, rfl, t', [(cs[j].1 : Int), (cs[j].2 : Int)], rfl, hco.sq, by show 2 < 64; decide, fun ms p pm so np => ?_⟩
          have em := KL.two_sorted pm so
          subst em
          refine ⟨p, _, rfl, .inl ⟨.inl (.inl upd_same), fun l nl => ?_⟩⟩
          have s1 := same_new (o := .lst ([((min cs[j].1 cs[j].2 : Nat) : Int), ((max cs[j].1 cs[j].2 : Nat) : Int)].map V.int)) (Same.refl H3) np
          have s2 := same_new (o := .tup ([((min cs[j].1 cs[j].2 : Nat) : Int), ((max cs[j].1 cs[j].2 : Nat) : Int)].map V.int)) s1 nl
          have hD4 := s2 _ _ hD3
          refine ⟨_, hD4, by rw [List.length_map]; exact small1000 (by omega), fun b o hb => ?_, us ++ [l], by rw [upd_same, List.map_append]; rfl, ?_, by rw [List.length_append, List.length_singleton]; omega⟩
          · rw [upd_ne (ne_of_none hb hD)]
            exact s2 _ _ (e3 _ _ hb)
          · rw [List.take_add_one, List.getElem?_eq_getElem hj, List.map_append]
            unfold pairs
            rw [List.map_append]
            have up : ∀ b xs, upd (upd H3 p (.lst ([((min cs[j].1 cs[j].2 : Nat) : Int), ((max cs[j].1 cs[j].2 : Nat) : Int)].map V.int))) l (.tup ([((min cs[j].1 cs[j].2 : Nat) : Int), ((max cs[j].1 cs[j].2 : Nat) : Int)].map V.int)) b = some (.tup xs) → upd (upd (upd H3 p (.lst ([((min cs[j].1 cs[j].2 : Nat) : Int), ((max cs[j].1 cs[j].2 : Nat) : Int)].map V.int))) l (.tup ([((min cs[j].1 cs[j].2 : Nat) : Int), ((max cs[j].1 cs[j].2 : Nat) : Int)].map V.int))) D (.lst (us.map V.ref ++ [.ref l])) b = some (.tup xs) := fun b xs hb => by
              rw [upd_ne (fun e => by rw [e, hD4] at hb; cases hb)]
              exact hb
            exact ((tD.same s2).mono up).append (.cons (up _ _ upd_same) .nil)
        · obtain ⟨e3, us, hD3, tD, lu⟩ := pv
          rw [List.length_map, hl, List.take_length] at tD
          refine ⟨D, us.map V.ref, kfOf H3, rfl, .inl (.inl hD3), fun y hy => ?_, fun ys p srt stb np => ?_⟩
          · obtain ⟨b, e, rfl, hb⟩ := g_mem tD y hy
            exact ⟨b, rfl, by rw [kf_at hb]; exact hb⟩
          · have hys := fun y (hy : y ∈ ys) => g_mem tD y (stb.perm.mem_iff.mp hy)
            obtain ⟨us', rfl, tY⟩ := tat_of ys hys
            have pe : ((us'.map V.ref).map (gOf H3)).Perm (cs.map KL.srt) := by
              have z := stb.perm.map (gOf H3)
              rw [g_map tD] at z
              exact z
            have s4 := same_new (o := .lst (us'.map V.ref)) (Same.refl H3) np
            refine ⟨p, us', _, _, _, _, rfl, e02.trans (e3.trans s4), upd_same, tY.same s4, ⟨fun e he => ?_, pe.nodup_iff.mpr hc.nd, sorted_of _ hys srt, KL.conn_srt cn pe⟩, pe⟩
            obtain ⟨c, hcm, rfl⟩ := List.mem_map.mp (pe.mem_iff.mp he)
            obtain ⟨c1, c2, c3⟩ := hc.lt c hcm
            refine ⟨KL.srt_lt c3, ?_⟩
            unfold KL.srt
            simp only
            omega
      · refine .inr ⟨_, rfl, an, rfl, ⟨_, .inl (.inl z)⟩, fun D hD => lc_list (xs := ts.map V.ref) (fun j H3 => Same H2 H3 ∧ ∃ us, H3 D = some (.lst (us.map V.ref)) ∧ TAt H3 us (pairs ((cs.take j).map KL.srt)) ∧ us.length ≤ j) ⟨same_new (Same.refl H2) hD, [], upd_same, .nil, Nat.le_refl _⟩ (fun j H3 _ pv => .inl (.inl (pv.1 _ _ z))) (fun j y H3 hy pv => ?_) (fun H3 pv => ?_)⟩
        · obtain ⟨e3, us, hD3, tD, lu⟩ := pv
          rw [List.getElem?_map] at hy
          obtain ⟨t', ht', rfl⟩ := Option.map_eq_some_iff.mp hy
          have hj : j < cs.length := by rw [← hl]; exact (List.getElem?_eq_some_iff.mp ht').1
          have hco := (hT2.2 j t' _ ht' (List.getElem?_eq_getElem hj)).same e3
          refine ⟨rfl, _, rfl, t', [(cs[j].1 : Int), (cs[j].2 : Int)], rfl, hco.sq, by show 2 < 64; decide, fun ms p pm so np => ?_⟩
          have em := KL.two_sorted pm so
          subst em
          refine ⟨p, _, rfl, .inl ⟨.inl (.inl upd_same), fun l nl => ?_⟩⟩
          have s1 := same_new (o := .lst ([((min cs[j].1 cs[j].2 : Nat) : Int), ((max cs[j].1 cs[j].2 : Nat) : Int)].map V.int)) (Same.refl H3) np
          have s2 := same_new (o := .tup ([((min cs[j].1 cs[j].2 : Nat) : Int), ((max cs[j].1 cs[j].2 : Nat) : Int)].map V.int)) s1 nl
          have hD4 := s2 _ _ hD3
          refine ⟨_, hD4, by rw [List.length_map]; exact small1000 (by omega), fun b o hb => ?_, us ++ [l], by rw [upd_same, List.map_append]; rfl, ?_, by rw [List.length_append, List.length_singleton]; omega⟩
          · rw [upd_ne (ne_of_none hb hD)]
            exact s2 _ _ (e3 _ _ hb)
          · rw [List.take_add_one, List.getElem?_eq_getElem hj, List.map_append]
            unfold pairs
            rw [List.map_append]
            have up : ∀ b xs, upd (upd H3 p (.lst ([((min cs[j].1 cs[j].2 : Nat) : Int), ((max cs[j].1 cs[j].2 : Nat) : Int)].map V.int))) l (.tup ([((min cs[j].1 cs[j].2 : Nat) : Int), ((max cs[j].1 cs[j].2 : Nat) : Int)].map V.int)) b = some (.tup xs) → upd (upd (upd H3 p (.lst ([((min cs[j].1 cs[j].2 : Nat) : Int), ((max cs[j].1 cs[j].2 : Nat) : Int)].map V.int))) l (.tup ([((min cs[j].1 cs[j].2 : Nat) : Int), ((max cs[j].1 cs[j].2 : Nat) : Int)].map V.int))) D (.lst (us.map V.ref ++ [.ref l])) b = some (.tup xs) := fun b xs hb => by
              rw [upd_ne (fun e => by rw [e, hD4] at hb; cases hb)]
              exact hb
            exact ((tD.same s2).mono up).append (.cons (up _ _ upd_same) .nil)
        · obtain ⟨e3, us, hD3, tD, lu⟩ := pv
          rw [List.length_map, hl, List.take_length] at tD
          refine ⟨D, us.map V.ref, kfOf H3, rfl, .inl (.inl hD3), fun y hy => ?_, fun ys p srt stb np => ?_⟩
          · obtain ⟨b, e, rfl, hb⟩ := g_mem tD y hy
            exact ⟨b, rfl, by rw [kf_at hb]; exact hb⟩
          · have hys := fun y (hy : y ∈ ys) => g_mem tD y (stb.perm.mem_iff.mp hy)
            obtain ⟨us', rfl, tY⟩ := tat_of ys hys
            have pe : ((us'.map V.ref).map (gOf H3)).Perm (cs.map KL.srt) := by
              have z := stb.perm.map (gOf H3)
              rw [g_map tD] at z
              exact z
            have s4 := same_new (o := .lst (us'.map V.ref)) (Same.refl H3) np
            refine ⟨p, us', _, _, _, _, rfl, e02.trans (e3.trans s4), upd_same, tY.same s4, ⟨fun e he => ?_, pe.nodup_iff.mpr hc.nd, sorted_of _ hys srt, KL.conn_srt cn pe⟩, pe⟩
            obtain ⟨c, hcm, rfl⟩ := List.mem_map.mp (pe.mem_iff.mp he)
            obtain ⟨c1, c2, c3⟩ := hc.lt c hcm
            refine ⟨KL.srt_lt c3, ?_⟩
            unfold KL.srt
            simp only
            omega
    · obtain ⟨p, us, es, y5, y6, y7, rfl, eM, hp, tU, ok, pe⟩ := hM
      have esl : es.length = cs.length := by rw [pe.length_eq, List.length_map]
      refine ⟨_, rfl, _, rfl, n, p, us, es, rfl, by omega, n5, hp, tU, by omega, fun e he => ?_, ok.conn, fun H5 e5 => ⟨_, rfl, iteF ?_⟩⟩
      · obtain ⟨l1, l2⟩ := ok.lt e he
        exact ⟨by omega, l2⟩
      have b5 : But x H H5 := fun b o _ hb => e5 _ _ (eM _ _ hb)
      have hx5 := e5 _ _ (eM _ _ hx)
      have hp5 := e5 _ _ hp
      have tU5 := tU.same e5
      have har5 := (har.same eM).same e5
      -- cells
      refine ⟨_, rfl, _, rfl, x, a.C, dx, _, rfl, hx5, T.cl, T.nA _ (by decide), by show 0 < 1000; decide, ?_⟩
      have b6 := b5.put (.ins a.C dx (putF "cells" (.int (n : Nat)) []))
      have hx6 : upd H5 x (.ins a.C dx (putF "cells" (.int (n : Nat)) [])) x = _ := upd_same
      have hp6 := keepNI (o' := .ins a.C dx (putF "cells" (.int (n : Nat)) [])) hx5 hp5 fun _ _ _ e => by cases e
      have tU6 := tU5.ni hx5 (.ins a.C dx (putF "cells" (.int (n : Nat)) []))
      have har6 := har5.ni hx5 (.ins a.C dx (putF "cells" (.int (n : Nat)) []))
      generalize upd H5 x (.ins a.C dx (putF "cells" (.int (n : Nat)) [])) = H6 at b6 hx6 hp6 tU6 har6 ⊢
      -- neighbours
      refine ⟨_, rfl, p, us.map V.ref, rfl, .inl ⟨.inl (.inl hp6), fun tn ntn => ?_⟩⟩
      have s7 := same_new (o := .tup (us.map V.ref)) (Same.refl H6) ntn
      have b7 := b6.same s7
      have hx7 := s7 _ _ hx6
      refine ⟨_, rfl, x, a.C, dx, _, rfl, hx7, T.cl, T.nA _ (by decide), by show 1 < 1000; decide, ?_⟩
      have b8 := b7.put (.ins a.C dx (putF "neighbours" (.ref tn) (putF "cells" (.int (n : Nat)) [])))
      have hx8 : upd (upd H6 tn (.tup (us.map V.ref))) x (.ins a.C dx (putF "neighbours" (.ref tn) (putF "cells" (.int (n : Nat)) []))) x = _ := upd_same
      have hp8 := keepNI (o' := .ins a.C dx (putF "neighbours" (.ref tn) (putF "cells" (.int (n : Nat)) []))) hx7 (s7 _ _ hp6) fun _ _ _ e => by cases e
      have tU8 := (tU6.same s7).ni hx7 (.ins a.C dx (putF "neighbours" (.ref tn) (putF "cells" (.int (n : Nat)) [])))
      have har8 := (har6.same s7).ni hx7 (.ins a.C dx (putF "neighbours" (.ref tn) (putF "cells" (.int (n : Nat)) [])))
      have hn8 := keepNI (o' := .ins a.C dx (putF "neighbours" (.ref tn) (putF "cells" (.int (n : Nat)) []))) hx7 (show upd H6 tn (.tup (us.map V.ref)) tn = _ from upd_same) fun _ _ _ e => by cases e
      generalize upd (upd H6 tn (.tup (us.map V.ref))) x (.ins a.C dx (putF "neighbours" (.ref tn) (putF "cells" (.int (n : Nat)) []))) = H8 at b8 hx8 hp8 tU8 har8 hn8 ⊢
      -- roads
      have harI : SqOf H8 ar ((lot.map fun c => ((c : Nat) : Int)).map V.int) := by rw [← ints_map]; exact har8
      refine ⟨_, rfl, ar, lot.map fun c => ((c : Nat) : Int), rfl, harI.sq, by rw [List.length_map]; omega, fun ms pl pm so npl => ⟨pl, _, rfl, .inl ⟨.inl (.inl upd_same), fun tr ntr => ?_⟩⟩⟩
      have ems := ints_back pm
      have e12 : ms.map V.int = ints_ (ms.map Int.toNat) := by rw [ints_map, ← ems]
      rw [e12] at ntr ⊢
      have prd : (ms.map Int.toNat).Perm lot := by
        have z := pm.map Int.toNat
        rw [List.map_map] at z
        exact z.trans (List.Perm.of_eq ((List.map_congr_left fun c _ => rfl).trans (List.map_id lot)))
      have srd : (ms.map Int.toNat).Pairwise (· ≤ ·) := by
        rw [List.pairwise_map]
        exact so.imp fun {a b} h => by omega
      generalize ms.map Int.toNat = rd at prd srd ntr ⊢
      have s9 := same_new (o := .lst (ints_ rd)) (Same.refl H8) npl
      have s10 := same_new (o := .tup (ints_ rd)) s9 ntr
      have hr10 : upd (upd H8 pl (.lst (ints_ rd))) tr (.tup (ints_ rd)) tr = some (.tup (ints_ rd)) := upd_same
      generalize upd (upd H8 pl (.lst (ints_ rd))) tr (.tup (ints_ rd)) = H10 at s10 hr10 ⊢
      have hx10 := s10 _ _ hx8
      refine ⟨_, rfl, x, a.C, dx, _, rfl, hx10, T.cl, T.nA _ (by decide), by show 2 < 1000; decide, ?_⟩
      have b11 := (b8.same s10).put (.ins a.C dx (putF "roads" (.ref tr) (putF "neighbours" (.ref tn) (putF "cells" (.int (n : Nat)) []))))
      have hx11 : upd H10 x (.ins a.C dx (putF "roads" (.ref tr) (putF "neighbours" (.ref tn) (putF "cells" (.int (n : Nat)) [])))) x = _ := upd_same
      have hp11 := keepNI (o' := .ins a.C dx (putF "roads" (.ref tr) (putF "neighbours" (.ref tn) (putF "cells" (.int (n : Nat)) [])))) hx10 (s10 _ _ hp8) fun _ _ _ e => by cases e
      have tU11 := (tU8.same s10).ni hx10 (.ins a.C dx (putF "roads" (.ref tr) (putF "neighbours" (.ref tn) (putF "cells" (.int (n : Nat)) []))))
      have hn11 := keepNI (o' := .ins a.C dx (putF "roads" (.ref tr) (putF "neighbours" (.ref tn) (putF "cells" (.int (n : Nat)) [])))) hx10 (s10 _ _ hn8) fun _ _ _ e => by cases e
      have hr11 := keepNI (o' := .ins a.C dx (putF "roads" (.ref tr) (putF "neighbours" (.ref tn) (putF "cells" (.int (n : Nat)) [])))) hx10 hr10 fun _ _ _ e => by cases e
      generalize upd H10 x (.ins a.C dx (putF "roads" (.ref tr) (putF "neighbours" (.ref tn) (putF "cells" (.int (n : Nat)) [])))) = H11 at b11 hx11 hp11 tU11 hn11 hr11 ⊢
      -- nearby
      refine ⟨_, rfl, _, rfl, n, p, us, es, rfl, n5, hp11, tU11, by omega, fun H12 ty uy s12 nty hy12 tY12 => ?_⟩
      have hx12 := s12 _ _ hx11
      refine ⟨_, rfl, x, a.C, dx, _, rfl, hx12, T.cl, T.nA _ (by decide), by show 3 < 1000; decide, ?_⟩
      have b13 := (b11.same s12).put (.ins a.C dx (putF "nearby" (.ref ty) (putF "roads" (.ref tr) (putF "neighbours" (.ref tn) (putF "cells" (.int (n : Nat)) [])))))
      have hx13 : upd H12 x (.ins a.C dx (putF "nearby" (.ref ty) (putF "roads" (.ref tr) (putF "neighbours" (.ref tn) (putF "cells" (.int (n : Nat)) []))))) x = _ := upd_same
      have tU13 := (tU11.same s12).ni hx12 (.ins a.C dx (putF "nearby" (.ref ty) (putF "roads" (.ref tr) (putF "neighbours" (.ref tn) (putF "cells" (.int (n : Nat)) [])))))
      have tY13 := tY12.ni hx12 (.ins a.C dx (putF "nearby" (.ref ty) (putF "roads" (.ref tr) (putF "neighbours" (.ref tn) (putF "cells" (.int (n : Nat)) [])))))
      have hn13 := keepNI (o' := .ins a.C dx (putF "nearby" (.ref ty) (putF "roads" (.ref tr) (putF "neighbours" (.ref tn) (putF "cells" (.int (n : Nat)) []))))) hx12 (s12 _ _ hn11) fun _ _ _ e => by cases e
      have hr13 := keepNI (o' := .ins a.C dx (putF "nearby" (.ref ty) (putF "roads" (.ref tr) (putF "neighbours" (.ref tn) (putF "cells" (.int (n : Nat)) []))))) hx12 (s12 _ _ hr11) fun _ _ _ e => by cases e
      have hy13 := keepNI (o' := .ins a.C dx (putF "nearby" (.ref ty) (putF "roads" (.ref tr) (putF "neighbours" (.ref tn) (putF "cells" (.int (n : Nat)) []))))) hx12 hy12 fun _ _ _ e => by cases e
      generalize upd H12 x (.ins a.C dx (putF "nearby" (.ref ty) (putF "roads" (.ref tr) (putF "neighbours" (.ref tn) (putF "cells" (.int (n : Nat)) []))))) = H13 at b13 hx13 tU13 hn13 hr13 hy13 tY13 ⊢
      -- couples
      refine ⟨_, rfl, _, rfl, by omega, by omega, fun D hD => K7E.out_range (lo := 0) (n := n) (fun i H' => Same H13 H' ∧ ∃ vs, H' D = some (.lst (vs.map V.ref)) ∧ TAt H' vs (pairs (upC n i)) ∧ vs.length ≤ i * n) ⟨same_new (Same.refl H13) hD, [], upd_same, .nil, Nat.zero_le _⟩ (fun i H' hi pv => ?_) (fun H' pv => ?_)⟩
      · obtain ⟨e14, vs, hD14, tV, lv⟩ := pv
        refine ⟨rfl, _, rfl, _, rfl, by omega, by omega, K7E.in_range (lo := 0) (n := n) (fun j H'' => Same H13 H'' ∧ ∃ vs, H'' D = some (.lst (vs.map V.ref)) ∧ TAt H'' vs (pairs (upC n i ++ rowC n i j)) ∧ vs.length ≤ i * n + j) ⟨e14, vs, hD14, ?_, lv⟩ (fun j H'' hj pv => ?_) (fun H'' pv => ?_)⟩
        · show TAt H' vs (pairs (upC n i ++ []))
          rw [List.append_nil]
          exact tV
        · obtain ⟨e15, vs, hD15, tV, lv⟩ := pv
          refine ⟨rfl, _, rfl, _, rfl, rfl, _, rfl, ?_⟩
          by_cases hij : i = j
          · subst hij
            have er : rowC n i (i + 1) = rowC n i i := by rw [rowC_succ, if_neg (fun h => h rfl), List.append_nil]
            have e16 : (!decide (V.int (0 + (i : Nat)) = V.int (0 + (i : Nat)))) = false := by rw [decide_eq_true rfl]; rfl
            rw [e16]
            refine iteF ⟨e15, vs, hD15, ?_, by omega⟩
            rw [er]
            exact tV
          · have er : rowC n i (j + 1) = rowC n i j ++ [(i, j)] := by rw [rowC_succ, if_pos hij]
            have e16 : (!decide (V.int (0 + (i : Nat)) = V.int (0 + (j : Nat)))) = true := by
              rw [decide_eq_false (fun h => by injection h with h; exact hij (by omega))]
              rfl
            have hin : i * n ≤ 25 := Nat.le_trans (Nat.mul_le_mul (Nat.le_of_lt (Nat.lt_of_lt_of_le hi n5)) n5) (by decide)
            rw [e16]
            refine iteT ⟨_, rfl, _, rfl, by show 2 ≤ sizeLine; decide, fun t nt => ?_⟩
            rw [er]
            have sT := same_new (o := .tup [.int (0 + (i : Nat)), .int (0 + (j : Nat))]) (Same.refl H'') nt
            have up : ∀ b xs, upd H'' t (.tup [.int (0 + (i : Nat)), .int (0 + (j : Nat))]) b = some (.tup xs) → upd (upd H'' t (.tup [.int (0 + (i : Nat)), .int (0 + (j : Nat))])) D (.lst (vs.map V.ref ++ [.ref t])) b = some (.tup xs) := fun b xs hb => by
              rw [upd_ne (fun z => by rw [z, sT _ _ hD15] at hb; cases hb)]
              exact hb
            refine ⟨_, sT _ _ hD15, by rw [List.length_map]; exact small1000 (by omega), fun b o hb => ?_, vs ++ [t], by rw [upd_same, List.map_append]; rfl, ?_, by rw [List.length_append, List.length_singleton]; omega⟩
            · rw [upd_ne (ne_of_none hb hD)]
              exact sT _ _ (e15 _ _ hb)
            · rw [← List.append_assoc]
              unfold pairs
              rw [List.map_append]
              refine ((tV.same sT).mono up).append (.cons (up _ _ ?_) .nil)
              rw [upd_same, Int.zero_add, Int.zero_add]
              rfl
        · obtain ⟨e15, vs, hD15, tV, lv⟩ := pv
          exact ⟨e15, vs, hD15, by rw [upC_succ]; exact tV, by rw [Nat.succ_mul]; exact lv⟩
      · obtain ⟨e14, vs, hD14, tV, lv⟩ := pv
        refine ⟨D, vs.map V.ref, rfl, .inl ⟨.inl (.inl hD14), fun tc ntc => ?_⟩⟩
        have sC := same_new (o := .tup (vs.map V.ref)) e14 ntc
        have hc14 : upd H' tc (.tup (vs.map V.ref)) tc = some (.tup (vs.map V.ref)) := upd_same
        have tV14 := tV.same (same_new (o := .tup (vs.map V.ref)) (Same.refl H') ntc)
        generalize upd H' tc (.tup (vs.map V.ref)) = H15 at sC hc14 tV14 ⊢
        have hx15 := sC _ _ hx13
        refine ⟨_, rfl, x, a.C, dx, _, rfl, hx15, T.cl, T.nA _ (by decide), by show 4 < 1000; decide, ?_⟩
        have no : ∀ (xs : List V) (C dx : Addr) fs, HO.tup xs ≠ .ins C dx fs := fun _ _ _ _ e => by cases e
        exact q _ es rd ((b13.same sC).put _) ⟨⟨dx, tn, tr, ty, tc, us, uy, vs, upd_same, keepNI hx15 (sC _ _ hn13) (no _), (tU13.same sC).ni hx15 _, keepNI hx15 (sC _ _ hr13) (no _), keepNI hx15 (sC _ _ hy13) (no _), (tY13.same sC).ni hx15 _, keepNI hx15 hc14 (no _), tV14.ni hx15 _⟩,
          n2, n5, ok, fun c hc => llt c (prd.mem_iff.mp hc), prd.nodup_iff.mpr lnd, srd, by rw [prd.length_eq]; exact l0, by rw [prd.length_eq]; exact ln⟩ pe prd
end
end K7
end
/-! ## P13 -/
section
open PySem PySem.Spec PyProof.Rows L2
namespace K7
abbrev N_Land_couples : List Str := ["self"]
abbrev s_Land_couples : Stmt := inClass (topS 19) 2
theorem sc_Land_couples : FnScope ["self"] ["self"] (defScope s_Land_couples) := ⟨rfl, rfl, rfl, by decide +kernel, rfl, by decide +kernel, by decide +kernel⟩
theorem near_get {n : Nat} {es : List (Nat × Nat)} {c : Nat} (h : c < n) : (nearV n es)[c]? = some ((List.range n).filter fun b => decide ((c, b) ∈ es) || decide ((b, c) ∈ es)) := by
  unfold nearV
  rw [List.getElem?_map, List.getElem?_range h]
  rfl
def nearOf (n : Nat) (es : List (Nat × Nat)) (c : Nat) : List Nat := (List.range n).filter fun b => decide ((c, b) ∈ es) || decide ((b, c) ∈ es)
/-- a cell, or what is no cell and is told so -/
def CellOr (B : Addr) (n : Nat) (H : Hp) (x : V) (E : XK) (q : Nat → Prop) : Prop := (∃ c, x = .int (c : Nat) ∧ c < n ∧ q c) ∨ (Thing H x ∧ wholeV x 0 ((n : Nat) - 1) = false ∧ Flies H B "cell" x E)
theorem whole_cell {n c : Nat} (h : c < n) : wholeV (.int (c : Nat)) 0 (((n : Nat) : Int) - 1) = true := by
  rw [wholeV_int, decide_eq_true (by omega), decide_eq_true (by omega)]
  rfl
theorem one_in {n c : Nat} (h : c < n) : AllIn n [.int (c : Nat)] := fun x hx => by
  rw [List.mem_singleton.mp hx]
  exact whole_cell h
section
variable {P : Program} {w : World} {K : PySem.W.Frag} {mg : Str → Option Value} {base : Heap} {a : AdL}
def spCouples (C : Addr) : Sp := fun vs H Q _ => ∃ (p : Addr) (n : Nat) (es : List (Nat × Nat)) (rd : List Nat), vs = [.ref p] ∧ LandO C H p n es rd ∧ ∀ u tc, H u = some (.tup (tc.map V.ref)) → TAt H tc (pairs (KL.allC n)) → Q (.ref u) H
theorem ok_couples (T : Tl K mg a) {f : Addr} {fd : FuncData} (F : Fun K "couples" "Land.couples" s_Land_couples f fd) : FnOk P w K mg base CX0 1 f fd ["self"] (spCouples a.C) := by
  refine F.ok sc_Land_couples (fun vs H Q E h => ?_) (fun cdv A outer s H vs Q E hr h => ?_)
  · obtain ⟨p, n, es, rd, rfl, _⟩ := h
    rfl
  · obtain ⟨p, n, es, rd, rfl, L, q⟩ := h
    refine ⟨_, (pss_one (ps_ret (pe_fld (pv 0) rfl))), ?_⟩
    obtain ⟨dx, an, ar, ay, ac, tn, ty, tc, h1, h2, h3, h4, h5, h6, h7, h8⟩ := L.at_
    exact ⟨_, rfl, p, a.C, dx, _, _, rfl, h1, T.cl, T.nA _ (by decide), rfl, q _ _ h7 h8⟩
end
end K7
end
/-! ## E3 -/
section
namespace PySem
open PySem PySem.Spec PyProof.Rows
theorem k7_meets_enumerate_newT (l : Addr) (items : Array Value) (n : Nat) (dct : Option Addr) (sl : Array (Option Value)) :
    Meets (Builtin.«enumerate.__new__» ⟨[.type "enumerate", .ref l], []⟩) (fun _ R s => s.heap.get? l = some { cls := .type "tuple", dict := dct, data := .seq items n, slots := sl } ∧
      R (.ok (.ret (.ref (s.heap.push { cls := .type "tuple_iterator", data := .fields #[.ref l, .int 0 0] }).objs.size)))
        { s with heap := (s.heap.push { cls := .type "tuple_iterator", data := .fields #[.ref l, .int 0 0] }).push { cls := .type "enumerate", data := .fields #[.none, .bool false, .ref s.heap.objs.size, rawInt 0, .none, .none] } }) :=
  .of_wp fun prog w A R s h => by
    obtain ⟨hp, g, d, tk, os⟩ := s; obtain ⟨hl, h⟩ := h
    have hsub := sub_enumerate
    have hL : Heap.IsTuple (Shared.heap ⟨hp, g, d, tk, os⟩) l items := ⟨_, hl, rfl, n, rfl⟩
    wp_walk using AutoSeq1.wpAny_loadPart' hl
    refine wpAny_stack_any fun st => wpAny_pure ?_
    split
    · rename_i c _ _ _ _ _
      cases (c == Value.type "enumerate")
      · wp_walk using AutoSeq1.wpAny_loadPart' hl, wpAny_pyIter_tuple hL
        exact ⟨_, rfl, h⟩
      · wp_walk using AutoSeq1.wpAny_loadPart' hl, wpAny_pyIter_tuple hL
        exact ⟨_, rfl, h⟩
    · wp_walk using AutoSeq1.wpAny_loadPart' hl, wpAny_pyIter_tuple hL
      exact ⟨_, rfl, h⟩
theorem k7_call_enumerate_tuple {prog : Program} {w : World} {A : Around} {E : Value → Shared → Prop} {s : Shared} {l : Addr} {items : Array Value} {Q : Value → Shared → Prop} (hL : s.heap.IsTuple l items)
    (h : ∀ h', IsEnum h' (s.heap.objs.size + 1) s.heap.objs.size 0 .none → h'.IsTupleIter s.heap.objs.size l 0 → h'.objs.size = s.heap.objs.size + 2 →
      (∀ b o, s.heap.get? b = some o → h'.get? b = some o) → Q (.ref (s.heap.objs.size + 1)) { s with heap := h' }) :
    wpAny (model prog w) A (call (.type "enumerate") [.ref l]) Q E s := by
  obtain ⟨⟨c, dct, dt, sl⟩, hl, hc, n, hd⟩ := hL
  replace hc : c = .type "tuple" := hc
  replace hd : dt = .seq items n := hd
  subst hc hd
  refine callType_new F.called_enumerate (by decide) (F.typeCall_enumerate_1 _) (F.newCall_enumerate_1 _) (fun obj => F.args_object_init_2 obj _) F.entry_enumerate_new
    (k7_meets_enumerate_newT l items n dct sl) ⟨hl, ?_⟩
  have hz : (s.heap.push { cls := .type "tuple_iterator", data := .fields #[.ref l, .int 0 0] }).objs.size = s.heap.objs.size + 1 := Heap.size_push ..
  show _ ∧ _
  rw [hz]
  have he : IsEnum ((s.heap.push { cls := .type "tuple_iterator", data := .fields #[.ref l, .int 0 0] }).push
      { cls := .type "enumerate", data := .fields #[.none, .bool false, .ref s.heap.objs.size, rawInt 0, .none, .none] }) (s.heap.objs.size + 1) s.heap.objs.size 0 .none := by
    have := Heap.get?_push_size (s.heap.push { cls := .type "tuple_iterator", data := .fields #[.ref l, .int 0 0] })
      (o := { cls := .type "enumerate", data := .fields #[.none, .bool false, .ref s.heap.objs.size, rawInt 0, .none, .none] }) rfl
    rw [hz] at this; exact this
  refine ⟨⟨_, he, rfl⟩, h _ he ⟨_, Heap.get?_push_of_some _ (Heap.get?_push_size _ rfl), rfl, rfl⟩ (by rw [Heap.size_push, hz]) fun b o x => Heap.get?_push_of_some _ (Heap.get?_push_of_some _ x)⟩
end PySem
namespace K7E
open PySem PySem.Spec PyProof.Rows L2
/-- the tuple at a as it stands at each turn, each item in a new pair -/
def IteT (K : PySem.W.Frag) (a : Addr) : It :=
  ⟨fun i H => ∃ (xs : List V) (x : V), SqT K H a xs ∧ xs[i]? = some x, fun i H v H' => ∃ T x, v = .ref T ∧ H T = none ∧ H' = upd H T (.tup [.int (i : Nat), x]) ∧ ∀ xs, SqT K H a xs → xs[i]? = some x, fun i H => ∃ xs : List V, SqT K H a xs ∧ xs.length = i⟩
theorem tup_ne {h : Heap} {a it : Addr} {items : Array Value} {i : Nat} (p : h.IsTuple a items) (q : h.IsTupleIter it a i) : a ≠ it := by
  intro e
  subst e
  obtain ⟨o, ho, hc, _⟩ := p
  obtain ⟨o2, ho2, hc2, _⟩ := q
  rw [ho] at ho2
  cases ho2
  rw [hc] at hc2
  exact absurd (Value.type.inj hc2) (by decide)
theorem turn_enumT {P : Program} {w : World} {K : PySem.W.Frag} {elts : List Expr} {kk : Nat} {tpos : Pos} (a e it : Addr) :
    Turn P w K (.Tuple elts kk tpos) (IteT K a) [e, it] e (fun i h => (∃ old, IsEnum h e it ((i : Nat) : Int) old) ∧ h.IsTupleIter it a i ∧ e ≠ it) where
  mem := by simp
  obj := fun i h st b hb => by
    obtain ⟨⟨old, he⟩, ⟨o, ho, hc, hd⟩, _⟩ := st
    have e' : b = e ∨ b = it := by simpa using hb
    rcases e' with z | z
    · rw [z]; exact ⟨_, he, fun v q => nomatch q⟩
    · rw [z]; exact ⟨o, ho, fun v q => by rw [hd] at q; cases q⟩
  keep := fun i h h' st k => let ⟨⟨old, he⟩, hi, hne⟩ := st; ⟨⟨old, k e (by simp) _ he⟩, hi.at fun o q => k it (by simp) o q, hne⟩
  item := by
    intro X hP hw hK hc i pins s σ H E I hf st hg
    subst hP hw hK
    obtain ⟨⟨old, he⟩, hit, hne⟩ := st
    obtain ⟨xs, x, hq, hx⟩ := hg
    obtain ⟨its, rv, p, hz⟩ := I.tuple hq
    obtain ⟨u, hu, ru⟩ := rv.get hx
    have hel : e < s.heap.objs.size := Heap.lt_size he
    have hil : it < s.heap.objs.size := by obtain ⟨_, q, _⟩ := hit; exact Heap.lt_size q
    have hat : a ≠ it := tup_ne p hit
    have hae : e ≠ a := fun q => by
      subst q
      obtain ⟨o, ho, hc', _⟩ := p
      rw [show s.heap.get? e = _ from he] at ho
      cases ho
      exact absurd (Value.type.inj hc') (by decide)
    have hlt : i < its.toArray.size := by
      have := (List.getElem?_eq_some_iff.mp hu).1
      simpa using this
    refine wpAny_pyNext_enum_itemD (Draws.tuple (A := X.A.in1) (I.ok.hd hc) it a hat its.toArray) he ⟨hit, p⟩ hlt hne (by simp [hne, hae]) fun u' h' tk hP ho hit' hT hsz hk => ?_
    have eu : u' = u := by
      have h1 : its.toArray[i]? = some u := by simpa using hu
      exact Option.some.inj (hP.symm.trans h1)
    subst eu
    refine ⟨_, rfl, wpAny_letOwnedTupleGo_enum (s := { s with heap := h', toks := tk + 1 }) ho fun h'' he' sb => ?_⟩
    have hT2 : h''.get? s.heap.objs.size = some { cls := .type "tuple", data := .seq #[.int i tk, u'] } := (sb.2 _ (Nat.ne_of_gt hel)).trans hT
    have new : ObjOk X.prog X.w (upd H s.heap.objs.size (.tup [.int (i : Nat), x])) h'' s.heap.objs.size (.tup [.int (i : Nat), x]) :=
      ⟨by show 2 ≤ sizeLine; decide, [.int i tk, u'], .cons ⟨_, rfl⟩ (.cons ru .nil), ⟨_, hT2, rfl, _, rfl⟩⟩
    have I1 : Inv X pins σ (upd H s.heap.objs.size (.tup [.int (i : Nat), x])) { s with heap := h'', toks := tk + 1 } :=
      I.turnedNew (ch := [e, it]) (fun b ob hb q => (sb.2 b (fun z => hb (by simp [z]))).trans (hk b ob (fun z => hb (by simp [z])) (fun z => hb (by simp [z])) q)) hf (Nat.le_refl _) new
    refine ⟨.ref s.heap.objs.size, _, I1, rfl, ⟨_, x, rfl, I.hok.fresh (Nat.le_refl _), rfl, fun ys hy => by rw [I.tuple_inj hy hq]; exact hx⟩, ⟨⟨u', ?_⟩, hit'.1.at fun o q => (sb.2 it (Ne.symm hne)).trans q, hne⟩, fun b hb => ?_⟩
    · have e1 : ((i + 1 : Nat) : Int) = (i : Int) + 1 := by omega
      rw [e1]; exact he'
    · have hb' : b < s.heap.objs.size := by
        have e' : b = e ∨ b = it := by simpa using hb
        rcases e' with z | z
        · rw [z]; exact hel
        · rw [z]; exact hil
      rw [upd_ne (Nat.ne_of_lt hb')]
      exact (hf b hb).1
  done := by
    intro X hP hw hK hc i pins s σ H E I hf st hg
    subst hP hw hK
    obtain ⟨⟨old, he⟩, hit, hne⟩ := st
    obtain ⟨xs, hq, hx⟩ := hg
    obtain ⟨its, rv, p, hz⟩ := I.tuple hq
    obtain ⟨f0, f1, f2, f3, f4, f5⟩ := hf it (by simp)
    have hl := rv.length
    have hat : a ≠ it := tup_ne p hit
    have en : its.toArray.size = i := by simp; omega
    exact wpAny_pyNext_enum_endD (Draws.tuple (A := X.A.in1) (I.ok.hd hc) it a hat its.toArray) he ⟨by rw [en]; exact hit, p⟩ fun h' eb => ⟨rfl, I.turned (t' := s.toks) (fun b o hb q => eb b o hb q) f0 f1 f3 f4 f5⟩
  self := fun A i s Q E st h => let ⟨⟨_, he⟩, _⟩ := st; wpAny_pyIter_enum he h
def iEnumT (K : PySem.W.Frag) (ta : TA) : TI := fun σ H R => ta σ H fun vs H1 => ∃ a xs, vs = [.ref a] ∧ SqT K H1 a xs ∧ R (IteT K a) H1
theorem pi_enumT {X : Cx} {e : Expr} {ta : TA} {p pos tpos : Pos} {elts : List Expr} {kk : Nat} (hg : Gl X "enumerate") (hm : X.mg "enumerate" = none) (ha : PA X [e] ta) (hs : starEach [e] X.env = [(false, eval e X.env)] := by rfl) :
    PI X (.Tuple elts kk tpos) (.Call (.Name "enumerate" p) [e] [] pos) (iEnumT X.K ta) := by
  refine ⟨fun pins s σ H R I h => ?_⟩
  refine Call_ (ld_blt I hg hm boot_enumerate (PyProof.Rows.callWith_type1 (thn (ha.run pos pins s σ H _ I h) fun us s1 ⟨vs, H1, I1, r1, q1⟩ => ?_) hs rfl))
  obtain ⟨a, xs, ex, hq, q⟩ := q1
  subst ex
  cases r1 with
  | cons r rr =>
    cases rr
    cases r
    obtain ⟨its, rv, p', hz⟩ := I1.tuple hq
    refine k7_call_enumerate_tuple p' fun h' he hit hsz hk => wpAny_pyIter_enum he ?_
    have I2 : Inv X pins σ H1 { s1 with heap := h' } := I1.kept (t' := s1.toks) hk
    refine ⟨s1.heap.objs.size + 1, [s1.heap.objs.size + 1, s1.heap.objs.size], _, _, H1, rfl, I2, turn_enumT a (s1.heap.objs.size + 1) s1.heap.objs.size, ⟨⟨.none, he⟩, hit, Nat.succ_ne_self _⟩, fun b hb => ?_, q⟩
    have e' : b = s1.heap.objs.size + 1 ∨ b = s1.heap.objs.size := by simpa using hb
    have hle : s1.heap.objs.size ≤ b := by
      rcases e' with z | z
      · rw [z]; exact Nat.le_add_right _ _
      · rw [z]; exact Nat.le_refl _
    exact I1.fpOk hle (I1.hok.fresh hle)
theorem walk_enumT {K : PySem.W.Frag} {a : Addr} {xs : List V} : Walk (IteT K a) xs.length (fun H => SqT K H a xs) (YPair (fun i => some (.int (i : Nat))) (fun i => xs[i]?)) :=
  ⟨fun i H hi hq => ⟨xs, _, hq, List.getElem?_eq_getElem hi⟩, fun H hq => ⟨xs, hq, rfl⟩, fun i H v H' hi hq hy => by
    obtain ⟨T, x, rfl, nT, rfl, f⟩ := hy
    exact ⟨T, _, x, rfl, nT, rfl, rfl, f _ hq⟩⟩
end K7E
end
/-! ## EX -/
section
namespace K7E
open PySem PySem.Spec PyProof.Rows L2
/-! a call under try: what it lets out is asked for where it stands -/
section
variable {X : Cx} {W : WX} {k : Nat} {f C : Addr} {fd : FuncData} {ps : List Str} {sp : Sp} {dvs : List V} {ds : List Value} {x m : Str} {p pos apos : Pos} {e o : Expr} {es : List Expr} {ta : TE} {t : TA}
theorem run_fnW {pins : List (Addr × Obj)} {σ : L2.St} {H : Hp} {s : Shared} {Q : VK} {us : List Value} {vs : List V} (F : FnOk X.prog X.w X.K X.mg X.base (L2.CX X.prog X.w) k f fd ps sp) (hr : Room k X.A) (hb : Binds X.K fd ps ds) (hd : Vals dvs ds) (tk : Takes X W)
    (I : Inv X pins σ H s) (r : Vals vs us) (h : sp (vs ++ dvs) H Q (fun cls d H' => W cls d σ H')) : wpAny (model X.prog X.w) X.A (call (.ref f) us) (EP X pins σ Q) X.xe s := by
  have r2 : Vals (vs ++ dvs) (us ++ ds) := r.append hd
  have hl : (us ++ ds).length = ps.length := by rw [← r2.length]; exact F.len _ _ _ _ h
  refine wpAny_call (codeAny_mono (F.run X.A X.stack s H ⟨us, []⟩ (us ++ ds) (vs ++ dvs) Q _ hr I.env0 (hb s us I.kIn hl) r2 h) fun r s' hq => ?_)
  cases r with
  | error e => exact tk e s' (XE.of_call (E := fun cls d H' => W cls d σ H') I (fun cls d H' h => h) hq)
  | ok fl =>
    cases fl with
    | ret u => exact I.after hq
    | next => exact False.elim hq
    | brk => exact False.elim hq
    | cont => exact False.elim hq
theorem pe_callW (F : FnOk X.prog X.w X.K X.mg X.base (L2.CX X.prog X.w) k f fd ps sp) (hr : Room k X.A) (hg : Gl X x) (hm : X.mg x = some (.ref f)) (hk : PySem.W.keepIn X.K (.ref f) = true) (hb : Binds X.K fd ps ds) (hd : Vals dvs ds) (tk : Takes X W)
    (ha : PA X (e :: es) t) (hdb : (x == ("__debug__" : Str)) = false := by decide) (he : starEach (e :: es) X.env = (false, eval e X.env) :: starEach es X.env := by rfl) (hpl : (backTo pos (starEach es X.env)).any (·.1) = false := by rfl) :
    PE X (.Call (.Name x p) (e :: es) [] pos) (fun σ H Q => t σ H fun vs H1 => sp (vs ++ dvs) H1 Q (fun cls d H' => W cls d σ H')) := by
  refine ⟨fun pins s σ H Q I h => ?_⟩
  refine wpAny_Call_Name_kw (ld_glob I hg hm ?_ hdb)
  refine PySem.W.callWith_K (h₀ := X.base) I.ok.mod.kin hk (thn (ha.run pos pins s σ H _ I h) fun us s1 ⟨vs, H1, I1, r, q⟩ => ⟨I1.kIn, ?_⟩) he hpl
  exact run_fnW F hr hb hd tk I1 r q
theorem pe_methW {pl : Sem Bool} (he : PE X o ta) (c : Cls X.K C) (hm : Meth X.K C m f) (F : FnOk X.prog X.w X.K X.mg X.base (L2.CX X.prog X.w) k f fd ps sp) (hr : Room k X.A) (hb : Binds X.K fd ps ds) (hd : Vals dvs ds) (tk : Takes X W) (ha : PA X (e :: es) t)
    (hst : starEach (e :: es) X.env = (false, eval e X.env) :: starEach es X.env := by rfl) (hpl : (backTo pos (starEach es X.env)).any (·.1) = false := by rfl)
    (ht : eval (.Call (.Attribute o m apos) (e :: es) [] pos) X.env = (do
      let ov ← eval o X.env
      standAt apos.atName
      let (f, first) ← holding [ov] (getMethod ov m pl)
      callWith pos f first (backTo pos (starEach (e :: es) X.env)) (backToKw pos (keywordEach [] X.env))) := by rfl) :
    PE X (.Call (.Attribute o m apos) (e :: es) [] pos) (fun σ H Q => ta σ H fun x H1 => ∃ a dx fs, x = .ref a ∧ H1 a = some (.ins C dx fs) ∧ fs.lookup m = none ∧
      t σ H1 fun vs H2 => sp (x :: (vs ++ dvs)) H2 Q (fun cls d H' => W cls d σ H')) := by
  refine ⟨fun pins s σ H Q I h => ?_⟩
  refine PySem.W.methodCall_KW (pl := pl) (thn (he.run pins s σ H _ I h) fun u s1 ⟨x, H1, I1, rx, a, dx, fs, ex, ea, l, q⟩ => ?_) ht
  subst ex
  obtain rfl : u = Value.ref a := rx
  refine getmeth_ok I1 ea c hm l ?_
  refine PySem.W.callWith_K (first := [.ref a]) (h₀ := X.base) I.ok.mod.kin hm.kp (thn (ha.run pos pins s1 σ H1 _ I1 q) fun us s2 ⟨vs, H2, I2, r, q2⟩ => ⟨I2.kIn, ?_⟩) hst hpl
  exact run_fnW (us := .ref a :: us) (vs := .ref a :: vs) F hr hb hd tk I2 (.cons rfl r) q2
end
/-! ### isinstance(e, c), e the exception that the suite holds, with fields of its own -/
section
variable {X : Cx}
theorem call_isEd {a D d : Addr} {oe : Obj} {pn : List (Addr × Obj)} (C : ExcC X.K D) (hz : Zc (.ref D) (some d) oe) (hf : ∃ vs, oe.data = .fields vs) : CallR (X.suite a ((a, oe) :: pn)) (.builtin "isinstance") (fun xs H Q => ∃ (c : V) (cv : Value) (b : Bool) (fs : List (Str × V)), xs = [.ref a, c] ∧ (∀ u, RelV c u → u = cv) ∧ PySem.W.kitOne X.K (.ref D) cv = some b ∧ H d = some (.xd fs) ∧ Q (.bl b) H) := by
  intro pins s σ H xs us Q I r h
  obtain ⟨c, cv, b, fs, rfl, hcv, e, hd, q⟩ := h
  cases r with
  | cons rx rr =>
    cases rr with
    | cons rt rr =>
      cases rr
      cases rx
      have ec := hcv _ rt
      subst ec
      obtain ⟨hget, _⟩ := I.pin (a, oe) (List.mem_append.mpr (.inl List.mem_cons_self))
      obtain ⟨vs, hv⟩ := hf
      have hx : ObjOk X.prog X.w H s.heap d (.xd fs) := I.hok d _ hd
      obtain ⟨mA, hns, hrr⟩ := hx
      obtain ⟨od, ho, hl⟩ := lookIn_ns hns
      have J : PySem.W.InstAt s.heap a oe D (some od) := ⟨hget, hz.1, by unfold PySem.W.notCls; rw [hv] <;> rfl, by rw [hz.2]; exact ho⟩
      obtain ⟨cd, hcc, _⟩ := PySem.W.any_some C.hd
      exact PySem.W.kia_one (PySem.W.kitx_exc (gt := none) (by rw [hcc]; rfl) C.hg C.hk C.hs C.ha C.hn C.ht C.hm) I.kIn J e (fun z => nomatch z) fun tk => ⟨.bl b, H, I.kept (t' := tk) fun _ _ z => z, rfl, q⟩
end
theorem call_isEdX {X : Cx} {a D : Addr} {cls : Value} {d : Option Addr} {oe : Obj} {pn : List (Addr × Obj)} (C : ExcC X.K D) (hz : Zc cls d oe) (hf : ∃ vs, oe.data = .fields vs) : CallR (X.suite a ((a, oe) :: pn)) (.builtin "isinstance") (fun xs H Q => cls = .ref D ∧ ∃ dd, d = some dd ∧ ∃ (c : V) (cv : Value) (b : Bool) (fs : List (Str × V)), xs = [.ref a, c] ∧ (∀ u, RelV c u → u = cv) ∧ PySem.W.kitOne X.K (.ref D) cv = some b ∧ H dd = some (.xd fs) ∧ Q (.bl b) H) := by
  intro pins s σ H xs us Q I r h
  obtain ⟨rfl, dd, rfl, h⟩ := h
  exact call_isEd C hz hf pins s σ H xs us Q I r h
/-! repr of a plain thing -/
def reprV : V → Str
  | .non => "None"
  | .bl b => if b then "True" else "False"
  | .int i => toString i
  | .str z => reprText z
  | _ => ""
def reprOk : V → Prop
  | .non => True
  | .bl b => True
  | .int i => i.natAbs.log2 < 1920
  | .str z => (reprText z).length ≤ sizeLine
  | _ => False
theorem call_reprF {X : Cx} : CallR X (.builtin "repr") (fun xs H Q => ∃ v, xs = [v] ∧ reprOk v ∧ Q (.str (reprV v)) H) := by
  intro pins s σ H xs us Q I r h
  obtain ⟨v, rfl, hz, q⟩ := h
  obtain ⟨u, rfl, ru⟩ := r.one
  cases v with
  | non => cases ru; exact PySem.P.repr_of_none ⟨.str _, H, I.tok _, ⟨_, rfl⟩, q⟩
  | bl b => cases ru; exact PySem.P.repr_of_bool ⟨.str _, H, I.tok _, ⟨_, rfl⟩, q⟩
  | int i => obtain ⟨t, rfl⟩ := ru; exact PySem.P.repr_of_int hz ⟨.str _, H, I.tok _, ⟨_, rfl⟩, q⟩
  | str z => obtain ⟨t, rfl⟩ := ru; exact PySem.P.repr_of_str ⟨.str _, H, I.tok _, ⟨_, rfl⟩, q⟩ hz
  | _ => exact hz.elim
end K7E
end
/-! ## KG -/
section
/-! ## promises kept where no repr is under way -/
namespace K7E
open PySem PySem.Spec PyProof.Rows L2
structure FnG (P : Program) (w : World) (K : PySem.W.Frag) (mg : Str → Option Value) (base : Heap) (CX : CXT) (k : Nat) (f : Addr) (fd : FuncData) (ps : List Str) (sp : Sp) : Prop where
  len : ∀ vs H Q E, sp vs H Q E → vs.length = ps.length
  run : ∀ (A : Around) (outer : List Env) (s : Shared) (H : Hp) (args : Args) (us : List Value) (vs : List V) (Q : VK) (E : XK), A.guards = some [] → Room k A → Env0 P w K mg base A outer s H → BindsTo s fd args (ps.zip us) → Vals vs us → sp vs H Q E →
    codeAny (model P w) A (.call (.ref f) args) (CR CX outer P w H s Q E) s
theorem fn_ofG {CX : CXT} {P : Program} {w : World} {K : PySem.W.Frag} {mg : Str → Option Value} {base : Heap} {k : Nat} {f : Addr} {name qual : Str} {params : Arguments} {body : List Stmt} {scope : Scope} {dV kV doc pm cdv ct oc : Value} {an od : Option Addr} {osl : Array (Option Value)} {N ps : List Str} {sp : Sp}
    (lk : K.lookup f = some ⟨oc, od, .func (PySem.W.fnOf name qual params body scope dV kV doc pm an cdv ct), osl⟩) (hcd : PySem.W.codeIn K cdv qual = true) (S : FnScope N ps scope) (len : ∀ vs H Q E, sp vs H Q E → vs.length = ps.length)
    (hbody : ∀ (A : Around) (outer : List Env) (s : Shared) (H : Hp) (vs : List V) (Q : VK) (E : XK), A.guards = some [] → Room k (A.deeper (envOfC qual scope s.heap.objs.size f cdv)) → sp vs H Q E → ∃ t, PSs (cxOf CX P w K mg base N qual scope f cdv A outer s H E) body t ∧ t ⟨fun _ H' => Q .non H', Q, fun _ _ => False, fun _ _ => False⟩ (L2.start N vs) H) :
    FnG P w K mg base CX (k + 1) f (PySem.W.fnOf name qual params body scope dV kV doc pm an cdv ct) ps sp := by
  refine ⟨len, fun A outer s H args us vs Q E gA hr e0 hbd rv hsp => ?_⟩
  have lenV := len vs H Q E hsp
  have inS : K.In s.heap := PySem.W.Frag.In.keeps e0.mod.kin fun b o e => (e0.bs b o e).1
  have noL : s.heap.NoLimit := Heap.NoLimit.keeps e0.mod.nolimit fun b o e => (e0.bs b o e).1
  have kinds : ∀ x : Str × Value, x ∈ ps.zip us → List.lookup x.1 scope.names = some .local ∨ (List.lookup x.1 scope.names = some .cell ∧ (List.lookup x.1 (cellsFrom (s.heap.objs.size + 1) scope.names [])).isSome = true) := by
    rintro ⟨n, v⟩ hy
    rcases S.par n (List.of_mem_zip hy).1 with c | c
    · exact .inl c
    · exact .inr ⟨c, PySem.W.cellsFrom_some scope.names (s.heap.objs.size + 1) [] (.inl c)⟩
  refine codeAny_call_function hr.depth (inS f _ lk) rfl S.co S.gen rfl (PySem.W.codeRec_of inS hcd) (hbd (model P w) A.in1 _ _ (wpAny_newFunctionEnv_cells S.kind kinds fun env he s1 x => ?_))
  subst he
  refine ⟨Heap.NoLimit.keeps noL x.toInCall.keep, codeAny_func ?_⟩
  obtain ⟨t, ht, hq⟩ := hbody A outer s H vs Q E gA (hr.deeper _) hsp
  have I := inv_start (CX := CX) (E := E) S hr.hd e0 lenV rv x
  refine wpAny_mono (ht.run [] s1 (L2.start N vs) H _ I hq) (fun fl s' hs => ?_) fun e s' hs => hs
  cases fl with
  | next =>
    obtain ⟨σ', H', J, q⟩ := hs
    exact ⟨.non, H', J.os, J.bare, J.base, J.hok, (show RelV .non Value.none from rfl), q⟩
  | ret u =>
    obtain ⟨v, σ', H', J, ru, q⟩ := hs
    exact ⟨v, H', J.os, J.bare, J.base, J.hok, ru, q⟩
  | _ =>
    obtain ⟨_, _, _, q⟩ := hs
    exact q.elim
theorem okG {P : Program} {w : World} {K : PySem.W.Frag} {mg : Str → Option Value} {base : Heap} {x qual : Str} {st : Stmt} {f : Addr} {fd : FuncData} {N ps : List Str} {k : Nat} {sp : Sp} (F : Fun K x qual st f fd) (S : FnScope N ps (defScope st)) (len : ∀ vs H Q E, sp vs H Q E → vs.length = ps.length)
    (hbody : ∀ (cdv : Value) (A : Around) (outer : List Env) (s : Shared) (H : Hp) (vs : List V) (Q : VK) (E : XK), A.guards = some [] → Room k (A.deeper (envOfC qual (defScope st) s.heap.objs.size f cdv)) → sp vs H Q E → ∃ t, PSs (cxOf CX0 P w K mg base N qual (defScope st) f cdv A outer s H E).nox (defBody st) t ∧ t ⟨fun _ H' => Q .non H', Q, fun _ _ => False, fun _ _ => False⟩ (L2.start N vs) H) : FnG P w K mg base CX0 (k + 1) f fd ps sp := by
  obtain ⟨oc, od, kV, doc, pm, an, cdv, ct, osl, rfl, lk, hcd⟩ := F.ex
  refine fn_ofG lk hcd S len fun A outer s H vs Q E g hr hsp => ?_
  obtain ⟨t, h, q⟩ := hbody cdv A outer s H vs Q E g hr hsp
  exact ⟨t, h.nox, q⟩
theorem ofOk {P : Program} {w : World} {K : PySem.W.Frag} {mg : Str → Option Value} {base : Heap} {CX : CXT} {k : Nat} {f : Addr} {fd : FuncData} {ps : List Str} {sp : Sp} (F : FnOk P w K mg base CX k f fd ps sp) : FnG P w K mg base CX k f fd ps sp :=
  ⟨F.len, fun A outer s H args us vs Q E _ hr e0 hb r h => F.run A outer s H args us vs Q E hr e0 hb r h⟩
section
variable {X : Cx} {CX : CXT} {k : Nat} {f : Addr} {fd : FuncData} {ps : List Str} {sp : Sp} {dvs : List V} {ds : List Value} {E : XK} {x : Str} {e : Expr} {es : List Expr} {t : TA} {p pos : Pos}
theorem run_fnG {pins : List (Addr × Obj)} {σ : L2.St} {H : Hp} {s : Shared} {Q : VK} {us : List Value} {vs : List V} (gA : X.A.guards = some []) (F : FnG X.prog X.w X.K X.mg X.base CX k f fd ps sp) (hr : Room k X.A) (hb : Binds X.K fd ps ds) (hd : Vals dvs ds) (hx : Passes CX X E) (I : L2.Inv X pins σ H s) (r : Vals vs us) (h : sp (vs ++ dvs) H Q E) :
    wpAny (model X.prog X.w) X.A (call (.ref f) us) (EP X pins σ Q) X.xe s := by
  have r2 := Vals.append r hd
  have hl : (us ++ ds).length = ps.length := by rw [← r2.length]; exact F.len _ _ _ _ h
  refine wpAny_call (codeAny_mono (F.run X.A X.stack s H ⟨us, []⟩ (us ++ ds) (vs ++ dvs) Q E gA hr I.env0 (hb s us I.kIn hl) r2 h) fun r' s' hq => ?_)
  cases r' with
  | error e => exact hx pins σ H s e s' I hq
  | ok fl =>
    cases fl with
    | ret v => exact I.after hq
    | _ => exact hq.elim
/-- x(e, ..) by such a promise -/
theorem pe_callG (gA : X.A.guards = some []) (F : FnG X.prog X.w X.K X.mg X.base CX k f fd ps sp) (hr : Room k X.A) (hg : Gl X x) (hm : X.mg x = some (.ref f)) (hk : PySem.W.keepIn X.K (.ref f) = true) (hb : Binds X.K fd ps ds) (hd : Vals dvs ds) (hx : Passes CX X E) (ha : PA X (e :: es) t) (hdb : (x == ("__debug__" : Str)) = false := by decide)
    (h1 : starEach (e :: es) X.env = (false, eval e X.env) :: starEach es X.env := by rfl) (h2 : (backTo pos (starEach es X.env)).any (·.1) = false := by rfl) : PE X (.Call (.Name x p) (e :: es) [] pos) (tCall sp dvs E t) :=
  ⟨fun pins s τ H Q I h => wpAny_Call_Name_kw (ld_glob I hg hm (PySem.W.callWith_K (h₀ := X.base) I.ok.mod.kin hk (thn (ha.run pos pins s τ H (fun vs H1 => sp (vs ++ dvs) H1 Q E) I h) fun us s1 ⟨vs, H1, I1, r, q⟩ => ⟨I1.kIn, run_fnG gA F hr hb hd hx I1 r q⟩) h1 h2) hdb)⟩
end
/-- repr of nested data -/
theorem call_reprG {X : Cx} (gA : X.A.guards = some []) (hu : X.A.units + 64 < cLine) : CallR X (.builtin "repr") (fun xs H Q => ∃ a d, xs = [.ref a] ∧ Dp X.K H (.ref a) d ∧ d.showable = true ∧ d.hasDict = false ∧ d.depth ≤ 32 ∧ d.shown.length ≤ sizeLine ∧ Q (.str d.shown) H) := by
  intro pins s σ H xs us Q I r h
  obtain ⟨a, d, rfl, dp, sh, nd, de, hl, q⟩ := h
  obtain ⟨u, rfl, ru⟩ := r.one
  cases (show u = Value.ref a from ru)
  obtain ⟨as, rd⟩ := Dp.reads I d (.ref a) (.ref a) dp rfl
  refine repr_of_reads' rd sh (fun z => by rw [nd] at z; cases z) gA (by omega) (fun b o e => e) (fun h' u tk keep => ?_) hl
  exact ⟨.str _, H, I.kept keep, ⟨_, rfl⟩, q⟩
/-- what repr shows of a value -/
inductive Rpr (K : PySem.W.Frag) (H : Hp) : V → Str → Prop where
  | flat {v : V} (h : reprOk v) : Rpr K H v (reprV v)
  | dat {a : Addr} {d : PyData} (h : Dp K H (.ref a) d) (sh : d.showable = true) (nd : d.hasDict = false) (de : d.depth ≤ 32) (hl : d.shown.length ≤ sizeLine) : Rpr K H (.ref a) d.shown
  | emp {a : Addr} (h : H a = some (.dK [])) : Rpr K H (.ref a) (PyData.dict []).shown
theorem call_repr {X : Cx} (gA : X.A.guards = some []) (hu : X.A.units + 64 < cLine) : CallR X (.builtin "repr") (fun xs H Q => ∃ v z, xs = [v] ∧ Rpr X.K H v z ∧ Q (.str z) H) := by
  intro pins s σ H xs us Q I r h
  obtain ⟨v, z, rfl, rp, q⟩ := h
  cases rp with
  | flat h => exact call_reprF pins s σ H _ us Q I r ⟨v, rfl, h, q⟩
  | dat h sh nd de hl => exact call_reprG gA hu pins s σ H _ us Q I r ⟨_, _, rfl, h, sh, nd, de, hl, q⟩
  | @emp a h =>
    obtain ⟨u, rfl, ru⟩ := r.one
    cases (show u = Value.ref a from ru)
    obtain ⟨_, ns, vs, kv, o, es, ep, g, ex, dd, ko, prs, nd⟩ := I.hok a _ h
    have hv : vs = [] := by cases kv; rfl
    subst hv
    have he : es.toList = [] := by
      cases hE : es.toList with
      | nil => rfl
      | cons e l =>
        rw [hE] at prs
        cases prs
    have rd : Reads s.heap (.ref a) (.dict []) (a :: [] ++ []) := .dict (as := []) (bs := []) g ex.1 dd (by rw [he]; exact .nil) (by rw [he]; exact .nil)
    have dp : PyData.depth (.dict []) ≤ 1 := by decide
    refine repr_of_reads' rd (by decide) (fun _ m => ?_) gA (by omega) (fun b o e => e) (fun h' u tk keep => ?_) (by decide)
    · simp only [List.append_nil, List.mem_singleton] at m
      rw [← m] at ns
      simp at ns
    · exact ⟨.str _, H, I.kept keep, ⟨_, rfl⟩, q⟩
theorem call_reprS {X : Cx} {b : Addr} {pn : List (Addr × Obj)} (gA : X.A.guards = some []) (hu : X.A.units + 64 < cLine) : CallR (X.suite b pn) (.builtin "repr") (fun xs H Q => ∃ v z, xs = [v] ∧ Rpr X.K H v z ∧ Q (.str z) H) := call_repr (X := X.suite b pn) gA hu
/-! ## a law's own call -/
theorem law_callG {P : Program} {w : World} {K : PySem.W.Frag} {mg mb : Str → Option Value} {CX : CXT} {k : Nat} {fa a : Addr} {fd : FuncData} {x : Str} {sp : Sp} {s₁ : Shared} {vs : List Value} {ns : List Int}
    (inS : K.In s₁.heap) (hns : s₁.heap.Ns mainGlobals mg) (hb : s₁.heap.Ns builtinsNs mb) (hbb : ∀ x : Str, x ≠ "__name__" → mb x = bootBuiltins x) (hlim : s₁.heap.NoLimit) (hg : s₁.gens = #[]) (ha : s₁.heap.get? a = some { cls := .type "list", data := .seq vs.toArray }) (hi : IntsAre vs ns) (hl : ns.length ≤ sizeLine) (hr : Room k callerA)
    (F : ∀ base : Heap, K.In base → base.Ns mainGlobals mg → FnG P w K mg base CX k fa fd [x] sp) (hbind : ∀ (s : Shared) (u : Value), BindsTo s fd ⟨[u], []⟩ [(x, u)])
    (hsp : ∀ H, Only H → SqL K H a (ns.map V.int) → sp [.ref a] H (fun v _ => v = .bl true) (fun _ _ _ => False)) (hCX : ∀ H e s', CX [] H s₁ (fun _ _ _ => False) e s' → False) :
    codeAny (model P w) callerA (.call (.ref fa) ⟨[.ref a], []⟩) (fun r s' => r = .ok (.ret (.bool true)) ∧ OldK s₁.heap s'.heap ∧ s'.os = s₁.os ∧ AllBare s'.gens) s₁ := by
  have rv := vals_ints hi
  have lenV : vs.length = ns.length := hi.length
  have core : ∀ H : Hp, Only H → SqL K H a (ns.map V.int) → HOk P w H s₁.heap → (∀ b, H b ≠ none → b = a) → (H a ≠ none → K.lookup a = none) →
      codeAny (model P w) callerA (.call (.ref fa) ⟨[.ref a], []⟩) (fun r s' => r = .ok (.ret (.bool true)) ∧ OldK s₁.heap s'.heap ∧ s'.os = s₁.os ∧ AllBare s'.gens) s₁ := by
    intro H hO hS hok only hK
    have other : ∀ {b : Addr} {u : HO}, H b = some u → b = a := fun {b u} q => only b (by rw [q]; exact Option.some_ne_none u)
    have noD : ∀ {b : Addr} {o : Obj} {es ep}, s₁.heap.get? b = some o → o.data = .dict es ep → H b = none := by
      intro b o es ep e d
      cases q : H b with
      | none => rfl
      | some u =>
        obtain rfl := other q
        rw [ha] at e
        cases e
        cases d
    have nsH : ∀ {b : Addr} {m : Str → Option Value}, s₁.heap.Ns b m → (hidT s₁.heap H).Ns b m := by
      rintro b m ⟨o, es, ep, e, d, r⟩
      exact ⟨o, es, ep, hidT_get e (noD e d), d, r⟩
    have inH : K.In (hidT s₁.heap H) := by
      intro b o e
      refine hidT_get (inS b o e) ?_
      cases q : H b with
      | none => rfl
      | some u =>
        obtain rfl := other q
        have z := hK (by rw [q]; exact Option.some_ne_none u)
        rw [z] at e
        cases e
    have md : L2.Mod K mg (hidT s₁.heap H) := ⟨inH, nsH hns, ⟨mb, nsH hb, hbb⟩, by
      obtain ⟨mc, h1, h2⟩ := hlim
      exact ⟨mc, nsH h1, h2⟩⟩
    have e0 : Env0 P w K mg (hidT s₁.heap H) callerA [] s₁ H := { frames := rfl, mod := md, bs := fun b o e => of_hidT e, bsz := Nat.le_of_eq (hidT_size s₁.heap H), funs := trivial, frf := fun b hb => absurd hb List.not_mem_nil, hok := hok, bare := AllBare.of_eq hg }
    refine codeAny_mono ((F (hidT s₁.heap H) inH (nsH hns)).run callerA [] s₁ H ⟨[.ref a], []⟩ [.ref a] [.ref a] (fun v _ => v = .bl true) (fun _ _ _ => False) rfl hr e0 (hbind s₁ _) (.cons rfl .nil) (hsp H hO hS)) fun r s' h => ?_
    cases r with
    | error e => exact (hCX H e s' h).elim
    | ok fl =>
      cases fl with
      | ret u =>
        obtain ⟨v, H', os, bare, un, hok', rr, rfl⟩ := h
        cases (show u = Value.bool true from rr)
        refine ⟨rfl, OldK.of_keep fun b o e => ?_, os, bare⟩
        cases q : H b with
        | none => exact un.keep b o e q (fun z => absurd z List.not_mem_nil) (fun z => absurd z List.not_mem_nil)
        | some u =>
          rcases hO b with z | ⟨ob, xs, z⟩
          · rw [q] at z
            cases z
          · have h1 : s₁.heap.get? b = some ob := (hok b _ z).1
            have h2 : s'.heap.get? b = some ob := (hok' b _ (un.frzs b ob _ z)).1
            rw [h2, ← h1, e]
      | _ => exact h.elim
  cases hk : K.lookup a with
  | none =>
    refine core (fun b => if b = a then some (.frz { cls := .type "list", data := .seq vs.toArray } (.lst (ns.map V.int))) else none) (fun b => ?_) (.inl (.inr ⟨_, if_pos rfl⟩)) (fun b u z => ?_) (fun b z => ?_) (fun _ => hk)
    · by_cases e : b = a
      · exact .inr ⟨_, _, if_pos e⟩
      · exact .inl (if_neg e)
    · by_cases e : b = a
      · subst e
        have z' := (if_pos rfl).symm.trans z
        cases z'
        exact ⟨ha, by rw [List.length_map]; exact hl, vs, 0, rv, ha⟩
      · have z' := (if_neg e).symm.trans z
        cases z'
    · by_cases e : b = a
      · exact e
      · exact absurd (if_neg e) z
  | some o =>
    have e := inS a o hk
    rw [ha] at e
    cases e
    exact core (fun _ => none) (fun _ => .inl rfl) (.inr ⟨_, vs.toArray, 0, hk, rfl, rfl, rfl, by rw [List.size_toArray, lenV]; exact hl, rv⟩) (fun b u z => nomatch z) (fun b z => absurd rfl z) (fun z => absurd rfl z)
end K7E
end
/-! ## KS -/
section
namespace K7E
open PySem PySem.Spec PyProof.Rows L2
theorem ts_pos {i : Int} (h0 : 0 ≤ i) : 0 < (Str.ofString (toString i)).length := by
  rw [PySem.ofString_length]
  obtain ⟨n, rfl⟩ : ∃ n : Nat, i = (n : Int) := ⟨i.toNat, by omega⟩
  refine Nat.pos_of_ne_zero fun e => ?_
  have e2 : toString ((n : Nat) : Int) = Nat.repr n := rfl
  rw [e2] at e
  exact Nat.repr_ne_empty (String.length_eq_zero_iff.mp e)
theorem strOk_of (s : String) : PyData.strOk (Str.ofString s) = true := by
  unfold PyData.strOk
  rw [Str.ofString_eq_toList]
  simp only [List.all_toArray, List.all_map, List.all_eq_true]
  intro c _
  have := c.valid
  simp only [Function.comp, decide_eq_true_eq]
  show c.val.toNat < 0x110000
  rcases this with h | ⟨_, h⟩
  · exact Nat.lt_trans h (by decide)
  · exact h
theorem strOk_app (a b : Str) (ha : PyData.strOk a = true) (hb : PyData.strOk b = true) : PyData.strOk (a ++ b) = true := by
  unfold PyData.strOk at *
  rw [Str.cps_append, Array.all_append, ha, hb]
  rfl
theorem longer_ne {a b c : Str} (h : c.length < a.length + b.length) : a ++ b ≠ c := fun e => by
  have := congrArg Str.length e
  rw [Str.length_append] at this
  omega
theorem eqv_str_ne {x y : Str} (h : x ≠ y) : PyData.eqv (.str x) (.str y) = false := by
  simp [PyData.eqv, h]
theorem log_ok {i : Int} (h0 : 0 ≤ i) (h1 : i < 10 ^ 30) : i.natAbs.log2 < 1920 := by
  rcases Nat.eq_zero_or_pos i.natAbs with z | z
  · rw [z]; decide
  · have : i.natAbs < 2 ^ 1920 := Nat.lt_of_lt_of_le (m := 10 ^ 30) (by omega) (by decide +kernel)
    exact (Nat.log2_lt (by omega)).mpr this
theorem short_ok {i : Int} (h0 : 0 ≤ i) (h1 : i < 10 ^ 30) : ("bound" : Str).length + (Str.ofString (toString i)).length ≤ sizeLine := by
  have h : (Str.ofString (toString i)).length ≤ 30 := by
    rw [PySem.ofString_length]
    obtain ⟨n, rfl⟩ : ∃ n : Nat, i = (n : Int) := ⟨i.toNat, by omega⟩
    show (Nat.repr n).length ≤ 30
    exact (Nat.length_repr_le_iff (by decide)).mpr (by omega)
  have h5 : ("bound" : Str).length = 5 := by decide +kernel
  have hs : (35 : Nat) ≤ sizeLine := by decide
  omega
end K7E
end
/-! ## OB -/
section
open PySem PySem.Spec PyProof.Rows L2
namespace K7
theorem notHand_refs : ∀ ts : List Addr, notHand (ts.map V.ref) = true
  | [] => rfl
  | [_] => rfl
  | [_, _] => rfl
  | [_, _, _] => rfl
  | [_, _, _, _] => rfl
  | _ :: _ :: _ :: _ :: _ :: _ => by rfl
theorem notHand_ints : ∀ ts : List Nat, notHand (ints_ ts) = true
  | [] => rfl
  | [_] => rfl
  | [_, _] => rfl
  | [_, _, _] => rfl
  | [_, _, _, _] => rfl
  | _ :: _ :: _ :: _ :: _ :: _ => by rfl
section
variable {h c : Addr} {H H' : Hp}
theorem Stay.tup {b : Addr} {xs : List V} (x : Stay h c H H') (hb : H b = some (.tup xs)) : H' b = some (.tup xs) := x.but b _ (x.hand0.net hb) hb
theorem Stay.tat (x : Stay h c H H') {ts : List Addr} {ls : List (List Nat)} (t : TAt H ts ls) : TAt H' ts ls := t.mono fun b xs hb => x.tup hb
theorem Stay.la (x : Stay h c H H') {q : Addr} {n : Nat} {es : List (Nat × Nat)} {lot : List Nat} (L : LandAt H q n es lot) : LandAt H' q n es lot := by
  obtain ⟨rA, sA, ts, h1, h2, h3, h4⟩ := L.at_
  exact ⟨⟨rA, sA, ts, x.tup h1, x.lst h2 (notHand_refs _), x.tat h3, x.lst h4 (notHand_ints _)⟩, L.ok, L.lot⟩
theorem Stay.lo (x : Stay h c H H') {C p : Addr} {n : Nat} {es : List (Nat × Nat)} {rd : List Nat} (L : LandO C H p n es rd) : LandO C H' p n es rd := by
  obtain ⟨dx, an, ar, ay, ac, tn, ty, tc, h1, h2, h3, h4, h5, h6, h7, h8⟩ := L.at_
  exact ⟨⟨dx, an, ar, ay, ac, tn, ty, tc, x.but p _ (x.hand0.nei h1) h1, x.tup h2, x.tat h3, x.tup h4, x.tup h5, x.tat h6, x.tup h7, x.tat h8⟩, L.n2, L.n5, L.ok, L.rlt, L.rnd, L.rso, L.r0, L.rn⟩
end
theorem es_len {n : Nat} {es : List (Nat × Nat)} (ok : LandOk n es) (hn : n ≤ 5) : es.length ≤ 32 := by
  have z := K7E.nodup_le es ((List.range 5).flatMap fun a => (List.range 5).map fun b => (a, b)) ok.nd fun e he => by
    obtain ⟨a, b⟩ := e
    obtain ⟨l1, l2⟩ := ok.lt _ he
    have l1 : a < b := l1
    have l2 : b < n := l2
    exact List.mem_flatMap.mpr ⟨a, List.mem_range.mpr (by omega), List.mem_map.mpr ⟨b, List.mem_range.mpr (by omega), rfl⟩⟩
  have e : ((List.range 5).flatMap fun a => (List.range 5).map fun b => (a, b)).length = 25 := by decide
  rw [e] at z
  omega
/-! ### what the law draws: things and rows of things -/
inductive Th1 (H : Hp) : V → PyData → Prop where
  | non : Th1 H .non .none
  | bl (b : Bool) : Th1 H (.bl b) (.bool b)
  | int (i : Int) (hi : i.natAbs < 10 ^ 40) : Th1 H (.int i) (.int i)
  | str (z : Str) (hz : (reprText z).length ≤ 64) : Th1 H (.str z) (.str z)
  | tupI {a : Addr} (h : H a = some (.tup [.int 0])) : Th1 H (.ref a) (.tuple [.int 0])
  | lstI {a : Addr} (h : H a = some (.lst [.int 0])) : Th1 H (.ref a) (.list [.int 0])
theorem Th1.dp {K : PySem.W.Frag} {H : Hp} {v : V} {d : PyData} (t : Th1 H v d) : Dp K H v d := by
  cases t with
  | non => exact .non
  | bl b => exact .bl b
  | int i _ => exact .int i
  | str z _ => exact .str z
  | tupI h => exact .tup (.inl (.inl h)) (.cons (.int 0) .nil)
  | lstI h => exact .lst (.inl (.inl h)) (.cons (.int 0) .nil)
theorem Th1.thing {H : Hp} {v : V} {d : PyData} (t : Th1 H v d) : Thing H v := by
  cases t with
  | non => exact .flat .non
  | bl b => exact .flat (.bl b)
  | int i _ => exact .flat (.int i)
  | str z _ => exact .flat (.str z)
  | tupI h => exact .tup h
  | lstI h => exact .lst h
theorem Th1.same {H H' : Hp} {v : V} {d : PyData} (t : Th1 H v d) (e : Same H H') : Th1 H' v d := by
  cases t with
  | non => exact .non
  | bl b => exact .bl b
  | int i k => exact .int i k
  | str z k => exact .str z k
  | tupI h => exact .tupI (e _ _ h)
  | lstI h => exact .lstI (e _ _ h)
theorem log_of {i : Int} (h : i.natAbs < 10 ^ 40) : i.natAbs.log2 < 1920 := by
  rcases Nat.eq_zero_or_pos i.natAbs with z | z
  · rw [z]; decide
  · have : i.natAbs < 2 ^ 1920 := Nat.lt_of_lt_of_le h (by decide +kernel)
    exact (Nat.log2_lt (by omega)).mpr this
theorem int_short {i : Int} (h : i.natAbs < 10 ^ 40) : (Str.ofString (toString i)).length ≤ 64 := by
  rw [PySem.ofString_length]
  have k : ∀ n : Nat, n < 10 ^ 40 → (Nat.repr n).length ≤ 40 := fun n hn => (Nat.length_repr_le_iff (by decide)).mpr hn
  cases i with
  | ofNat n =>
    have := k n h
    show (Nat.repr n).length ≤ 64
    omega
  | negSucc n =>
    have := k (n + 1) h
    show ("-" ++ Nat.repr (n + 1)).length ≤ 64
    rw [String.length_append]
    have : ("-" : String).length = 1 := by decide
    omega
theorem Th1.shown {H : Hp} {v : V} {d : PyData} (t : Th1 H v d) : d.showable = true ∧ d.hasDict = false ∧ d.depth ≤ 1 ∧ d.shown.length ≤ 64 := by
  cases t with
  | non => exact ⟨rfl, rfl, by decide, by decide⟩
  | bl b => cases b <;> exact ⟨rfl, rfl, by decide, by decide +kernel⟩
  | int i k => exact ⟨decide_eq_true (log_of k), rfl, Nat.zero_le _, int_short k⟩
  | str z k => exact ⟨rfl, rfl, Nat.zero_le _, k⟩
  | tupI h => exact ⟨by decide, by decide, by decide, by decide +kernel⟩
  | lstI h => exact ⟨by decide, by decide, by decide, by decide +kernel⟩
theorem Th1.rpr {K : PySem.W.Frag} {H : Hp} {v : V} {d : PyData} (t : Th1 H v d) : K7E.Rpr K H v d.shown := by
  have s := t.shown
  cases t with
  | non => exact .flat (v := .non) trivial
  | bl b => cases b <;> exact .flat (v := .bl _) trivial
  | int i k => exact .flat (v := .int i) (log_of k)
  | str z k => exact .flat (v := .str z) (Nat.le_trans k (by decide))
  | tupI h => exact .dat (Th1.tupI h).dp s.1 s.2.1 (by omega) (Nat.le_trans s.2.2.2 (by decide))
  | lstI h => exact .dat (Th1.lstI h).dp s.1 s.2.1 (by omega) (Nat.le_trans s.2.2.2 (by decide))
theorem Th1.stay {h c : Addr} {H H' : Hp} {v : V} {d : PyData} (t : Th1 H v d) (e : Stay h c H H') : Th1 H' v d := by
  cases t with
  | non => exact .non
  | bl b => exact .bl b
  | int i k => exact .int i k
  | str z k => exact .str z k
  | tupI h => exact .tupI (e.tup h)
  | lstI h => exact .lstI (e.lst h rfl)
inductive OAll (H : Hp) : List V → List PyData → Prop where
  | nil : OAll H [] []
  | cons {v : V} {d : PyData} {vs : List V} {ds : List PyData} (h : Th1 H v d) (r : OAll H vs ds) : OAll H (v :: vs) (d :: ds)
theorem OAll.snoc {H : Hp} {v : V} {d : PyData} (h : Th1 H v d) : ∀ {vs : List V} {ds : List PyData}, OAll H vs ds → OAll H (vs ++ [v]) (ds ++ [d])
  | _, _, .nil => .cons h .nil
  | _, _, .cons x r => .cons x (r.snoc h)
theorem OAll.same {H H' : Hp} (e : Same H H') : ∀ {vs : List V} {ds : List PyData}, OAll H vs ds → OAll H' vs ds
  | _, _, .nil => .nil
  | _, _, .cons x r => .cons (x.same e) (r.same e)
theorem OAll.stay {h c : Addr} {H H' : Hp} (e : Stay h c H H') : ∀ {vs : List V} {ds : List PyData}, OAll H vs ds → OAll H' vs ds
  | _, _, .nil => .nil
  | _, _, .cons x r => .cons (x.stay e) (r.stay e)
theorem OAll.dp {K : PySem.W.Frag} {H : Hp} : ∀ {vs : List V} {ds : List PyData}, OAll H vs ds → DpAll K H vs ds
  | _, _, .nil => .nil
  | _, _, .cons x r => .cons x.dp r.dp
theorem OAll.thing {H : Hp} : ∀ {vs : List V} {ds : List PyData}, OAll H vs ds → ∀ y ∈ vs, Thing H y
  | _, _, .nil => fun _ m => nomatch m
  | _, _, .cons x r => fun y m => by
    rcases List.mem_cons.mp m with rfl | m
    · exact x.thing
    · exact r.thing y m
theorem OAll.len {H : Hp} : ∀ {vs : List V} {ds : List PyData}, OAll H vs ds → vs.length = ds.length
  | _, _, .nil => rfl
  | _, _, .cons _ r => congrArg (· + 1) r.len
theorem OAll.shown {H : Hp} : ∀ {vs : List V} {ds : List PyData}, OAll H vs ds → PyData.showableAll ds = true ∧ PyData.hasDictAll ds = false ∧ PyData.depthAll ds ≤ 1 ∧ ((PyData.shownAll ds).map fun x => x.length).sum ≤ 64 * ds.length ∧ (PyData.shownAll ds).length = ds.length
  | _, _, .nil => ⟨rfl, rfl, by decide, by decide, rfl⟩
  | _, d :: ds, .cons x r => by
    obtain ⟨a1, a2, a3, a4⟩ := x.shown
    obtain ⟨b1, b2, b3, b4, b5⟩ := r.shown
    refine ⟨?_, ?_, ?_, ?_, ?_⟩
    · simp only [PyData.showableAll, a1, b1, Bool.and_self]
    · simp only [PyData.hasDictAll, a2, b2, Bool.or_self]
    · simp only [PyData.depthAll]
      omega
    · simp only [PyData.shownAll, List.map_cons, List.sum_cons, List.length_cons]
      omega
    · simp only [PyData.shownAll, List.length_cons, b5]
theorem OAll.rprL {K : PySem.W.Frag} {H : Hp} {a : Addr} {vs : List V} {ds : List PyData} (o : OAll H vs ds) (hl : ds.length ≤ 1000) (h : H a = some (.lst vs)) : K7E.Rpr K H (.ref a) (PyData.list ds).shown := by
  obtain ⟨b1, b2, b3, b4, b5⟩ := o.shown
  refine .dat (.lst (.inl (.inl h)) o.dp) (by simp only [PyData.showable]; exact b1) (by simp only [PyData.hasDict]; exact b2) (by simp only [PyData.depth]; omega) ?_
  have e : (PyData.list ds).shown = listText (PyData.shownAll ds) := by simp only [PyData.shown]
  have t := PySem.textFrom_len_le (PyData.shownAll ds) 0 "["
  have hs : (100000 : Nat) ≤ sizeLine := by decide
  have l1 : ("[" : Str).length = 1 := by decide +kernel
  have l2 : ("]" : Str).length = 1 := by decide +kernel
  rw [e]
  unfold PySem.listText
  rw [Str.length_append]
  omega
theorem OAll.rprT {K : PySem.W.Frag} {H : Hp} {a : Addr} {vs : List V} {ds : List PyData} (o : OAll H vs ds) (hl : ds.length ≤ 1000) (h : H a = some (.tup vs)) : K7E.Rpr K H (.ref a) (PyData.tuple ds).shown := by
  obtain ⟨b1, b2, b3, b4, b5⟩ := o.shown
  refine .dat (.tup (.inl (.inl h)) o.dp) (by simp only [PyData.showable]; exact b1) (by simp only [PyData.hasDict]; exact b2) (by simp only [PyData.depth]; omega) ?_
  have e : (PyData.tuple ds).shown = tupleText (PyData.shownAll ds) := by simp only [PyData.shown]
  have t := PySem.StrLaws.join_length_le ", " (PyData.shownAll ds)
  have hs : (100000 : Nat) ≤ sizeLine := by decide
  have l1 : ("(" : Str).length = 1 := by decide +kernel
  have l2 : (", " : Str).length = 2 := by decide +kernel
  have l3 : (Str.ofString (if ((PyData.shownAll ds).length == 1) = true then ",)" else ")")).length ≤ 2 := by split <;> decide +kernel
  rw [e]
  unfold PySem.tupleText
  rw [Str.length_append, Str.length_append]
  rw [l2] at t
  omega
/-- a row as the law draws it; a list is not the hand -/
inductive RowIs (h : Addr) (H : Hp) : V → Prop where
  | non : RowIs h H .non
  | bl (b : Bool) : RowIs h H (.bl b)
  | int (i : Int) (k : i.natAbs < 10 ^ 40) : RowIs h H (.int i)
  | str (z : Str) (k : (reprText z).length ≤ 64) : RowIs h H (.str z)
  | emp {a : Addr} (e : H a = some (.dK [])) : RowIs h H (.ref a)
  | lst {a : Addr} {xs : List V} {ds : List PyData} (e : H a = some (.lst xs)) (o : OAll H xs ds) (l : xs.length ≤ 32) (n : a ≠ h) : RowIs h H (.ref a)
  | tup {a : Addr} {xs : List V} {ds : List PyData} (e : H a = some (.tup xs)) (o : OAll H xs ds) (l : xs.length ≤ 32) : RowIs h H (.ref a)
theorem RowIs.same {h : Addr} {H H' : Hp} {v : V} (r : RowIs h H v) (e : Same H H') : RowIs h H' v := by
  cases r with
  | non => exact .non
  | bl b => exact .bl b
  | int i k => exact .int i k
  | str z k => exact .str z k
  | emp g => exact .emp (e _ _ g)
  | lst g o l n => exact .lst (e _ _ g) (o.same e) l n
  | tup g o l => exact .tup (e _ _ g) (o.same e) l
theorem RowIs.stay {h c : Addr} {H H' : Hp} {v : V} (r : RowIs h H v) (e : Stay h c H H') : RowIs h H' v := by
  cases r with
  | non => exact .non
  | bl b => exact .bl b
  | int i k => exact .int i k
  | str z k => exact .str z k
  | emp g => exact .emp (e.but _ _ (e.hand0.ned g) g)
  | lst g o l n => exact .lst (e.but _ _ n g) (o.stay e) l n
  | tup g o l => exact .tup (e.tup g) (o.stay e) l
end K7
end
/-! ## EVL -/
section
open PySem PySem.Spec PyProof.Rows L2
namespace K7E
/-- a comprehension of two «for»: the outer one over a list -/
theorem out_list {K : PySem.W.Frag} {a : Addr} {xs : List V} {g : TG} {tt : TT} {inner : (Hp → Prop) → L2.St → Hp → Prop} {vs : List Nat} {τ : L2.St} {H1 : Hp} {D : Addr} {Qd : Hp → Prop} (Pv : Nat → Hp → Prop) (h0 : Pv 0 (upd H1 D (.lst []))) (hl : ∀ i H, i ≤ xs.length → Pv i H → SqL K H a xs)
    (hs : ∀ i x H, xs[i]? = some x → Pv i H → g x (wipe τ vs) H fun t2 H2 => wipe t2 vs = wipe τ vs ∧ tt t2 H2 fun b H3 => if b = true then inner (Pv (i + 1)) t2 H3 else Pv (i + 1) H3) (hd : ∀ H, Pv xs.length H → Qd H) :
    ∃ W : Nat → Nat → Hp → Prop, (∃ m, W 0 m (upd H1 D (.lst []))) ∧ ∀ i m H, W i m H → ((Itl K a).stop i H ∧ Qd H) ∨ ((Itl K a).go i H ∧ ∃ Nx : Hp → Prop, (∀ H', Nx H' → ∃ m', m' < m ∧ W (i + 1) m' H') ∧
      ∀ x H', (Itl K a).yld i H x H' → g x (wipe τ vs) H' fun t2 H2 => wipe t2 vs = wipe τ vs ∧ tt t2 H2 fun b H3 => if b = true then inner Nx t2 H3 else Nx H3) := by
  refine ⟨fun i m H => m = xs.length - i ∧ i ≤ xs.length ∧ Pv i H, ⟨xs.length, by simp, Nat.zero_le _, h0⟩, ?_⟩
  rintro i m H ⟨rfl, hi, p⟩
  have q := hl i H hi p
  by_cases hlt : i < xs.length
  · refine .inr ⟨⟨xs, xs[i], q, by simp [hlt]⟩, Pv (i + 1), fun H' p' => ⟨xs.length - (i + 1), by omega, rfl, hlt, p'⟩, fun x H' y => ?_⟩
    obtain ⟨e, y⟩ := y
    subst e
    exact hs i x _ (y xs q) p
  · have e : i = xs.length := by omega
    subst e
    exact .inl ⟨⟨xs, q, Nat.le_refl _⟩, hd H p⟩
/-- one of two readings, by a name -/
def tEi (t1 t2 : TE) : TE := fun σ H Q => t1 σ H Q ∨ t2 σ H Q
theorem pe_ei {X : Cx} {e : Expr} {t1 t2 : TE} (a : PE X e t1) (b : PE X e t2) : PE X e (tEi t1 t2) := ⟨fun pins s σ H Q I h => h.elim (a.run pins s σ H Q I) (b.run pins s σ H Q I)⟩
end K7E
end
/-! ## E1 -/
section
namespace K7E
open PySem PySem.SeqAt PySem.MeetsSeq PySem.AutoSeq1
theorem dict_eq_declines_str (l : Addr) (es : Array DictEntry) (n : Nat) (dd : Option Addr) (sl : Array (Option Value)) (b : Str) (u : Tok) :
    Meets (Builtin.«dict.__eq__» ⟨[.ref l, .str b u], []⟩) (fun _ R s => s.heap.get? l = some { cls := .type "dict", dict := dd, data := .dict es n, slots := sl } ∧ R (.ok (.ret .notImplemented)) s) :=
  .of_wp fun prog w A R s h => by obtain ⟨hp, g, d, tk, os⟩ := s; obtain ⟨hl, h⟩ := h; have f1 := F.sub_str_dict; wp_walk using wpAny_loadPart' hl; exact ⟨_, rfl, h⟩
theorem str_eq_declines_dict (b : Str) (u : Tok) (l : Addr) (c : Value) (es : Array DictEntry) (n : Nat) (dd : Option Addr) (sl : Array (Option Value)) :
    Meets (Builtin.«str.__eq__» ⟨[.str b u, .ref l], []⟩) (fun _ R s => s.heap.get? l = some { cls := c, dict := dd, data := .dict es n, slots := sl } ∧ R (.ok (.ret .notImplemented)) s) :=
  .of_wp fun prog w A R s h => by obtain ⟨hp, g, d, tk, os⟩ := s; obtain ⟨hl, h⟩ := h; wp_walk using wpAny_loadPart' hl, wpAny_load hl; exact ⟨_, rfl, h⟩
theorem RcAt.str_dict {A : Around} {s : Shared} {l : Addr} {es : Array DictEntry} {n : Nat} {dd : Option Addr} {sl : Array (Option Value)} (b : Str) (u : Tok) (ho : s.heap.get? l = some { cls := .type "dict", dict := dd, data := .dict es n, slots := sl }) (hu : A.units < cLine) : RcAt A s (.str b u) (.ref l) false := fun prog w E Q h => by
  exact rc_eq_decline_or (k := false) (typeIs_str s b u) ⟨_, ho, rfl⟩ (by decide) F.sub_dict_str F.slot_str_eq F.slot_dict_eq_refl
    (fun _ hq => call_meets F.slot_str_eq (typeIs_str s b u) F.entry_str_eq (F.args_str_eq_2 _ _) (str_eq_declines_dict b u l (.type "dict") es n dd sl) ⟨ho, hq⟩)
    (fun _ hq => call_meets F.slot_dict_eq_refl ⟨_, ho, rfl⟩ F.entry_dict_eq (F.args_dict_eq_2 _ _) (dict_eq_declines_str l es n dd sl b u) ⟨ho, hq⟩)
    (fun _ hq => wpAny_of_eq (rfl : isSame (.str b u) (.ref l) = pure false) hq) (.inr hu) h
theorem EqAt.str_dict {A : Around} {s : Shared} {l : Addr} {es : Array DictEntry} {n : Nat} {dd : Option Addr} {sl : Array (Option Value)} (b : Str) (u : Tok) (ho : s.heap.get? l = some { cls := .type "dict", dict := dd, data := .dict es n, slots := sl }) (hu : A.units < cLine) : EqAt A s (.str b u) (.ref l) false := fun prog w E Q h => by
  unfold eqBool
  refine wpAny_holding ?_
  refine wpAny_ite_split (fun hab => absurd (eq_of_beq hab) nofun) (fun _ => ?_)
  exact wpAny_bind (RcAt.str_dict b u ho hu prog w E _ (wpAny_truthy_bool h))
end K7E
end
/-! ## INW -/
section
open PySem PySem.Spec PyProof.Rows L2
namespace K7
/-! ### x in a tuple of texts, x any thing -/
/-- a thing that is no text -/
inductive Odd (K : PySem.W.Frag) (H : Hp) : V → Prop where
  | non : Odd K H .non
  | bl (b : Bool) : Odd K H (.bl b)
  | int (i : Int) : Odd K H (.int i)
  | lst {a : Addr} {xs : List V} (h : H a = some (.lst xs)) : Odd K H (.ref a)
  | tup {a : Addr} {xs : List V} (h : H a = some (.tup xs)) : Odd K H (.ref a)
  | dct {a : Addr} {kvs : List (Key × V)} (h : H a = some (.dK kvs)) : Odd K H (.ref a)
theorem Odd.same {K : PySem.W.Frag} {H H' : Hp} {x : V} (o : Odd K H x) (e : Same H H') : Odd K H' x := by
  cases o with
  | non => exact .non
  | bl b => exact .bl b
  | int i => exact .int i
  | lst h => exact .lst (e _ _ h)
  | tup h => exact .tup (e _ _ h)
  | dct h => exact .dct (e _ _ h)
/-- whether x is one of the texts -/
inductive InW (K : PySem.W.Frag) (H : Hp) (ss : List Str) : V → Bool → Prop where
  | str (z : Str) : InW K H ss (.str z) (decide (z ∈ ss))
  | odd {x : V} (o : Odd K H x) : InW K H ss x false
def rInW (K : PySem.W.Frag) (neg : Bool) : R2 := fun x y H Q => ∃ p ss b, y = .ref p ∧ SqT K H p (ss.map V.str) ∧ InW K H ss x b ∧ Q (.bl (if neg then !b else b)) H
section
variable {X : Cx}
theorem vals_strs : ∀ {ss : List Str} {us : List Value}, Vals (ss.map V.str) us → ∀ u ∈ us, ∃ z t, u = .str z t ∧ z ∈ ss
  | [], _, r => fun u hu => by cases r; cases hu
  | z :: ss, _, r => fun u hu => by
    rw [List.map_cons] at r
    cases r with
    | cons h r =>
      obtain ⟨t, rfl⟩ := h
      rcases List.mem_cons.mp hu with rfl | hu
      · exact ⟨z, t, rfl, List.mem_cons_self⟩
      · obtain ⟨z', t', e, m⟩ := vals_strs r u hu
        exact ⟨z', t', e, List.mem_cons_of_mem _ m⟩
theorem any_strs (z : Str) : ∀ {ss : List Str} {us : List Value}, Vals (ss.map V.str) us → us.any (fun u => match u with | .str y _ => y == z | _ => false) = decide (z ∈ ss)
  | [], _, r => by cases r; rfl
  | y :: ss, _, r => by
    rw [List.map_cons] at r
    cases r with
    | cons h r =>
      obtain ⟨t, rfl⟩ := h
      rw [List.any_cons, any_strs z r]
      by_cases e : y = z
      · subst e
        simp
      · have e' : (y == z) = false := beq_eq_false_iff_ne.mpr e
        have e2 : ¬ z = y := fun q => e q.symm
        simp only [e', Bool.false_or, List.mem_cons, e2, false_or]
theorem odd_eq {A : Around} {pins : List (Addr × Obj)} {s : Shared} {σ : L2.St} {H : Hp} {x : V} {v : Value} (I : Inv X pins σ H s) (hu : A.units < cLine) (o : Odd X.K H x) (rx : RelV x v) (z : Str) (t : Tok) : SeqAt.EqAt A s (.str z t) v false := by
  cases o with
  | non => cases rx; exact SeqAt.EqAt.str_none z t
  | bl b => cases rx; exact SeqAt.EqAt.str_bool z t b
  | int i => obtain ⟨t', rfl⟩ := rx; exact SeqAt.EqAt.str_int z t i t'
  | @lst a xs h =>
    cases (show v = Value.ref a from rx)
    obtain ⟨_, its, n, _, h1⟩ := (show ObjOk X.prog X.w H s.heap a (.lst xs) from I.hok a _ h)
    exact SeqAt.EqAt.str_list z t ⟨_, h1, rfl, _, rfl⟩ hu
  | @tup a xs h =>
    cases (show v = Value.ref a from rx)
    obtain ⟨_, its, _, pl⟩ := (show ObjOk X.prog X.w H s.heap a (.tup xs) from I.hok a _ h)
    exact SeqAt.EqAt.str_tuple z t pl hu
  | @dct a kvs h =>
    cases (show v = Value.ref a from rx)
    obtain ⟨_, _, vs, _, o, es, ep, h1, h2, h3⟩ := (show ObjOk X.prog X.w H s.heap a (.dK kvs) from I.hok a _ h)
    obtain ⟨oc, od, oda, osl⟩ := o
    have e1 := h2.1
    simp only at e1 h3
    subst e1
    obtain ⟨h3, _⟩ := h3
    subst h3
    exact K7E.EqAt.str_dict z t h1 hu
theorem inW_core {A : Around} {pins : List (Addr × Obj)} {s : Shared} {σ : L2.St} {H : Hp} {x : V} {v : Value} {ss : List Str} {b : Bool} {its : List Value} (I : Inv X pins σ H s) (hu : A.units < cLine) (r : Vals (ss.map V.str) its) (rx : RelV x v) (h : InW X.K H ss x b) :
    ∃ f : Value → Bool, (∀ w ∈ its, SeqAt.EqAt A s w v (f w)) ∧ its.any f = b := by
  cases h with
  | str z =>
    obtain ⟨t', rfl⟩ := rx
    refine ⟨fun u => match u with | .str y _ => y == z | _ => false, fun w hw => ?_, any_strs z r⟩
    obtain ⟨y, t, rfl, _⟩ := vals_strs r w hw
    exact SeqAt.EqAt.str_str y t z t'
  | odd o =>
    refine ⟨fun _ => false, fun w hw => ?_, by simp⟩
    obtain ⟨y, t, rfl, _⟩ := vals_strs r w hw
    exact odd_eq I hu o rx y t
theorem op_inW (hu : X.A.units + 1 < cLine) : OpR X (compareOp .In) (rInW X.K false) := by
  intro pins s σ H x y v u Q I rx ry h
  obtain ⟨p, ss, b, rfl, hq, hi, q⟩ := h
  cases ry
  obtain ⟨its, r, pl, hz⟩ := I.tuple hq
  obtain ⟨f, hf, e⟩ := inW_core (A := X.A.in1) I hu r rx hi
  refine SeqAt.in_tupleAt f pl (fun w hw => hf w (by simpa using hw)) ⟨.bl _, H, I, rfl, ?_⟩
  rw [show its.toArray.any f = its.any f by simp, e]
  exact q
theorem op_notInW (hu : X.A.units + 1 < cLine) : OpR X (compareOp .NotIn) (rInW X.K true) := by
  intro pins s σ H x y v u Q I rx ry h
  obtain ⟨p, ss, b, rfl, hq, hi, q⟩ := h
  cases ry
  obtain ⟨its, r, pl, hz⟩ := I.tuple hq
  obtain ⟨f, hf, e⟩ := inW_core (A := X.A.in1) I hu r rx hi
  refine SeqAt.notIn_tupleAt f pl (fun w hw => hf w (by simpa using hw)) ⟨.bl _, H, I, rfl, ?_⟩
  rw [show its.toArray.any f = its.any f by simp, e]
  exact q
end
end K7
end
/-! ## TW -/
section
open PySem PySem.Spec PyProof.Rows L2
namespace K7E
open PySem.SeqAt K7
/-! ### two things alike in shape whose leaves are the same -/
inductive All2 {α β : Type} (R : α → β → Prop) : List α → List β → Prop
  | nil : All2 R [] []
  | cons {a b as bs} : R a b → All2 R as bs → All2 R (a :: as) (b :: bs)
theorem All2.len {α β : Type} {R : α → β → Prop} {as : List α} {bs : List β} (h : All2 R as bs) : as.length = bs.length := by
  induction h with
  | nil => rfl
  | cons _ _ ih => rw [List.length_cons, List.length_cons, ih]
theorem All2.get {α β : Type} {R : α → β → Prop} {as : List α} {bs : List β} (h : All2 R as bs) : ∀ {i : Nat} {a : α} {b : β}, as[i]? = some a → bs[i]? = some b → R a b := by
  induction h with
  | nil => exact fun e => nomatch e
  | cons h _ ih =>
    intro i a b e1 e2
    cases i with
    | zero => cases e1; cases e2; exact h
    | succ i => exact ih (i := i) e1 e2
def Tw (H : Hp) : Nat → V → V → Prop
  | 0, x, y => x = y ∧ (Flat4 x ∨ ∃ a, x = .ref a)
  | d + 1, x, y => (x = y ∧ (Flat4 x ∨ ∃ a, x = .ref a)) ∨ ∃ a b xs ys, x = .ref a ∧ y = .ref b ∧ H a = some (.tup xs) ∧ H b = some (.tup ys) ∧ All2 (Tw H d) xs ys
section
variable {X : Cx}
theorem same_at {A : Around} {s : Shared} {x : V} {v u : Value} (h : Flat4 x ∨ ∃ a, x = .ref a) (r1 : RelV x v) (r2 : RelV x u) : SeqAt.EqAt A s v u true := by
  rcases h with h | ⟨a, rfl⟩
  · cases h with
    | non => cases r1; cases r2; exact .same _
    | bl b => cases r1; cases r2; exact .same _
    | int i =>
      obtain ⟨t, rfl⟩ := r1
      obtain ⟨t', rfl⟩ := r2
      have z := SeqAt.EqAt.int_int (A := A) (s := s) i t i t'
      rw [beq_self_eq_true] at z
      exact z
    | str z =>
      obtain ⟨t, rfl⟩ := r1
      obtain ⟨t', rfl⟩ := r2
      have y := SeqAt.EqAt.str_str (A := A) (s := s) z t z t'
      rw [beq_self_eq_true] at y
      exact y
  · cases r1; cases r2; exact .same _
theorem at_of {xs : List V} {us : List Value} (r : Vals xs us) {j : Nat} (h : j < us.length) : ∃ x, xs[j]? = some x ∧ RelV x us[j] := by
  have l := r.length
  obtain ⟨u, e, q⟩ := r.get (List.getElem?_eq_getElem (show j < xs.length by omega))
  rw [List.getElem?_eq_getElem h] at e
  cases e
  exact ⟨_, List.getElem?_eq_getElem (by omega), q⟩
theorem all_true (n : Nat) : (List.range n).all (fun _ => true) = true := by simp
theorem tw_at {pins : List (Addr × Obj)} {σ : L2.St} {H : Hp} {s : Shared} (I : Inv X pins σ H s) : ∀ (d : Nat) (A : Around) (x y : V) (v u : Value), A.units + d < cLine → Tw H d x y → RelV x v → RelV y u → SeqAt.EqAt A s v u true
  | 0, A, x, y, v, u, _, h, r1, r2 => by
    obtain ⟨rfl, h⟩ := h
    exact same_at h r1 r2
  | d + 1, A, x, y, v, u, hu, h, r1, r2 => by
    rcases h with ⟨rfl, h⟩ | ⟨a, b, xs, ys, rfl, rfl, h1, h2, hx⟩
    · exact same_at h r1 r2
    · cases r1; cases r2
      by_cases e : a = b
      · subst e; exact .same _
      · obtain ⟨i1, v1, p1, _⟩ := I.tuple (.inl (.inl h1))
        obtain ⟨i2, v2, p2, _⟩ := I.tuple (.inl (.inl h2))
        refine SeqAt.EqAt.of_refs e ?_
        have l1 := v1.length
        have l2 := v2.length
        have l3 := hx.len
        have z := SeqAt.RcAt.tuples (A := A) (e := fun _ => true) p1 p2 (by omega) fun j h1 h2 => by
          have j1 : j < i1.length := by simpa using h1
          have j2 : j < i2.length := by simpa using h2
          obtain ⟨x1, e1, q1⟩ := at_of v1 j1
          obtain ⟨x2, e2, q2⟩ := at_of v2 j2
          exact tw_at I d A.in1 x1 x2 _ _ (by show A.units + 1 + d < cLine; omega) (hx.get e1 e2) (by simpa using q1) (by simpa using q2)
        rw [all_true] at z
        have es : (i1.toArray.size == i2.toArray.size) = true := by simp; omega
        rw [es] at z
        exact z
def rNeTw (d : Nat) : R2 := fun x y H Q => ∃ a b xs ys, x = .ref a ∧ y = .ref b ∧ H a = some (.tup xs) ∧ H b = some (.tup ys) ∧ All2 (Tw H d) xs ys ∧ Q (.bl false) H
theorem op_neTw {d : Nat} (hu : X.A.units + d + 1 < cLine) : OpR X (compareOp .NotEq) (rNeTw d) := by
  intro pins s σ H x y v u Q I rx ry h
  obtain ⟨a, b, xs, ys, rfl, rfl, h1, h2, hx, q⟩ := h
  cases rx; cases ry
  obtain ⟨i1, v1, p1, _⟩ := I.tuple (.inl (.inl h1))
  obtain ⟨i2, v2, p2, _⟩ := I.tuple (.inl (.inl h2))
  have l1 := v1.length
  have l2 := v2.length
  have l3 := hx.len
  have z := RcNeAt.tuples (A := X.A) (e := fun _ => true) p1 p2 (by omega) fun j h1 h2 => by
    have j1 : j < i1.length := by simpa using h1
    have j2 : j < i2.length := by simpa using h2
    obtain ⟨x1, e1, q1⟩ := at_of v1 j1
    obtain ⟨x2, e2, q2⟩ := at_of v2 j2
    exact tw_at I d X.A.in1 x1 x2 _ _ (by show X.A.units + 1 + d < cLine; omega) (hx.get e1 e2) (by simpa using q1) (by simpa using q2)
  rw [all_true] at z
  have es : (i1.toArray.size == i2.toArray.size) = true := by simp; omega
  rw [es] at z
  exact z _ _ _ _ ⟨.bl _, H, I, rfl, q⟩
end
end K7E
end
/-! ## P15 -/
section
open PySem PySem.Spec PyProof.Rows L2
namespace K7
abbrev N__are_hands : List Str := ["land", "thing", "hand"]
abbrev s__are_hands : Stmt := topS 24
theorem sc__are_hands : FnScope ["land", "thing", "hand"] ["land", "thing"] (defScope s__are_hands) := ⟨rfl, rfl, rfl, by decide +kernel, rfl, by decide +kernel, by decide +kernel⟩
abbrev N_is_row : List Str := ["land", "a", "thing", "word"]
abbrev s_is_row : Stmt := topS 25
theorem sc_is_row : FnScope ["land", "a", "thing", "word"] ["land", "a", "thing"] (defScope s_is_row) := ⟨rfl, rfl, rfl, by decide +kernel, rfl, by decide +kernel, by decide +kernel⟩
theorem al {H : Hp} {o : HO} {b : Addr} (nb : H b = none) : Same H (upd H b o) := same_new (Same.refl H) nb
/-! ### words of standings -/
def wd : Nat → Str
  | 0 => "none"
  | 1 => "awake"
  | 2 => "needed"
  | _ => "asleep"
def wds (row : List Nat) : List V := row.map fun k => .str (wd k)
def stds : List V := [.str "none", .str "awake", .str "needed", .str "asleep"]
theorem wds_snoc (l : List Nat) (k : Nat) : wds (l ++ [k]) = wds l ++ [.str (wd k)] := by
  unfold wds
  rw [List.map_append]
  rfl
theorem wd_in (k : Nat) : inV (.str (wd k)) stds = true := by
  match k with
  | 0 => decide +kernel
  | 1 => decide +kernel
  | 2 => decide +kernel
  | k + 3 =>
    show inV (.str "asleep") stds = true
    decide +kernel
/-- what the top says of states -/
structure T5s (K : PySem.W.Frag) (mg : Str → Option Value) (aST aRI : Addr) (tH : Tok) : Prop where
  gST : mg "STANDINGS" = some (.ref aST)
  gRI : mg "RIGHTS" = some (.ref aRI)
  gH : mg "MOST_HAND" = some (.int (10 ^ 30) tH)
  sST : ∀ H, SqT K H aST stds
  sRI : ∀ H, SqT K H aRI [.str "awake", .str "needed"]

/-! ### things of every kind -/
def words4 : List Str := ["none", "awake", "needed", "asleep"]
theorem stds_words : stds = words4.map V.str := rfl
/-- flat, or a list of one flat thing -/
def Leaf (H : Hp) (y : V) : Prop := Flat4 y ∨ ∃ c z, y = .ref c ∧ H c = some (.lst [z]) ∧ Flat4 z
theorem Leaf.same {H H' : Hp} {y : V} (l : Leaf H y) (e : Same H H') : Leaf H' y := l.imp id fun ⟨c, z, h1, h2, h3⟩ => ⟨c, z, h1, e _ _ h2, h3⟩
theorem Leaf.thing {H : Hp} {y : V} (l : Leaf H y) : Thing H y := l.elim .flat fun ⟨c, z, h1, h2, h3⟩ => by subst h1; exact .lst h2
def isWord : V → Bool
  | .str z => decide (z ∈ words4)
  | _ => false
theorem leaf_word {K : PySem.W.Frag} {H : Hp} {y : V} (l : Leaf H y) : InW K H words4 y (isWord y) := by
  rcases l with f | ⟨c, z, rfl, h, _⟩
  · cases f with
    | non => exact .odd .non
    | bl b => exact .odd (.bl b)
    | int i => exact .odd (.int i)
    | str z => exact .str z
  · exact .odd (.lst h)
/-- what is no sequence -/
def NoRow (H : Hp) (v : V) : Prop := Flat4 v ∨ ∃ b, v = .ref b ∧ H b = some (.dK [])
theorem NoRow.same {H H' : Hp} {y : V} (l : NoRow H y) (e : Same H H') : NoRow H' y := l.imp id fun ⟨c, h1, h2⟩ => ⟨c, h1, e _ _ h2⟩
section
variable {K : PySem.W.Frag}
theorem any_dict : PySem.W.kitAny K (.type "dict") [.type "list", .type "tuple"] = some false := kitAny_cons (b := false) (kit_ty (by decide +kernel)) (fun _ => kitAny_cons (b := false) (kit_ty (by decide +kernel)) (fun _ => kitAny_nil) (fun z => nomatch z)) (fun z => nomatch z)
theorem NoRow.ty {H : Hp} {v : V} (h : NoRow H v) : ∃ t : String, (∀ H1, Same H H1 → TyX K H1 v (.type t)) ∧ PySem.W.kitAny K (.type t) [.type "list", .type "tuple"] = some false := by
  rcases h with f | ⟨b, rfl, h⟩
  · cases f with
    | non => exact ⟨"NoneType", fun _ _ => .base .non, any_non⟩
    | bl b => exact ⟨"bool", fun _ _ => .base (.bl b), any_bool⟩
    | int i => exact ⟨"int", fun _ _ => .base (.int i), any_int⟩
    | str z => exact ⟨"str", fun _ _ => .base (.str z), any_str⟩
  · exact ⟨"dict", fun H1 e => .base (.dK (e _ _ h)), any_dict⟩
end
def wholeH (y : V) : Bool := wholeV y 0 (10 ^ 30)
/-- what _are_hands says of a thing -/
inductive HdV (n : Nat) (H : Hp) : V → Bool → Prop
  | no {v : V} (h : NoRow H v) : HdV n H v false
  | row {b : Addr} {vs : List V} (h : SqOf H b vs) (it : ∀ y ∈ vs, Leaf H y) (l : vs.length ≤ 10) : HdV n H (.ref b) (decide (vs.length = n) && vs.all wholeH)
theorem HdV.same {n : Nat} {H H' : Hp} {v : V} {b : Bool} (h : HdV n H v b) (e : Same H H') : HdV n H' v b := by
  cases h with
  | no h => exact .no (h.same e)
  | row h it l => exact .row (h.same e) (fun y hy => (it y hy).same e) l
/-- what is_row says of a thing -/
inductive RwV (n a : Nat) (H : Hp) : V → Bool → Prop
  | no {v : V} (h : NoRow H v) : RwV n a H v false
  | row {b : Addr} {vs : List V} (h : SqOf H b vs) (it : ∀ y ∈ vs, Leaf H y) (l : vs.length ≤ 10) : RwV n a H (.ref b) (decide (vs.length = n) && (vs.all isWord && decide (vs[a]? = some (.str "none"))))
theorem RwV.same {n a : Nat} {H H' : Hp} {v : V} {b : Bool} (h : RwV n a H v b) (e : Same H H') : RwV n a H' v b := by
  cases h with
  | no h => exact .no (h.same e)
  | row h it l => exact .row (h.same e) (fun y hy => (it y hy).same e) l
section
variable {P : Program} {w : World} {K : PySem.W.Frag} {mg : Str → Option Value} {base : Heap} {a : AdL} {aST aRI : Addr} {tH : Tok}
def spAreH (C : Addr) : Sp := fun vs H Q _ => ∃ (l : Addr) (n : Nat) (v : V) (b : Bool), vs = [.ref l, v] ∧ LandC C H l n ∧ HdV n H v b ∧ ∀ H', Same H H' → Q (.bl b) H'
theorem ok_areh (T : Tl K mg a) (T5 : T5s K mg aST aRI tH) {f fS fW : Addr} {fd fdS fdW : FuncData} (F : Fun K "_are_hands" "_are_hands" s__are_hands f fd)
    (Gsq : FnOk P w K mg base CX0 1 fS fdS ["thing"] (spSeq K)) (gsq : mg "is_sequence" = some (.ref fS)) (ksq : PySem.W.keepIn K (.ref fS) = true) (bsq : Binds K fdS ["thing"] [])
    (Giw : FnOk P w K mg base CX0 1 fW fdW ["thing", "low", "high"] spWhole) (giw : mg "is_whole" = some (.ref fW)) (kiw : PySem.W.keepIn K (.ref fW) = true) (biw : Binds K fdW ["thing", "low", "high"] [])
    (m_len : mg "len" = none) (m_all : mg "all" = none) : FnOk P w K mg base CX0 2 f fd ["land", "thing"] (spAreH a.C) := by
  refine F.ok sc__are_hands (fun vs H Q E h => ?_) (fun cdv A outer s H vs Q E hr h => ?_)
  · obtain ⟨l, n, v, b, rfl, _⟩ := h
    rfl
  · obtain ⟨l, n, v, b, rfl, ⟨dx, fs, hp, hlk⟩, hv, q⟩ := h
    refine ⟨_, (pss_cons (ps_if (pw_or (pt_not (pt_val (pe_call Gsq (hr.mono (by decide)) (by rfl) gsq ksq bsq .nil pass0 (pa_cons (pv 1) pa_nil)))) (pw_or1 (pt_cmpR op_ne (pe_callB call_len_seq (by rfl) m_len boot_len (pa_cons (pv 1) pa_nil)) (pe_fld (pv 0) rfl) (nomark _)))).pt
  (pss_one (ps_ret pe_bl))
  pss_nil)
 (pss_one (ps_ret (pe_callB (cr_all rfl) (by rfl) m_all boot_all (pa_cons (pe_lc (own := [("hand", 2)]) (g := gName 2) (tt := tYes) rfl sc__are_hands.nd (K7E.pi_either (pi_tup (pv 1)) (pi_list (pv 1))) (blkOk_by (own := [("hand", 2)]) (N := N__are_hands) (sc := defScope s__are_hands) (by decide +kernel)) (fun _ _ _ _ _ => (pg_name (i := 2) sc__are_hands.nd rfl (by first | exact Or.inl rfl | exact Or.inr rfl))) (fun _ _ _ _ _ => pts_nil) (fun _ _ _ _ _ => (pe_call Giw (hr.mono (by decide)) (by rfl) giw kiw biw .nil pass0 (pa_cons (pv 2) (pa_cons pe_int (pa_cons (pe_glob (v := .int _) rfl T5.gH ⟨_, rfl⟩) pa_nil)))))) pa_nil))))), ?_⟩
    cases hv with
    | no hv =>
      obtain ⟨ty, tyx, kk⟩ := hv.ty (K := K)
      exact ⟨_, rfl, _, ty, false, rfl, tyx, kk, fun H1 e1 => ⟨_, rfl, iteT (q _ e1)⟩⟩
    | @row t vs ht it l10 =>
      obtain ⟨ty, tyx, kk⟩ := ht.ty (K := K)
      refine ⟨_, rfl, _, ty, true, rfl, tyx, kk, fun H1 e1 => ⟨_, rfl, ?_⟩⟩
      refine iteF ⟨_, rfl, t, _, rfl, (ht.same e1).sq, _, rfl, l, a.C, dx, fs, _, rfl, e1 _ _ hp, T.cl, T.nA _ (by decide), hlk, rfl, _, rfl, ?_⟩
      rw [show decide (V.int ((vs.length : Nat) : Int) = V.int ((n : Nat) : Int)) = decide (vs.length = n) from decide_eq_decide.mpr ⟨fun h => by injection h with h; omega, fun h => by rw [h]⟩]
      by_cases hl : vs.length = n
      · rw [decide_eq_true hl, Bool.true_and] at q
        rw [decide_eq_true hl]
        refine iteFo rfl ?_
        have ht1 := ht.same e1
        rcases ht1 with z | z
        · refine .inl ⟨_, rfl, t, rfl, ⟨_, .inl (.inl z)⟩, fun D hD => lc_tup (xs := vs) (fun j H2 => Same H1 H2 ∧ H2 D = some (.lst (((vs.take j).map wholeH).map V.bl))) ⟨al hD, upd_same⟩ (fun j H2 _ pv => .inl (.inl (pv.1 _ _ z))) (fun j x H2 hx pv => ?_) (fun H2 pv => ?_)⟩
          · obtain ⟨e2, hD2⟩ := pv
            have lx := it x (List.mem_of_getElem? hx)
            refine ⟨rfl, _, rfl, _, 0, 10 ^ 30, rfl, ((lx.same e1).same e2).thing, ?_⟩
            refine ⟨_, hD2, by rw [List.length_map, List.length_map, List.length_take]; exact small1000 (by omega), fun b o hb => ?_, ?_⟩
            · rw [upd_ne (ne_of_none hb hD)]
              exact e2 _ _ hb
            · rw [upd_same, List.take_add_one, hx, List.map_append, List.map_append]
              rfl
          · obtain ⟨e2, hD2⟩ := pv
            rw [List.take_length] at hD2
            refine ⟨D, _, rfl, .inl (.inl hD2), ?_⟩
            rw [List.all_map]
            exact q _ (e1.trans e2)
        · refine .inr ⟨_, rfl, t, rfl, ⟨_, .inl (.inl z)⟩, fun D hD => lc_list (xs := vs) (fun j H2 => Same H1 H2 ∧ H2 D = some (.lst (((vs.take j).map wholeH).map V.bl))) ⟨al hD, upd_same⟩ (fun j H2 _ pv => .inl (.inl (pv.1 _ _ z))) (fun j x H2 hx pv => ?_) (fun H2 pv => ?_)⟩
          · obtain ⟨e2, hD2⟩ := pv
            have lx := it x (List.mem_of_getElem? hx)
            refine ⟨rfl, _, rfl, _, 0, 10 ^ 30, rfl, ((lx.same e1).same e2).thing, ?_⟩
            refine ⟨_, hD2, by rw [List.length_map, List.length_map, List.length_take]; exact small1000 (by omega), fun b o hb => ?_, ?_⟩
            · rw [upd_ne (ne_of_none hb hD)]
              exact e2 _ _ hb
            · rw [upd_same, List.take_add_one, hx, List.map_append, List.map_append]
              rfl
          · obtain ⟨e2, hD2⟩ := pv
            rw [List.take_length] at hD2
            refine ⟨D, _, rfl, .inl (.inl hD2), ?_⟩
            rw [List.all_map]
            exact q _ (e1.trans e2)
      · rw [decide_eq_false hl, Bool.false_and] at q
        rw [decide_eq_false hl]
        exact iteTo rfl (q _ e1)
def spIsRow (C : Addr) : Sp := fun vs H Q _ => ∃ (l : Addr) (n i : Nat) (v : V) (b : Bool), vs = [.ref l, .int (i : Nat), v] ∧ LandC C H l n ∧ i < n ∧ RwV n i H v b ∧ ∀ H', Same H H' → Q (.bl b) H'
theorem none_eqv (z : Str) : PyData.eqv (.str z) (.str "none") = decide (z = "none") := by
  by_cases h : z = "none"
  · subst h; simp [PyData.eqv]
  · simp [PyData.eqv, h]
theorem word_shaped {z : Str} (h : z ∈ words4) : SeqAt.shaped (.str z) = true := by
  unfold words4 at h
  simp only [List.mem_cons, List.not_mem_nil, or_false] at h
  rcases h with rfl | rfl | rfl | rfl <;> decide +kernel
theorem ok_isrow (T : Tl K mg a) (T5 : T5s K mg aST aRI tH) {f fS : Addr} {fd fdS : FuncData} (F : Fun K "is_row" "is_row" s_is_row f fd)
    (Gsq : FnOk P w K mg base CX0 1 fS fdS ["thing"] (spSeq K)) (gsq : mg "is_sequence" = some (.ref fS)) (ksq : PySem.W.keepIn K (.ref fS) = true) (bsq : Binds K fdS ["thing"] [])
    (m_len : mg "len" = none) (m_all : mg "all" = none) : FnOk P w K mg base CX0 2 f fd ["land", "a", "thing"] (spIsRow a.C) := by
  refine F.ok sc_is_row (fun vs H Q E h => ?_) (fun cdv A outer s H vs Q E hr h => ?_)
  · obtain ⟨l, n, i, v, b, rfl, _⟩ := h
    rfl
  · obtain ⟨l, n, i, v, b, rfl, ⟨dx, fs, hp, hlk⟩, hin, hv, q⟩ := h
    refine ⟨_, (pss_cons (ps_if (pw_or (pt_not (pt_val (pe_call Gsq (hr.mono (by decide)) (by rfl) gsq ksq bsq .nil pass0 (pa_cons (pv 2) pa_nil)))) (pw_or1 (pt_cmpR op_ne (pe_callB call_len_seq (by rfl) m_len boot_len (pa_cons (pv 2) pa_nil)) (pe_fld (pv 0) rfl) (nomark _)))).pt
  (pss_one (ps_ret pe_bl))
  pss_nil)
 (pss_one (ps_ret (pe_and (pe_callB (cr_all rfl) (by rfl) m_all boot_all (pa_cons (pe_lc (own := [("word", 3)]) (g := gName 3) (tt := tYes) rfl sc_is_row.nd (K7E.pi_either (pi_tup (pv 2)) (pi_list (pv 2))) (blkOk_by (own := [("word", 3)]) (N := N_is_row) (sc := defScope s_is_row) (by decide +kernel)) (fun _ _ _ _ _ => (pg_name (i := 3) sc_is_row.nd rfl (by first | exact Or.inl rfl | exact Or.inr rfl))) (fun _ _ _ _ _ => pts_nil) (fun _ _ _ _ _ => (pe_cmpR (show OpR _ _ (rInW K false) from op_inW (hu_of hr)) (pv 3) (pe_glob (v := .ref _) rfl T5.gST rfl) (by with_unfolding_all rfl)))) pa_nil)) (pe_one (pe_cmpR (op_eqD hr.units) (K7E.pe_ei (pe_ix ix_tup (pv 2) (pv 1) (fun _ _ => rfl)) (pe_ix ix_list (pv 2) (pv 1) (fun _ _ => rfl))) pe_str (nomark _))))))), ?_⟩
    cases hv with
    | no hv =>
      obtain ⟨ty, tyx, kk⟩ := hv.ty (K := K)
      exact ⟨_, rfl, _, ty, false, rfl, tyx, kk, fun H1 e1 => ⟨_, rfl, iteT (q _ e1)⟩⟩
    | @row t vs ht it l10 =>
      obtain ⟨ty, tyx, kk⟩ := ht.ty (K := K)
      refine ⟨_, rfl, _, ty, true, rfl, tyx, kk, fun H1 e1 => ⟨_, rfl, ?_⟩⟩
      refine iteF ⟨_, rfl, t, _, rfl, (ht.same e1).sq, _, rfl, l, a.C, dx, fs, _, rfl, e1 _ _ hp, T.cl, T.nA _ (by decide), hlk, rfl, _, rfl, ?_⟩
      rw [show decide (V.int ((vs.length : Nat) : Int) = V.int ((n : Nat) : Int)) = decide (vs.length = n) from decide_eq_decide.mpr ⟨fun h => by injection h with h; omega, fun h => by rw [h]⟩]
      by_cases hl : vs.length = n
      · rw [decide_eq_true hl, Bool.true_and] at q
        rw [decide_eq_true hl]
        refine iteFo rfl ?_
        have ht1 := ht.same e1
        rcases ht1 with z | z
        · refine .inl ⟨_, rfl, t, rfl, ⟨_, .inl (.inl z)⟩, fun D hD => lc_tup (xs := vs) (fun j H2 => Same H1 H2 ∧ H2 D = some (.lst (((vs.take j).map isWord).map V.bl))) ⟨al hD, upd_same⟩ (fun j H2 _ pv => .inl (.inl (pv.1 _ _ z))) (fun j x H2 hx pv => ?_) (fun H2 pv => ?_)⟩
          · obtain ⟨e2, hD2⟩ := pv
            have lx := it x (List.mem_of_getElem? hx)
            refine ⟨rfl, _, rfl, aST, words4, isWord x, rfl, T5.sST _, leaf_word ((lx.same e1).same e2), ?_⟩
            refine ⟨_, hD2, by rw [List.length_map, List.length_map, List.length_take]; exact small1000 (by omega), fun b o hb => ?_, ?_⟩
            · rw [upd_ne (ne_of_none hb hD)]
              exact e2 _ _ hb
            · rw [upd_same, List.take_add_one, hx, List.map_append, List.map_append]
              rfl
          · obtain ⟨e2, hD2⟩ := pv
            rw [List.take_length] at hD2
            refine ⟨D, _, rfl, .inl (.inl hD2), _, rfl, ?_⟩
            rw [List.all_map, show (vs.all (id ∘ isWord)) = vs.all isWord from rfl]
            by_cases hw : vs.all isWord = true
            · rw [hw, Bool.true_and] at q
              rw [hw]
              refine iteTo rfl ?_
              have hi : i < vs.length := by omega
              have hx : vs[i]? = some vs[i] := List.getElem?_eq_getElem hi
              have wx := List.all_eq_true.mp hw vs[i] (List.getElem_mem hi)
              obtain ⟨zz, ez⟩ : ∃ zz, vs[i] = .str zz := by
                cases e : vs[i] with
                | str zz => exact ⟨zz, rfl⟩
                | _ => rw [e] at wx; cases wx
              have wz : zz ∈ words4 := by
                rw [ez] at wx
                exact of_decide_eq_true wx
              rw [ez] at hx
              refine .inl ⟨_, rfl, _, rfl, t, _, _, _, rfl, rfl, .inl (.inl (e2 _ _ z)), atI_nat hx, ?_⟩
              refine ⟨.str zz, .str "none", .str _, .str _, word_shaped wz, word_shaped (by decide), ?_⟩
              rw [none_eqv]
              have eq : decide (vs[i]? = some (V.str "none")) = decide (zz = "none") := by
                rw [hx]
                exact decide_eq_decide.mpr ⟨fun h => by injection h with h; injection h, fun h => by rw [h]⟩
              rw [eq] at q
              exact q _ (e1.trans e2)
            · rw [Bool.eq_false_iff.mpr hw, Bool.false_and] at q
              rw [Bool.eq_false_iff.mpr hw]
              exact iteFo rfl (q _ (e1.trans e2))
        · refine .inr ⟨_, rfl, t, rfl, ⟨_, .inl (.inl z)⟩, fun D hD => lc_list (xs := vs) (fun j H2 => Same H1 H2 ∧ H2 D = some (.lst (((vs.take j).map isWord).map V.bl))) ⟨al hD, upd_same⟩ (fun j H2 _ pv => .inl (.inl (pv.1 _ _ z))) (fun j x H2 hx pv => ?_) (fun H2 pv => ?_)⟩
          · obtain ⟨e2, hD2⟩ := pv
            have lx := it x (List.mem_of_getElem? hx)
            refine ⟨rfl, _, rfl, aST, words4, isWord x, rfl, T5.sST _, leaf_word ((lx.same e1).same e2), ?_⟩
            refine ⟨_, hD2, by rw [List.length_map, List.length_map, List.length_take]; exact small1000 (by omega), fun b o hb => ?_, ?_⟩
            · rw [upd_ne (ne_of_none hb hD)]
              exact e2 _ _ hb
            · rw [upd_same, List.take_add_one, hx, List.map_append, List.map_append]
              rfl
          · obtain ⟨e2, hD2⟩ := pv
            rw [List.take_length] at hD2
            refine ⟨D, _, rfl, .inl (.inl hD2), _, rfl, ?_⟩
            rw [List.all_map, show (vs.all (id ∘ isWord)) = vs.all isWord from rfl]
            by_cases hw : vs.all isWord = true
            · rw [hw, Bool.true_and] at q
              rw [hw]
              refine iteTo rfl ?_
              have hi : i < vs.length := by omega
              have hx : vs[i]? = some vs[i] := List.getElem?_eq_getElem hi
              have wx := List.all_eq_true.mp hw vs[i] (List.getElem_mem hi)
              obtain ⟨zz, ez⟩ : ∃ zz, vs[i] = .str zz := by
                cases e : vs[i] with
                | str zz => exact ⟨zz, rfl⟩
                | _ => rw [e] at wx; cases wx
              have wz : zz ∈ words4 := by
                rw [ez] at wx
                exact of_decide_eq_true wx
              rw [ez] at hx
              refine .inr ⟨_, rfl, _, rfl, t, _, _, _, rfl, rfl, .inl (.inl (e2 _ _ z)), atI_nat hx, ?_⟩
              refine ⟨.str zz, .str "none", .str _, .str _, word_shaped wz, word_shaped (by decide), ?_⟩
              rw [none_eqv]
              have eq : decide (vs[i]? = some (V.str "none")) = decide (zz = "none") := by
                rw [hx]
                exact decide_eq_decide.mpr ⟨fun h => by injection h with h; injection h, fun h => by rw [h]⟩
              rw [eq] at q
              exact q _ (e1.trans e2)
            · rw [Bool.eq_false_iff.mpr hw, Bool.false_and] at q
              rw [Bool.eq_false_iff.mpr hw]
              exact iteFo rfl (q _ (e1.trans e2))
      · rw [decide_eq_false hl, Bool.false_and] at q
        rw [decide_eq_false hl]
        exact iteTo rfl (q _ e1)
end
end K7
end
/-! ## P16 -/
section
open PySem PySem.Spec PyProof.Rows L2
namespace K7
abbrev N__are_standings : List Str := ["land", "thing", "a", "row"]
abbrev s__are_standings : Stmt := topS 26
theorem sc__are_standings : FnScope ["land", "thing", "a", "row"] ["land", "thing"] (defScope s__are_standings) := ⟨rfl, rfl, rfl, by decide +kernel, rfl, by decide +kernel, by decide +kernel⟩
abbrev N__check_places : List Str := ["land", "hands", "standings", "apart", "a", "b", "together"]
abbrev s__check_places : Stmt := topS 27
theorem sc__check_places : FnScope ["land", "hands", "standings", "apart", "a", "b", "together"] ["land", "hands", "standings"] (defScope s__check_places) := ⟨rfl, rfl, rfl, by decide +kernel, rfl, by decide +kernel, by decide +kernel⟩
abbrev N_BadState___init__ : List Str := ["self", "what"]
abbrev s_BadState___init__ : Stmt := inClass (topS 5) 0
theorem sc_BadState___init__ : FnScope ["self", "what"] ["self", "what"] (defScope s_BadState___init__) := ⟨rfl, rfl, rfl, by decide +kernel, rfl, by decide +kernel, by decide +kernel⟩
/-- rows of words, tuples or lists -/
inductive RAt (H : Hp) : List Addr → List (List Nat) → Prop
  | nil : RAt H [] []
  | cons {r : Addr} {row : List Nat} {rs : List Addr} {tab : List (List Nat)} : SqOf H r (wds row) → RAt H rs tab → RAt H (r :: rs) (row :: tab)
theorem RAt.same {H H' : Hp} {rs : List Addr} {tab : List (List Nat)} (h : RAt H rs tab) (e : Same H H') : RAt H' rs tab := by
  induction h with
  | nil => exact .nil
  | cons h _ ih => exact .cons (h.same e) ih
theorem RAt.len {H : Hp} {rs : List Addr} {tab : List (List Nat)} (h : RAt H rs tab) : rs.length = tab.length := by
  induction h with
  | nil => rfl
  | cons _ _ ih => rw [List.length_cons, List.length_cons, ih]
theorem RAt.get {H : Hp} {rs : List Addr} {tab : List (List Nat)} (h : RAt H rs tab) : ∀ {i : Nat} {r : Addr}, rs[i]? = some r → ∃ row, tab[i]? = some row ∧ SqOf H r (wds row) := by
  induction h with
  | nil => exact fun h => nomatch h
  | cons h _ ih =>
    intro i u hu
    cases i with
    | zero =>
      obtain rfl := Option.some.inj hu
      exact ⟨_, rfl, h⟩
    | succ i => exact ih (i := i) hu
def tabAt (tab : List (List Nat)) (a b : Nat) : Nat := (tab.getD a []).getD b 0
def hsAt (hs : List Nat) (a : Nat) : Nat := hs.getD a 0
/-- hands and standings of the right form -/
structure StFm (n : Nat) (hs : List Nat) (tab : List (List Nat)) : Prop where
  hl : hs.length = n
  tl : tab.length = n
  rl : ∀ r ∈ tab, r.length = n
/-- what _are_standings says of a thing -/
inductive TbV (n : Nat) (H : Hp) : V → Bool → Prop
  | no {v : V} (h : NoRow H v) : TbV n H v false
  | row {t : Addr} {vs : List V} {bs : List Bool} (h : SqOf H t vs) (l : vs.length ≤ 10) (lb : bs.length = vs.length) (r : ∀ i y, vs[i]? = some y → ∃ b, bs[i]? = some b ∧ RwV n i H y b) : TbV n H (.ref t) (decide (vs.length = n) && bs.all id)
theorem TbV.same {n : Nat} {H H' : Hp} {v : V} {b : Bool} (h : TbV n H v b) (e : Same H H') : TbV n H' v b := by
  cases h with
  | no h => exact .no (h.same e)
  | row h l lb r => exact .row (h.same e) l lb fun i y hy => (r i y hy).elim fun b hb => ⟨b, hb.1, hb.2.same e⟩
structure Tb (K : PySem.W.Frag) (mg : Str → Option Value) (B iB : Addr) : Prop where
  g : mg "BadState" = some (.ref B)
  ox : OexC K B
  iC : PySem.W.findIn K (.ref B) "__init__" = some (some (.ref iB))
  tI : PySem.W.typeIn K (.ref iB) = some (.type "function")
  no : PySem.W.findIn K (.ref B) "what" = some none
section
variable {P : Program} {w : World} {K : PySem.W.Frag} {mg : Str → Option Value} {base : Heap} {a : AdL} {aST aRI B iB : Addr} {tH : Tok}
theorem ok_iS (T : Tb K mg B iB) {f : Addr} {fd : FuncData} (F : Fun K "__init__" "BadState.__init__" s_BadState___init__ f fd) : FnOk P w K mg base (L2.CX P w) 1 f fd ["self", "what"] (spX B "what") := by
  refine F.okX sc_BadState___init__ (fun vs H Q E h => ?_) (fun cdv A outer s H vs Q E hr h => ?_)
  · obtain ⟨e, y, rfl, _⟩ := h
    rfl
  · obtain ⟨e, y, rfl, he, q⟩ := h
    refine ⟨_, (pss_one (ps_ost (pv 0) (pv 1))), ?_⟩
    exact ⟨y, rfl, .ref e, rfl, e, B, rfl, T.ox, T.no, .inl ⟨he, fun d hd hn => q d hd hn⟩⟩
def spAreS (C : Addr) : Sp := fun vs H Q _ => ∃ (l : Addr) (n : Nat) (v : V) (b : Bool), vs = [.ref l, v] ∧ LandC C H l n ∧ TbV n H v b ∧ ∀ H', Same H H' → Q (.bl b) H'
theorem ok_ares (T : Tl K mg a) {f fS fI : Addr} {fd fdS fdI : FuncData} (F : Fun K "_are_standings" "_are_standings" s__are_standings f fd)
    (Gsq : FnOk P w K mg base CX0 1 fS fdS ["thing"] (spSeq K)) (gsq : mg "is_sequence" = some (.ref fS)) (ksq : PySem.W.keepIn K (.ref fS) = true) (bsq : Binds K fdS ["thing"] [])
    (Gir : FnOk P w K mg base CX0 2 fI fdI ["land", "a", "thing"] (spIsRow a.C)) (gir : mg "is_row" = some (.ref fI)) (kir : PySem.W.keepIn K (.ref fI) = true) (bir : Binds K fdI ["land", "a", "thing"] [])
    (m_len : mg "len" = none) (m_all : mg "all" = none) (m_enumerate : mg "enumerate" = none) : FnOk P w K mg base CX0 3 f fd ["land", "thing"] (spAreS a.C) := by
  refine F.ok sc__are_standings (fun vs H Q E h => ?_) (fun cdv A outer s H vs Q E hr h => ?_)
  · obtain ⟨l, n, v, b, rfl, _⟩ := h
    rfl
  · obtain ⟨l, n, v, b, rfl, ⟨dx, fs, hp, hlk⟩, hv, q⟩ := h
    refine ⟨_, (pss_cons (ps_if (pw_or (pt_not (pt_val (pe_call Gsq (hr.mono (by decide)) (by rfl) gsq ksq bsq .nil pass0 (pa_cons (pv 1) pa_nil)))) (pw_or1 (pt_cmpR op_ne (pe_callB call_len_seq (by rfl) m_len boot_len (pa_cons (pv 1) pa_nil)) (pe_fld (pv 0) rfl) (nomark _)))).pt
  (pss_one (ps_ret pe_bl))
  pss_nil)
 (pss_one (ps_ret (pe_callB (cr_all rfl) (by rfl) m_all boot_all (pa_cons (pe_lc (own := [("a", 2), ("row", 3)]) (g := gTup K 2 (gCons (gName 2) (gCons (gName 3) (gNil)))) (tt := tYes) rfl sc__are_standings.nd (K7E.pi_either (K7E.pi_enumT (by rfl) m_enumerate (pa_cons (pv 1) pa_nil)) (pi_enum (by rfl) m_enumerate (pa_cons (pv 1) pa_nil))) (blkOk_by (own := [("a", 2), ("row", 3)]) (N := N__are_standings) (sc := defScope s__are_standings) (by decide +kernel)) (fun _ _ _ _ _ => (pg_tup rfl (pgs_cons (pg_name (i := 2) sc__are_standings.nd rfl (by first | exact Or.inl rfl | exact Or.inr rfl)) (pgs_cons (pg_name (i := 3) sc__are_standings.nd rfl (by first | exact Or.inl rfl | exact Or.inr rfl)) pgs_nil)))) (fun _ _ _ _ _ => pts_nil) (fun _ _ _ _ _ => (pe_call Gir (hr.mono (by decide)) (by rfl) gir kir bir .nil pass0 (pa_cons (pv 0) (pa_cons (pv 2) (pa_cons (pv 3) pa_nil)))))) pa_nil))))), ?_⟩
    cases hv with
    | no hv =>
      obtain ⟨ty, tyx, kk⟩ := hv.ty (K := K)
      exact ⟨_, rfl, _, ty, false, rfl, tyx, kk, fun H1 e1 => ⟨_, rfl, iteT (q _ e1)⟩⟩
    | @row t vs bs ht l10 lb hR =>
      obtain ⟨ty, tyx, kk⟩ := ht.ty (K := K)
      refine ⟨_, rfl, _, ty, true, rfl, tyx, kk, fun H1 e1 => ⟨_, rfl, ?_⟩⟩
      refine iteF ⟨_, rfl, t, _, rfl, (ht.same e1).sq, _, rfl, l, a.C, dx, fs, _, rfl, e1 _ _ hp, T.cl, T.nA _ (by decide), hlk, rfl, _, rfl, ?_⟩
      rw [show decide (V.int ((vs.length : Nat) : Int) = V.int ((n : Nat) : Int)) = decide (vs.length = n) from decide_eq_decide.mpr ⟨fun h => by injection h with h; omega, fun h => by rw [h]⟩]
      by_cases hl : vs.length = n
      · rw [decide_eq_true hl, Bool.true_and] at q
        rw [decide_eq_true hl]
        refine iteFo rfl ?_
        have ht1 := ht.same e1
        rcases ht1 with z | z
        · refine .inl ⟨_, rfl, t, _, rfl, .inl (.inl z), fun D hD => lc_it (K7E.walk_enumT (xs := vs)) (fun j H2 => Same H1 H2 ∧ H2 D = some (.lst ((bs.take j).map V.bl))) ⟨al hD, upd_same⟩ (fun j H2 _ pv => .inl (.inl (pv.1 _ _ z))) (fun j x H2 H3 hj pv hy => ?_) (fun H2 pv => ?_)⟩
          · obtain ⟨e2, hD2⟩ := pv
            obtain ⟨T', x', y', rfl, nT, rfl, e3, e4⟩ := hy
            obtain rfl := Option.some.inj e3
            have e4 : vs[j]? = some y' := e4
            have sT := al (o := .tup [.int (j : Nat), y']) nT
            have e13 := (e1.trans e2).trans sT
            obtain ⟨b, hb, hrw⟩ := hR j y' e4
            refine ⟨T', _, rfl, .inl (.inl upd_same), rfl, _, _, rfl, _, _, rfl, rfl, rfl, _, rfl, _, rfl, _, rfl, l, n, j, y', b, rfl, ⟨dx, fs, e13 _ _ hp, hlk⟩, by omega, hrw.same e13, fun H4 e4' => ?_⟩
            have hD4 := e4' _ _ (sT _ _ hD2)
            refine ⟨_, hD4, by rw [List.length_map, List.length_take]; exact small1000 (by omega), fun b o hb => ?_, ?_⟩
            · rw [upd_ne (ne_of_none hb hD)]
              exact e4' _ _ (sT _ _ (e2 _ _ hb))
            · rw [upd_same, List.take_add_one, hb, List.map_append]
              rfl
          · obtain ⟨e2, hD2⟩ := pv
            rw [← lb, List.take_length] at hD2
            exact ⟨D, bs, rfl, .inl (.inl hD2), q _ (e1.trans e2)⟩
        · refine .inr ⟨_, rfl, t, _, rfl, .inl (.inl z), fun D hD => lc_it (walk_enum (xs := vs)) (fun j H2 => Same H1 H2 ∧ H2 D = some (.lst ((bs.take j).map V.bl))) ⟨al hD, upd_same⟩ (fun j H2 _ pv => .inl (.inl (pv.1 _ _ z))) (fun j x H2 H3 hj pv hy => ?_) (fun H2 pv => ?_)⟩
          · obtain ⟨e2, hD2⟩ := pv
            obtain ⟨T', x', y', rfl, nT, rfl, e3, e4⟩ := hy
            obtain rfl := Option.some.inj e3
            have e4 : vs[j]? = some y' := e4
            have sT := al (o := .tup [.int (j : Nat), y']) nT
            have e13 := (e1.trans e2).trans sT
            obtain ⟨b, hb, hrw⟩ := hR j y' e4
            refine ⟨T', _, rfl, .inl (.inl upd_same), rfl, _, _, rfl, _, _, rfl, rfl, rfl, _, rfl, _, rfl, _, rfl, l, n, j, y', b, rfl, ⟨dx, fs, e13 _ _ hp, hlk⟩, by omega, hrw.same e13, fun H4 e4' => ?_⟩
            have hD4 := e4' _ _ (sT _ _ hD2)
            refine ⟨_, hD4, by rw [List.length_map, List.length_take]; exact small1000 (by omega), fun b o hb => ?_, ?_⟩
            · rw [upd_ne (ne_of_none hb hD)]
              exact e4' _ _ (sT _ _ (e2 _ _ hb))
            · rw [upd_same, List.take_add_one, hb, List.map_append]
              rfl
          · obtain ⟨e2, hD2⟩ := pv
            rw [← lb, List.take_length] at hD2
            exact ⟨D, bs, rfl, .inl (.inl hD2), q _ (e1.trans e2)⟩
      · rw [decide_eq_false hl, Bool.false_and] at q
        rw [decide_eq_false hl]
        exact iteTo rfl (q _ e1)
/-- subscripts of what is a tuple or a list -/
theorem ei_gen {t : TE} {σ : L2.St} {H : Hp} {Q : VK} {r : Addr} {ys : List V} {j k : Nat} {v : V} (inner : ∀ Q' : VK, Q' (.ref r) H → t σ H Q') (h2 : tVar k σ H fun y H' => y = .int (j : Nat) ∧ H' = H) (h : SqOf H r ys) (hx : ys[j]? = some v) (q : Q v H) :
    K7E.tEi (tOp (rIxT K) t (tVar k)) (tOp (rIxL K) t (tVar k)) σ H Q := by
  obtain ⟨w, hw, rfl, _⟩ := h2
  rcases h with z | z
  · exact .inl (inner _ ⟨_, hw, r, ys, _, v, rfl, rfl, .inl (.inl z), atI_nat hx, q⟩)
  · exact .inr (inner _ ⟨_, hw, r, ys, _, v, rfl, rfl, .inl (.inl z), atI_nat hx, q⟩)
theorem allC_mem {n a b : Nat} (h : (a, b) ∈ KL.allC n) : a < n ∧ b < n ∧ a ≠ b := by
  obtain ⟨x, hx, h⟩ := List.mem_flatMap.mp h
  obtain ⟨y, hy, e⟩ := List.mem_map.mp h
  obtain ⟨h1, h2⟩ := List.mem_filter.mp hy
  injection e with e1 e2
  subst e1 e2
  exact ⟨List.mem_range.mp hx, List.mem_range.mp h1, of_decide_eq_true h2⟩
theorem wds_flat (row : List Nat) : (wds row).all flatV = true := by
  refine List.all_eq_true.mpr fun x hx => ?_
  obtain ⟨k, _, rfl⟩ := List.mem_map.mp hx
  rfl
def apartP (hs : List Nat) (e : Nat × Nat) : Bool := !decide (hsAt hs e.1 = hsAt hs e.2)
def togP (hs : List Nat) (e : Nat × Nat) : Bool := decide (hsAt hs e.1 = hsAt hs e.2)
def pick2 (p : Nat × Nat → Bool) (tab : List (List Nat)) (es : List (Nat × Nat)) : List Nat := (es.filter p).map fun e => tabAt tab e.1 e.2
theorem pick2_take {p : Nat × Nat → Bool} {tab : List (List Nat)} {es : List (Nat × Nat)} {j : Nat} {e : Nat × Nat} (h : es[j]? = some e) : pick2 p tab (es.take (j + 1)) = pick2 p tab (es.take j) ++ (if p e = true then [tabAt tab e.1 e.2] else []) := by
  unfold pick2
  rw [List.take_add_one, h, List.filter_append, List.map_append]
  congr 1
  show List.map _ (List.filter p [e]) = _
  rw [List.filter_cons]
  split <;> rfl
def hasA (ks : List Nat) : Bool := ks.any fun k => decide (3 ≤ k)
def hasW (ks : List Nat) (j : Nat) : Bool := ks.any fun k => decide (k = j)
theorem wds_has (ks : List Nat) : inV (.str "asleep") (wds ks) = hasA ks ∧ inV (.str "awake") (wds ks) = hasW ks 1 ∧ inV (.str "needed") (wds ks) = hasW ks 2 := by
  induction ks with
  | nil => exact ⟨rfl, rfl, rfl⟩
  | cons k ks ih =>
    obtain ⟨h1, h2, h3⟩ := ih
    have s : ∀ z : Str, inV (.str z) (wds (k :: ks)) = (eqV (.str (wd k)) (.str z) || inV (.str z) (wds ks)) := fun z => rfl
    unfold hasA hasW at *
    rw [s, s, s, h1, h2, h3]
    simp only [List.any_cons]
    match k with
    | 0 => exact ⟨by congr 1, by congr 1, by congr 1⟩
    | 1 => exact ⟨by congr 1, by congr 1, by congr 1⟩
    | 2 => exact ⟨by congr 1, by congr 1, by congr 1⟩
    | k + 3 =>
      refine ⟨?_, ?_, ?_⟩
      · rw [decide_eq_true (show 3 ≤ k + 3 by omega)]; congr 1
      · rw [decide_eq_false (show ¬ k + 3 = 1 by omega)]; congr 1
      · rw [decide_eq_false (show ¬ k + 3 = 2 by omega)]; congr 1
/-- the word of what stands where it cannot stand -/
def aslB (n : Nat) (hs : List Nat) (tab : List (List Nat)) : Bool := hasA (pick2 (apartP hs) tab (KL.allC n))
def awkB (n : Nat) (hs : List Nat) (tab : List (List Nat)) : Bool := hasW (pick2 (togP hs) tab (KL.allC n)) 1 || hasW (pick2 (togP hs) tab (KL.allC n)) 2
def spChP (C B : Addr) : Sp := fun vs H Q E => ∃ (l th tt : Addr) (n : Nat) (es : List (Nat × Nat)) (rd hs : List Nat) (rs : List Addr) (tab : List (List Nat)), vs = [.ref l, .ref th, .ref tt] ∧ LandO C H l n es rd ∧ SqOf H th (ints_ hs) ∧ SqOf H tt (rs.map V.ref) ∧ RAt H rs tab ∧ StFm n hs tab ∧
  (aslB n hs tab = true → Flies H B "what" (.str "asleep") E) ∧ (aslB n hs tab = false → awkB n hs tab = true → Flies H B "what" (.str "awake") E) ∧ (aslB n hs tab = false → awkB n hs tab = false → ∀ H', Same H H' → Q .non H')
theorem ok_chp (T : Tl K mg a) (TB : Tb K mg B iB) {f pr gp : Addr} {fd fdcp fdB : FuncData} (F : Fun K "_check_places" "_check_places" s__check_places f fd)
    (pc : PropOf K a.C "couples" pr gp) (Gcp : FnOk P w K mg base CX0 1 gp fdcp ["self"] (spCouples a.C)) (bcp : Binds K fdcp ["self"] [])
    (FB0 : Fun K "__init__" "BadState.__init__" s_BadState___init__ iB fdB) (bB : Binds K fdB ["self", "what"] []) : FnOk P w K mg base (L2.CX P w) 4 f fd ["land", "hands", "standings"] (spChP a.C B) := by
  have FB : FnOk P w K mg base (L2.CX P w) 1 iB fdB ["self", "what"] (spX B "what") := ok_iS TB FB0
  refine F.okX sc__check_places (fun vs H Q E h => ?_) (fun cdv A outer s H vs Q E hr h => ?_)
  · obtain ⟨l, th, tt, n, es, rd, hs, rs, tab, rfl, _⟩ := h
    rfl
  · obtain ⟨l, th, tt, n, es, rd, hs, rs, tab, rfl, L, hth, htt, hR, S, q1, q2, q3⟩ := h
    have hrx : Room (1 + 1) _ := hr.mono (by decide)
    refine ⟨_, (pss_cons (ps_setLc (i := 3) (own := [("a", 4), ("b", 5)]) (g := gTup K 2 (gCons (gName 4) (gCons (gName 5) (gNil)))) rfl sc__check_places.nd rfl rfl (sw_true rfl rfl rfl (by decide +kernel)) (pi_tup (pe_prop (pv 0) T.cl pc Gcp (hr.mono (by decide)) bcp .nil pass0 rfl)) (blkOk_by (own := [("a", 4), ("b", 5)]) (N := N__check_places) (sc := defScope s__check_places) (by decide +kernel)) (fun _ _ _ _ _ => (pg_tup rfl (pgs_cons (pg_name (i := 4) sc__check_places.nd rfl (by first | exact Or.inl rfl | exact Or.inr rfl)) (pgs_cons (pg_name (i := 5) sc__check_places.nd rfl (by first | exact Or.inl rfl | exact Or.inr rfl)) pgs_nil)))) (fun _ _ _ _ _ => (pts_one (pt_cmpR op_ne (K7E.pe_ei (pe_ix (show IxR _ (rIxT K) from ix_tup) (pv 1) (pv 4) (fun _ _ => rfl)) (pe_ix (show IxR _ (rIxL K) from ix_list) (pv 1) (pv 4) (fun _ _ => rfl))) (K7E.pe_ei (pe_ix (show IxR _ (rIxT K) from ix_tup) (pv 1) (pv 5) (fun _ _ => rfl)) (pe_ix (show IxR _ (rIxL K) from ix_list) (pv 1) (pv 5) (fun _ _ => rfl))) (nomark _)))) (fun _ _ _ _ _ => (K7E.pe_ei (pe_ix (show IxR _ (rIxT K) from ix_tup) (K7E.pe_ei (pe_ix (show IxR _ (rIxT K) from ix_tup) (pv 2) (pv 4) (fun _ _ => rfl)) (pe_ix (show IxR _ (rIxL K) from ix_list) (pv 2) (pv 4) (fun _ _ => rfl))) (pv 5) (fun _ _ => rfl)) (pe_ix (show IxR _ (rIxL K) from ix_list) (K7E.pe_ei (pe_ix (show IxR _ (rIxT K) from ix_tup) (pv 2) (pv 4) (fun _ _ => rfl)) (pe_ix (show IxR _ (rIxL K) from ix_list) (pv 2) (pv 4) (fun _ _ => rfl))) (pv 5) (fun _ _ => rfl)))))
 (pss_cons (ps_if (pt_cmpR op_in_seq pe_str (pv 3) (by with_unfolding_all rfl))
  (pss_one (ps_raise rfl (takes_of rfl rfl rfl rfl) (pmk_oex TB.ox TB.iC TB.tI FB hrx bB .nil passL (by rfl) TB.g (pa_cons pe_str pa_nil))))
  pss_nil)
 (pss_cons (ps_setLc (i := 6) (own := [("a", 4), ("b", 5)]) (g := gTup K 2 (gCons (gName 4) (gCons (gName 5) (gNil)))) rfl sc__check_places.nd rfl rfl (sw_true rfl rfl rfl (by decide +kernel)) (pi_tup (pe_prop (pv 0) T.cl pc Gcp (hr.mono (by decide)) bcp .nil pass0 rfl)) (blkOk_by (own := [("a", 4), ("b", 5)]) (N := N__check_places) (sc := defScope s__check_places) (by decide +kernel)) (fun _ _ _ _ _ => (pg_tup rfl (pgs_cons (pg_name (i := 4) sc__check_places.nd rfl (by first | exact Or.inl rfl | exact Or.inr rfl)) (pgs_cons (pg_name (i := 5) sc__check_places.nd rfl (by first | exact Or.inl rfl | exact Or.inr rfl)) pgs_nil)))) (fun _ _ _ _ _ => (pts_one (pt_cmpR op_eq (K7E.pe_ei (pe_ix (show IxR _ (rIxT K) from ix_tup) (pv 1) (pv 4) (fun _ _ => rfl)) (pe_ix (show IxR _ (rIxL K) from ix_list) (pv 1) (pv 4) (fun _ _ => rfl))) (K7E.pe_ei (pe_ix (show IxR _ (rIxT K) from ix_tup) (pv 1) (pv 5) (fun _ _ => rfl)) (pe_ix (show IxR _ (rIxL K) from ix_list) (pv 1) (pv 5) (fun _ _ => rfl))) (nomark _)))) (fun _ _ _ _ _ => (K7E.pe_ei (pe_ix (show IxR _ (rIxT K) from ix_tup) (K7E.pe_ei (pe_ix (show IxR _ (rIxT K) from ix_tup) (pv 2) (pv 4) (fun _ _ => rfl)) (pe_ix (show IxR _ (rIxL K) from ix_list) (pv 2) (pv 4) (fun _ _ => rfl))) (pv 5) (fun _ _ => rfl)) (pe_ix (show IxR _ (rIxL K) from ix_list) (K7E.pe_ei (pe_ix (show IxR _ (rIxT K) from ix_tup) (pv 2) (pv 4) (fun _ _ => rfl)) (pe_ix (show IxR _ (rIxL K) from ix_list) (pv 2) (pv 4) (fun _ _ => rfl))) (pv 5) (fun _ _ => rfl)))))
 (pss_one (ps_if (pw_or (pt_cmpR op_in_seq pe_str (pv 6) (by with_unfolding_all rfl)) (pw_or1 (pt_cmpR op_in_seq pe_str (pv 6) (by with_unfolding_all rfl)))).pt
  (pss_one (ps_raise rfl (takes_of rfl rfl rfl rfl) (pmk_oex TB.ox TB.iC TB.tI FB hrx bB .nil passL (by rfl) TB.g (pa_cons pe_str pa_nil))))
  pss_nil))))), ?_⟩
    obtain ⟨dx, an, ar, ay, ac, tn, ty, tc, m1, _⟩ := L.at_
    have n5 := L.n5
    have hat : ∀ c, c < n → (ints_ hs)[c]? = some (.int (hsAt hs c : Nat)) := fun c h => by
      unfold ints_ hsAt
      rw [List.getElem?_map, List.getElem?_eq_getElem (by rw [S.hl]; exact h), List.getD_eq_getElem?_getD, List.getElem?_eq_getElem (by rw [S.hl]; exact h)]
      rfl
    have row : ∀ x, x < n → ∀ y, y < n → ∃ r, (rs.map V.ref)[x]? = some (.ref r) ∧ ∀ H', Same H H' → ∃ ys, SqOf H' r ys ∧ ys[y]? = some (.str (wd (tabAt tab x y))) := fun x hx y hy => by
      have lr : x < rs.length := by rw [hR.len, S.tl]; exact hx
      obtain ⟨r, hr⟩ : ∃ r, rs[x]? = some r := ⟨_, List.getElem?_eq_getElem lr⟩
      obtain ⟨rw', h1, h2⟩ := hR.get hr
      refine ⟨r, by rw [List.getElem?_map, hr]; rfl, fun H' e => ⟨_, h2.same e, ?_⟩⟩
      have hl := S.rl rw' (List.mem_of_getElem? h1)
      have eg : tab.getD x [] = rw' := by rw [List.getD_eq_getElem?_getD, h1]; rfl
      unfold wds tabAt
      rw [eg, List.getElem?_map, List.getD_eq_getElem?_getD, List.getElem?_eq_getElem (by rw [hl]; exact hy)]
      rfl
    refine ⟨_, rfl, l, dx, _, rfl, m1, l, n, es, rd, rfl, L, fun u tc hu tC => ?_⟩
    have tcl : tc.length ≤ 20 := by
      rw [tC.len]
      unfold pairs
      rw [List.length_map]
      exact (show ∀ n : Fin 6, (KL.allC n.val).length ≤ 20 by decide +kernel) ⟨n, by omega⟩
    have cpl : ∀ {i : Nat} {t' : Addr}, tc[i]? = some t' → ∃ e : Nat × Nat, (KL.allC n)[i]? = some e ∧ H t' = some (.tup (ints_ [e.1, e.2])) ∧ e.1 < n ∧ e.2 < n ∧ e.1 ≠ e.2 := fun {i t'} ht' => by
      obtain ⟨rw', hrow, hat'⟩ := tC.get ht'
      unfold pairs at hrow
      rw [List.getElem?_map] at hrow
      obtain ⟨e, he, rfl⟩ := Option.map_eq_some_iff.mp hrow
      exact ⟨e, he, hat', allC_mem (List.mem_of_getElem? he)⟩
    have tcn : tc.length = (KL.allC n).length := by
      rw [tC.len]
      unfold pairs
      rw [List.length_map]
    have p20 : ∀ (p : Nat × Nat → Bool) j, (pick2 p tab ((KL.allC n).take j)).length ≤ 20 := fun p j => by
      unfold pick2
      rw [List.length_map]
      exact Nat.le_trans (List.length_filter_le _ _) (by rw [List.length_take]; omega)
    refine ⟨u, rfl, ⟨_, .inl (.inl hu)⟩, fun D hD => lc_tup (xs := tc.map V.ref) (fun j H2 => Same H H2 ∧ H2 D = some (.lst (wds (pick2 (apartP hs) tab ((KL.allC n).take j))))) ⟨al hD, upd_same⟩ (fun j H2 _ pv => .inl (.inl (pv.1 _ _ hu))) (fun j v H2 hv pv => ?_) (fun H2 pv => ?_)⟩
    · obtain ⟨e2, hD2⟩ := pv
      rw [List.getElem?_map] at hv
      obtain ⟨t', ht', rfl⟩ := Option.map_eq_some_iff.mp hv
      obtain ⟨e, he, hat', lt1, lt2, ne⟩ := cpl ht'
      have tk := pick2_take (p := apartP hs) (tab := tab) he
      have hat2 := e2 _ _ hat'
      obtain ⟨r, hr', hrow⟩ := row e.1 lt1 e.2 lt2
      refine ⟨t', _, rfl, .inl (.inl hat2), rfl, _, _, rfl, _, _, rfl, rfl, rfl, ?_⟩
      refine ei_gen (fun Q' q => ⟨_, rfl, q⟩) ⟨_, rfl, rfl, rfl⟩ (hth.same e2) (hat _ lt1) ?_
      refine ei_gen (fun Q' q => ⟨_, rfl, q⟩) ⟨_, rfl, rfl, rfl⟩ (hth.same e2) (hat _ lt2) ?_
      refine ⟨rfl, _, rfl, ?_⟩
      have dv : decide (V.int (hsAt hs e.1 : Nat) = V.int (hsAt hs e.2 : Nat)) = decide (hsAt hs e.1 = hsAt hs e.2) := decide_eq_decide.mpr ⟨fun h => by injection h with h; omega, fun h => by rw [h]⟩
      rw [dv]
      by_cases hc : hsAt hs e.1 = hsAt hs e.2
      · rw [if_neg (by unfold apartP; rw [decide_eq_true hc]; decide), List.append_nil] at tk
        rw [decide_eq_true hc]
        refine iteFo rfl ⟨e2, ?_⟩
        rw [tk]
        exact hD2
      · rw [if_pos (by unfold apartP; rw [decide_eq_false hc]; rfl)] at tk
        rw [decide_eq_false hc]
        refine iteTo rfl ?_
        obtain ⟨ys, hys, hw⟩ := hrow H2 e2
        refine ei_gen (fun Q' q => ei_gen (fun Q' q => ⟨_, rfl, q⟩) ⟨_, rfl, rfl, rfl⟩ (htt.same e2) hr' q) ⟨_, rfl, rfl, rfl⟩ hys hw ?_
        refine ⟨_, hD2, by unfold wds; rw [List.length_map]; exact small1000 (Nat.le_trans (p20 _ _) (by decide)), fun b z hb => ?_, ?_⟩
        · rw [upd_ne (ne_of_none hb hD)]
          exact e2 _ _ hb
        · rw [upd_same, tk, wds_snoc]
    · obtain ⟨e2, hD2⟩ := pv
      rw [List.length_map, tcn, List.take_length] at hD2
      refine ⟨_, rfl, D, wds _, rfl, .inl (.inl (.inl hD2)), rfl, wds_flat _, _, rfl, ?_⟩
      change if inV (.str "asleep") (wds (pick2 (apartP hs) tab (KL.allC n))) = true then _ else _
      rw [(wds_has _).1, show hasA (pick2 (apartP hs) tab (KL.allC n)) = aslB n hs tab from rfl]
      cases ha : aslB n hs tab with
      | true => exact iteTo rfl ⟨by show 1 ≤ 1000; decide, flies_go ((q1 ha).later e2)⟩
      | false =>
        refine iteFo rfl ?_
        obtain ⟨dx2, _, _, _, _, _, _, _, m2, _⟩ := (L.same e2).at_
        refine ⟨_, rfl, l, dx2, _, rfl, m2, l, n, es, rd, rfl, L.same e2, fun u2 tc2 hu2 tC2 => ?_⟩
        have tcn2 : tc2.length = (KL.allC n).length := by
          rw [tC2.len]
          unfold pairs
          rw [List.length_map]
        have cpl2 : ∀ {i : Nat} {t' : Addr}, tc2[i]? = some t' → ∃ e : Nat × Nat, (KL.allC n)[i]? = some e ∧ H2 t' = some (.tup (ints_ [e.1, e.2])) ∧ e.1 < n ∧ e.2 < n ∧ e.1 ≠ e.2 := fun {i t'} ht' => by
          obtain ⟨rw', hrow, hat'⟩ := tC2.get ht'
          unfold pairs at hrow
          rw [List.getElem?_map] at hrow
          obtain ⟨e, he, rfl⟩ := Option.map_eq_some_iff.mp hrow
          exact ⟨e, he, hat', allC_mem (List.mem_of_getElem? he)⟩
        refine ⟨u2, rfl, ⟨_, .inl (.inl hu2)⟩, fun D2 hDn => lc_tup (xs := tc2.map V.ref) (fun j H3 => Same H2 H3 ∧ H3 D2 = some (.lst (wds (pick2 (togP hs) tab ((KL.allC n).take j))))) ⟨al hDn, upd_same⟩ (fun j H3 _ pv => .inl (.inl (pv.1 _ _ hu2))) (fun j v H3 hv pv => ?_) (fun H3 pv => ?_)⟩
        · obtain ⟨e3, hD3⟩ := pv
          have e23 := e2.trans e3
          rw [List.getElem?_map] at hv
          obtain ⟨t', ht', rfl⟩ := Option.map_eq_some_iff.mp hv
          obtain ⟨e, he, hat', lt1, lt2, ne⟩ := cpl2 ht'
          have tk := pick2_take (p := togP hs) (tab := tab) he
          have hat2 := e3 _ _ hat'
          obtain ⟨r, hr', hrow⟩ := row e.1 lt1 e.2 lt2
          refine ⟨t', _, rfl, .inl (.inl hat2), rfl, _, _, rfl, _, _, rfl, rfl, rfl, ?_⟩
          refine ei_gen (fun Q' q => ⟨_, rfl, q⟩) ⟨_, rfl, rfl, rfl⟩ (hth.same e23) (hat _ lt1) ?_
          refine ei_gen (fun Q' q => ⟨_, rfl, q⟩) ⟨_, rfl, rfl, rfl⟩ (hth.same e23) (hat _ lt2) ?_
          refine ⟨rfl, _, rfl, ?_⟩
          have dv : decide (V.int (hsAt hs e.1 : Nat) = V.int (hsAt hs e.2 : Nat)) = decide (hsAt hs e.1 = hsAt hs e.2) := decide_eq_decide.mpr ⟨fun h => by injection h with h; omega, fun h => by rw [h]⟩
          rw [dv]
          by_cases hc : hsAt hs e.1 = hsAt hs e.2
          · rw [if_pos (by unfold togP; rw [decide_eq_true hc])] at tk
            rw [decide_eq_true hc]
            refine iteT ?_
            obtain ⟨ys, hys, hw⟩ := hrow H3 e23
            refine ei_gen (fun Q' q => ei_gen (fun Q' q => ⟨_, rfl, q⟩) ⟨_, rfl, rfl, rfl⟩ (htt.same e23) hr' q) ⟨_, rfl, rfl, rfl⟩ hys hw ?_
            refine ⟨_, hD3, by unfold wds; rw [List.length_map]; exact small1000 (Nat.le_trans (p20 _ _) (by decide)), fun b z hb => ?_, ?_⟩
            · rw [upd_ne (ne_of_none hb hDn)]
              exact e3 _ _ hb
            · rw [upd_same, tk, wds_snoc]
          · rw [if_neg (by unfold togP; rw [decide_eq_false hc]; decide), List.append_nil] at tk
            rw [decide_eq_false hc]
            refine iteF ⟨e3, ?_⟩
            rw [tk]
            exact hD3
        · obtain ⟨e3, hD3⟩ := pv
          rw [List.length_map, tcn2, List.take_length] at hD3
          have e23 := e2.trans e3
          obtain ⟨_, w1, w2⟩ := wds_has (pick2 (togP hs) tab (KL.allC n))
          refine ⟨_, rfl, D2, wds _, rfl, .inl (.inl (.inl hD3)), rfl, wds_flat _, _, rfl, ?_⟩
          change if inV (.str "awake") (wds (pick2 (togP hs) tab (KL.allC n))) = true then _ else _
          rw [w1]
          cases h1 : hasW (pick2 (togP hs) tab (KL.allC n)) 1 with
          | true =>
            have aw : awkB n hs tab = true := by unfold awkB; rw [h1]; rfl
            exact iteTo rfl (iteTo rfl ⟨by show 1 ≤ 1000; decide, flies_go ((q2 ha aw).later e23)⟩)
          | false =>
            refine iteFo rfl ?_
            refine ⟨_, rfl, D2, wds _, rfl, .inl (.inl (.inl hD3)), rfl, wds_flat _, _, rfl, ?_⟩
            change if inV (.str "needed") (wds (pick2 (togP hs) tab (KL.allC n))) = true then _ else _
            rw [w2]
            cases h2 : hasW (pick2 (togP hs) tab (KL.allC n)) 2 with
            | true =>
              have aw : awkB n hs tab = true := by unfold awkB; rw [h1, h2]; rfl
              exact iteTo rfl ⟨by show 1 ≤ 1000; decide, flies_go ((q2 ha aw).later e23)⟩
            | false =>
              have aw : awkB n hs tab = false := by unfold awkB; rw [h1, h2]; rfl
              exact iteFo rfl (q3 ha aw _ e23)
end
end K7
end
/-! ## P17 -/
section
open PySem PySem.Spec PyProof.Rows L2
namespace K7
abbrev N_State___init__ : List Str := ["self", "land", "hands", "standings", "row"]
abbrev s_State___init__ : Stmt := inClass (topS 28) 0
theorem sc_State___init__ : FnScope ["self", "land", "hands", "standings", "row"] ["self", "land", "hands", "standings"] (defScope s_State___init__) := ⟨rfl, rfl, rfl, by decide +kernel, rfl, by decide +kernel, by decide +kernel⟩
/-- what the top says of lands, once more -/
structure Tk (K : PySem.W.Frag) (C fE : Addr) : Prop where
  ha : PySem.W.findIn K (.ref C) "__class__" = some (some (.builtin "object.__class__"))
  hn : PySem.W.specialIn K (.builtin "object.__class__") "__get__" = some (some (.builtin "getset_descriptor.__get__"))
  ht : PySem.W.takesIn K (.builtin "object.__class__") = some true
  hm : PySem.W.mroIn K C (.type "object") = some true
  own : PySem.W.kitOne K (.ref C) (.ref C) = some true
  eq : PySem.W.findIn K (.ref C) "__eq__" = some (some (.ref fE))
  eqF : PySem.W.isFn K (.ref fE) = true
  ne : PySem.W.findIn K (.ref C) "__ne__" = some (some (.builtin "object.__ne__"))
/-! ### a state is made -/
def stFs (l th tt : Addr) : List (Str × V) := [("land", .ref l), ("hands", .ref th), ("standings", .ref tt)]
def sfields : List Str := ["land", "hands", "standings"]
/-- rows of words, tuples -/
inductive RTt (H : Hp) : List Addr → List (List Nat) → Prop
  | nil : RTt H [] []
  | cons {r : Addr} {row : List Nat} {rs : List Addr} {tab : List (List Nat)} : H r = some (.tup (wds row)) → RTt H rs tab → RTt H (r :: rs) (row :: tab)
theorem RTt.mono {H H' : Hp} {rs : List Addr} {tab : List (List Nat)} (h : RTt H rs tab) (i : ∀ b xs, H b = some (.tup xs) → H' b = some (.tup xs)) : RTt H' rs tab := by
  induction h with
  | nil => exact .nil
  | cons h _ ih => exact .cons (i _ _ h) ih
theorem RTt.same {H H' : Hp} {rs : List Addr} {tab : List (List Nat)} (h : RTt H rs tab) (e : Same H H') : RTt H' rs tab := h.mono fun b xs hb => e _ _ hb
theorem RTt.append {H : Hp} {us vs : List Addr} {xs ys : List (List Nat)} (h : RTt H us xs) (h' : RTt H vs ys) : RTt H (us ++ vs) (xs ++ ys) := by
  induction h with
  | nil => exact h'
  | cons h _ ih => exact .cons h ih
theorem RTt.len {H : Hp} {rs : List Addr} {tab : List (List Nat)} (h : RTt H rs tab) : rs.length = tab.length := by
  induction h with
  | nil => rfl
  | cons _ _ ih => rw [List.length_cons, List.length_cons, ih]
theorem RTt.get {H : Hp} {rs : List Addr} {tab : List (List Nat)} (h : RTt H rs tab) : ∀ {i : Nat} {r : Addr}, rs[i]? = some r → ∃ row, tab[i]? = some row ∧ H r = some (.tup (wds row)) := by
  induction h with
  | nil => exact fun h => nomatch h
  | cons h _ ih =>
    intro i u hu
    cases i with
    | zero =>
      obtain rfl := Option.some.inj hu
      exact ⟨_, rfl, h⟩
    | succ i => exact ih (i := i) hu
theorem LandO.ni {C S dx x l : Addr} {fs : List (Str × V)} {H : Hp} {n : Nat} {es : List (Nat × Nat)} {rd : List Nat} (h : LandO C H l n es rd) (hx : H x = some (.ins S dx fs)) (ne : l ≠ x) (o' : HO) : LandO C (upd H x o') l n es rd := by
  obtain ⟨dx', an, ar, ay, ac, tn, ty, tc, h1, h2, h3, h4, h5, h6, h7, h8⟩ := h.at_
  have no : ∀ (xs : List V) (C dx : Addr) fs, HO.tup xs ≠ .ins C dx fs := fun _ _ _ _ e => by cases e
  exact ⟨⟨dx', an, ar, ay, ac, tn, ty, tc, by rw [upd_ne ne]; exact h1, keepNI hx h2 (no _), h3.ni hx o', keepNI hx h4 (no _), keepNI hx h5 (no _), h6.ni hx o', keepNI hx h7 (no _), h8.ni hx o'⟩, h.n2, h.n5, h.ok, h.rlt, h.rnd, h.rso, h.r0, h.rn⟩
theorem RAt.ni {S dx x : Addr} {fs : List (Str × V)} {H : Hp} {rs : List Addr} {tab : List (List Nat)} (h : RAt H rs tab) (hx : H x = some (.ins S dx fs)) (o' : HO) : RAt (upd H x o') rs tab := by
  induction h with
  | nil => exact .nil
  | cons h _ ih => exact .cons (h.ni hx o') ih
section
variable {P : Program} {w : World} {K : PySem.W.Frag} {mg : Str → Option Value} {base : Heap} {a : AdL} {aST aRI S B iB fE : Addr} {tH : Tok}
/-- what is no land -/
def OddL (K : PySem.W.Frag) (C : Addr) (H : Hp) (v : V) : Prop := ∃ t : String, (∀ H1, Same H H1 → TyX K H1 v (.type t)) ∧ PySem.W.kitOne K (.type t) (.ref C) = some false
theorem OddL.same {C : Addr} {H H' : Hp} {v : V} (h : OddL K C H v) (e : Same H H') : OddL K C H' v := by
  obtain ⟨t, h1, h2⟩ := h
  exact ⟨t, fun H1 e1 => h1 H1 (e.trans e1), h2⟩
/-- what is wished of hands and standings: the refusals, or the rest -/
def PlaceOr (B : Addr) (n : Nat) (H : Hp) (hv tv : V) (E : XK) (q : Prop) : Prop := ∃ (th : Addr) (hs : List Nat) (tt : Addr) (rs : List Addr) (tab : List (List Nat)), hv = .ref th ∧ SqOf H th (ints_ hs) ∧ tv = .ref tt ∧ SqOf H tt (rs.map V.ref) ∧ RAt H rs tab ∧ StFm n hs tab ∧
  (aslB n hs tab = true → Flies H B "what" (.str "asleep") E) ∧ (aslB n hs tab = false → awkB n hs tab = true → Flies H B "what" (.str "awake") E) ∧ (aslB n hs tab = false → awkB n hs tab = false → q)
def FormOr (B : Addr) (n : Nat) (H : Hp) (hv tv : V) (E : XK) (q : Prop) : Prop := (HdV n H hv false ∧ Flies H B "what" (.str "hands") E) ∨ (HdV n H hv true ∧ ((TbV n H tv false ∧ Flies H B "what" (.str "standings") E) ∨ (TbV n H tv true ∧ PlaceOr B n H hv tv E q)))
def spStI (K : PySem.W.Frag) (a : AdL) (S B : Addr) : Sp := fun vs H Q E => ∃ (x dx : Addr) (lv hv tv : V), vs = [.ref x, lv, hv, tv] ∧ H x = some (.ins S dx []) ∧
  ((OddL K a.C H lv ∧ Flies H B "what" (.str "land") E) ∨ ∃ (l : Addr) (n : Nat) (es : List (Nat × Nat)) (rd : List Nat), lv = .ref l ∧ LandO a.C H l n es rd ∧ l ≠ x ∧ FormOr B n H hv tv E (∀ H', But x H H' → (∃ fs, H' x = some (.ins S dx fs)) → Q .non H'))
theorem ok_sti (T : Tl K mg a) (TB : Tb K mg B iB) (T2 : Tk K a.C fE) (clsS : Cls K S) (nS : ∀ f ∈ sfields, NoAttr K S f) {f fA fB fC : Addr} {fd fdA fdB fdC fdE : FuncData} (F : Fun K "__init__" "State.__init__" s_State___init__ f fd)
    (Gah : FnOk P w K mg base CX0 2 fA fdA ["land", "thing"] (spAreH a.C)) (gah : mg "_are_hands" = some (.ref fA)) (kah : PySem.W.keepIn K (.ref fA) = true) (bah : Binds K fdA ["land", "thing"] [])
    (Gas_ : FnOk P w K mg base CX0 3 fB fdB ["land", "thing"] (spAreS a.C)) (gas_ : mg "_are_standings" = some (.ref fB)) (kas_ : PySem.W.keepIn K (.ref fB) = true) (bas_ : Binds K fdB ["land", "thing"] [])
    (Gcp : FnOk P w K mg base (L2.CX P w) 4 fC fdC ["land", "hands", "standings"] (spChP a.C B)) (gcp : mg "_check_places" = some (.ref fC)) (kcp : PySem.W.keepIn K (.ref fC) = true) (bcp : Binds K fdC ["land", "hands", "standings"] [])
    (FB0 : Fun K "__init__" "BadState.__init__" s_BadState___init__ iB fdE) (bB : Binds K fdE ["self", "what"] [])
    (m_isinstance : mg "isinstance" = none) (m_tuple : mg "tuple" = none) : FnOk P w K mg base (L2.CX P w) 5 f fd ["self", "land", "hands", "standings"] (spStI K a S B) := by
  have FB : FnOk P w K mg base (L2.CX P w) 1 iB fdE ["self", "what"] (spX B "what") := ok_iS TB FB0
  refine F.okX sc_State___init__ (fun vs H Q E h => ?_) (fun cdv A outer s H vs Q E hr h => ?_)
  · obtain ⟨x, dx, lv, hv, tv, rfl, _⟩ := h
    rfl
  · obtain ⟨x, dx, lv, hv, tv, rfl, hx, h⟩ := h
    have hrx : Room (1 + 1) _ := hr.mono (by decide)
    refine ⟨_, (pss_cons (ps_if (pt_not (pt_val (pe_callB call_isi (by rfl) m_isinstance boot_isinstance (pa_cons (pv 1) (pa_cons (pe_glob (v := .ref _) rfl T.gC rfl) pa_nil)))))
  (pss_one (ps_raise rfl (takes_of rfl rfl rfl rfl) (pmk_oex TB.ox TB.iC TB.tI FB hrx bB .nil passL (by rfl) TB.g (pa_cons pe_str pa_nil))))
  pss_nil)
 (pss_cons (ps_if (pt_not (pt_val (pe_call Gah (hr.mono (by decide)) (by rfl) gah kah bah .nil pass0 (pa_cons (pv 1) (pa_cons (pv 2) pa_nil)))))
  (pss_one (ps_raise rfl (takes_of rfl rfl rfl rfl) (pmk_oex TB.ox TB.iC TB.tI FB hrx bB .nil passL (by rfl) TB.g (pa_cons pe_str pa_nil))))
  pss_nil)
 (pss_cons (ps_if (pt_not (pt_val (pe_call Gas_ (hr.mono (by decide)) (by rfl) gas_ kas_ bas_ .nil pass0 (pa_cons (pv 1) (pa_cons (pv 3) pa_nil)))))
  (pss_one (ps_raise rfl (takes_of rfl rfl rfl rfl) (pmk_oex TB.ox TB.iC TB.tI FB hrx bB .nil passL (by rfl) TB.g (pa_cons pe_str pa_nil))))
  pss_nil)
 (pss_cons (ps_expr (pe_call Gcp (hr.mono (by decide)) (by rfl) gcp kcp bcp .nil (passes_call (E := E) (takes_of rfl rfl rfl rfl) (fun _ _ _ _ h => h)) (pa_cons (pv 1) (pa_cons (pv 2) (pa_cons (pv 3) pa_nil)))))
 (pss_cons (ps_fld (pv 0) (pv 1) rfl)
 (Evl.pss_cut (ps_fld (pv 0) (pe_callTy call_tuple_of (by rfl) m_tuple boot_tuple (pa_cons (pv 2) pa_nil)) rfl)
 (pss_one (ps_fld (pv 0) (pe_callTy call_tuple_of (by rfl) m_tuple boot_tuple (pa_cons (pe_lc (own := [("row", 4)]) (g := gName 4) (tt := tYes) rfl sc_State___init__.nd (K7E.pi_either (pi_tup (pv 3)) (pi_list (pv 3))) (blkOk_by (own := [("row", 4)]) (N := N_State___init__) (sc := defScope s_State___init__) (by decide +kernel)) (fun _ _ _ _ _ => (pg_name (i := 4) sc_State___init__.nd rfl (by first | exact Or.inl rfl | exact Or.inr rfl))) (fun _ _ _ _ _ => pts_nil) (fun _ _ _ _ _ => (pe_callTy (show CallR _ (.type "tuple") (rTup_ K) from call_tuple_of) (by rfl) m_tuple boot_tuple (pa_cons (pv 4) pa_nil)))) pa_nil)) rfl)))))))), ?_⟩
    rcases h with ⟨⟨ty, tyx, kk⟩, fl⟩ | ⟨l, n, es, rd, rfl, L, nlx, h⟩
    · refine ⟨_, rfl, _, _, _, _, _, rfl, .own _, tyx _ (Same.refl H), kk, false, rfl, ?_⟩
      exact iteT ⟨by show 1 ≤ 1000; decide, flies_go fl⟩
    obtain ⟨dl, an, ar, ay, ac, tn, ty, tc, m1, _⟩ := L.at_
    have n5 := L.n5
    refine ⟨_, rfl, _, _, _, _, _, rfl, .own _, .base (.ins m1 T.cl T2.ha T2.hn T2.ht T2.hm), T2.own, true, rfl, ?_⟩
    rcases h with ⟨hh, fl⟩ | ⟨hh, h⟩
    · refine iteF ⟨_, rfl, _, rfl, l, n, hv, false, rfl, L.c, hh, fun H1 e1 => ⟨_, rfl, ?_⟩⟩
      exact iteT ⟨by show 1 ≤ 1000; decide, flies_go (fl.later e1)⟩
    refine iteF ⟨_, rfl, _, rfl, l, n, hv, true, rfl, L.c, hh, fun H1 e1 => ⟨_, rfl, ?_⟩⟩
    rcases h with ⟨ht, fl⟩ | ⟨ht, th, hs, tt, rs, tab, rfl, hth, rfl, htt, hR, Sx, q1, q2, q3⟩
    · refine iteF ⟨_, rfl, _, rfl, l, n, tv, false, rfl, (L.same e1).c, ht.same e1, fun H2 e2 => ⟨_, rfl, ?_⟩⟩
      exact iteT ⟨by show 1 ≤ 1000; decide, flies_go (fl.later (e1.trans e2))⟩
    refine iteF ⟨_, rfl, _, rfl, l, n, _, true, rfl, (L.same e1).c, ht.same e1, fun H2 e2 => ⟨_, rfl, ?_⟩⟩
    have e12 := e1.trans e2
    refine iteF ⟨_, rfl, _, rfl, _, rfl, l, th, tt, n, es, rd, hs, rs, tab, rfl, L.same e12, hth.same e12, htt.same e12, hR.same e12, Sx, fun ha => (q1 ha).later e12, fun ha hb => (q2 ha hb).later e12, fun ha hb H3 e3 => ?_⟩
    have q := q3 ha hb
    have e13 := e12.trans e3
    have hx3 := e13 _ _ hx
    -- the land
    refine ⟨_, rfl, _, rfl, x, S, dx, _, rfl, hx3, clsS, nS _ (by decide), by show 0 < 1000; decide, ?_⟩
    have b4 : But x H (upd H3 x (.ins S dx (putF "land" (.ref l) []))) := fun b o nb hb => by
      rw [upd_ne nb]
      exact e13 _ _ hb
    have hx4 : upd H3 x (.ins S dx (putF "land" (.ref l) [])) x = some (.ins S dx [("land", .ref l)]) := upd_same
    have L4 := (L.same e13).ni hx3 nlx (.ins S dx (putF "land" (.ref l) []))
    have hth4 := (hth.same e13).ni hx3 (.ins S dx (putF "land" (.ref l) []))
    have htt4 := (htt.same e13).ni hx3 (.ins S dx (putF "land" (.ref l) []))
    have hR4 := (hR.same e13).ni hx3 (.ins S dx (putF "land" (.ref l) []))
    generalize upd H3 x (.ins S dx (putF "land" (.ref l) [])) = H4 at b4 hx4 L4 hth4 htt4 hR4 ⊢
    -- the hands
    refine ⟨fun σ' H' => ∃ th', σ' = [some (.ref x), some (.ref l), some (.ref th), some (.ref tt), none] ∧ But x H H' ∧ H' x = some (.ins S dx [("land", .ref l), ("hands", .ref th')]) ∧ LandO a.C H' l n es rd ∧ H' th' = some (.tup (ints_ hs)) ∧ SqOf H' tt (rs.map V.ref) ∧ RAt H' rs tab, ?_, fun σ' H' hM => ?_⟩
    · have fin : ∀ H5 th', Same H4 H5 → H5 th' = some (.tup (ints_ hs)) → ∃ th'_1, [some (V.ref x), some (V.ref l), some (V.ref th), some (V.ref tt), none] = [some (V.ref x), some (V.ref l), some (V.ref th), some (V.ref tt), none] ∧ But x H (upd H5 x (.ins S dx (putF "hands" (.ref th') [("land", .ref l)]))) ∧ upd H5 x (.ins S dx (putF "hands" (.ref th') [("land", .ref l)])) x = some (.ins S dx [("land", .ref l), ("hands", .ref th'_1)]) ∧ LandO a.C (upd H5 x (.ins S dx (putF "hands" (.ref th') [("land", .ref l)]))) l n es rd ∧ upd H5 x (.ins S dx (putF "hands" (.ref th') [("land", .ref l)])) th'_1 = some (.tup (ints_ hs)) ∧ SqOf (upd H5 x (.ins S dx (putF "hands" (.ref th') [("land", .ref l)]))) tt (rs.map V.ref) ∧ RAt (upd H5 x (.ins S dx (putF "hands" (.ref th') [("land", .ref l)]))) rs tab := fun H5 th' e5 h5 => by
        have hx5 := e5 _ _ hx4
        exact ⟨th', rfl, (b4.same e5).put _, upd_same, (L4.same e5).ni hx5 nlx _, keepNI hx5 h5 (fun _ _ _ e => by cases e), (htt4.same e5).ni hx5 _, (hR4.same e5).ni hx5 _⟩
      refine ⟨_, rfl, th, ints_ hs, rfl, ?_⟩
      rcases hth4 with z | z
      · refine .inr ⟨.inl (.inl z), ?_⟩
        refine ⟨_, rfl, x, S, dx, _, rfl, hx4, clsS, nS _ (by decide), by show 1 < 1000; decide, ?_⟩
        exact fin H4 th (Same.refl H4) z
      · refine .inl ⟨.inl (.inl z), fun u nu => ?_⟩
        have e5 := al (o := .tup (ints_ hs)) nu
        refine ⟨_, rfl, x, S, dx, _, rfl, e5 _ _ hx4, clsS, nS _ (by decide), by show 1 < 1000; decide, ?_⟩
        exact fin _ u e5 upd_same
    · obtain ⟨th', rfl, b5, hx5, L5, h5, htt5, hR5⟩ := hM
      have rl : rs.length = tab.length := hR5.len
      have t5 : tab.length ≤ 5 := by rw [Sx.tl]; exact n5
      rcases htt5 with z | z
      · refine .inl ⟨_, rfl, tt, rfl, ⟨_, .inl (.inl z)⟩, fun D hD => lc_tup (xs := rs.map V.ref) (fun j H6 => Same H' H6 ∧ ∃ us, H6 D = some (.lst (us.map V.ref)) ∧ RTt H6 us (tab.take j) ∧ us.length ≤ j) ⟨al hD, [], upd_same, .nil, Nat.le_refl _⟩ (fun j H6 _ pv => .inl (.inl (pv.1 _ _ z))) (fun j v H6 hv pv => ?_) (fun H6 pv => ?_)⟩
        · obtain ⟨e6, us, hD6, tU, lu⟩ := pv
          have hj := (List.getElem?_eq_some_iff.mp hv).1
          rw [List.length_map] at hj
          rw [List.getElem?_map] at hv
          obtain ⟨r, hr', rfl⟩ := Option.map_eq_some_iff.mp hv
          obtain ⟨row, hrow, hat⟩ := hR5.get hr'
          have tk : tab.take (j + 1) = tab.take j ++ [row] := by rw [List.take_add_one, hrow]; rfl
          have fin : ∀ H7 u, Same H6 H7 → H7 u = some (.tup (wds row)) → ∃ acc, H7 D = some (.lst acc) ∧ acc.length < sizeLine ∧ (Same H' (upd H7 D (.lst (acc ++ [.ref u]))) ∧ ∃ us, upd H7 D (.lst (acc ++ [.ref u])) D = some (.lst (us.map V.ref)) ∧ RTt (upd H7 D (.lst (acc ++ [.ref u]))) us (tab.take (j + 1)) ∧ us.length ≤ j + 1) := fun H7 u e7 hu => by
            have hD7 := e7 _ _ hD6
            have up : ∀ b xs, H7 b = some (.tup xs) → upd H7 D (.lst (us.map V.ref ++ [.ref u])) b = some (.tup xs) := fun b xs hb => by
              rw [upd_ne (fun z => by rw [z, hD7] at hb; cases hb)]
              exact hb
            refine ⟨_, hD7, by rw [List.length_map]; exact small1000 (by omega), fun b y hb => ?_, us ++ [u], by rw [upd_same, List.map_append]; rfl, ?_, by rw [List.length_append, List.length_singleton]; omega⟩
            · rw [upd_ne (ne_of_none hb hD)]
              exact e7 _ _ (e6 _ _ hb)
            · rw [tk]
              exact ((tU.same e7).mono up).append (.cons (up _ _ hu) .nil)
          refine ⟨rfl, _, rfl, r, wds row, rfl, ?_⟩
          rcases hat.same e6 with y | y
          · exact .inr ⟨.inl (.inl y), fin H6 r (Same.refl H6) y⟩
          · exact .inl ⟨.inl (.inl y), fun u nu => fin _ u (al nu) upd_same⟩
        · obtain ⟨e6, us, hD6, tU, lu⟩ := pv
          rw [List.length_map, rl, List.take_length] at tU
          refine ⟨D, us.map V.ref, rfl, .inl ⟨.inl (.inl hD6), fun tn' ntn => ?_⟩⟩
          have e7 := e6.trans (al (o := .tup (us.map V.ref)) ntn)
          have hx7 := e7 _ _ hx5
          refine ⟨_, rfl, x, S, dx, _, rfl, hx7, clsS, nS _ (by decide), by show 2 < 1000; decide, ?_⟩
          have no : ∀ (xs : List V) (C dx : Addr) fs, HO.tup xs ≠ .ins C dx fs := fun _ _ _ _ e => by cases e
          exact q _ ((b5.same e7).put _) ⟨_, upd_same⟩
      · refine .inr ⟨_, rfl, tt, rfl, ⟨_, .inl (.inl z)⟩, fun D hD => lc_list (xs := rs.map V.ref) (fun j H6 => Same H' H6 ∧ ∃ us, H6 D = some (.lst (us.map V.ref)) ∧ RTt H6 us (tab.take j) ∧ us.length ≤ j) ⟨al hD, [], upd_same, .nil, Nat.le_refl _⟩ (fun j H6 _ pv => .inl (.inl (pv.1 _ _ z))) (fun j v H6 hv pv => ?_) (fun H6 pv => ?_)⟩
        · obtain ⟨e6, us, hD6, tU, lu⟩ := pv
          have hj := (List.getElem?_eq_some_iff.mp hv).1
          rw [List.length_map] at hj
          rw [List.getElem?_map] at hv
          obtain ⟨r, hr', rfl⟩ := Option.map_eq_some_iff.mp hv
          obtain ⟨row, hrow, hat⟩ := hR5.get hr'
          have tk : tab.take (j + 1) = tab.take j ++ [row] := by rw [List.take_add_one, hrow]; rfl
          have fin : ∀ H7 u, Same H6 H7 → H7 u = some (.tup (wds row)) → ∃ acc, H7 D = some (.lst acc) ∧ acc.length < sizeLine ∧ (Same H' (upd H7 D (.lst (acc ++ [.ref u]))) ∧ ∃ us, upd H7 D (.lst (acc ++ [.ref u])) D = some (.lst (us.map V.ref)) ∧ RTt (upd H7 D (.lst (acc ++ [.ref u]))) us (tab.take (j + 1)) ∧ us.length ≤ j + 1) := fun H7 u e7 hu => by
            have hD7 := e7 _ _ hD6
            have up : ∀ b xs, H7 b = some (.tup xs) → upd H7 D (.lst (us.map V.ref ++ [.ref u])) b = some (.tup xs) := fun b xs hb => by
              rw [upd_ne (fun z => by rw [z, hD7] at hb; cases hb)]
              exact hb
            refine ⟨_, hD7, by rw [List.length_map]; exact small1000 (by omega), fun b y hb => ?_, us ++ [u], by rw [upd_same, List.map_append]; rfl, ?_, by rw [List.length_append, List.length_singleton]; omega⟩
            · rw [upd_ne (ne_of_none hb hD)]
              exact e7 _ _ (e6 _ _ hb)
            · rw [tk]
              exact ((tU.same e7).mono up).append (.cons (up _ _ hu) .nil)
          refine ⟨rfl, _, rfl, r, wds row, rfl, ?_⟩
          rcases hat.same e6 with y | y
          · exact .inr ⟨.inl (.inl y), fin H6 r (Same.refl H6) y⟩
          · exact .inl ⟨.inl (.inl y), fun u nu => fin _ u (al nu) upd_same⟩
        · obtain ⟨e6, us, hD6, tU, lu⟩ := pv
          rw [List.length_map, rl, List.take_length] at tU
          refine ⟨D, us.map V.ref, rfl, .inl ⟨.inl (.inl hD6), fun tn' ntn => ?_⟩⟩
          have e7 := e6.trans (al (o := .tup (us.map V.ref)) ntn)
          have hx7 := e7 _ _ hx5
          refine ⟨_, rfl, x, S, dx, _, rfl, hx7, clsS, nS _ (by decide), by show 2 < 1000; decide, ?_⟩
          have no : ∀ (xs : List V) (C dx : Addr) fs, HO.tup xs ≠ .ins C dx fs := fun _ _ _ _ e => by cases e
          exact q _ ((b5.same e7).put _) ⟨_, upd_same⟩
end
end K7
end
/-! ## P18 -/
section
open PySem PySem.Spec PyProof.Rows L2
namespace K7
abbrev N_start_state : List Str := ["land"]
abbrev s_start_state : Stmt := topS 29
theorem sc_start_state : FnScope ["land"] ["land"] (defScope s_start_state) := ⟨rfl, rfl, rfl, by decide +kernel, rfl, by decide +kernel, by decide +kernel⟩
/-- hands and standings that are lawful -/
structure StTab (n : Nat) (hs : List Nat) (tab : List (List Nat)) : Prop where
  hl : hs.length = n
  hm : ∀ x ∈ hs, x ≤ 10 ^ 30
  tl : tab.length = n
  rl : ∀ r ∈ tab, r.length = n
  diag : ∀ (i : Nat) (r : List Nat), tab[i]? = some r → r[i]? = some 0
  apart : ∀ a b, a < n → b < n → a ≠ b → hsAt hs a ≠ hsAt hs b → tabAt tab a b < 3
  same : ∀ a b, a < n → b < n → a ≠ b → hsAt hs a = hsAt hs b → tabAt tab a b = 0 ∨ 3 ≤ tabAt tab a b
theorem StTab.fm {n : Nat} {hs : List Nat} {tab : List (List Nat)} (S : StTab n hs tab) : StFm n hs tab := ⟨S.hl, S.tl, S.rl⟩
theorem pick2_mem {p : Nat × Nat → Bool} {tab : List (List Nat)} {es : List (Nat × Nat)} {k : Nat} (h : k ∈ pick2 p tab es) : ∃ e ∈ es, p e = true ∧ k = tabAt tab e.1 e.2 := by
  obtain ⟨e, he, rfl⟩ := List.mem_map.mp h
  obtain ⟨h1, h2⟩ := List.mem_filter.mp he
  exact ⟨e, h1, h2, rfl⟩
theorem StTab.ok {n : Nat} {hs : List Nat} {tab : List (List Nat)} (S : StTab n hs tab) : aslB n hs tab = false ∧ awkB n hs tab = false := by
  have same : ∀ k ∈ pick2 (togP hs) tab (KL.allC n), k = 0 ∨ 3 ≤ k := fun k hk => by
    obtain ⟨e, he, hp, rfl⟩ := pick2_mem hk
    obtain ⟨h1, h2, h3⟩ := allC_mem he
    exact S.same _ _ h1 h2 h3 (of_decide_eq_true hp)
  refine ⟨List.any_eq_false.mpr fun k hk => ?_, ?_⟩
  · obtain ⟨e, he, hp, rfl⟩ := pick2_mem hk
    obtain ⟨h1, h2, h3⟩ := allC_mem he
    have hp : ¬ hsAt hs e.1 = hsAt hs e.2 := by
      intro z
      unfold apartP at hp
      rw [decide_eq_true z] at hp
      cases hp
    have z := S.apart _ _ h1 h2 h3 hp
    simp only [decide_eq_true_eq]
    omega
  · unfold awkB
    rw [Bool.or_eq_false_iff]
    refine ⟨List.any_eq_false.mpr fun k hk => ?_, List.any_eq_false.mpr fun k hk => ?_⟩
    · have := same k hk
      simp only [decide_eq_true_eq]
      omega
    · have := same k hk
      simp only [decide_eq_true_eq]
      omega
theorem hd_ok {n : Nat} {H : Hp} {th : Addr} {hs : List Nat} (h : SqOf H th (ints_ hs)) (hl : hs.length = n) (n5 : n ≤ 5) (hm : ∀ x ∈ hs, x ≤ 10 ^ 30) : HdV n H (.ref th) true := by
  have il : (ints_ hs).length = hs.length := List.length_map ..
  have e : (decide ((ints_ hs).length = n) && (ints_ hs).all wholeH) = true := by
    rw [decide_eq_true (by omega), Bool.true_and]
    refine List.all_eq_true.mpr fun y hy => ?_
    obtain ⟨x, hx, rfl⟩ := List.mem_map.mp hy
    have := hm x hx
    unfold wholeH
    rw [wholeV_int, decide_eq_true (by omega), decide_eq_true (by omega)]
    rfl
  rw [← e]
  exact .row h (fun y hy => by obtain ⟨x, _, rfl⟩ := List.mem_map.mp hy; exact .inl (.int _)) (by omega)
theorem wd_word (k : Nat) : isWord (.str (wd k)) = true := by
  match k with
  | 0 => decide
  | 1 => decide
  | 2 => decide
  | k + 3 => show isWord (.str "asleep") = true; decide
theorem tb_ok {n : Nat} {H : Hp} {tt : Addr} {rs : List Addr} {tab : List (List Nat)} (h : SqOf H tt (rs.map V.ref)) (hR : RAt H rs tab) (tl : tab.length = n) (n5 : n ≤ 5) (rl : ∀ r ∈ tab, r.length = n) (dg : ∀ (i : Nat) (r : List Nat), tab[i]? = some r → r[i]? = some 0) : TbV n H (.ref tt) true := by
  have il : (rs.map V.ref).length = n := by rw [List.length_map, hR.len, tl]
  have e : (decide ((rs.map V.ref).length = n) && (List.replicate n true).all id) = true := by
    rw [decide_eq_true il, Bool.true_and]
    exact List.all_eq_true.mpr fun b hb => (List.mem_replicate.mp hb).2
  rw [← e]
  refine .row h (by omega) (by rw [List.length_replicate, il]) fun i y hy => ?_
  have hi := (List.getElem?_eq_some_iff.mp hy).1
  rw [List.getElem?_map] at hy
  obtain ⟨r, hr, rfl⟩ := Option.map_eq_some_iff.mp hy
  obtain ⟨row, hrow, hat⟩ := hR.get hr
  have rn := rl row (List.mem_of_getElem? hrow)
  have wl : (wds row).length = n := by unfold wds; rw [List.length_map, rn]
  refine ⟨true, by rw [List.getElem?_replicate, if_pos (by omega)], ?_⟩
  have e2 : (decide ((wds row).length = n) && ((wds row).all isWord && decide ((wds row)[i]? = some (.str "none")))) = true := by
    have w0 : (wds row)[i]? = some (.str "none") := by
      unfold wds
      rw [List.getElem?_map, dg i row hrow]
      rfl
    rw [decide_eq_true wl, decide_eq_true w0, Bool.true_and, Bool.and_true]
    refine List.all_eq_true.mpr fun y hy => ?_
    obtain ⟨k, _, rfl⟩ := List.mem_map.mp hy
    exact wd_word k
  rw [← e2]
  exact .row hat (fun y hy => by obtain ⟨k, _, rfl⟩ := List.mem_map.mp hy; exact .inl (.str _)) (by omega)
theorem start_tab {n : Nat} : StTab n (List.replicate n 0) (List.replicate n (List.replicate n 0)) := by
  have h0 : ∀ c, hsAt (List.replicate n 0) c = 0 := fun c => by
    unfold hsAt
    rw [List.getD_eq_getElem?_getD, List.getElem?_replicate]
    split <;> rfl
  have t0 : ∀ x y, tabAt (List.replicate n (List.replicate n 0)) x y = 0 := fun x y => by
    unfold tabAt
    have e : (List.replicate n (List.replicate n 0)).getD x [] = List.replicate n 0 ∨ (List.replicate n (List.replicate n 0)).getD x [] = [] := by
      rw [List.getD_eq_getElem?_getD, List.getElem?_replicate]
      split
      · exact .inl rfl
      · exact .inr rfl
    rcases e with e | e
    · rw [e, List.getD_eq_getElem?_getD, List.getElem?_replicate]
      split <;> rfl
    · rw [e]
      rfl
  refine ⟨List.length_replicate, fun x hx => ?_, List.length_replicate, fun r hr => ?_, fun i r hr => ?_, fun x y _ _ _ h => absurd (by rw [h0, h0]) h, fun x y _ _ _ _ => .inl (t0 x y)⟩
  · rw [(List.mem_replicate.mp hx).2]
    exact Nat.zero_le _
  · rw [(List.mem_replicate.mp hr).2]
    exact List.length_replicate
  · rw [List.getElem?_replicate] at hr
    split at hr
    · rename_i hi
      rw [← Option.some.inj hr, List.getElem?_replicate, if_pos hi]
    · cases hr
theorem flat_one {α : Type} (x : α) : ∀ k : Nat, (List.replicate k [x]).flatten = List.replicate k x
  | 0 => rfl
  | k + 1 => by rw [List.replicate_succ, List.flatten_cons, flat_one x k]; rfl
theorem rat_rep {H : Hp} {r : Addr} {row : List Nat} (h : SqOf H r (wds row)) : ∀ k : Nat, RAt H (List.replicate k r) (List.replicate k row)
  | 0 => .nil
  | k + 1 => .cons h (rat_rep h k)
section
variable {P : Program} {w : World} {K : PySem.W.Frag} {mg : Str → Option Value} {base : Heap} {a : AdL} {aST aRI S B iB fE : Addr} {tH : Tok}
theorem FormOr.same {n : Nat} {H H' : Hp} {hv tv : V} {E : XK} {q q' : Prop} (h : FormOr B n H hv tv E q) (e : Same H H') (i : q → q') : FormOr B n H' hv tv E q' := by
  rcases h with ⟨h1, h2⟩ | ⟨h1, ⟨h2, h3⟩ | ⟨h2, th, hs, tt, rs, tab, e1, h4, e2, h5, h6, h7, h8, h9, h10⟩⟩
  · exact .inl ⟨h1.same e, h2.later e⟩
  · exact .inr ⟨h1.same e, .inl ⟨h2.same e, h3.later e⟩⟩
  · exact .inr ⟨h1.same e, .inr ⟨h2.same e, th, hs, tt, rs, tab, e1, h4.same e, e2, h5.same e, h6.same e, h7, fun z => (h8 z).later e, fun z y => (h9 z y).later e, fun z y => i (h10 z y)⟩⟩
/-- a state is made, or refused -/
def IsSt (S : Addr) (H : Hp) (x : Addr) : Prop := ∃ dx fs, H x = some (.ins S dx fs)
def NewSt (K : PySem.W.Frag) (a : AdL) (S B : Addr) (H : Hp) (lv hv tv : V) (Q : VK) (E : XK) : Prop := (OddL K a.C H lv ∧ Flies H B "what" (.str "land") E) ∨ ∃ (l : Addr) (n : Nat) (es : List (Nat × Nat)) (rd : List Nat), lv = .ref l ∧ LandO a.C H l n es rd ∧ FormOr B n H hv tv E (∀ H' x, Same H H' → H x = none → IsSt S H' x → Q (.ref x) H')
theorem new_st {H1 : Hp} {lv hv tv : V} {Q : VK} {E : XK} (h : NewSt K a S B H1 lv hv tv Q E) : ∀ x dx, H1 x = none → H1 dx = none → dx ≠ x → spStI K a S B (.ref x :: ([lv, hv, tv] ++ [])) (upd (upd H1 dx (.own x)) x (.ins S dx [])) (fun v H2 => v = .non ∧ Q (.ref x) H2) E := by
  intro x dx hx hdx hne
  have e : Same H1 (upd (upd H1 dx (.own x)) x (.ins S dx [])) := same_new (same_new (Same.refl H1) hdx) (by rw [upd_ne hne.symm]; exact hx)
  refine ⟨x, dx, lv, hv, tv, rfl, upd_same, ?_⟩
  rcases h with ⟨h1, h2⟩ | ⟨l, n, es, rd, rfl, L, h⟩
  · exact .inl ⟨h1.same e, h2.later e⟩
  · obtain ⟨dl, an, ar, ay, ac, tn, ty, tc, m1, _⟩ := L.at_
    refine .inr ⟨l, n, es, rd, rfl, L.same e, ne_of_none m1 hx, h.same e fun q H' b ⟨fs, hf⟩ => ⟨rfl, q H' x (fun z o hz => b z o (ne_of_none hz hx) (e _ _ hz)) hx ⟨dx, fs, hf⟩⟩⟩
theorem form_ok {n : Nat} {H : Hp} {th tt : Addr} {hs : List Nat} {rs : List Addr} {tab : List (List Nat)} {E : XK} {q : Prop} (S : StTab n hs tab) (n5 : n ≤ 5) (h1 : SqOf H th (ints_ hs)) (h2 : SqOf H tt (rs.map V.ref)) (hR : RAt H rs tab) (hq : q) : FormOr B n H (.ref th) (.ref tt) E q := by
  obtain ⟨k1, k2⟩ := S.ok
  exact .inr ⟨hd_ok h1 S.hl n5 S.hm, .inr ⟨tb_ok h2 hR S.tl n5 S.rl S.diag, th, hs, tt, rs, tab, rfl, h1, rfl, h2, hR, S.fm, (fun z => by rw [k1] at z; cases z), (fun _ z => by rw [k2] at z; cases z), fun _ _ => hq⟩⟩
def spStart (K : PySem.W.Frag) (a : AdL) (S B : Addr) : Sp := fun vs H Q E => ∃ lv : V, vs = [lv] ∧ ((OddL K a.C H lv ∧ Flies H B "what" (.str "land") E) ∨ ∃ (l : Addr) (n : Nat) (es : List (Nat × Nat)) (rd : List Nat), lv = .ref l ∧ LandO a.C H l n es rd ∧ ∀ H' x, Same H H' → H x = none → IsSt S H' x → Q (.ref x) H')
theorem ok_start (T : Tl K mg a) (TB : Tb K mg B iB) (T2 : Tk K a.C fE) {f fI : Addr} {fd fdI fdE : FuncData} (F : Fun K "start_state" "start_state" s_start_state f fd) (gSt : mg "State" = some (.ref S))
    (MS : Mk K S fI) (GS_ : FnOk P w K mg base (L2.CX P w) 5 fI fdI ["self", "land", "hands", "standings"] (spStI K a S B)) (bS : Binds K fdI ["self", "land", "hands", "standings"] [])
    (FB0 : Fun K "__init__" "BadState.__init__" s_BadState___init__ iB fdE) (bB : Binds K fdE ["self", "what"] []) (m_isinstance : mg "isinstance" = none) : FnOk P w K mg base (L2.CX P w) 7 f fd ["land"] (spStart K a S B) := by
  have FB : FnOk P w K mg base (L2.CX P w) 1 iB fdE ["self", "what"] (spX B "what") := ok_iS TB FB0
  refine F.okX sc_start_state (fun vs H Q E h => ?_) (fun cdv A outer s H vs Q E hr h => ?_)
  · obtain ⟨lv, rfl, _⟩ := h
    rfl
  · obtain ⟨lv, rfl, h⟩ := h
    have hrx : Room (1 + 1) _ := hr.mono (by decide)
    refine ⟨_, (pss_cons (ps_if (pt_not (pt_val (pe_callB call_isi (by rfl) m_isinstance boot_isinstance (pa_cons (pv 0) (pa_cons (pe_glob (v := .ref _) rfl T.gC rfl) pa_nil)))))
  (pss_one (ps_raise rfl (takes_of rfl rfl rfl rfl) (pmk_oex TB.ox TB.iC TB.tI FB hrx bB .nil passL (by rfl) TB.g (pa_cons pe_str pa_nil))))
  pss_nil)
 (pss_one (ps_ret (pe_make MS GS_ (hr.mono (by decide)) (by rfl) gSt bS .nil (passes_call (E := E) (takes_of rfl rfl rfl rfl) (fun _ _ _ _ h => h)) (pa_cons (pv 0) (pa_cons (pe_op op_repT (pe_tup (pa_cons pe_int pa_nil)) (pe_fld (pv 0) rfl)) (pa_cons (pe_op op_repT (pe_tup (pa_cons (pe_op op_repT (pe_tup (pa_cons pe_str pa_nil)) (pe_fld (pv 0) rfl)) pa_nil)) (pe_fld (pv 0) rfl)) pa_nil))))))), ?_⟩
    rcases h with ⟨⟨ty, tyx, kk⟩, fl⟩ | ⟨l, n, es, rd, rfl, L, q⟩
    · refine ⟨_, rfl, _, _, _, _, _, rfl, .own _, tyx _ (Same.refl H), kk, false, rfl, ?_⟩
      exact iteT ⟨by show 1 ≤ 1000; decide, flies_go fl⟩
    obtain ⟨dl, an, ar, ay, ac, tn, ty, tc, m1, _⟩ := L.at_
    have n5 := L.n5
    have n2 := L.n2
    refine ⟨_, rfl, _, _, _, _, _, rfl, .own _, .base (.ins m1 T.cl T2.ha T2.hn T2.ht T2.hm), T2.own, true, rfl, ?_⟩
    refine iteF ⟨_, rfl, ?_⟩
    have tn_ : ((n : Nat) : Int).toNat = n := Int.toNat_natCast n
    refine ⟨by show 1 ≤ sizeLine; decide, fun t nt => ?_⟩
    have e1 := al (o := .tup [.int 0]) nt
    refine ⟨_, rfl, l, a.C, dl, _, _, rfl, e1 _ _ m1, T.cl, T.nA _ (by decide), rfl, t, (n : Nat), [.int 0], rfl, rfl, .inl (.inl upd_same), (by simp), by omega, by omega, by show 1 ≤ 1000; decide, fun th nth => ?_⟩
    rw [tn_, flat_one]
    have hrep : List.replicate n (V.int 0) = ints_ (List.replicate n 0) := by unfold ints_; rw [List.map_replicate]; rfl
    rw [hrep]
    have e2 := e1.trans (al (o := .tup (ints_ (List.replicate n 0))) nth)
    have hth : upd (upd H t (.tup [.int 0])) th (.tup (ints_ (List.replicate n 0))) th = some (.tup (ints_ (List.replicate n 0))) := upd_same
    generalize upd (upd H t (.tup [.int 0])) th (.tup (ints_ (List.replicate n 0))) = H2 at e2 hth ⊢
    refine ⟨by show 1 ≤ sizeLine; decide, fun t2 nt2 => ?_⟩
    have e3 := e2.trans (al (o := .tup [.str "none"]) nt2)
    refine ⟨_, rfl, l, a.C, dl, _, _, rfl, e3 _ _ m1, T.cl, T.nA _ (by decide), rfl, t2, (n : Nat), [.str "none"], rfl, rfl, .inl (.inl upd_same), (by simp), by omega, by omega, by show 1 ≤ 1000; decide, fun r nr => ?_⟩
    rw [tn_, flat_one]
    have wrep : List.replicate n (V.str "none") = wds (List.replicate n 0) := by unfold wds; rw [List.map_replicate]; rfl
    rw [wrep]
    have f3 := al (o := .tup [.str "none"]) nt2
    have f4 := f3.trans (al (o := .tup (wds (List.replicate n 0))) nr)
    have e4 := e2.trans f4
    have hr4 : upd (upd H2 t2 (.tup [.str "none"])) r (.tup (wds (List.replicate n 0))) r = some (.tup (wds (List.replicate n 0))) := upd_same
    have hth4 := f4 _ _ hth
    generalize upd (upd H2 t2 (.tup [.str "none"])) r (.tup (wds (List.replicate n 0))) = H4 at e4 hr4 hth4 ⊢
    refine ⟨by show 1 ≤ sizeLine; decide, fun t5 nt5 => ?_⟩
    have f5 := al (o := .tup [.ref r]) nt5
    have e5 := e4.trans f5
    refine ⟨_, rfl, l, a.C, dl, _, _, rfl, e5 _ _ m1, T.cl, T.nA _ (by decide), rfl, t5, (n : Nat), [.ref r], rfl, rfl, .inl (.inl upd_same), (by simp), by omega, by omega, by show 1 ≤ 1000; decide, fun tt ntt => ?_⟩
    rw [tn_, flat_one]
    have rrep : List.replicate n (V.ref r) = (List.replicate n r).map V.ref := by rw [List.map_replicate]
    rw [rrep]
    have f6 := f5.trans (al (o := .tup ((List.replicate n r).map V.ref)) ntt)
    have e6 := e4.trans f6
    refine new_st (a := a) (S := S) (Q := Q) (.inr ⟨l, n, es, rd, rfl, L.same e6, form_ok start_tab n5 (.inl (f6 _ _ hth4)) (.inl upd_same) (rat_rep (.inl (f6 _ _ hr4)) n) fun H' x e nx W => ?_⟩)
    exact q H' x (e6.trans e) (e6.free nx) W
end
end K7
end
/-! ## P19 -/
section
open PySem PySem.Spec PyProof.Rows L2
namespace K7
abbrev N__law_flat : List Str := ["_law_thing", "_law_part"]
abbrev s__law_flat : Stmt := topS 43
theorem sc__law_flat : FnScope ["_law_thing", "_law_part"] ["_law_thing"] (defScope s__law_flat) := ⟨rfl, rfl, rfl, by decide +kernel, rfl, by decide +kernel, by decide +kernel⟩
/-! ### things of lists and tuples told as tuples -/
def Shp (H : Hp) : Nat → V → Prop
  | 0, x => NoRow H x
  | d + 1, x => NoRow H x ∨ ∃ b vs, x = .ref b ∧ SqOf H b vs ∧ vs.length ≤ 10 ∧ ∀ y ∈ vs, Shp H d y
def FlatOf (H : Hp) : Nat → V → V → Prop
  | 0, x, v => NoRow H x ∧ v = x
  | d + 1, x, v => (NoRow H x ∧ v = x) ∨ ∃ b vs t ws, x = .ref b ∧ SqOf H b vs ∧ v = .ref t ∧ H t = some (.tup ws) ∧ K7E.All2 (FlatOf H d) vs ws
theorem Shp.same {H H' : Hp} (e : Same H H') : ∀ {d : Nat} {x : V}, Shp H d x → Shp H' d x
  | 0, _, h => NoRow.same h e
  | d + 1, _, h => by
    rcases h with h | ⟨b, vs, rfl, h1, h2, h3⟩
    · exact .inl (h.same e)
    · exact .inr ⟨b, vs, rfl, h1.same e, h2, fun y hy => Shp.same e (h3 y hy)⟩
theorem Shp.up {H : Hp} : ∀ {d : Nat} {x : V}, Shp H d x → Shp H (d + 1) x
  | 0, _, h => .inl h
  | d + 1, _, h => by
    rcases h with h | ⟨b, vs, rfl, h1, h2, h3⟩
    · exact .inl h
    · exact .inr ⟨b, vs, rfl, h1, h2, fun y hy => Shp.up (h3 y hy)⟩
theorem all2_mono {α β : Type} {R S : α → β → Prop} {as : List α} {bs : List β} (h : K7E.All2 R as bs) (i : ∀ a b, R a b → S a b) : K7E.All2 S as bs := by
  induction h with
  | nil => exact .nil
  | cons h _ ih => exact .cons (i _ _ h) ih
theorem all2_append {α β : Type} {R : α → β → Prop} {as cs : List α} {bs ds : List β} (h : K7E.All2 R as bs) (g : K7E.All2 R cs ds) : K7E.All2 R (as ++ cs) (bs ++ ds) := by
  induction h with
  | nil => exact g
  | cons h _ ih => exact .cons h ih
theorem FlatOf.mono {H H' : Hp} (e1 : ∀ b xs, SqOf H b xs → SqOf H' b xs) (e2 : ∀ b, H b = some (.dK []) → H' b = some (.dK [])) (e3 : ∀ b xs, H b = some (.tup xs) → H' b = some (.tup xs)) : ∀ {d : Nat} {x v : V}, FlatOf H d x v → FlatOf H' d x v
  | 0, _, _, h => ⟨h.1.imp id fun ⟨c, k1, k2⟩ => ⟨c, k1, e2 _ k2⟩, h.2⟩
  | d + 1, _, _, h => by
    rcases h with ⟨h, e0⟩ | ⟨b, vs, t, ws, rfl, h1, rfl, h2, h3⟩
    · exact .inl ⟨h.imp id fun ⟨c, k1, k2⟩ => ⟨c, k1, e2 _ k2⟩, e0⟩
    · exact .inr ⟨b, vs, t, ws, rfl, e1 _ _ h1, rfl, e3 _ _ h2, all2_mono h3 fun a b h => FlatOf.mono e1 e2 e3 h⟩
theorem FlatOf.same {H H' : Hp} (e : Same H H') {d : Nat} {x v : V} (h : FlatOf H d x v) : FlatOf H' d x v := h.mono (fun _ _ h => h.same e) (fun _ h => e _ _ h) fun _ _ h => e _ _ h
theorem all2_memo {α β : Type} {R S : α → β → Prop} {as : List α} {bs : List β} (h : K7E.All2 R as bs) (i : ∀ a ∈ as, ∀ b, R a b → S a b) : K7E.All2 S as bs := by
  induction h with
  | nil => exact .nil
  | cons h _ ih => exact .cons (i _ (List.mem_cons_self ..) _ h) (ih fun a ha => i a (List.mem_cons_of_mem _ ha))
theorem sq_fun {H : Hp} {b : Addr} {xs ys : List V} (h1 : SqOf H b xs) (h2 : SqOf H b ys) : xs = ys := by
  rcases h1 with h1 | h1 <;> rcases h2 with h2 | h2 <;> rw [h1] at h2 <;> cases h2 <;> rfl
theorem norow_sq {H : Hp} {b : Addr} {ys : List V} (h1 : NoRow H (.ref b)) (h2 : SqOf H b ys) : False := by
  rcases h1 with h1 | ⟨c, e, h1⟩
  · cases h1
  · cases e
    rcases h2 with h2 | h2 <;> rw [h1] at h2 <;> cases h2
/-- a list made since keeps what it grows -/
theorem FlatOf.push {H1 H : Hp} (e : Same H1 H) {D : Addr} {ws ws' : List V} (nD : H1 D = none) (hD : H D = some (.lst ws)) : ∀ {d : Nat} {x v : V}, Shp H1 d x → FlatOf H d x v → FlatOf (upd H D (.lst ws')) d x v
  | 0, _, _, k, h => ⟨(NoRow.same k e).imp id fun ⟨c, k1, k2⟩ => ⟨c, k1, by rw [upd_ne (by rintro rfl; rw [hD] at k2; cases k2)]; exact k2⟩, h.2⟩
  | d + 1, _, _, k, h => by
    rcases h with ⟨h, e0⟩ | ⟨b, vs, t, us, rfl, h1, rfl, h2, h3⟩
    · exact .inl ⟨h.imp id fun ⟨c, k1, k2⟩ => ⟨c, k1, by rw [upd_ne (by rintro rfl; rw [hD] at k2; cases k2)]; exact k2⟩, e0⟩
    · rcases k with k | ⟨b', vs', e', k1, k2, k3⟩
      · exact (norow_sq (k.same e) h1).elim
      · cases e'
        obtain rfl := sq_fun (k1.same e) h1
        have nb : b ≠ D := by
          rintro rfl
          rcases k1 with z | z <;> rw [nD] at z <;> cases z
        refine .inr ⟨b, _, t, us, rfl, ?_, rfl, by rw [upd_ne (by rintro rfl; rw [hD] at h2; cases h2)]; exact h2, all2_memo h3 fun y hy u hu => FlatOf.push e nD hD (k3 y hy) hu⟩
        rcases h1 with z | z
        · exact .inl (by rw [upd_ne nb]; exact z)
        · exact .inr (by rw [upd_ne nb]; exact z)
theorem norow_tw {H : Hp} {x : V} (h : NoRow H x) : Flat4 x ∨ ∃ a, x = .ref a := h.imp id fun ⟨c, e, _⟩ => ⟨c, e⟩
/-- told twice it is the same -/
theorem flat_tw {H : Hp} : ∀ {d : Nat} {x v u : V}, FlatOf H d x v → FlatOf H d x u → K7E.Tw H d v u
  | 0, _, _, _, ⟨h, e1⟩, ⟨_, e2⟩ => by subst e1 e2; exact ⟨rfl, norow_tw h⟩
  | d + 1, x, v, u, h, g => by
    rcases h with ⟨h, rfl⟩ | ⟨b, vs, t, ws, rfl, h1, rfl, h2, h3⟩
    · rcases g with ⟨g, rfl⟩ | ⟨b, vs, t, ws, rfl, g1, rfl, g2, g3⟩
      · exact .inl ⟨rfl, norow_tw h⟩
      · exact (norow_sq h g1).elim
    · rcases g with ⟨g, rfl⟩ | ⟨b', vs', t', ws', e, g1, rfl, g2, g3⟩
      · exact (norow_sq g h1).elim
      · cases e
        obtain rfl := sq_fun h1 g1
        refine .inr ⟨t, t', ws, ws', rfl, rfl, h2, g2, ?_⟩
        clear h1 h2 g1 g2
        induction h3 generalizing ws' with
        | nil => cases g3; exact .nil
        | cons h _ ih =>
          cases g3 with
          | cons g g3 => exact .cons (flat_tw h g) (ih _ g3)
section
variable {P : Program} {w : World} {K : PySem.W.Frag} {mg : Str → Option Value} {base : Heap}
def spFl : Nat → Sp
  | 0 => fun vs _ _ _ => ∃ x : V, vs = [x] ∧ False
  | d + 1 => fun vs H Q _ => ∃ x : V, vs = [x] ∧ Shp H d x ∧ ∀ H' v, Same H H' → FlatOf H' d x v → Q v H'
theorem ok_flat {f : Addr} {fd : FuncData} (F : Fun K "_law_flat" "_law_flat" s__law_flat f fd) (gfl : mg "_law_flat" = some (.ref f)) (kfl : PySem.W.keepIn K (.ref f) = true) (bfl : Binds K fd ["_law_thing"] [])
    (m_isinstance : mg "isinstance" = none) (m_list : mg "list" = none) (m_tuple : mg "tuple" = none) : ∀ d : Nat, FnOk P w K mg base CX0 d f fd ["_law_thing"] (spFl d)
  | 0 => ⟨fun vs H Q E h => by obtain ⟨x, rfl, _⟩ := h; rfl, fun A outer s H args us vs Q E hr he hb hv h => by obtain ⟨x, _, h⟩ := h; exact h.elim⟩
  | d + 1 => by
    have Gfl := ok_flat F gfl kfl bfl m_isinstance m_list m_tuple d
    refine F.ok sc__law_flat (fun vs H Q E h => ?_) (fun cdv A outer s H vs Q E hr h => ?_)
    · obtain ⟨x, rfl, _⟩ := h
      rfl
    · obtain ⟨x, rfl, hx, q⟩ := h
      refine ⟨_, (pss_one (ps_ret (pe_ifExp (pt_val (pe_callB call_isiT (by rfl) m_isinstance boot_isinstance (pa_cons (pv 0) (pa_cons (pe_tup (pa_cons (pe_bltn (v := .ty "list") (by rfl) m_list boot_list rfl) (pa_cons (pe_bltn (v := .ty "tuple") (by rfl) m_tuple boot_tuple rfl) pa_nil))) pa_nil)))) (pe_callTy call_tuple_of (by rfl) m_tuple boot_tuple (pa_cons (pe_lc (own := [("_law_part", 1)]) (g := gName 1) (tt := tYes) rfl sc__law_flat.nd (K7E.pi_either (pi_tup (pv 0)) (pi_list (pv 0))) (blkOk_by (own := [("_law_part", 1)]) (N := N__law_flat) (sc := defScope s__law_flat) (by decide +kernel)) (fun _ _ _ _ _ => (pg_name (i := 1) sc__law_flat.nd rfl (by first | exact Or.inl rfl | exact Or.inr rfl))) (fun _ _ _ _ _ => pts_nil) (fun _ _ _ _ _ => (pe_call Gfl hr (by rfl) gfl kfl bfl .nil pass0 (pa_cons (pv 1) pa_nil)))) pa_nil)) (pv 0)))), ?_⟩
      have no : NoRow H x → Shp H d x := fun h => by cases d <;> first | exact h | exact .inl h
      have fo : ∀ H', NoRow H' x → FlatOf H' d x x := fun H' h => by cases d <;> first | exact ⟨h, rfl⟩ | exact .inl ⟨h, rfl⟩
      have hx' : NoRow H x ∨ ∃ d', d = d' + 1 ∧ ∃ b vs, x = .ref b ∧ SqOf H b vs ∧ vs.length ≤ 10 ∧ ∀ y ∈ vs, Shp H d' y := by
        cases d with
        | zero => exact .inl hx
        | succ d => exact hx.imp id fun h => ⟨d, rfl, h⟩
      rcases hx' with hn | ⟨d', rfl, b, vs, rfl, hb, l10, hy⟩
      · obtain ⟨ty, tyx, kk⟩ := hn.ty (K := K)
        refine ⟨_, rfl, by show 2 ≤ sizeLine; decide, fun tp np => ?_⟩
        have s1 := same_new (o := .tup [.ty "list", .ty "tuple"]) (Same.refl H) np
        refine ⟨x, tp, _, .type ty, _, false, rfl, upd_same, .cons (.ty _) (.cons (.ty _) .nil), tyx _ s1, kk, _, rfl, ?_⟩
        exact iteFo rfl ⟨_, rfl, q _ _ s1 (fo _ (hn.same s1))⟩
      · obtain ⟨ty, tyx, kk⟩ := hb.ty (K := K)
        refine ⟨_, rfl, by show 2 ≤ sizeLine; decide, fun tp np => ?_⟩
        have s1 := same_new (o := .tup [.ty "list", .ty "tuple"]) (Same.refl H) np
        refine ⟨.ref b, tp, _, .type ty, _, true, rfl, upd_same, .cons (.ty _) (.cons (.ty _) .nil), tyx _ s1, kk, _, rfl, ?_⟩
        refine iteTo rfl ?_
        have hb1 := hb.same s1
        generalize upd H tp (.tup [.ty "list", .ty "tuple"]) = H1 at s1 hb1 ⊢
        rcases hb1 with z | z
        · refine .inl ⟨_, rfl, b, rfl, ⟨_, .inl (.inl z)⟩, fun D hD => lc_tup (xs := vs) (fun j H2 => Same H1 H2 ∧ ∃ ws, H2 D = some (.lst ws) ∧ K7E.All2 (FlatOf H2 d') (vs.take j) ws ∧ ws.length ≤ j) ⟨al hD, [], upd_same, .nil, Nat.le_refl _⟩ (fun j H2 _ pv => .inl (.inl (pv.1 _ _ z))) (fun j y H2 hv pv => ?_) (fun H2 pv => ?_)⟩
          · obtain ⟨e2, ws, hD2, tW, lw⟩ := pv
            have hj := (List.getElem?_eq_some_iff.mp hv).1
            have ym := List.mem_of_getElem? hv
            refine ⟨rfl, _, rfl, y, rfl, (hy y ym).same (s1.trans e2), fun H4 v e4 hv4 => ⟨ws, e4 _ _ hD2, small1000 (by omega), fun b' o hb' => by rw [upd_ne (ne_of_none hb' hD)]; exact e4 _ _ (e2 _ _ hb'), ws ++ [v], upd_same, ?_, by rw [List.length_append]; exact Nat.succ_le_succ lw⟩⟩
            rw [List.take_succ, hv]
            refine all2_append (all2_memo tW fun y' hy' u hu => FlatOf.push (e2.trans e4) hD (e4 _ _ hD2) ((hy y' (List.mem_of_mem_take hy')).same s1) (hu.same e4)) (.cons (FlatOf.push (e2.trans e4) hD (e4 _ _ hD2) ((hy y ym).same s1) hv4) .nil)
          · obtain ⟨e2, ws, hD2, tW, lw⟩ := pv
            rw [List.take_length] at tW
            refine ⟨D, ws, rfl, .inl ⟨.inl (.inl hD2), fun t nt => ?_⟩⟩
            have e3 := al (o := .tup ws) nt
            have e := s1.trans (e2.trans e3)
            exact q _ _ e (.inr ⟨b, vs, t, ws, rfl, hb.same e, rfl, upd_same, all2_mono tW fun _ _ h => h.same e3⟩)
        · refine .inr ⟨_, rfl, b, rfl, ⟨_, .inl (.inl z)⟩, fun D hD => lc_list (xs := vs) (fun j H2 => Same H1 H2 ∧ ∃ ws, H2 D = some (.lst ws) ∧ K7E.All2 (FlatOf H2 d') (vs.take j) ws ∧ ws.length ≤ j) ⟨al hD, [], upd_same, .nil, Nat.le_refl _⟩ (fun j H2 _ pv => .inl (.inl (pv.1 _ _ z))) (fun j y H2 hv pv => ?_) (fun H2 pv => ?_)⟩
          · obtain ⟨e2, ws, hD2, tW, lw⟩ := pv
            have hj := (List.getElem?_eq_some_iff.mp hv).1
            have ym := List.mem_of_getElem? hv
            refine ⟨rfl, _, rfl, y, rfl, (hy y ym).same (s1.trans e2), fun H4 v e4 hv4 => ⟨ws, e4 _ _ hD2, small1000 (by omega), fun b' o hb' => by rw [upd_ne (ne_of_none hb' hD)]; exact e4 _ _ (e2 _ _ hb'), ws ++ [v], upd_same, ?_, by rw [List.length_append]; exact Nat.succ_le_succ lw⟩⟩
            rw [List.take_succ, hv]
            refine all2_append (all2_memo tW fun y' hy' u hu => FlatOf.push (e2.trans e4) hD (e4 _ _ hD2) ((hy y' (List.mem_of_mem_take hy')).same s1) (hu.same e4)) (.cons (FlatOf.push (e2.trans e4) hD (e4 _ _ hD2) ((hy y ym).same s1) hv4) .nil)
          · obtain ⟨e2, ws, hD2, tW, lw⟩ := pv
            rw [List.take_length] at tW
            refine ⟨D, ws, rfl, .inl ⟨.inl (.inl hD2), fun t nt => ?_⟩⟩
            have e3 := al (o := .tup ws) nt
            have e := s1.trans (e2.trans e3)
            exact q _ _ e (.inr ⟨b, vs, t, ws, rfl, hb.same e, rfl, upd_same, all2_mono tW fun _ _ h => h.same e3⟩)
end
end K7
end
/-! ## P20 -/
section
open PySem PySem.Spec PyProof.Rows L2
namespace K7
abbrev N__law_far : List Str := ["_law_hand_here", "_law_step"]
abbrev s__law_far : Stmt := topS 38
theorem sc__law_far : FnScope ["_law_hand_here", "_law_step"] ["_law_hand_here"] (defScope s__law_far) := ⟨rfl, rfl, rfl, by decide +kernel, rfl, by decide +kernel, by decide +kernel⟩
abbrev N__law_table : List Str := ["_law_hand_here", "_law_hands", "_law_rows_here", "_law_a", "_law_row", "_law_b", "_law_words"]
abbrev s__law_table : Stmt := topS 39
theorem sc__law_table : FnScope ["_law_hand_here", "_law_hands", "_law_rows_here", "_law_a", "_law_row", "_law_b", "_law_words"] ["_law_hand_here", "_law_hands"] (defScope s__law_table) := ⟨rfl, rfl, rfl, by decide +kernel, rfl, by decide +kernel, by decide +kernel⟩
theorem Stay.put {h c W : Addr} {H H' : Hp} {o : HO} (x : Stay h c H H') (n : H W = none) : Stay h c H (upd H' W o) := by
  obtain ⟨n1, n2⟩ := x.hand0.ne n
  refine ⟨fun b z nb hb => ?_, x.hand0, x.hand.upd n1 n2⟩
  rw [upd_ne (ne_of_none hb n)]
  exact x.but b z nb hb
section
variable {P : Program} {w : World} {K : PySem.W.Frag} {mg : Str → Option Value} {base : Heap} {a : AdL}
def spFar : Sp := fun vs H Q _ => ∃ (h c : Addr), vs = [.ref h] ∧ Hand H h c ∧ ∀ H' r (far : List Nat), Stay h c H H' → H r = none → H' r = some (.lst (ints_ far)) → far.length = 5 → (∀ x ∈ far, x ≤ 10 ^ 30) → Q (.ref r) H'
theorem ok_far {f fdr : Addr} {fd fddr : FuncData} (F : Fun K "_law_far" "_law_far" s__law_far f fd)
    (Gdr : FnOk P w K mg base CX0 2 fdr fddr ["_law_hand_here", "_law_many"] spDraw) (gdr : mg "_law_draw" = some (.ref fdr)) (kdr : PySem.W.keepIn K (.ref fdr) = true) (bdr : Binds K fddr ["_law_hand_here", "_law_many"] []) : FnOk P w K mg base CX0 3 f fd ["_law_hand_here"] spFar := by
  refine F.ok sc__law_far (fun vs H Q E h => ?_) (fun cdv A outer s H vs Q E hr h => ?_)
  · obtain ⟨h, c, rfl, _⟩ := h
    rfl
  · obtain ⟨h, c, rfl, hh, q⟩ := h
    refine ⟨_, (pss_cons (ps_set (i := 1) sc__law_far.nd rfl (by first | exact Or.inl rfl | exact Or.inr rfl) (pe_ifExp (pt_cmpR op_eq (pe_call Gdr (hr.mono (by decide)) (by rfl) gdr kdr bdr .nil pass0 (pa_cons (pv 0) (pa_cons pe_int pa_nil))) pe_int (nomark _)) (pe_op op_add pe_int (pe_call Gdr (hr.mono (by decide)) (by rfl) gdr kdr bdr .nil pass0 (pa_cons (pv 0) (pa_cons (pe_op op_pow pe_int pe_int) pa_nil)))) pe_int))
 (pss_one (ps_ret (pe_lst (pa_cons pe_int (pa_cons pe_int (pa_cons (pv 1) (pa_cons (pe_op op_add (pe_op op_mul pe_int (pv 1)) pe_int) (pa_cons (pe_op op_pow pe_int pe_int) pa_nil))))))))), ?_⟩
    have big : (10 : Int) ^ (29 : Int).toNat = 10 ^ 29 := by decide
    have big2 : (10 : Int) ^ (30 : Int).toNat = 10 ^ 30 := by decide
    have fin : ∀ (H' : Hp) (k : Nat) (v : Int), v = (k : Nat) → Stay h c H H' → 2 ≤ k → k ≤ 10 ^ 29 + 2 → ∀ r, H' r = none → Q (.ref r) (upd H' r (.lst [.int 0, .int 1, .int v, .int (2 * v + 1), .int (10 ^ (30 : Int).toNat)])) := fun H' k v hv st k2 kb r nr => by
      have nr0 : H r = none := st.free nr
      subst hv
      refine q _ r [0, 1, k, 2 * k + 1, 10 ^ 30] (st.put nr0) nr0 ?_ rfl fun x hx => ?_
      · rw [upd_same, big2]
        rfl
      · simp only [List.mem_cons, List.not_mem_nil, or_false] at hx
        rcases hx with rfl | rfl | rfl | rfl | rfl <;> omega
    refine ⟨_, rfl, h, c, 2, rfl, hh, by decide, by decide, fun H1 r d1 r0 r1 => ⟨rfl, _, rfl, ite2 (fun c1 => ?_) (fun c1 => ?_)⟩⟩
    · refine ⟨_, rfl, _, _, rfl, rfl, ⟨by decide, by decide, by decide⟩, h, c, _, rfl, d1.hand, by decide, by decide, fun H2 r2 d2 z0 z1 => ⟨_, _, rfl, rfl, ?_⟩⟩
      rw [big] at z1
      obtain ⟨m, rfl⟩ : ∃ m : Nat, r2 = (m : Nat) := ⟨r2.toNat, by omega⟩
      refine ⟨_, rfl, _, rfl, _, _, rfl, rfl, .inl ⟨by decide, by decide⟩, _, _, rfl, rfl, _, _, rfl, rfl, ⟨by decide, by decide, by decide⟩, by show 5 ≤ sizeLine; decide, ?_⟩
      exact fin H2 (m + 2) _ (by omega) ((Stay.of_drawn hh d1).drawn d2) (by omega) (by omega)
    · refine ⟨_, rfl, _, rfl, _, _, rfl, rfl, .inl ⟨by decide, by decide⟩, _, _, rfl, rfl, _, _, rfl, rfl, ⟨by decide, by decide, by decide⟩, by show 5 ≤ sizeLine; decide, ?_⟩
      exact fin H1 2 _ rfl (Stay.of_drawn hh d1) (by decide) (by decide)
/-- a row of the table so far -/
structure RowOk (n : Nat) (hs : List Nat) (x : Nat) (row : List Nat) (j : Nat) : Prop where
  len : row.length = j
  at_ : ∀ y, y < j → (y = x → row.getD y 0 = 0) ∧ (y ≠ x → hsAt hs x = hsAt hs y → row.getD y 0 = 0 ∨ 3 ≤ row.getD y 0) ∧ (y ≠ x → hsAt hs x ≠ hsAt hs y → row.getD y 0 < 3)
theorem RowOk.snoc {n x j k : Nat} {hs row : List Nat} (r : RowOk n hs x row j) (h : (j = x → k = 0) ∧ (j ≠ x → hsAt hs x = hsAt hs j → k = 0 ∨ 3 ≤ k) ∧ (j ≠ x → hsAt hs x ≠ hsAt hs j → k < 3)) : RowOk n hs x (row ++ [k]) (j + 1) := by
  refine ⟨by rw [List.length_append, r.len]; rfl, fun y hy => ?_⟩
  by_cases e : y = j
  · subst e
    have g : (row ++ [k]).getD y 0 = k := by
      rw [List.getD_eq_getElem?_getD, List.getElem?_append_right (by rw [r.len]; exact Nat.le_refl _), r.len, Nat.sub_self]
      rfl
    rw [g]
    exact h
  · have g : (row ++ [k]).getD y 0 = row.getD y 0 := by
      rw [List.getD_eq_getElem?_getD, List.getD_eq_getElem?_getD, List.getElem?_append_left (by rw [r.len]; omega)]
    rw [g]
    exact r.at_ y (by omega)
theorem rows_tab {n : Nat} {hs : List Nat} {tab : List (List Nat)} (hl : hs.length = n) (hm : ∀ x ∈ hs, x ≤ 10 ^ 30) (tl : tab.length = n) (h : ∀ (x : Nat) (row : List Nat), tab[x]? = some row → RowOk n hs x row n) : StTab n hs tab := by
  have tat : ∀ x, x < n → ∃ row, tab[x]? = some row ∧ tab.getD x [] = row ∧ RowOk n hs x row n := fun x hx => by
    obtain ⟨row, hr⟩ : ∃ row, tab[x]? = some row := ⟨_, List.getElem?_eq_getElem (by rw [tl]; exact hx)⟩
    exact ⟨row, hr, by rw [List.getD_eq_getElem?_getD, hr]; rfl, h x row hr⟩
  refine ⟨hl, hm, tl, fun r hr => ?_, fun i r hr => ?_, fun x y hx hy ne d => ?_, fun x y hx hy ne e => ?_⟩
  · obtain ⟨i, hi, e⟩ := List.getElem_of_mem hr
    exact (h i r (by rw [List.getElem?_eq_getElem hi, e])).len
  · have hi : i < n := by rw [← tl]; exact (List.getElem?_eq_some_iff.mp hr).1
    have z := ((h i r hr).at_ i hi).1 rfl
    rw [List.getD_eq_getElem?_getD, List.getElem?_eq_getElem (by rw [(h i r hr).len]; exact hi)] at z
    rw [List.getElem?_eq_getElem (by rw [(h i r hr).len]; exact hi)]
    exact congrArg some z
  · obtain ⟨row, h1, h2, h3⟩ := tat x hx
    unfold tabAt
    rw [h2]
    exact ((h3.at_ y hy).2.2 (Ne.symm ne)) d
  · obtain ⟨row, h1, h2, h3⟩ := tat x hx
    unfold tabAt
    rw [h2]
    exact ((h3.at_ y hy).2.1 (Ne.symm ne)) e
/-- rows of words, lists, none of them at R -/
inductive RLt (R : Addr) (H : Hp) : List Addr → List (List Nat) → Prop
  | nil : RLt R H [] []
  | cons {r : Addr} {row : List Nat} {rs : List Addr} {tab : List (List Nat)} : H r = some (.lst (wds row)) → r ≠ R → RLt R H rs tab → RLt R H (r :: rs) (row :: tab)
theorem RLt.mono {R : Addr} {H H' : Hp} {rs : List Addr} {tab : List (List Nat)} (h : RLt R H rs tab) (i : ∀ b (row : List Nat), b ≠ R → H b = some (.lst (wds row)) → H' b = some (.lst (wds row))) : RLt R H' rs tab := by
  induction h with
  | nil => exact .nil
  | cons h n _ ih => exact .cons (i _ _ n h) n ih
theorem RLt.append {R : Addr} {H : Hp} {us vs : List Addr} {xs ys : List (List Nat)} (h : RLt R H us xs) (h' : RLt R H vs ys) : RLt R H (us ++ vs) (xs ++ ys) := by
  induction h with
  | nil => exact h'
  | cons h n _ ih => exact .cons h n ih
theorem RLt.rat {R : Addr} {H : Hp} {rs : List Addr} {tab : List (List Nat)} (h : RLt R H rs tab) : RAt H rs tab := by
  induction h with
  | nil => exact .nil
  | cons h _ _ ih => exact .cons (.inr h) ih
theorem RLt.len {R : Addr} {H : Hp} {rs : List Addr} {tab : List (List Nat)} (h : RLt R H rs tab) : rs.length = tab.length := by
  induction h with
  | nil => rfl
  | cons _ _ _ ih => rw [List.length_cons, List.length_cons, ih]
theorem wds_strs (row : List Nat) : wds row = (row.map wd).map V.str := by unfold wds; rw [List.map_map]; rfl
theorem Stay.wds {h c b : Addr} {H H' : Hp} {row : List Nat} (x : Stay h c H H') (hb : H b = some (.lst (wds row))) : H' b = some (.lst (K7.wds row)) := by
  rw [wds_strs] at hb ⊢
  exact x.row hb
def spTable : Sp := fun vs H Q _ => ∃ (h c t : Addr) (n : Nat) (hs : List Nat), vs = [.ref h, .ref t] ∧ Hand H h c ∧ H t = some (.lst (ints_ hs)) ∧ hs.length = n ∧ n ≤ 5 ∧ (∀ x ∈ hs, x ≤ 10 ^ 30) ∧ ∀ H' R rs tab, Stay h c H H' → H R = none → H' R = some (.lst (rs.map V.ref)) → RLt R H' rs tab → StTab n hs tab → Q (.ref R) H'
theorem ok_table {f fpk : Addr} {fd fdpk : FuncData} (F : Fun K "_law_table" "_law_table" s__law_table f fd)
    (Gpk : FnOk P w K mg base CX0 3 fpk fdpk ["_law_hand_here", "_law_things"] spPick) (gpk : mg "_law_pick" = some (.ref fpk)) (kpk : PySem.W.keepIn K (.ref fpk) = true) (bpk : Binds K fdpk ["_law_hand_here", "_law_things"] [])
    (m_range : mg "range" = none) (m_len : mg "len" = none) : FnOk P w K mg base CX0 4 f fd ["_law_hand_here", "_law_hands"] spTable := by
  refine F.ok sc__law_table (fun vs H Q E h => ?_) (fun cdv A outer s H vs Q E hr h => ?_)
  · obtain ⟨h, c, t, n, hs, rfl, _⟩ := h
    rfl
  · obtain ⟨h, c, t, n, hs, rfl, hh, ht, hl, n5, hm, q⟩ := h
    refine ⟨_, (pss_cons (ps_set (i := 2) sc__law_table.nd rfl (by first | exact Or.inl rfl | exact Or.inr rfl) (pe_lst pa_nil))
 (pss_cons (ps_for PassesOwn.never rfl (pi_range1 rfl m_range (pa_cons (pe_callB call_len_seq (by rfl) m_len boot_len (pa_cons (pv 1) pa_nil)) pa_nil)) (pg_name (i := 3) sc__law_table.nd rfl (by first | exact Or.inl rfl | exact Or.inr rfl))
  (pss_cons (ps_set (i := 4) sc__law_table.nd rfl (by first | exact Or.inl rfl | exact Or.inr rfl) (pe_lst pa_nil))
 (pss_cons (ps_for PassesOwn.never rfl (pi_range1 rfl m_range (pa_cons (pe_callB call_len_seq (by rfl) m_len boot_len (pa_cons (pv 1) pa_nil)) pa_nil)) (pg_name (i := 5) sc__law_table.nd rfl (by first | exact Or.inl rfl | exact Or.inr rfl))
  (pss_cons (ps_set (i := 6) sc__law_table.nd rfl (by first | exact Or.inl rfl | exact Or.inr rfl) (pe_ifExp (pt_cmpR op_eq (pe_ix ix_list (pv 1) (pv 3) (fun _ _ => rfl)) (pe_ix ix_list (pv 1) (pv 5) (fun _ _ => rfl)) (nomark _)) (pe_lst (pa_cons pe_str (pa_cons pe_str pa_nil))) (pe_lst (pa_cons pe_str (pa_cons pe_str (pa_cons pe_str pa_nil))))))
 (pss_one (ps_expr (pe_bm PySem.F.plainAttrs_list PySem.F.slot_list_append PySem.F.type_list_append mt_append (pv 4) (pa_cons (pe_ifExp (pt_cmpR op_eq (pv 3) (pv 5) (nomark _)) pe_str (pe_call Gpk (hr.mono (by decide)) (by rfl) gpk kpk bpk .nil pass0 (pa_cons (pv 0) (pa_cons (pv 6) pa_nil)))) pa_nil))))))
 (pss_one (ps_expr (pe_bm PySem.F.plainAttrs_list PySem.F.slot_list_append PySem.F.type_list_append mt_append (pv 2) (pa_cons (pv 4) pa_nil)))))))
 (pss_one (ps_ret (pv 2))))), ?_⟩
    have il : (ints_ hs).length = n := by unfold ints_; rw [List.length_map, hl]
    have hat : ∀ c, c < n → atI (ints_ hs) (0 + ((c : Nat) : Int)) = some (.int (hsAt hs c : Nat)) := fun c h => by
      rw [Int.zero_add]
      refine atI_nat ?_
      unfold ints_ hsAt
      rw [List.getElem?_map, List.getElem?_eq_getElem (by rw [hl]; exact h), List.getD_eq_getElem?_getD, List.getElem?_eq_getElem (by rw [hl]; exact h)]
      rfl
    refine ⟨by show 0 ≤ sizeLine; decide, fun R nR => ?_⟩
    have e1 := al (o := .lst []) nR
    have hR1 : upd H R (.lst []) R = some (.lst []) := upd_same
    have st1 := Stay.of_same hh e1
    generalize upd H R (.lst []) = H1 at e1 hR1 st1 ⊢
    have nth := hh.nel ht (notHand_ints _)
    refine ⟨_, rfl, t, _, rfl, .inl (.inl (.inl (e1 _ _ ht))), _, rfl, by rw [il]; omega, by rw [il]; omega, for_range (lo := 0) (n := (ints_ hs).length) (fun i σ H' => i ≤ n ∧ ∃ rs tab y3 y4 y5 y6, σ = [some (.ref h), some (.ref t), some (.ref R), y3, y4, y5, y6] ∧ Stay h c H H' ∧ H' R = some (.lst (rs.map V.ref)) ∧ RLt R H' rs tab ∧ tab.length = i ∧ ∀ (x : Nat) (row : List Nat), tab[x]? = some row → RowOk n hs x row n)
      ⟨Nat.zero_le _, [], [], none, none, none, none, rfl, st1, hR1, .nil, rfl, fun x row h => nomatch h⟩ (fun i σ H' hi pv => ?_) (fun σ H' pv => ?_)⟩
    · obtain ⟨_, rs, tab, y3, y4, y5, y6, rfl, st, hR, tR, tl, ok⟩ := pv
      rw [il] at hi
      refine ⟨by show 0 ≤ sizeLine; decide, fun W nW => ?_⟩
      have nW0 := st.free nW
      have nWR : W ≠ R := fun e => by rw [e, hR] at nW; cases nW
      have st2 := st.same (al (o := .lst []) nW)
      have hW2 : upd H' W (.lst []) W = some (.lst (wds [])) := upd_same
      have hR2 := al (o := .lst []) nW _ _ hR
      have tR2 := tR.mono (H' := upd H' W (.lst [])) fun b row nb hb => al (o := .lst []) nW _ _ hb
      have nrW : ∀ r ∈ rs, r ≠ W := by
        have : ∀ {rs : List Addr} {tab : List (List Nat)}, RLt R H' rs tab → ∀ r ∈ rs, r ≠ W := fun {rs tab} t => by
          induction t with
          | nil => exact fun r hr => nomatch hr
          | cons h _ _ ih =>
            intro r hr
            rcases List.mem_cons.mp hr with rfl | hr
            · exact ne_of_none h nW
            · exact ih r hr
        exact this tR
      generalize upd H' W (.lst []) = H2 at st2 hW2 hR2 tR2 ⊢
      refine ⟨_, rfl, t, _, rfl, .inl (.inl (.inl (st2.lst ht (notHand_ints _)))), _, rfl, by rw [il]; omega, by rw [il]; omega, for_range (lo := 0) (n := (ints_ hs).length) (fun j σ H3 => j ≤ n ∧ ∃ row y5 y6, σ = [some (.ref h), some (.ref t), some (.ref R), some (.int (0 + (i : Nat))), some (.ref W), y5, y6] ∧ Stay h c H H3 ∧ H3 R = some (.lst (rs.map V.ref)) ∧ RLt R H3 rs tab ∧ H3 W = some (.lst (wds row)) ∧ RowOk n hs i row j)
        ⟨Nat.zero_le _, [], y5, y6, rfl, st2, hR2, tR2, hW2, ⟨rfl, fun y hy => absurd hy (Nat.not_lt_zero _)⟩⟩ (fun j σ H3 hj pv => ?_) (fun σ H3 pv => ?_)⟩
      · obtain ⟨_, row, y5, y6, rfl, st3, hR3, tR3, hW3, ro⟩ := pv
        rw [il] at hj
        have ht3 := st3.lst ht (notHand_ints _)
        have wl : (wds row).length ≤ 1000 := by unfold wds; rw [List.length_map, ro.len]; omega
        have fin : ∀ (H5 : Hp) (u6 : Option V) (k : Nat), Stay h c H H5 → H5 R = some (.lst (rs.map V.ref)) → RLt R H5 rs tab → H5 W = some (.lst (wds row)) → ((j = i → k = 0) ∧ (j ≠ i → hsAt hs i = hsAt hs j → k = 0 ∨ 3 ≤ k) ∧ (j ≠ i → hsAt hs i ≠ hsAt hs j → k < 3)) →
            (j + 1 ≤ n ∧ ∃ row' y5 y6, [some (V.ref h), some (.ref t), some (.ref R), some (.int (0 + (i : Nat))), some (.ref W), some (.int (0 + (j : Nat))), u6] = [some (.ref h), some (.ref t), some (.ref R), some (.int (0 + (i : Nat))), some (.ref W), y5, y6] ∧ Stay h c H (upd H5 W (.lst (wds row ++ [.str (wd k)]))) ∧ upd H5 W (.lst (wds row ++ [.str (wd k)])) R = some (.lst (rs.map V.ref)) ∧ RLt R (upd H5 W (.lst (wds row ++ [.str (wd k)]))) rs tab ∧ upd H5 W (.lst (wds row ++ [.str (wd k)])) W = some (.lst (wds row')) ∧ RowOk n hs i row' (j + 1)) := fun H5 u6 k st5 hR5 tR5 hW5 hk => by
          refine ⟨hj, row ++ [k], _, _, rfl, st5.put nW0, by rw [upd_ne nWR.symm]; exact hR5, ?_, by rw [upd_same, wds_snoc], ro.snoc hk⟩
          have : ∀ {rs : List Addr} {tab : List (List Nat)}, (∀ r ∈ rs, r ≠ W) → RLt R H5 rs tab → RLt R (upd H5 W (.lst (wds row ++ [.str (wd k)]))) rs tab := fun {rs tab} hn t => by
            induction t with
            | nil => exact .nil
            | cons h n _ ih => exact .cons (by rw [upd_ne (hn _ (List.mem_cons_self ..))]; exact h) n (ih fun r hr => hn r (List.mem_cons_of_mem _ hr))
          exact this nrW tR5
        have dv : decide (V.int (hsAt hs i : Nat) = V.int (hsAt hs j : Nat)) = decide (hsAt hs i = hsAt hs j) := decide_eq_decide.mpr ⟨fun h => by injection h with h; omega, fun h => by rw [h]⟩
        have dij : decide (V.int (0 + (i : Nat)) = V.int (0 + (j : Nat))) = decide (i = j) := decide_eq_decide.mpr ⟨fun h => by injection h with h; omega, fun h => by rw [h]⟩
        refine ⟨_, rfl, _, rfl, t, _, _, _, rfl, rfl, .inl (.inl ht3), hat i hi, _, rfl, _, rfl, t, _, _, _, rfl, rfl, .inl (.inl ht3), hat j hj, rfl, _, rfl, ?_⟩
        rw [dv]
        by_cases he : hsAt hs i = hsAt hs j
        · rw [decide_eq_true he]
          refine iteT ⟨by show 2 ≤ sizeLine; decide, fun u nu => ?_⟩
          have e4 := al (o := .lst [.str "none", .str "asleep"]) nu
          have st4 := st3.same e4
          refine ⟨_, rfl, .inl ⟨rfl, _, .inl (.inl (e4 _ _ hW3))⟩, _, rfl, _, rfl, rfl, _, rfl, ?_⟩
          rw [dij]
          by_cases eij : i = j
          · rw [decide_eq_true eij]
            refine iteT ⟨W, _, _, rfl, rfl, e4 _ _ hW3, small1000 wl, ?_⟩
            exact fin _ _ 0 st4 (e4 _ _ hR3) (tR3.mono fun b row nb hb => e4 _ _ hb) (e4 _ _ hW3) ⟨fun _ => rfl, fun _ _ => .inl rfl, fun _ _ => by decide⟩
          · rw [decide_eq_false eij]
            refine iteF ⟨_, rfl, _, rfl, h, c, u, _, rfl, st4.hand, (st3.hand.ne nu).1, upd_same, by decide, by decide, fun H5 jj v d5 hv => ?_⟩
            have st5 := Stay.of_drawn st4.hand d5
            have hW5 := st5.wds (e4 _ _ hW3)
            obtain ⟨k, rfl, hk⟩ : ∃ k, v = .str (wd k) ∧ (k = 0 ∨ 3 ≤ k) := by
              have mm := List.mem_of_getElem? hv
              simp only [List.mem_cons, List.not_mem_nil, or_false] at mm
              rcases mm with rfl | rfl
              · exact ⟨0, rfl, .inl rfl⟩
              · exact ⟨3, rfl, .inr (by decide)⟩
            refine ⟨W, _, _, rfl, rfl, hW5, small1000 wl, ?_⟩
            exact fin _ _ k (st4.trans st5) (st5.lst (e4 _ _ hR3) (notHand_refs _)) ((tR3.mono fun b row nb hb => e4 _ _ hb).mono fun b row nb hb => st5.wds hb) hW5 ⟨fun e => absurd e.symm eij, fun _ _ => hk, fun _ d => absurd he d⟩
        · rw [decide_eq_false he]
          refine iteF ⟨by show 3 ≤ sizeLine; decide, fun u nu => ?_⟩
          have e4 := al (o := .lst [.str "awake", .str "none", .str "needed"]) nu
          have st4 := st3.same e4
          refine ⟨_, rfl, .inl ⟨rfl, _, .inl (.inl (e4 _ _ hW3))⟩, _, rfl, _, rfl, rfl, _, rfl, ?_⟩
          rw [dij]
          by_cases eij : i = j
          · rw [decide_eq_true eij]
            refine iteT ⟨W, _, _, rfl, rfl, e4 _ _ hW3, small1000 wl, ?_⟩
            exact fin _ _ 0 st4 (e4 _ _ hR3) (tR3.mono fun b row nb hb => e4 _ _ hb) (e4 _ _ hW3) ⟨fun _ => rfl, fun _ _ => .inl rfl, fun _ _ => by decide⟩
          · rw [decide_eq_false eij]
            refine iteF ⟨_, rfl, _, rfl, h, c, u, _, rfl, st4.hand, (st3.hand.ne nu).1, upd_same, by decide, by decide, fun H5 jj v d5 hv => ?_⟩
            have st5 := Stay.of_drawn st4.hand d5
            have hW5 := st5.wds (e4 _ _ hW3)
            obtain ⟨k, rfl, hk⟩ : ∃ k, v = .str (wd k) ∧ k < 3 := by
              have mm := List.mem_of_getElem? hv
              simp only [List.mem_cons, List.not_mem_nil, or_false] at mm
              rcases mm with rfl | rfl | rfl
              · exact ⟨1, rfl, by decide⟩
              · exact ⟨0, rfl, by decide⟩
              · exact ⟨2, rfl, by decide⟩
            refine ⟨W, _, _, rfl, rfl, hW5, small1000 wl, ?_⟩
            exact fin _ _ k (st4.trans st5) (st5.lst (e4 _ _ hR3) (notHand_refs _)) ((tR3.mono fun b row nb hb => e4 _ _ hb).mono fun b row nb hb => st5.wds hb) hW5 ⟨fun e => absurd e.symm eij, fun _ e => absurd e he, fun _ _ => hk⟩
      · obtain ⟨_, row, y5, y6, rfl, st3, hR3, tR3, hW3, ro⟩ := pv
        rw [il] at ro
        refine ⟨_, rfl, .inl ⟨rfl, _, .inl (.inl hR3)⟩, _, rfl, R, _, _, rfl, rfl, hR3, by rw [List.length_map, tR3.len, tl]; exact small1000 (by omega), ?_⟩
        refine ⟨hi, rs ++ [W], tab ++ [row], _, _, _, _, rfl, st3.put nR, by rw [upd_same, List.map_append]; rfl, ?_, by rw [List.length_append, tl]; rfl, fun x row' hx => ?_⟩
        · exact (tR3.mono fun b row nb hb => by rw [upd_ne nb]; exact hb).append (.cons (by rw [upd_ne nWR]; exact hW3) nWR .nil)
        · by_cases e : x < tab.length
          · rw [List.getElem?_append_left e] at hx
            exact ok x row' hx
          · rw [List.getElem?_append_right (by omega)] at hx
            have xe : x = i := by
              have := (List.getElem?_eq_some_iff.mp hx).1
              rw [List.length_singleton] at this
              omega
            subst xe
            rw [tl, Nat.sub_self] at hx
            obtain rfl := Option.some.inj hx
            exact ro
    · obtain ⟨_, rs, tab, y3, y4, y5, y6, rfl, st, hR, tR, tl, ok⟩ := pv
      rw [il] at tl
      exact ⟨_, rfl, q H' R rs tab st nR hR tR (rows_tab hl hm tl ok)⟩
end
end K7
end
/-! ## P21 -/
section
open PySem PySem.Spec PyProof.Rows L2
namespace K7
abbrev N__law_any_state : List Str := ["_law_hand_here", "_law_n", "_law_names", "_law_hands", "_law_k"]
abbrev s__law_any_state : Stmt := topS 40
theorem sc__law_any_state : FnScope ["_law_hand_here", "_law_n", "_law_names", "_law_hands", "_law_k"] ["_law_hand_here", "_law_n"] (defScope s__law_any_state) := ⟨rfl, rfl, rfl, by decide +kernel, rfl, by decide +kernel, by decide +kernel⟩
theorem cut_pre {xs : List V} {k : Nat} (h : 2 ≤ k) (h2 : 2 ≤ xs.length) : 0 < (cutV xs none (some ((k : Nat) : Int))).length ∧ (cutV xs none (some ((k : Nat) : Int))).length ≤ xs.length ∧ ∀ z ∈ cutV xs none (some ((k : Nat) : Int)), z ∈ xs := by
  unfold cutV
  rw [HT.sIx_nat, HT.sIx_none]
  refine ⟨?_, ?_, fun z hz => List.mem_of_mem_drop (List.mem_of_mem_take hz)⟩
  · rw [List.length_take, List.length_drop]
    omega
  · rw [List.length_take, List.length_drop]
    omega
section
variable {P : Program} {w : World} {K : PySem.W.Frag} {mg : Str → Option Value} {base : Heap} {a : AdL}
def spAnyS : Sp := fun vs H Q _ => ∃ (h c : Addr) (n : Nat), vs = [.ref h, .int (n : Nat)] ∧ Hand H h c ∧ 2 ≤ n ∧ n ≤ 5 ∧ ∀ H' u th tt (hs : List Nat) rs tab, Stay h c H H' → H u = none → H' u = some (.tup [.ref th, .ref tt]) → H' th = some (.lst (ints_ hs)) → H' tt = some (.lst (rs.map V.ref)) → RLt tt H' rs tab → StTab n hs tab → Q (.ref u) H'
theorem ok_anys {f ffa fpk ftb fdr : Addr} {fd fdfa fdpk fdtb fddr : FuncData} (F : Fun K "_law_any_state" "_law_any_state" s__law_any_state f fd)
    (Gfa : FnOk P w K mg base CX0 3 ffa fdfa ["_law_hand_here"] spFar) (gfa : mg "_law_far" = some (.ref ffa)) (kfa : PySem.W.keepIn K (.ref ffa) = true) (bfa : Binds K fdfa ["_law_hand_here"] [])
    (Gpk : FnOk P w K mg base CX0 3 fpk fdpk ["_law_hand_here", "_law_things"] spPick) (gpk : mg "_law_pick" = some (.ref fpk)) (kpk : PySem.W.keepIn K (.ref fpk) = true) (bpk : Binds K fdpk ["_law_hand_here", "_law_things"] [])
    (Gtb : FnOk P w K mg base CX0 4 ftb fdtb ["_law_hand_here", "_law_hands"] spTable) (gtb : mg "_law_table" = some (.ref ftb)) (ktb : PySem.W.keepIn K (.ref ftb) = true) (btb : Binds K fdtb ["_law_hand_here", "_law_hands"] [])
    (Gdr : FnOk P w K mg base CX0 2 fdr fddr ["_law_hand_here", "_law_many"] spDraw) (gdr : mg "_law_draw" = some (.ref fdr)) (kdr : PySem.W.keepIn K (.ref fdr) = true) (bdr : Binds K fddr ["_law_hand_here", "_law_many"] [])
    (m_range : mg "range" = none) : FnOk P w K mg base CX0 5 f fd ["_law_hand_here", "_law_n"] spAnyS := by
  refine F.ok sc__law_any_state (fun vs H Q E h => ?_) (fun cdv A outer s H vs Q E hr h => ?_)
  · obtain ⟨h, c, n, rfl, _⟩ := h
    rfl
  · obtain ⟨h, c, n, rfl, hh, n2, n5, q⟩ := h
    refine ⟨_, (pss_cons (ps_set (i := 2) sc__law_any_state.nd rfl (by first | exact Or.inl rfl | exact Or.inr rfl) (pe_slice sl_list (pe_call Gfa (hr.mono (by decide)) (by rfl) gfa kfa bfa .nil pass0 (pa_cons (pv 0) pa_nil)) po_none (po_some (pe_op op_add pe_int (pe_call Gdr (hr.mono (by decide)) (by rfl) gdr kdr bdr .nil pass0 (pa_cons (pv 0) (pa_cons pe_int pa_nil)))))))
 (pss_cons (ps_setLc (i := 3) (own := [("_law_k", 4)]) (g := gName 4) (tt := tYes) rfl sc__law_any_state.nd rfl rfl (sw_true rfl rfl rfl (by decide +kernel)) (pi_range1 rfl m_range (pa_cons (pv 1) pa_nil)) (blkOk_by (own := [("_law_k", 4)]) (N := N__law_any_state) (sc := defScope s__law_any_state) (by decide +kernel)) (fun _ _ _ _ _ => (pg_name (i := 4) sc__law_any_state.nd rfl (by first | exact Or.inl rfl | exact Or.inr rfl))) (fun _ _ _ _ _ => pts_nil) (fun _ _ _ _ _ => (pe_call Gpk (hr.mono (by decide)) (by rfl) gpk kpk bpk .nil pass0 (pa_cons (pv 0) (pa_cons (pv 2) pa_nil)))))
 (pss_one (ps_ret (pe_tup (pa_cons (pv 3) (pa_cons (pe_call Gtb (hr.mono (by decide)) (by rfl) gtb ktb btb .nil pass0 (pa_cons (pv 0) (pa_cons (pv 3) pa_nil))) pa_nil))))))), ?_⟩
    refine ⟨_, rfl, h, c, rfl, hh, fun H1 r far st1 nr hr1 fl fm => ?_⟩
    refine ⟨_, rfl, h, c, 4, rfl, st1.hand, by decide, by decide, fun H2 d d2 d0 d1 => ⟨_, _, rfl, rfl, ?_⟩⟩
    obtain ⟨m, rfl⟩ : ∃ m : Nat, d = (m : Nat) := ⟨d.toNat, by omega⟩
    have st2 := st1.drawn d2
    have hr2 := (Stay.of_drawn st1.hand d2).lst hr1 (notHand_ints _)
    refine ⟨_, rfl, r, _, rfl, .inl (.inl hr2), fun N nN => ?_⟩
    have il : (ints_ far).length = 5 := by unfold ints_; rw [List.length_map, fl]
    obtain ⟨c1, c2, c3⟩ := cut_pre (xs := ints_ far) (k := m + 2) (by omega) (by omega)
    have ek : (some ((fun i j : Int => i + j) 2 (m : Nat)) : Option Int) = some (((m + 2 : Nat)) : Int) := by
      show some ((2 : Int) + (m : Nat)) = _
      congr 1
      omega
    have nm : ∀ z ∈ cutV (ints_ far) none (some ((m + 2 : Nat) : Int)), ∃ x : Nat, z = .int (x : Nat) ∧ x ≤ 10 ^ 30 := fun z hz => by
      obtain ⟨x, hx, rfl⟩ := List.mem_map.mp (c3 z hz)
      exact ⟨x, rfl, fm x hx⟩
    have e2 : (2 : Int) + ((m : Nat) : Int) = ((m + 2 : Nat) : Int) := by omega
    show _
    rw [show cutV (ints_ far) none (some (2 + ((m : Nat) : Int))) = cutV (ints_ far) none (some ((m + 2 : Nat) : Int)) from by rw [e2]]
    have nNh := (st2.hand.ne nN).1
    have st3 := st2.same (al (o := .lst (cutV (ints_ far) none (some ((m + 2 : Nat) : Int)))) nN)
    have hN3 : upd H2 N (.lst (cutV (ints_ far) none (some ((m + 2 : Nat) : Int)))) N = some (.lst (cutV (ints_ far) none (some ((m + 2 : Nat) : Int)))) := upd_same
    generalize cutV (ints_ far) none (some ((m + 2 : Nat) : Int)) = nms at c1 c2 nm hN3 st3 ⊢
    generalize upd H2 N (.lst nms) = H3 at st3 hN3 ⊢
    -- the hands
    refine ⟨_, rfl, _, rfl, by omega, by omega, fun D hD => lc_range (lo := 0) (n := n) (fun i H4 => ∃ hs : List Nat, Stay h c H H4 ∧ H4 N = some (.lst nms) ∧ H4 D = some (.lst (ints_ hs)) ∧ hs.length = i ∧ (∀ x ∈ hs, x ≤ 10 ^ 30) ∧ H D = none ∧ D ≠ N) ⟨[], st3.same (al hD), al hD _ _ hN3, upd_same, rfl, (fun x h => nomatch h), st3.free hD, fun e => by rw [e, hN3] at hD; cases hD⟩ (fun i H4 hi pv => ?_) (fun H4 pv => ?_)⟩
    · obtain ⟨hs, st4, hN4, hD4, hl, hm, nD0, nDN⟩ := pv
      refine ⟨rfl, _, rfl, _, rfl, h, c, N, nms, rfl, st4.hand, nNh, hN4, c1, by omega, fun H5 j v d5 hv => ?_⟩
      have st5 := Stay.of_drawn st4.hand d5
      obtain ⟨x, rfl, hx⟩ := nm v (List.mem_of_getElem? hv)
      have hD5 := st5.lst hD4 (notHand_ints _)
      refine ⟨_, hD5, by unfold ints_; rw [List.length_map]; exact small1000 (by omega), hs ++ [x], (st4.trans st5).put nD0, by rw [upd_ne nDN.symm]; exact st5.but N _ nNh hN4, by rw [upd_same, ints_snoc], by rw [List.length_append, hl]; rfl, fun y hy => ?_, nD0, nDN⟩
      rcases List.mem_append.mp hy with hy | hy
      · exact hm y hy
      · rw [List.mem_singleton.mp hy]
        exact hx
    · obtain ⟨hs, st4, hN4, hD4, hl, hm, nD0, nDN⟩ := pv
      refine ⟨_, rfl, _, rfl, _, rfl, h, c, D, n, hs, rfl, st4.hand, hD4, hl, n5, hm, fun H5 R rs tab st5 nR hR tR Sx => ?_⟩
      refine ⟨by show 2 ≤ sizeLine; decide, fun u nu => ?_⟩
      have st6 := st4.trans st5
      have hD5 := st5.lst hD4 (notHand_ints _)
      have e7 := al (o := .tup [.ref D, .ref R]) nu
      exact q _ u D R hs rs tab (st6.same e7) (st6.free nu) upd_same (e7 _ _ hD5) (e7 _ _ hR) (tR.mono fun b row nb hb => e7 _ _ hb) Sx
end
end K7
end
/-! ## EN -/
section
/-! x == y, x != y by x's own __eq__, x an instance of an own class without a __ne__. -/
namespace K7E
open PySem PySem.Spec PyProof.Rows L2
theorem slot_obj_ne : Slot "object" "__ne__" "object.__ne__" := .of (owner := "object") (n := "__ne__") (by rw [typeLookup_type, builtinLookup_eq_fast]; kernel_rfl) (by decide +kernel) (by decide +kernel) (by decide +kernel) (.inl (by decide +kernel)) (by rw [isSubtype_type]; kernel_rfl)
section
variable {prog : Program} {w : World} {A : Around} {E : Value → Shared → Prop} {s : Shared} {K : PySem.W.Frag} {x C L f : Addr} {h₀ : Heap} {m : Str → Option Value} {ox : Obj} {od : Option Obj} {b tb : Value}
open PySem.W in
theorem ne_K {Q : Value → Shared → Prop} (hu : A.units + 1 < cLine) (FF : Fr h₀ L s.heap m) (X₀ : K.In h₀) (I : InstAt s.heap x ox C od) (hb : Looks (model prog w) s.heap (typeOf b) tb) (hn : notFirst K C tb = true) (hm : mroIn K C (.type "object") = some true)
    (hs : findIn K (.ref C) "__ne__" = some (some (.builtin "object.__ne__"))) (he : findIn K (.ref C) "__eq__" = some (some (.ref f))) (hf : isFn K (.ref f) = true)
    (h : wpAny (model prog w) A.in1 (call (.ref f) [.ref x, b]) (fun v s' => ∃ c, v = .bool c ∧ Q (.bool (!c)) s') E s) : wpAny (model prog w) A (richCompare .NotEq (.ref x) b) Q E s := by
  have X := X₀.keeps FF.keep
  have inner : wpAny (model prog w) A.in1 (Builtin.«object.__ne__» ⟨[.ref x, b], []⟩) (fun fin s' => ∃ c, fin = .done (.ret (.bool (!c))) ∧ Q (.bool (!c)) s') E s := by
    unfold Builtin.«object.__ne__»
    repeat (first
      | with_reducible refine wpAny_cRoomFor (show A.in1.units < cLine from hu) ?_
      | (refine wpAny_bind (m := callSpecialIfBound? (.ref x) (Str.ofString "__eq__") [b]) (ifBound_K X I he hf (wpAny_mono h (fun r s' hr => by
          obtain ⟨c, rfl, hq⟩ := hr
          repeat (first | exact ⟨c, rfl, hq⟩ | exact wpAny_pure ⟨c, rfl, hq⟩ | exact wpAny_truthy_bool ⟨c, rfl, hq⟩ | (refine wpAny_bind (m := truthy (.bool _)) (wpAny_truthy_bool ?_)) | wp_step)) fun _ _ e => e)))
      | wp_step)
  have mid : wpAny (model prog w) A (callSpecialIfBound? (.ref x) "__ne__" [b]) (fun r s' => ∃ c, r = some (.bool (!c)) ∧ Q (.bool (!c)) s') E s := by
    simp only [callSpecialIfBound?, bindSpecialIfBound?]
    refine wpAny_holding (wpAny_bind (wpAny_bind (wpAny_bind (I.type.here ((looks_findIn X hs).here ?_)))))
    simp only [slot_obj_ne.bind]
    refine wpAny_bind (wpAny_askSetting (wpAny_ite ?_))
    have fin : wpAny (model prog w) A (call (.builtin "object.__ne__") ([.ref x] ++ [b]) >>= fun v => pure (some v)) (fun r s' => ∃ c, r = some (.bool (!c)) ∧ Q (.bool (!c)) s') E s := by
      refine wpAny_bind (wpAny_call (codeAny_call_builtin slot_obj_ne.plain F.cmpEntry_ne (check_slot F.cmpKind_ne F.cmpSplit_ne (I.type.andThen (looks_mroIn X hm)) (F.cmpArgs_ne _ _) (wpAny_mono inner (fun fin s' z => ?_) fun _ _ e => e))))
      obtain ⟨c, rfl, hq⟩ := z
      exact wpAny_pure ⟨c, rfl, hq⟩
    split
    · exact wpAny_bind (wpAny_pure (wpAny_pure fin))
    · exact wpAny_tryCatch (wpAny_bind (wpAny_pure (wpAny_pure fin)))
  have one : wpAny (model prog w) A (tryCompare (.ref x) "__ne__" b) (fun r s' => ∃ c, r = some (.bool (!c)) ∧ Q (.bool (!c)) s') E s := by
    simp only [tryCompare]
    refine wpAny_bind (wpAny_mono mid (fun r s' ⟨c, er, hq⟩ => ?_) fun _ _ e => e)
    rw [er]
    exact wpAny_pure ⟨c, rfl, hq⟩
  unfold richCompare
  simp only [oneThing_ref]
  refine wpAny_holding (wpAny_bind (wpAny_cRoomFor (Nat.lt_of_succ_lt hu) (wpAny_bind (I.type.here (wpAny_bind (hb.here ?_))))))
  rw [cmpInfo_NotEq]
  dsimp only
  have last : wpAny (model prog w) A (tryCompare (.ref x) "__ne__" b) (fun r s' => ∃ c, r = some (.bool (!c)) ∧ Q (.bool (!c)) s') E s := one
  split
  · rename_i q
    have e : subIn K tb (.ref C) = some false := by
      rcases Bool.or_eq_true_iff.mp hn with e | e
      · rw [beq_iff_eq.mp e] at q; simp at q
      · exact beq_iff_eq.mp e
    refine wpAny_bind ((looks_subIn X e).here ?_)
    simp only [Bool.false_eq_true, if_false]
    refine wpAny_bind (wpAny_mono last (fun r s' ⟨c, er, hq⟩ => ?_) fun _ _ e => e)
    rw [er]
    exact wpAny_pure hq
  · refine wpAny_bind (wpAny_pure ?_)
    simp only [Bool.false_eq_true, if_false]
    refine wpAny_bind (wpAny_mono last (fun r s' ⟨c, er, hq⟩ => ?_) fun _ _ e => e)
    rw [er]
    exact wpAny_pure hq
end
/-! ### x == y by x's own __eq__ -/
def rEqO (K : PySem.W.Frag) (C : Addr) (sp : Sp) (E : XK) : R2 := fun x y H Q => ∃ (a dx : Addr) (fs : List (Str × V)) (b : Addr) (t : Value), x = .ref a ∧ y = .ref b ∧ H a = some (.ins C dx fs) ∧ TyX K H y t ∧ PySem.W.notFirst K C t = true ∧ sp [x, y] H Q E
section
variable {X : Cx}
theorem op_eqOwn {CX : CXT} {C g : Addr} {fd : FuncData} {ps : List Str} {sp : Sp} {E : XK} {n : Nat} (F : FnOk X.prog X.w X.K X.mg X.base CX n g fd ps sp) (hs : PySem.W.findIn X.K (.ref C) "__eq__" = some (some (.ref g))) (hf : PySem.W.isFn X.K (.ref g) = true) (hb : Binds X.K fd ps [])
    (hr : Room n X.A) (hx : Passes CX X E) : OpR X (compareOp .Eq) (rEqO X.K C sp E) := by
  intro pins s σ H x y v u Q I rx ry h
  obtain ⟨a, dx, fs, b, t, rfl, rfl, ha, ty, hn, q⟩ := h
  cases (show v = Value.ref a from rx)
  cases (show u = Value.ref b from ry)
  obtain ⟨mA, J, _⟩ := ins_get I.hok ha
  obtain ⟨od, J, _⟩ := J.look
  obtain ⟨P, Z, hp, hne⟩ := kit_of I (show RelV (.ref b) (Value.ref b) from rfl) ty
  obtain ⟨m, hF⟩ := I.fr
  have hl := F.len _ _ _ _ q
  have r2 : Vals [V.ref a, V.ref b] [Value.ref a, Value.ref b] := .cons rfl (.cons rfl .nil)
  refine PySem.W.cmp_K (op := .Eq) (tb := t) hr.units0 hF I.ok.mod.kin J (Z.ty _ _ I.kIn hp) hn hs hf ?_
  refine wpAny_mono (wpAny_call (run_fnR (us := [.ref a, .ref b]) (vs := [.ref a, .ref b]) (F.raw hb .nil) hr hx I r2 q)) (fun w s' z => ?_) fun _ _ x => x
  obtain ⟨z', H', I', rz, qz⟩ := z
  exact SlX.cmpback rz ⟨z', H', I', rz, qz⟩
/-- x != y -/
theorem op_neOwn {CX : CXT} {C g : Addr} {fd : FuncData} {ps : List Str} {sp : Sp} {E : XK} {n : Nat} (F : FnOk X.prog X.w X.K X.mg X.base CX n g fd ps sp) (hs : PySem.W.findIn X.K (.ref C) "__ne__" = some (some (.builtin "object.__ne__"))) (hm : PySem.W.mroIn X.K C (.type "object") = some true)
    (he : PySem.W.findIn X.K (.ref C) "__eq__" = some (some (.ref g))) (hf : PySem.W.isFn X.K (.ref g) = true) (hb : Binds X.K fd ps []) (hr : Room (n + 1) X.A) (hx : Passes CX X E) : OpR X (compareOp .NotEq) (fun x y H Q => ∃ (a dx : Addr) (fs : List (Str × V)) (b : Addr) (t : Value), x = .ref a ∧ y = .ref b ∧ H a = some (.ins C dx fs) ∧ TyX X.K H y t ∧ PySem.W.notFirst X.K C t = true ∧ sp [x, y] H (fun z H' => ∃ c, z = .bl c ∧ Q (.bl (!c)) H') E) := by
  intro pins s τ H x y v u Q I rx ry h
  obtain ⟨a, dx, fs, b, t, rfl, rfl, ha, ty, hn, q⟩ := h
  cases (show v = Value.ref a from rx)
  cases (show u = Value.ref b from ry)
  obtain ⟨mA, J, _⟩ := ins_get I.hok ha
  obtain ⟨od, J, _⟩ := J.look
  obtain ⟨P, Z, hp, hne⟩ := kit_of I (show RelV (.ref b) (Value.ref b) from rfl) ty
  obtain ⟨m, hF⟩ := I.fr
  have hl := F.len _ _ _ _ q
  have r2 : Vals [V.ref a, V.ref b] [Value.ref a, Value.ref b] := .cons rfl (.cons rfl .nil)
  have hu : X.A.units + 1 < cLine := by have := hr.un; omega
  refine ne_K (tb := t) hu hF I.ok.mod.kin J (Z.ty _ _ I.kIn hp) hn hm hs he hf ?_
  refine wpAny_call (codeAny_mono (F.run X.A.in1 X.stack s H ⟨[.ref a, .ref b], []⟩ [.ref a, .ref b] [.ref a, .ref b] _ E hr.in1 I.env0.in1 (hb s [.ref a, .ref b] I.kIn hl) r2 q) fun r s' hq => ?_)
  cases r with
  | error e => exact hx pins τ H s e s' I hq
  | ok fl =>
    cases fl with
    | ret u =>
      obtain ⟨z', H', I', rz, c, ez, qz⟩ := I.after hq
      subst ez
      cases (show u = Value.bool c from rz)
      exact ⟨c, rfl, .bl (!c), H', I', rfl, qz⟩
    | next => exact False.elim hq
    | brk => exact False.elim hq
    | cont => exact False.elim hq
end
end K7E
end
/-! ## P22 -/
section
open PySem PySem.Spec PyProof.Rows L2
namespace K7
abbrev N__law_rows : List Str := ["_law_table_here", "_law_row"]
abbrev s__law_rows : Stmt := topS 42
theorem sc__law_rows : FnScope ["_law_table_here", "_law_row"] ["_law_table_here"] (defScope s__law_rows) := ⟨rfl, rfl, rfl, by decide +kernel, rfl, by decide +kernel, by decide +kernel⟩
abbrev N__law_land_of : List Str := ["_law_land_here"]
abbrev s__law_land_of : Stmt := topS 41
theorem sc__law_land_of : FnScope ["_law_land_here"] ["_law_land_here"] (defScope s__law_land_of) := ⟨rfl, rfl, rfl, by decide +kernel, rfl, by decide +kernel, by decide +kernel⟩
abbrev N__law_size : List Str := ["_law_hand_here"]
abbrev s__law_size : Stmt := topS 37
theorem sc__law_size : FnScope ["_law_hand_here"] ["_law_hand_here"] (defScope s__law_size) := ⟨rfl, rfl, rfl, by decide +kernel, rfl, by decide +kernel, by decide +kernel⟩
section
variable {a : AdL}
theorem new_land {H1 : Hp} {Q : VK} {E : XK} {n : Nat} {an : Addr} {ts : List Addr} {cs : List (Nat × Nat)} {ar : Addr} {lot : List Nat} (n2 : 2 ≤ n) (n5 : n ≤ 5) (han : SqOf H1 an (ts.map V.ref)) (hT : CoAll H1 ts cs) (hc : Cos n cs) (cn : KL.Conn n cs) (har : SqOf H1 ar (ints_ lot)) (llt : ∀ c ∈ lot, c < n) (lnd : lot.Nodup) (l0 : 0 < lot.length) (ln : lot.length < n)
    (q : ∀ H' x es rd, Same H1 H' → H1 x = none → LandO a.C H' x n es rd → es.Perm (cs.map KL.srt) → rd.Perm lot → Q (.ref x) H') :
    ∀ x dx, H1 x = none → H1 dx = none → dx ≠ x → spLandI a (.ref x :: ([.int (n : Nat), .ref an, .ref ar] ++ [])) (upd (upd H1 dx (.own x)) x (.ins a.C dx [])) (fun v H2 => v = .non ∧ Q (.ref x) H2) E := by
  intro x dx hx hdx hne
  have e : Same H1 (upd (upd H1 dx (.own x)) x (.ins a.C dx [])) := same_new (same_new (Same.refl H1) hdx) (by rw [upd_ne hne.symm]; exact hx)
  refine ⟨x, dx, n, an, ts, cs, ar, lot, rfl, upd_same, n2, n5, han.same e, hT.same e, hc, cn, har.same e, llt, lnd, l0, ln, fun H' es rd b L pe pr => ⟨rfl, q H' x es rd (fun z o hz => ?_) hx L pe pr⟩⟩
  exact b z o (ne_of_none hz hx) (e _ _ hz)
theorem es_is {n : Nat} {es cs : List (Nat × Nat)} (ok : LandOk n es) (p : es.Perm cs) (hs : cs.Pairwise KL.lexLe) : es = cs := KL.uniq KL.lex_anti p (ok.sorted.imp fun h => h) hs
theorem rd_is {rd lot : List Nat} (hr : rd.Pairwise (· ≤ ·)) (p : rd.Perm lot) (hs : lot.Pairwise (· ≤ ·)) : rd = lot := KL.uniq (fun a b (h1 : a ≤ b) (h2 : b ≤ a) => Nat.le_antisymm h1 h2) p hr hs
end
theorem co_lit {H : Hp} {ts : List Addr} {cs : List (Nat × Nat)} (h : TAt H ts (pairs cs)) : CoAll H ts cs := by
  refine ⟨by rw [h.len]; unfold pairs; rw [List.length_map], fun i t c ht hc => ?_⟩
  obtain ⟨l, el, hl⟩ := h.get ht
  unfold pairs at el
  rw [List.getElem?_map, hc] at el
  obtain rfl := Option.some.inj el
  exact .inl hl
theorem lot_lt {n : Nat} (hn : n ≤ 5) {lot : List Nat} (h : lot ∈ lotsTo (List.range n) n) : (∀ c ∈ lot, c < n) ∧ lot.Pairwise (· < ·) := by
  have all : ∀ n : Fin 6, (lotsTo (List.range n.val) n.val).all (fun l => l.all (fun c => decide (c < n.val)) && decide (l.Pairwise (· < ·))) = true := by decide +kernel
  have z := List.all_eq_true.mp (all ⟨n, by omega⟩) lot h
  obtain ⟨z1, z2⟩ := Bool.and_eq_true_iff.mp z
  exact ⟨fun c hc => of_decide_eq_true (List.all_eq_true.mp z1 c hc), of_decide_eq_true z2⟩
theorem srt_map {n : Nat} {es : List (Nat × Nat)} (ok : LandOk n es) : es.map KL.srt = es := by
  refine (List.map_congr_left fun e he => ?_).trans (List.map_id es)
  exact KL.srt_of (ok.lt e he).1
theorem cos_es {n : Nat} {es : List (Nat × Nat)} (ok : LandOk n es) (hn : n ≤ 5) : Cos n es := by
  refine ⟨fun c hc => ?_, by rw [srt_map ok]; exact ok.nd, es_len ok hn⟩
  obtain ⟨l1, l2⟩ := ok.lt c hc
  exact ⟨by omega, l2, by omega⟩
/-! ### the law's own states -/
/-- rows of words, lists -/
inductive RLs (H : Hp) : List Addr → List (List Nat) → Prop
  | nil : RLs H [] []
  | cons {r : Addr} {row : List Nat} {rs : List Addr} {tab : List (List Nat)} : H r = some (.lst (wds row)) → RLs H rs tab → RLs H (r :: rs) (row :: tab)
theorem RLs.mono {H H' : Hp} {rs : List Addr} {tab : List (List Nat)} (h : RLs H rs tab) (i : ∀ b (row : List Nat), H b = some (.lst (wds row)) → H' b = some (.lst (wds row))) : RLs H' rs tab := by
  induction h with
  | nil => exact .nil
  | cons h _ ih => exact .cons (i _ _ h) ih
theorem RLs.same {H H' : Hp} {rs : List Addr} {tab : List (List Nat)} (h : RLs H rs tab) (e : Same H H') : RLs H' rs tab := h.mono fun b row hb => e _ _ hb
theorem RLs.append {H : Hp} {us vs : List Addr} {xs ys : List (List Nat)} (h : RLs H us xs) (h' : RLs H vs ys) : RLs H (us ++ vs) (xs ++ ys) := by
  induction h with
  | nil => exact h'
  | cons h _ ih => exact .cons h ih
theorem RLs.len {H : Hp} {rs : List Addr} {tab : List (List Nat)} (h : RLs H rs tab) : rs.length = tab.length := by
  induction h with
  | nil => rfl
  | cons _ _ ih => rw [List.length_cons, List.length_cons, ih]
theorem RLs.rat {H : Hp} {rs : List Addr} {tab : List (List Nat)} (h : RLs H rs tab) : RAt H rs tab := by
  induction h with
  | nil => exact .nil
  | cons h _ ih => exact .cons (.inr h) ih
theorem RLt.rls {R : Addr} {H : Hp} {rs : List Addr} {tab : List (List Nat)} (h : RLt R H rs tab) : RLs H rs tab := by
  induction h with
  | nil => exact .nil
  | cons h _ _ ih => exact .cons h ih
theorem RLs.get {H : Hp} {rs : List Addr} {tab : List (List Nat)} (h : RLs H rs tab) : ∀ {i : Nat} {r : Addr}, rs[i]? = some r → ∃ row, tab[i]? = some row ∧ H r = some (.lst (wds row)) := by
  induction h with
  | nil => exact fun h => nomatch h
  | cons h _ ih =>
    intro i u hu
    cases i with
    | zero =>
      obtain rfl := Option.some.inj hu
      exact ⟨_, rfl, h⟩
    | succ i => exact ih (i := i) hu
/-- a drawn state: a tuple of hands and of rows -/
structure ASt (H : Hp) (s : Addr) (n : Nat) (hs : List Nat) (tab : List (List Nat)) : Prop where
  at_ : ∃ th tt rs, H s = some (.tup [.ref th, .ref tt]) ∧ H th = some (.lst (ints_ hs)) ∧ H tt = some (.lst (rs.map V.ref)) ∧ RLs H rs tab
  st : StTab n hs tab
theorem ASt.same {H H' : Hp} {s : Addr} {n : Nat} {hs : List Nat} {tab : List (List Nat)} (h : ASt H s n hs tab) (e : Same H H') : ASt H' s n hs tab := by
  obtain ⟨th, tt, rs, h1, h2, h3, h4⟩ := h.at_
  exact ⟨⟨th, tt, rs, e _ _ h1, e _ _ h2, e _ _ h3, h4.same e⟩, h.st⟩
theorem ASt.stay {h0 c0 : Addr} {H H' : Hp} {s : Addr} {n : Nat} {hs : List Nat} {tab : List (List Nat)} (h : ASt H s n hs tab) (x : Stay h0 c0 H H') : ASt H' s n hs tab := by
  obtain ⟨th, tt, rs, h1, h2, h3, h4⟩ := h.at_
  exact ⟨⟨th, tt, rs, x.tup h1, x.lst h2 (notHand_ints _), x.lst h3 (notHand_refs _), h4.mono fun b row hb => x.wds hb⟩, h.st⟩
theorem RLs.row {n : Nat} {hs : List Nat} {tab : List (List Nat)} {rs : List Addr} {H : Hp} (S : StTab n hs tab) (hR : RLs H rs tab) {x : Nat} (hx : x < n) : ∃ r row, (rs.map V.ref)[x]? = some (.ref r) ∧ H r = some (.lst (wds row)) ∧ row.length = n ∧ tab.getD x [] = row ∧ ∀ y, y < n → (wds row)[y]? = some (.str (wd (tabAt tab x y))) ∧ row.getD y 0 = tabAt tab x y := by
  have lr : x < rs.length := by rw [hR.len, S.tl]; exact hx
  obtain ⟨r, hr⟩ : ∃ r, rs[x]? = some r := ⟨_, List.getElem?_eq_getElem lr⟩
  obtain ⟨row, h1, h2⟩ := hR.get hr
  have hl := S.rl row (List.mem_of_getElem? h1)
  have eg : tab.getD x [] = row := by rw [List.getD_eq_getElem?_getD, h1]; rfl
  refine ⟨r, row, by rw [List.getElem?_map, hr]; rfl, h2, hl, eg, fun y hy => ⟨?_, by unfold tabAt; rw [eg]⟩⟩
  unfold wds tabAt
  rw [eg, List.getElem?_map, List.getD_eq_getElem?_getD, List.getElem?_eq_getElem (by rw [hl]; exact hy)]
  rfl
theorem dec_int (x y : Nat) : decide (V.int (x : Nat) = V.int (y : Nat)) = decide (x = y) := decide_eq_decide.mpr ⟨fun h => by injection h with h; omega, fun h => by rw [h]⟩
/-! ### lands and states of the law's own -/
/-- a plain land: its roads a list or a tuple -/
structure LandT (H : Hp) (q : Addr) (n : Nat) (es : List (Nat × Nat)) (lot : List Nat) : Prop where
  at_ : ∃ rA sA ts, H q = some (.tup [.int (n : Nat), .ref rA, .ref sA]) ∧ H rA = some (.lst (ts.map V.ref)) ∧ TAt H ts (pairs es) ∧ SqOf H sA (ints_ lot)
  ok : LandOk n es
  lot : lot ∈ lotsTo (List.range n) n ∧ 0 < lot.length ∧ lot.length < n
theorem LandAt.t {H : Hp} {q : Addr} {n : Nat} {es : List (Nat × Nat)} {lot : List Nat} (h : LandAt H q n es lot) : LandT H q n es lot := by
  obtain ⟨rA, sA, ts, h1, h2, h3, h4⟩ := h.at_
  exact ⟨⟨rA, sA, ts, h1, h2, h3, .inr h4⟩, h.ok, h.lot⟩
theorem LandT.same {H H' : Hp} {q : Addr} {n : Nat} {es : List (Nat × Nat)} {lot : List Nat} (h : LandT H q n es lot) (e : Same H H') : LandT H' q n es lot := by
  obtain ⟨rA, sA, ts, h1, h2, h3, h4⟩ := h.at_
  exact ⟨⟨rA, sA, ts, e _ _ h1, e _ _ h2, h3.same e, h4.same e⟩, h.ok, h.lot⟩
theorem pw_nodup {l : List Nat} (h : l.Pairwise (· < ·)) : l.Nodup := h.imp fun h => Nat.ne_of_lt h
theorem mem_allC {n a b : Nat} (h1 : a < n) (h2 : b < n) (h3 : a ≠ b) : (a, b) ∈ KL.allC n := List.mem_flatMap.mpr ⟨a, List.mem_range.mpr h1, List.mem_map.mpr ⟨b, List.mem_filter.mpr ⟨List.mem_range.mpr h2, decide_eq_true h3⟩, rfl⟩⟩
theorem hasA_is (n : Nat) (hs : List Nat) (tab : List (List Nat)) : aslB n hs tab = true ↔ ∃ a b, a < n ∧ b < n ∧ a ≠ b ∧ hsAt hs a ≠ hsAt hs b ∧ 3 ≤ tabAt tab a b := by
  unfold aslB hasA
  rw [List.any_eq_true]
  constructor
  · rintro ⟨k, hk, h3⟩
    obtain ⟨⟨x, y⟩, he, hp, rfl⟩ := pick2_mem hk
    obtain ⟨h1, h2, h4⟩ := allC_mem he
    exact ⟨x, y, h1, h2, h4, by simpa [apartP] using hp, of_decide_eq_true h3⟩
  · rintro ⟨x, y, h1, h2, h3, h4, h5⟩
    refine ⟨tabAt tab x y, List.mem_map.mpr ⟨(x, y), List.mem_filter.mpr ⟨mem_allC h1 h2 h3, by simpa [apartP] using h4⟩, rfl⟩, decide_eq_true h5⟩
theorem hasW_is (n : Nat) (hs : List Nat) (tab : List (List Nat)) : awkB n hs tab = true ↔ ∃ a b, a < n ∧ b < n ∧ a ≠ b ∧ hsAt hs a = hsAt hs b ∧ (tabAt tab a b = 1 ∨ tabAt tab a b = 2) := by
  unfold awkB hasW
  rw [Bool.or_eq_true, List.any_eq_true, List.any_eq_true]
  constructor
  · rintro (⟨k, hk, h3⟩ | ⟨k, hk, h3⟩)
    · obtain ⟨⟨x, y⟩, he, hp, rfl⟩ := pick2_mem hk
      obtain ⟨h1, h2, h4⟩ := allC_mem he
      exact ⟨x, y, h1, h2, h4, of_decide_eq_true hp, .inl (of_decide_eq_true h3)⟩
    · obtain ⟨⟨x, y⟩, he, hp, rfl⟩ := pick2_mem hk
      obtain ⟨h1, h2, h4⟩ := allC_mem he
      exact ⟨x, y, h1, h2, h4, of_decide_eq_true hp, .inr (of_decide_eq_true h3)⟩
  · rintro ⟨x, y, h1, h2, h3, h4, h5 | h5⟩
    · exact .inl ⟨tabAt tab x y, List.mem_map.mpr ⟨(x, y), List.mem_filter.mpr ⟨mem_allC h1 h2 h3, decide_eq_true h4⟩, rfl⟩, decide_eq_true h5⟩
    · exact .inr ⟨tabAt tab x y, List.mem_map.mpr ⟨(x, y), List.mem_filter.mpr ⟨mem_allC h1 h2 h3, decide_eq_true h4⟩, rfl⟩, decide_eq_true h5⟩
section
variable {P : Program} {w : World} {K : PySem.W.Frag} {mg : Str → Option Value} {base : Heap} {a : AdL}
/-! rows as tuples -/
def spLRows : Sp := fun vs H Q _ => ∃ (t : Addr) (rs : List Addr) (tab : List (List Nat)), vs = [.ref t] ∧ H t = some (.lst (rs.map V.ref)) ∧ RLs H rs tab ∧ tab.length ≤ 5 ∧ ∀ H' u us, Same H H' → H u = none → H' u = some (.tup (us.map V.ref)) → RTt H' us tab → Q (.ref u) H'
theorem ok_lrows {f : Addr} {fd : FuncData} (F : Fun K "_law_rows" "_law_rows" s__law_rows f fd) (m_tuple : mg "tuple" = none) : FnOk P w K mg base CX0 1 f fd ["_law_table_here"] spLRows := by
  refine F.ok sc__law_rows (fun vs H Q E h => ?_) (fun cdv A outer s H vs Q E hr h => ?_)
  · obtain ⟨t, rs, tab, rfl, _⟩ := h
    rfl
  · obtain ⟨t, rs, tab, rfl, ht, hR, tl, q⟩ := h
    refine ⟨_, (pss_one (ps_ret (pe_callTy call_tuple_of (by rfl) m_tuple boot_tuple (pa_cons (pe_lc (own := [("_law_row", 1)]) (g := gName 1) (tt := tYes) rfl sc__law_rows.nd (pi_list (pv 0)) (blkOk_by (own := [("_law_row", 1)]) (N := N__law_rows) (sc := defScope s__law_rows) (by decide +kernel)) (fun _ _ _ _ _ => (pg_name (i := 1) sc__law_rows.nd rfl (by first | exact Or.inl rfl | exact Or.inr rfl))) (fun _ _ _ _ _ => pts_nil) (fun _ _ _ _ _ => (pe_callTy (show CallR _ (.type "tuple") (rTup_ K) from call_tuple_of) (by rfl) m_tuple boot_tuple (pa_cons (pv 1) pa_nil)))) pa_nil)))), ?_⟩
    refine ⟨_, rfl, t, rfl, ⟨_, .inl (.inl ht)⟩, fun D hD => lc_list (xs := rs.map V.ref) (fun j H2 => Same H H2 ∧ ∃ us, H2 D = some (.lst (us.map V.ref)) ∧ RTt H2 us (tab.take j)) ⟨al hD, [], upd_same, .nil⟩ (fun j H2 _ pv => .inl (.inl (pv.1 _ _ ht))) (fun j x H2 hx pv => ?_) (fun H2 pv => ?_)⟩
    · obtain ⟨e2, us, hD2, t2⟩ := pv
      rw [List.getElem?_map] at hx
      obtain ⟨r, hr', rfl⟩ := Option.map_eq_some_iff.mp hx
      obtain ⟨row, hrow, hat⟩ := hR.get hr'
      refine ⟨rfl, _, rfl, r, _, rfl, .inl ⟨.inl (.inl (e2 _ _ hat)), fun u nu => ?_⟩⟩
      have sU := al (o := .tup (wds row)) nu
      have ul : us.length ≤ 5 := by
        rw [t2.len, List.length_take]
        omega
      refine ⟨_, sU _ _ hD2, by rw [List.length_map]; exact small1000 (by omega), fun b o hb => ?_, us ++ [u], ?_, ?_⟩
      · rw [upd_ne (ne_of_none hb hD)]
        exact sU _ _ (e2 _ _ hb)
      · rw [upd_same, List.map_append]
        rfl
      · rw [List.take_add_one, hrow]
        have hu : upd H2 u (.tup (wds row)) u = some (.tup (wds row)) := upd_same
        have dD : ∀ b xs, upd H2 u (.tup (wds row)) b = some (.tup xs) → upd (upd H2 u (.tup (wds row))) D (.lst (us.map V.ref ++ [.ref u])) b = some (.tup xs) := fun b xs hb => by
          rw [upd_ne (fun e => by rw [e, sU _ _ hD2] at hb; cases hb)]
          exact hb
        exact ((t2.same sU).mono dD).append (.cons (dD _ _ hu) .nil)
    · obtain ⟨e2, us, hD2, t2⟩ := pv
      rw [List.length_map, hR.len, List.take_length] at t2
      exact ⟨D, _, rfl, .inl ⟨.inl (.inl hD2), fun u nu => q _ u us (e2.trans (al nu)) (e2.free nu) upd_same (t2.same (al nu))⟩⟩
def spLandOf (a : AdL) : Sp := fun vs H Q _ => ∃ (q : Addr) (n : Nat) (es : List (Nat × Nat)) (lot : List Nat), vs = [.ref q] ∧ LandT H q n es lot ∧ 2 ≤ n ∧ n ≤ 5 ∧ ∀ H' p, Same H H' → H p = none → LandO a.C H' p n es lot → Q (.ref p) H'
theorem ok_lof (T : Tl K mg a) {f fI : Addr} {fd fdI : FuncData} (F : Fun K "_law_land_of" "_law_land_of" s__law_land_of f fd)
    (MC : Mk K a.C fI) (GI : FnOk P w K mg base CX0 5 fI fdI ["self", "cells", "neighbours", "roads"] (spLandI a)) (bI : Binds K fdI ["self", "cells", "neighbours", "roads"] []) : FnOk P w K mg base CX0 7 f fd ["_law_land_here"] (spLandOf a) := by
  refine F.ok sc__law_land_of (fun vs H Q E h => ?_) (fun cdv A outer s H vs Q E hr h => ?_)
  · obtain ⟨q, n, es, lot, rfl, _⟩ := h
    rfl
  · obtain ⟨q, n, es, lot, rfl, L, n2, n5, k⟩ := h
    refine ⟨_, (pss_one (ps_ret (pe_make MC GI (hr.mono (by decide)) (by rfl) T.gC bI .nil pass0 (pa_cons (pe_ix ix_tup (pv 0) pe_int (fun _ _ => rfl)) (pa_cons (pe_ix ix_tup (pv 0) pe_int (fun _ _ => rfl)) (pa_cons (pe_ix ix_tup (pv 0) pe_int (fun _ _ => rfl)) pa_nil)))))), ?_⟩
    obtain ⟨rA, sA, ts, h1, h2, h3, h4⟩ := L.at_
    obtain ⟨l1, l2⟩ := lot_lt n5 L.lot.1
    refine ⟨_, rfl, q, _, _, _, rfl, rfl, .inl (.inl h1), atI_nat (j := 0) rfl, _, rfl, q, _, _, _, rfl, rfl, .inl (.inl h1), atI_nat (j := 1) rfl, _, rfl, q, _, _, _, rfl, rfl, .inl (.inl h1), atI_nat (j := 2) rfl, ?_⟩
    refine new_land (a := a) (Q := Q) n2 n5 (.inr h2) (co_lit h3) (cos_es L.ok n5) L.ok.conn h4 l1 (pw_nodup l2) L.lot.2.1 L.lot.2.2 fun H' p es' rd' e nx Lo pe pr => ?_
    rw [srt_map L.ok] at pe
    obtain rfl := es_is Lo.ok pe (L.ok.sorted.imp fun h => h)
    obtain rfl := rd_is Lo.rso pr (l2.imp fun h => Nat.le_of_lt h)
    exact k H' p e nx Lo
def spSize : Sp := fun vs H Q _ => ∃ (h c : Addr), vs = [.ref h] ∧ Hand H h c ∧ ∀ H' (n : Nat), Stay h c H H' → 2 ≤ n → n ≤ 4 → Q (.int (n : Nat)) H'
theorem ok_size {f fpk : Addr} {fd fdpk : FuncData} (F : Fun K "_law_size" "_law_size" s__law_size f fd)
    (Gpk : FnOk P w K mg base CX0 3 fpk fdpk ["_law_hand_here", "_law_things"] spPick) (gpk : mg "_law_pick" = some (.ref fpk)) (kpk : PySem.W.keepIn K (.ref fpk) = true) (bpk : Binds K fdpk ["_law_hand_here", "_law_things"] []) : FnOk P w K mg base CX0 4 f fd ["_law_hand_here"] spSize := by
  refine F.ok sc__law_size (fun vs H Q E h => ?_) (fun cdv A outer s H vs Q E hr h => ?_)
  · obtain ⟨h, c, rfl, _⟩ := h
    rfl
  · obtain ⟨h, c, rfl, hh, q⟩ := h
    refine ⟨_, (pss_one (ps_ret (pe_call Gpk (hr.mono (by decide)) (by rfl) gpk kpk bpk .nil pass0 (pa_cons (pv 0) (pa_cons (pe_lst (pa_cons pe_int (pa_cons pe_int (pa_cons pe_int (pa_cons pe_int (pa_cons pe_int (pa_cons pe_int (pa_cons pe_int (pa_cons pe_int (pa_cons pe_int (pa_cons pe_int pa_nil))))))))))) pa_nil))))), ?_⟩
    refine ⟨_, rfl, by show 10 ≤ sizeLine; decide, fun lp nlp => ?_⟩
    have s1 := al (o := .lst [.int 2, .int 3, .int 2, .int 3, .int 3, .int 2, .int 3, .int 3, .int 3, .int 4]) nlp
    refine ⟨h, c, lp, _, rfl, hh.same s1, (hh.ne nlp).1, upd_same, by decide, by decide, fun H2 j v d2 hv => ?_⟩
    obtain ⟨n, rfl, n2, n4⟩ : ∃ n : Nat, v = .int (n : Nat) ∧ 2 ≤ n ∧ n ≤ 4 := by
      have m := List.mem_of_getElem? hv
      simp only [List.mem_cons, List.not_mem_nil, or_false] at m
      rcases m with rfl | rfl | rfl | rfl | rfl | rfl | rfl | rfl | rfl | rfl <;> first | exact ⟨2, rfl, by decide, by decide⟩ | exact ⟨3, rfl, by decide, by decide⟩ | exact ⟨4, rfl, by decide, by decide⟩
    exact q H2 n ((Stay.of_same hh s1).trans (.of_drawn (hh.same s1) d2)) n2 n4
end
end K7
end
/-! ## P23 -/
section
open PySem PySem.Spec PyProof.Rows L2
namespace K7
abbrev N__law_place_word : List Str := ["_law_hands", "_law_table_here", "_law_n", "_law_words", "_law_a", "_law_b"]
abbrev s__law_place_word : Stmt := topS 46
theorem sc__law_place_word : FnScope ["_law_hands", "_law_table_here", "_law_n", "_law_words", "_law_a", "_law_b"] ["_law_hands", "_law_table_here"] (defScope s__law_place_word) := ⟨rfl, rfl, rfl, by decide +kernel, rfl, by decide +kernel, by decide +kernel⟩
/-! ### the word of the places -/
theorem eqv_nil : PyData.eqv (.list []) (.list []) = true := by decide +kernel
def spPw : Sp := fun vs H Q _ => ∃ (th tt : Addr) (n : Nat) (hs : List Nat) (rs : List Addr) (tab : List (List Nat)), vs = [.ref th, .ref tt] ∧ H th = some (.lst (ints_ hs)) ∧ H tt = some (.lst (rs.map V.ref)) ∧ RLs H rs tab ∧ StFm n hs tab ∧ n ≤ 5 ∧
  ∀ H', Same H H' → Q (if aslB n hs tab then .str "asleep" else if awkB n hs tab then .str "awake" else .non) H'
/-- the words found before a place -/
structure Wf (n : Nat) (hs : List Nat) (tab : List (List Nat)) (i j : Nat) (ws : List Bool) : Prop where
  len : ws.length ≤ 10 * i + 2 * j
  asl : true ∈ ws ↔ ∃ a b, (a < i ∨ (a = i ∧ b < j)) ∧ a < n ∧ b < n ∧ a ≠ b ∧ hsAt hs a ≠ hsAt hs b ∧ 3 ≤ tabAt tab a b
  awk : false ∈ ws ↔ ∃ a b, (a < i ∨ (a = i ∧ b < j)) ∧ a < n ∧ b < n ∧ a ≠ b ∧ hsAt hs a = hsAt hs b ∧ (tabAt tab a b = 1 ∨ tabAt tab a b = 2)
def wv : Bool → V
  | true => .str "asleep"
  | false => .str "awake"
def addA (hs : List Nat) (tab : List (List Nat)) (i j : Nat) : List Bool := if i ≠ j ∧ hsAt hs i ≠ hsAt hs j ∧ 3 ≤ tabAt tab i j then [true] else []
def addW (hs : List Nat) (tab : List (List Nat)) (i j : Nat) : List Bool := if i ≠ j ∧ hsAt hs i = hsAt hs j ∧ (tabAt tab i j = 1 ∨ tabAt tab i j = 2) then [false] else []
theorem Wf.step {n : Nat} {hs : List Nat} {tab : List (List Nat)} {i j : Nat} {ws : List Bool} (h : Wf n hs tab i j ws) (hi : i < n) (hj : j < n) : Wf n hs tab i (j + 1) (ws ++ addA hs tab i j ++ addW hs tab i j) := by
  refine ⟨?_, ?_, ?_⟩
  · rw [List.length_append, List.length_append]
    have h1 := h.len
    have h2 : (addA hs tab i j).length ≤ 1 := by unfold addA; split <;> simp
    have h3 : (addW hs tab i j).length ≤ 1 := by unfold addW; split <;> simp
    omega
  · rw [List.mem_append, List.mem_append, h.asl]
    constructor
    · rintro ((⟨x, y, h1, h2⟩ | h1) | h1)
      · exact ⟨x, y, by omega, h2⟩
      · unfold addA at h1
        split at h1
        · rename_i z
          exact ⟨i, j, by omega, hi, hj, z⟩
        · cases h1
      · unfold addW at h1
        split at h1 <;> simp at h1
    · rintro ⟨x, y, h1, h2, h3, h4, h5⟩
      by_cases e : x = i ∧ y = j
      · obtain ⟨rfl, rfl⟩ := e
        refine .inl (.inr ?_)
        unfold addA
        rw [if_pos ⟨h4, h5⟩]
        exact List.mem_singleton.mpr rfl
      · exact .inl (.inl ⟨x, y, by omega, h2, h3, h4, h5⟩)
  · rw [List.mem_append, List.mem_append, h.awk]
    constructor
    · rintro ((⟨x, y, h1, h2⟩ | h1) | h1)
      · exact ⟨x, y, by omega, h2⟩
      · unfold addA at h1
        split at h1 <;> simp at h1
      · unfold addW at h1
        split at h1
        · rename_i z
          exact ⟨i, j, by omega, hi, hj, z⟩
        · cases h1
    · rintro ⟨x, y, h1, h2, h3, h4, h5⟩
      by_cases e : x = i ∧ y = j
      · obtain ⟨rfl, rfl⟩ := e
        refine .inr ?_
        unfold addW
        rw [if_pos ⟨h4, h5⟩]
        exact List.mem_singleton.mpr rfl
      · exact .inl (.inl ⟨x, y, by omega, h2, h3, h4, h5⟩)
theorem Wf.turn {n : Nat} {hs : List Nat} {tab : List (List Nat)} {i : Nat} {ws : List Bool} (h : Wf n hs tab i n ws) (n5 : n ≤ 5) : Wf n hs tab (i + 1) 0 ws := by
  refine ⟨by have := h.len; omega, h.asl.trans ⟨?_, ?_⟩, h.awk.trans ⟨?_, ?_⟩⟩
  all_goals
    rintro ⟨x, y, h1, h2, h3, h4⟩
    exact ⟨x, y, by omega, h2, h3, h4⟩
theorem Wf.fin {n : Nat} {hs : List Nat} {tab : List (List Nat)} {ws : List Bool} (h : Wf n hs tab n 0 ws) : aslB n hs tab = decide (true ∈ ws) ∧ awkB n hs tab = decide (false ∈ ws) := by
  constructor
  · rw [Bool.eq_iff_iff, hasA_is, decide_eq_true_iff, h.asl]
    exact ⟨fun ⟨x, y, h1, h2⟩ => ⟨x, y, .inl h1, h1, h2⟩, fun ⟨x, y, _, h2⟩ => ⟨x, y, h2⟩⟩
  · rw [Bool.eq_iff_iff, hasW_is, decide_eq_true_iff, h.awk]
    exact ⟨fun ⟨x, y, h1, h2⟩ => ⟨x, y, .inl h1, h1, h2⟩, fun ⟨x, y, _, h2⟩ => ⟨x, y, h2⟩⟩
theorem wv_snoc (ws : List Bool) (b : Bool) : (ws ++ [b]).map wv = ws.map wv ++ [wv b] := by rw [List.map_append]; rfl
theorem RLs.row' {n : Nat} {hs : List Nat} {tab : List (List Nat)} {rs : List Addr} {H : Hp} (S : StFm n hs tab) (hR : RLs H rs tab) {x : Nat} (hx : x < n) : ∃ r row, (rs.map V.ref)[x]? = some (.ref r) ∧ H r = some (.lst (wds row)) ∧ ∀ y, y < n → (wds row)[y]? = some (.str (wd (tabAt tab x y))) := by
  have lr : x < rs.length := by rw [hR.len, S.tl]; exact hx
  obtain ⟨r, hr⟩ : ∃ r, rs[x]? = some r := ⟨_, List.getElem?_eq_getElem lr⟩
  obtain ⟨row, h1, h2⟩ := hR.get hr
  have hl := S.rl row (List.mem_of_getElem? h1)
  have eg : tab.getD x [] = row := by rw [List.getD_eq_getElem?_getD, h1]; rfl
  refine ⟨r, row, by rw [List.getElem?_map, hr]; rfl, h2, fun y hy => ?_⟩
  unfold wds tabAt
  rw [eg, List.getElem?_map, List.getD_eq_getElem?_getD, List.getElem?_eq_getElem (by rw [hl]; exact hy)]
  rfl
theorem hs_at {n : Nat} {hs : List Nat} {tab : List (List Nat)} (S : StFm n hs tab) {x : Nat} (hx : x < n) : (ints_ hs)[x]? = some (.int (hsAt hs x : Nat)) := by
  unfold ints_ hsAt
  rw [List.getElem?_map, List.getD_eq_getElem?_getD, List.getElem?_eq_getElem (by rw [S.hl]; exact hx)]
  rfl
theorem wd_asl (k : Nat) : decide (V.str (wd k) = V.str "asleep") = decide (3 ≤ k) := by
  match k with
  | 0 => decide +kernel
  | 1 => decide +kernel
  | 2 => decide +kernel
  | k + 3 =>
    rw [decide_eq_true (show 3 ≤ k + 3 by omega)]
    exact decide_eq_true rfl
theorem wd_awk (k : Nat) : inV (.str (wd k)) [.str "awake", .str "needed"] = decide (k = 1 ∨ k = 2) := by
  match k with
  | 0 => decide +kernel
  | 1 => decide +kernel
  | 2 => decide +kernel
  | k + 3 =>
    rw [decide_eq_false (show ¬(k + 3 = 1 ∨ k + 3 = 2) by omega)]
    show inV (.str "asleep") [.str "awake", .str "needed"] = false
    decide +kernel
def wp (b : Bool) : PyData := if b = true then PyData.str "asleep" else PyData.str "awake"
theorem shaped_ws (l : List Bool) : SeqAt.shaped (.list (l.map wp)) = true := by
  have c0 : ∀ b, PyData.canLay0 (wp b) = true ∧ PyData.depth (wp b) = 0 := fun b => by cases b <;> exact ⟨by decide +kernel, by decide +kernel⟩
  have h2 : PyData.canLayAll0 (l.map wp) = true ∧ PyData.depthAll (l.map wp) = 0 := by
    induction l with
    | nil => exact ⟨by simp [PyData.canLayAll0], by simp [PyData.depthAll]⟩
    | cons x r ih => exact ⟨by simp [PyData.canLayAll0, (c0 x).1, ih.1], by simp [PyData.depthAll, (c0 x).2, ih.2]⟩
  show ((PyData.canLay0 (.list (l.map wp))) && decide (PyData.depth (.list (l.map wp)) ≤ 64)) = true
  simp [PyData.canLay0, PyData.depth, h2.1, h2.2]
theorem eqv_ws (l : List Bool) : PyData.eqv (.list (l.map wp)) (.list []) = decide (l = []) := by
  cases l <;> simp [PyData.eqv, PyData.eqvAll]
theorem in_ws (l : List Bool) : inV (.str "asleep") (l.map wv) = decide (true ∈ l) := by
  induction l with
  | nil => rfl
  | cons b l ih =>
    have e : ∀ x : V, inV (.str "asleep") (x :: l.map wv) = (eqV x (.str "asleep") || inV (.str "asleep") (l.map wv)) := fun x => rfl
    rw [List.map_cons, e, ih]
    cases b with
    | true =>
      rw [show eqV (wv true) (.str "asleep") = true by decide +kernel, Bool.true_or]
      exact (decide_eq_true (List.mem_cons_self ..)).symm
    | false =>
      rw [show eqV (wv false) (.str "asleep") = false by decide +kernel, Bool.false_or]
      simp
section
variable {P : Program} {w : World} {K : PySem.W.Frag} {mg : Str → Option Value} {base : Heap} {a : AdL}
theorem ok_pw {f : Addr} {fd : FuncData} (F : Fun K "_law_place_word" "_law_place_word" s__law_place_word f fd) (m_len : mg "len" = none) (m_range : mg "range" = none) : FnOk P w K mg base CX0 1 f fd ["_law_hands", "_law_table_here"] spPw := by
  refine F.ok sc__law_place_word (fun vs H Q E h => ?_) (fun cdv A outer s H vs Q E hr h => ?_)
  · obtain ⟨th, tt, n, hs, rs, tab, rfl, _⟩ := h
    rfl
  · obtain ⟨th, tt, n, hs, rs, tab, rfl, hh, ht, hR, S, n5, q⟩ := h
    refine ⟨_, (pss_cons (ps_set (i := 2) sc__law_place_word.nd rfl (by first | exact Or.inl rfl | exact Or.inr rfl) (pe_callB call_len_seq (by rfl) m_len boot_len (pa_cons (pv 0) pa_nil)))
 (pss_cons (ps_set (i := 3) sc__law_place_word.nd rfl (by first | exact Or.inl rfl | exact Or.inr rfl) (pe_lst pa_nil))
 (pss_cons (ps_for PassesOwn.never rfl (pi_range1 rfl m_range (pa_cons (pv 2) pa_nil)) (pg_name (i := 4) sc__law_place_word.nd rfl (by first | exact Or.inl rfl | exact Or.inr rfl))
  (pss_one (ps_for PassesOwn.never rfl (pi_range1 rfl m_range (pa_cons (pv 2) pa_nil)) (pg_name (i := 5) sc__law_place_word.nd rfl (by first | exact Or.inl rfl | exact Or.inr rfl))
  (Evl.pss_cut (ps_if (pw_and (pt_cmpR op_ne (pv 4) (pv 5) (nomark _)) (pw_and (pt_cmpR op_ne (pe_ix ix_list (pv 0) (pv 4) (fun _ _ => rfl)) (pe_ix ix_list (pv 0) (pv 5) (fun _ _ => rfl)) (nomark _)) (pw_and1 (pt_cmpR op_eq (pe_ix ix_list (pe_ix ix_list (pv 1) (pv 4) (fun _ _ => rfl)) (pv 5) (fun _ _ => rfl)) pe_str (nomark _))))).pt
  (pss_one (ps_expr (pe_bm PySem.F.plainAttrs_list PySem.F.slot_list_append PySem.F.type_list_append mt_append (pv 3) (pa_cons pe_str pa_nil))))
  pss_nil)
 (pss_one (ps_if (pw_and (pt_cmpR op_ne (pv 4) (pv 5) (nomark _)) (pw_and (pt_cmpR op_eq (pe_ix ix_list (pv 0) (pv 4) (fun _ _ => rfl)) (pe_ix ix_list (pv 0) (pv 5) (fun _ _ => rfl)) (nomark _)) (pw_and1 (pt_cmpR op_in_seq (pe_ix ix_list (pe_ix ix_list (pv 1) (pv 4) (fun _ _ => rfl)) (pv 5) (fun _ _ => rfl)) (pe_tup (pa_cons pe_str (pa_cons pe_str pa_nil))) (by with_unfolding_all rfl))))).pt
  (pss_one (ps_expr (pe_bm PySem.F.plainAttrs_list PySem.F.slot_list_append PySem.F.type_list_append mt_append (pv 3) (pa_cons pe_str pa_nil))))
  pss_nil))))))
 (pss_cons (ps_if (pt_cmpR (op_eqD hr.units) (pv 3) (pe_lst pa_nil) (nomark _))
  (pss_one (ps_ret pe_non))
  pss_nil)
 (pss_one (ps_ret (pe_ifExp (pt_cmpR op_in_seq pe_str (pv 3) (by with_unfolding_all rfl)) pe_str pe_str))))))), ?_⟩
    have il : (ints_ hs).length = n := by unfold ints_; rw [List.length_map, S.hl]
    refine ⟨_, rfl, th, _, rfl, .inl (.inl (.inl hh)), by show 0 ≤ sizeLine; decide, fun W nW => ?_⟩
    rw [il]
    have e1 := al (o := .lst []) nW
    have hW1 : upd H W (.lst []) W = some (.lst (([] : List Bool).map wv)) := upd_same
    have kp : ∀ {H1 : Hp}, Same H H1 → ∀ {ws : List V} {o : HO}, H1 W = some (.lst ws) → Same H (upd H1 W o) := fun {H1} e {ws o} _ b z hz => by
      rw [upd_ne (ne_of_none hz nW)]
      exact e b z hz
    generalize upd H W (.lst []) = H1 at e1 hW1 ⊢
    refine ⟨_, rfl, (n : Nat), rfl, by omega, by omega, for_range (lo := 0) (n := n) (fun i σ H' => i ≤ n ∧ ∃ ws y4 y5, σ = [some (.ref th), some (.ref tt), some (.int (n : Nat)), some (.ref W), y4, y5] ∧ Same H H' ∧ H' W = some (.lst (ws.map wv)) ∧ Wf n hs tab i 0 ws)
      ⟨Nat.zero_le _, [], none, none, rfl, e1, hW1, ⟨Nat.zero_le _, by simp, by simp⟩⟩ (fun i σ H2 hi pv => ?_) (fun σ H2 pv => ?_)⟩
    · obtain ⟨_, ws, y4, y5, rfl, e2, hW2, wf⟩ := pv
      refine ⟨_, rfl, (n : Nat), rfl, by omega, by omega, for_range (lo := 0) (n := n) (fun j σ H' => j ≤ n ∧ ∃ ws y5, σ = [some (.ref th), some (.ref tt), some (.int (n : Nat)), some (.ref W), some (.int (0 + (i : Nat))), y5] ∧ Same H H' ∧ H' W = some (.lst (ws.map wv)) ∧ Wf n hs tab i j ws)
        ⟨Nat.zero_le _, ws, y5, rfl, e2, hW2, wf⟩ (fun j σ H3 hj pv => ?_) (fun σ H3 pv => ?_)⟩
      · obtain ⟨_, ws, y5, rfl, e3, hW3, wf⟩ := pv
        have hh3 := e3 _ _ hh
        have ht3 := e3 _ _ ht
        have ei : ∀ x : Nat, (0 : Int) + (x : Nat) = (x : Nat) := fun x => Int.zero_add _
        rw [ei, ei]
        have hx : (ints_ hs)[i]? = some (.int (hsAt hs i : Nat)) := hs_at S hi
        have hy : (ints_ hs)[j]? = some (.int (hsAt hs j : Nat)) := hs_at S hj
        obtain ⟨r, row, hr1, hr2, hr3⟩ := hR.row' S hi
        have dij : decide (V.int (i : Nat) = V.int (j : Nat)) = decide (i = j) := dec_int i j
        refine ⟨fun σ' H' => σ' = [some (.ref th), some (.ref tt), some (.int (n : Nat)), some (.ref W), some (.int (i : Nat)), some (.int (j : Nat))] ∧ Same H H' ∧ H' W = some (.lst ((ws ++ addA hs tab i j).map wv)), ?_, ?_⟩
        · refine ⟨_, rfl, _, rfl, rfl, _, rfl, ?_⟩
          have no : ¬(i ≠ j ∧ hsAt hs i ≠ hsAt hs j ∧ 3 ≤ tabAt tab i j) → H3 W = some (.lst ((ws ++ addA hs tab i j).map wv)) := fun z => by
            unfold addA
            rw [if_neg z, List.append_nil]
            exact hW3
          rw [dij]
          by_cases hij : i = j
          · rw [decide_eq_true hij]
            exact iteFo rfl (iteFo rfl ⟨rfl, e3, no fun z => z.1 hij⟩)
          rw [decide_eq_false hij]
          refine iteTo rfl ?_
          refine ⟨_, rfl, _, rfl, th, _, _, _, rfl, rfl, .inl (.inl hh3), atI_nat hx, _, rfl, _, rfl, th, _, _, _, rfl, rfl, .inl (.inl hh3), atI_nat hy, rfl, _, rfl, ?_⟩
          rw [dec_int]
          by_cases he : hsAt hs i = hsAt hs j
          · rw [decide_eq_true he]
            exact iteFo rfl (iteFo rfl ⟨rfl, e3, no fun z => z.2.1 he⟩)
          rw [decide_eq_false he]
          refine iteTo rfl ?_
          refine ⟨_, rfl, _, rfl, tt, _, _, _, rfl, rfl, .inl (.inl ht3), atI_nat hr1, _, rfl, r, _, _, _, rfl, rfl, .inl (.inl (e3 _ _ hr2)), atI_nat (hr3 j hj), rfl, _, rfl, ?_⟩
          rw [wd_asl]
          by_cases h3 : 3 ≤ tabAt tab i j
          · rw [decide_eq_true h3]
            refine iteTo rfl ⟨_, rfl, .inl ⟨rfl, _, .inl (.inl hW3)⟩, W, _, _, rfl, rfl, hW3, by rw [List.length_map]; exact small1000 (by have := wf.len; omega), rfl, kp e3 hW3, ?_⟩
            unfold addA
            rw [if_pos ⟨hij, he, h3⟩, upd_same, wv_snoc]
            rfl
          · rw [decide_eq_false h3]
            exact iteFo rfl ⟨rfl, e3, no fun z => h3 z.2.2⟩
        · rintro _ H4 ⟨rfl, e4, hW4⟩
          refine ⟨_, rfl, _, rfl, rfl, _, rfl, ?_⟩
          have w2 := wf.step hi hj
          have la : (ws ++ addA hs tab i j).length ≤ 200 := by
            have h1 := w2.len
            rw [List.length_append] at h1
            omega
          have no : ¬(i ≠ j ∧ hsAt hs i = hsAt hs j ∧ (tabAt tab i j = 1 ∨ tabAt tab i j = 2)) → Wf n hs tab i (j + 1) (ws ++ addA hs tab i j) := fun z => by
            unfold addW at w2
            rw [if_neg z, List.append_nil] at w2
            exact w2
          have hh4 := e4 _ _ hh
          rw [dij]
          by_cases hij : i = j
          · rw [decide_eq_true hij]
            exact iteFo rfl (iteFo rfl ⟨hj, _, _, rfl, e4, hW4, no fun z => z.1 hij⟩)
          rw [decide_eq_false hij]
          refine iteTo rfl ?_
          refine ⟨_, rfl, _, rfl, th, _, _, _, rfl, rfl, .inl (.inl hh4), atI_nat hx, _, rfl, _, rfl, th, _, _, _, rfl, rfl, .inl (.inl hh4), atI_nat hy, rfl, _, rfl, ?_⟩
          rw [dec_int]
          by_cases he : hsAt hs i = hsAt hs j
          · rw [decide_eq_true he]
            refine iteTo rfl ?_
            refine ⟨_, rfl, _, rfl, tt, _, _, _, rfl, rfl, .inl (.inl (e4 _ _ ht)), atI_nat hr1, _, rfl, r, _, _, _, rfl, rfl, .inl (.inl (e4 _ _ hr2)), atI_nat (hr3 j hj), by show 2 ≤ sizeLine; decide, fun u nu => ?_⟩
            have e5 := al (o := .tup [.str "awake", .str "needed"]) nu
            refine ⟨u, [.str "awake", .str "needed"], rfl, .inr (.inl (.inl upd_same)), rfl, rfl, _, rfl, ?_⟩
            rw [if_neg Bool.false_ne_true, wd_awk]
            by_cases h3 : tabAt tab i j = 1 ∨ tabAt tab i j = 2
            · rw [decide_eq_true h3]
              refine iteTo rfl ⟨_, rfl, .inl ⟨rfl, _, .inl (.inl (e5 _ _ hW4))⟩, W, _, _, rfl, rfl, e5 _ _ hW4, by rw [List.length_map]; exact small1000 (by omega), hj, ws ++ addA hs tab i j ++ [false], _, rfl, kp (e4.trans e5) (e5 _ _ hW4), by rw [upd_same, wv_snoc]; rfl, ?_⟩
              unfold addW at w2
              rw [if_pos ⟨hij, he, h3⟩] at w2
              exact w2
            · rw [decide_eq_false h3]
              exact iteFo rfl ⟨hj, _, _, rfl, e4.trans e5, e5 _ _ hW4, no fun z => h3 z.2.2⟩
          · rw [decide_eq_false he]
            exact iteFo rfl (iteFo rfl ⟨hj, _, _, rfl, e4, hW4, no fun z => he z.2.1⟩)
      · obtain ⟨_, ws, y5, rfl, e3, hW3, wf⟩ := pv
        exact ⟨hi, ws, _, _, rfl, e3, hW3, wf.turn n5⟩
    · obtain ⟨_, ws, y4, y5, rfl, e2, hW2, wf⟩ := pv
      obtain ⟨qa, qw⟩ := wf.fin
      have wl : ws.length ≤ 50 := by have := wf.len; omega
      refine ⟨_, rfl, by show 0 ≤ sizeLine; decide, fun u nu => ?_⟩
      have e3 := al (o := .lst []) nu
      have eq := q _ (e2.trans e3)
      have hW3 := e3 _ _ hW2
      have nWu : H2 u = none := nu
      have hu3 : upd H2 u (.lst []) u = some (.lst []) := upd_same
      generalize upd H2 u (.lst []) = H3 at e3 hW3 hu3 eq ⊢
      have fl : ∀ b, flatV (wv b) = true := fun b => by cases b <;> rfl
      have dp : ∀ l : List Bool, DpAll K H3 (l.map wv) (l.map wp) := fun l => by
        induction l with
        | nil => exact .nil
        | cons b l ih => exact .cons (by cases b <;> exact .str _) ih
      refine ⟨_, _, .lst (.inl (.inl hW3)) (dp ws), .lst (.inl (.inl hu3)) .nil, shaped_ws ws, by decide +kernel, _, rfl, ?_⟩
      rw [eqv_ws]
      by_cases hn : ws = []
      · subst hn
        rw [decide_eq_true rfl]
        rw [qa, qw] at eq
        exact iteTo rfl eq
      · rw [decide_eq_false hn]
        refine iteFo rfl ?_
        refine ⟨_, rfl, W, _, rfl, .inl (.inl (.inl hW3)), rfl, List.all_eq_true.mpr fun x hx => (List.mem_map.mp hx).elim fun b z => z.2 ▸ fl b, _, rfl, ?_⟩
        rw [if_neg Bool.false_ne_true, in_ws]
        by_cases ht : true ∈ ws
        · rw [decide_eq_true ht]
          rw [qa, decide_eq_true ht] at eq
          exact iteTo rfl eq
        · rw [decide_eq_false ht]
          have hf : false ∈ ws := by
            cases ws with
            | nil => exact absurd rfl hn
            | cons b l => cases b with
              | true => exact absurd (List.mem_cons_self ..) ht
              | false => exact List.mem_cons_self ..
          rw [qa, qw, decide_eq_false ht, decide_eq_true hf] at eq
          exact iteFo rfl eq
end
end K7
end
/-! ## MS -/
section
open PySem PySem.Spec PyProof.Rows L2
namespace K7E
section
variable {X : L2.Cx}
/-- a text some times over -/
theorem op_mulS : OpR X (binaryOp .Mult) (fun x y H Q => ∃ (i : Str) (n : Int), x = .str i ∧ y = .int n ∧ i.length ≤ 16 ∧ -(2 ^ 63 : Int) ≤ n ∧ n ≤ ((1048576 : Nat) : Int) ∧ Q (.str (Txt.mul i n)) H) := by
  intro pins s σ H x y v u Q I rx ry h
  obtain ⟨i, n, rfl, rfl, hz, lo, hi, q⟩ := h
  obtain ⟨t, rfl⟩ := rx
  obtain ⟨t', rfl⟩ := ry
  exact SB.mul (mulOk_of 16 1048576 (by omega) hi lo (by decide) (by decide)) fun t' k => ⟨.str (Txt.mul i n), H, I.tok _, ⟨_, rfl⟩, q⟩
end
end K7E
end
/-! ## P24 -/
section
open PySem PySem.Spec PyProof.Rows L2
namespace K7
abbrev N__law_bent_hands : List Str := ["_law_hand_here", "_law_hands", "_law_sort", "_law_n", "_law_rows_here"]
abbrev s__law_bent_hands : Stmt := topS 44
theorem sc__law_bent_hands : FnScope ["_law_hand_here", "_law_hands", "_law_sort", "_law_n", "_law_rows_here"] ["_law_hand_here", "_law_hands"] (defScope s__law_bent_hands) := ⟨rfl, rfl, rfl, by decide +kernel, rfl, by decide +kernel, by decide +kernel⟩
/-! ### hands, bent or not -/
theorem Leaf.stay {h c : Addr} {H H' : Hp} {y : V} (l : Leaf H y) (x : Stay h c H H') : Leaf H' y := l.imp id fun ⟨b, z, h1, h2, h3⟩ => ⟨b, z, h1, x.lst h2 (by cases z <;> rfl), h3⟩
theorem NoRow.stay {h c : Addr} {H H' : Hp} {y : V} (l : NoRow H y) (x : Stay h c H H') : NoRow H' y := l.imp id fun ⟨b, h1, h2⟩ => ⟨b, h1, x.but _ _ (x.hand0.ned h2) h2⟩
theorem SqOf.stay {h c b : Addr} {H H' : Hp} {vs : List V} (s : SqOf H b vs) (x : Stay h c H H') (ne : b ≠ h) : SqOf H' b vs := s.imp (fun z => x.but _ _ ne z) fun z => x.but _ _ ne z
theorem HdV.stay {n : Nat} {h c : Addr} {H H' : Hp} {v : V} {b : Bool} (k : HdV n H v b) (x : Stay h c H H') (ne : v ≠ .ref h) : HdV n H' v b := by
  cases k with
  | no h => exact .no (h.stay x)
  | row h it l => exact .row (h.stay x fun e => ne (by rw [e])) (fun y hy => (it y hy).stay x) l
theorem nat_leaf {H : Hp} {hs : List Nat} : ∀ y ∈ ints_ hs, Leaf H y := fun y hy => by
  obtain ⟨x, _, rfl⟩ := List.mem_map.mp hy
  exact .inl (.int _)
theorem cut_one (xs : List V) (h : 1 ≤ xs.length) : (cutV xs none (some (-1))).length = xs.length - 1 ∧ ∀ z ∈ cutV xs none (some (-1)), z ∈ xs := by
  unfold cutV
  rw [HT.sIx_none]
  have e : HT.sIx xs.length xs.length (some (-1)) = xs.length - 1 := by
    show (if (-1 : Int) < 0 then ((-1 : Int) + (xs.length : Int)).toNat else min (-1 : Int).toNat xs.length) = _
    rw [if_pos (by decide)]
    omega
  rw [e]
  refine ⟨?_, fun z hz => List.mem_of_mem_drop (List.mem_of_mem_take hz)⟩
  rw [List.length_take, List.length_drop]
  omega
theorem off_row {n : Nat} {H : Hp} {b : Addr} {vs : List V} (h : SqOf H b vs) (it : ∀ y ∈ vs, Leaf H y) (l : vs.length ≤ 10) (off : vs.length ≠ n ∨ ∃ y ∈ vs, wholeH y = false) : HdV n H (.ref b) false := by
  have k := HdV.row (n := n) h it l
  rw [show (decide (vs.length = n) && vs.all wholeH) = false from ?_] at k
  · exact k
  · rcases off with off | ⟨y, m, hy⟩
    · rw [decide_eq_false off, Bool.false_and]
    · rw [Bool.and_eq_false_iff]
      right
      rw [List.all_eq_false]
      exact ⟨y, m, by rw [hy]; decide⟩
section
variable {P : Program} {w : World} {K : PySem.W.Frag} {mg : Str → Option Value} {base : Heap} {a : AdL}
def spBh : Sp := fun vs H Q _ => ∃ (h c th : Addr) (n : Nat) (hs : List Nat), vs = [.ref h, .ref th] ∧ Hand H h c ∧ H th = some (.lst (ints_ hs)) ∧ hs.length = n ∧ 2 ≤ n ∧ n ≤ 5 ∧ (∀ x ∈ hs, x ≤ 10 ^ 30) ∧
  ∀ H' u v b, Stay h c H H' → H u = none → H' u = some (.tup [v, .bl b]) → HdV n H' v b → v ≠ .ref h → (b = true → ∃ l, v = .ref l ∧ H' l = some (.lst (ints_ hs))) → Q (.ref u) H'
theorem ok_bh {f fdr fpk : Addr} {fd fddr fdpk : FuncData} (F : Fun K "_law_bent_hands" "_law_bent_hands" s__law_bent_hands f fd)
    (Gpk : FnOk P w K mg base CX0 3 fpk fdpk ["_law_hand_here", "_law_things"] spPick) (gpk : mg "_law_pick" = some (.ref fpk)) (kpk : PySem.W.keepIn K (.ref fpk) = true) (bpk : Binds K fdpk ["_law_hand_here", "_law_things"] [])
    (Gdr : FnOk P w K mg base CX0 2 fdr fddr ["_law_hand_here", "_law_many"] spDraw) (gdr : mg "_law_draw" = some (.ref fdr)) (kdr : PySem.W.keepIn K (.ref fdr) = true) (bdr : Binds K fddr ["_law_hand_here", "_law_many"] [])
    (m_len : mg "len" = none) (m_list : mg "list" = none) : FnOk P w K mg base CX0 4 f fd ["_law_hand_here", "_law_hands"] spBh := by
  refine F.ok sc__law_bent_hands (fun vs H Q E h => ?_) (fun cdv A outer s H vs Q E hr h => ?_)
  · obtain ⟨h, c, th, n, hs, rfl, _⟩ := h
    rfl
  · obtain ⟨h, c, th, n, hs, rfl, hh, ht, hl, n2, n5, hm, q⟩ := h
    refine ⟨_, (pss_cons (ps_set (i := 2) sc__law_bent_hands.nd rfl (by first | exact Or.inl rfl | exact Or.inr rfl) (pe_call Gdr (hr.mono (by decide)) (by rfl) gdr kdr bdr .nil pass0 (pa_cons (pv 0) (pa_cons pe_int pa_nil))))
 (pss_cons (ps_set (i := 3) sc__law_bent_hands.nd rfl (by first | exact Or.inl rfl | exact Or.inr rfl) (pe_callB call_len_seq (by rfl) m_len boot_len (pa_cons (pv 1) pa_nil)))
 (pss_cons (ps_if (pt_cmpR op_eq (pv 2) pe_int (nomark _))
  (pss_one (ps_ret (pe_tup (pa_cons (pe_slice sl_list (pv 1) po_none (po_some (pe_un un_neg pe_int))) (pa_cons pe_bl pa_nil)))))
  pss_nil)
 (pss_cons (ps_if (pt_cmpR op_eq (pv 2) pe_int (nomark _))
  (pss_one (ps_ret (pe_tup (pa_cons (pe_op op_cat (pv 1) (pe_lst (pa_cons pe_int pa_nil))) (pa_cons pe_bl pa_nil)))))
  pss_nil)
 (pss_cons (ps_if (pt_cmpR op_eq (pv 2) pe_int (nomark _))
  (pss_one (ps_ret (pe_tup (pa_cons (pe_call Gpk (hr.mono (by decide)) (by rfl) gpk kpk bpk .nil pass0 (pa_cons (pv 0) (pa_cons (pe_lst (pa_cons pe_non (pa_cons pe_int (pa_cons (pe_op K7E.op_mulS pe_str (pv 3)) (pa_cons pe_dnewK pa_nil))))) pa_nil))) (pa_cons pe_bl pa_nil)))))
  pss_nil)
 (pss_cons (ps_set (i := 4) sc__law_bent_hands.nd rfl (by first | exact Or.inl rfl | exact Or.inr rfl) (pe_callTy call_list_of (by rfl) m_list boot_list (pa_cons (pv 1) pa_nil)))
 (pss_cons (ps_if (pt_cmpR op_eq (pv 2) pe_int (nomark _))
  (pss_cons (ps_asg (pe_call Gpk (hr.mono (by decide)) (by rfl) gpk kpk bpk .nil pass0 (pa_cons (pv 0) (pa_cons (pe_lst (pa_cons (pe_un un_neg pe_int) (pa_cons (pe_op op_add (pe_op op_pow pe_int pe_int) pe_int) (pa_cons pe_bl (pa_cons pe_non (pa_cons pe_str (pa_cons (pe_lst (pa_cons pe_int pa_nil)) (pa_cons pe_bl pa_nil)))))))) pa_nil))) (pg_sub (pv 4) (pe_call Gdr (hr.mono (by decide)) (by rfl) gdr kdr bdr .nil pass0 (pa_cons (pv 0) (pa_cons (pv 3) pa_nil))) set_list))
 (pss_one (ps_ret (pe_tup (pa_cons (pv 4) (pa_cons pe_bl pa_nil))))))
  pss_nil)
 (pss_one (ps_ret (pe_tup (pa_cons (pv 4) (pa_cons pe_bl pa_nil)))))))))))), ?_⟩
    have il : (ints_ hs).length = n := by unfold ints_; rw [List.length_map, hl]
    refine ⟨_, rfl, h, c, 6, rfl, hh, by decide, by decide, fun H1 d d1 d0 d6 => ?_⟩
    have st1 := Stay.of_drawn hh d1
    have ht1 := st1.lst ht (notHand_ints _)
    refine ⟨_, rfl, th, _, rfl, .inl (.inl (.inl ht1)), _, rfl, rfl, _, rfl, ite2 (fun c1 => ?_) (fun c1 => ?_)⟩
    · refine ⟨_, rfl, _, rfl, _, rfl, th, _, rfl, .inl (.inl ht1), fun p np => ?_⟩
      obtain ⟨l1, l2⟩ := cut_one (ints_ hs) (by omega)
      have e1 := al (o := .lst (cutV (ints_ hs) none (some (-1)))) np
      have hp : upd H1 p (.lst (cutV (ints_ hs) none (some (-1)))) p = some (.lst (cutV (ints_ hs) none (some (-1)))) := upd_same
      have st2 := st1.same e1
      refine ⟨by show 2 ≤ sizeLine; decide, fun u nu => ?_⟩
      have e2 := al (o := .tup [.ref p, .bl false]) nu
      refine q _ u (.ref p) false (st2.same e2) (st2.free nu) upd_same (off_row (.inr (e2 _ _ hp)) (fun y hy => nat_leaf y (l2 y hy)) (by omega) (.inl (by omega))) (fun e => ?_) (fun e => nomatch e)
      cases e
      exact (st1.hand.ne np).1 rfl
    refine ⟨_, rfl, rfl, _, rfl, ite2 (fun c2 => ?_) (fun c2 => ?_)⟩
    · refine ⟨_, rfl, by show 1 ≤ sizeLine; decide, fun z nz => ?_⟩
      have e0 := al (o := .lst [.int 0]) nz
      have st0 := st1.same e0
      refine ⟨th, z, _, _, rfl, rfl, e0 _ _ ht1, upd_same, by rw [il]; show n + 1 ≤ sizeLine; rw [sizeLine_eq]; omega, fun p np => ?_⟩
      have e1 := al (o := .lst (ints_ hs ++ [.int 0])) np
      have st2 := st0.same e1
      refine ⟨by show 2 ≤ sizeLine; decide, fun u nu => ?_⟩
      have e2 := al (o := .tup [.ref p, .bl false]) nu
      have lz : (ints_ hs ++ [V.int 0]).length = n + 1 := by rw [List.length_append, il]; rfl
      refine q _ u (.ref p) false (st2.same e2) (st2.free nu) upd_same (off_row (.inr (e2 _ _ upd_same)) (fun y hy => ?_) (by omega) (.inl (by omega))) (fun e => ?_) (fun e => nomatch e)
      · rcases List.mem_append.mp hy with hy | hy
        · exact nat_leaf y hy
        · rw [List.mem_singleton.mp hy]
          exact .inl (.int _)
      · cases e
        exact (st0.hand.ne np).1 rfl
    refine ⟨_, rfl, rfl, _, rfl, ite2 (fun c3 => ?_) (fun c3 => ?_)⟩
    · refine ⟨_, rfl, _, rfl, _, _, rfl, rfl, by decide, by omega, by omega, fun z nz => ?_⟩
      have e0 := al (o := .dK []) nz
      have st0 := st1.same e0
      refine ⟨by show 4 ≤ sizeLine; decide, fun p np => ?_⟩
      have e1 := al (o := .lst [.non, .int 0, .str (Txt.mul "0" ((ints_ hs).length : Nat)), .ref z]) np
      have st2 := st0.same e1
      have hz : upd (upd H1 z (.dK [])) p (.lst [.non, .int 0, .str (Txt.mul "0" ((ints_ hs).length : Nat)), .ref z]) z = some (.dK []) := e1 _ _ upd_same
      refine ⟨h, c, p, _, rfl, st2.hand, (st0.hand.ne np).1, upd_same, by show 0 < 4; decide, by show 4 ≤ 1000; decide, fun H2 j v d2 hv => ?_⟩
      have st3 := st2.drawn d2
      have nov : NoRow H2 v := by
        have m := List.mem_of_getElem? hv
        simp only [List.mem_cons, List.not_mem_nil, or_false] at m
        rcases m with rfl | rfl | rfl | rfl
        · exact .inl .non
        · exact .inl (.int _)
        · exact .inl (.str _)
        · exact .inr ⟨z, rfl, (Stay.of_drawn st2.hand d2).but _ _ (st2.hand.ned hz) hz⟩
      refine ⟨by show 2 ≤ sizeLine; decide, fun u nu => ?_⟩
      have e2 := al (o := .tup [v, .bl false]) nu
      refine q _ u v false (st3.same e2) (st3.free nu) upd_same (.no (nov.same e2)) (fun e => ?_) (fun e => nomatch e)
      subst e
      rcases nov with k | ⟨b, e, k⟩
      · cases k
      · cases e
        exact (st3.hand.ned k) rfl
    refine ⟨_, rfl, th, _, rfl, .inl (.inl (.inl ht1)), fun R nR => ?_⟩
    have e0 := al (o := .lst (ints_ hs)) nR
    have hR : upd H1 R (.lst (ints_ hs)) R = some (.lst (ints_ hs)) := upd_same
    have nRh := (st1.hand.ne nR).1
    have st0 := st1.same e0
    generalize upd H1 R (.lst (ints_ hs)) = H2 at e0 hR st0 ⊢
    refine ⟨_, rfl, rfl, _, rfl, ite2 (fun c4 => ?_) (fun c4 => ?_)⟩
    · have big : (10 : Int) ^ (30 : Int).toNat = 10 ^ 30 := by decide
      refine ⟨_, rfl, _, rfl, _, _, rfl, rfl, ⟨by decide, by decide, by decide⟩, _, _, rfl, rfl, by show 1 ≤ sizeLine; decide, fun z nz => ?_⟩
      have f0 := al (o := .lst [.int 0]) nz
      have st2 := st0.same f0
      refine ⟨by show 7 ≤ sizeLine; decide, fun p np => ?_⟩
      have e1 := al (o := .lst [.int (-1), .int (10 ^ (30 : Int).toNat + 1), .bl true, .non, .str "0", .ref z, .bl false]) np
      have st3 := st2.same e1
      have hz : upd (upd H2 z (.lst [.int 0])) p (.lst [.int (-1), .int (10 ^ (30 : Int).toNat + 1), .bl true, .non, .str "0", .ref z, .bl false]) z = some (.lst [.int 0]) := e1 _ _ upd_same
      have hR1 := e1 _ _ (f0 _ _ hR)
      refine ⟨h, c, p, _, rfl, st3.hand, (st2.hand.ne np).1, upd_same, by show 0 < 7; decide, by show 7 ≤ 1000; decide, fun H3 j v d3 hv => ?_⟩
      have x3 := Stay.of_drawn st3.hand d3
      have st4 := st3.trans x3
      have hR3 := x3.lst hR1 (notHand_ints _)
      have hz3 := x3.lst hz rfl
      have fv : ∀ H' : Hp, H' z = some (.lst [.int 0]) → Leaf H' v ∧ wholeH v = false := fun H' x => by
        have m := List.mem_of_getElem? hv
        simp only [List.mem_cons, List.not_mem_nil, or_false] at m
        rcases m with rfl | rfl | rfl | rfl | rfl | rfl | rfl
        · exact ⟨.inl (.int _), by decide +kernel⟩
        · exact ⟨.inl (.int _), by decide +kernel⟩
        · exact ⟨.inl (.bl _), rfl⟩
        · exact ⟨.inl .non, rfl⟩
        · exact ⟨.inl (.str _), rfl⟩
        · exact ⟨.inr ⟨z, _, rfl, x, .int _⟩, rfl⟩
        · exact ⟨.inl (.bl _), rfl⟩
      refine ⟨_, rfl, _, rfl, _, rfl, h, c, ((ints_ hs).length : Nat), rfl, st4.hand, by omega, by omega, fun H4 k d4 k0 kn => ?_⟩
      have x4 := Stay.of_drawn st4.hand d4
      have st5 := st4.trans x4
      have hR4 := x4.lst hR3 (notHand_ints _)
      obtain ⟨m, rfl⟩ : ∃ m : Nat, k = (m : Nat) := ⟨k.toNat, by omega⟩
      refine ⟨R, _, _, _, rfl, rfl, hR4, ixN_nat (by omega), ?_⟩
      refine ⟨_, rfl, by show 2 ≤ sizeLine; decide, fun u nu => ?_⟩
      have nR0 := st1.free nR
      have kp : Stay h c H (upd H4 R (.lst ((ints_ hs).set m v))) := st5.put nR0
      have k4 : upd H4 R (.lst ((ints_ hs).set m v)) z = some (.lst [.int 0]) := by
        rw [upd_ne (fun e => by rw [e, hR] at nz; cases nz)]
        exact x4.lst hz3 rfl
      have e2 := al (o := .tup [.ref R, .bl false]) nu
      have lf := fv _ (e2 _ _ k4)
      refine q _ u (.ref R) false (kp.same e2) (kp.free nu) upd_same (off_row (.inr (e2 _ _ upd_same)) (fun y hy => ?_) (by rw [List.length_set]; omega) (.inr ⟨v, List.mem_of_getElem? (i := m) (by rw [List.getElem?_set_self (by omega)]), lf.2⟩)) (fun e => ?_) (fun e => nomatch e)
      · rcases List.mem_or_eq_of_mem_set hy with hy | rfl
        · exact nat_leaf y hy
        · exact lf.1
      · cases e
        exact nRh rfl
    · refine ⟨_, rfl, by show 2 ≤ sizeLine; decide, fun u nu => ?_⟩
      have e2 := al (o := .tup [.ref R, .bl true]) nu
      have k := hd_ok (n := n) (th := R) (.inr (e2 _ _ hR)) hl n5 hm
      refine q _ u (.ref R) true (st0.same e2) (st0.free nu) upd_same k (fun e => ?_) (fun _ => ⟨R, rfl, e2 _ _ hR⟩)
      cases e
      exact nRh rfl
end
end K7
end
/-! ## P25 -/
section
open PySem PySem.Spec PyProof.Rows L2
namespace K7
abbrev N__law_bent_table : List Str := ["_law_hand_here", "_law_table_here", "_law_n", "_law_rows_here", "_law_row", "_law_sort", "_law_at", "_law_k", "_law_a", "_law_b"]
abbrev s__law_bent_table : Stmt := topS 45
theorem sc__law_bent_table : FnScope ["_law_hand_here", "_law_table_here", "_law_n", "_law_rows_here", "_law_row", "_law_sort", "_law_at", "_law_k", "_law_a", "_law_b"] ["_law_hand_here", "_law_table_here"] (defScope s__law_bent_table) := ⟨rfl, rfl, rfl, by decide +kernel, rfl, by decide +kernel, by decide +kernel⟩
/-! ### tables, bent or not -/
def rLst (K : PySem.W.Frag) : List V → Hp → VK → Prop := fun xs H Q => ∃ p ys, xs = [.ref p] ∧ (SqL K H p ys ∨ SqT K H p ys) ∧ ∀ l, H l = none → Q (.ref l) (upd H l (.lst ys))
theorem tb_off {n : Nat} {H : Hp} {t : Addr} {vs : List V} (h : SqOf H t vs) (l : vs.length ≤ 10) (r : ∀ i y, vs[i]? = some y → ∃ b, RwV n i H y b) (off : vs.length ≠ n ∨ ∃ i y, vs[i]? = some y ∧ RwV n i H y false) : TbV n H (.ref t) false := by
  classical
  let f : Nat → Bool := fun i => if ∃ y, vs[i]? = some y ∧ RwV n i H y false then false else true
  have lb : ((List.range vs.length).map f).length = vs.length := by rw [List.length_map, List.length_range]
  have at_ : ∀ i y, vs[i]? = some y → ((List.range vs.length).map f)[i]? = some (f i) := fun i y hy => by
    have hi := (List.getElem?_eq_some_iff.mp hy).1
    rw [List.getElem?_map, List.getElem?_range hi]
    rfl
  have k := TbV.row (n := n) (bs := (List.range vs.length).map f) h l lb fun i y hy => ⟨f i, at_ i y hy, by
    by_cases e : ∃ y, vs[i]? = some y ∧ RwV n i H y false
    · rw [show f i = false from if_pos e]
      obtain ⟨y', h1, h2⟩ := e
      obtain rfl := Option.some.inj (hy.symm.trans h1)
      exact h2
    · rw [show f i = true from if_neg e]
      obtain ⟨b, hb⟩ := r i y hy
      cases b with
      | true => exact hb
      | false => exact absurd ⟨y, hy, hb⟩ e⟩
  rw [show (decide (vs.length = n) && ((List.range vs.length).map f).all id) = false from ?_] at k
  · exact k
  · rcases off with off | ⟨i, y, hy, hw⟩
    · rw [decide_eq_false off, Bool.false_and]
    · rw [Bool.and_eq_false_iff]
      right
      rw [List.all_eq_false]
      refine ⟨f i, List.mem_of_getElem? (at_ i y hy), ?_⟩
      rw [show f i = false from if_pos ⟨y, hy, hw⟩]
      decide
theorem wds_leaf {H : Hp} {row : List Nat} : ∀ y ∈ wds row, Leaf H y := fun y hy => by
  obtain ⟨x, _, rfl⟩ := List.mem_map.mp hy
  exact .inl (.str _)
theorem wds_len (row : List Nat) : (wds row).length = row.length := List.length_map ..
theorem rw_off {n i : Nat} {H : Hp} {b : Addr} {vs : List V} (h : SqOf H b vs) (it : ∀ y ∈ vs, Leaf H y) (l : vs.length ≤ 10) (off : vs.length ≠ n ∨ (∃ y ∈ vs, isWord y = false) ∨ ∃ y, vs[i]? = some y ∧ y ≠ .str "none") : RwV n i H (.ref b) false := by
  have k := RwV.row (n := n) (a := i) h it l
  rw [show (decide (vs.length = n) && (vs.all isWord && decide (vs[i]? = some (.str "none")))) = false from ?_] at k
  · exact k
  · rcases off with off | ⟨y, m, hy⟩ | ⟨y, m, hy⟩
    · rw [decide_eq_false off, Bool.false_and]
    · rw [Bool.and_eq_false_iff, Bool.and_eq_false_iff]
      right
      left
      rw [List.all_eq_false]
      exact ⟨y, m, by rw [hy]; decide⟩
    · rw [Bool.and_eq_false_iff, Bool.and_eq_false_iff]
      right
      right
      rw [m]
      exact decide_eq_false fun e => hy (Option.some.inj e)
theorem RLt.get {D : Addr} {H : Hp} {rs : List Addr} {tab : List (List Nat)} (h : RLt D H rs tab) : ∀ {i : Nat} {r : Addr}, rs[i]? = some r → ∃ row, tab[i]? = some row ∧ H r = some (.lst (wds row)) ∧ r ≠ D := by
  induction h with
  | nil => exact fun h => nomatch h
  | cons h n _ ih =>
    intro i u hu
    cases i with
    | zero =>
      obtain rfl := Option.some.inj hu
      exact ⟨_, rfl, h, n⟩
    | succ i => exact ih (i := i) hu
theorem RLt.set {D : Addr} {H : Hp} {rs : List Addr} {tab : List (List Nat)} (h : RLt D H rs tab) (nd : rs.Nodup) {i : Nat} {r : Addr} (hr : rs[i]? = some r) (row' : List Nat) : RLt D (upd H r (.lst (wds row'))) rs (tab.set i row') := by
  induction h generalizing i with
  | nil => cases hr
  | @cons u row rs tab h n t ih =>
    rw [List.nodup_cons] at nd
    cases i with
    | zero =>
      obtain rfl := Option.some.inj hr
      refine .cons upd_same n ?_
      have keep : ∀ {rs : List Addr} {tab : List (List Nat)}, u ∉ rs → RLt D H rs tab → RLt D (upd H u (.lst (wds row'))) rs tab := fun {rs tab} hn t => by
        induction t with
        | nil => exact .nil
        | @cons v row rs tab h n t ih => exact .cons (by rw [upd_ne (fun e => hn (by rw [← e]; exact List.mem_cons_self ..))]; exact h) n (ih fun m => hn (List.mem_cons_of_mem _ m))
      exact keep nd.1 t
    | succ i =>
      have m := List.mem_of_getElem? (show rs[i]? = some r from hr)
      exact .cons (by rw [upd_ne (fun e => nd.1 (by rw [e]; exact m))]; exact h) n (ih nd.2 hr)
theorem RLt.rw_ {n : Nat} {D X : Addr} {H H' : Hp} {rs : List Addr} {tab : List (List Nat)} (h : RLt D H rs tab) (l : ∀ row ∈ tab, row.length ≤ 10) (keep : ∀ b o, b ≠ X → H b = some o → H' b = some o) {i : Nat} (j : Nat) {r : Addr} (hr : rs[i]? = some r) (ne : r ≠ X) : ∃ b, RwV n j H' (.ref r) b := by
  obtain ⟨row, h1, h2, _⟩ := h.get hr
  exact ⟨_, .row (.inr (keep _ _ ne h2)) wds_leaf (by rw [wds_len]; exact l _ (List.mem_of_getElem? h1))⟩
/-- a table of one's own -/
structure Bt (h : Addr) (H0 H : Hp) (D : Addr) (n : Nat) (rs : List Addr) (tab : List (List Nat)) : Prop where
  d0 : H0 D = none
  hD : H D = some (.lst (rs.map V.ref))
  rl : RLt D H rs tab
  nd : rs.Nodup
  fr : ∀ r ∈ rs, H0 r = none
  tl : tab.length = n
  ln : ∀ r ∈ tab, r.length = n
  dg : ∀ (i : Nat) (r : List Nat), tab[i]? = some r → r[i]? = some 0
  hh : ∃ o, H0 h = some o
theorem Bt.ne {h : Addr} {H0 H : Hp} {D : Addr} {n : Nat} {rs : List Addr} {tab : List (List Nat)} (B : Bt h H0 H D n rs tab) : D ≠ h ∧ ∀ r ∈ rs, r ≠ h := by
  obtain ⟨o, ho⟩ := B.hh
  exact ⟨fun e => (by rw [← e, B.d0] at ho; cases ho), fun r m e => (by rw [← e, B.fr r m] at ho; cases ho)⟩
theorem Bt.mono {h : Addr} {H0 H H' : Hp} {D : Addr} {n : Nat} {rs : List Addr} {tab : List (List Nat)} (B : Bt h H0 H D n rs tab) (i : ∀ b o, b ≠ h → H b = some o → H' b = some o) : Bt h H0 H' D n rs tab := by
  refine ⟨B.d0, i _ _ B.ne.1 B.hD, ?_, B.nd, B.fr, B.tl, B.ln, B.dg, B.hh⟩
  have : ∀ {rs : List Addr} {tab : List (List Nat)}, (∀ r ∈ rs, r ≠ h) → RLt D H rs tab → RLt D H' rs tab := fun {rs tab} hn t => by
    induction t with
    | nil => exact .nil
    | cons h n _ ih => exact .cons (i _ _ (hn _ (List.mem_cons_self ..)) h) n (ih fun r hr => hn r (List.mem_cons_of_mem _ hr))
  exact this B.ne.2 B.rl
theorem Bt.row {h : Addr} {H0 H : Hp} {D : Addr} {n : Nat} {rs : List Addr} {tab : List (List Nat)} (B : Bt h H0 H D n rs tab) {m : Nat} (mn : m < n) : ∃ r row, rs[m]? = some r ∧ (rs.map V.ref)[m]? = some (.ref r) ∧ tab[m]? = some row ∧ H r = some (.lst (wds row)) ∧ row.length = n ∧ row[m]? = some 0 ∧ r ≠ D ∧ r ≠ h ∧ H0 r = none := by
  have lr : m < rs.length := by rw [B.rl.len, B.tl]; exact mn
  obtain ⟨r, hr⟩ : ∃ r, rs[m]? = some r := ⟨_, List.getElem?_eq_getElem lr⟩
  obtain ⟨row, h1, h2, h3⟩ := B.rl.get hr
  have mr := List.mem_of_getElem? hr
  exact ⟨r, row, hr, by rw [List.getElem?_map, hr]; rfl, h1, h2, B.ln _ (List.mem_of_getElem? h1), B.dg _ _ h1, h3, B.ne.2 r mr, B.fr r mr⟩
theorem Bt.le {h : Addr} {H0 H : Hp} {D : Addr} {n : Nat} {rs : List Addr} {tab : List (List Nat)} (B : Bt h H0 H D n rs tab) : (rs.map V.ref).length = n := by rw [List.length_map, B.rl.len, B.tl]
theorem Bt.any {h : Addr} {H0 H H' : Hp} {D X : Addr} {n : Nat} {rs : List Addr} {tab : List (List Nat)} (B : Bt h H0 H D n rs tab) (n5 : n ≤ 5) (keep : ∀ b o, b ≠ X → H b = some o → H' b = some o) (j : Nat) {r : Addr} (m : r ∈ rs) (ne : r ≠ X) : ∃ b, RwV n j H' (.ref r) b := by
  obtain ⟨i, hi⟩ := List.getElem?_of_mem m
  exact B.rl.rw_ (fun row hr => by rw [B.ln row hr]; omega) keep j hi ne
theorem Bt.nD {h : Addr} {H0 H : Hp} {D : Addr} {n : Nat} {rs : List Addr} {tab : List (List Nat)} (B : Bt h H0 H D n rs tab) {r : Addr} (m : r ∈ rs) : r ≠ D := by
  obtain ⟨i, hi⟩ := List.getElem?_of_mem m
  obtain ⟨_, _, _, h3⟩ := B.rl.get hi
  exact h3
theorem Bt.offD {h : Addr} {H0 H H' : Hp} {D : Addr} {n : Nat} {rs : List Addr} {tab : List (List Nat)} (B : Bt h H0 H D n rs tab) (n5 : n ≤ 5) (keep : ∀ b o, b ≠ D → H b = some o → H' b = some o) {m : Nat} {v : V} (mn : m < n) (hD' : H' D = some (.lst ((rs.map V.ref).set m v))) (hv : RwV n m H' v false) : TbV n H' (.ref D) false := by
  have le := B.le
  have lm : ((rs.map V.ref).set m v)[m]? = some v := by rw [List.getElem?_set_self (by omega)]
  refine tb_off (.inr hD') (by rw [List.length_set]; omega) (fun i y hy => ?_) (.inr ⟨m, v, lm, hv⟩)
  by_cases e : m = i
  · subst e
    obtain rfl := Option.some.inj (lm.symm.trans hy)
    exact ⟨false, hv⟩
  · rw [List.getElem?_set_ne e, List.getElem?_map] at hy
    obtain ⟨r, hr, rfl⟩ := Option.map_eq_some_iff.mp hy
    have mr := List.mem_of_getElem? hr
    exact B.any n5 keep i mr (B.nD mr)
theorem Bt.offR {h : Addr} {H0 H H' : Hp} {D : Addr} {n : Nat} {rs : List Addr} {tab : List (List Nat)} (B : Bt h H0 H D n rs tab) (n5 : n ≤ 5) {m : Nat} {r : Addr} (hr : rs[m]? = some r) (keep : ∀ b o, b ≠ r → H b = some o → H' b = some o) (hv : RwV n m H' (.ref r) false) : TbV n H' (.ref D) false := by
  have le := B.le
  have lm : (rs.map V.ref)[m]? = some (.ref r) := by rw [List.getElem?_map, hr]; rfl
  refine tb_off (.inr (keep _ _ (B.nD (List.mem_of_getElem? hr)).symm B.hD)) (by omega) (fun i y hy => ?_) (.inr ⟨m, _, lm, hv⟩)
  rw [List.getElem?_map] at hy
  obtain ⟨u, hu, rfl⟩ := Option.map_eq_some_iff.mp hy
  by_cases e : u = r
  · subst e
    have im : i = m := by
      have hi := (List.getElem?_eq_some_iff.mp hu).1
      exact (List.getElem?_inj hi B.nd).mp (hu.trans hr.symm)
    rw [im]
    exact ⟨false, hv⟩
  · exact B.any n5 keep i (List.mem_of_getElem? hu) e
section
variable {P : Program} {w : World} {K : PySem.W.Frag} {mg : Str → Option Value} {base : Heap} {a : AdL}
def spBt : Sp := fun vs H Q _ => ∃ (h c tt : Addr) (n : Nat) (rs : List Addr) (tab : List (List Nat)), vs = [.ref h, .ref tt] ∧ Hand H h c ∧ H tt = some (.lst (rs.map V.ref)) ∧ RLs H rs tab ∧ tab.length = n ∧ (∀ r ∈ tab, r.length = n) ∧ (∀ (i : Nat) (r : List Nat), tab[i]? = some r → r[i]? = some 0) ∧ 2 ≤ n ∧ n ≤ 5 ∧
  ∀ H' u v b, Stay h c H H' → H u = none → H' u = some (.tup [v, .bl b]) → TbV n H' v b → (b = true → ∃ t rs tab, v = .ref t ∧ H' t = some (.lst (rs.map V.ref)) ∧ RLs H' rs tab ∧ tab.length = n ∧ ∀ r ∈ tab, r.length = n) → Q (.ref u) H'
theorem ok_bt {f fdr fpk : Addr} {fd fddr fdpk : FuncData} (F : Fun K "_law_bent_table" "_law_bent_table" s__law_bent_table f fd)
    (Gpk : FnOk P w K mg base CX0 3 fpk fdpk ["_law_hand_here", "_law_things"] spPick) (gpk : mg "_law_pick" = some (.ref fpk)) (kpk : PySem.W.keepIn K (.ref fpk) = true) (bpk : Binds K fdpk ["_law_hand_here", "_law_things"] [])
    (Gdr : FnOk P w K mg base CX0 2 fdr fddr ["_law_hand_here", "_law_many"] spDraw) (gdr : mg "_law_draw" = some (.ref fdr)) (kdr : PySem.W.keepIn K (.ref fdr) = true) (bdr : Binds K fddr ["_law_hand_here", "_law_many"] [])
    (m_len : mg "len" = none) (m_list : mg "list" = none) (m_range : mg "range" = none) (m_int : mg "int" = none) : FnOk P w K mg base CX0 4 f fd ["_law_hand_here", "_law_table_here"] spBt := by
  refine F.ok sc__law_bent_table (fun vs H Q E h => ?_) (fun cdv A outer s H vs Q E hr h => ?_)
  · obtain ⟨h, c, tt, n, rs, tab, rfl, _⟩ := h
    rfl
  · obtain ⟨h, c, tt, n, rs, tab, rfl, hh, ht, hR, tl, ln, dg, n2, n5, q⟩ := h
    refine ⟨_, (pss_cons (ps_set (i := 2) sc__law_bent_table.nd rfl (by first | exact Or.inl rfl | exact Or.inr rfl) (pe_callB call_len_seq (by rfl) m_len boot_len (pa_cons (pv 1) pa_nil)))
 (pss_cons (ps_setLc (i := 3) (own := [("_law_row", 4)]) (g := gName 4) (tt := tYes) rfl sc__law_bent_table.nd rfl rfl (sw_true rfl rfl rfl (by decide +kernel)) (pi_list (pv 1)) (blkOk_by (own := [("_law_row", 4)]) (N := N__law_bent_table) (sc := defScope s__law_bent_table) (by decide +kernel)) (fun _ _ _ _ _ => (pg_name (i := 4) sc__law_bent_table.nd rfl (by first | exact Or.inl rfl | exact Or.inr rfl))) (fun _ _ _ _ _ => pts_nil) (fun _ _ _ _ _ => (pe_callTy (show CallR _ (.type "list") (rLst K) from call_list_of) (by rfl) m_list boot_list (pa_cons (pv 4) pa_nil))))
 (pss_cons (ps_set (i := 5) sc__law_bent_table.nd rfl (by first | exact Or.inl rfl | exact Or.inr rfl) (pe_call Gdr (hr.mono (by decide)) (by rfl) gdr kdr bdr .nil pass0 (pa_cons (pv 0) (pa_cons pe_int pa_nil))))
 (pss_cons (ps_set (i := 6) sc__law_bent_table.nd rfl (by first | exact Or.inl rfl | exact Or.inr rfl) (pe_call Gdr (hr.mono (by decide)) (by rfl) gdr kdr bdr .nil pass0 (pa_cons (pv 0) (pa_cons (pv 2) pa_nil))))
 (pss_cons (ps_if (pt_cmpR op_eq (pv 5) pe_int (nomark _))
  (pss_cons (ps_set (i := 3) sc__law_bent_table.nd rfl (by first | exact Or.inl rfl | exact Or.inr rfl) (pe_ifExp (pt_cmpR op_eq (pe_call Gdr (hr.mono (by decide)) (by rfl) gdr kdr bdr .nil pass0 (pa_cons (pv 0) (pa_cons pe_int pa_nil))) pe_int (nomark _)) (pe_slice sl_list (pv 3) po_none (po_some (pe_un un_neg pe_int))) (pe_op op_cat (pv 3) (pe_lst (pa_cons (pe_op op_rep (pe_lst (pa_cons pe_str pa_nil)) (pv 2)) pa_nil)))))
 (pss_one (ps_ret (pe_tup (pa_cons (pv 3) (pa_cons pe_bl pa_nil))))))
  pss_nil)
 (pss_cons (ps_if (pt_cmpR op_eq (pv 5) pe_int (nomark _))
  (pss_cons (ps_asg (pe_call Gpk (hr.mono (by decide)) (by rfl) gpk kpk bpk .nil pass0 (pa_cons (pv 0) (pa_cons (pe_lst (pa_cons (pe_slice sl_list (pe_ix ix_list (pv 3) (pv 6) (fun _ _ => rfl)) po_none (po_some (pe_un un_neg pe_int))) (pa_cons (pe_op op_cat (pe_ix ix_list (pv 3) (pv 6) (fun _ _ => rfl)) (pe_lst (pa_cons pe_str pa_nil))) (pa_cons pe_non (pa_cons pe_str (pa_cons pe_int pa_nil)))))) pa_nil))) (pg_sub (pv 3) (pv 6) set_list))
 (pss_one (ps_ret (pe_tup (pa_cons (pv 3) (pa_cons pe_bl pa_nil))))))
  pss_nil)
 (pss_cons (ps_if (pt_cmpR op_eq (pv 5) pe_int (nomark _))
  (pss_cons (ps_asg (pe_call Gpk (hr.mono (by decide)) (by rfl) gpk kpk bpk .nil pass0 (pa_cons (pv 0) (pa_cons (pe_lst (pa_cons pe_str (pa_cons pe_str (pa_cons pe_str (pa_cons pe_non (pa_cons pe_bl (pa_cons pe_int (pa_cons (pe_lst (pa_cons pe_str pa_nil)) (pa_cons pe_str pa_nil))))))))) pa_nil))) (pg_sub (pe_ix ix_list (pv 3) (pv 6) (fun _ _ => rfl)) (pe_call Gdr (hr.mono (by decide)) (by rfl) gdr kdr bdr .nil pass0 (pa_cons (pv 0) (pa_cons (pv 2) pa_nil))) set_list))
 (pss_one (ps_ret (pe_tup (pa_cons (pv 3) (pa_cons pe_bl pa_nil))))))
  pss_nil)
 (pss_cons (ps_if (pt_cmpR op_eq (pv 5) pe_int (nomark _))
  (pss_cons (ps_asg (pe_call Gpk (hr.mono (by decide)) (by rfl) gpk kpk bpk .nil pass0 (pa_cons (pv 0) (pa_cons (pe_lst (pa_cons pe_str (pa_cons pe_str (pa_cons pe_str pa_nil)))) pa_nil))) (pg_sub (pe_ix ix_list (pv 3) (pv 6) (fun _ _ => rfl)) (pv 6) set_list))
 (pss_one (ps_ret (pe_tup (pa_cons (pv 3) (pa_cons pe_bl pa_nil))))))
  pss_nil)
 (pss_cons (ps_if (pt_cmpR op_eq (pv 5) pe_int (nomark _))
  (pss_one (ps_ret (pe_tup (pa_cons (pe_call Gpk (hr.mono (by decide)) (by rfl) gpk kpk bpk .nil pass0 (pa_cons (pv 0) (pa_cons (pe_lst (pa_cons pe_non (pa_cons pe_int (pa_cons pe_str (pa_cons pe_dnewK pa_nil))))) pa_nil))) (pa_cons pe_bl pa_nil)))))
  pss_nil)
 (pss_cons (ps_if (pt_cmpR op_eq (pv 5) pe_int (nomark _))
  (pss_one (ps_for PassesOwn.never rfl (pi_range1 rfl m_range (pa_cons (pe_op op_add pe_int (pe_call Gdr (hr.mono (by decide)) (by rfl) gdr kdr bdr .nil pass0 (pa_cons (pv 0) (pa_cons pe_int pa_nil)))) pa_nil)) (pg_name (i := 7) sc__law_bent_table.nd rfl (by first | exact Or.inl rfl | exact Or.inr rfl))
  (pss_cons (ps_set (i := 8) sc__law_bent_table.nd rfl (by first | exact Or.inl rfl | exact Or.inr rfl) (pe_call Gdr (hr.mono (by decide)) (by rfl) gdr kdr bdr .nil pass0 (pa_cons (pv 0) (pa_cons (pv 2) pa_nil))))
 (pss_cons (ps_set (i := 9) sc__law_bent_table.nd rfl (by first | exact Or.inl rfl | exact Or.inr rfl) (pe_op op_mod (pe_callTy call_int1 (by rfl) m_int boot_int (pa_cons (pe_op op_add (pe_op op_add (pv 8) pe_int) (pe_call Gdr (hr.mono (by decide)) (by rfl) gdr kdr bdr .nil pass0 (pa_cons (pv 0) (pa_cons (pe_op op_sub (pv 2) pe_int) pa_nil)))) pa_nil)) (pv 2)))
 (pss_one (ps_asg (pe_call Gpk (hr.mono (by decide)) (by rfl) gpk kpk bpk .nil pass0 (pa_cons (pv 0) (pa_cons (pe_lst (pa_cons pe_str (pa_cons pe_str (pa_cons pe_str (pa_cons pe_str pa_nil))))) pa_nil))) (pg_sub (pe_ix ix_list (pv 3) (pv 8) (fun _ _ => rfl)) (pv 9) set_list)))))))
  pss_nil)
 (pss_one (ps_ret (pe_tup (pa_cons (pv 3) (pa_cons pe_bl pa_nil))))))))))))))), ?_⟩
    have il : (rs.map V.ref).length = n := by rw [List.length_map, hR.len, tl]
    refine ⟨_, rfl, tt, _, rfl, .inl (.inl (.inl ht)), ?_⟩
    rw [il]
    refine ⟨_, rfl, tt, rfl, ⟨_, .inl (.inl ht)⟩, fun D hD => lc_list (xs := rs.map V.ref) (fun j H2 => Same H H2 ∧ ∃ us, H2 D = some (.lst (us.map V.ref)) ∧ RLt D H2 us (tab.take j) ∧ us.Nodup ∧ ∀ r ∈ us, H r = none) ⟨al hD, [], upd_same, .nil, List.nodup_nil, fun r hr => nomatch hr⟩ (fun j H2 _ pv => .inl (.inl (pv.1 _ _ ht))) (fun j x H2 hx pv => ?_) (fun H2 pv => ?_)⟩
    · obtain ⟨e2, us, hD2, t2, nd, fr⟩ := pv
      rw [List.getElem?_map] at hx
      obtain ⟨r, hr', rfl⟩ := Option.map_eq_some_iff.mp hx
      obtain ⟨row, hrow, hat⟩ := hR.get hr'
      refine ⟨rfl, _, rfl, r, _, rfl, .inl (.inl (.inl (e2 _ _ hat))), fun u nu => ?_⟩
      have sU := al (o := .lst (wds row)) nu
      have ul : us.length ≤ 5 := by
        rw [t2.len, List.length_take]
        omega
      have uD : u ≠ D := fun e => by rw [e, hD2] at nu; cases nu
      have nu0 := e2.free nu
      have uu : u ∉ us := fun m => by
        obtain ⟨i, hi⟩ := List.getElem?_of_mem m
        obtain ⟨_, _, k, _⟩ := t2.get hi
        rw [k] at nu
        cases nu
      refine ⟨_, sU _ _ hD2, by rw [List.length_map]; exact small1000 (by omega), fun b o hb => ?_, us ++ [u], ?_, ?_, ?_, ?_⟩
      · rw [upd_ne (ne_of_none hb hD)]
        exact sU _ _ (e2 _ _ hb)
      · rw [upd_same, List.map_append]
        rfl
      · rw [List.take_add_one, hrow]
        have hu : upd H2 u (.lst (wds row)) u = some (.lst (wds row)) := upd_same
        exact ((t2.mono fun b row _ hb => sU _ _ hb).mono fun b row nb hb => by rw [upd_ne nb]; exact hb).append (.cons (by rw [upd_ne uD]; exact hu) uD .nil)
      · rw [List.nodup_append]
        refine ⟨nd, by simp, fun x hx y hy e => ?_⟩
        rw [List.mem_singleton.mp hy] at e
        exact uu (by rw [← e]; exact hx)
      · intro r hr
        rcases List.mem_append.mp hr with hr | hr
        · exact fr r hr
        · rw [List.mem_singleton.mp hr]
          exact nu0
    obtain ⟨e2, us, hD2, t2, nd, fr⟩ := pv
    rw [List.length_map, hR.len, List.take_length] at t2
    obtain ⟨ohd, hohd⟩ : ∃ o, H h = some o := by
      obtain ⟨ns, i, x, t, h1, _⟩ := hh
      exact ⟨_, h1⟩
    have B2 : Bt h H H2 D n us tab := ⟨hD, hD2, t2, nd, fr, tl, ln, dg, _, hohd⟩
    have st2 := Stay.of_same hh e2
    clear hD2 t2 nd fr
    refine ⟨_, rfl, h, c, 8, rfl, st2.hand, by decide, by decide, fun H3 d d3 d0 d8 => ?_⟩
    have B3 := B2.mono (Stay.of_drawn st2.hand d3).but
    have st3 := st2.drawn d3
    refine ⟨_, rfl, _, rfl, h, c, (n : Nat), rfl, st3.hand, by omega, by omega, fun H4 m d4 m0 mn => ?_⟩
    have B4 := B3.mono (Stay.of_drawn st3.hand d4).but
    have st4 := st3.drawn d4
    obtain ⟨m, rfl⟩ : ∃ k : Nat, m = (k : Nat) := ⟨m.toNat, by omega⟩
    have mn : m < n := by omega
    clear B3 B2 st3 st2 m0
    have le := B4.le
    refine ⟨_, rfl, rfl, _, rfl, ite2 (fun c0 => ?_) (fun c0 => ?_)⟩
    · refine ⟨_, rfl, h, c, 2, rfl, st4.hand, by decide, by decide, fun H5 r5 d5 z0 z1 => ⟨rfl, _, rfl, ?_⟩⟩
      have B5 := B4.mono (Stay.of_drawn st4.hand d5).but
      have st5 := st4.drawn d5
      refine ite2 (fun c1 => ?_) (fun c1 => ?_)
      · refine ⟨_, rfl, _, rfl, _, rfl, D, _, rfl, .inl (.inl B5.hD), fun p np => ?_⟩
        obtain ⟨l1, l2⟩ := cut_one (us.map V.ref) (by omega)
        have e1 := al (o := .lst (cutV (us.map V.ref) none (some (-1)))) np
        refine ⟨_, rfl, by show 2 ≤ sizeLine; decide, fun u nu => ?_⟩
        have e2 := al (o := .tup [.ref p, .bl false]) nu
        have st6 := (st5.same e1).same e2
        refine q _ u (.ref p) false st6 ((st5.same e1).free nu) upd_same (tb_off (.inr (e2 _ _ upd_same)) (by omega) (fun i y hy => ?_) (.inl (by omega))) (fun e => nomatch e)
        obtain ⟨r, hr, rfl⟩ := List.mem_map.mp (l2 y (List.mem_of_getElem? hy))
        exact B5.any n5 (fun b o _ hb => e2 _ _ (e1 _ _ hb)) (X := D) i hr (B5.nD hr)
      · refine ⟨_, rfl, by show 1 ≤ sizeLine; decide, fun z nz => ?_⟩
        have e0 := al (o := .lst [.str "none"]) nz
        refine ⟨_, rfl, z, (n : Nat), _, rfl, rfl, upd_same, by omega, by omega, by show 1 * ((n : Nat) : Int).toNat ≤ sizeLine; rw [sizeLine_eq]; omega, fun y ny => ?_⟩
        rw [Int.toNat_natCast, flat_one, show List.replicate n (V.str "none") = wds (List.replicate n 0) by unfold wds; rw [List.map_replicate]; rfl]
        have e1 := al (o := .lst (wds (List.replicate n 0))) ny
        refine ⟨by show 1 ≤ sizeLine; decide, fun x nx => ?_⟩
        have e2 := al (o := .lst [.ref y]) nx
        have e012 := e0.trans (e1.trans e2)
        refine ⟨D, x, _, _, rfl, rfl, e012 _ _ B5.hD, upd_same, by rw [le, sizeLine_eq]; show n + 1 ≤ _; omega, fun p np => ?_⟩
        have e3 := al (o := .lst (us.map V.ref ++ [.ref y])) np
        refine ⟨_, rfl, by show 2 ≤ sizeLine; decide, fun u nu => ?_⟩
        have e4 := al (o := .tup [.ref p, .bl false]) nu
        have hy := e4 _ _ (e3 _ _ (e2 _ _ (upd_same (H := upd H5 z (.lst [.str "none"])) (a := y) (o := .lst (wds (List.replicate n 0))))))
        have ee := e012.trans (e3.trans e4)
        have lz : (us.map V.ref ++ [V.ref y]).length = n + 1 := by rw [List.length_append, le]; rfl
        refine q _ u (.ref p) false (st5.same ee) ((st5.same (e012.trans e3)).free nu) upd_same (tb_off (.inr (e4 _ _ upd_same)) (by omega) (fun i x hx => ?_) (.inl (by omega))) (fun e => nomatch e)
        rcases List.mem_append.mp (List.mem_of_getElem? hx) with mx | mx
        · obtain ⟨r, hr, rfl⟩ := List.mem_map.mp mx
          exact B5.any n5 (fun b o _ hb => ee _ _ hb) (X := D) i hr (B5.nD hr)
        · rw [List.mem_singleton.mp mx]
          exact ⟨_, .row (.inr hy) wds_leaf (by rw [wds_len, List.length_replicate]; omega)⟩
    obtain ⟨r, row, hr, hm, htr, hrow, rl, r0, rD, rh, nr0⟩ := B4.row mn
    have wl : (wds row).length = n := by rw [wds_len, rl]
    refine ⟨_, rfl, rfl, _, rfl, ite2 (fun c1 => ?_) (fun c1 => ?_)⟩
    · refine ⟨_, rfl, _, rfl, _, rfl, D, _, _, _, rfl, rfl, .inl (.inl B4.hD), atI_nat hm, _, rfl, _, rfl, r, _, rfl, .inl (.inl hrow), fun p np => ?_⟩
      obtain ⟨l1, l2⟩ := cut_one (wds row) (by omega)
      have e0 := al (o := .lst (cutV (wds row) none (some (-1)))) np
      have hp0 : upd H4 p (.lst (cutV (wds row) none (some (-1)))) p = some (.lst (cutV (wds row) none (some (-1)))) := upd_same
      generalize upd H4 p (.lst (cutV (wds row) none (some (-1)))) = H5 at e0 hp0 ⊢
      refine ⟨_, rfl, _, rfl, D, _, _, _, rfl, rfl, .inl (.inl (e0 _ _ B4.hD)), atI_nat hm, by show 1 ≤ sizeLine; decide, fun z nz => ?_⟩
      have e1 := al (o := .lst [.str "none"]) nz
      refine ⟨r, z, _, _, rfl, rfl, e1 _ _ (e0 _ _ hrow), upd_same, by rw [wl, sizeLine_eq]; show n + 1 ≤ _; omega, fun p2 np2 => ?_⟩
      have e2 := al (o := .lst (wds row ++ [.str "none"])) np2
      have hp2 : upd (upd H5 z (.lst [.str "none"])) p2 (.lst (wds row ++ [.str "none"])) p2 = some (.lst (wds row ++ [.str "none"])) := upd_same
      have e12 := e1.trans e2
      generalize upd (upd H5 z (.lst [.str "none"])) p2 (.lst (wds row ++ [.str "none"])) = H6 at e12 hp2 ⊢
      refine ⟨by show 5 ≤ sizeLine; decide, fun pl npl => ?_⟩
      have e3 := al (o := .lst [.ref p, .ref p2, .non, .str "none", .int 0]) npl
      have st6 := st4.same (e0.trans e12)
      have st7 := st6.same e3
      refine ⟨h, c, pl, _, rfl, st7.hand, (st6.hand.ne npl).1, upd_same, by show 0 < 5; decide, by show 5 ≤ 1000; decide, fun H8 j v d8 hv => ?_⟩
      have x8 := Stay.of_drawn st7.hand d8
      have st8 := st7.trans x8
      have ph : p ≠ h := fun e => by
        have := (st4.hand.ne np).1
        exact this e
      have p2h : p2 ≠ h := (((st4.same e0).same e1).hand.ne np2).1
      have B8 := (B4.mono fun b o nb hb => (e0.trans (e12.trans e3)) _ _ hb).mono x8.but
      have hp8 := x8.but _ _ ph (e3 _ _ (e12 _ _ hp0))
      have hp28 := x8.but _ _ p2h (e3 _ _ hp2)
      have pD : p ≠ D := fun e => by rw [e, B4.hD] at np; cases np
      have p2D : p2 ≠ D := fun e => by rw [e, e1 _ _ (e0 _ _ B4.hD)] at np2; cases np2
      refine ⟨_, rfl, _, rfl, D, _, _, _, rfl, rfl, B8.hD, ixN_nat (by omega), ?_⟩
      refine ⟨_, rfl, by show 2 ≤ sizeLine; decide, fun u nu => ?_⟩
      have e9 := al (o := .tup [.ref D, .bl false]) nu
      have st9 := st8.put (o := .lst ((us.map V.ref).set m v)) B8.d0
      have keep : ∀ b o, b ≠ D → H8 b = some o → upd (upd H8 D (.lst ((us.map V.ref).set m v))) u (.tup [.ref D, .bl false]) b = some o := fun b o nb hb => e9 _ _ (by rw [upd_ne nb]; exact hb)
      refine q _ u (.ref D) false (st9.same e9) (st9.free nu) upd_same (B8.offD n5 keep mn (e9 _ _ upd_same) ?_) (fun e => nomatch e)
      have mm := List.mem_of_getElem? hv
      simp only [List.mem_cons, List.not_mem_nil, or_false] at mm
      rcases mm with rfl | rfl | rfl | rfl | rfl
      · exact rw_off (.inr (keep _ _ pD hp8)) (fun y hy => wds_leaf y (l2 y hy)) (by omega) (.inl (by omega))
      · refine rw_off (.inr (keep _ _ p2D hp28)) (fun y hy => ?_) (by rw [List.length_append, wl]; show n + 1 ≤ 10; omega) (.inl (by rw [List.length_append, wl]; show n + 1 ≠ n; omega))
        rcases List.mem_append.mp hy with hy | hy
        · exact wds_leaf y hy
        · rw [List.mem_singleton.mp hy]
          exact .inl (.str _)
      · exact .no (.inl .non)
      · exact .no (.inl (.str _))
      · exact .no (.inl (.int _))
    refine ⟨_, rfl, rfl, _, rfl, ite2 (fun c2 => ?_) (fun c2 => ?_)⟩
    · refine ⟨_, rfl, by show 1 ≤ sizeLine; decide, fun z nz => ?_⟩
      have e0 := al (o := .lst [.str "none"]) nz
      refine ⟨by show 8 ≤ sizeLine; decide, fun p np => ?_⟩
      have e1 := al (o := .lst [.str "", .str "Awake", .str "own", .non, .bl true, .int 0, .ref z, .str "need"]) np
      have hz : upd (upd H4 z (.lst [.str "none"])) p (.lst [.str "", .str "Awake", .str "own", .non, .bl true, .int 0, .ref z, .str "need"]) z = some (.lst [.str "none"]) := e1 _ _ upd_same
      have st5 := (st4.same e0).same e1
      refine ⟨h, c, p, _, rfl, st5.hand, ((st4.same e0).hand.ne np).1, upd_same, by show 0 < 8; decide, by show 8 ≤ 1000; decide, fun H6 j v d6 hv => ?_⟩
      have x6 := Stay.of_drawn st5.hand d6
      have st6 := st5.trans x6
      have B6 := (B4.mono fun b o nb hb => e1 _ _ (e0 _ _ hb)).mono x6.but
      have hz6 := x6.lst hz rfl
      have hr6 := x6.wds (e1 _ _ (e0 _ _ hrow))
      have fv : ∀ H' : Hp, H' z = some (.lst [.str "none"]) → Leaf H' v ∧ isWord v = false := fun H' x => by
        have m := List.mem_of_getElem? hv
        simp only [List.mem_cons, List.not_mem_nil, or_false] at m
        rcases m with rfl | rfl | rfl | rfl | rfl | rfl | rfl | rfl
        · exact ⟨.inl (.str _), by decide +kernel⟩
        · exact ⟨.inl (.str _), by decide +kernel⟩
        · exact ⟨.inl (.str _), by decide +kernel⟩
        · exact ⟨.inl .non, rfl⟩
        · exact ⟨.inl (.bl _), rfl⟩
        · exact ⟨.inl (.int _), rfl⟩
        · exact ⟨.inr ⟨z, _, rfl, x, .str _⟩, rfl⟩
        · exact ⟨.inl (.str _), by decide +kernel⟩
      refine ⟨_, rfl, _, rfl, D, _, _, _, rfl, rfl, .inl (.inl B6.hD), atI_nat hm, _, rfl, _, rfl, h, c, (n : Nat), rfl, st6.hand, by omega, by omega, fun H7 k d7 k0 kn => ?_⟩
      have x7 := Stay.of_drawn st6.hand d7
      have st7 := st6.trans x7
      have B7 := B6.mono x7.but
      have hr7 := x7.wds hr6
      obtain ⟨k, rfl⟩ : ∃ i : Nat, k = (i : Nat) := ⟨k.toNat, by omega⟩
      refine ⟨r, _, _, _, rfl, rfl, hr7, ixN_nat (by omega), ?_⟩
      refine ⟨_, rfl, by show 2 ≤ sizeLine; decide, fun u nu => ?_⟩
      have e9 := al (o := .tup [.ref D, .bl false]) nu
      have st9 := st7.put (o := .lst ((wds row).set k v)) nr0
      have keep : ∀ b o, b ≠ r → H7 b = some o → upd (upd H7 r (.lst ((wds row).set k v))) u (.tup [.ref D, .bl false]) b = some o := fun b o nb hb => e9 _ _ (by rw [upd_ne nb]; exact hb)
      have lf := fv _ (keep _ _ (fun e => by rw [e, hrow] at nz; cases nz) (x7.lst hz6 rfl))
      refine q _ u (.ref D) false (st9.same e9) (st9.free nu) upd_same (B7.offR n5 hr keep ?_) (fun e => nomatch e)
      refine rw_off (.inr (e9 _ _ upd_same)) (fun y hy => ?_) (by rw [List.length_set]; omega) (.inr (.inl ⟨v, List.mem_of_getElem? (i := k) (by rw [List.getElem?_set_self (by omega)]), lf.2⟩))
      rcases List.mem_or_eq_of_mem_set hy with hy | rfl
      · exact wds_leaf y hy
      · exact lf.1
    refine ⟨_, rfl, rfl, _, rfl, ite2 (fun c3 => ?_) (fun c3 => ?_)⟩
    · refine ⟨_, rfl, by show 3 ≤ sizeLine; decide, fun p np => ?_⟩
      have e1 := al (o := .lst [.str "awake", .str "needed", .str "asleep"]) np
      have st5 := st4.same e1
      refine ⟨h, c, p, _, rfl, st5.hand, (st4.hand.ne np).1, upd_same, by show 0 < 3; decide, by show 3 ≤ 1000; decide, fun H6 j v d6 hv => ?_⟩
      have x6 := Stay.of_drawn st5.hand d6
      have st6 := st5.trans x6
      have B6 := (B4.mono fun b o nb hb => e1 _ _ hb).mono x6.but
      have hr6 := x6.wds (e1 _ _ hrow)
      refine ⟨_, rfl, _, rfl, D, _, _, _, rfl, rfl, .inl (.inl B6.hD), atI_nat hm, _, rfl, r, _, _, _, rfl, rfl, hr6, ixN_nat (by omega), ?_⟩
      refine ⟨_, rfl, by show 2 ≤ sizeLine; decide, fun u nu => ?_⟩
      have e9 := al (o := .tup [.ref D, .bl false]) nu
      have st9 := st6.put (o := .lst ((wds row).set m v)) nr0
      have keep : ∀ b o, b ≠ r → H6 b = some o → upd (upd H6 r (.lst ((wds row).set m v))) u (.tup [.ref D, .bl false]) b = some o := fun b o nb hb => e9 _ _ (by rw [upd_ne nb]; exact hb)
      have lf : (∃ z, v = .str z) ∧ v ≠ .str "none" := by
        have m := List.mem_of_getElem? hv
        simp only [List.mem_cons, List.not_mem_nil, or_false] at m
        rcases m with rfl | rfl | rfl <;> exact ⟨⟨_, rfl⟩, by decide +kernel⟩
      refine q _ u (.ref D) false (st9.same e9) (st9.free nu) upd_same (B6.offR n5 hr keep ?_) (fun e => nomatch e)
      refine rw_off (.inr (e9 _ _ upd_same)) (fun y hy => ?_) (by rw [List.length_set]; omega) (.inr (.inr ⟨v, by rw [List.getElem?_set_self (by omega)], lf.2⟩))
      rcases List.mem_or_eq_of_mem_set hy with hy | rfl
      · exact wds_leaf y hy
      · obtain ⟨⟨z, rfl⟩, _⟩ := lf
        exact .inl (.str _)
    refine ⟨_, rfl, rfl, _, rfl, ite2 (fun c4 => ?_) (fun c4 => ?_)⟩
    · refine ⟨_, rfl, fun z nz => ?_⟩
      have e0 := al (o := .dK []) nz
      refine ⟨by show 4 ≤ sizeLine; decide, fun p np => ?_⟩
      have e1 := al (o := .lst [.non, .int 5, .str "none", .ref z]) np
      have hz : upd (upd H4 z (.dK [])) p (.lst [.non, .int 5, .str "none", .ref z]) z = some (.dK []) := e1 _ _ upd_same
      have st5 := (st4.same e0).same e1
      refine ⟨h, c, p, _, rfl, st5.hand, ((st4.same e0).hand.ne np).1, upd_same, by show 0 < 4; decide, by show 4 ≤ 1000; decide, fun H6 j v d6 hv => ?_⟩
      have x6 := Stay.of_drawn st5.hand d6
      have st6 := st5.trans x6
      have nov : NoRow H6 v := by
        have m := List.mem_of_getElem? hv
        simp only [List.mem_cons, List.not_mem_nil, or_false] at m
        rcases m with rfl | rfl | rfl | rfl
        · exact .inl .non
        · exact .inl (.int _)
        · exact .inl (.str _)
        · exact .inr ⟨z, rfl, x6.but _ _ (st5.hand.ned hz) hz⟩
      refine ⟨by show 2 ≤ sizeLine; decide, fun u nu => ?_⟩
      have e2 := al (o := .tup [v, .bl false]) nu
      exact q _ u v false (st6.same e2) (st6.free nu) upd_same (.no (nov.same e2)) (fun e => nomatch e)
    have fin : ∀ (H5 : Hp) (vs : List (List Nat)), Bt h H H5 D n us vs → Stay h c H H5 → ∀ u, H5 u = none → Q (.ref u) (upd H5 u (.tup [.ref D, .bl true])) := fun H5 vs B5 st5 u nu => by
      have e := al (o := .tup [.ref D, .bl true]) nu
      have rls := (B5.rl.rls.same e)
      exact q _ u (.ref D) true (st5.same e) (st5.free nu) upd_same (tb_ok (.inr (e _ _ B5.hD)) (B5.rl.rat.same e) B5.tl n5 B5.ln B5.dg) fun _ => ⟨D, us, vs, rfl, e _ _ B5.hD, rls, B5.tl, B5.ln⟩
    refine ⟨_, rfl, rfl, _, rfl, ite2 (fun c5 => ?_) (fun c5 => ?_)⟩
    · refine ⟨_, rfl, h, c, 2, rfl, st4.hand, by decide, by decide, fun H5 k5 d5 k0 k1 => ?_⟩
      have B5 := B4.mono (Stay.of_drawn st4.hand d5).but
      have st5 := st4.drawn d5
      obtain ⟨k5, rfl⟩ : ∃ i : Nat, k5 = (i : Nat) := ⟨k5.toNat, by omega⟩
      refine ⟨_, _, rfl, rfl, ((1 + k5 : Nat) : Int), congrArg (fun z => [V.int z]) (show (1 : Int) + ((k5 : Nat) : Int) = ((1 + k5 : Nat) : Int) by omega), by omega, by omega, for_range (lo := 0) (n := 1 + k5) (fun i σ H' => ∃ vs y7 y8 y9, σ = [some (.ref h), some (.ref tt), some (.int (n : Nat)), some (.ref D), none, some (.int d), some (.int (m : Nat)), y7, y8, y9] ∧ Bt h H H' D n us vs ∧ Stay h c H H')
        ⟨tab, none, none, none, rfl, B5, st5⟩ (fun i σ H6 hi pv => ?_) (fun σ H6 pv => ?_)⟩
      · obtain ⟨vs, y7, y8, y9, rfl, B6, st6⟩ := pv
        refine ⟨_, rfl, _, rfl, h, c, (n : Nat), rfl, st6.hand, by omega, by omega, fun H7 x d7 x0 xn => ?_⟩
        have B7 := B6.mono (Stay.of_drawn st6.hand d7).but
        have st7 := st6.drawn d7
        obtain ⟨x, rfl⟩ : ∃ i : Nat, x = (i : Nat) := ⟨x.toNat, by omega⟩
        refine ⟨_, rfl, _, _, rfl, rfl, _, rfl, _, rfl, _, _, rfl, rfl, h, c, ((n : Nat) : Int) - 1, rfl, st7.hand, by omega, by omega, fun H8 y d8 z0 z1 => ?_⟩
        have B8 := B7.mono (Stay.of_drawn st7.hand d8).but
        have st8 := st7.drawn d8
        obtain ⟨y, rfl⟩ : ∃ i : Nat, y = (i : Nat) := ⟨y.toNat, by omega⟩
        refine ⟨_, _, rfl, rfl, .inl ⟨_, rfl, _, rfl, _, _, rfl, rfl, by show (0 : Int) < (n : Nat); omega, ?_⟩⟩
        refine ⟨_, rfl, by show 4 ≤ sizeLine; decide, fun p np => ?_⟩
        have e1 := al (o := .lst [.str "awake", .str "needed", .str "asleep", .str "none"]) np
        have st9 := st8.same e1
        refine ⟨h, c, p, _, rfl, st9.hand, (st8.hand.ne np).1, upd_same, by show 0 < 4; decide, by show 4 ≤ 1000; decide, fun Ha j v da hv => ?_⟩
        have xa := Stay.of_drawn st9.hand da
        have sta := st9.trans xa
        have Ba := (B8.mono fun b o nb hb => e1 _ _ hb).mono xa.but
        have xn : x < n := by omega
        obtain ⟨r, row, hr, hm, htr, hrow, rl, r0, rD, rh, nr0⟩ := Ba.row xn
        obtain ⟨k, rfl⟩ : ∃ k, v = .str (wd k) := by
          have m := List.mem_of_getElem? hv
          simp only [List.mem_cons, List.not_mem_nil, or_false] at m
          rcases m with rfl | rfl | rfl | rfl
          · exact ⟨1, rfl⟩
          · exact ⟨2, rfl⟩
          · exact ⟨3, rfl⟩
          · exact ⟨0, rfl⟩
        have wl : (wds row).length = n := by rw [wds_len, rl]
        have bn : (x + 1 + y) % n < n := Nat.mod_lt _ (by omega)
        have ex : (((x : Nat) : Int) + 1 + (y : Nat)) % ((n : Nat) : Int) = (((x + 1 + y) % n : Nat) : Int) := by
          rw [Int.natCast_emod]
          congr 1
        have bx : (x + 1 + y) % n ≠ x := by
          by_cases hlt : x + 1 + y < n
          · rw [Nat.mod_eq_of_lt hlt]
            omega
          · rw [Nat.mod_eq_sub_mod (by omega), Nat.mod_eq_of_lt (by omega)]
            omega
        refine ⟨_, rfl, _, rfl, D, _, _, _, rfl, rfl, .inl (.inl Ba.hD), atI_nat hm, _, rfl, r, _, _, (x + 1 + y) % n, rfl, rfl, hrow, (show ixN (wds row).length ((((x : Nat) : Int) + 1 + (y : Nat)) % ((n : Nat) : Int)) = some ((x + 1 + y) % n) from by rw [ex]; exact ixN_nat (by omega)), ?_⟩
        have ew : (wds row).set ((x + 1 + y) % n) (.str (wd k)) = wds (row.set ((x + 1 + y) % n) k) := by unfold wds; rw [List.map_set]
        rw [ew]
        refine ⟨vs.set x (row.set ((x + 1 + y) % n) k), _, _, _, rfl, ⟨Ba.d0, by rw [upd_ne rD.symm]; exact Ba.hD, Ba.rl.set Ba.nd hr _, Ba.nd, Ba.fr, by rw [List.length_set]; exact Ba.tl, fun r' hr' => ?_, fun i' r' hr' => ?_, Ba.hh⟩, sta.put nr0⟩
        · rcases List.mem_or_eq_of_mem_set hr' with z | rfl
          · exact Ba.ln r' z
          · rw [List.length_set]
            exact rl
        · by_cases e : x = i'
          · subst e
            rw [List.getElem?_set_self (by rw [Ba.tl]; exact xn)] at hr'
            obtain rfl := Option.some.inj hr'
            rw [List.getElem?_set_ne bx]
            exact r0
          · rw [List.getElem?_set_ne e] at hr'
            exact Ba.dg _ _ hr'
      · obtain ⟨vs, y7, y8, y9, rfl, B6, st6⟩ := pv
        exact ⟨_, rfl, by show 2 ≤ sizeLine; decide, fun u nu => fin H6 vs B6 st6 u nu⟩
    · exact ⟨_, rfl, by show 2 ≤ sizeLine; decide, fun u nu => fin H4 tab B4 st4 u nu⟩
end
end K7
end
/-! ## EW -/
section
namespace K7E
open PySem PySem.Spec PyProof.Rows L2
/-! a class that is called under try -/
section
variable {X : Cx} {W : WX} {k : Nat} {f C : Addr} {fd : FuncData} {ps : List Str} {sp : Sp} {dvs : List V} {ds : List Value} {x m : Str} {p pos apos : Pos} {e o : Expr} {es : List Expr} {ta : TE} {t : TA}
theorem run_makeW {pins : List (Addr × Obj)} {σ : L2.St} {H : Hp} {s : Shared} {Q : VK} {us : List Value} {vs : List V} (M : Mk X.K C f) (F : FnOk X.prog X.w X.K X.mg X.base (L2.CX X.prog X.w) k f fd ps sp) (hr : Room (k + 1) X.A) (hb : Binds X.K fd ps ds) (hd : Vals dvs ds)
    (tk : Takes X W) (I : Inv X pins σ H s) (r : Vals vs us)
    (h : ∀ x dx, H x = none → H dx = none → dx ≠ x → sp (.ref x :: (vs ++ dvs)) (upd (upd H dx (.own x)) x (.ins C dx [])) (fun v H2 => v = .non ∧ Q (.ref x) H2) (fun cls d H' => W cls d σ H')) :
    wpAny (model X.prog X.w) X.A (call (.ref C) us) (EP X pins σ Q) X.xe s := by
  have hq := h (s.heap.objs.size + 1) s.heap.objs.size (I.hok.fresh (Nat.le_succ _)) (I.hok.fresh (Nat.le_refl _)) (Nat.ne_of_lt (Nat.lt_succ_self _))
  have I2 := Inv.made (C := C) I
  have r2 : Vals (V.ref (s.heap.objs.size + 1) :: (vs ++ dvs)) (Value.ref (s.heap.objs.size + 1) :: (us ++ ds)) := .cons rfl (r.append hd)
  have hl : (Value.ref (s.heap.objs.size + 1) :: us ++ ds).length = ps.length := by
    have e := r2.length
    rw [F.len _ _ _ _ hq] at e
    exact e.symm
  refine wpAny_call (make_map (f := f) I.kIn M.makes M.init (beq_iff_eq.mp M.fn) (codeAny_mono (F.run _ X.stack _ _ ⟨Value.ref (s.heap.objs.size + 1) :: us, []⟩ (Value.ref (s.heap.objs.size + 1) :: (us ++ ds)) _ _ _ (hr.make C us [])
    (I2.env0.make C us []) (hb _ (Value.ref (s.heap.objs.size + 1) :: us) I2.kIn hl) r2 hq) fun r s' hq' => ?_))
  cases r with
  | error e => exact tk e s' (XE.of_call (E := fun cls d H' => W cls d σ H') I2 (fun cls d H' h => h) hq')
  | ok fl =>
    cases fl with
    | ret u =>
      obtain ⟨v, H', I3, rv, ev, q3⟩ := I2.after hq'
      subst ev
      exact ⟨rv, ⟨V.ref (s.heap.objs.size + 1), H', I3, rfl, q3⟩⟩
    | next => exact False.elim hq'
    | brk => exact False.elim hq'
    | cont => exact False.elim hq'
theorem pe_makeW (M : Mk X.K C f) (F : FnOk X.prog X.w X.K X.mg X.base (L2.CX X.prog X.w) k f fd ps sp) (hr : Room (k + 1) X.A) (hg : Gl X x) (hm : X.mg x = some (.ref C)) (hb : Binds X.K fd ps ds) (hd : Vals dvs ds) (tk : Takes X W)
    (ha : PA X (e :: es) t) (hdb : (x == ("__debug__" : Str)) = false := by decide) (he : starEach (e :: es) X.env = (false, eval e X.env) :: starEach es X.env := by rfl) (hpl : (backTo pos (starEach es X.env)).any (·.1) = false := by rfl) :
    PE X (.Call (.Name x p) (e :: es) [] pos) (fun σ H Q => t σ H fun vs H1 => ∀ x dx, H1 x = none → H1 dx = none → dx ≠ x → sp (.ref x :: (vs ++ dvs)) (upd (upd H1 dx (.own x)) x (.ins C dx [])) (fun v H2 => v = .non ∧ Q (.ref x) H2) (fun cls d H' => W cls d σ H')) := by
  refine ⟨fun pins s σ H Q I h => ?_⟩
  refine wpAny_Call_Name_kw (ld_glob I hg hm ?_ hdb)
  refine PySem.W.callWith_K (h₀ := X.base) I.ok.mod.kin M.kp (thn (ha.run pos pins s σ H _ I h) fun us s1 ⟨vs, H1, I1, r, q⟩ => ⟨I1.kIn, ?_⟩) he hpl
  exact run_makeW M F hr hb hd tk I1 r q
end
/-! isinstance(e, (A, B)), e the exception that the suite holds -/
theorem call_isEdT {X : Cx} {a D : Addr} {cls : Value} {d : Option Addr} {oe : Obj} {pn : List (Addr × Obj)} (C : ExcC X.K D) (hz : Zc cls d oe) (hf : ∃ vs, oe.data = .fields vs) : CallR (X.suite a ((a, oe) :: pn)) (.builtin "isinstance") (fun xs H Q => cls = .ref D ∧ ∃ dd, d = some dd ∧ ∃ (tp : Addr) (cs : List V) (ws : List Value) (b : Bool) (fs : List (Str × V)), xs = [.ref a, .ref tp] ∧ H tp = some (.tup cs) ∧ Paired ClsV cs ws ∧ PySem.W.kitAny X.K (.ref D) ws = some b ∧ H dd = some (.xd fs) ∧ Q (.bl b) H) := by
  intro pins s σ H xs us Q I r h
  obtain ⟨rfl, dd, rfl, tp, cs, ws, b, fs, rfl, hT, k, e, hd, q⟩ := h
  obtain ⟨u1, u2, rfl, r1, r2⟩ := vals2 r
  cases r1
  cases (show u2 = Value.ref tp from r2)
  obtain ⟨_, its, rv, o, h1, h2, n, h3⟩ := (show ObjOk X.prog X.w H s.heap tp (.tup cs) from I.hok tp _ hT)
  have e3 := ClsV.all k rv
  subst e3
  obtain ⟨oc, od, dt, sl⟩ := o
  simp only at h2 h3
  subst h2 h3
  obtain ⟨hget, _⟩ := I.pin (a, oe) (List.mem_append.mpr (.inl List.mem_cons_self))
  obtain ⟨vs, hv⟩ := hf
  have hx : ObjOk X.prog X.w H s.heap dd (.xd fs) := I.hok dd _ hd
  obtain ⟨mA, hns, hrr⟩ := hx
  obtain ⟨od', ho, hl⟩ := lookIn_ns hns
  have J : PySem.W.InstAt s.heap a oe D (some od') := ⟨hget, hz.1, by unfold PySem.W.notCls; rw [hv] <;> rfl, by rw [hz.2]; exact ho⟩
  obtain ⟨cd, hcc, _⟩ := PySem.W.any_some C.hd
  exact PySem.W.kia_tup (PySem.W.kitx_exc (gt := none) (by rw [hcc]; rfl) C.hg C.hk C.hs C.ha C.hn C.ht C.hm) I.kIn J h1 e (fun z => nomatch z) fun tk => ⟨.bl b, H, I.kept (t' := tk) fun _ _ z => z, rfl, q⟩
end K7E
end
/-! ## P26 -/
section
open PySem PySem.Spec PyProof.Rows L2
namespace K7
abbrev N__law_told : List Str := ["_law_land_here", "_law_hands", "_law_table_here", "_law_made", "e"]
abbrev s__law_told : Stmt := topS 47
theorem sc__law_told : FnScope ["_law_land_here", "_law_hands", "_law_table_here", "_law_made", "e"] ["_law_land_here", "_law_hands", "_law_table_here"] (defScope s__law_told) := ⟨rfl, rfl, rfl, by decide +kernel, rfl, by decide +kernel, by decide +kernel⟩
abbrev N__law_start_word : List Str := ["_law_land_here", "e"]
abbrev s__law_start_word : Stmt := topS 48
theorem sc__law_start_word : FnScope ["_law_land_here", "e"] ["_law_land_here"] (defScope s__law_start_word) := ⟨rfl, rfl, rfl, by decide +kernel, rfl, by decide +kernel, by decide +kernel⟩
/-! ### what is told -/
structure Te (K : PySem.W.Frag) (mg : Str → Option Value) (B L : Addr) : Prop where
  gL : mg "LandError" = some (.ref L)
  exT : ExcC K B
  xfT : XfC K B
  mT : PySem.W.exmOne K (.ref B) (.ref B) = some true
  kL : PySem.W.kitOne K (.ref B) (.ref L) = some true
  kV : PySem.W.kitOne K (.ref B) (.type "ValueError") = some true
/-- what the top says of the class of states -/
structure Ts (K : PySem.W.Frag) (mg : Str → Option Value) (S : Addr) : Prop where
  g : mg "State" = some (.ref S)
  cl : Cls K S
  ha : PySem.W.findIn K (.ref S) "__class__" = some (some (.builtin "object.__class__"))
  hn : PySem.W.specialIn K (.builtin "object.__class__") "__get__" = some (some (.builtin "getset_descriptor.__get__"))
  ht : PySem.W.takesIn K (.builtin "object.__class__") = some true
  hm : PySem.W.mroIn K S (.type "object") = some true
  own : PySem.W.kitOne K (.ref S) (.ref S) = some true
section
variable {P : Program} {w : World} {K : PySem.W.Frag} {mg : Str → Option Value} {base : Heap} {a : AdL} {aST aRI S B iB fE L : Addr} {tH : Tok}
/-- what is told of hands and a table on a land of n cells -/
def ToldF (n : Nat) (H : Hp) (hv tv : V) (x : V) : Prop := (HdV n H hv false ∧ x = .str "hands") ∨ (HdV n H hv true ∧ ((TbV n H tv false ∧ x = .str "standings") ∨ (TbV n H tv true ∧
  ∃ (th : Addr) (hs : List Nat) (tt : Addr) (rs : List Addr) (tab : List (List Nat)), hv = .ref th ∧ SqOf H th (ints_ hs) ∧ tv = .ref tt ∧ SqOf H tt (rs.map V.ref) ∧ RAt H rs tab ∧ StFm n hs tab ∧ x = if aslB n hs tab then .str "asleep" else if awkB n hs tab then .str "awake" else .non)))
def Told (K : PySem.W.Frag) (a : AdL) (H : Hp) (lv hv tv : V) (x : V) : Prop := (OddL K a.C H lv ∧ x = .str "land") ∨ ∃ (l : Addr) (n : Nat) (es : List (Nat × Nat)) (rd : List Nat), lv = .ref l ∧ LandO a.C H l n es rd ∧ ToldF n H hv tv x
theorem told_new {H : Hp} {lv hv tv x : V} {Q : VK} {E : XK} (h : Told K a H lv hv tv x) (e : ∀ s, x = .str s → Flies H B "what" (.str s) E) (q : x = .non → ∀ H' y, Same H H' → H y = none → IsSt S H' y → Q (.ref y) H') : NewSt K a S B H lv hv tv Q E := by
  rcases h with ⟨o, rfl⟩ | ⟨l, n, es, rd, rfl, L, h⟩
  · exact .inl ⟨o, e _ rfl⟩
  · refine .inr ⟨l, n, es, rd, rfl, L, ?_⟩
    rcases h with ⟨h, rfl⟩ | ⟨h, ⟨t, rfl⟩ | ⟨t, th, hs, tt, rs, tab, rfl, h1, rfl, h2, hR, S', rfl⟩⟩
    · exact .inl ⟨h, e _ rfl⟩
    · exact .inr ⟨h, .inl ⟨t, e _ rfl⟩⟩
    · refine .inr ⟨h, .inr ⟨t, th, hs, tt, rs, tab, rfl, h1, rfl, h2, hR, S', fun z => e _ (by rw [z]; rfl), fun z1 z2 => e _ (by rw [z1, z2]; rfl), fun z1 z2 => q (by rw [z1, z2]; rfl)⟩⟩
theorem new_stG {H1 : Hp} {lv hv tv : V} {G : VK} {E : XK} {x dx : Addr} (hx : H1 x = none) (hdx : H1 dx = none) (hne : dx ≠ x) (h : NewSt K a S B H1 lv hv tv (fun y H2 => y = .ref x → G .non H2) E) : spStI K a S B (.ref x :: ([lv, hv, tv] ++ [])) (upd (upd H1 dx (.own x)) x (.ins S dx [])) G E := by
  have e : Same H1 (upd (upd H1 dx (.own x)) x (.ins S dx [])) := same_new (same_new (Same.refl H1) hdx) (by rw [upd_ne hne.symm]; exact hx)
  refine ⟨x, dx, lv, hv, tv, rfl, upd_same, ?_⟩
  rcases h with ⟨h1, h2⟩ | ⟨l, n, es, rd, rfl, L, h⟩
  · exact .inl ⟨h1.same e, h2.later e⟩
  · obtain ⟨dl, an, ar, ay, ac, tn, ty, tc, m1, _⟩ := L.at_
    refine .inr ⟨l, n, es, rd, rfl, L.same e, ne_of_none m1 hx, h.same e fun q H' b ⟨fs, hf⟩ => q H' x (fun z o hz => b z o (ne_of_none hz hx) (e _ _ hz)) hx ⟨dx, fs, hf⟩ rfl⟩
def spTold (K : PySem.W.Frag) (a : AdL) : Sp := fun vs H Q _ => ∃ (lv hv tv x : V), vs = [lv, hv, tv] ∧ Told K a H lv hv tv x ∧ ∀ H', Same H H' → Q x H'
theorem ok_told (T : Tl K mg a) (T3 : Te K mg B L) (TS : Ts K mg S) (TB : Tb K mg B iB) {f fI : Addr} {fd fdI : FuncData} (F : Fun K "_law_told" "_law_told" s__law_told f fd)
    (MS : Mk K S fI) (GS_ : FnOk P w K mg base (L2.CX P w) 5 fI fdI ["self", "land", "hands", "standings"] (spStI K a S B)) (bS : Binds K fdI ["self", "land", "hands", "standings"] [])
    (m_isinstance : mg "isinstance" = none) (m_ValueError : mg "ValueError" = none) : FnOk P w K mg base CX0 7 f fd ["_law_land_here", "_law_hands", "_law_table_here"] (spTold K a) := by
  refine F.ok sc__law_told (fun vs H Q E h => ?_) (fun cdv A outer s H vs Q E hr h => ?_)
  · obtain ⟨lv, hv, tv, x, rfl, _⟩ := h
    rfl
  · obtain ⟨lv, hv, tv, x, rfl, tl, q⟩ := h
    refine ⟨_, (pss_cons (ps_try_as (i := 4) rfl rfl sc__law_told.nd rfl rfl ⟨rfl, by decide, .inl TB.g⟩ takes0 (fun W pn xe tk _ => (pss_one (ps_set (i := 3) sc__law_told.nd rfl (by first | exact Or.inl rfl | exact Or.inr rfl) (K7E.pe_makeW MS GS_ (hr.mono (by decide)) (by rfl) TS.g bS .nil tk (pa_cons (pv 0) (pa_cons (pv 1) (pa_cons (pv 2) pa_nil))))))) (fun b oe cls d pn hz hf => (pss_one (ps_ret (pe_ifExp (pw_and (pt_val (pe_callB (K7E.call_isEdX T3.exT hz hf) (by rfl) m_isinstance boot_isinstance (pa_cons (pv 4) (pa_cons (pe_glob (v := .ref _) (by rfl) T3.gL rfl) pa_nil)))) (pw_and1 (pt_val (pe_callB (K7E.call_isEdX T3.exT hz hf) (by rfl) m_isinstance boot_isinstance (pa_cons (pv 4) (pa_cons (pe_bltn (v := .ty "ValueError") (by rfl) m_ValueError boot_ValueError rfl) pa_nil)))))).pt (pe_xf T3.xfT TB.no hz hf (pv 4)) pe_str)))))
 (pss_one (ps_ret (pe_ifExp (pt_val (pe_callB call_isi (by rfl) m_isinstance boot_isinstance (pa_cons (pv 3) (pa_cons (pe_glob (v := .ref _) rfl TS.g rfl) pa_nil)))) pe_non pe_str)))), ?_⟩
    refine ⟨_, rfl, _, rfl, _, rfl, ?_⟩
    intro x0 dx0 hx0 hdx0 hne0
    refine new_stG hx0 hdx0 hne0 (told_new tl ?_ ?_)
    · intro s es H' d e2 nd hd
      refine ⟨true, T3.mT, fun _ b hb' => ?_, fun z => nomatch z⟩
      refine ⟨_, rfl, rfl, d, rfl, .ref L, .ref L, true, _, rfl, fun u h => h, T3.kL, hd, _, rfl, iteTo rfl ?_⟩
      refine ⟨_, rfl, rfl, d, rfl, .ty "ValueError", .type "ValueError", true, _, rfl, fun u h => h, T3.kV, hd, _, rfl, iteTo rfl ?_⟩
      subst es
      exact ⟨_, rfl, rfl, rfl, d, _, _, rfl, hd, rfl, q _ e2⟩
    · intro ex H' y e2 ny hy hyx
      obtain ⟨dx, fs, hf⟩ := hy
      cases hyx
      subst ex
      exact ⟨rfl, _, rfl, _, _, _, _, _, rfl, .own _, .base (.ins hf TS.cl TS.ha TS.hn TS.ht TS.hm), TS.own, true, rfl, iteTo rfl (q _ e2)⟩
def spSw (K : PySem.W.Frag) (a : AdL) : Sp := fun vs H Q _ => ∃ (lv x : V), vs = [lv] ∧ ((OddL K a.C H lv ∧ x = .str "land") ∨ ∃ (l : Addr) (n : Nat) (es : List (Nat × Nat)) (rd : List Nat), lv = .ref l ∧ LandO a.C H l n es rd ∧ x = .non) ∧ ∀ H', Same H H' → Q x H'
theorem ok_sw (T3 : Te K mg B L) (TB : Tb K mg B iB) {f fst : Addr} {fd fdst : FuncData} (F : Fun K "_law_start_word" "_law_start_word" s__law_start_word f fd)
    (Gst : FnOk P w K mg base (L2.CX P w) 7 fst fdst ["land"] (spStart K a S B)) (gst : mg "start_state" = some (.ref fst)) (kst : PySem.W.keepIn K (.ref fst) = true) (bst : Binds K fdst ["land"] []) : FnOk P w K mg base CX0 8 f fd ["_law_land_here"] (spSw K a) := by
  refine F.ok sc__law_start_word (fun vs H Q E h => ?_) (fun cdv A outer s H vs Q E hr h => ?_)
  · obtain ⟨lv, x, rfl, _⟩ := h
    rfl
  · obtain ⟨lv, x, rfl, h, q⟩ := h
    refine ⟨_, (pss_cons (ps_try_as (i := 1) rfl rfl sc__law_start_word.nd rfl rfl ⟨rfl, by decide, .inl TB.g⟩ takes0 (fun W pn xe tk _ => (pss_one (ps_expr (K7E.pe_callW Gst (hr.mono (by decide)) (by rfl) gst kst bst .nil tk (pa_cons (pv 0) pa_nil))))) (fun b oe cls d pn hz hf => (pss_one (ps_ret (pe_xf T3.xfT TB.no hz hf (pv 1))))))
 (pss_one (ps_ret pe_non))), ?_⟩
    rcases h with ⟨o, rfl⟩ | ⟨l, n, es, rd, rfl, L0, rfl⟩
    · refine ⟨_, rfl, _, rfl, .inl ⟨o, fun H' d e2 nd hd => ?_⟩⟩
      refine ⟨true, T3.mT, fun _ b hb' => ?_, fun z => nomatch z⟩
      exact ⟨_, rfl, rfl, rfl, d, _, _, rfl, hd, rfl, q _ e2⟩
    · refine ⟨_, rfl, _, rfl, .inr ⟨l, n, es, rd, rfl, L0, fun H' y e2 ny hy => ?_⟩⟩
      exact q _ e2
end
end K7
end
/-! ## P27 -/
section
open PySem PySem.Spec PyProof.Rows L2
namespace K7
abbrev N_law : List Str := ["_law_script", "_law_hand_here", "_law_land_here", "_law_state", "_law_made", "_law_turn", "_law_hands", "_law_hands_right", "_law_table_here", "_law_table_right", "_law_due", "_law_kept", "_law_odd"]
abbrev s_law : Stmt := topS 49
theorem sc_law : FnScope ["_law_script", "_law_hand_here", "_law_land_here", "_law_state", "_law_made", "_law_turn", "_law_hands", "_law_hands_right", "_law_table_here", "_law_table_right", "_law_due", "_law_kept", "_law_odd"] ["_law_script"] (defScope s_law) := ⟨rfl, rfl, rfl, by decide +kernel, rfl, by decide +kernel, by decide +kernel⟩
/-! ### the law -/
structure To (K : PySem.W.Frag) (C : Addr) : Prop where
  kn : PySem.W.kitOne K (.type "NoneType") (.ref C) = some false
  ki : PySem.W.kitOne K (.type "int") (.ref C) = some false
  ks : PySem.W.kitOne K (.type "str") (.ref C) = some false
  kt : PySem.W.kitOne K (.type "tuple") (.ref C) = some false
theorem leaf_shp {H : Hp} {y : V} (l : Leaf H y) : Shp H 1 y := by
  rcases l with f | ⟨c, z, rfl, h, f⟩
  · exact .inl (.inl f)
  · exact .inr ⟨c, [z], rfl, .inr h, by show 1 ≤ 10; decide, fun y hy => by rw [List.mem_singleton.mp hy]; exact .inl f⟩
theorem hd_shp {n : Nat} {H : Hp} {v : V} {b : Bool} (h : HdV n H v b) : Shp H 3 v := by
  cases h with
  | no h => exact .inl h
  | row h it l => exact .inr ⟨_, _, rfl, h, l, fun y hy => Shp.up (leaf_shp (it y hy))⟩
theorem rw_shp {n i : Nat} {H : Hp} {v : V} {b : Bool} (h : RwV n i H v b) : Shp H 2 v := by
  cases h with
  | no h => exact .inl h
  | row h it l => exact .inr ⟨_, _, rfl, h, l, fun y hy => leaf_shp (it y hy)⟩
theorem tb_shp {n : Nat} {H : Hp} {v : V} {b : Bool} (h : TbV n H v b) : Shp H 3 v := by
  cases h with
  | no h => exact .inl h
  | row h l lb r => 
    refine .inr ⟨_, _, rfl, h, l, fun y hy => ?_⟩
    obtain ⟨i, hi⟩ := List.getElem?_of_mem hy
    obtain ⟨b, _, hb⟩ := r i y hi
    exact rw_shp hb
theorem rat_of {H : Hp} {rs : List Addr} {tab : List (List Nat)} (h : RTt H rs tab) : RAt H rs tab := by
  induction h with
  | nil => exact .nil
  | cons h _ ih => exact .cons (.inl h) ih
theorem ToldF.same {n : Nat} {H H' : Hp} {hv tv x : V} (h : ToldF n H hv tv x) (e : Same H H') : ToldF n H' hv tv x := by
  rcases h with ⟨h, k⟩ | ⟨h, ⟨t, k⟩ | ⟨t, th, hs, tt, rs, tab, k1, h1, k2, h2, hR, S', k3⟩⟩
  · exact .inl ⟨h.same e, k⟩
  · exact .inr ⟨h.same e, .inl ⟨t.same e, k⟩⟩
  · exact .inr ⟨h.same e, .inr ⟨t.same e, th, hs, tt, rs, tab, k1, h1.same e, k2, h2.same e, hR.same e, S', k3⟩⟩
theorem ToldF.flat {n : Nat} {H : Hp} {hv tv x : V} (h : ToldF n H hv tv x) : scal x x = true := by
  rcases h with ⟨h, rfl⟩ | ⟨h, ⟨t, rfl⟩ | ⟨t, th, hs, tt, rs, tab, k1, h1, k2, h2, hR, S', rfl⟩⟩
  · rfl
  · rfl
  · by_cases z1 : aslB n hs tab = true
    · rw [if_pos z1]; rfl
    · rw [if_neg z1]
      by_cases z2 : awkB n hs tab = true
      · rw [if_pos z2]; rfl
      · rw [if_neg z2]; rfl
section
variable {P : Program} {w : World} {K : PySem.W.Frag} {mg : Str → Option Value} {base : Heap} {a : AdL}
def spLaw (K : PySem.W.Frag) : Sp := fun vs H Q _ => ∃ (s : Addr) (ns : List Int), vs = [.ref s] ∧ SqL K H s (ns.map V.int) ∧ ns.length ≤ 63 ∧ ∀ H', Q (.bl true) H'
theorem ok_law (TO : To K a.C) {f fha fld fsz fan fpk flof flr fbh fbt fpw ffl ftl fsw : Addr} {fd fdha fdld fdsz fdan fdpk fdlof fdlr fdbh fdbt fdpw fdfl fdtl fdsw : FuncData} (F : Fun K "law" "law" s_law f fd)
    (Gha : FnOk P w K mg base CX0 1 fha fdha ["_law_script"] (spHand K)) (gha : mg "_law_hand" = some (.ref fha)) (kha : PySem.W.keepIn K (.ref fha) = true) (bha : Binds K fdha ["_law_script"] [])
    (Gld : FnOk P w K mg base CX0 4 fld fdld ["_law_hand_here", "_law_n"] spLand) (gld : mg "_law_land" = some (.ref fld)) (kld : PySem.W.keepIn K (.ref fld) = true) (bld : Binds K fdld ["_law_hand_here", "_law_n"] [])
    (Gsz : FnOk P w K mg base CX0 4 fsz fdsz ["_law_hand_here"] spSize) (gsz : mg "_law_size" = some (.ref fsz)) (ksz : PySem.W.keepIn K (.ref fsz) = true) (bsz : Binds K fdsz ["_law_hand_here"] [])
    (Gan : FnOk P w K mg base CX0 5 fan fdan ["_law_hand_here", "_law_n"] spAnyS) (gan : mg "_law_any_state" = some (.ref fan)) (kan : PySem.W.keepIn K (.ref fan) = true) (ban : Binds K fdan ["_law_hand_here", "_law_n"] [])
    (Gpk : FnOk P w K mg base CX0 3 fpk fdpk ["_law_hand_here", "_law_things"] spPick) (gpk : mg "_law_pick" = some (.ref fpk)) (kpk : PySem.W.keepIn K (.ref fpk) = true) (bpk : Binds K fdpk ["_law_hand_here", "_law_things"] [])
    (Glof : FnOk P w K mg base CX0 7 flof fdlof ["_law_land_here"] (spLandOf a)) (glof : mg "_law_land_of" = some (.ref flof)) (klof : PySem.W.keepIn K (.ref flof) = true) (blof : Binds K fdlof ["_law_land_here"] [])
    (Glr : FnOk P w K mg base CX0 1 flr fdlr ["_law_table_here"] spLRows) (glr : mg "_law_rows" = some (.ref flr)) (klr : PySem.W.keepIn K (.ref flr) = true) (blr : Binds K fdlr ["_law_table_here"] [])
    (Gbh : FnOk P w K mg base CX0 4 fbh fdbh ["_law_hand_here", "_law_hands"] spBh) (gbh : mg "_law_bent_hands" = some (.ref fbh)) (kbh : PySem.W.keepIn K (.ref fbh) = true) (bbh : Binds K fdbh ["_law_hand_here", "_law_hands"] [])
    (Gbt : FnOk P w K mg base CX0 4 fbt fdbt ["_law_hand_here", "_law_table_here"] spBt) (gbt : mg "_law_bent_table" = some (.ref fbt)) (kbt : PySem.W.keepIn K (.ref fbt) = true) (bbt : Binds K fdbt ["_law_hand_here", "_law_table_here"] [])
    (Gpw : FnOk P w K mg base CX0 1 fpw fdpw ["_law_hands", "_law_table_here"] spPw) (gpw : mg "_law_place_word" = some (.ref fpw)) (kpw : PySem.W.keepIn K (.ref fpw) = true) (bpw : Binds K fdpw ["_law_hands", "_law_table_here"] [])
    (Gfl : FnOk P w K mg base CX0 4 ffl fdfl ["_law_thing"] (spFl 4)) (gfl : mg "_law_flat" = some (.ref ffl)) (kfl : PySem.W.keepIn K (.ref ffl) = true) (bfl : Binds K fdfl ["_law_thing"] [])
    (Gtl : FnOk P w K mg base CX0 7 ftl fdtl ["_law_land_here", "_law_hands", "_law_table_here"] (spTold K a)) (gtl : mg "_law_told" = some (.ref ftl)) (ktl : PySem.W.keepIn K (.ref ftl) = true) (btl : Binds K fdtl ["_law_land_here", "_law_hands", "_law_table_here"] [])
    (Gsw : FnOk P w K mg base CX0 8 fsw fdsw ["_law_land_here"] (spSw K a)) (gsw : mg "_law_start_word" = some (.ref fsw)) (ksw : PySem.W.keepIn K (.ref fsw) = true) (bsw : Binds K fdsw ["_law_land_here"] [])
    (m_range : mg "range" = none) (m_tuple : mg "tuple" = none) : FnOk P w K mg base CX0 9 f fd ["_law_script"] (spLaw K) := by
  refine F.ok sc_law (fun vs H Q E h => ?_) (fun cdv A outer s H vs Q E hr h => ?_)
  · obtain ⟨s, ns, rfl, _⟩ := h
    rfl
  · obtain ⟨s0, ns, rfl, hS, hl, q⟩ := h
    refine ⟨_, (pss_cons (ps_set (i := 1) sc_law.nd rfl (by first | exact Or.inl rfl | exact Or.inr rfl) (pe_call Gha (hr.mono (by decide)) (by rfl) gha kha bha .nil pass0 (pa_cons (pv 0) pa_nil)))
 (pss_cons (ps_set (i := 2) sc_law.nd rfl (by first | exact Or.inl rfl | exact Or.inr rfl) (pe_call Gld (hr.mono (by decide)) (by rfl) gld kld bld .nil pass0 (pa_cons (pv 1) (pa_cons (pe_call Gsz (hr.mono (by decide)) (by rfl) gsz ksz bsz .nil pass0 (pa_cons (pv 1) pa_nil)) pa_nil))))
 (pss_cons (ps_set (i := 3) sc_law.nd rfl (by first | exact Or.inl rfl | exact Or.inr rfl) (pe_call Gan (hr.mono (by decide)) (by rfl) gan kan ban .nil pass0 (pa_cons (pv 1) (pa_cons (pe_ix ix_tup (pv 2) pe_int (fun _ _ => rfl)) pa_nil))))
 (pss_cons (ps_set (i := 4) sc_law.nd rfl (by first | exact Or.inl rfl | exact Or.inr rfl) (pe_call Glof (hr.mono (by decide)) (by rfl) glof klof blof .nil pass0 (pa_cons (pv 2) pa_nil)))
 (pss_cons (ps_for PassesOwn.never rfl (pi_range1 rfl m_range (pa_cons pe_int pa_nil)) (pg_name (i := 5) sc_law.nd rfl (by first | exact Or.inl rfl | exact Or.inr rfl))
  (pss_cons (ps_asg (pe_call Gbh (hr.mono (by decide)) (by rfl) gbh kbh bbh .nil pass0 (pa_cons (pv 1) (pa_cons (pe_ix ix_tup (pv 3) pe_int (fun _ _ => rfl)) pa_nil))) (pg_tup rfl (pgs_cons (pg_name (i := 6) sc_law.nd rfl (by first | exact Or.inl rfl | exact Or.inr rfl)) (pgs_cons (pg_name (i := 7) sc_law.nd rfl (by first | exact Or.inl rfl | exact Or.inr rfl)) pgs_nil))))
 (pss_cons (ps_asg (pe_call Gbt (hr.mono (by decide)) (by rfl) gbt kbt bbt .nil pass0 (pa_cons (pv 1) (pa_cons (pe_ix ix_tup (pv 3) pe_int (fun _ _ => rfl)) pa_nil))) (pg_tup rfl (pgs_cons (pg_name (i := 8) sc_law.nd rfl (by first | exact Or.inl rfl | exact Or.inr rfl)) (pgs_cons (pg_name (i := 9) sc_law.nd rfl (by first | exact Or.inl rfl | exact Or.inr rfl)) pgs_nil))))
 (pss_cons (ps_set (i := 10) sc_law.nd rfl (by first | exact Or.inl rfl | exact Or.inr rfl) pe_str)
 (Evl.pss_cut (ps_if (pt_val (pv 7))
  (pss_one (ps_set (i := 10) sc_law.nd rfl (by first | exact Or.inl rfl | exact Or.inr rfl) (pe_ifExp (pt_val (pv 9)) (pe_call Gpw (hr.mono (by decide)) (by rfl) gpw kpw bpw .nil pass0 (pa_cons (pv 6) (pa_cons (pv 8) pa_nil))) pe_str)))
  pss_nil)
 (pss_cons (ps_set (i := 11) sc_law.nd rfl (by first | exact Or.inl rfl | exact Or.inr rfl) (pe_tup (pa_cons (pe_call Gfl (hr.mono (by decide)) (by rfl) gfl kfl bfl .nil pass0 (pa_cons (pv 6) pa_nil)) (pa_cons (pe_call Gfl (hr.mono (by decide)) (by rfl) gfl kfl bfl .nil pass0 (pa_cons (pv 8) pa_nil)) pa_nil))))
 (pss_cons (ps_if (pw_or (pt_cmpR op_ne (pe_call Gtl (hr.mono (by decide)) (by rfl) gtl ktl btl .nil pass0 (pa_cons (pv 4) (pa_cons (pv 6) (pa_cons (pv 8) pa_nil)))) (pv 10) (nomark _)) (pw_or1 (pt_cmpR (show OpR _ _ (K7E.rNeTw 3) from K7E.op_neTw (Nat.lt_of_le_of_lt (Nat.add_le_add_left (show 4 ≤ 64 by decide) _) hr.units)) (pe_tup (pa_cons (pe_call Gfl (hr.mono (by decide)) (by rfl) gfl kfl bfl .nil pass0 (pa_cons (pv 6) pa_nil)) (pa_cons (pe_call Gfl (hr.mono (by decide)) (by rfl) gfl kfl bfl .nil pass0 (pa_cons (pv 8) pa_nil)) pa_nil))) (pv 11) (nomark _)))).pt
  (pss_one (ps_ret pe_bl))
  pss_nil)
 (pss_cons (ps_set (i := 12) sc_law.nd rfl (by first | exact Or.inl rfl | exact Or.inr rfl) (pe_call Gpk (hr.mono (by decide)) (by rfl) gpk kpk bpk .nil pass0 (pa_cons (pv 1) (pa_cons (pe_lst (pa_cons pe_non (pa_cons pe_int (pa_cons pe_str (pa_cons (pv 2) pa_nil))))) pa_nil))))
 (pss_one (ps_if (pw_or (pt_cmpR op_ne (pe_call Gtl (hr.mono (by decide)) (by rfl) gtl ktl btl .nil pass0 (pa_cons (pv 12) (pa_cons (pv 6) (pa_cons (pv 8) pa_nil)))) pe_str (nomark _)) (pw_or1 (pt_cmpR op_ne (pe_call Gsw (hr.mono (by decide)) (by rfl) gsw ksw bsw .nil pass0 (pa_cons (pv 12) pa_nil)) pe_str (nomark _)))).pt
  (pss_one (ps_ret pe_bl))
  pss_nil))))))))))
 (pss_one (ps_ret (pe_and (pe_cmpR op_isN (pe_call Gtl (hr.mono (by decide)) (by rfl) gtl ktl btl .nil pass0 (pa_cons (pv 4) (pa_cons (pe_callTy call_tuple_of (by rfl) m_tuple boot_tuple (pa_cons (pe_ix ix_tup (pv 3) pe_int (fun _ _ => rfl)) pa_nil)) (pa_cons (pe_call Glr (hr.mono (by decide)) (by rfl) glr klr blr .nil pass0 (pa_cons (pe_ix ix_tup (pv 3) pe_int (fun _ _ => rfl)) pa_nil)) pa_nil)))) pe_non (nomark _)) (pe_one (pe_cmpR op_isN (pe_call Gsw (hr.mono (by decide)) (by rfl) gsw ksw bsw .nil pass0 (pa_cons (pv 4) pa_nil)) pe_non (nomark _))))))))))), ?_⟩
    refine ⟨_, rfl, s0, ns, rfl, hS, hl, fun H1 h c e1 nh nc hh1 => ?_⟩
    refine ⟨_, rfl, _, rfl, h, c, rfl, hh1, fun H2 n st2 n2 n4 => ?_⟩
    have n5 : n ≤ 5 := by omega
    refine ⟨h, c, n, rfl, st2.hand, n2, n5, fun H3 q0 es lot st3 nq La3 => ?_⟩
    obtain ⟨rA, sA, tsA, g1, _⟩ := La3.at_
    refine ⟨_, rfl, _, rfl, q0, _, _, _, rfl, rfl, .inl (.inl g1), atI_nat (j := 0) rfl, h, c, n, rfl, st3.hand, n2, n5, fun H4 s1 th tt hs rs tab st4 ns1 hs1 hth htt tR Sx => ?_⟩
    have La4 := st4.la La3
    have A4 : ASt H4 s1 n hs tab := ⟨⟨th, tt, rs, hs1, hth, htt, tR.rls⟩, Sx⟩
    have hh4 := st4.hand
    clear g1 st2 st3 st4 La3
    refine ⟨_, rfl, q0, n, es, lot, rfl, La4.t, n2, n5, fun H5 p e5 np Lo5 => ?_⟩
    have La5 := (Stay.of_same hh4 e5).la La4
    have A5 := A4.same e5
    have hh5 := hh4.same e5
    clear La4 A4 hh4 hs1 hth htt tR
    refine ⟨6, rfl, by decide, by decide, for_range (lo := 0) (n := 6) (fun i σ H' => ∃ y5 y6 y7 y8 y9 y10 y11 y12, σ = [some (.ref s0), some (.ref h), some (.ref q0), some (.ref s1), some (.ref p), y5, y6, y7, y8, y9, y10, y11, y12] ∧ Stay h c H5 H')
      ⟨none, none, none, none, none, none, none, none, rfl, Stay.of_same hh5 (Same.refl H5)⟩ (fun i σ H6 hi pv => ?_) (fun σ H6 pv => ?_)⟩
    · obtain ⟨y5, y6, y7, y8, y9, y10, y11, y12, rfl, st6⟩ := pv
      have A6 := A5.stay st6
      have La6 := st6.la La5
      obtain ⟨th, tt, rs, hs1, hth, htt, hR⟩ := A6.at_
      refine ⟨_, rfl, _, rfl, s1, _, _, _, rfl, rfl, .inl (.inl hs1), atI_nat (j := 0) rfl, h, c, th, n, hs, rfl, st6.hand, hth, Sx.hl, n2, n5, Sx.hm, fun H7 u hv hb st7 nu hu hd hvh hok => ?_⟩
      have A7 := A6.stay st7
      obtain ⟨th7, tt7, rs7, hs7, hth7, htt7, hR7⟩ := A7.at_
      refine ⟨u, _, rfl, .inl (.inl hu), rfl, _, _, rfl, _, _, rfl, rfl, ?_⟩
      refine ⟨_, rfl, _, rfl, s1, _, _, _, rfl, rfl, .inl (.inl hs7), atI_nat (j := 1) rfl, h, c, tt7, n, rs7, tab, rfl, st7.hand, htt7, hR7, Sx.tl, Sx.rl, Sx.diag, n2, n5, fun H8 u2 tv tb st8 nu2 hu2 td tok => ?_⟩
      have hd8 := hd.stay st8 hvh
      refine ⟨u2, _, rfl, .inl (.inl hu2), rfl, _, _, rfl, _, _, rfl, rfl, ?_⟩
      refine ⟨fun σ' H' => ∃ x, σ' = [some (.ref s0), some (.ref h), some (.ref q0), some (.ref s1), some (.ref p), some (.int (0 + (i : Nat))), some hv, some (.bl hb), some tv, some (.bl tb), some x, y11, y12] ∧ Same H8 H' ∧ ToldF n H' hv tv x, ?_, ?_⟩
      · refine ⟨_, rfl, ?_⟩
        cases hb with
        | false => 
          refine ⟨_, rfl, iteFo rfl ?_⟩
          exact ⟨_, rfl, Same.refl H8, .inl ⟨hd8, rfl⟩⟩
        | true =>
          refine ⟨_, rfl, iteTo rfl ?_⟩
          refine ⟨_, rfl, ?_⟩
          cases tb with
          | false =>
            refine ⟨_, rfl, iteFo rfl ?_⟩
            exact ⟨_, rfl, Same.refl H8, .inr ⟨hd8, .inl ⟨td, rfl⟩⟩⟩
          | true =>
            refine ⟨_, rfl, iteTo rfl ?_⟩
            obtain ⟨l, rfl, hl7⟩ := hok rfl
            obtain ⟨t, rs', tab', rfl, ht8, hR8, tl8, ln8⟩ := tok rfl
            have hl8 := st8.lst hl7 (notHand_ints _)
            refine ⟨_, rfl, _, rfl, l, t, n, hs, rs', tab', rfl, hl8, ht8, hR8, ⟨Sx.hl, tl8, ln8⟩, n5, fun H9 e9 => ?_⟩
            exact ⟨_, rfl, e9, .inr ⟨hd8.same e9, .inr ⟨td.same e9, l, hs, t, rs', tab', rfl, .inr (e9 _ _ hl8), rfl, .inr (e9 _ _ ht8), (hR8.same e9).rat, ⟨Sx.hl, tl8, ln8⟩, rfl⟩⟩⟩
      · rintro _ H9 ⟨x, rfl, e9, tf⟩
        have st9 := (((st6.trans st7).trans st8).same e9)
        have hd9 := hd8.same e9
        have td9 := td.same e9
        have Lo9 := st9.lo Lo5
        refine ⟨_, rfl, hv, rfl, hd_shp hd9, fun H10 v1 e10 f1 => ?_⟩
        refine ⟨_, rfl, tv, rfl, (tb_shp td9).same e10, fun H11 v2 e11 f2 => ⟨by show 2 ≤ sizeLine; decide, fun t1 nt1 => ?_⟩⟩
        have e12 := al (o := .tup [v1, v2]) nt1
        have ht12 : upd H11 t1 (.tup [v1, v2]) t1 = some (.tup [v1, v2]) := upd_same
        have f1' := (f1.same e11).same e12
        have f2' := f2.same e12
        have e912 := e10.trans (e11.trans e12)
        generalize upd H11 t1 (.tup [v1, v2]) = H12 at e12 ht12 f1' f2' e912 ⊢
        refine ⟨_, rfl, _, rfl, _, rfl, .ref p, hv, tv, x, rfl, .inr ⟨p, n, es, lot, rfl, Lo9.same e912, tf.same e912⟩, fun H13 e13 => ?_⟩
        have nx : ∀ v : V, (!decide (v = v)) = false := fun v => by rw [decide_eq_true rfl]; rfl
        refine ⟨_, rfl, tf.flat, _, rfl, ?_⟩
        rw [nx]
        refine iteFo rfl ?_
        have e913 := e912.trans e13
        refine ⟨_, rfl, hv, rfl, hd_shp (hd9.same e913), fun H14 w1 e14 g1 => ?_⟩
        refine ⟨_, rfl, tv, rfl, (tb_shp td9).same (e913.trans e14), fun H15 w2 e15 g2 => ⟨by show 2 ≤ sizeLine; decide, fun t2 nt2 => ?_⟩⟩
        have e16 := al (o := .tup [w1, w2]) nt2
        have ht16 : upd H15 t2 (.tup [w1, w2]) t2 = some (.tup [w1, w2]) := upd_same
        have g1' := (g1.same e15).same e16
        have g2' := g2.same e16
        have e1316 := e13.trans (e14.trans (e15.trans e16))
        generalize upd H15 t2 (.tup [w1, w2]) = H16 at e16 ht16 g1' g2' e1316 ⊢
        refine ⟨_, rfl, t2, t1, _, _, rfl, rfl, ht16, e1316 _ _ ht12, .cons (flat_tw g1' (f1'.same e1316)) (.cons (flat_tw g2' (f2'.same e1316)) .nil), _, rfl, iteFo rfl ?_⟩
        have e916 := e912.trans e1316
        have st16 := st9.same e916
        have La16 := st16.la La5
        -- an odd land
        obtain ⟨rA, sA, tsA, g0, _⟩ := La16.at_
        refine ⟨_, rfl, _, rfl, by show 4 ≤ sizeLine; decide, fun pl npl => ?_⟩
        have e17 := al (o := .lst [.non, .int 3, .str "land", .ref q0]) npl
        have st17 := st16.same e17
        refine ⟨h, c, pl, _, rfl, st17.hand, (st16.hand.ne npl).1, upd_same, by show 0 < 4; decide, by show 4 ≤ 1000; decide, fun H18 j v d18 hv18 => ?_⟩
        have x18 := Stay.of_drawn st17.hand d18
        have g18 := x18.tup (e17 _ _ g0)
        have odd : OddL K a.C H18 v := by
          have m := List.mem_of_getElem? hv18
          simp only [List.mem_cons, List.not_mem_nil, or_false] at m
          rcases m with rfl | rfl | rfl | rfl
          · exact ⟨"NoneType", fun _ _ => .base .non, TO.kn⟩
          · exact ⟨"int", fun _ _ => .base (.int _), TO.ki⟩
          · exact ⟨"str", fun _ _ => .base (.str _), TO.ks⟩
          · exact ⟨"tuple", fun H1 e => .base (.tup (e _ _ g18)), TO.kt⟩
        refine ⟨_, rfl, _, rfl, _, rfl, v, hv, tv, .str "land", rfl, .inl ⟨odd, rfl⟩, fun H19 e19 => ?_⟩
        refine ⟨rfl, _, rfl, ?_⟩
        rw [nx]
        refine iteFo rfl ?_
        refine ⟨_, rfl, v, .str "land", rfl, .inl ⟨odd.same e19, rfl⟩, fun H20 e20 => ?_⟩
        refine ⟨rfl, _, rfl, ?_⟩
        rw [nx]
        refine iteFo rfl ?_
        exact ⟨_, _, _, _, _, _, _, _, rfl, (st17.trans x18).same (e19.trans e20)⟩
    · obtain ⟨y5, y6, y7, y8, y9, y10, y11, y12, rfl, st6⟩ := pv
      have A6 := A5.stay st6
      have Lo6 := st6.lo Lo5
      obtain ⟨th, tt, rs, hs1, hth, htt, hR⟩ := A6.at_
      refine ⟨_, rfl, _, rfl, s1, _, _, _, rfl, rfl, .inl (.inl hs1), atI_nat (j := 0) rfl, th, _, rfl, .inl ⟨.inl (.inl hth), fun t nt => ?_⟩⟩
      have e7 := al (o := .tup (ints_ hs)) nt
      have ht7 : upd H6 t (.tup (ints_ hs)) t = some (.tup (ints_ hs)) := upd_same
      generalize upd H6 t (.tup (ints_ hs)) = H7 at e7 ht7 ⊢
      refine ⟨_, rfl, s1, _, _, _, rfl, rfl, .inl (.inl (e7 _ _ hs1)), atI_nat (j := 1) rfl, tt, rs, tab, rfl, e7 _ _ htt, hR.same e7, by rw [Sx.tl]; exact n5, fun H8 u us e8 nu hu tu => ?_⟩
      have Lo8 := Lo6.same (e7.trans e8)
      obtain ⟨k1, k2⟩ := Sx.ok
      have tf : ToldF n H8 (.ref t) (.ref u) .non := .inr ⟨hd_ok (.inl (e8 _ _ ht7)) Sx.hl n5 Sx.hm, .inr ⟨tb_ok (.inl hu) (rat_of tu) Sx.tl n5 Sx.rl Sx.diag, t, hs, u, us, tab, rfl, .inl (e8 _ _ ht7), rfl, .inl hu, rat_of tu, Sx.fm, by rw [k1, k2]; rfl⟩⟩
      refine ⟨_, _, _, .non, rfl, .inr ⟨p, n, es, lot, rfl, Lo8, tf⟩, fun H9 e9 => ?_⟩
      refine ⟨rfl, _, rfl, iteTo rfl ?_⟩
      refine ⟨_, rfl, _, .non, rfl, .inr ⟨p, n, es, lot, rfl, Lo8.same e9, rfl⟩, fun Ha ea => ?_⟩
      exact ⟨rfl, q _⟩
end
end K7
end
/-! ## P28 -/
section
open PySem PySem.Spec PyProof.Rows L2
namespace K7
theorem all_mk {P : Program} {w : World} {K : PySem.W.Frag} {h : Heap} {mg : Str → Option Value} {fa : Addr} (X : K.In h) (G : h.Ns mainGlobals mg) (hfa : mg "law" = some (.ref fa))
  {f_sq : Addr}
  (a_sq : PySem.W.nsIn K mainGlobals "is_sequence" = some (some (.ref f_sq)))
  {od_sq an_sq : Option Addr}
  {sl_sq : Array (Option Value)}
  {oc_sq kV_sq dc_sq pm_sq cd_sq ct_sq : Value}
  (l_sq : K.lookup f_sq = some ⟨oc_sq, od_sq, .func (PySem.W.fnOf "is_sequence" "is_sequence" (defArgs s_is_sequence) (defBody s_is_sequence) (defScope s_is_sequence) .none kV_sq dc_sq pm_sq an_sq cd_sq ct_sq), sl_sq⟩)
  (c_sq : PySem.W.codeIn K cd_sq "is_sequence" = true)
  (k_sq : PySem.W.keepIn K (.ref f_sq) = true)
  {f_isw : Addr}
  (a_isw : PySem.W.nsIn K mainGlobals "is_whole" = some (some (.ref f_isw)))
  {od_isw an_isw : Option Addr}
  {sl_isw : Array (Option Value)}
  {oc_isw kV_isw dc_isw pm_isw cd_isw ct_isw : Value}
  (l_isw : K.lookup f_isw = some ⟨oc_isw, od_isw, .func (PySem.W.fnOf "is_whole" "is_whole" (defArgs s_is_whole) (defBody s_is_whole) (defScope s_is_whole) .none kV_isw dc_isw pm_isw an_isw cd_isw ct_isw), sl_isw⟩)
  (c_isw : PySem.W.codeIn K cd_isw "is_whole" = true)
  (k_isw : PySem.W.keepIn K (.ref f_isw) = true)
  {f_ac : Addr}
  (a_ac : PySem.W.nsIn K mainGlobals "are_cells" = some (some (.ref f_ac)))
  {od_ac an_ac : Option Addr}
  {sl_ac : Array (Option Value)}
  {oc_ac kV_ac dc_ac pm_ac cd_ac ct_ac : Value}
  (l_ac : K.lookup f_ac = some ⟨oc_ac, od_ac, .func (PySem.W.fnOf "are_cells" "are_cells" (defArgs s_are_cells) (defBody s_are_cells) (defScope s_are_cells) .none kV_ac dc_ac pm_ac an_ac cd_ac ct_ac), sl_ac⟩)
  (c_ac : PySem.W.codeIn K cd_ac "are_cells" = true)
  (k_ac : PySem.W.keepIn K (.ref f_ac) = true)
  {f_a2 : Addr}
  (a_a2 : PySem.W.nsIn K mainGlobals "are_two_cells" = some (some (.ref f_a2)))
  {od_a2 an_a2 : Option Addr}
  {sl_a2 : Array (Option Value)}
  {oc_a2 kV_a2 dc_a2 pm_a2 cd_a2 ct_a2 : Value}
  (l_a2 : K.lookup f_a2 = some ⟨oc_a2, od_a2, .func (PySem.W.fnOf "are_two_cells" "are_two_cells" (defArgs s_are_two_cells) (defBody s_are_two_cells) (defScope s_are_two_cells) .none kV_a2 dc_a2 pm_a2 an_a2 cd_a2 ct_a2), sl_a2⟩)
  (c_a2 : PySem.W.codeIn K cd_a2 "are_two_cells" = true)
  (k_a2 : PySem.W.keepIn K (.ref f_a2) = true)
  {f_sp : Addr}
  (a_sp : PySem.W.nsIn K mainGlobals "spread" = some (some (.ref f_sp)))
  {od_sp an_sp : Option Addr}
  {sl_sp : Array (Option Value)}
  {oc_sp kV_sp dc_sp pm_sp cd_sp ct_sp : Value}
  (l_sp : K.lookup f_sp = some ⟨oc_sp, od_sp, .func (PySem.W.fnOf "spread" "spread" (defArgs s_spread) (defBody s_spread) (defScope s_spread) .none kV_sp dc_sp pm_sp an_sp cd_sp ct_sp), sl_sp⟩)
  (c_sp : PySem.W.codeIn K cd_sp "spread" = true)
  (k_sp : PySem.W.keepIn K (.ref f_sp) = true)
  {f_ny : Addr}
  (a_ny : PySem.W.nsIn K mainGlobals "nearby_cells" = some (some (.ref f_ny)))
  {od_ny an_ny : Option Addr}
  {sl_ny : Array (Option Value)}
  {oc_ny kV_ny dc_ny pm_ny cd_ny ct_ny : Value}
  (l_ny : K.lookup f_ny = some ⟨oc_ny, od_ny, .func (PySem.W.fnOf "nearby_cells" "nearby_cells" (defArgs s_nearby_cells) (defBody s_nearby_cells) (defScope s_nearby_cells) .none kV_ny dc_ny pm_ny an_ny cd_ny ct_ny), sl_ny⟩)
  (c_ny : PySem.W.codeIn K cd_ny "nearby_cells" = true)
  (k_ny : PySem.W.keepIn K (.ref f_ny) = true)
  {f_ht : Addr}
  (a_ht : PySem.W.nsIn K mainGlobals "hang_together" = some (some (.ref f_ht)))
  {od_ht an_ht : Option Addr}
  {sl_ht : Array (Option Value)}
  {oc_ht kV_ht dc_ht pm_ht cd_ht ct_ht : Value}
  (l_ht : K.lookup f_ht = some ⟨oc_ht, od_ht, .func (PySem.W.fnOf "hang_together" "hang_together" (defArgs s_hang_together) (defBody s_hang_together) (defScope s_hang_together) .none kV_ht dc_ht pm_ht an_ht cd_ht ct_ht), sl_ht⟩)
  (c_ht : PySem.W.codeIn K cd_ht "hang_together" = true)
  (k_ht : PySem.W.keepIn K (.ref f_ht) = true)
  {f_nb : Addr}
  (a_nb : PySem.W.nsIn K mainGlobals "_are_neighbours" = some (some (.ref f_nb)))
  {od_nb an_nb : Option Addr}
  {sl_nb : Array (Option Value)}
  {oc_nb kV_nb dc_nb pm_nb cd_nb ct_nb : Value}
  (l_nb : K.lookup f_nb = some ⟨oc_nb, od_nb, .func (PySem.W.fnOf "_are_neighbours" "_are_neighbours" (defArgs s__are_neighbours) (defBody s__are_neighbours) (defScope s__are_neighbours) .none kV_nb dc_nb pm_nb an_nb cd_nb ct_nb), sl_nb⟩)
  (c_nb : PySem.W.codeIn K cd_nb "_are_neighbours" = true)
  (k_nb : PySem.W.keepIn K (.ref f_nb) = true)
  {f_ah : Addr}
  (a_ah : PySem.W.nsIn K mainGlobals "_are_hands" = some (some (.ref f_ah)))
  {od_ah an_ah : Option Addr}
  {sl_ah : Array (Option Value)}
  {oc_ah kV_ah dc_ah pm_ah cd_ah ct_ah : Value}
  (l_ah : K.lookup f_ah = some ⟨oc_ah, od_ah, .func (PySem.W.fnOf "_are_hands" "_are_hands" (defArgs s__are_hands) (defBody s__are_hands) (defScope s__are_hands) .none kV_ah dc_ah pm_ah an_ah cd_ah ct_ah), sl_ah⟩)
  (c_ah : PySem.W.codeIn K cd_ah "_are_hands" = true)
  (k_ah : PySem.W.keepIn K (.ref f_ah) = true)
  {f_ir : Addr}
  (a_ir : PySem.W.nsIn K mainGlobals "is_row" = some (some (.ref f_ir)))
  {od_ir an_ir : Option Addr}
  {sl_ir : Array (Option Value)}
  {oc_ir kV_ir dc_ir pm_ir cd_ir ct_ir : Value}
  (l_ir : K.lookup f_ir = some ⟨oc_ir, od_ir, .func (PySem.W.fnOf "is_row" "is_row" (defArgs s_is_row) (defBody s_is_row) (defScope s_is_row) .none kV_ir dc_ir pm_ir an_ir cd_ir ct_ir), sl_ir⟩)
  (c_ir : PySem.W.codeIn K cd_ir "is_row" = true)
  (k_ir : PySem.W.keepIn K (.ref f_ir) = true)
  {f_as_ : Addr}
  (a_as_ : PySem.W.nsIn K mainGlobals "_are_standings" = some (some (.ref f_as_)))
  {od_as_ an_as_ : Option Addr}
  {sl_as_ : Array (Option Value)}
  {oc_as_ kV_as_ dc_as_ pm_as_ cd_as_ ct_as_ : Value}
  (l_as_ : K.lookup f_as_ = some ⟨oc_as_, od_as_, .func (PySem.W.fnOf "_are_standings" "_are_standings" (defArgs s__are_standings) (defBody s__are_standings) (defScope s__are_standings) .none kV_as_ dc_as_ pm_as_ an_as_ cd_as_ ct_as_), sl_as_⟩)
  (c_as_ : PySem.W.codeIn K cd_as_ "_are_standings" = true)
  (k_as_ : PySem.W.keepIn K (.ref f_as_) = true)
  {f_cpl : Addr}
  (a_cpl : PySem.W.nsIn K mainGlobals "_check_places" = some (some (.ref f_cpl)))
  {od_cpl an_cpl : Option Addr}
  {sl_cpl : Array (Option Value)}
  {oc_cpl kV_cpl dc_cpl pm_cpl cd_cpl ct_cpl : Value}
  (l_cpl : K.lookup f_cpl = some ⟨oc_cpl, od_cpl, .func (PySem.W.fnOf "_check_places" "_check_places" (defArgs s__check_places) (defBody s__check_places) (defScope s__check_places) .none kV_cpl dc_cpl pm_cpl an_cpl cd_cpl ct_cpl), sl_cpl⟩)
  (c_cpl : PySem.W.codeIn K cd_cpl "_check_places" = true)
  (k_cpl : PySem.W.keepIn K (.ref f_cpl) = true)
  {f_sst : Addr}
  (a_sst : PySem.W.nsIn K mainGlobals "start_state" = some (some (.ref f_sst)))
  {od_sst an_sst : Option Addr}
  {sl_sst : Array (Option Value)}
  {oc_sst kV_sst dc_sst pm_sst cd_sst ct_sst : Value}
  (l_sst : K.lookup f_sst = some ⟨oc_sst, od_sst, .func (PySem.W.fnOf "start_state" "start_state" (defArgs s_start_state) (defBody s_start_state) (defScope s_start_state) .none kV_sst dc_sst pm_sst an_sst cd_sst ct_sst), sl_sst⟩)
  (c_sst : PySem.W.codeIn K cd_sst "start_state" = true)
  (k_sst : PySem.W.keepIn K (.ref f_sst) = true)
  {f_mi : Addr}
  (a_mi : PySem.W.nsIn K mainGlobals "_law_mix" = some (some (.ref f_mi)))
  {od_mi an_mi : Option Addr}
  {sl_mi : Array (Option Value)}
  {oc_mi kV_mi dc_mi pm_mi cd_mi ct_mi : Value}
  (l_mi : K.lookup f_mi = some ⟨oc_mi, od_mi, .func (PySem.W.fnOf "_law_mix" "_law_mix" (defArgs s__law_mix) (defBody s__law_mix) (defScope s__law_mix) .none kV_mi dc_mi pm_mi an_mi cd_mi ct_mi), sl_mi⟩)
  (c_mi : PySem.W.codeIn K cd_mi "_law_mix" = true)
  (k_mi : PySem.W.keepIn K (.ref f_mi) = true)
  {f_ha : Addr}
  (a_ha : PySem.W.nsIn K mainGlobals "_law_hand" = some (some (.ref f_ha)))
  {od_ha an_ha : Option Addr}
  {sl_ha : Array (Option Value)}
  {oc_ha kV_ha dc_ha pm_ha cd_ha ct_ha : Value}
  (l_ha : K.lookup f_ha = some ⟨oc_ha, od_ha, .func (PySem.W.fnOf "_law_hand" "_law_hand" (defArgs s__law_hand) (defBody s__law_hand) (defScope s__law_hand) .none kV_ha dc_ha pm_ha an_ha cd_ha ct_ha), sl_ha⟩)
  (c_ha : PySem.W.codeIn K cd_ha "_law_hand" = true)
  (k_ha : PySem.W.keepIn K (.ref f_ha) = true)
  {f_dr : Addr}
  (a_dr : PySem.W.nsIn K mainGlobals "_law_draw" = some (some (.ref f_dr)))
  {od_dr an_dr : Option Addr}
  {sl_dr : Array (Option Value)}
  {oc_dr kV_dr dc_dr pm_dr cd_dr ct_dr : Value}
  (l_dr : K.lookup f_dr = some ⟨oc_dr, od_dr, .func (PySem.W.fnOf "_law_draw" "_law_draw" (defArgs s__law_draw) (defBody s__law_draw) (defScope s__law_draw) .none kV_dr dc_dr pm_dr an_dr cd_dr ct_dr), sl_dr⟩)
  (c_dr : PySem.W.codeIn K cd_dr "_law_draw" = true)
  (k_dr : PySem.W.keepIn K (.ref f_dr) = true)
  {f_pk : Addr}
  (a_pk : PySem.W.nsIn K mainGlobals "_law_pick" = some (some (.ref f_pk)))
  {od_pk an_pk : Option Addr}
  {sl_pk : Array (Option Value)}
  {oc_pk kV_pk dc_pk pm_pk cd_pk ct_pk : Value}
  (l_pk : K.lookup f_pk = some ⟨oc_pk, od_pk, .func (PySem.W.fnOf "_law_pick" "_law_pick" (defArgs s__law_pick) (defBody s__law_pick) (defScope s__law_pick) .none kV_pk dc_pk pm_pk an_pk cd_pk ct_pk), sl_pk⟩)
  (c_pk : PySem.W.codeIn K cd_pk "_law_pick" = true)
  (k_pk : PySem.W.keepIn K (.ref f_pk) = true)
  {f_lo : Addr}
  (a_lo : PySem.W.nsIn K mainGlobals "_law_lots" = some (some (.ref f_lo)))
  {od_lo an_lo : Option Addr}
  {sl_lo : Array (Option Value)}
  {oc_lo kV_lo dc_lo pm_lo cd_lo ct_lo : Value}
  (l_lo : K.lookup f_lo = some ⟨oc_lo, od_lo, .func (PySem.W.fnOf "_law_lots" "_law_lots" (defArgs s__law_lots) (defBody s__law_lots) (defScope s__law_lots) .none kV_lo dc_lo pm_lo an_lo cd_lo ct_lo), sl_lo⟩)
  (c_lo : PySem.W.codeIn K cd_lo "_law_lots" = true)
  (k_lo : PySem.W.keepIn K (.ref f_lo) = true)
  {f_ld : Addr}
  (a_ld : PySem.W.nsIn K mainGlobals "_law_land" = some (some (.ref f_ld)))
  {od_ld an_ld : Option Addr}
  {sl_ld : Array (Option Value)}
  {oc_ld kV_ld dc_ld pm_ld cd_ld ct_ld : Value}
  (l_ld : K.lookup f_ld = some ⟨oc_ld, od_ld, .func (PySem.W.fnOf "_law_land" "_law_land" (defArgs s__law_land) (defBody s__law_land) (defScope s__law_land) .none kV_ld dc_ld pm_ld an_ld cd_ld ct_ld), sl_ld⟩)
  (c_ld : PySem.W.codeIn K cd_ld "_law_land" = true)
  (k_ld : PySem.W.keepIn K (.ref f_ld) = true)
  {f_sz : Addr}
  (a_sz : PySem.W.nsIn K mainGlobals "_law_size" = some (some (.ref f_sz)))
  {od_sz an_sz : Option Addr}
  {sl_sz : Array (Option Value)}
  {oc_sz kV_sz dc_sz pm_sz cd_sz ct_sz : Value}
  (l_sz : K.lookup f_sz = some ⟨oc_sz, od_sz, .func (PySem.W.fnOf "_law_size" "_law_size" (defArgs s__law_size) (defBody s__law_size) (defScope s__law_size) .none kV_sz dc_sz pm_sz an_sz cd_sz ct_sz), sl_sz⟩)
  (c_sz : PySem.W.codeIn K cd_sz "_law_size" = true)
  (k_sz : PySem.W.keepIn K (.ref f_sz) = true)
  {f_fa : Addr}
  (a_fa : PySem.W.nsIn K mainGlobals "_law_far" = some (some (.ref f_fa)))
  {od_fa an_fa : Option Addr}
  {sl_fa : Array (Option Value)}
  {oc_fa kV_fa dc_fa pm_fa cd_fa ct_fa : Value}
  (l_fa : K.lookup f_fa = some ⟨oc_fa, od_fa, .func (PySem.W.fnOf "_law_far" "_law_far" (defArgs s__law_far) (defBody s__law_far) (defScope s__law_far) .none kV_fa dc_fa pm_fa an_fa cd_fa ct_fa), sl_fa⟩)
  (c_fa : PySem.W.codeIn K cd_fa "_law_far" = true)
  (k_fa : PySem.W.keepIn K (.ref f_fa) = true)
  {f_tb : Addr}
  (a_tb : PySem.W.nsIn K mainGlobals "_law_table" = some (some (.ref f_tb)))
  {od_tb an_tb : Option Addr}
  {sl_tb : Array (Option Value)}
  {oc_tb kV_tb dc_tb pm_tb cd_tb ct_tb : Value}
  (l_tb : K.lookup f_tb = some ⟨oc_tb, od_tb, .func (PySem.W.fnOf "_law_table" "_law_table" (defArgs s__law_table) (defBody s__law_table) (defScope s__law_table) .none kV_tb dc_tb pm_tb an_tb cd_tb ct_tb), sl_tb⟩)
  (c_tb : PySem.W.codeIn K cd_tb "_law_table" = true)
  (k_tb : PySem.W.keepIn K (.ref f_tb) = true)
  {f_an : Addr}
  (a_an : PySem.W.nsIn K mainGlobals "_law_any_state" = some (some (.ref f_an)))
  {od_an an_an : Option Addr}
  {sl_an : Array (Option Value)}
  {oc_an kV_an dc_an pm_an cd_an ct_an : Value}
  (l_an : K.lookup f_an = some ⟨oc_an, od_an, .func (PySem.W.fnOf "_law_any_state" "_law_any_state" (defArgs s__law_any_state) (defBody s__law_any_state) (defScope s__law_any_state) .none kV_an dc_an pm_an an_an cd_an ct_an), sl_an⟩)
  (c_an : PySem.W.codeIn K cd_an "_law_any_state" = true)
  (k_an : PySem.W.keepIn K (.ref f_an) = true)
  {f_lof : Addr}
  (a_lof : PySem.W.nsIn K mainGlobals "_law_land_of" = some (some (.ref f_lof)))
  {od_lof an_lof : Option Addr}
  {sl_lof : Array (Option Value)}
  {oc_lof kV_lof dc_lof pm_lof cd_lof ct_lof : Value}
  (l_lof : K.lookup f_lof = some ⟨oc_lof, od_lof, .func (PySem.W.fnOf "_law_land_of" "_law_land_of" (defArgs s__law_land_of) (defBody s__law_land_of) (defScope s__law_land_of) .none kV_lof dc_lof pm_lof an_lof cd_lof ct_lof), sl_lof⟩)
  (c_lof : PySem.W.codeIn K cd_lof "_law_land_of" = true)
  (k_lof : PySem.W.keepIn K (.ref f_lof) = true)
  {f_lrw : Addr}
  (a_lrw : PySem.W.nsIn K mainGlobals "_law_rows" = some (some (.ref f_lrw)))
  {od_lrw an_lrw : Option Addr}
  {sl_lrw : Array (Option Value)}
  {oc_lrw kV_lrw dc_lrw pm_lrw cd_lrw ct_lrw : Value}
  (l_lrw : K.lookup f_lrw = some ⟨oc_lrw, od_lrw, .func (PySem.W.fnOf "_law_rows" "_law_rows" (defArgs s__law_rows) (defBody s__law_rows) (defScope s__law_rows) .none kV_lrw dc_lrw pm_lrw an_lrw cd_lrw ct_lrw), sl_lrw⟩)
  (c_lrw : PySem.W.codeIn K cd_lrw "_law_rows" = true)
  (k_lrw : PySem.W.keepIn K (.ref f_lrw) = true)
  {f_fl : Addr}
  (a_fl : PySem.W.nsIn K mainGlobals "_law_flat" = some (some (.ref f_fl)))
  {od_fl an_fl : Option Addr}
  {sl_fl : Array (Option Value)}
  {oc_fl kV_fl dc_fl pm_fl cd_fl ct_fl : Value}
  (l_fl : K.lookup f_fl = some ⟨oc_fl, od_fl, .func (PySem.W.fnOf "_law_flat" "_law_flat" (defArgs s__law_flat) (defBody s__law_flat) (defScope s__law_flat) .none kV_fl dc_fl pm_fl an_fl cd_fl ct_fl), sl_fl⟩)
  (c_fl : PySem.W.codeIn K cd_fl "_law_flat" = true)
  (k_fl : PySem.W.keepIn K (.ref f_fl) = true)
  {f_bh : Addr}
  (a_bh : PySem.W.nsIn K mainGlobals "_law_bent_hands" = some (some (.ref f_bh)))
  {od_bh an_bh : Option Addr}
  {sl_bh : Array (Option Value)}
  {oc_bh kV_bh dc_bh pm_bh cd_bh ct_bh : Value}
  (l_bh : K.lookup f_bh = some ⟨oc_bh, od_bh, .func (PySem.W.fnOf "_law_bent_hands" "_law_bent_hands" (defArgs s__law_bent_hands) (defBody s__law_bent_hands) (defScope s__law_bent_hands) .none kV_bh dc_bh pm_bh an_bh cd_bh ct_bh), sl_bh⟩)
  (c_bh : PySem.W.codeIn K cd_bh "_law_bent_hands" = true)
  (k_bh : PySem.W.keepIn K (.ref f_bh) = true)
  {f_bt : Addr}
  (a_bt : PySem.W.nsIn K mainGlobals "_law_bent_table" = some (some (.ref f_bt)))
  {od_bt an_bt : Option Addr}
  {sl_bt : Array (Option Value)}
  {oc_bt kV_bt dc_bt pm_bt cd_bt ct_bt : Value}
  (l_bt : K.lookup f_bt = some ⟨oc_bt, od_bt, .func (PySem.W.fnOf "_law_bent_table" "_law_bent_table" (defArgs s__law_bent_table) (defBody s__law_bent_table) (defScope s__law_bent_table) .none kV_bt dc_bt pm_bt an_bt cd_bt ct_bt), sl_bt⟩)
  (c_bt : PySem.W.codeIn K cd_bt "_law_bent_table" = true)
  (k_bt : PySem.W.keepIn K (.ref f_bt) = true)
  {f_pw : Addr}
  (a_pw : PySem.W.nsIn K mainGlobals "_law_place_word" = some (some (.ref f_pw)))
  {od_pw an_pw : Option Addr}
  {sl_pw : Array (Option Value)}
  {oc_pw kV_pw dc_pw pm_pw cd_pw ct_pw : Value}
  (l_pw : K.lookup f_pw = some ⟨oc_pw, od_pw, .func (PySem.W.fnOf "_law_place_word" "_law_place_word" (defArgs s__law_place_word) (defBody s__law_place_word) (defScope s__law_place_word) .none kV_pw dc_pw pm_pw an_pw cd_pw ct_pw), sl_pw⟩)
  (c_pw : PySem.W.codeIn K cd_pw "_law_place_word" = true)
  (k_pw : PySem.W.keepIn K (.ref f_pw) = true)
  {f_tl : Addr}
  (a_tl : PySem.W.nsIn K mainGlobals "_law_told" = some (some (.ref f_tl)))
  {od_tl an_tl : Option Addr}
  {sl_tl : Array (Option Value)}
  {oc_tl kV_tl dc_tl pm_tl cd_tl ct_tl : Value}
  (l_tl : K.lookup f_tl = some ⟨oc_tl, od_tl, .func (PySem.W.fnOf "_law_told" "_law_told" (defArgs s__law_told) (defBody s__law_told) (defScope s__law_told) .none kV_tl dc_tl pm_tl an_tl cd_tl ct_tl), sl_tl⟩)
  (c_tl : PySem.W.codeIn K cd_tl "_law_told" = true)
  (k_tl : PySem.W.keepIn K (.ref f_tl) = true)
  {f_sw : Addr}
  (a_sw : PySem.W.nsIn K mainGlobals "_law_start_word" = some (some (.ref f_sw)))
  {od_sw an_sw : Option Addr}
  {sl_sw : Array (Option Value)}
  {oc_sw kV_sw dc_sw pm_sw cd_sw ct_sw : Value}
  (l_sw : K.lookup f_sw = some ⟨oc_sw, od_sw, .func (PySem.W.fnOf "_law_start_word" "_law_start_word" (defArgs s__law_start_word) (defBody s__law_start_word) (defScope s__law_start_word) .none kV_sw dc_sw pm_sw an_sw cd_sw ct_sw), sl_sw⟩)
  (c_sw : PySem.W.codeIn K cd_sw "_law_start_word" = true)
  (k_sw : PySem.W.keepIn K (.ref f_sw) = true)
  {f_la : Addr}
  (a_la : PySem.W.nsIn K mainGlobals "law" = some (some (.ref f_la)))
  {od_la an_la : Option Addr}
  {sl_la : Array (Option Value)}
  {oc_la kV_la dc_la pm_la cd_la ct_la : Value}
  (l_la : K.lookup f_la = some ⟨oc_la, od_la, .func (PySem.W.fnOf "law" "law" (defArgs s_law) (defBody s_law) (defScope s_law) .none kV_la dc_la pm_la an_la cd_la ct_la), sl_la⟩)
  (c_la : PySem.W.codeIn K cd_la "law" = true)
  (k_la : PySem.W.keepIn K (.ref f_la) = true)
  {L : Addr}
  (aL : PySem.W.nsIn K mainGlobals "LandError" = some (some (.ref L)))
  (eL : PySem.W.subIn K (.ref L) (.type "BaseException") = some true)
  (dL : PySem.W.hasDictIn K L = true)
  (tL : PySem.W.typeIn K (.ref L) = some (.type "type"))
  (icL : PySem.W.isClsIn K L = true)
  (hnO : PySem.W.specialIn K (.builtin "object.__class__") "__get__" = some (some (.builtin "getset_descriptor.__get__")))
  (htO : PySem.W.takesIn K (.builtin "object.__class__") = some true)
  {LC : Addr}
  (aLC : PySem.W.nsIn K mainGlobals "Land" = some (some (.ref LC)))
  (pgLC : PySem.W.plainGet K LC Str.empty = true)
  (hdLC : PySem.W.hasDictIn K LC = true)
  (poLC : PySem.W.plainOver K LC = true)
  (saLC : PySem.W.findIn K (.ref LC) "__setattr__" = some (some (.builtin "object.__setattr__")))
  (mkLC : PySem.W.makesIn K LC = true)
  (kcLC : PySem.W.keepIn K (.ref LC) = true)
  (haLC : PySem.W.findIn K (.ref LC) "__class__" = some (some (.builtin "object.__class__")))
  (hmLC : PySem.W.mroIn K LC (.type "object") = some true)
  (neLC : PySem.W.findIn K (.ref LC) "__ne__" = some (some (.builtin "object.__ne__")))
  (icLC : PySem.W.isClsIn K LC = true)
  (tyLC : PySem.W.typeIn K (.ref LC) = some (.type "type"))
  (n_LC_cells : PySem.W.findIn K (.ref LC) "cells" = some none)
  (n_LC_neighbours : PySem.W.findIn K (.ref LC) "neighbours" = some none)
  (n_LC_roads : PySem.W.findIn K (.ref LC) "roads" = some none)
  (n_LC_nearby : PySem.W.findIn K (.ref LC) "nearby" = some none)
  (n_LC__couples : PySem.W.findIn K (.ref LC) "_couples" = some none)
  {f_cI : Addr}
  (a_cI : PySem.W.findIn K (.ref LC) "__init__" = some (some (.ref f_cI)))
  (i_cI : PySem.W.isFn K (.ref f_cI) = true)
  {od_cI an_cI : Option Addr}
  {sl_cI : Array (Option Value)}
  {oc_cI kV_cI dc_cI pm_cI cd_cI ct_cI : Value}
  (l_cI : K.lookup f_cI = some ⟨oc_cI, od_cI, .func (PySem.W.fnOf "__init__" "Land.__init__" (defArgs s_Land___init__) (defBody s_Land___init__) (defScope s_Land___init__) .none kV_cI dc_cI pm_cI an_cI cd_cI ct_cI), sl_cI⟩)
  (c_cI : PySem.W.codeIn K cd_cI "Land.__init__" = true)
  (k_cI : PySem.W.keepIn K (.ref f_cI) = true)
  {pr_cp f_cp : Addr}
  (a_cp : PySem.W.findIn K (.ref LC) "couples" = some (some (.ref pr_cp)))
  (gp_cp : PySem.W.specialIn K (.ref pr_cp) "__get__" = some (some (.builtin "property.__get__")))
  (tp_cp : PySem.W.takesIn K (.ref pr_cp) = some true)
  {rest_cp : List Value}
  (rp_cp : PySem.W.recIn K pr_cp "property" = some (.ref f_cp :: rest_cp))
  {od_cp an_cp : Option Addr}
  {sl_cp : Array (Option Value)}
  {oc_cp kV_cp dc_cp pm_cp cd_cp ct_cp : Value}
  (l_cp : K.lookup f_cp = some ⟨oc_cp, od_cp, .func (PySem.W.fnOf "couples" "Land.couples" (defArgs s_Land_couples) (defBody s_Land_couples) (defScope s_Land_couples) .none kV_cp dc_cp pm_cp an_cp cd_cp ct_cp), sl_cp⟩)
  (c_cp : PySem.W.codeIn K cd_cp "Land.couples" = true)
  (k_cp : PySem.W.keepIn K (.ref f_cp) = true)
  {f_eq : Addr}
  (a_eq : PySem.W.findIn K (.ref LC) "__eq__" = some (some (.ref f_eq)))
  (i_eq : PySem.W.isFn K (.ref f_eq) = true)
  {SC : Addr}
  (aSC : PySem.W.nsIn K mainGlobals "State" = some (some (.ref SC)))
  (pgSC : PySem.W.plainGet K SC Str.empty = true)
  (hdSC : PySem.W.hasDictIn K SC = true)
  (poSC : PySem.W.plainOver K SC = true)
  (saSC : PySem.W.findIn K (.ref SC) "__setattr__" = some (some (.builtin "object.__setattr__")))
  (mkSC : PySem.W.makesIn K SC = true)
  (kcSC : PySem.W.keepIn K (.ref SC) = true)
  (haSC : PySem.W.findIn K (.ref SC) "__class__" = some (some (.builtin "object.__class__")))
  (hmSC : PySem.W.mroIn K SC (.type "object") = some true)
  (n_SC_land : PySem.W.findIn K (.ref SC) "land" = some none)
  (n_SC_hands : PySem.W.findIn K (.ref SC) "hands" = some none)
  (n_SC_standings : PySem.W.findIn K (.ref SC) "standings" = some none)
  {f_sI : Addr}
  (a_sI : PySem.W.findIn K (.ref SC) "__init__" = some (some (.ref f_sI)))
  (i_sI : PySem.W.isFn K (.ref f_sI) = true)
  {od_sI an_sI : Option Addr}
  {sl_sI : Array (Option Value)}
  {oc_sI kV_sI dc_sI pm_sI cd_sI ct_sI : Value}
  (l_sI : K.lookup f_sI = some ⟨oc_sI, od_sI, .func (PySem.W.fnOf "__init__" "State.__init__" (defArgs s_State___init__) (defBody s_State___init__) (defScope s_State___init__) .none kV_sI dc_sI pm_sI an_sI cd_sI ct_sI), sl_sI⟩)
  (c_sI : PySem.W.codeIn K cd_sI "State.__init__" = true)
  (k_sI : PySem.W.keepIn K (.ref f_sI) = true)
  {B : Addr}
  (aB : PySem.W.nsIn K mainGlobals "BadCell" = some (some (.ref B)))
  {nmB qB : Str}
  {N_B : Addr}
  {bsB bmB subB : List Value}
  {snB : List Str}
  {abB : Bool}
  {colB : Option Bool}
  {ddB : Option Addr}
  {m0B m1B m2B m3B m5B : Option Value}
  (xB : K.lookup B = some (excClassObj nmB qB B N_B bsB bmB true snB subB abB colB ddB m0B m1B m2B m3B m5B "ValueError.__new__"))
  (rB : PySem.HandSPX.refsVE bmB = true)
  (saB : PySem.W.findIn K (.ref B) "__setattr__" = some (some (.builtin "object.__setattr__")))
  (exB : PySem.W.subIn K (.ref B) (.type "BaseException") = some true)
  (tyB : PySem.W.typeIn K (.ref B) = some (.type "type"))
  (kpB : PySem.W.keepIn K (.ref B) = true)
  (hgB : PySem.W.findIn K (.ref B) "__getattribute__" = some (some (.builtin "BaseException.__getattribute__")))
  (hkB : PySem.W.findIn K (.ref B) "__getattr__" = some none)
  (hdB : PySem.W.hasDictIn K B = true)
  (haB : PySem.W.findIn K (.ref B) "__class__" = some (some (.builtin "object.__class__")))
  (hmB : PySem.W.mroIn K B (.type "object") = some true)
  (icB : PySem.W.isClsIn K B = true)
  (ssB : PySem.W.subIn K (.ref B) (.ref B) = some true)
  (noB : PySem.W.findIn K (.ref B) "cell" = some none)
  {f_iB : Addr}
  (a_iB : PySem.W.findIn K (.ref B) "__init__" = some (some (.ref f_iB)))
  (t_iB : PySem.W.typeIn K (.ref f_iB) = some (.type "function"))
  {od_iB an_iB : Option Addr}
  {sl_iB : Array (Option Value)}
  {oc_iB kV_iB dc_iB pm_iB cd_iB ct_iB : Value}
  (l_iB : K.lookup f_iB = some ⟨oc_iB, od_iB, .func (PySem.W.fnOf "__init__" "BadCell.__init__" (defArgs s_BadCell___init__) (defBody s_BadCell___init__) (defScope s_BadCell___init__) .none kV_iB dc_iB pm_iB an_iB cd_iB ct_iB), sl_iB⟩)
  (c_iB : PySem.W.codeIn K cd_iB "BadCell.__init__" = true)
  (k_iB : PySem.W.keepIn K (.ref f_iB) = true)
  {BS : Addr}
  (aBS : PySem.W.nsIn K mainGlobals "BadState" = some (some (.ref BS)))
  {nmBS qBS : Str}
  {N_BS : Addr}
  {bsBS bmBS subBS : List Value}
  {snBS : List Str}
  {abBS : Bool}
  {colBS : Option Bool}
  {ddBS : Option Addr}
  {m0BS m1BS m2BS m3BS m5BS : Option Value}
  (xBS : K.lookup BS = some (excClassObj nmBS qBS BS N_BS bsBS bmBS true snBS subBS abBS colBS ddBS m0BS m1BS m2BS m3BS m5BS "ValueError.__new__"))
  (rBS : PySem.HandSPX.refsVE bmBS = true)
  (saBS : PySem.W.findIn K (.ref BS) "__setattr__" = some (some (.builtin "object.__setattr__")))
  (exBS : PySem.W.subIn K (.ref BS) (.type "BaseException") = some true)
  (tyBS : PySem.W.typeIn K (.ref BS) = some (.type "type"))
  (kpBS : PySem.W.keepIn K (.ref BS) = true)
  (hgBS : PySem.W.findIn K (.ref BS) "__getattribute__" = some (some (.builtin "BaseException.__getattribute__")))
  (hkBS : PySem.W.findIn K (.ref BS) "__getattr__" = some none)
  (hdBS : PySem.W.hasDictIn K BS = true)
  (haBS : PySem.W.findIn K (.ref BS) "__class__" = some (some (.builtin "object.__class__")))
  (hmBS : PySem.W.mroIn K BS (.type "object") = some true)
  (icBS : PySem.W.isClsIn K BS = true)
  (ssBS : PySem.W.subIn K (.ref BS) (.ref BS) = some true)
  (suBS : PySem.W.subIn K (.ref BS) (.ref L) = some true)
  (noBS : PySem.W.findIn K (.ref BS) "what" = some none)
  {f_iBS : Addr}
  (a_iBS : PySem.W.findIn K (.ref BS) "__init__" = some (some (.ref f_iBS)))
  (t_iBS : PySem.W.typeIn K (.ref f_iBS) = some (.type "function"))
  {od_iBS an_iBS : Option Addr}
  {sl_iBS : Array (Option Value)}
  {oc_iBS kV_iBS dc_iBS pm_iBS cd_iBS ct_iBS : Value}
  (l_iBS : K.lookup f_iBS = some ⟨oc_iBS, od_iBS, .func (PySem.W.fnOf "__init__" "BadState.__init__" (defArgs s_BadState___init__) (defBody s_BadState___init__) (defScope s_BadState___init__) .none kV_iBS dc_iBS pm_iBS an_iBS cd_iBS ct_iBS), sl_iBS⟩)
  (c_iBS : PySem.W.codeIn K cd_iBS "BadState.__init__" = true)
  (k_iBS : PySem.W.keepIn K (.ref f_iBS) = true)
  (sNL : PySem.W.subIn K (.type "NoneType") (.ref LC) = some false)
  (sIL : PySem.W.subIn K (.type "int") (.ref LC) = some false)
  (sSL : PySem.W.subIn K (.type "str") (.ref LC) = some false)
  (sTL : PySem.W.subIn K (.type "tuple") (.ref LC) = some false)
  (sBV : PySem.W.subIn K (.ref BS) (.type "ValueError") = some true)
  {t_M : Tok}
  (a_M : PySem.W.nsIn K mainGlobals "MOST_CELLS" = some (some (.int 5 t_M)))
  {t_MH : Tok}
  (a_MH : PySem.W.nsIn K mainGlobals "MOST_HAND" = some (some (.int 1000000000000000000000000000000 t_MH)))
  {ST : Addr}
  (a_ST : PySem.W.nsIn K mainGlobals "STANDINGS" = some (some (.ref ST)))
  {o_ST : Array Value}
  {z_ST : Nat}
  {s_ST : Array (Option Value)}
  (l_ST : K.lookup ST = some ⟨.type "tuple", none, .seq o_ST z_ST, s_ST⟩)
  (v_ST : Vals (stds) o_ST.toList)
  (w_ST : o_ST.size ≤ sizeLine)
  {RI : Addr}
  (a_RI : PySem.W.nsIn K mainGlobals "RIGHTS" = some (some (.ref RI)))
  {o_RI : Array Value}
  {z_RI : Nat}
  {s_RI : Array (Option Value)}
  (l_RI : K.lookup RI = some ⟨.type "tuple", none, .seq o_RI z_RI, s_RI⟩)
  (v_RI : Vals ([.str "awake", .str "needed"]) o_RI.toList)
  (w_RI : o_RI.size ≤ sizeLine)
  (z_isinstance : PySem.W.nsIn K mainGlobals "isinstance" = some none)
  (z_int : PySem.W.nsIn K mainGlobals "int" = some none)
  (z_bool : PySem.W.nsIn K mainGlobals "bool" = some none)
  (z_str : PySem.W.nsIn K mainGlobals "str" = some none)
  (z_tuple : PySem.W.nsIn K mainGlobals "tuple" = some none)
  (z_list : PySem.W.nsIn K mainGlobals "list" = some none)
  (z_enumerate : PySem.W.nsIn K mainGlobals "enumerate" = some none)
  (z_len : PySem.W.nsIn K mainGlobals "len" = some none)
  (z_abs : PySem.W.nsIn K mainGlobals "abs" = some none)
  (z_range : PySem.W.nsIn K mainGlobals "range" = some none)
  (z_min : PySem.W.nsIn K mainGlobals "min" = some none)
  (z_max : PySem.W.nsIn K mainGlobals "max" = some none)
  (z_sorted : PySem.W.nsIn K mainGlobals "sorted" = some none)
  (z_set : PySem.W.nsIn K mainGlobals "set" = some none)
  (z_all : PySem.W.nsIn K mainGlobals "all" = some none)
  (z_any : PySem.W.nsIn K mainGlobals "any" = some none)
  (z_ValueError : PySem.W.nsIn K mainGlobals "ValueError" = some none) :
    ∃ fd : FuncData, (∀ (s : Shared) (u : Value), BindsTo s fd ⟨[u], []⟩ [("_law_script", u)]) ∧ ∀ base : Heap, K.In base → base.Ns mainGlobals mg → FnOk P w K mg base CX0 9 fa fd ["_law_script"] (spLaw K) := by
  have e := hfa.symm.trans (PySem.W.mg_of X G a_la)
  cases e
  have F_sq := fun_mk (st := s_is_sequence) l_sq c_sq k_sq
  have b_sq := F_sq.binds (ps := ["thing"]) fun _ _ _ _ _ _ us hl => match us, hl with | [_], _ => rfl
  have g_sq := PySem.W.mg_of X G a_sq
  have F_isw := fun_mk (st := s_is_whole) l_isw c_isw k_isw
  have b_isw := F_isw.binds (ps := ["thing", "low", "high"]) fun _ _ _ _ _ _ us hl => match us, hl with | [_, _, _], _ => rfl
  have g_isw := PySem.W.mg_of X G a_isw
  have F_ac := fun_mk (st := s_are_cells) l_ac c_ac k_ac
  have b_ac := F_ac.binds (ps := ["many", "thing", "least"]) fun _ _ _ _ _ _ us hl => match us, hl with | [_, _, _], _ => rfl
  have g_ac := PySem.W.mg_of X G a_ac
  have F_a2 := fun_mk (st := s_are_two_cells) l_a2 c_a2 k_a2
  have b_a2 := F_a2.binds (ps := ["many", "thing"]) fun _ _ _ _ _ _ us hl => match us, hl with | [_, _], _ => rfl
  have g_a2 := PySem.W.mg_of X G a_a2
  have F_sp := fun_mk (st := s_spread) l_sp c_sp k_sp
  have b_sp := F_sp.binds (ps := ["nearby", "cell", "passing"]) fun _ _ _ _ _ _ us hl => match us, hl with | [_, _, _], _ => rfl
  have g_sp := PySem.W.mg_of X G a_sp
  have F_ny := fun_mk (st := s_nearby_cells) l_ny c_ny k_ny
  have b_ny := F_ny.binds (ps := ["cells", "couples"]) fun _ _ _ _ _ _ us hl => match us, hl with | [_, _], _ => rfl
  have g_ny := PySem.W.mg_of X G a_ny
  have F_ht := fun_mk (st := s_hang_together) l_ht c_ht k_ht
  have b_ht := F_ht.binds (ps := ["cells", "couples"]) fun _ _ _ _ _ _ us hl => match us, hl with | [_, _], _ => rfl
  have g_ht := PySem.W.mg_of X G a_ht
  have F_nb := fun_mk (st := s__are_neighbours) l_nb c_nb k_nb
  have b_nb := F_nb.binds (ps := ["cells", "thing"]) fun _ _ _ _ _ _ us hl => match us, hl with | [_, _], _ => rfl
  have g_nb := PySem.W.mg_of X G a_nb
  have F_ah := fun_mk (st := s__are_hands) l_ah c_ah k_ah
  have b_ah := F_ah.binds (ps := ["land", "thing"]) fun _ _ _ _ _ _ us hl => match us, hl with | [_, _], _ => rfl
  have g_ah := PySem.W.mg_of X G a_ah
  have F_ir := fun_mk (st := s_is_row) l_ir c_ir k_ir
  have b_ir := F_ir.binds (ps := ["land", "a", "thing"]) fun _ _ _ _ _ _ us hl => match us, hl with | [_, _, _], _ => rfl
  have g_ir := PySem.W.mg_of X G a_ir
  have F_as_ := fun_mk (st := s__are_standings) l_as_ c_as_ k_as_
  have b_as_ := F_as_.binds (ps := ["land", "thing"]) fun _ _ _ _ _ _ us hl => match us, hl with | [_, _], _ => rfl
  have g_as_ := PySem.W.mg_of X G a_as_
  have F_cpl := fun_mk (st := s__check_places) l_cpl c_cpl k_cpl
  have b_cpl := F_cpl.binds (ps := ["land", "hands", "standings"]) fun _ _ _ _ _ _ us hl => match us, hl with | [_, _, _], _ => rfl
  have g_cpl := PySem.W.mg_of X G a_cpl
  have F_sst := fun_mk (st := s_start_state) l_sst c_sst k_sst
  have b_sst := F_sst.binds (ps := ["land"]) fun _ _ _ _ _ _ us hl => match us, hl with | [_], _ => rfl
  have g_sst := PySem.W.mg_of X G a_sst
  have F_mi := fun_mk (st := s__law_mix) l_mi c_mi k_mi
  have b_mi := F_mi.binds (ps := ["_law_number", "_law_turn"]) fun _ _ _ _ _ _ us hl => match us, hl with | [_, _], _ => rfl
  have g_mi := PySem.W.mg_of X G a_mi
  have F_ha := fun_mk (st := s__law_hand) l_ha c_ha k_ha
  have b_ha := F_ha.binds (ps := ["_law_script"]) fun _ _ _ _ _ _ us hl => match us, hl with | [_], _ => rfl
  have g_ha := PySem.W.mg_of X G a_ha
  have F_dr := fun_mk (st := s__law_draw) l_dr c_dr k_dr
  have b_dr := F_dr.binds (ps := ["_law_hand_here", "_law_many"]) fun _ _ _ _ _ _ us hl => match us, hl with | [_, _], _ => rfl
  have g_dr := PySem.W.mg_of X G a_dr
  have F_pk := fun_mk (st := s__law_pick) l_pk c_pk k_pk
  have b_pk := F_pk.binds (ps := ["_law_hand_here", "_law_things"]) fun _ _ _ _ _ _ us hl => match us, hl with | [_, _], _ => rfl
  have g_pk := PySem.W.mg_of X G a_pk
  have F_lo := fun_mk (st := s__law_lots) l_lo c_lo k_lo
  have b_lo := F_lo.binds (ps := ["_law_cells"]) fun _ _ _ _ _ _ us hl => match us, hl with | [_], _ => rfl
  have g_lo := PySem.W.mg_of X G a_lo
  have F_ld := fun_mk (st := s__law_land) l_ld c_ld k_ld
  have b_ld := F_ld.binds (ps := ["_law_hand_here", "_law_n"]) fun _ _ _ _ _ _ us hl => match us, hl with | [_, _], _ => rfl
  have g_ld := PySem.W.mg_of X G a_ld
  have F_sz := fun_mk (st := s__law_size) l_sz c_sz k_sz
  have b_sz := F_sz.binds (ps := ["_law_hand_here"]) fun _ _ _ _ _ _ us hl => match us, hl with | [_], _ => rfl
  have g_sz := PySem.W.mg_of X G a_sz
  have F_fa := fun_mk (st := s__law_far) l_fa c_fa k_fa
  have b_fa := F_fa.binds (ps := ["_law_hand_here"]) fun _ _ _ _ _ _ us hl => match us, hl with | [_], _ => rfl
  have g_fa := PySem.W.mg_of X G a_fa
  have F_tb := fun_mk (st := s__law_table) l_tb c_tb k_tb
  have b_tb := F_tb.binds (ps := ["_law_hand_here", "_law_hands"]) fun _ _ _ _ _ _ us hl => match us, hl with | [_, _], _ => rfl
  have g_tb := PySem.W.mg_of X G a_tb
  have F_an := fun_mk (st := s__law_any_state) l_an c_an k_an
  have b_an := F_an.binds (ps := ["_law_hand_here", "_law_n"]) fun _ _ _ _ _ _ us hl => match us, hl with | [_, _], _ => rfl
  have g_an := PySem.W.mg_of X G a_an
  have F_lof := fun_mk (st := s__law_land_of) l_lof c_lof k_lof
  have b_lof := F_lof.binds (ps := ["_law_land_here"]) fun _ _ _ _ _ _ us hl => match us, hl with | [_], _ => rfl
  have g_lof := PySem.W.mg_of X G a_lof
  have F_lrw := fun_mk (st := s__law_rows) l_lrw c_lrw k_lrw
  have b_lrw := F_lrw.binds (ps := ["_law_table_here"]) fun _ _ _ _ _ _ us hl => match us, hl with | [_], _ => rfl
  have g_lrw := PySem.W.mg_of X G a_lrw
  have F_fl := fun_mk (st := s__law_flat) l_fl c_fl k_fl
  have b_fl := F_fl.binds (ps := ["_law_thing"]) fun _ _ _ _ _ _ us hl => match us, hl with | [_], _ => rfl
  have g_fl := PySem.W.mg_of X G a_fl
  have F_bh := fun_mk (st := s__law_bent_hands) l_bh c_bh k_bh
  have b_bh := F_bh.binds (ps := ["_law_hand_here", "_law_hands"]) fun _ _ _ _ _ _ us hl => match us, hl with | [_, _], _ => rfl
  have g_bh := PySem.W.mg_of X G a_bh
  have F_bt := fun_mk (st := s__law_bent_table) l_bt c_bt k_bt
  have b_bt := F_bt.binds (ps := ["_law_hand_here", "_law_table_here"]) fun _ _ _ _ _ _ us hl => match us, hl with | [_, _], _ => rfl
  have g_bt := PySem.W.mg_of X G a_bt
  have F_pw := fun_mk (st := s__law_place_word) l_pw c_pw k_pw
  have b_pw := F_pw.binds (ps := ["_law_hands", "_law_table_here"]) fun _ _ _ _ _ _ us hl => match us, hl with | [_, _], _ => rfl
  have g_pw := PySem.W.mg_of X G a_pw
  have F_tl := fun_mk (st := s__law_told) l_tl c_tl k_tl
  have b_tl := F_tl.binds (ps := ["_law_land_here", "_law_hands", "_law_table_here"]) fun _ _ _ _ _ _ us hl => match us, hl with | [_, _, _], _ => rfl
  have g_tl := PySem.W.mg_of X G a_tl
  have F_sw := fun_mk (st := s__law_start_word) l_sw c_sw k_sw
  have b_sw := F_sw.binds (ps := ["_law_land_here"]) fun _ _ _ _ _ _ us hl => match us, hl with | [_], _ => rfl
  have g_sw := PySem.W.mg_of X G a_sw
  have F_la := fun_mk (st := s_law) l_la c_la k_la
  have b_la := F_la.binds (ps := ["_law_script"]) fun _ _ _ _ _ _ us hl => match us, hl with | [_], _ => rfl
  have g_la := PySem.W.mg_of X G a_la
  have gcL := PySem.W.mg_of X G aL
  have F_cI := fun_mk (st := s_Land___init__) l_cI c_cI k_cI
  have b_cI := F_cI.binds (ps := ["self", "cells", "neighbours", "roads"]) fun _ _ _ _ _ _ us hl => match us, hl with | [_, _, _, _], _ => rfl
  have M_LC : Mk K LC f_cI := ⟨mkLC, a_cI, i_cI, kcLC⟩
  have F_cp := fun_mk (st := s_Land_couples) l_cp c_cp k_cp
  have b_cp := F_cp.binds (ps := ["self"]) fun _ _ _ _ _ _ us hl => match us, hl with | [_], _ => rfl
  have p_cp : PropOf K LC "couples" pr_cp f_cp := ⟨a_cp, gp_cp, tp_cp, _, rp_cp⟩
  have clsLC : Cls K LC := ⟨pgLC, hdLC, poLC, saLC⟩
  have gcLC := PySem.W.mg_of X G aLC
  have F_sI := fun_mk (st := s_State___init__) l_sI c_sI k_sI
  have b_sI := F_sI.binds (ps := ["self", "land", "hands", "standings"]) fun _ _ _ _ _ _ us hl => match us, hl with | [_, _, _, _], _ => rfl
  have M_SC : Mk K SC f_sI := ⟨mkSC, a_sI, i_sI, kcSC⟩
  have clsSC : Cls K SC := ⟨pgSC, hdSC, poSC, saSC⟩
  have gcSC := PySem.W.mg_of X G aSC
  have F_iB := fun_mk (st := s_BadCell___init__) l_iB c_iB k_iB
  have b_iB := F_iB.binds (ps := ["self", "cell"]) fun _ _ _ _ _ _ us hl => match us, hl with | [_, _], _ => rfl
  have oxB : OexC K B := ⟨⟨_, _, _, _, _, _, _, _, _, _, _, _, _, _, _, xB, rB⟩, saB, exB, tyB, kpB⟩
  have gcB := PySem.W.mg_of X G aB
  have emB : PySem.W.exmOne K (.ref B) (.ref B) = some true := PySem.W.exm_ref exB hdB tyB ssB
  have F_iBS := fun_mk (st := s_BadState___init__) l_iBS c_iBS k_iBS
  have b_iBS := F_iBS.binds (ps := ["self", "what"]) fun _ _ _ _ _ _ us hl => match us, hl with | [_, _], _ => rfl
  have oxBS : OexC K BS := ⟨⟨_, _, _, _, _, _, _, _, _, _, _, _, _, _, _, xBS, rBS⟩, saBS, exBS, tyBS, kpBS⟩
  have gcBS := PySem.W.mg_of X G aBS
  have emBS : PySem.W.exmOne K (.ref BS) (.ref BS) = some true := PySem.W.exm_ref exBS hdBS tyBS ssBS
  have g_M := PySem.W.mg_of X G a_M
  have g_MH := PySem.W.mg_of X G a_MH
  have g_ST := PySem.W.mg_of X G a_ST
  have g_RI := PySem.W.mg_of X G a_RI
  have m_isinstance := PySem.W.mg_none_of X G z_isinstance
  have m_int := PySem.W.mg_none_of X G z_int
  have m_bool := PySem.W.mg_none_of X G z_bool
  have m_str := PySem.W.mg_none_of X G z_str
  have m_tuple := PySem.W.mg_none_of X G z_tuple
  have m_list := PySem.W.mg_none_of X G z_list
  have m_enumerate := PySem.W.mg_none_of X G z_enumerate
  have m_len := PySem.W.mg_none_of X G z_len
  have m_abs := PySem.W.mg_none_of X G z_abs
  have m_range := PySem.W.mg_none_of X G z_range
  have m_min := PySem.W.mg_none_of X G z_min
  have m_max := PySem.W.mg_none_of X G z_max
  have m_sorted := PySem.W.mg_none_of X G z_sorted
  have m_set := PySem.W.mg_none_of X G z_set
  have m_all := PySem.W.mg_none_of X G z_all
  have m_any := PySem.W.mg_none_of X G z_any
  have m_ValueError := PySem.W.mg_none_of X G z_ValueError
  have self : ∀ c : Addr, PySem.W.kitOne K (.ref c) (.ref c) = some true := fun c => by simp [PySem.W.kitOne]
  have kcls : ∀ t : Value, ∀ c : Addr, PySem.W.isClsIn K c = true → PySem.W.typeIn K (.ref c) = some (.type "type") → PySem.W.kitCls K t (.ref c) = PySem.W.subIn K t (.ref c) := fun t c i y => by
    have e1 : ((PySem.W.clsIn K c).isSome && PySem.W.typeIn K (.ref c) == some (.type "type")) = true := by rw [show (PySem.W.clsIn K c).isSome = true from i, y] <;> rfl
    show (if ((PySem.W.clsIn K c).isSome && PySem.W.typeIn K (.ref c) == some (.type "type")) = true then PySem.W.subIn K t (.ref c) else none) = _
    rw [if_pos e1]
  have kT : ∀ t c : Addr, PySem.W.isClsIn K c = true → PySem.W.typeIn K (.ref c) = some (.type "type") → PySem.W.subIn K (.ref t) (.ref c) = some true → PySem.W.kitOne K (.ref t) (.ref c) = some true := fun t c i y s => by
    unfold PySem.W.kitOne
    rw [kcls _ c i y, s]
    split <;> rfl
  have kF : ∀ t c : Addr, PySem.W.isClsIn K c = true → PySem.W.typeIn K (.ref c) = some (.type "type") → PySem.W.subIn K (.ref t) (.ref c) = some false → PySem.W.subIn K (.ref t) (.ref t) = some true → PySem.W.kitOne K (.ref t) (.ref c) = some false := fun t c i y s ss => by
    have hn : ¬ ((Value.ref t == Value.ref c) = true) := fun e => by
      have e' : t = c := by simpa using e
      subst e'
      rw [ss] at s
      cases s
    unfold PySem.W.kitOne
    rw [if_neg hn, kcls _ c i y, s]
  have kTy : ∀ t : String, ∀ c : Addr, PySem.W.isClsIn K c = true → PySem.W.typeIn K (.ref c) = some (.type "type") → PySem.W.subIn K (.type t) (.ref c) = some false → PySem.W.kitOne K (.type t) (.ref c) = some false := fun t c i y s => by
    have e1 : ((PySem.W.clsIn K c).isSome && PySem.W.typeIn K (.ref c) == some (.type "type")) = true := by rw [show (PySem.W.clsIn K c).isSome = true from i, y] <;> rfl
    show (if ((PySem.W.clsIn K c).isSome && PySem.W.typeIn K (.ref c) == some (.type "type")) = true then PySem.W.subIn K (.type t) (.ref c) else none) = some false
    rw [if_pos e1]
    exact s
  have TL : Tl K mg ⟨LC, B, f_iB⟩ :=
    { gC := gcLC, cl := clsLC, gB := gcB, oxB := oxB, iCB := a_iB, tIB := t_iB, nB := noB, nA := fun f hf => by
        simp only [lfields, List.mem_cons, List.not_mem_nil, or_false] at hf
        rcases hf with rfl | rfl | rfl | rfl | rfl
        · exact n_LC_cells
        · exact n_LC_neighbours
        · exact n_LC_roads
        · exact n_LC_nearby
        · exact n_LC__couples }
  have T2 : Tk K LC f_eq := ⟨haLC, hnO, htO, hmLC, self LC, a_eq, i_eq, neLC⟩
  have nSC : ∀ f ∈ sfields, NoAttr K SC f := fun f hf => by
        simp only [sfields, List.mem_cons, List.not_mem_nil, or_false] at hf
        rcases hf with rfl | rfl | rfl
        · exact n_SC_land
        · exact n_SC_hands
        · exact n_SC_standings
  have T5 : T5s K mg ST RI t_MH :=
    { gST := g_ST, gRI := g_RI, gH := (by rw [show (10 : Int) ^ 30 = 1000000000000000000000000000000 from by decide]; exact g_MH), sST := fun _ => .inr ⟨_, o_ST, z_ST, l_ST, rfl, rfl, w_ST, v_ST⟩, sRI := fun _ => .inr ⟨_, o_RI, z_RI, l_RI, rfl, rfl, w_RI, v_RI⟩ }
  have TS : Ts K mg SC := ⟨gcSC, clsSC, haSC, hnO, htO, hmSC, self SC⟩
  have TB : Tb K mg BS f_iBS := ⟨gcBS, oxBS, a_iBS, t_iBS, noBS⟩
  have kBV : PySem.W.kitOne K (.ref BS) (.type "ValueError") = some true := by
    have km : PySem.W.kitMeta "ValueError" = true := by decide +kernel
    unfold PySem.W.kitOne
    split
    · rfl
    · show (if PySem.W.kitMeta "ValueError" = true then PySem.W.subIn K (.ref BS) (.type "ValueError") else none) = some true
      rw [if_pos km]
      exact sBV
  have T3 : Te K mg BS L := ⟨gcL, ⟨hgBS, hkBS, exBS, hdBS, haBS, hnO, htO, hmBS⟩, ⟨hgBS, hkBS, exBS, hdBS⟩, emBS, kT BS L icL tL suBS, kBV⟩
  have TO : To K LC := ⟨kTy "NoneType" LC icLC tyLC sNL, kTy "int" LC icLC tyLC sIL, kTy "str" LC icLC tyLC sSL, kTy "tuple" LC icLC tyLC sTL⟩
  refine ⟨PySem.W.fnOf "law" "law" (defArgs s_law) (defBody s_law) (defScope s_law) .none kV_la dc_la pm_la an_la cd_la ct_la, fun s u => .of_eq rfl, fun base _ _ => ?_⟩
  have G_mi := ok_mix (P := P) (w := w) (mg := mg) (base := base)  F_mi m_int
  have G_ha := ok_hand (P := P) (w := w) (mg := mg) (base := base)  F_ha m_int m_abs m_enumerate
  have G_dr := ok_draw (P := P) (w := w) (mg := mg) (base := base)  F_dr F_mi g_mi b_mi m_int m_len
  have G_pk := ok_pick (P := P) (w := w) (mg := mg) (base := base)  F_pk k_dr G_dr g_dr b_dr m_len
  have G_lo := ok_lots (P := P) (w := w) (mg := mg) (base := base)  F_lo m_range m_len m_list
  have G_ld := ok_land (P := P) (w := w) (mg := mg) (base := base)  F_ld G_dr g_dr k_dr b_dr G_pk g_pk k_pk b_pk G_lo g_lo k_lo b_lo m_range m_len m_list m_min m_max m_sorted
  have G_isw := ok_whole (P := P) (w := w) (mg := mg) (base := base)  F_isw m_isinstance m_int m_bool
  have G_sq := ok_seq (P := P) (w := w) (mg := mg) (base := base)  F_sq m_isinstance m_list m_tuple
  have G_ac := ok_cells (P := P) (w := w) (mg := mg) (base := base)  F_ac G_sq g_sq k_sq b_sq G_isw g_isw k_isw b_isw m_len m_set m_all
  have G_a2 := ok_two (P := P) (w := w) (mg := mg) (base := base)  F_a2 G_ac g_ac k_ac b_ac m_len
  have G_sp := ok_spread (P := P) (w := w) (mg := mg) (base := base)  F_sp m_len
  have G_ny := ok_near (P := P) (w := w) (mg := mg) (base := base)  F_ny m_range m_tuple
  have G_ht := ok_hang (P := P) (w := w) (mg := mg) (base := base)  F_ht G_ny g_ny k_ny b_ny G_sp g_sp k_sp b_sp m_len m_list m_range
  have G_nb := ok_nbrs (P := P) (w := w) (mg := mg) (base := base)  F_nb G_sq g_sq k_sq b_sq G_a2 g_a2 k_a2 b_a2 m_len m_all m_tuple m_sorted
  have G_cI := ok_landI (P := P) (w := w) (mg := mg) (base := base)  TL g_M F_cI G_isw g_isw k_isw b_isw G_nb g_nb k_nb b_nb G_ac g_ac k_ac b_ac G_ht g_ht k_ht b_ht G_ny g_ny k_ny b_ny m_len m_sorted m_tuple m_range
  have G_cp := ok_couples (P := P) (w := w) (mg := mg) (base := base)  TL F_cp
  have G_ah := ok_areh (P := P) (w := w) (mg := mg) (base := base)  TL T5 F_ah G_sq g_sq k_sq b_sq G_isw g_isw k_isw b_isw m_len m_all
  have G_ir := ok_isrow (P := P) (w := w) (mg := mg) (base := base)  TL T5 F_ir G_sq g_sq k_sq b_sq m_len m_all
  have G_as_ := ok_ares (P := P) (w := w) (mg := mg) (base := base)  TL F_as_ G_sq g_sq k_sq b_sq G_ir g_ir k_ir b_ir m_len m_all m_enumerate
  have G_cpl := ok_chp (P := P) (w := w) (mg := mg) (base := base)  TL TB F_cpl p_cp G_cp b_cp F_iBS b_iBS
  have G_sI := ok_sti (P := P) (w := w) (mg := mg) (base := base) (S := SC) TL TB T2 clsSC nSC F_sI G_ah g_ah k_ah b_ah G_as_ g_as_ k_as_ b_as_ G_cpl g_cpl k_cpl b_cpl F_iBS b_iBS m_isinstance m_tuple
  have G_sst := ok_start (P := P) (w := w) (mg := mg) (base := base) (S := SC) TL TB T2 F_sst gcSC M_SC G_sI b_sI F_iBS b_iBS m_isinstance
  have G_fa := ok_far (P := P) (w := w) (mg := mg) (base := base)  F_fa G_dr g_dr k_dr b_dr
  have G_tb := ok_table (P := P) (w := w) (mg := mg) (base := base)  F_tb G_pk g_pk k_pk b_pk m_range m_len
  have G_an := ok_anys (P := P) (w := w) (mg := mg) (base := base)  F_an G_fa g_fa k_fa b_fa G_pk g_pk k_pk b_pk G_tb g_tb k_tb b_tb G_dr g_dr k_dr b_dr m_range
  have G_lrw := ok_lrows (P := P) (w := w) (mg := mg) (base := base)  F_lrw m_tuple
  have G_lof := ok_lof (P := P) (w := w) (mg := mg) (base := base)  TL F_lof M_LC G_cI b_cI
  have G_sz := ok_size (P := P) (w := w) (mg := mg) (base := base)  F_sz G_pk g_pk k_pk b_pk
  have G_pw := ok_pw (P := P) (w := w) (mg := mg) (base := base)  F_pw m_len m_range
  have G_bh := ok_bh (P := P) (w := w) (mg := mg) (base := base)  F_bh G_pk g_pk k_pk b_pk G_dr g_dr k_dr b_dr m_len m_list
  have G_bt := ok_bt (P := P) (w := w) (mg := mg) (base := base)  F_bt G_pk g_pk k_pk b_pk G_dr g_dr k_dr b_dr m_len m_list m_range m_int
  have G_tl := ok_told (P := P) (w := w) (mg := mg) (base := base) (a := ⟨LC, B, f_iB⟩) (S := SC) TL T3 TS TB F_tl M_SC G_sI b_sI m_isinstance m_ValueError
  have G_sw := ok_sw (P := P) (w := w) (mg := mg) (base := base) (a := ⟨LC, B, f_iB⟩) (S := SC) T3 TB F_sw G_sst g_sst k_sst b_sst
  have G_fl := ok_flat (P := P) (w := w) (mg := mg) (base := base) F_fl g_fl k_fl b_fl m_isinstance m_list m_tuple 4
  exact ok_law TO F_la G_ha g_ha k_ha b_ha G_ld g_ld k_ld b_ld G_sz g_sz k_sz b_sz G_an g_an k_an b_an G_pk g_pk k_pk b_pk G_lof g_lof k_lof b_lof G_lrw g_lrw k_lrw b_lrw G_bh g_bh k_bh b_bh G_bt g_bt k_bt b_bt G_pw g_pw k_pw b_pw G_fl g_fl k_fl b_fl G_tl g_tl k_tl b_tl G_sw g_sw k_sw b_sw m_range m_tuple
end K7
end
open PySem PySem.W PyProof.Rows
set_option maxHeartbeats 0 in
theorem PySem.Challenge.cw_landways_k11_states_refused_holds : PySem.Challenge.rw_landways_k11_states_refused.Holds := by
  w_on; o_law; k_head; (case hw => w_witness2)
  k_fill
  refine L2.walk_ofB (l := PySem.Challenge.rw_landways_k11_states_refused) (n := 63) (k := 9) (x := "_law_script") (CX := fun _ => L2.CX0) (sp := fun w => K7.spLaw _) rfl (by decide) rfl ⟨rfl, by decide, by decide⟩ (fun w h Y => PySem.W.kIn_of Y) ?F (fun _ _ a ns hl _ _ hS => ⟨a, ns, rfl, hS, hl, fun _ => rfl⟩) (fun _ _ _ _ _ h => h)
  case F =>
    intro w mg fa h KX G hmg
    refine' K7.all_mk KX G hmg ?a_sq ?l_sq ?c_sq ?k_sq ?a_isw ?l_isw ?c_isw ?k_isw ?a_ac ?l_ac ?c_ac ?k_ac ?a_a2 ?l_a2 ?c_a2 ?k_a2 ?a_sp ?l_sp ?c_sp ?k_sp ?a_ny ?l_ny ?c_ny ?k_ny ?a_ht ?l_ht ?c_ht ?k_ht ?a_nb ?l_nb ?c_nb ?k_nb ?a_ah ?l_ah ?c_ah ?k_ah ?a_ir ?l_ir ?c_ir ?k_ir ?a_as_ ?l_as_ ?c_as_ ?k_as_ ?a_cpl ?l_cpl ?c_cpl ?k_cpl ?a_sst ?l_sst ?c_sst ?k_sst ?a_mi ?l_mi ?c_mi ?k_mi ?a_ha ?l_ha ?c_ha ?k_ha ?a_dr ?l_dr ?c_dr ?k_dr ?a_pk ?l_pk ?c_pk ?k_pk ?a_lo ?l_lo ?c_lo ?k_lo ?a_ld ?l_ld ?c_ld ?k_ld ?a_sz ?l_sz ?c_sz ?k_sz ?a_fa ?l_fa ?c_fa ?k_fa ?a_tb ?l_tb ?c_tb ?k_tb ?a_an ?l_an ?c_an ?k_an ?a_lof ?l_lof ?c_lof ?k_lof ?a_lrw ?l_lrw ?c_lrw ?k_lrw ?a_fl ?l_fl ?c_fl ?k_fl ?a_bh ?l_bh ?c_bh ?k_bh ?a_bt ?l_bt ?c_bt ?k_bt ?a_pw ?l_pw ?c_pw ?k_pw ?a_tl ?l_tl ?c_tl ?k_tl ?a_sw ?l_sw ?c_sw ?k_sw ?a_la ?l_la ?c_la ?k_la ?aL ?eL ?dL ?tL ?icL ?hnO ?htO ?aLC ?pgLC ?hdLC ?poLC ?saLC ?mkLC ?kcLC ?haLC ?hmLC ?neLC ?icLC ?tyLC ?n_LC_cells ?n_LC_neighbours ?n_LC_roads ?n_LC_nearby ?n_LC__couples ?a_cI ?i_cI ?l_cI ?c_cI ?k_cI ?a_cp ?gp_cp ?tp_cp ?rp_cp ?l_cp ?c_cp ?k_cp ?a_eq ?i_eq ?aSC ?pgSC ?hdSC ?poSC ?saSC ?mkSC ?kcSC ?haSC ?hmSC ?n_SC_land ?n_SC_hands ?n_SC_standings ?a_sI ?i_sI ?l_sI ?c_sI ?k_sI ?aB ?xB ?rB ?saB ?exB ?tyB ?kpB ?hgB ?hkB ?hdB ?haB ?hmB ?icB ?ssB ?noB ?a_iB ?t_iB ?l_iB ?c_iB ?k_iB ?aBS ?xBS ?rBS ?saBS ?exBS ?tyBS ?kpBS ?hgBS ?hkBS ?hdBS ?haBS ?hmBS ?icBS ?ssBS ?suBS ?noBS ?a_iBS ?t_iBS ?l_iBS ?c_iBS ?k_iBS ?sNL ?sIL ?sSL ?sTL ?sBV ?a_M ?a_MH ?a_ST ?l_ST ?v_ST ?w_ST ?a_RI ?l_RI ?v_RI ?w_RI ?z_isinstance ?z_int ?z_bool ?z_str ?z_tuple ?z_list ?z_enumerate ?z_len ?z_abs ?z_range ?z_min ?z_max ?z_sorted ?z_set ?z_all ?z_any ?z_ValueError
    (case a_sq => k_is)
    (case l_sq => k_is)
    (case c_sq => k_is)
    (case k_sq => k_is)
    (case a_isw => k_is)
    (case l_isw => k_is)
    (case c_isw => k_is)
    (case k_isw => k_is)
    (case a_ac => k_is)
    (case l_ac => k_is)
    (case c_ac => k_is)
    (case k_ac => k_is)
    (case a_a2 => k_is)
    (case l_a2 => k_is)
    (case c_a2 => k_is)
    (case k_a2 => k_is)
    (case a_sp => k_is)
    (case l_sp => k_is)
    (case c_sp => k_is)
    (case k_sp => k_is)
    (case a_ny => k_is)
    (case l_ny => k_is)
    (case c_ny => k_is)
    (case k_ny => k_is)
    (case a_ht => k_is)
    (case l_ht => k_is)
    (case c_ht => k_is)
    (case k_ht => k_is)
    (case a_nb => k_is)
    (case l_nb => k_is)
    (case c_nb => k_is)
    (case k_nb => k_is)
    (case a_ah => k_is)
    (case l_ah => k_is)
    (case c_ah => k_is)
    (case k_ah => k_is)
    (case a_ir => k_is)
    (case l_ir => k_is)
    (case c_ir => k_is)
    (case k_ir => k_is)
    (case a_as_ => k_is)
    (case l_as_ => k_is)
    (case c_as_ => k_is)
    (case k_as_ => k_is)
    (case a_cpl => k_is)
    (case l_cpl => k_is)
    (case c_cpl => k_is)
    (case k_cpl => k_is)
    (case a_sst => k_is)
    (case l_sst => k_is)
    (case c_sst => k_is)
    (case k_sst => k_is)
    (case a_mi => k_is)
    (case l_mi => k_is)
    (case c_mi => k_is)
    (case k_mi => k_is)
    (case a_ha => k_is)
    (case l_ha => k_is)
    (case c_ha => k_is)
    (case k_ha => k_is)
    (case a_dr => k_is)
    (case l_dr => k_is)
    (case c_dr => k_is)
    (case k_dr => k_is)
    (case a_pk => k_is)
    (case l_pk => k_is)
    (case c_pk => k_is)
    (case k_pk => k_is)
    (case a_lo => k_is)
    (case l_lo => k_is)
    (case c_lo => k_is)
    (case k_lo => k_is)
    (case a_ld => k_is)
    (case l_ld => k_is)
    (case c_ld => k_is)
    (case k_ld => k_is)
    (case a_sz => k_is)
    (case l_sz => k_is)
    (case c_sz => k_is)
    (case k_sz => k_is)
    (case a_fa => k_is)
    (case l_fa => k_is)
    (case c_fa => k_is)
    (case k_fa => k_is)
    (case a_tb => k_is)
    (case l_tb => k_is)
    (case c_tb => k_is)
    (case k_tb => k_is)
    (case a_an => k_is)
    (case l_an => k_is)
    (case c_an => k_is)
    (case k_an => k_is)
    (case a_lof => k_is)
    (case l_lof => k_is)
    (case c_lof => k_is)
    (case k_lof => k_is)
    (case a_lrw => k_is)
    (case l_lrw => k_is)
    (case c_lrw => k_is)
    (case k_lrw => k_is)
    (case a_fl => k_is)
    (case l_fl => k_is)
    (case c_fl => k_is)
    (case k_fl => k_is)
    (case a_bh => k_is)
    (case l_bh => k_is)
    (case c_bh => k_is)
    (case k_bh => k_is)
    (case a_bt => k_is)
    (case l_bt => k_is)
    (case c_bt => k_is)
    (case k_bt => k_is)
    (case a_pw => k_is)
    (case l_pw => k_is)
    (case c_pw => k_is)
    (case k_pw => k_is)
    (case a_tl => k_is)
    (case l_tl => k_is)
    (case c_tl => k_is)
    (case k_tl => k_is)
    (case a_sw => k_is)
    (case l_sw => k_is)
    (case c_sw => k_is)
    (case k_sw => k_is)
    (case a_la => k_is)
    (case l_la => k_is)
    (case c_la => k_is)
    (case k_la => k_is)
    (case aL => k_is)
    (case eL => k_is)
    (case dL => k_is)
    (case tL => k_is)
    (case icL => k_is)
    (case hnO => k_is)
    (case htO => k_is)
    (case aLC => k_is)
    (case pgLC => k_is)
    (case hdLC => k_is)
    (case poLC => k_is)
    (case saLC => k_is)
    (case mkLC => k_is)
    (case kcLC => k_is)
    (case haLC => k_is)
    (case hmLC => k_is)
    (case neLC => k_is)
    (case icLC => k_is)
    (case tyLC => k_is)
    (case n_LC_cells => k_is)
    (case n_LC_neighbours => k_is)
    (case n_LC_roads => k_is)
    (case n_LC_nearby => k_is)
    (case n_LC__couples => k_is)
    (case a_cI => k_is)
    (case i_cI => k_is)
    (case l_cI => k_is)
    (case c_cI => k_is)
    (case k_cI => k_is)
    (case a_cp => k_is)
    (case gp_cp => k_is)
    (case tp_cp => k_is)
    (case rp_cp => k_is)
    (case l_cp => k_is)
    (case c_cp => k_is)
    (case k_cp => k_is)
    (case a_eq => k_is)
    (case i_eq => k_is)
    (case aSC => k_is)
    (case pgSC => k_is)
    (case hdSC => k_is)
    (case poSC => k_is)
    (case saSC => k_is)
    (case mkSC => k_is)
    (case kcSC => k_is)
    (case haSC => k_is)
    (case hmSC => k_is)
    (case n_SC_land => k_is)
    (case n_SC_hands => k_is)
    (case n_SC_standings => k_is)
    (case a_sI => k_is)
    (case i_sI => k_is)
    (case l_sI => k_is)
    (case c_sI => k_is)
    (case k_sI => k_is)
    (case aB => k_is)
    (case xB => k_is)
    (case rB => decide +kernel)
    (case saB => k_is)
    (case exB => k_is)
    (case tyB => k_is)
    (case kpB => k_is)
    (case hgB => k_is)
    (case hkB => k_is)
    (case hdB => k_is)
    (case haB => k_is)
    (case hmB => k_is)
    (case icB => k_is)
    (case ssB => k_is)
    (case noB => k_is)
    (case a_iB => k_is)
    (case t_iB => k_is)
    (case l_iB => k_is)
    (case c_iB => k_is)
    (case k_iB => k_is)
    (case aBS => k_is)
    (case xBS => k_is)
    (case rBS => decide +kernel)
    (case saBS => k_is)
    (case exBS => k_is)
    (case tyBS => k_is)
    (case kpBS => k_is)
    (case hgBS => k_is)
    (case hkBS => k_is)
    (case hdBS => k_is)
    (case haBS => k_is)
    (case hmBS => k_is)
    (case icBS => k_is)
    (case ssBS => k_is)
    (case suBS => k_is)
    (case noBS => k_is)
    (case a_iBS => k_is)
    (case t_iBS => k_is)
    (case l_iBS => k_is)
    (case c_iBS => k_is)
    (case k_iBS => k_is)
    (case sNL => k_is)
    (case sIL => k_is)
    (case sSL => k_is)
    (case sTL => k_is)
    (case sBV => k_is)
    (case a_M => k_is)
    (case a_MH => k_is)
    (case a_ST => k_is)
    (case l_ST => k_is)
    (case v_ST => exact (.cons ⟨_, rfl⟩ (.cons ⟨_, rfl⟩ (.cons ⟨_, rfl⟩ (.cons ⟨_, rfl⟩ .nil)))))
    (case w_ST => decide)
    (case a_RI => k_is)
    (case l_RI => k_is)
    (case v_RI => exact (.cons ⟨_, rfl⟩ (.cons ⟨_, rfl⟩ .nil)))
    (case w_RI => decide)
    (case z_isinstance => k_is)
    (case z_int => k_is)
    (case z_bool => k_is)
    (case z_str => k_is)
    (case z_tuple => k_is)
    (case z_list => k_is)
    (case z_enumerate => k_is)
    (case z_len => k_is)
    (case z_abs => k_is)
    (case z_range => k_is)
    (case z_min => k_is)
    (case z_max => k_is)
    (case z_sorted => k_is)
    (case z_set => k_is)
    (case z_all => k_is)
    (case z_any => k_is)
    (case z_ValueError => k_is)

