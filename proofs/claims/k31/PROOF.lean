import PyProof.Rows.All
import Wide.All
import OpenK.AllK
import Wide.FinOn
import PySem.Challenge.RW_landways_k31_whole_numbers_of_every_cust
import HandS.ForMost
import HandS.Wide
import HandS.Evl
import HandS.Walk
import HandS.Zip
import HandS.TupAny
import HandS.Sort
import PyProof.ListRange
import HandS.Deep
import HandS.SortRule
import HandS.Star
import HandS.IsInst
import HandS.TupSets
import HandS.SetFor
import HandS.SetBool
import PyProof.TupleOfSeq
import HandS.Property
import HandS.ExcIs
import HandS.ExcField
import HandS.ForExc
import HandS.ExcInit
import HandS.SlotsOwn
import HandS.OwnEq
import PyProof.InstEq
import HandS.Flow
import HandS.MakeKw
import PyProof.FactsAll.dict_1
import HandS.WordsExc
import HandS.More
import HandS.Strs
import HandS.Rev
import HandS.NoneIn
import HandS.Style
import HandS.RaiseMore
import KE.KExcIs
import HandS.EndBits
set_option Elab.async false
set_option linter.all false
set_option maxRecDepth 100000
set_option maxHeartbeats 4000000
/-! ## P1 -/
section
open PySem PySem.Spec PyProof.Rows L2
namespace K7

def topS (i : Nat) : Stmt := PySem.Challenge.pw_landways_k31_whole_numbers_of_every_cust.main.body.getD i (.Pass ⟨0, 0, 0, 0⟩)
abbrev N__law_mix : List Str := ["_law_number_here", "_law_turn", "_law_once", "_law_twice"]
abbrev s__law_mix : Stmt := topS 41
theorem sc__law_mix : FnScope ["_law_number_here", "_law_turn", "_law_once", "_law_twice"] ["_law_number_here", "_law_turn"] (defScope s__law_mix) := ⟨rfl, rfl, rfl, by decide +kernel, rfl, by decide +kernel, by decide +kernel⟩

abbrev N__law_draw : List Str := ["_law_hand_here", "_law_many", "_law_cell", "_law_rest"]
abbrev s__law_draw : Stmt := topS 43
theorem sc__law_draw : FnScope ["_law_hand_here", "_law_many", "_law_cell", "_law_rest"] ["_law_hand_here", "_law_many"] (defScope s__law_draw) := ⟨rfl, rfl, rfl, by decide +kernel, rfl, by decide +kernel, by decide +kernel⟩

abbrev N__law_pick : List Str := ["_law_hand_here", "_law_things"]
abbrev s__law_pick : Stmt := topS 44
theorem sc__law_pick : FnScope ["_law_hand_here", "_law_things"] ["_law_hand_here", "_law_things"] (defScope s__law_pick) := ⟨rfl, rfl, rfl, by decide +kernel, rfl, by decide +kernel, by decide +kernel⟩

abbrev N__law_hand : List Str := ["_law_script", "_law_total", "_law_k", "_law_cell"]
abbrev s__law_hand : Stmt := topS 42
theorem sc__law_hand : FnScope ["_law_script", "_law_total", "_law_k", "_law_cell"] ["_law_script"] (defScope s__law_hand) := ⟨rfl, rfl, rfl, by decide +kernel, rfl, by decide +kernel, by decide +kernel⟩

section
variable {P : Program} {w : World} {K : PySem.W.Frag} {mg : Str → Option Value} {base : Heap}
/-! mix: some number from 0 on -/
def spMix : Sp := fun vs H Q _ => ∃ n t : Int, vs = [.int n, .int t] ∧ ∀ r : Int, 0 ≤ r → Q (.int r) H
theorem ok_mix {f : Addr} {fd : FuncData} (F : Fun K "_law_mix" "_law_mix" s__law_mix f fd) (m_int : mg "int" = none) : FnOk P w K mg base CX0 1 f fd ["_law_number_here", "_law_turn"] spMix := by
  refine F.ok sc__law_mix (fun vs H Q E h => ?_) (fun cdv A outer s H vs Q E hr h => ?_)
  · obtain ⟨n, t, rfl, _⟩ := h
    rfl
  · obtain ⟨n, t, rfl, q⟩ := h
    refine ⟨_, (pss_cons (ps_set (i := 2) sc__law_mix.nd rfl (by first | exact Or.inl rfl | exact Or.inr rfl) (pe_op op_mod (pe_callTy call_int1 (by rfl) m_int boot_int (pa_cons (pe_op op_add (pe_op op_add (pe_op op_mul (pv 0) pe_int) (pe_op op_mul (pv 1) pe_int)) pe_int) pa_nil)) pe_int))
 (pss_cons (ps_set (i := 3) sc__law_mix.nd rfl (by first | exact Or.inl rfl | exact Or.inr rfl) (pe_op op_mod (pe_callTy call_int1 (by rfl) m_int boot_int (pa_cons (pe_op op_add (pe_op op_add (pe_op op_mul (pv 2) (pv 2)) (pe_op op_mul (pe_op op_fdiv (pv 2) pe_int) pe_int)) (pe_op op_mul (pv 1) pe_int)) pa_nil)) pe_int))
 (pss_one (ps_ret (pe_op op_fdiv (pe_op op_mod (pe_callTy call_int1 (by rfl) m_int boot_int (pa_cons (pe_op op_add (pe_op op_fdiv (pe_op op_mul (pv 3) (pv 3)) pe_int) (pv 2)) pa_nil)) pe_int) pe_int))))), ?_⟩
    have e1 : ∀ z : Int, 0 ≤ z % 2147483647 ∧ z % 2147483647 < 2147483647 := fun z => ⟨Int.emod_nonneg _ (by decide), Int.emod_lt_of_pos _ (by decide)⟩
    have e2 : ∀ z : Int, 0 ≤ z % 2147483399 ∧ z % 2147483399 < 2147483399 := fun z => ⟨Int.emod_nonneg _ (by decide), Int.emod_lt_of_pos _ (by decide)⟩
    refine ⟨_, rfl, _, _, rfl, rfl, .inr ⟨by decide, by decide⟩, _, rfl, _, _, rfl, rfl, .inr ⟨by decide, by decide⟩, _, _, rfl, rfl, _, _, rfl, rfl, .inl ⟨_, rfl, ?_⟩⟩
    refine ⟨_, _, rfl, rfl, show (0 : Int) < _ by decide, ?_⟩
    have b1 := e1 (n * 48271 + t * 16807 + 11)
    refine ⟨_, rfl, _, rfl, _, _, rfl, rfl, .inl ⟨by omega, by omega⟩, _, rfl, _, _, rfl, rfl, ⟨by decide, by decide⟩, _, _, rfl, rfl, .inr ⟨by decide, by decide⟩, _, _, rfl, rfl, _, rfl, _, _, rfl, rfl, .inr ⟨by decide, by decide⟩, _, _, rfl, rfl, .inl ⟨_, rfl, ?_⟩⟩
    refine ⟨_, _, rfl, rfl, show (0 : Int) < _ by decide, ?_⟩
    refine ⟨_, rfl, _, rfl, _, _, rfl, rfl, .inl ⟨by omega, by omega⟩, _, _, rfl, rfl, ⟨by decide, by decide⟩, _, rfl, _, _, rfl, rfl, .inl ⟨_, rfl, _, _, rfl, rfl, show (0 : Int) < _ by decide, _, _, rfl, rfl, ⟨by decide, by decide⟩, ?_⟩⟩
    exact q _ (Int.ediv_nonneg (Int.emod_nonneg _ (by decide)) (by decide))
/-! the hand -/
structure HandB (ns : List Int) (i x t : Int) : Prop where
  len : ns.length ≤ 63
  lo : 0 ≤ i
  hi : i ≤ ns.length
  x0 : 0 ≤ x
  t0 : 0 ≤ t
  pos : ∀ n ∈ ns, 0 ≤ n
def HandO (c : Addr) (i x t : Int) : HO := .lst [.ref c, .int i, .int x, .int t]
def Hand (H : Hp) (a c : Addr) : Prop := ∃ ns i x t, H a = some (HandO c i x t) ∧ H c = some (.lst (ns.map V.int)) ∧ HandB ns i x t
/-- H' is H but for the hand at a, which is a hand still -/
structure Drawn (H H' : Hp) (a c : Addr) : Prop where
  but : ∀ b, b ≠ a → H' b = H b
  hand : Hand H' a c
def spDraw : Sp := fun vs H Q _ => ∃ (a c : Addr) (many : Int), vs = [.ref a, .int many] ∧ Hand H a c ∧ 0 < many ∧ many < 2 ^ 200 ∧ ∀ H' r, Drawn H H' a c → 0 ≤ r → r < many → Q (.int r) H'
theorem hand_ne {H : Hp} {a c : Addr} {ns : List Int} {i x t : Int} (h1 : H a = some (HandO c i x t)) (h2 : H c = some (.lst (ns.map V.int))) : c ≠ a := by
  intro e
  subst e
  rw [h1] at h2
  unfold HandO at h2
  injection h2 with h2
  injection h2 with h2
  cases ns with
  | nil => cases h2
  | cons n r => rw [List.map_cons] at h2; injection h2 with h3 h4; cases h3
theorem drawn_of {H H0 : Hp} {a c : Addr} {ns : List Int} {i x t : Int} (hb : ∀ b, b ≠ a → H0 b = H b) (hc : c ≠ a) (h2 : H c = some (.lst (ns.map V.int))) (B : HandB ns i x t) : Drawn H (upd H0 a (HandO c i x t)) a c :=
  ⟨fun b h => by rw [upd_ne h]; exact hb b h, ⟨ns, i, x, t, upd_same, by rw [upd_ne hc, hb c hc]; exact h2, B⟩⟩
theorem wide200 {many : Int} (h0 : 0 < many) (h1 : many < 2 ^ 200) (i : Int) : CDivW i many := wide_div (b := 200) h0 (by omega) (by decide) (by decide)
theorem ok_draw {f fM : Addr} {fd fdM : FuncData} (F : Fun K "_law_draw" "_law_draw" s__law_draw f fd) (FM : Fun K "_law_mix" "_law_mix" s__law_mix fM fdM) (g_law_mix : mg "_law_mix" = some (.ref fM)) (b_law_mix : Binds K fdM ["_law_number_here", "_law_turn"] [])
    (m_int : mg "int" = none) (m_len : mg "len" = none) : FnOk P w K mg base CX0 2 f fd ["_law_hand_here", "_law_many"] spDraw := by
  have G_law_mix : FnOk P w K mg base CX0 1 fM fdM ["_law_number_here", "_law_turn"] spMix := ok_mix FM m_int
  have k_law_mix := FM.kp
  refine F.ok sc__law_draw (fun vs H Q E h => ?_) (fun cdv A outer s H vs Q E hr h => ?_)
  · obtain ⟨a, c, n, rfl, _⟩ := h
    rfl
  · obtain ⟨a, c, many, rfl, ⟨ns, i, x, t, h1, h2, B⟩, hm0, hm1, q⟩ := h
    have hr_law_mix := hr
    have hc := hand_ne h1 h2
    refine ⟨_, (Evl.pss_cut (ps_if (pw_and (pt_cmpR op_eq (pe_ix ix_list (pv 0) pe_int (fun _ _ => rfl)) pe_int (nomark _)) (pw_and1 (pt_cmpR op_lt (pe_ix ix_list (pv 0) pe_int (fun _ _ => rfl)) (pe_callB call_len_seq (by rfl) m_len boot_len (pa_cons (pe_ix ix_list (pv 0) pe_int (fun _ _ => rfl)) pa_nil)) (nomark _)))).pt
  (pss_cons (ps_set (i := 2) sc__law_draw.nd rfl (by first | exact Or.inl rfl | exact Or.inr rfl) (pe_ix ix_list (pe_ix ix_list (pv 0) pe_int (fun _ _ => rfl)) (pe_ix ix_list (pv 0) pe_int (fun _ _ => rfl)) (fun _ _ => rfl)))
 (pss_cons (ps_asg (pe_op op_add (pe_ix ix_list (pv 0) pe_int (fun _ _ => rfl)) pe_int) (pg_sub (pv 0) pe_int set_list))
 (pss_cons (ps_if (pt_cmpR op_lt (pv 2) (pe_op op_pow pe_int pe_int) (nomark _))
  (pss_one (ps_ret (pe_op op_mod (pe_callTy call_int1 (by rfl) m_int boot_int (pa_cons (pe_call G_law_mix hr_law_mix (by rfl) g_law_mix k_law_mix b_law_mix .nil pass0 (pa_cons (pe_op op_mod (pe_callTy call_int1 (by rfl) m_int boot_int (pa_cons (pv 2) pa_nil)) pe_int) (pa_cons (pe_ix ix_list (pv 0) pe_int (fun _ _ => rfl)) pa_nil))) pa_nil)) (pv 1))))
  pss_nil)
 (pss_one (ps_asg (pv 2) (pg_sub (pv 0) pe_int set_list))))))
  pss_nil)
 (pss_cons (ps_if (pt_cmpR op_gt (pe_ix ix_list (pv 0) pe_int (fun _ _ => rfl)) pe_int (nomark _))
  (pss_cons (ps_set (i := 3) sc__law_draw.nd rfl (by first | exact Or.inl rfl | exact Or.inr rfl) (pe_ix ix_list (pv 0) pe_int (fun _ _ => rfl)))
 (pss_cons (ps_asg (pe_op op_fdivW (pv 3) (pv 1)) (pg_sub (pv 0) pe_int set_list))
 (pss_one (ps_ret (pe_op op_mod (pe_callTy call_int1 (by rfl) m_int boot_int (pa_cons (pv 3) pa_nil)) (pv 1))))))
  pss_nil)
 (pss_cons (ps_asg (pe_op op_mod (pe_callTy call_int1 (by rfl) m_int boot_int (pa_cons (pe_op op_add (pe_ix ix_list (pv 0) pe_int (fun _ _ => rfl)) pe_int) pa_nil)) pe_int) (pg_sub (pv 0) pe_int set_list))
 (pss_one (ps_ret (pe_op op_mod (pe_callTy call_int1 (by rfl) m_int boot_int (pa_cons (pe_call G_law_mix hr_law_mix (by rfl) g_law_mix k_law_mix b_law_mix .nil pass0 (pa_cons (pe_ix ix_list (pv 0) pe_int (fun _ _ => rfl)) (pa_cons (pe_ix ix_list (pv 0) pe_int (fun _ _ => rfl)) pa_nil))) pa_nil)) (pv 1))))))), ?_⟩
    have hS : SqL K H a [.ref c, .int i, .int x, .int t] := .inl (.inl h1)
    have hC : SqL K H c (ns.map V.int) := .inl (.inl h2)
    have last : ∀ (i' : Int) (σ : L2.St) , 0 ≤ i' → i' ≤ ns.length → True := fun _ _ _ _ => trivial
    refine ⟨fun σ' H' => ∃ i' x' y2, σ' = [some (.ref a), some (.int many), y2, none] ∧ (∀ b, b ≠ a → H' b = H b) ∧ H' a = some (HandO c i' x' t) ∧ HandB ns i' x' t, ?_, fun σ' H' hM => ?_⟩
    refine ⟨.ref a, rfl, a, _, _, _, rfl, rfl, hS, rfl, rfl, _, rfl, ite2 (fun e => ?_) (fun e => ?_)⟩
    · have ex : x = 0 := V.int.inj (of_decide_eq_true e)
      subst ex
      refine ⟨.ref a, rfl, a, _, _, _, rfl, rfl, hS, rfl, .ref a, rfl, a, _, _, _, rfl, rfl, hS, rfl, c, _, rfl, .inl hC, _, _, rfl, rfl, _, rfl, ite2 (fun e => ?_) (fun e => ?_)⟩
      · have hi : i < ((ns.map V.int).length : Int) := of_decide_eq_true e
        rw [List.length_map] at hi
        have hlo := B.lo
        obtain ⟨j, rfl⟩ : ∃ j : Nat, i = (j : Int) := ⟨i.toNat, by omega⟩
        have hj : j < ns.length := by omega
        have gj : (ns.map V.int)[j]? = some (.int ns[j]) := by
          rw [List.getElem?_map, List.getElem?_eq_getElem hj]
          rfl
        have p0 : 0 ≤ ns[j] := B.pos _ (List.getElem_mem hj)
        refine ⟨.ref a, rfl, a, _, _, _, rfl, rfl, hS, rfl, .ref a, rfl, a, _, _, _, rfl, rfl, hS, rfl, c, _, _, _, rfl, rfl, hC, atI_nat gj, ?_⟩
        refine ⟨.ref a, rfl, a, _, _, _, rfl, rfl, hS, rfl, _, _, rfl, rfl, .ref a, rfl, a, _, _, _, rfl, rfl, h1, rfl, ?_⟩
        have hS2 : SqL K (upd H a (HandO c (j + 1) 0 t)) a [.ref c, .int (j + 1), .int 0, .int t] := .inl (.inl upd_same)
        refine ⟨_, rfl, _, _, rfl, rfl, ⟨by decide, by decide, by decide⟩, _, _, rfl, rfl, _, rfl, ite2 (fun e => ?_) (fun e => ?_)⟩
        · refine ⟨_, rfl, .inl ⟨_, rfl, _, _, rfl, rfl, show (0 : Int) < _ by decide, .ref a, rfl, a, _, _, _, rfl, rfl, hS2, rfl, _, _, rfl, fun r r0 => .inl ⟨_, rfl, _, rfl, _, _, rfl, rfl, hm0, ?_⟩⟩⟩
          exact q _ _ (drawn_of (H0 := H) (fun _ _ => rfl) hc h2 ⟨B.len, by omega, by omega, by decide, B.t0, B.pos⟩) (Int.emod_nonneg _ (by omega)) (Int.emod_lt_of_pos _ hm0)
        · refine ⟨_, rfl, .ref a, rfl, a, _, _, _, rfl, rfl, upd_same, rfl, ?_⟩
          refine ⟨_, _, _, rfl, fun b hb => by rw [upd_ne hb, upd_ne hb], upd_same, ⟨B.len, by omega, by omega, p0, B.t0, B.pos⟩⟩
      · exact ⟨i, 0, none, rfl, fun _ _ => rfl, h1, B⟩
    · exact ⟨i, x, none, rfl, fun _ _ => rfl, h1, B⟩
    · obtain ⟨i', x', y2, rfl, hb, h1', B'⟩ := hM
      have h2' : H' c = some (.lst (ns.map V.int)) := by rw [hb c hc]; exact h2
      have hS' : SqL K H' a [.ref c, .int i', .int x', .int t] := .inl (.inl h1')
      refine ⟨.ref a, rfl, a, _, _, _, rfl, rfl, hS', rfl, _, _, rfl, rfl, _, rfl, ite2 (fun e => ?_) (fun e => ?_)⟩
      · refine ⟨.ref a, rfl, a, _, _, _, rfl, rfl, hS', rfl, _, rfl, _, rfl, _, _, rfl, rfl, wide200 hm0 hm1 _, .ref a, rfl, a, _, _, _, rfl, rfl, h1', rfl, ?_⟩
        refine ⟨_, rfl, .inl ⟨_, rfl, _, rfl, _, _, rfl, rfl, hm0, ?_⟩⟩
        exact q _ _ (drawn_of (H0 := H') hb hc h2 ⟨B.len, B'.lo, B'.hi, Int.ediv_nonneg B'.x0 (by omega), B.t0, B.pos⟩) (Int.emod_nonneg _ (by omega)) (Int.emod_lt_of_pos _ hm0)
      · refine ⟨.ref a, rfl, a, _, _, _, rfl, rfl, hS', rfl, _, _, rfl, rfl, .inl ⟨_, rfl, _, _, rfl, rfl, show (0 : Int) < _ by decide, .ref a, rfl, a, _, _, _, rfl, rfl, h1', rfl, ?_⟩⟩
        have hS3 : SqL K (upd H' a (HandO c i' x' ((t + 1) % 2147483629))) a [.ref c, .int i', .int x', .int ((t + 1) % 2147483629)] := .inl (.inl upd_same)
        refine ⟨.ref a, rfl, a, _, _, _, rfl, rfl, hS3, rfl, .ref a, rfl, a, _, _, _, rfl, rfl, hS3, rfl, _, _, rfl, fun r r0 => .inl ⟨_, rfl, _, rfl, _, _, rfl, rfl, hm0, ?_⟩⟩
        exact q _ _ (drawn_of (H0 := H') hb hc h2 ⟨B.len, B'.lo, B'.hi, B'.x0, Int.emod_nonneg _ (by decide), B.pos⟩) (Int.emod_nonneg _ (by omega)) (Int.emod_lt_of_pos _ hm0)
theorem Hand.same {H H' : Hp} {a c : Addr} (h : Hand H a c) (e : Same H H') : Hand H' a c := by
  obtain ⟨ns, i, x, t, h1, h2, B⟩ := h
  exact ⟨ns, i, x, t, e _ _ h1, e _ _ h2, B⟩
theorem Hand.upd {H : Hp} {a c l : Addr} {o : HO} (h : Hand H a c) (h1 : l ≠ a) (h2 : l ≠ c) : Hand (upd H l o) a c := by
  obtain ⟨ns, i, x, t, e1, e2, B⟩ := h
  exact ⟨ns, i, x, t, by rw [upd_ne h1.symm]; exact e1, by rw [upd_ne h2.symm]; exact e2, B⟩
theorem Hand.ne {H : Hp} {a c l : Addr} (h : Hand H a c) (n : H l = none) : l ≠ a ∧ l ≠ c := by
  obtain ⟨ns, i, x, t, e1, e2, B⟩ := h
  exact ⟨(ne_of_none e1 n).symm, (ne_of_none e2 n).symm⟩
/-- an item of a list -/
def spPick : Sp := fun vs H Q _ => ∃ (a c l : Addr) (xs : List V), vs = [.ref a, .ref l] ∧ Hand H a c ∧ l ≠ a ∧ H l = some (.lst xs) ∧ 0 < xs.length ∧ xs.length ≤ 1000 ∧ ∀ H' (j : Nat) v, Drawn H H' a c → xs[j]? = some v → Q v H'
theorem ok_pick {f fD : Addr} {fd fdD : FuncData} (F : Fun K "_law_pick" "_law_pick" s__law_pick f fd) (k_law_draw : PySem.W.keepIn K (.ref fD) = true) (G_law_draw : FnOk P w K mg base CX0 2 fD fdD ["_law_hand_here", "_law_many"] spDraw) (g_law_draw : mg "_law_draw" = some (.ref fD)) (b_law_draw : Binds K fdD ["_law_hand_here", "_law_many"] [])
    (m_len : mg "len" = none) : FnOk P w K mg base CX0 3 f fd ["_law_hand_here", "_law_things"] spPick := by
  refine F.ok sc__law_pick (fun vs H Q E h => ?_) (fun cdv A outer s H vs Q E hr h => ?_)
  · obtain ⟨a, c, l, xs, rfl, _⟩ := h
    rfl
  · obtain ⟨a, c, l, xs, rfl, hh, hla, hl, h0, h1, q⟩ := h
    have hr_law_draw := hr
    refine ⟨_, (pss_one (ps_ret (pe_ix ix_list (pv 1) (pe_call G_law_draw hr_law_draw (by rfl) g_law_draw k_law_draw b_law_draw .nil pass0 (pa_cons (pv 0) (pa_cons (pe_callB call_len_seq (by rfl) m_len boot_len (pa_cons (pv 1) pa_nil)) pa_nil))) (fun _ _ => rfl)))), ?_⟩
    have hm : ((xs.length : Nat) : Int) < 2 ^ 200 := Int.lt_of_le_of_lt (show ((xs.length : Nat) : Int) ≤ 1000 by omega) (by decide)
    refine ⟨.ref l, rfl, .ref a, rfl, .ref l, rfl, l, _, rfl, .inl (.inl (.inl hl)), a, c, _, rfl, hh, by omega, hm, fun H' r d r0 r1 => ?_⟩
    obtain ⟨j, rfl⟩ : ∃ j : Nat, r = (j : Int) := ⟨r.toNat, by omega⟩
    have hj : j < xs.length := by omega
    have e : xs[j]? = some xs[j] := List.getElem?_eq_getElem hj
    have hl' : H' l = some (.lst xs) := by rw [d.but l hla]; exact hl
    exact ⟨l, xs, _, _, rfl, rfl, .inl (.inl hl'), atI_nat e, q H' j _ d e⟩
/-- the hand of a script -/
def spHand (K : PySem.W.Frag) : Sp := fun vs H Q _ => ∃ (s : Addr) (ns : List Int), vs = [.ref s] ∧ SqL K H s (ns.map V.int) ∧ ns.length ≤ 63 ∧ ∀ H' a c, Same H H' → H a = none → H c = none → Hand H' a c → Q (.ref a) H'
theorem ok_hand {f : Addr} {fd : FuncData} (F : Fun K "_law_hand" "_law_hand" s__law_hand f fd) (m_int : mg "int" = none) (m_abs : mg "abs" = none) (m_enumerate : mg "enumerate" = none) : FnOk P w K mg base CX0 1 f fd ["_law_script"] (spHand K) := by
  refine F.ok sc__law_hand (fun vs H Q E h => ?_) (fun cdv A outer s H vs Q E hr h => ?_)
  · obtain ⟨a, ns, rfl, _⟩ := h
    rfl
  · obtain ⟨a, ns, rfl, hS, hlen, q⟩ := h
    refine ⟨_, (pss_cons (ps_set (i := 1) sc__law_hand.nd rfl (by first | exact Or.inl rfl | exact Or.inr rfl) pe_int)
 (pss_cons (ps_for PassesOwn.never rfl (pi_enum (by rfl) m_enumerate (pa_cons (pv 0) pa_nil)) (pg_tup rfl (pgs_cons (pg_name (i := 2) sc__law_hand.nd rfl (by first | exact Or.inl rfl | exact Or.inr rfl)) (pgs_cons (pg_name (i := 3) sc__law_hand.nd rfl (by first | exact Or.inl rfl | exact Or.inr rfl)) pgs_nil)))
  (pss_one (ps_set (i := 1) sc__law_hand.nd rfl (by first | exact Or.inl rfl | exact Or.inr rfl) (pe_op op_mod (pe_callTy call_int1 (by rfl) m_int boot_int (pa_cons (pe_op op_add (pe_op op_mul (pv 1) pe_int) (pe_op op_mul (pe_callTy call_int1 (by rfl) m_int boot_int (pa_cons (pv 3) pa_nil)) (pe_op op_add (pv 2) pe_int))) pa_nil)) pe_int))))
 (pss_one (ps_ret (pe_lst (pa_cons (pe_lc (own := [("_law_cell", 3)]) (g := gName 3) (tt := tYes) rfl sc__law_hand.nd (pi_list (pv 0)) (blkOk_by (own := [("_law_cell", 3)]) (N := N__law_hand) (sc := defScope s__law_hand) (by decide +kernel)) (fun _ _ _ _ _ => (pg_name (i := 3) sc__law_hand.nd rfl (by first | exact Or.inl rfl | exact Or.inr rfl))) (fun _ _ _ _ _ => pts_nil) (fun _ _ _ _ _ => (pe_callB call_abs (by rfl) m_abs boot_abs (pa_cons (pe_callTy call_int1 (by rfl) m_int boot_int (pa_cons (pv 3) pa_nil)) pa_nil)))) (pa_cons pe_int (pa_cons pe_int (pa_cons (pv 1) pa_nil))))))))), ?_⟩
    have hlen' : (ns.map V.int).length = ns.length := List.length_map ..
    refine ⟨.ref a, rfl, a, _, rfl, hS, for_it (walk_enum (xs := ns.map V.int)) (fun i σ H' => ∃ tot y2 y3, σ = [some (.ref a), some (.int tot), y2, y3] ∧ 0 ≤ tot ∧ tot < 2147483629 ∧ Same H H') ⟨0, none, none, rfl, by decide, by decide, Same.refl H⟩ (fun i σ H' _ p => ?_) (fun i v σ H' H'' hi p y => ?_) (fun σ H1 p => ?_)⟩
    · obtain ⟨tot, y2, y3, rfl, _, _, e⟩ := p
      exact e.seq hS
    · obtain ⟨tot, y2, y3, rfl, t0, t1, e⟩ := p
      obtain ⟨T, x, y, rfl, nT, rfl, ex, ey⟩ := y
      rw [hlen'] at hi
      obtain rfl : .int (i : Nat) = x := Option.some.inj ex
      obtain ⟨n, rfl⟩ : ∃ n : Int, y = .int n := by
        have ey : (ns.map V.int)[i]? = some y := ey
        rw [List.getElem?_map, List.getElem?_eq_getElem hi] at ey
        exact ⟨_, (Option.some.inj ey).symm⟩
      refine ⟨T, _, rfl, .inl (.inl upd_same), rfl, _, _, rfl, _, _, rfl, rfl, ?_⟩
      refine ⟨_, rfl, _, _, rfl, rfl, .inr ⟨by decide, by decide⟩, _, rfl, .inl ⟨_, rfl, _, rfl, _, _, rfl, rfl, _, _, rfl, rfl, .inr ⟨by omega, by omega⟩, _, _, rfl, rfl, .inl ⟨_, rfl, _, _, rfl, rfl, show (0 : Int) < _ by decide, ?_⟩⟩⟩
      refine ⟨_, _, _, rfl, Int.emod_nonneg _ (by decide), Int.emod_lt_of_pos _ (by decide), e.trans fun b z hz => ?_⟩
      rw [upd_ne (ne_of_none hz nT)]
      exact hz
    · obtain ⟨tot, y2, y3, rfl, t0, t1, e⟩ := p
      have hS1 : SqL K H1 a (ns.map V.int) := e.seq hS
      refine ⟨.ref a, rfl, a, rfl, ⟨_, hS1⟩, fun D hD => lc_list (xs := ns.map V.int) (fun i H2 => Same H1 H2 ∧ H2 D = some (.lst ((ns.take i).map fun n => .int (if n < 0 then -n else n)))) ⟨fun b z hz => ?_, upd_same⟩ (fun i H2 _ p => p.1.seq hS1) (fun i x H2 hx p => ?_) (fun H2 p => ?_)⟩
      · rw [upd_ne (ne_of_none hz hD)]
        exact hz
      · obtain ⟨e2, hd⟩ := p
        rw [List.getElem?_map] at hx
        obtain ⟨n, hn, rfl⟩ := Option.map_eq_some_iff.mp hx
        refine ⟨rfl, ?_⟩
        refine ⟨_, rfl, .inl ⟨_, rfl, _, rfl, _, hd, ?_, fun b z hz => ?_, ?_⟩⟩
        · rw [List.length_map, List.length_take]
          exact Nat.lt_of_le_of_lt (Nat.min_le_right _ _) (small1000 (by omega))
        · rw [upd_ne (ne_of_none hz hD)]
          exact e2 _ _ hz
        · rw [upd_same, List.take_add_one, hn, List.map_append]
          rfl
      · obtain ⟨e2, hd⟩ := p
        rw [hlen', List.take_length] at hd
        refine ⟨_, rfl, by show 4 ≤ sizeLine; decide, fun p hp => ?_⟩
        have npD : D ≠ p := ne_of_none hd hp
        refine q _ p D ?_ ((e.trans e2).free hp) (e.free hD) ⟨ns.map fun n => if n < 0 then -n else n, 0, 0, tot, upd_same, ?_, ?_⟩
        · exact fun b z hz => by
            rw [upd_ne (ne_of_none ((e.trans e2) _ _ hz) hp)]
            exact (e.trans e2) _ _ hz
        · rw [upd_ne npD, hd, List.map_map]
          rfl
        · refine ⟨by rw [List.length_map]; exact hlen, by decide, by omega, by decide, t0, fun n hn => ?_⟩
          obtain ⟨m, _, rfl⟩ := List.mem_map.mp hn
          split <;> omega
end
end K7
end
/-! ## P2 -/
section
open PySem PySem.Spec PyProof.Rows L2
namespace K7
abbrev N__law_lots : List Str := ["_law_cells", "_law_found", "_law_last", "_law_turn", "_law_grown", "_law_lot", "_law_cell"]
abbrev s__law_lots : Stmt := topS 45
theorem sc__law_lots : FnScope ["_law_cells", "_law_found", "_law_last", "_law_turn", "_law_grown", "_law_lot", "_law_cell"] ["_law_cells"] (defScope s__law_lots) := ⟨rfl, rfl, rfl, by decide +kernel, rfl, by decide +kernel, by decide +kernel⟩

theorem same_new {H H' : Hp} {p : Addr} {o : HO} (e : Same H H') (h : H' p = none) : Same H (upd H' p o) := fun b z hz => by
  have h2 := e _ _ hz
  rw [upd_ne (ne_of_none h2 h)]
  exact h2
def But (x : Addr) (H H' : Hp) : Prop := ∀ b o, b ≠ x → H b = some o → H' b = some o
/-! ### all lots of the cells -/
def grow1 (cells lot : List Nat) : List (List Nat) := (cells.filter fun c => lot.isEmpty || decide (lot.getLastD 0 < c)).map fun c => lot ++ [c]
def level (cells : List Nat) : Nat → List (List Nat)
  | 0 => [[]]
  | k + 1 => (level cells k).flatMap (grow1 cells)
def lotsTo (cells : List Nat) : Nat → List (List Nat)
  | 0 => [[]]
  | k + 1 => lotsTo cells k ++ level cells (k + 1)
theorem level_len : ∀ n : Fin 6, ∀ k : Fin 7, (level (List.range n.val) k.val).length ≤ 10 ∧ (lotsTo (List.range n.val) k.val).length ≤ 32 := by decide +kernel
theorem level_lot : ∀ n : Fin 6, ∀ k : Fin 7, (level (List.range n.val) k.val).all (fun l => decide (l.length ≤ 990)) = true := by decide +kernel
theorem lot_len {n t i : Nat} {lot : List Nat} (hn : n ≤ 5) (ht : t ≤ 6) (h : (level (List.range n) t)[i]? = some lot) : lot.length ≤ 990 := by
  have := List.all_eq_true.mp (level_lot ⟨n, by omega⟩ ⟨t, by omega⟩) lot (List.mem_of_getElem? h)
  exact of_decide_eq_true this
/-- tuples of cells at these places -/
inductive TAt (H : Hp) : List Addr → List (List Nat) → Prop
  | nil : TAt H [] []
  | cons {t : Addr} {l : List Nat} {ts : List Addr} {ls : List (List Nat)} (h : H t = some (.tup (l.map fun c => .int (c : Nat)))) (r : TAt H ts ls) : TAt H (t :: ts) (l :: ls)
theorem TAt.same {H H' : Hp} (e : Same H H') : ∀ {ts ls}, TAt H ts ls → TAt H' ts ls
  | _, _, .nil => .nil
  | _, _, .cons h r => .cons (e _ _ h) (r.same e)
theorem TAt.mono {H H' : Hp} (e : ∀ b xs, H b = some (.tup xs) → H' b = some (.tup xs)) : ∀ {ts ls}, TAt H ts ls → TAt H' ts ls
  | _, _, .nil => .nil
  | _, _, .cons h r => .cons (e _ _ h) (r.mono e)
theorem TAt.append {H : Hp} : ∀ {ts ls us ms}, TAt H ts ls → TAt H us ms → TAt H (ts ++ us) (ls ++ ms)
  | _, _, _, _, .nil, r => r
  | _, _, _, _, .cons h q, r => .cons h (q.append r)
theorem TAt.len {H : Hp} : ∀ {ts ls}, TAt H ts ls → ts.length = ls.length
  | _, _, .nil => rfl
  | _, _, .cons _ r => congrArg Nat.succ r.len
theorem TAt.get {H : Hp} : ∀ {ts ls} {i : Nat} {t : Addr}, TAt H ts ls → ts[i]? = some t → ∃ l, ls[i]? = some l ∧ H t = some (.tup (l.map fun c => .int (c : Nat)))
  | _, _, 0, _, .cons h r, e => by
    cases e
    exact ⟨_, rfl, h⟩
  | _, _, i + 1, _, .cons h r, e => r.get (i := i) e
def ints_ (l : List Nat) : List V := l.map fun c => .int (c : Nat)
def intD (l : List Nat) : PyData := .tuple (l.map fun c => .int (c : Nat))
theorem dp_ints {K : PySem.W.Frag} {H : Hp} : ∀ l : List Nat, DpAll K H (l.map fun c => .int (c : Nat)) (l.map fun c => PyData.int (c : Nat))
  | [] => .nil
  | x :: l => .cons (.int _) (dp_ints l)
theorem shaped_ints (l : List Nat) : SeqAt.shaped (intD l) = true := by
  have h1 : ∀ l : List Nat, PyData.canLayAll0 (l.map fun c => PyData.int (c : Nat)) = true ∧ PyData.depthAll (l.map fun c => PyData.int (c : Nat)) = 0 := fun l => by
    induction l with
    | nil => exact ⟨by simp [PyData.canLayAll0], by simp [PyData.depthAll]⟩
    | cons x r ih => exact ⟨by simp [PyData.canLayAll0, PyData.canLay0, ih.1], by simp [PyData.depthAll, PyData.depth, ih.2]⟩
  show ((PyData.canLay0 (intD l)) && decide (PyData.depth (intD l) ≤ 64)) = true
  simp [intD, PyData.canLay0, PyData.depth, (h1 l).1, (h1 l).2]
theorem eqv_empty (l : List Nat) : PyData.eqv (intD l) (.tuple []) = l.isEmpty := by
  cases l with
  | nil => simp [intD, PyData.eqv, PyData.eqvAll]
  | cons x r => simp [intD, PyData.eqv, PyData.eqvAll]
theorem last_get : ∀ (r : List Nat) (x : Nat), (x :: r)[r.length]? = some (r.getLastD x)
  | [], x => rfl
  | y :: r, x => by
    rw [List.getLastD_cons]
    exact last_get r y
theorem last_at {l : List Nat} (h : l.isEmpty = false) : atI (ints_ l) (-1) = some (.int (l.getLastD 0 : Nat)) := by
  cases l with
  | nil => cases h
  | cons x r =>
    have hl : (ints_ (x :: r)).length = r.length + 1 := by unfold ints_; rw [List.length_map]; rfl
    unfold atI
    rw [hl]
    have e : ixN (r.length + 1) (-1) = some r.length := by
      unfold ixN
      simp
      omega
    rw [e]
    show (ints_ (x :: r))[r.length]? = _
    unfold ints_
    rw [List.getElem?_map]
    have e2 : (x :: r)[r.length]? = some ((x :: r).getLastD 0) := by
      rw [List.getLastD_cons]
      exact last_get r x
    rw [e2]
    rfl
section
variable {P : Program} {w : World} {K : PySem.W.Frag} {mg : Str → Option Value} {base : Heap}
def spLots : Sp := fun vs H Q _ => ∃ (r : Addr) (n : Nat), vs = [.ref r] ∧ n ≤ 5 ∧ H r = some (.lst (ints_ (List.range n))) ∧ ∀ H' q ts, Same H H' → H q = none → H' q = some (.lst (ts.map V.ref)) → TAt H' ts (lotsTo (List.range n) n) → Q (.ref q) H'
theorem ok_lots {f : Addr} {fd : FuncData} (F : Fun K "_law_lots" "_law_lots" s__law_lots f fd) (m_range : mg "range" = none) (m_len : mg "len" = none) (m_list : mg "list" = none) : FnOk P w K mg base CX0 1 f fd ["_law_cells"] spLots := by
  refine F.ok sc__law_lots (fun vs H Q E h => ?_) (fun cdv A outer s H vs Q E hr h => ?_)
  · obtain ⟨r, n, rfl, _⟩ := h
    rfl
  · obtain ⟨r, n, rfl, hn, hr0, q⟩ := h
    refine ⟨_, (pss_cons (ps_par (by rfl) sc__law_lots.nd (i := 1) (j := 2) rfl rfl (by decide) rfl rfl (pa_cons (pe_lst (pa_cons (pe_tup pa_nil) pa_nil)) (pa_cons (pe_lst (pa_cons (pe_tup pa_nil) pa_nil)) pa_nil)) (by rfl))
 (pss_cons (ps_for PassesOwn.never rfl (pi_range1 rfl m_range (pa_cons (pe_callB call_len_seq (by rfl) m_len boot_len (pa_cons (pv 0) pa_nil)) pa_nil)) (pg_name (i := 3) sc__law_lots.nd rfl (by first | exact Or.inl rfl | exact Or.inr rfl))
  (pss_cons (ps_set (i := 4) sc__law_lots.nd rfl (by first | exact Or.inl rfl | exact Or.inr rfl) (pe_lst pa_nil))
 (pss_cons (ps_for PassesOwn.never rfl (pi_list (pv 2)) (pg_name (i := 5) sc__law_lots.nd rfl (by first | exact Or.inl rfl | exact Or.inr rfl))
  (pss_one (ps_for PassesOwn.never rfl (pi_list (pv 0)) (pg_name (i := 6) sc__law_lots.nd rfl (by first | exact Or.inl rfl | exact Or.inr rfl))
  (pss_one (ps_if (pw_or (pt_cmpR (op_eqD hr.units) (pv 5) (pe_tup pa_nil) (nomark _)) (pw_or1 (pt_cmpR op_gt (pv 6) (pe_ix ix_tup (pv 5) (pe_un un_neg pe_int) (fun _ _ => rfl)) (nomark _)))).pt
  (pss_one (ps_expr (pe_bm PySem.F.plainAttrs_list PySem.F.slot_list_append PySem.F.type_list_append mt_append (pv 4) (pa_cons (pe_op op_catA (pv 5) (pe_tup (pa_cons (pv 6) pa_nil))) pa_nil))))
  pss_nil)))))
 (pss_cons (ps_expr (pe_bm PySem.F.plainAttrs_list PySem.F.slot_list_extend PySem.F.type_list_extend mt_extend (pv 1) (pa_cons (pv 4) pa_nil)))
 (pss_one (ps_set (i := 2) sc__law_lots.nd rfl (by first | exact Or.inl rfl | exact Or.inr rfl) (pe_callTy call_list_of (by rfl) m_list boot_list (pa_cons (pv 4) pa_nil))))))))
 (pss_one (ps_ret (pv 1))))), ?_⟩
    have hlen : (ints_ (List.range n)).length = n := by unfold ints_; rw [List.length_map, List.length_range]
    refine ⟨by show 0 ≤ sizeLine; decide, fun e0 ne0 => ⟨by show 1 ≤ sizeLine; decide, fun F0 nF0 => ⟨by show 0 ≤ sizeLine; decide, fun e1 ne1 => ⟨by show 1 ≤ sizeLine; decide, fun L0 nL0 => ?_⟩⟩⟩⟩
    have s1 : Same H (upd H e0 (.tup [])) := same_new (Same.refl H) ne0
    have s2 : Same (upd H e0 (.tup [])) (upd (upd H e0 (.tup [])) F0 (.lst [.ref e0])) := same_new (Same.refl _) nF0
    generalize hA : upd (upd H e0 (.tup [])) F0 (.lst [.ref e0]) = HA at s2 ne1 nL0 ⊢
    have hF : HA F0 = some (.lst [.ref e0]) := by rw [← hA]; exact upd_same
    have he0 : HA e0 = some (.tup []) := s2 _ _ upd_same
    have s3 : Same HA (upd HA e1 (.tup [])) := same_new (Same.refl _) ne1
    have s4 : Same (upd HA e1 (.tup [])) (upd (upd HA e1 (.tup [])) L0 (.lst [.ref e1])) := same_new (Same.refl _) nL0
    have hL : upd (upd HA e1 (.tup [])) L0 (.lst [.ref e1]) L0 = some (.lst [.ref e1]) := upd_same
    have he1 := s4 _ _ (show upd HA e1 (.tup []) e1 = some (.tup []) from upd_same)
    have hFL : F0 ≠ L0 := ne_of_none (s3 _ _ hF) nL0
    have hF2 := s4 _ _ (s3 _ _ hF)
    have he02 := s4 _ _ (s3 _ _ he0)
    have sB := s1.trans (s2.trans (s3.trans s4))
    generalize upd (upd HA e1 (.tup [])) L0 (.lst [.ref e1]) = HB at hL he1 hF2 he02 sB ⊢
    refine ⟨_, _, rfl, ?_⟩
    have hFn : H F0 = none := s1.free nF0
    refine ⟨_, rfl, r, _, rfl, .inl (.inl (.inl (sB _ _ hr0))), _, rfl, by omega, by omega, for_range (fun t σ H' => t ≤ n ∧ ∃ La fs las y3 y4 y5 y6, σ = [some (.ref r), some (.ref F0), some (.ref La), y3, y4, y5, y6] ∧ Same H H' ∧ H' F0 = some (.lst (fs.map V.ref)) ∧ H' La = some (.lst (las.map V.ref)) ∧ La ≠ F0 ∧ TAt H' fs (lotsTo (List.range n) t) ∧ TAt H' las (level (List.range n) t)) ⟨Nat.zero_le _, L0, [e0], [e1], none, none, none, none, rfl, sB, hF2, hL, hFL.symm, .cons he02 .nil, .cons he1 .nil⟩ (fun t σ H' ht pv => ?_) (fun σ H' pv => ?_)⟩
    · obtain ⟨_, La, fs, las, y3, y4, y5, y6, rfl, e, hF', hLa, nLF, tF, tL⟩ := pv
      rw [hlen] at ht
      have ht : t < n := by simpa using ht
      refine ⟨by show 0 ≤ sizeLine; decide, fun G nG => ?_⟩
      have gF : F0 ≠ G := ne_of_none hF' nG
      have gL : La ≠ G := ne_of_none hLa nG
      have eG : Same H' (upd H' G (.lst [])) := same_new (Same.refl H') nG
      obtain ⟨lv, lt5⟩ := level_len ⟨n, by omega⟩ ⟨t, by omega⟩
      obtain ⟨lv2, lt6⟩ := level_len ⟨n, by omega⟩ ⟨t + 1, by omega⟩
      have lv : (level (List.range n) t).length ≤ 10 := lv
      refine ⟨_, rfl, La, rfl, ⟨_, .inl (.inl (eG _ _ hLa))⟩, for_list (xs := las.map V.ref) (fun i σ H2 => ∃ gs y5 y6, σ = [some (.ref r), some (.ref F0), some (.ref La), some (.int (0 + (t : Nat))), some (.ref G), y5, y6] ∧ But G H' H2 ∧ H2 G = some (.lst (gs.map V.ref)) ∧ TAt H2 gs (((level (List.range n) t).take i).flatMap (grow1 (List.range n))) ∧ gs.length ≤ 5 * i)
        ⟨[], y5, y6, rfl, fun b o hb hz => by rw [upd_ne hb]; exact hz, upd_same, .nil, Nat.le_refl _⟩ (fun i σ H2 _ pv => ?_) (fun i x σ H2 hx pv => ?_) (fun σ H2 pv => ?_)⟩
      · obtain ⟨gs, y5, y6, rfl, bt, hG, tG, hg⟩ := pv
        exact .inl (.inl (bt _ _ gL hLa))
      · obtain ⟨gs, y5, y6, rfl, bt, hG, tG, hg⟩ := pv
        rw [List.getElem?_map] at hx
        obtain ⟨ti, hti, rfl⟩ := Option.map_eq_some_iff.mp hx
        obtain ⟨lot, elot, hlot⟩ := tL.get hti
        have hi10 : i < 10 := by
          have := (List.getElem?_eq_some_iff.mp elot).1
          omega
        have tG' : ∀ {b : Addr} {xs : List V}, H' b = some (.tup xs) → H2 b = some (.tup xs) := fun {b xs} hb => bt b _ (ne_of_none hb nG) hb
        have hr2 : H2 r = some (.lst (ints_ (List.range n))) := bt _ _ (ne_of_none (e _ _ hr0) nG) (e _ _ hr0)
        have nrG : r ≠ G := ne_of_none (e _ _ hr0) nG
        refine ⟨_, rfl, r, rfl, ⟨_, .inl (.inl hr2)⟩, for_list (xs := ints_ (List.range n)) (fun j σ H3 => ∃ gs' y6, σ = [some (.ref r), some (.ref F0), some (.ref La), some (.int (0 + (t : Nat))), some (.ref G), some (.ref ti), y6] ∧ But G H' H3 ∧ H3 G = some (.lst (gs'.map V.ref)) ∧ TAt H3 gs' (((level (List.range n) t).take i).flatMap (grow1 (List.range n)) ++ grow1 ((List.range n).take j) lot) ∧ gs'.length ≤ 5 * i + j)
          ⟨gs, y6, rfl, bt, hG, by simpa [grow1] using tG, by omega⟩ (fun j σ H3 _ pv => ?_) (fun j x σ H3 hx pv => ?_) (fun σ H3 pv => ?_)⟩
        · obtain ⟨gs', y6, rfl, bt3, hG3, tG3, hg3⟩ := pv
          exact .inl (.inl (bt3 _ _ nrG (e _ _ hr0)))
        · obtain ⟨gs', y6, rfl, bt3, hG3, tG3, hg3⟩ := pv
          unfold ints_ at hx
          rw [List.getElem?_map] at hx
          obtain ⟨c, hc, rfl⟩ := Option.map_eq_some_iff.mp hx
          have hj5 : j < 5 := by
            have := (List.getElem?_eq_some_iff.mp hc).1
            rw [List.length_range] at this
            omega
          have hlot3 : H3 ti = some (.tup (lot.map fun c => .int (c : Nat))) := bt3 ti _ (ne_of_none hlot nG) hlot
          have hll : lot.length ≤ 990 := lot_len hn (by omega) elot
          have g1 : grow1 ((List.range n).take (j + 1)) lot = grow1 ((List.range n).take j) lot ++ (if (lot.isEmpty || decide (lot.getLastD 0 < c)) = true then [lot ++ [c]] else []) := by
            unfold grow1
            rw [List.take_add_one, hc, List.filter_append, List.map_append]
            congr 1
            by_cases z : (lot.isEmpty || decide (lot.getLastD 0 < c)) = true
            · rw [if_pos z]
              show List.map _ (List.filter _ [c]) = _
              rw [List.filter_cons, if_pos z]
              rfl
            · rw [if_neg z]
              show List.map _ (List.filter _ [c]) = _
              rw [List.filter_cons, if_neg z]
              rfl
          have endOk : ∀ (Hf : Hp) (v : Addr), Same H3 Hf → Hf v = some (.tup ((lot ++ [c]).map fun c => .int (c : Nat))) → (lot.isEmpty || decide (lot.getLastD 0 < c)) = true →
              But G H' (upd Hf G (.lst (gs'.map V.ref ++ [.ref v]))) ∧ upd Hf G (.lst (gs'.map V.ref ++ [.ref v])) G = some (.lst ((gs' ++ [v]).map V.ref)) ∧
                TAt (upd Hf G (.lst (gs'.map V.ref ++ [.ref v]))) (gs' ++ [v]) (((level (List.range n) t).take i).flatMap (grow1 (List.range n)) ++ grow1 ((List.range n).take (j + 1)) lot) ∧ (gs' ++ [v]).length ≤ 5 * i + (j + 1) := by
            intro Hf v sF hv hcond
            have up : ∀ b xs, Hf b = some (.tup xs) → upd Hf G (.lst (gs'.map V.ref ++ [.ref v])) b = some (.tup xs) := fun b xs hb => by
              have n1 : b ≠ G := fun z => by rw [z, sF _ _ hG3] at hb; cases hb
              rw [upd_ne n1]; exact hb
            refine ⟨fun b o nb hb => by rw [upd_ne nb]; exact sF _ _ (bt3 b o nb hb), by rw [upd_same, List.map_append]; rfl, ?_, by rw [List.length_append, List.length_singleton]; omega⟩
            rw [g1, if_pos hcond, ← List.append_assoc]
            exact ((tG3.same sF).mono up).append (.cons (up _ _ hv) .nil)
          refine ⟨_, rfl, by show 0 ≤ sizeLine; decide, fun em nem => ?_⟩
          have sX := same_new (o := .tup []) (Same.refl H3) nem
          refine ⟨_, _, .tup (.inl (.inl (sX _ _ hlot3))) (dp_ints lot), .tup (.inl (.inl upd_same)) .nil, shaped_ints lot, shaped_ints [], ?_⟩
          rw [show PyData.eqv (.tuple (lot.map fun c => PyData.int (c : Nat))) (.tuple []) = lot.isEmpty from eqv_empty lot]
          refine ⟨_, rfl, ite2 (fun q1 => ?_) (fun q1 => ?_)⟩
          · have hcond : (lot.isEmpty || decide (lot.getLastD 0 < c)) = true := by rw [q1]; rfl
            have hG4 := sX _ _ hG3
            refine ⟨_, rfl, .inl ⟨rfl, _, .inl (.inl hG4)⟩, _, rfl, _, rfl, by show 1 ≤ sizeLine; decide, fun u nu => ?_⟩
            have sU := sX.trans (same_new (o := .tup [.int (c : Nat)]) (Same.refl _) nu)
            refine ⟨ti, u, _, _, rfl, rfl, .inl (.inl (sU _ _ hlot3)), .inl (.inl upd_same), ?_, fun z => ?_, (fun _ z2 => nomatch z2), fun z1 _ p np => ?_⟩
            · rw [List.length_map]
              exact Nat.le_trans (show lot.length + 1 ≤ 1000 by omega) (by decide)
            · have lot0 : lot = [] := by simpa using z
              obtain ⟨k1, k2, k3, k4⟩ := endOk _ u sU (by rw [upd_same, lot0]; rfl) hcond
              exact ⟨G, _, _, rfl, rfl, sU _ _ hG3, by rw [List.length_map]; exact small1000 (by omega), gs' ++ [u], _, rfl, k1, k2, k3, k4⟩
            · obtain ⟨k1, k2, k3, k4⟩ := endOk _ p (sU.trans (same_new (Same.refl _) np)) (by rw [upd_same, List.map_append]) hcond
              exact ⟨G, _, _, rfl, rfl, (sU.trans (same_new (Same.refl _) np)) _ _ hG3, by rw [List.length_map]; exact small1000 (by omega), gs' ++ [p], _, rfl, k1, k2, k3, k4⟩
          · have q1' : lot.isEmpty = false := Bool.eq_false_iff.mpr q1
            refine ⟨_, rfl, _, rfl, _, rfl, ti, _, _, .int (lot.getLastD 0 : Nat), rfl, rfl, .inl (.inl (sX _ _ hlot3)), last_at q1', _, _, rfl, rfl, _, rfl, ite2 (fun q2 => ?_) (fun q2 => ?_)⟩
            · have hcond : (lot.isEmpty || decide (lot.getLastD 0 < c)) = true := by
                rw [q1', Bool.false_or]
                have := of_decide_eq_true q2
                exact decide_eq_true (by omega)
              have hG4 := sX _ _ hG3
              refine ⟨_, rfl, .inl ⟨rfl, _, .inl (.inl hG4)⟩, _, rfl, _, rfl, by show 1 ≤ sizeLine; decide, fun u nu => ?_⟩
              have sU := sX.trans (same_new (o := .tup [.int (c : Nat)]) (Same.refl _) nu)
              refine ⟨ti, u, _, _, rfl, rfl, .inl (.inl (sU _ _ hlot3)), .inl (.inl upd_same), ?_, fun z => ?_, (fun _ z2 => nomatch z2), fun z1 _ p np => ?_⟩
              · rw [List.length_map]
                exact Nat.le_trans (show lot.length + 1 ≤ 1000 by omega) (by decide)
              · have lot0 : lot = [] := by simpa using z
                obtain ⟨k1, k2, k3, k4⟩ := endOk _ u sU (by rw [upd_same, lot0]; rfl) hcond
                exact ⟨G, _, _, rfl, rfl, sU _ _ hG3, by rw [List.length_map]; exact small1000 (by omega), gs' ++ [u], _, rfl, k1, k2, k3, k4⟩
              · obtain ⟨k1, k2, k3, k4⟩ := endOk _ p (sU.trans (same_new (Same.refl _) np)) (by rw [upd_same, List.map_append]) hcond
                exact ⟨G, _, _, rfl, rfl, (sU.trans (same_new (Same.refl _) np)) _ _ hG3, by rw [List.length_map]; exact small1000 (by omega), gs' ++ [p], _, rfl, k1, k2, k3, k4⟩
            · have hcond : ¬ (lot.isEmpty || decide (lot.getLastD 0 < c)) = true := by
                rw [q1', Bool.false_or]
                intro z
                have z' := of_decide_eq_true z
                exact q2 (decide_eq_true (by omega))
              refine ⟨gs', _, rfl, fun b o nb hb => sX _ _ (bt3 b o nb hb), sX _ _ hG3, ?_, by omega⟩
              rw [g1, if_neg hcond, List.append_nil]
              exact tG3.same sX
        · obtain ⟨gs', y6, rfl, bt3, hG3, tG3, hg3⟩ := pv
          refine ⟨gs', _, _, rfl, bt3, hG3, ?_, ?_⟩
          · rw [hlen, show (List.range n).take n = List.range n from List.take_of_length_le (by rw [List.length_range]; exact Nat.le_refl n)] at tG3
            rw [List.take_add_one, elot, List.flatMap_append]
            simpa using tG3
          · rw [hlen] at hg3
            omega
      · obtain ⟨gs, y5, y6, rfl, bt, hG, tG, hg⟩ := pv
        rw [List.length_map] at tG hg
        rw [tL.len, List.take_length] at tG
        have hF3 := bt _ _ gF hF'
        have lfs : fs.length ≤ 32 := by rw [tF.len]; exact (level_len ⟨n, by omega⟩ ⟨t, by omega⟩).2
        have lgs : gs.length ≤ 10 := by rw [tG.len]; exact lv2
        refine ⟨_, rfl, .inl ⟨rfl, _, .inl (.inl hF3)⟩, _, rfl, F0, G, _, _, rfl, rfl, hF3, hG, ?_, ?_⟩
        · rw [List.length_map, List.length_map]
          exact Nat.le_trans (show fs.length + gs.length ≤ 42 by omega) (by decide)
        have hG4 : upd H2 F0 (.lst (fs.map V.ref ++ gs.map V.ref)) G = some (.lst (gs.map V.ref)) := by rw [upd_ne gF.symm]; exact hG
        refine ⟨_, rfl, G, _, rfl, .inl (.inl (.inl hG4)), fun L2 nL2 => ?_⟩
        have hF4 : upd H2 F0 (.lst (fs.map V.ref ++ gs.map V.ref)) F0 = some (.lst ((fs ++ gs).map V.ref)) := by rw [upd_same, List.map_append]
        have nL2F : L2 ≠ F0 := fun z => by rw [z, hF4] at nL2; cases nL2
        have up : ∀ b xs, H2 b = some (.tup xs) → upd (upd H2 F0 (.lst (fs.map V.ref ++ gs.map V.ref))) L2 (.lst (gs.map V.ref)) b = some (.tup xs) := fun b xs hb => by
          have n1 : b ≠ F0 := fun z => by rw [z, hF3] at hb; cases hb
          have h1 : upd H2 F0 (.lst (fs.map V.ref ++ gs.map V.ref)) b = some (.tup xs) := by rw [upd_ne n1]; exact hb
          rw [upd_ne (ne_of_none h1 nL2)]
          exact h1
        have tF' : TAt H2 fs (lotsTo (List.range n) t) := tF.mono fun b xs hb => bt b _ (ne_of_none hb nG) hb
        refine ⟨by omega, L2, fs ++ gs, gs, _, _, _, _, rfl, fun b o hb => ?_, by rw [upd_ne nL2F.symm]; exact hF4, upd_same, nL2F, (tF'.mono up).append (tG.mono up), tG.mono up⟩
        have n0 : b ≠ F0 := ne_of_none hb hFn
        have h1 := e _ _ hb
        have h2 := bt _ _ (ne_of_none h1 nG) h1
        have h3 : upd H2 F0 (.lst (fs.map V.ref ++ gs.map V.ref)) b = some o := by rw [upd_ne n0]; exact h2
        rw [upd_ne (ne_of_none h3 nL2)]
        exact h3
    · obtain ⟨_, La, fs, las, y3, y4, y5, y6, rfl, e, hF', hLa, nLF, tF, tL⟩ := pv
      rw [hlen] at tF
      exact ⟨_, rfl, q H' F0 fs e hFn hF' (by simpa using tF)⟩
end
end K7
end
/-! ## KL -/
section
/-! ## pure facts about drawn lands (no program in them) -/
namespace KL
/-- every set that holds cell 0 and is not left over any couple holds all cells -/
def Conn (n : Nat) (es : List (Nat × Nat)) : Prop := ∀ S : Nat → Bool, S 0 = true → (∀ e ∈ es, S e.1 = S e.2) → ∀ c, c < n → S c = true
theorem erase_perm {α : Type} : ∀ (l : List α) (j : Nat) (h : j < l.length), (l[j] :: l.eraseIdx j).Perm l
  | x :: l, 0, _ => List.Perm.refl _
  | x :: l, j + 1, h => (List.Perm.swap x (l[j]'(Nat.lt_of_succ_lt_succ h)) (l.eraseIdx j)).trans (List.Perm.cons x (erase_perm l j (Nat.lt_of_succ_lt_succ h)))
/-- one item drawn out of what is left -/
theorem pop_perm {names left : List Nat} {j : Nat} (h : j < left.length) : ((names ++ [left[j]]) ++ left.eraseIdx j).Perm (names ++ left) := by
  rw [List.append_assoc]
  refine List.Perm.append_left names ?_
  exact erase_perm left j h
def couple (names : List Nat) (a b : Nat) : Nat × Nat := (min (names.getD a 0) (names.getD b 0), max (names.getD a 0) (names.getD b 0))
theorem couple_mem {names : List Nat} {n : Nat} (hp : names.Perm (List.range n)) {a : Nat} (ha : a < n) : names.getD a 0 < n := by
  have hl : names.length = n := by rw [hp.length_eq, List.length_range]
  have e : names.getD a 0 = names[a]'(by omega) := by
    rw [List.getD_eq_getElem?_getD, List.getElem?_eq_getElem (by omega)]
    rfl
  rw [e]
  exact List.mem_range.mp (hp.mem_iff.mp (List.getElem_mem _))
/-- a tree under drawn names hangs together -/
theorem conn_tree {n : Nat} {names : List Nat} (hp : names.Perm (List.range n)) {es : List (Nat × Nat)} (h : ∀ k, 0 < k → k < n → ∃ d, d < k ∧ couple names k d ∈ es) : Conn n es := by
  intro S h0 hS c hc
  have hl : names.length = n := by rw [hp.length_eq, List.length_range]
  have step : ∀ k d, couple names k d ∈ es → S (names.getD k 0) = S (names.getD d 0) := by
    intro k d m
    have e := hS _ m
    unfold couple at e
    simp only at e
    by_cases q : names.getD k 0 ≤ names.getD d 0
    · rw [Nat.min_eq_left q, Nat.max_eq_right q] at e
      exact e
    · rw [Nat.min_eq_right (by omega), Nat.max_eq_left (by omega)] at e
      exact e.symm
  have all : ∀ k, k < n → S (names.getD k 0) = S (names.getD 0 0) := by
    intro k
    induction k using Nat.strongRecOn with
    | _ k ih =>
      intro hk
      by_cases z : k = 0
      · rw [z]
      · obtain ⟨d, hd, m⟩ := h k (by omega) hk
        rw [step k d m]
        exact ih d hd (by omega)
  have at_ : ∀ x, x < n → ∃ k, k < n ∧ names.getD k 0 = x := by
    intro x hx
    have m : x ∈ names := hp.mem_iff.mpr (List.mem_range.mpr hx)
    obtain ⟨k, hk, e⟩ := List.mem_iff_getElem.mp m
    refine ⟨k, by omega, ?_⟩
    rw [List.getD_eq_getElem?_getD, List.getElem?_eq_getElem hk, e]
    rfl
  obtain ⟨k0, hk0, e0⟩ := at_ 0 (by omega)
  obtain ⟨k, hk, e⟩ := at_ c hc
  have r0 := all k0 hk0
  rw [e0, h0] at r0
  rw [← e, all k hk, ← r0]
/-- a list of cells that is closed under the couples and holds cell 0 holds all cells -/
theorem conn_closed {n : Nat} {es : List (Nat × Nat)} (h : Conn n es) {found : List Nat} (h0 : 0 ∈ found) (hc : ∀ a b, ((a, b) ∈ es ∨ (b, a) ∈ es) → a ∈ found → b ∈ found) : ∀ c, c < n → c ∈ found := by
  intro c hc'
  have := h (fun x => decide (x ∈ found)) (by simpa using h0) (fun e he => by
    have e1 : e.1 ∈ found ↔ e.2 ∈ found := ⟨fun q => hc e.1 e.2 (.inl he) q, fun q => hc e.2 e.1 (.inr he) q⟩
    exact decide_eq_decide.mpr e1) c hc'
  simpa using this
/-- as many as there are cells, none twice: all cells -/
theorem all_len {n : Nat} {found : List Nat} (hn : found.Nodup) (hb : ∀ c ∈ found, c < n) (ha : ∀ c, c < n → c ∈ found) : found.length = n := by
  have hp : found.Perm (List.range n) := by
    rw [List.perm_ext_iff_of_nodup hn List.nodup_range]
    intro a
    exact ⟨fun q => List.mem_range.mpr (hb a q), fun q => ha a (List.mem_range.mp q)⟩
  rw [hp.length_eq, List.length_range]
end KL
namespace KL
theorem couple_inj {names : List Nat} {n : Nat} (hp : names.Perm (List.range n)) {a b a' b' : Nat} (h1 : b < a) (h2 : a < n) (h1' : b' < a') (h2' : a' < n) (e : couple names a b = couple names a' b') : (a, b) = (a', b') := by
  have hl : names.length = n := by rw [hp.length_eq, List.length_range]
  have nd : names.Nodup := hp.nodup_iff.mpr List.nodup_range
  have inj : ∀ x y, x < n → y < n → names.getD x 0 = names.getD y 0 → x = y := by
    intro x y hx hy q
    rw [List.getD_eq_getElem?_getD, List.getD_eq_getElem?_getD, List.getElem?_eq_getElem (by omega), List.getElem?_eq_getElem (by omega)] at q
    exact (List.getElem_inj nd).mp q
  have ne : ∀ x y, x < n → y < n → x ≠ y → names.getD x 0 ≠ names.getD y 0 := fun x y hx hy q z => q (inj x y hx hy z)
  unfold couple at e
  injection e with e1 e2
  have q1 := ne a b h2 (by omega) (by omega)
  have q2 := ne a' b' h2' (by omega) (by omega)
  by_cases c1 : names.getD a 0 ≤ names.getD b 0
  · rw [Nat.min_eq_left c1] at e1
    rw [Nat.max_eq_right c1] at e2
    by_cases c2 : names.getD a' 0 ≤ names.getD b' 0
    · rw [Nat.min_eq_left c2] at e1
      rw [Nat.max_eq_right c2] at e2
      rw [inj a a' h2 h2' e1, inj b b' (by omega) (by omega) e2]
    · rw [Nat.min_eq_right (by omega)] at e1
      rw [Nat.max_eq_left (by omega)] at e2
      have r1 := inj a b' h2 (by omega) e1
      have r2 := inj b a' (by omega) h2' e2
      omega
  · rw [Nat.min_eq_right (by omega)] at e1
    rw [Nat.max_eq_left (by omega)] at e2
    by_cases c2 : names.getD a' 0 ≤ names.getD b' 0
    · rw [Nat.min_eq_left c2] at e1
      rw [Nat.max_eq_right c2] at e2
      have r1 := inj b a' (by omega) h2' e1
      have r2 := inj a b' h2 (by omega) e2
      omega
    · rw [Nat.min_eq_right (by omega)] at e1
      rw [Nat.max_eq_left (by omega)] at e2
      rw [inj a a' h2 h2' e2, inj b b' (by omega) (by omega) e1]
end KL
end
/-! ## ER -/
section
namespace K7E
open PySem PySem.Spec PyProof.Rows L2
theorem cr_range1 {X : Cx} : CallR X (.type "range") (fun vs H Q => ∃ j, vs = [V.int j] ∧ ∀ p, H p = none → Q (.ref p) (upd H p (.rng 0 j))) := by
  intro pins s σ H vs us Q I r h
  obtain ⟨j, rfl, q⟩ := h
  obtain ⟨u1, rfl, t, rfl⟩ := r.one
  refine call_range_1 ⟨.ref s.heap.objs.size, upd H s.heap.objs.size (.rng 0 j), I.laid (t' := s.toks + 1 + 1) (fun b o e => Heap.get?_push_of_some _ e) (Nat.le_refl _) ?_, rfl, q _ (I.hok.fresh (Nat.le_refl _))⟩
  exact ⟨s.toks, t, s.toks + 1, Heap.get?_push_size _ rfl⟩
def upTo (n : Nat) : List V := (List.range n).map fun i => .int (i : Nat)
theorem vals_upTo : ∀ (n : Nat) (us : List Value), us.length = n → (∀ (j : Nat) v, us[j]? = some v → ∃ t, v = .int (j : Nat) t) → Vals (upTo n) us := by
  intro n
  induction n with
  | zero => intro us h _; cases us with | nil => exact .nil | cons => cases h
  | succ n ih =>
    intro us h hv
    have e : us = us.take n ++ [us[n]'(by omega)] := by
      have := List.take_append_getElem (l := us) (i := n) (by omega)
      rw [this, List.take_of_length_le (by omega)]
    have e2 : upTo (n + 1) = upTo n ++ [.int (n : Nat)] := by
      unfold upTo
      rw [List.range_succ, List.map_append]
      rfl
    rw [e, e2]
    refine (ih _ (by rw [List.length_take]; omega) fun j v hj => ?_).append (.cons ?_ .nil)
    · rw [List.getElem?_take] at hj
      split at hj
      · exact hv j v hj
      · cases hj
    · exact hv n _ (List.getElem?_eq_getElem (by omega))
theorem small_all : ∀ k : Fin 1001, Builtin.Range.small 0 (k.val : Int) 1 = true := by decide +kernel
theorem cr_list_rng {X : Cx} (hc : X.calm = true) : CallR X (.type "list") (fun vs H Q => ∃ (r : Addr) (n : Nat), vs = [V.ref r] ∧ H r = some (.rng 0 n) ∧ n ≤ 1000 ∧ ∀ l, H l = none → Q (.ref l) (upd H l (.lst (upTo n)))) := by
  intro pins s σ H vs us Q I rv h
  obtain ⟨r, n, rfl, hr, hn, q⟩ := h
  obtain ⟨u, rfl, ru⟩ := rv.one
  cases ru
  obtain ⟨t, u, v, hg⟩ := I.hok r _ hr
  refine call_list_range (n := n) (I.ok.hd hc) (show IsRange s.heap r 0 n 1 t u v from hg) ?_ ?_ ?_ fun h' tk acc' c' hk hl hi => ?_
  · have h1 : (0 : Int) ≤ n := by omega
    have h2 : (n : Int) ≤ 1000 := by omega
    exact small_all ⟨n, by omega⟩
  · show (if (0 : Int) < (n : Int) then ((n : Int) - 0 - 1) / 1 + 1 else 0) = (n : Int)
    split <;> omega
  · exact Nat.le_trans hn (by decide)
  · refine ⟨.ref s.heap.objs.size, upd H s.heap.objs.size (.lst (upTo n)), I.laid (t' := tk) hk (Nat.le_refl _) ⟨?_, acc'.toList, c', vals_upTo n _ ?_ fun j w hj => ?_, ?_⟩, rfl, q _ (I.hok.fresh (Nat.le_refl _))⟩
    · unfold upTo; rw [List.length_map, List.length_range]; exact Nat.le_trans hn (by decide)
    · simpa using hi.1
    · obtain ⟨t', e⟩ := hi.2 j w (by simpa using hj)
      exact ⟨t', by rw [e]; simp⟩
    · simpa using hl
end K7E
end
/-! ## P3 -/
section
open PySem PySem.Spec PyProof.Rows L2
namespace K7L
theorem hu65 {k : Nat} {A : Around} (hr : Room k A) : A.units + 65 < cLine := by have := hr.un; omega
end K7L
namespace K7
abbrev N__law_land : List Str := ["_law_hand_here", "_law_n", "_law_names", "_law_left", "_law_k", "_law_couples", "_law_high", "_law_low", "_law_rows", "_law_a", "_law_b", "_law_lots_here", "_law_lot"]
abbrev s__law_land : Stmt := topS 46
theorem sc__law_land : FnScope ["_law_hand_here", "_law_n", "_law_names", "_law_left", "_law_k", "_law_couples", "_law_high", "_law_low", "_law_rows", "_law_a", "_law_b", "_law_lots_here", "_law_lot"] ["_law_hand_here", "_law_n"] (defScope s__law_land) := ⟨rfl, rfl, rfl, by decide +kernel, rfl, by decide +kernel, by decide +kernel⟩
/-! ### what stays -/
def notHand : List V → Bool
  | [.ref _, .int _, .int _, .int _] => false
  | _ => true
theorem notHand_strs : ∀ ss : List Str, notHand (ss.map V.str) = true
  | [] => rfl
  | [_] => rfl
  | [_, _] => rfl
  | [_, _, _] => rfl
  | [_, _, _, _] => rfl
  | _ :: _ :: _ :: _ :: _ :: _ => rfl
theorem notHand_len : ∀ xs : List V, xs.length ≠ 4 → notHand xs = true
  | [], _ => rfl
  | [_], _ => by unfold notHand; split <;> first | rfl | (rename_i h; cases h)
  | [_, _], _ => by unfold notHand; split <;> first | rfl | (rename_i h; cases h)
  | [_, _, _], _ => by unfold notHand; split <;> first | rfl | (rename_i h; cases h)
  | [_, _, _, _], h => absurd rfl h
  | _ :: _ :: _ :: _ :: _ :: _, _ => by unfold notHand; split <;> first | rfl | (rename_i h; cases h)
/-- all but the hand at h is as it was, and the hand is a hand -/
structure Stay (h c : Addr) (H H' : Hp) : Prop where
  but : But h H H'
  hand0 : Hand H h c
  hand : Hand H' h c
theorem Stay.of_same {h c : Addr} {H H' : Hp} (hh : Hand H h c) (e : Same H H') : Stay h c H H' := ⟨fun b o _ z => e b o z, hh, hh.same e⟩
theorem Stay.of_drawn {h c : Addr} {H H' : Hp} (hh : Hand H h c) (d : Drawn H H' h c) : Stay h c H H' := ⟨fun b o nb z => by rw [d.but b nb]; exact z, hh, d.hand⟩
theorem Stay.trans {h c : Addr} {H H' H'' : Hp} (x : Stay h c H H') (y : Stay h c H' H'') : Stay h c H H'' := ⟨fun b o nb z => y.but b o nb (x.but b o nb z), x.hand0, y.hand⟩
theorem Stay.same {h c : Addr} {H H' H'' : Hp} (x : Stay h c H H') (e : Same H' H'') : Stay h c H H'' := x.trans (.of_same x.hand e)
theorem Stay.drawn {h c : Addr} {H H' H'' : Hp} (x : Stay h c H H') (e : Drawn H' H'' h c) : Stay h c H H'' := x.trans (.of_drawn x.hand e)
theorem Hand.nel {h c b : Addr} {H : Hp} {xs : List V} (hh : Hand H h c) (hb : H b = some (.lst xs)) (hx : notHand xs = true) : b ≠ h := by
  intro e
  subst e
  obtain ⟨ns, i, x, t, h1, _, _⟩ := hh
  rw [hb] at h1
  injection h1 with h1
  unfold HandO at h1
  injection h1 with h1
  subst h1
  cases hx
theorem Hand.nei {h c b C dx : Addr} {H : Hp} {fs : List (Str × V)} (hh : Hand H h c) (hb : H b = some (.ins C dx fs)) : b ≠ h := by
  intro e
  subst e
  obtain ⟨ns, i, x, t, h1, _, _⟩ := hh
  rw [hb] at h1
  cases h1
theorem Hand.net {h c b : Addr} {H : Hp} {xs : List V} (hh : Hand H h c) (hb : H b = some (.tup xs)) : b ≠ h := by
  intro e
  subst e
  obtain ⟨ns, i, x, t, h1, _, _⟩ := hh
  rw [hb] at h1
  cases h1
theorem Hand.ned {h c b : Addr} {H : Hp} {kvs : List (Key × V)} (hh : Hand H h c) (hb : H b = some (.dK kvs)) : b ≠ h := by
  intro e
  subst e
  obtain ⟨ns, i, x, t, h1, _, _⟩ := hh
  rw [hb] at h1
  cases h1
section
variable {h c : Addr} {H H' : Hp}
theorem Stay.lst {b : Addr} {xs : List V} (x : Stay h c H H') (hb : H b = some (.lst xs)) (hx : notHand xs = true) : H' b = some (.lst xs) := x.but b _ (x.hand0.nel hb hx) hb
theorem Stay.row {b : Addr} {ss : List Str} (x : Stay h c H H') (hb : H b = some (.lst (ss.map V.str))) : H' b = some (.lst (ss.map V.str)) := x.lst hb (notHand_strs ss)
end
theorem map_erase {α β : Type} (f : α → β) : ∀ (l : List α) (j : Nat), (l.map f).eraseIdx j = (l.eraseIdx j).map f
  | [], _ => rfl
  | x :: l, 0 => rfl
  | x :: l, j + 1 => congrArg (f x :: ·) (map_erase f l j)
theorem ixN_nat {n i : Nat} (h : i < n) : ixN n (i : Int) = some i := by
  have e : (List.range n)[i]? = some i := by rw [List.getElem?_range h]
  have := atI_nat e
  unfold atI at this
  rw [List.length_range] at this
  cases q : ixN n (i : Int) with
  | none => rw [q] at this; cases this
  | some j =>
    rw [q] at this
    have h2 : (List.range n)[j]? = some i := this
    rw [List.getElem?_eq_some_iff] at h2
    obtain ⟨h3, h4⟩ := h2
    rw [List.getElem_range] at h4
    rw [h4]
section
variable {P : Program} {w : World} {K : PySem.W.Frag} {mg : Str → Option Value} {base : Heap}
def rLen_ (K : PySem.W.Frag) : List V → Hp → VK → Prop := fun xs H Q => ∃ p ys, xs = [.ref p] ∧ (SqL K H p ys ∨ SqT K H p ys) ∧ Q (.int ys.length) H
def pairs (es : List (Nat × Nat)) : List (List Nat) := es.map fun e => [e.1, e.2]
/-- couples before the cells have their names: each cell below m hangs on a lower one -/
structure Tree (n m : Nat) (cs : List (Nat × Nat)) : Prop where
  lt : ∀ e ∈ cs, e.2 < e.1 ∧ e.1 < m ∧ e.1 < n
  nd : cs.Nodup
  low : ∀ k, 0 < k → k < m → ∃ d, d < k ∧ (k, d) ∈ cs
theorem Tree.nil (n : Nat) : Tree n 1 [] := ⟨fun e h => (nomatch h), List.nodup_nil, fun k h0 h1 => by omega⟩
theorem Tree.add {n k j : Nat} {cs : List (Nat × Nat)} (t : Tree n (k + 1) cs) (hk : k + 1 < n) (hj : j < k + 1) : Tree n (k + 1 + 1) (cs ++ [(k + 1, j)]) := by
  refine ⟨fun e h => ?_, ?_, fun x x0 x1 => ?_⟩
  · rcases List.mem_append.mp h with q | q
    · obtain ⟨a, b, c⟩ := t.lt e q
      exact ⟨a, by omega, c⟩
    · rw [List.mem_singleton.mp q]
      exact ⟨hj, by show k + 1 < k + 1 + 1; omega, hk⟩
  · rw [List.nodup_append]
    refine ⟨t.nd, by simp, fun a ha b hb => ?_⟩
    rw [List.mem_singleton.mp hb]
    intro z
    rw [z] at ha
    have := (t.lt _ ha).2.1
    simp only at this
    omega
  · by_cases z : x = k + 1
    · exact ⟨j, by omega, List.mem_append_right _ (by rw [z]; exact List.mem_singleton.mpr rfl)⟩
    · obtain ⟨d, d1, d2⟩ := t.low x x0 (by omega)
      exact ⟨d, d1, List.mem_append_left _ d2⟩
theorem Tree.more {n a b : Nat} {cs : List (Nat × Nat)} (t : Tree n n cs) (h1 : b < a) (h2 : a < n) (h3 : (a, b) ∉ cs) : Tree n n (cs ++ [(a, b)]) := by
  refine ⟨fun e h => ?_, ?_, fun x x0 x1 => ?_⟩
  · rcases List.mem_append.mp h with q | q
    · exact t.lt e q
    · rw [List.mem_singleton.mp q]
      exact ⟨h1, h2, h2⟩
  · rw [List.nodup_append]
    refine ⟨t.nd, by simp, fun x hx y hy => ?_⟩
    rw [List.mem_singleton.mp hy]
    intro z
    exact h3 (z ▸ hx)
  · obtain ⟨d, d1, d2⟩ := t.low x x0 x1
    exact ⟨d, d1, List.mem_append_left _ d2⟩
/-! ### couples as data -/
theorem dp_pair {K : PySem.W.Frag} {H : Hp} (k j : Nat) : DpAll K H [.int (2 + (k : Nat)), .int (0 + (j : Nat))] [.int ((2 + k : Nat) : Int), .int (j : Nat)] := by
  rw [show (2 : Int) + (k : Nat) = ((2 + k : Nat) : Int) by omega, Int.zero_add]
  exact .cons (.int _) (.cons (.int _) .nil)
theorem dp_rows {K : PySem.W.Frag} {H : Hp} : ∀ {ts : List Addr} {ls : List (List Nat)}, TAt H ts ls → DpAll K H (ts.map V.ref) (ls.map intD)
  | _, _, .nil => .nil
  | _, _, .cons h r => .cons (.tup (.inl (.inl h)) (dp_ints _)) (dp_rows r)
theorem shaped_rows (ls : List (List Nat)) : SeqAt.shaped (.list (ls.map intD)) = true := by
  have h1 : ∀ l : List Nat, PyData.canLay0 (intD l) = true ∧ PyData.depth (intD l) ≤ 1 := fun l => by
    have z := shaped_ints l
    have z : ((PyData.canLay0 (intD l)) && decide (PyData.depth (intD l) ≤ 64)) = true := z
    refine ⟨(Bool.and_eq_true_iff.mp z).1, ?_⟩
    have : ∀ l : List Nat, PyData.depthAll (l.map fun c => PyData.int (c : Nat)) = 0 := fun l => by
      induction l with
      | nil => simp [PyData.depthAll]
      | cons x r ih => simp [PyData.depthAll, PyData.depth, ih]
    simp [intD, PyData.depth, this l]
  have h2 : ∀ ls : List (List Nat), PyData.canLayAll0 (ls.map intD) = true ∧ PyData.depthAll (ls.map intD) ≤ 1 := fun ls => by
    induction ls with
    | nil => exact ⟨by simp [PyData.canLayAll0], by simp [PyData.depthAll]⟩
    | cons x r ih =>
      refine ⟨by simp [PyData.canLayAll0, (h1 x).1, ih.1], ?_⟩
      rw [List.map_cons, PyData.depthAll]
      exact Nat.max_le.mpr ⟨(h1 x).2, ih.2⟩
  show ((PyData.canLay0 (.list (ls.map intD))) && decide (PyData.depth (.list (ls.map intD)) ≤ 64)) = true
  have d : PyData.depth (.list (ls.map intD)) ≤ 64 := by
    rw [PyData.depth]
    have := (h2 ls).2
    omega
  simp [PyData.canLay0, (h2 ls).1, d]
theorem any_rows (cs : List (Nat × Nat)) (a b : Nat) : ((pairs cs).map intD).any (fun z => PyData.eqv z (intD [a, b])) = decide ((a, b) ∈ cs) := by
  induction cs with
  | nil => rfl
  | cons e cs ih =>
    show (PyData.eqv (intD [e.1, e.2]) (intD [a, b]) || ((pairs cs).map intD).any (fun z => PyData.eqv z (intD [a, b]))) = _
    rw [ih]
    have h : PyData.eqv (intD [e.1, e.2]) (intD [a, b]) = decide (e = (a, b)) := by
      obtain ⟨x, y⟩ := e
      simp [intD, PyData.eqv, PyData.eqvAll]
      by_cases z1 : x = a <;> by_cases z2 : y = b <;> simp [z1, z2] <;> omega
    rw [h]
    by_cases z : e = (a, b)
    · simp [z]
    · have z2 : ¬ (a, b) = e := fun q => z q.symm
      simp [z, z2]
structure LandOk (n : Nat) (es : List (Nat × Nat)) : Prop where
  lt : ∀ e ∈ es, e.1 < e.2 ∧ e.2 < n
  nd : es.Nodup
  sorted : es.Pairwise fun a b => a.1 < b.1 ∨ (a.1 = b.1 ∧ a.2 ≤ b.2)
  conn : KL.Conn n es
structure LandOk0 (n : Nat) (es : List (Nat × Nat)) : Prop where
  lt : ∀ e ∈ es, e.1 < e.2 ∧ e.2 < n
  nd : es.Nodup
  conn : KL.Conn n es
theorem tree_land {n : Nat} {nm : List Nat} {cs : List (Nat × Nat)} (hp : nm.Perm (List.range n)) (t : Tree n n cs) : LandOk0 n (cs.map fun e => KL.couple nm e.1 e.2) := by
  have nd : nm.Nodup := hp.nodup_iff.mpr List.nodup_range
  have hl : nm.length = n := by rw [hp.length_eq, List.length_range]
  refine ⟨fun e he => ?_, ?_, ?_⟩
  · obtain ⟨x, hx, rfl⟩ := List.mem_map.mp he
    obtain ⟨t1, t2, t3⟩ := t.lt x hx
    have m1 := KL.couple_mem hp (a := x.1) t3
    have m2 := KL.couple_mem hp (a := x.2) (by omega)
    have ne : nm.getD x.1 0 ≠ nm.getD x.2 0 := by
      intro z
      rw [List.getD_eq_getElem?_getD, List.getD_eq_getElem?_getD, List.getElem?_eq_getElem (by omega), List.getElem?_eq_getElem (by omega)] at z
      have := (List.getElem_inj nd).mp z
      omega
    show min _ _ < max _ _ ∧ max _ _ < n
    omega
  · rw [List.nodup_iff_pairwise_ne, List.pairwise_map]
    refine (List.nodup_iff_pairwise_ne.mp t.nd).imp_of_mem fun {a b} ha hb hab z => ?_
    obtain ⟨a1, a2, a3⟩ := t.lt a ha
    obtain ⟨b1, b2, b3⟩ := t.lt b hb
    exact hab (KL.couple_inj hp a1 a3 b1 b3 z)
  · refine KL.conn_tree hp fun k k0 k1 => ?_
    obtain ⟨d, d1, d2⟩ := t.low k k0 k1
    exact ⟨d, d1, List.mem_map.mpr ⟨(k, d), d2, rfl⟩⟩
/-- the two numbers of a couple's tuple -/
def kfOf (H : Hp) : V → Int × Int
  | .ref a => (match H a with | some (.tup [.int i, .int j]) => (i, j) | _ => (0, 0))
  | _ => (0, 0)
def gOf (H : Hp) (x : V) : Nat × Nat := ((kfOf H x).1.toNat, (kfOf H x).2.toNat)
theorem kf_at {H : Hp} {a : Addr} {x y : Nat} (h : H a = some (.tup [.int (x : Nat), .int (y : Nat)])) : kfOf H (.ref a) = ((x : Int), (y : Int)) := by
  unfold kfOf
  simp only [h]
theorem g_at {H : Hp} {a : Addr} {e : Nat × Nat} (h : H a = some (.tup [.int (e.1 : Nat), .int (e.2 : Nat)])) : gOf H (.ref a) = e := by
  unfold gOf
  rw [kf_at h]
  rfl
theorem g_map {H : Hp} : ∀ {us : List Addr} {es : List (Nat × Nat)}, TAt H us (pairs es) → (us.map V.ref).map (gOf H) = es
  | [], [], _ => rfl
  | _ :: _, [], h => nomatch h
  | [], _ :: _, h => nomatch h
  | u :: us, e :: es, .cons h r => by
    show gOf H (.ref u) :: (us.map V.ref).map (gOf H) = _
    rw [g_at h, g_map r]
theorem g_mem {H : Hp} {us : List Addr} {es : List (Nat × Nat)} (t : TAt H us (pairs es)) : ∀ x ∈ us.map V.ref, ∃ (a : Addr) (e : Nat × Nat), x = V.ref a ∧ H a = some (.tup [.int (e.1 : Nat), .int (e.2 : Nat)]) := by
  intro x hx
  obtain ⟨a, ha, rfl⟩ := List.mem_map.mp hx
  obtain ⟨i, hi, e⟩ := List.mem_iff_getElem.mp ha
  obtain ⟨l, el, hl⟩ := t.get (i := i) (t := a) (by rw [List.getElem?_eq_getElem hi, e])
  unfold pairs at el
  rw [List.getElem?_map] at el
  obtain ⟨ab, eab, rfl⟩ := Option.map_eq_some_iff.mp el
  exact ⟨a, ab, rfl, hl⟩
theorem tat_of {H : Hp} : ∀ ys : List V, (∀ x ∈ ys, ∃ (a : Addr) (e : Nat × Nat), x = V.ref a ∧ H a = some (.tup [.int (e.1 : Nat), .int (e.2 : Nat)])) → ∃ ts, ys = ts.map V.ref ∧ TAt H ts (pairs (ys.map (gOf H)))
  | [], _ => ⟨[], rfl, .nil⟩
  | y :: ys, h => by
    obtain ⟨a, e, rfl, ha⟩ := h y List.mem_cons_self
    obtain ⟨ts, rfl, t⟩ := tat_of ys fun x hx => h x (List.mem_cons_of_mem _ hx)
    refine ⟨a :: ts, rfl, ?_⟩
    show TAt H (a :: ts) ([(gOf H (.ref a)).1, (gOf H (.ref a)).2] :: _)
    rw [g_at ha]
    exact .cons ha t
theorem sorted_of {H : Hp} : ∀ ys : List V, (∀ x ∈ ys, ∃ (a : Addr) (e : Nat × Nat), x = V.ref a ∧ H a = some (.tup [.int (e.1 : Nat), .int (e.2 : Nat)])) → SrtO.Srtd (ltP (kfOf H)) ys → (ys.map (gOf H)).Pairwise fun a b => a.1 < b.1 ∨ (a.1 = b.1 ∧ a.2 ≤ b.2) := by
  intro ys h s
  rw [List.pairwise_map]
  refine List.Pairwise.imp_of_mem (fun {x y} hx hy q => ?_) s
  obtain ⟨a, e, rfl, ha⟩ := h x hx
  obtain ⟨b, e', rfl, hb⟩ := h y hy
  rw [g_at ha, g_at hb]
  have q : SrtO.lexB (kfOf H (.ref b)) (kfOf H (.ref a)) = false := q
  rw [kf_at ha, kf_at hb] at q
  have z : ¬ ((e'.1 : Int) < e.1 ∨ ((e'.1 : Int) = e.1 ∧ (e'.2 : Int) < e.2)) := fun z => by
    rw [SrtO.lexB_iff.mpr z] at q
    cases q
  omega
theorem Stay.free {h c b : Addr} {H H' : Hp} (y : Stay h c H H') (n : H' b = none) : H b = none := by
  cases z : H b with
  | none => rfl
  | some o =>
    by_cases e : b = h
    · subst e
      obtain ⟨ns, i, x, t, h1, _, _⟩ := y.hand
      rw [h1] at n
      cases n
    · rw [y.but b o e z] at n
      cases n
theorem lots_some : ∀ n : Fin 6, 2 ≤ n.val → ((lotsTo (List.range n.val) n.val).filter fun l => decide (0 < l.length) && decide (l.length < n.val)).length ≠ 4 ∧ 0 < ((lotsTo (List.range n.val) n.val).filter fun l => decide (0 < l.length) && decide (l.length < n.val)).length ∧
    ((lotsTo (List.range n.val) n.val).filter fun l => decide (0 < l.length) && decide (l.length < n.val)).length ≤ 32 := by decide +kernel
/-- a drawn land: its number of cells, its couples, its roads -/
structure LandAt (H : Hp) (q : Addr) (n : Nat) (es : List (Nat × Nat)) (lot : List Nat) : Prop where
  at_ : ∃ rA sA ts, H q = some (.tup [.int (n : Nat), .ref rA, .ref sA]) ∧ H rA = some (.lst (ts.map V.ref)) ∧ TAt H ts (pairs es) ∧ H sA = some (.lst (ints_ lot))
  ok : LandOk n es
  lot : lot ∈ lotsTo (List.range n) n ∧ 0 < lot.length ∧ lot.length < n
def spLand : Sp := fun vs H Q _ => ∃ (h c : Addr) (n : Nat), vs = [.ref h, .int (n : Nat)] ∧ Hand H h c ∧ 2 ≤ n ∧ n ≤ 5 ∧ ∀ H' q es lot, Stay h c H H' → H q = none → LandAt H' q n es lot → Q (.ref q) H'
theorem ok_land {f fdr fpk flo : Addr} {fd fddr fdpk fdlo : FuncData} (F : Fun K "_law_land" "_law_land" s__law_land f fd)
    (Gdr : FnOk P w K mg base CX0 2 fdr fddr ["_law_hand_here", "_law_many"] spDraw) (gdr : mg "_law_draw" = some (.ref fdr)) (kdr : PySem.W.keepIn K (.ref fdr) = true) (bdr : Binds K fddr ["_law_hand_here", "_law_many"] [])
    (Gpk : FnOk P w K mg base CX0 3 fpk fdpk ["_law_hand_here", "_law_things"] spPick) (gpk : mg "_law_pick" = some (.ref fpk)) (kpk : PySem.W.keepIn K (.ref fpk) = true) (bpk : Binds K fdpk ["_law_hand_here", "_law_things"] [])
    (Glo : FnOk P w K mg base CX0 1 flo fdlo ["_law_cells"] spLots) (glo : mg "_law_lots" = some (.ref flo)) (klo : PySem.W.keepIn K (.ref flo) = true) (blo : Binds K fdlo ["_law_cells"] [])
    (m_range : mg "range" = none) (m_len : mg "len" = none) (m_list : mg "list" = none) (m_min : mg "min" = none) (m_max : mg "max" = none) (m_sorted : mg "sorted" = none) :
    FnOk P w K mg base CX0 4 f fd ["_law_hand_here", "_law_n"] spLand := by
  refine F.ok sc__law_land (fun vs H Q E h => ?_) (fun cdv A outer s H vs Q E hr h => ?_)
  · obtain ⟨h, c, n, rfl, _⟩ := h
    rfl
  · obtain ⟨h, c, n, rfl, hh, n2, n5, q⟩ := h
    refine ⟨_, (pss_cons (ps_set (i := 2) sc__law_land.nd rfl (by first | exact Or.inl rfl | exact Or.inr rfl) (pe_lst pa_nil))
 (pss_cons (ps_set (i := 3) sc__law_land.nd rfl (by first | exact Or.inl rfl | exact Or.inr rfl) (pe_callTy (K7E.cr_list_rng rfl) (by rfl) m_list boot_list (pa_cons (pe_callTy K7E.cr_range1 (by rfl) m_range boot_range (pa_cons (pv 1) pa_nil)) pa_nil)))
 (Evl.pss_cut (ps_for PassesOwn.never rfl (pi_range1 rfl m_range (pa_cons (pv 1) pa_nil)) (pg_name (i := 4) sc__law_land.nd rfl (by first | exact Or.inl rfl | exact Or.inr rfl))
  (pss_one (ps_expr (pe_bm PySem.F.plainAttrs_list PySem.F.slot_list_append PySem.F.type_list_append mt_append (pv 2) (pa_cons (pe_bm PySem.F.plainAttrs_list PySem.F.slot_list_pop PySem.F.type_list_pop mt_popAt (pv 3) (pa_cons (pe_call Gdr (hr.mono (by decide)) (by rfl) gdr kdr bdr .nil pass0 (pa_cons (pv 0) (pa_cons (pe_callB call_len_seq (by rfl) m_len boot_len (pa_cons (pv 3) pa_nil)) pa_nil))) pa_nil)) pa_nil)))))
 (pss_cons (ps_set (i := 5) sc__law_land.nd rfl (by first | exact Or.inl rfl | exact Or.inr rfl) (pe_lst pa_nil))
 (Evl.pss_cut (ps_for PassesOwn.never rfl (pi_range2 rfl m_range (pa_cons pe_int (pa_cons (pv 1) pa_nil))) (pg_name (i := 4) sc__law_land.nd rfl (by first | exact Or.inl rfl | exact Or.inr rfl))
  (pss_one (ps_expr (pe_bm PySem.F.plainAttrs_list PySem.F.slot_list_append PySem.F.type_list_append mt_append (pv 5) (pa_cons (pe_tup (pa_cons (pv 4) (pa_cons (pe_call Gdr (hr.mono (by decide)) (by rfl) gdr kdr bdr .nil pass0 (pa_cons (pv 0) (pa_cons (pv 4) pa_nil))) pa_nil))) pa_nil)))))
 (Evl.pss_cut (ps_for PassesOwn.never rfl (pi_range2 rfl m_range (pa_cons pe_int (pa_cons (pv 1) pa_nil))) (pg_name (i := 6) sc__law_land.nd rfl (by first | exact Or.inl rfl | exact Or.inr rfl))
  (pss_one (ps_for PassesOwn.never rfl (pi_range1 rfl m_range (pa_cons (pv 6) pa_nil)) (pg_name (i := 7) sc__law_land.nd rfl (by first | exact Or.inl rfl | exact Or.inr rfl))
  (pss_one (ps_if (pw_and (pt_cmpR (op_notInD (K7L.hu65 hr)) (pe_tup (pa_cons (pv 6) (pa_cons (pv 7) pa_nil))) (pv 5) (by with_unfolding_all rfl)) (pw_and1 (pt_cmpR op_eq (pe_call Gdr (hr.mono (by decide)) (by rfl) gdr kdr bdr .nil pass0 (pa_cons (pv 0) (pa_cons pe_int pa_nil))) pe_int (nomark _)))).pt
  (pss_one (ps_expr (pe_bm PySem.F.plainAttrs_list PySem.F.slot_list_append PySem.F.type_list_append mt_append (pv 5) (pa_cons (pe_tup (pa_cons (pv 6) (pa_cons (pv 7) pa_nil))) pa_nil))))
  pss_nil)))))
 (pss_cons (ps_setLc (i := 8) (own := [("_law_a", 9), ("_law_b", 10)]) (g := gTup K 2 (gCons (gName 9) (gCons (gName 10) (gNil)))) (tt := tYes) rfl sc__law_land.nd rfl rfl (sw_true rfl rfl rfl (by decide +kernel)) (pi_list (pv 5)) (blkOk_by (own := [("_law_a", 9), ("_law_b", 10)]) (N := N__law_land) (sc := defScope s__law_land) (by decide +kernel)) (fun _ _ _ _ _ => (pg_tup rfl (pgs_cons (pg_name (i := 9) sc__law_land.nd rfl (by first | exact Or.inl rfl | exact Or.inr rfl)) (pgs_cons (pg_name (i := 10) sc__law_land.nd rfl (by first | exact Or.inl rfl | exact Or.inr rfl)) pgs_nil)))) (fun _ _ _ _ _ => pts_nil) (fun _ _ _ _ _ => (pe_tup (pa_cons (pe_callB (call_min2 rfl) (by rfl) m_min boot_min (pa_cons (pe_ix (show IxR _ (rIxL K) from ix_list) (pv 2) (pv 9) (fun _ _ => rfl)) (pa_cons (pe_ix (show IxR _ (rIxL K) from ix_list) (pv 2) (pv 10) (fun _ _ => rfl)) pa_nil))) (pa_cons (pe_callB (call_max2 rfl) (by rfl) m_max boot_max (pa_cons (pe_ix (show IxR _ (rIxL K) from ix_list) (pv 2) (pv 9) (fun _ _ => rfl)) (pa_cons (pe_ix (show IxR _ (rIxL K) from ix_list) (pv 2) (pv 10) (fun _ _ => rfl)) pa_nil))) pa_nil)))))
 (pss_cons (ps_setLc (i := 11) (own := [("_law_lot", 12)]) (g := gName 12) rfl sc__law_land.nd rfl rfl (sw_true rfl rfl rfl (by decide +kernel)) (pi_list (pe_call Glo (hr.mono (by decide)) (by rfl) glo klo blo .nil pass0 (pa_cons (pe_callTy (K7E.cr_list_rng rfl) (by rfl) m_list boot_list (pa_cons (pe_callTy K7E.cr_range1 (by rfl) m_range boot_range (pa_cons (pv 1) pa_nil)) pa_nil)) pa_nil))) (blkOk_by (own := [("_law_lot", 12)]) (N := N__law_land) (sc := defScope s__law_land) (by decide +kernel)) (fun _ _ _ _ _ => (pg_name (i := 12) sc__law_land.nd rfl (by first | exact Or.inl rfl | exact Or.inr rfl))) (fun _ _ _ _ _ => (pts_one (pt_chain op_lt op_lt pe_int (pe_callB (show CallR _ (.builtin "len") (rLen_ K) from call_len_seq) (by rfl) m_len boot_len (pa_cons (pv 12) pa_nil)) (pv 1)))) (fun _ _ _ _ _ => (pv 12)))
 (pss_one (ps_ret (pe_tup (pa_cons (pv 1) (pa_cons (pe_callB cr_sortedPO (by rfl) m_sorted boot_sorted (pa_cons (pv 8) pa_nil)) (pa_cons (pe_callTy call_list_of (by rfl) m_list boot_list (pa_cons (pe_call Gpk (hr.mono (by decide)) (by rfl) gpk kpk bpk .nil pass0 (pa_cons (pv 0) (pa_cons (pv 11) pa_nil))) pa_nil)) pa_nil)))))))))))))), ?_⟩
    have l10 : ∀ {xs : List Nat} {k : Nat}, xs.length ≤ k → k ≤ 1000 → (ints_ xs).length < sizeLine := fun {xs k} h1 h2 => by
      unfold ints_; rw [List.length_map]; exact small1000 (Nat.le_trans h1 h2)
    refine ⟨by show 0 ≤ sizeLine; decide, fun N0 nN => ?_⟩
    refine ⟨_, rfl, _, rfl, fun rg nrg => ?_⟩
    refine ⟨rg, n, rfl, upd_same, by omega, fun Lf nLf => ?_⟩
    have e1 : Same H (upd H N0 (.lst [])) := same_new (Same.refl H) nN
    have e2 : Same H (upd (upd H N0 (.lst [])) rg (.rng 0 n)) := same_new e1 nrg
    have e3 : Same H (upd (upd (upd H N0 (.lst [])) rg (.rng 0 n)) Lf (.lst (K7E.upTo n))) := same_new e2 nLf
    have hN3 : upd (upd (upd H N0 (.lst [])) rg (.rng 0 n)) Lf (.lst (K7E.upTo n)) N0 = some (.lst []) := same_new (Same.refl _) nLf _ _ (same_new (Same.refl _) nrg _ _ upd_same)
    have hL3 : upd (upd (upd H N0 (.lst [])) rg (.rng 0 n)) Lf (.lst (K7E.upTo n)) Lf = some (.lst (ints_ (List.range n))) := upd_same
    have fN : H N0 = none := nN
    have fL : H Lf = none := e2.free nLf
    have nNL : N0 ≠ Lf := ne_of_none (same_new (o := .rng 0 n) (Same.refl _) nrg _ _ upd_same) nLf
    obtain ⟨hNh, hNc⟩ := hh.ne fN
    obtain ⟨hLh, hLc⟩ := hh.ne fL
    generalize upd (upd (upd H N0 (.lst [])) rg (.rng 0 n)) Lf (.lst (K7E.upTo n)) = H3 at e3 hN3 hL3 ⊢
    refine ⟨fun σ' H' => ∃ nm y4, σ' = [some (.ref h), some (.int (n : Nat)), some (.ref N0), some (.ref Lf), y4, none, none, none, none, none, none, none, none] ∧ Stay h c H H' ∧ H' N0 = some (.lst (ints_ nm)) ∧ nm.Perm (List.range n), ?_, ?_⟩
    · refine ⟨_, rfl, _, rfl, by omega, by omega, for_range (fun k σ' H' => k ≤ n ∧ ∃ nm lf y4, σ' = [some (.ref h), some (.int (n : Nat)), some (.ref N0), some (.ref Lf), y4, none, none, none, none, none, none, none, none] ∧ Stay h c H H' ∧ H' N0 = some (.lst (ints_ nm)) ∧ H' Lf = some (.lst (ints_ lf)) ∧ (nm ++ lf).Perm (List.range n) ∧ nm.length = k)
        ⟨Nat.zero_le _, [], List.range n, none, rfl, .of_same hh e3, hN3, hL3, List.Perm.refl _, rfl⟩ (fun k σ' H' hk pv => ?_) (fun σ' H' pv => ?_)⟩
      · obtain ⟨_, nm, lf, y4, rfl, st, hN, hL, hp, hl⟩ := pv
        have hk : k < n := by simpa using hk
        have hll : lf.length = n - k := by
          have := hp.length_eq
          rw [List.length_append, List.length_range] at this
          omega
        have hil : (ints_ lf).length = lf.length := by unfold ints_; rw [List.length_map]
        refine ⟨_, rfl, .inl ⟨rfl, _, .inl (.inl hN)⟩, _, rfl, .inl ⟨rfl, _, .inl (.inl hL)⟩, _, rfl, _, rfl, Lf, _, rfl, .inl (.inl (.inl hL)), h, c, _, rfl, st.hand, by omega, ?_, fun H4 x d x0 x1 => ?_⟩
        · exact Int.lt_of_le_of_lt (show (((ints_ lf).length : Nat) : Int) ≤ 1000 by omega) (by decide)
        obtain ⟨j, rfl⟩ : ∃ j : Nat, x = (j : Int) := ⟨x.toNat, by omega⟩
        have hj : j < lf.length := by omega
        have hN4 : H4 N0 = some (.lst (ints_ nm)) := by rw [d.but N0 hNh]; exact hN
        have hL4 : H4 Lf = some (.lst (ints_ lf)) := by rw [d.but Lf hLh]; exact hL
        refine ⟨Lf, _, _, j, .int (lf[j] : Nat), rfl, rfl, hL4, by omega, by omega, (ixN_seq (ixN_nat (by omega))).1, ?_, ?_⟩
        · unfold ints_
          rw [List.getElem?_map, List.getElem?_eq_getElem hj]
          rfl
        have hN5 : upd H4 Lf (.lst ((ints_ lf).eraseIdx j)) N0 = some (.lst (ints_ nm)) := by rw [upd_ne nNL]; exact hN4
        refine ⟨N0, _, _, rfl, rfl, hN5, l10 (Nat.le_of_eq hl) (by omega), ?_⟩
        refine ⟨by omega, nm ++ [lf[j]], lf.eraseIdx j, _, rfl, ⟨fun b o nb hb => ?_, hh, ((d.hand.upd hLh hLc).upd hNh hNc)⟩, ?_, ?_, (KL.pop_perm hj).trans hp, by rw [List.length_append, hl]; rfl⟩
        · rw [upd_ne (ne_of_none hb fN), upd_ne (ne_of_none hb fL), d.but b nb]
          exact st.but b o nb hb
        · rw [upd_same]
          unfold ints_
          rw [List.map_append]
          rfl
        · rw [upd_ne nNL.symm, upd_same]
          unfold ints_
          rw [map_erase]
      · obtain ⟨_, nm, lf, y4, rfl, st, hN, hL, hp, hl⟩ := pv
        have hl : nm.length = n := by simpa using hl
        have l0 : lf = [] := by
          have := hp.length_eq
          rw [List.length_append, List.length_range] at this
          exact List.length_eq_zero_iff.mp (by omega)
        subst l0
        rw [List.append_nil] at hp
        exact ⟨nm, y4, rfl, st, hN, hp⟩
    rintro _ H4 ⟨nm, y4, rfl, st4, hN, hp⟩
    -- the tree
    refine ⟨by show 0 ≤ sizeLine; decide, fun C0 nC => ?_⟩
    have hC5 : upd H4 C0 (.lst []) C0 = some (.lst []) := upd_same
    have hN5 : upd H4 C0 (.lst []) N0 = some (.lst (ints_ nm)) := by rw [upd_ne (ne_of_none hN nC)]; exact hN
    obtain ⟨hCh, hCc⟩ := st4.hand.ne nC
    have st5 := st4.same (same_new (o := .lst []) (Same.refl H4) nC)
    have fC : H C0 = none := by
      cases z : H C0 with
      | none => rfl
      | some o =>
        have h1 := st4.but C0 o hCh z
        rw [nC] at h1
        cases h1
    have nNC : N0 ≠ C0 := ne_of_none hN nC
    generalize upd H4 C0 (.lst []) = H5 at hC5 hN5 st5 ⊢
    refine ⟨fun σ' H' => ∃ ts cs y4, σ' = [some (.ref h), some (.int (n : Nat)), some (.ref N0), some (.ref Lf), y4, some (.ref C0), none, none, none, none, none, none, none] ∧ Stay h c H H' ∧ H' N0 = some (.lst (ints_ nm)) ∧ H' C0 = some (.lst (ts.map V.ref)) ∧ TAt H' ts (pairs cs) ∧ Tree n n cs ∧ cs.length ≤ 10, ?_, ?_⟩
    · refine ⟨_, rfl, 1, _, rfl, ⟨by decide, by decide, by omega, by omega⟩, for_range (lo := 1) (fun k σ' H' => k + 1 ≤ n ∧ ∃ ts cs y4, σ' = [some (.ref h), some (.int (n : Nat)), some (.ref N0), some (.ref Lf), y4, some (.ref C0), none, none, none, none, none, none, none] ∧ Stay h c H H' ∧ H' N0 = some (.lst (ints_ nm)) ∧ H' C0 = some (.lst (ts.map V.ref)) ∧ TAt H' ts (pairs cs) ∧ Tree n (k + 1) cs ∧ cs.length = k)
        ⟨by omega, [], [], y4, rfl, st5, hN5, hC5, .nil, Tree.nil n, rfl⟩ (fun k σ' H' hk pv => ?_) (fun σ' H' pv => ?_)⟩
      · obtain ⟨_, ts, cs, y4, rfl, st, hN, hC, tC, tr, hl⟩ := pv
        have hk : k + 1 < n := by omega
        refine ⟨_, rfl, .inl ⟨rfl, _, .inl (.inl hC)⟩, _, rfl, _, rfl, _, rfl, h, c, _, rfl, st.hand, by omega, ?_, fun H6 x d x0 x1 => ?_⟩
        · exact Int.lt_of_le_of_lt (show (1 : Int) + (k : Nat) ≤ 1000 by omega) (by decide)
        obtain ⟨j, rfl⟩ : ∃ j : Nat, x = (j : Int) := ⟨x.toNat, by omega⟩
        have hj : j < k + 1 := by omega
        refine ⟨by show 2 ≤ sizeLine; decide, fun t nt => ?_⟩
        have y6 := (Stay.of_drawn st.hand d).same (same_new (o := .tup [.int (1 + (k : Nat)), .int (j : Nat)]) (Same.refl H6) nt)
        have hC6 := y6.but C0 _ hCh hC
        have hN6 := y6.but N0 _ hNh hN
        have ltx : ts.length = k := by rw [tC.len]; unfold pairs; rw [List.length_map, hl]
        refine ⟨C0, _, _, rfl, rfl, hC6, by rw [List.length_map, ltx]; exact small1000 (by omega), ?_⟩
        have up : ∀ b xs, upd H6 t (.tup [.int (1 + (k : Nat)), .int (j : Nat)]) b = some (.tup xs) → upd (upd H6 t (.tup [.int (1 + (k : Nat)), .int (j : Nat)])) C0 (.lst (ts.map V.ref ++ [.ref t])) b = some (.tup xs) := fun b xs hb => by
          rw [upd_ne (fun z => by rw [z, hC6] at hb; cases hb)]
          exact hb
        have tC6 : TAt (upd H6 t (.tup [.int (1 + (k : Nat)), .int (j : Nat)])) ts (pairs cs) := tC.mono fun b xs hb => y6.but b _ (st.hand.net hb) hb
        refine ⟨by omega, ts ++ [t], cs ++ [(k + 1, j)], _, rfl, ⟨fun b o nb hb => ?_, hh, y6.hand.upd hCh hCc⟩, ?_, ?_, ?_, tr.add hk hj, by rw [List.length_append, hl]; rfl⟩
        · rw [upd_ne (ne_of_none hb fC)]
          exact y6.but b o nb (st.but b o nb hb)
        · rw [upd_ne nNC]; exact hN6
        · rw [upd_same, List.map_append]; rfl
        · unfold pairs
          rw [List.map_append]
          refine (tC6.mono up).append (.cons (up _ _ ?_) .nil)
          rw [upd_same, show (1 : Int) + (k : Nat) = ((k + 1 : Nat) : Int) by omega]
          rfl
      · obtain ⟨hk, ts, cs, y4, rfl, st, hN, hC, tC, tr, hl⟩ := pv
        refine ⟨ts, cs, y4, rfl, st, hN, hC, tC, ?_, by omega⟩
        have e : ((n : Int) - 1).toNat + 1 = n := by omega
        rw [e] at tr
        exact tr
    rintro _ H6 ⟨ts, cs, y4, rfl, st6, hN6, hC6, tC6, tr6, ln6⟩
    -- more couples
    refine ⟨fun σ' H' => ∃ ts cs y6 y7, σ' = [some (.ref h), some (.int (n : Nat)), some (.ref N0), some (.ref Lf), y4, some (.ref C0), y6, y7, none, none, none, none, none] ∧ Stay h c H H' ∧ H' N0 = some (.lst (ints_ nm)) ∧ H' C0 = some (.lst (ts.map V.ref)) ∧ TAt H' ts (pairs cs) ∧ Tree n n cs ∧ cs.length ≤ 60, ?_, ?_⟩
    · refine ⟨_, rfl, 2, _, rfl, ⟨by decide, by decide, by omega, by omega⟩, for_range (lo := 2) (fun k σ' H' => k ≤ 5 ∧ ∃ ts cs y6 y7, σ' = [some (.ref h), some (.int (n : Nat)), some (.ref N0), some (.ref Lf), y4, some (.ref C0), y6, y7, none, none, none, none, none] ∧ Stay h c H H' ∧ H' N0 = some (.lst (ints_ nm)) ∧ H' C0 = some (.lst (ts.map V.ref)) ∧ TAt H' ts (pairs cs) ∧ Tree n n cs ∧ cs.length ≤ 10 + 10 * k)
        ⟨by omega, ts, cs, none, none, rfl, st6, hN6, hC6, tC6, tr6, ln6⟩ (fun k σ' H' hk pv => ?_) (fun σ' H' pv => ?_)⟩
      · obtain ⟨_, ts, cs, y6, y7, rfl, st, hN, hC, tC, tr, ln⟩ := pv
        have hk : 2 + k < n := by omega
        refine ⟨_, rfl, _, rfl, by omega, by omega, for_range (fun j σ' H' => ∃ ts cs y7, σ' = [some (.ref h), some (.int (n : Nat)), some (.ref N0), some (.ref Lf), y4, some (.ref C0), some (.int (2 + (k : Nat))), y7, none, none, none, none, none] ∧ Stay h c H H' ∧ H' N0 = some (.lst (ints_ nm)) ∧ H' C0 = some (.lst (ts.map V.ref)) ∧ TAt H' ts (pairs cs) ∧ Tree n n cs ∧ cs.length ≤ 10 + 10 * k + j)
          ⟨ts, cs, y7, rfl, st, hN, hC, tC, tr, by omega⟩ (fun j σ' H' hj pv => ?_) (fun σ' H' pv => ?_)⟩
        · obtain ⟨ts, cs, y7, rfl, st, hN, hC, tC, tr, ln⟩ := pv
          have hj : j < 2 + k := by omega
          have ltx : ts.length = cs.length := by rw [tC.len]; unfold pairs; rw [List.length_map]
          refine ⟨_, rfl, _, rfl, by show 2 ≤ sizeLine; decide, fun t nt => ?_⟩
          have sT := same_new (o := .tup [.int (2 + (k : Nat)), .int (0 + (j : Nat))]) (Same.refl H') nt
          have stT := st.same sT
          refine ⟨_, rfl, intD [2 + k, j], _, .tup (xs := [.int (2 + (k : Nat)), .int (0 + (j : Nat))]) (.inl (.inl upd_same)) (dp_pair k j), .lst (.inl (.inl (sT _ _ hC))) (dp_rows (tC.same sT)), shaped_ints _, shaped_rows _, ?_⟩
          rw [any_rows]
          refine ⟨_, rfl, ite2 (fun q1 => ?_) (fun q1 => ?_)⟩
          · have hnm : (2 + k, j) ∉ cs := by
              intro z
              rw [decide_eq_true z] at q1
              cases q1
            refine ⟨_, rfl, h, c, _, rfl, stT.hand, by decide, by decide, fun H7 x d x0 x1 => ?_⟩
            have st7 := stT.drawn d
            have hC7 : H7 C0 = some (.lst (ts.map V.ref)) := by rw [d.but C0 hCh]; exact sT _ _ hC
            have hN7 : H7 N0 = some (.lst (ints_ nm)) := by rw [d.but N0 hNh]; exact sT _ _ hN
            have tC7 : TAt H7 ts (pairs cs) := (tC.same sT).mono fun b xs hb => by rw [d.but b (stT.hand.net hb)]; exact hb
            refine ⟨rfl, _, rfl, ite2 (fun q2 => ?_) (fun q2 => ?_)⟩
            · refine ⟨_, rfl, .inl ⟨rfl, _, .inl (.inl hC7)⟩, _, rfl, _, rfl, by show 2 ≤ sizeLine; decide, fun t2 nt2 => ?_⟩
              have sU := same_new (o := .tup [.int (2 + (k : Nat)), .int (0 + (j : Nat))]) (Same.refl H7) nt2
              refine ⟨C0, _, _, rfl, rfl, sU _ _ hC7, by rw [List.length_map, ltx]; exact small1000 (by omega), ?_⟩
              have up : ∀ b xs, upd H7 t2 (.tup [.int (2 + (k : Nat)), .int (0 + (j : Nat))]) b = some (.tup xs) → upd (upd H7 t2 (.tup [.int (2 + (k : Nat)), .int (0 + (j : Nat))])) C0 (.lst (ts.map V.ref ++ [.ref t2])) b = some (.tup xs) := fun b xs hb => by
                rw [upd_ne (fun z => by rw [z, sU _ _ hC7] at hb; cases hb)]
                exact hb
              refine ⟨ts ++ [t2], cs ++ [(2 + k, j)], _, rfl, ⟨fun b o nb hb => ?_, hh, (st7.same sU).hand.upd hCh hCc⟩, ?_, ?_, ?_, tr.more hj hk hnm, by rw [List.length_append, List.length_singleton]; omega⟩
              · rw [upd_ne (ne_of_none hb fC)]
                exact (st7.same sU).but b o nb hb
              · rw [upd_ne nNC]; exact sU _ _ hN7
              · rw [upd_same, List.map_append]; rfl
              · unfold pairs
                rw [List.map_append]
                refine ((tC7.same sU).mono up).append (.cons (up _ _ ?_) .nil)
                rw [upd_same, show (2 : Int) + (k : Nat) = ((2 + k : Nat) : Int) by omega, Int.zero_add]
                rfl
            · exact ⟨ts, cs, _, rfl, st7, hN7, hC7, tC7, tr, by omega⟩
          · exact ⟨ts, cs, _, rfl, stT, sT _ _ hN, sT _ _ hC, tC.same sT, tr, by omega⟩
        · obtain ⟨ts, cs, y7, rfl, st, hN, hC, tC, tr, ln⟩ := pv
          exact ⟨by omega, ts, cs, _, _, rfl, st, hN, hC, tC, tr, by omega⟩
      · obtain ⟨hk, ts, cs, y6, y7, rfl, st, hN, hC, tC, tr, ln⟩ := pv
        exact ⟨ts, cs, y6, y7, rfl, st, hN, hC, tC, tr, by omega⟩
    rintro _ H8 ⟨ts, cs, y6, y7, rfl, st8, hN8, hC8, tC8, tr8, ln8⟩
    -- under their names
    have nml : nm.length = n := by rw [hp.length_eq, List.length_range]
    have ltx : ts.length = cs.length := by rw [tC8.len]; unfold pairs; rw [List.length_map]
    refine ⟨_, rfl, C0, rfl, ⟨_, .inl (.inl hC8)⟩, fun D hD => lc_list (xs := ts.map V.ref) (fun j H2 => Same H8 H2 ∧ ∃ us, H2 D = some (.lst (us.map V.ref)) ∧ TAt H2 us (pairs ((cs.take j).map fun e => KL.couple nm e.1 e.2)) ∧ us.length ≤ j) ⟨same_new (Same.refl H8) hD, [], upd_same, .nil, Nat.le_refl _⟩ (fun j H2 _ pv => .inl (.inl (pv.1 _ _ hC8))) (fun j x H2 hx pv => ?_) (fun H9 pv => ?_)⟩
    · obtain ⟨e, us, hD2, tD, lu⟩ := pv
      rw [List.getElem?_map] at hx
      obtain ⟨t, ht, rfl⟩ := Option.map_eq_some_iff.mp hx
      obtain ⟨l, el, hl⟩ := tC8.get ht
      unfold pairs at el
      rw [List.getElem?_map] at el
      obtain ⟨ab, eab, rfl⟩ := Option.map_eq_some_iff.mp el
      obtain ⟨a, b'⟩ := ab
      obtain ⟨t1, t2, t3⟩ := tr8.lt _ (List.mem_of_getElem? eab)
      have t1 : b' < a := t1
      have t3 : a < n := t3
      have jl : j < 60 := by
        have := (List.getElem?_eq_some_iff.mp eab).1
        omega
      have at_ : ∀ x, x < n → atI (ints_ nm) ((x : Nat) : Int) = some (.int (nm.getD x 0 : Nat)) := fun x hx' => by
        refine atI_nat ?_
        unfold ints_
        rw [List.getElem?_map, List.getElem?_eq_getElem (by omega), List.getD_eq_getElem?_getD, List.getElem?_eq_getElem (by omega)]
        rfl
      have hN9 := e _ _ hN8
      refine ⟨t, [.int (a : Nat), .int (b' : Nat)], rfl, .inl (.inl (e _ _ hl)), rfl, _, _, rfl, _, _, rfl, rfl, rfl, ?_⟩
      refine ⟨_, rfl, _, rfl, N0, _, _, _, rfl, rfl, .inl (.inl hN9), at_ a t3, _, rfl, _, rfl, N0, _, _, _, rfl, rfl, .inl (.inl hN9), at_ b' (by omega), _, _, rfl, ?_⟩
      refine ⟨_, rfl, _, rfl, N0, _, _, _, rfl, rfl, .inl (.inl hN9), at_ a t3, _, rfl, _, rfl, N0, _, _, _, rfl, rfl, .inl (.inl hN9), at_ b' (by omega), _, _, rfl, ?_⟩
      refine ⟨by show 2 ≤ sizeLine; decide, fun u nu => ?_⟩
      have nDu : D ≠ u := ne_of_none hD2 nu
      refine ⟨_, by rw [upd_ne nDu]; exact hD2, by rw [List.length_map]; exact small1000 (by omega), fun b o hb => ?_, us ++ [u], by rw [upd_same, List.map_append]; rfl, ?_, by rw [List.length_append, List.length_singleton]; omega⟩
      · have h1 := e _ _ hb
        rw [upd_ne (ne_of_none hb hD), upd_ne (ne_of_none h1 nu)]
        exact h1
      · rw [List.take_add_one, eab, List.map_append]
        unfold pairs at tD ⊢
        rw [List.map_append]
        refine (tD.mono fun b xs hb => ?_).append (.cons ?_ .nil)
        · rw [upd_ne (fun z => by rw [z, hD2] at hb; cases hb), upd_ne (ne_of_none hb nu)]
          exact hb
        · have m1 : ∀ x y : Nat, (if (y : Int) < (x : Int) then (y : Int) else (x : Int)) = ((min x y : Nat) : Int) := fun x y => by split <;> omega
          have m2 : ∀ x y : Nat, (if (y : Int) > (x : Int) then (y : Int) else (x : Int)) = ((max x y : Nat) : Int) := fun x y => by split <;> omega
          rw [upd_ne nDu.symm, upd_same, m1, m2]
          rfl
    obtain ⟨e9, us, hD9, tD9, lu9⟩ := pv
    rw [List.length_map, ltx, List.take_length] at tD9
    rw [List.length_map, ltx] at lu9
    have st9 := st8.same e9
    -- the lots
    refine ⟨_, rfl, _, rfl, fun rg nrg => ?_⟩
    refine ⟨rg, n, rfl, upd_same, by omega, fun l0 nl0 => ?_⟩
    have s10 : Same H9 (upd (upd H9 rg (.rng 0 n)) l0 (.lst (K7E.upTo n))) := same_new (same_new (Same.refl H9) nrg) nl0
    refine ⟨l0, n, rfl, n5, upd_same, fun H11 lo ls e11 nlo hlo tlo => ?_⟩
    have e11 := s10.trans e11
    refine ⟨lo, rfl, ⟨_, .inl (.inl hlo)⟩, fun D2 hD2 => lc_list (xs := ls.map V.ref) (fun j H2 => Same H11 H2 ∧ ∃ us, H2 D2 = some (.lst (us.map V.ref)) ∧ TAt H2 us (((lotsTo (List.range n) n).take j).filter fun l => decide (0 < l.length) && decide (l.length < n)) ∧ us.length ≤ j) ⟨same_new (Same.refl H11) hD2, [], upd_same, .nil, Nat.le_refl _⟩ (fun j H2 _ pv => .inl (.inl (pv.1 _ _ hlo))) (fun j x H2 hx pv => ?_) (fun H12 pv => ?_)⟩
    · obtain ⟨e, us, hD3, tD, lu⟩ := pv
      rw [List.getElem?_map] at hx
      obtain ⟨t, ht, rfl⟩ := Option.map_eq_some_iff.mp hx
      obtain ⟨l, el, hl⟩ := tlo.get ht
      have jl : j < 32 := by
        have h1 := (List.getElem?_eq_some_iff.mp el).1
        have h2 : (lotsTo (List.range n) n).length ≤ 32 := (level_len ⟨n, by omega⟩ ⟨n, by omega⟩).2
        omega
      have hll : (l.map fun c => V.int (c : Nat)).length = l.length := List.length_map ..
      have hl2 := e _ _ hl
      have f1 : ((lotsTo (List.range n) n).take (j + 1)).filter (fun l => decide (0 < l.length) && decide (l.length < n)) = ((lotsTo (List.range n) n).take j).filter (fun l => decide (0 < l.length) && decide (l.length < n)) ++ (if (decide (0 < l.length) && decide (l.length < n)) = true then [l] else []) := by
        rw [List.take_add_one, el, List.filter_append]
        congr 1
        show List.filter _ [l] = _
        rw [List.filter_cons]
        rfl
      refine ⟨rfl, _, rfl, t, _, rfl, .inr (.inl (.inl hl2)), _, _, rfl, rfl, _, rfl, ite2 (fun q1 => ?_) (fun q1 => ?_)⟩
      · have q1' : 0 < l.length := by
          have z : (0 : Int) < (((l.map fun c => V.int (c : Nat)).length : Nat) : Int) := of_decide_eq_true q1
          omega
        refine ⟨_, rfl, _, _, rfl, rfl, _, rfl, ite2 (fun q2 => ?_) (fun q2 => ?_)⟩
        · have q2' : l.length < n := by
            have z : (((l.map fun c => V.int (c : Nat)).length : Nat) : Int) < (n : Nat) := of_decide_eq_true q2
            omega
          refine ⟨_, rfl, _, hD3, by rw [List.length_map]; exact small1000 (by omega), fun b o hb => ?_, us ++ [t], by rw [upd_same, List.map_append]; rfl, ?_, by rw [List.length_append, List.length_singleton]; omega⟩
          · rw [upd_ne (ne_of_none hb hD2)]
            exact e _ _ hb
          · rw [f1, if_pos (by rw [decide_eq_true q1', decide_eq_true q2']; rfl)]
            have up : ∀ b xs, H2 b = some (.tup xs) → upd H2 D2 (.lst (us.map V.ref ++ [.ref t])) b = some (.tup xs) := fun b xs hb => by
              rw [upd_ne (fun z => by rw [z, hD3] at hb; cases hb)]
              exact hb
            exact (tD.mono up).append (.cons (up _ _ hl2) .nil)
        · have q2' : ¬ l.length < n := fun z => q2 (decide_eq_true (by omega))
          refine ⟨e, us, hD3, ?_, by omega⟩
          rw [f1, if_neg (by rw [decide_eq_false q2', Bool.and_false]; decide), List.append_nil]
          exact tD
      · have q1' : ¬ 0 < l.length := fun z => q1 (decide_eq_true (by omega))
        refine ⟨_, rfl, iteF ?_⟩
        refine ⟨e, us, hD3, ?_, by omega⟩
        rw [f1, if_neg (by rw [decide_eq_false q1', Bool.false_and]; decide), List.append_nil]
        exact tD
    obtain ⟨e12, vs, hD12, tD12, lv12⟩ := pv
    have e12 := e11.trans e12
    have lsl : ls.length = (lotsTo (List.range n) n).length := tlo.len
    rw [List.length_map, lsl, List.take_length] at tD12
    have st12 := st9.same e12
    have hR12 := e12 _ _ hD9
    have tR12 := tD9.same e12
    -- the land
    have okl : LandOk0 n (cs.map fun e => KL.couple nm e.1 e.2) := tree_land hp tr8
    refine ⟨_, rfl, _, rfl, D, _, kfOf H12, rfl, .inl (.inl hR12), fun x hx => ?_, fun ys p srt stb np => ?_⟩
    · obtain ⟨a, e, rfl, ha⟩ := g_mem tR12 x hx
      exact ⟨a, rfl, by rw [kf_at ha]; exact ha⟩
    have hys := fun x (hx : x ∈ ys) => g_mem tR12 x (stb.perm.mem_iff.mp hx)
    obtain ⟨ts', rfl, tY⟩ := tat_of ys hys
    have pe : ((ts'.map V.ref).map (gOf H12)).Perm (cs.map fun e => KL.couple nm e.1 e.2) := by
      rw [← g_map tR12]
      exact stb.perm.map _
    have ok : LandOk n ((ts'.map V.ref).map (gOf H12)) := ⟨fun e he => okl.lt e (pe.mem_iff.mp he), pe.nodup_iff.mpr okl.nd, sorted_of _ hys srt, fun S h0 hS => okl.conn S h0 fun e he => hS e (pe.mem_iff.mpr he)⟩
    have s13 := same_new (o := .lst (ts'.map V.ref)) (Same.refl H12) np
    obtain ⟨hph, _⟩ := st12.hand.ne np
    have st13 := st12.same s13
    have hp13 : upd H12 p (.lst (ts'.map V.ref)) p = some (.lst (ts'.map V.ref)) := upd_same
    have tY13 := tY.same s13
    have hD13 := s13 _ _ hD12
    have tD13 := tD12.same s13
    generalize (ts'.map V.ref).map (gOf H12) = es at ok tY13 pe tY
    generalize upd H12 p (.lst (ts'.map V.ref)) = H13 at s13 st13 hp13 tY13 hD13 tD13 ⊢
    obtain ⟨k4, k0, k32⟩ := lots_some ⟨n, by omega⟩ n2
    have hvl : vs.length = ((lotsTo (List.range n) n).filter fun l => decide (0 < l.length) && decide (l.length < n)).length := tD13.len
    have k4 : vs.length ≠ 4 := by rw [hvl]; exact k4
    have k0 : 0 < vs.length := by rw [hvl]; exact k0
    have k32 : vs.length ≤ 32 := by rw [hvl]; exact k32
    refine ⟨_, rfl, _, rfl, h, c, D2, _, rfl, st13.hand, st13.hand.nel hD13 (notHand_len _ (by rw [List.length_map]; exact k4)), hD13, by rw [List.length_map]; exact k0, by rw [List.length_map]; omega, fun H14 j v d ej => ?_⟩
    rw [List.getElem?_map] at ej
    obtain ⟨t, ht, rfl⟩ := Option.map_eq_some_iff.mp ej
    obtain ⟨lot, elot, hlot⟩ := tD13.get ht
    have st14 := st13.drawn d
    have keep : ∀ {b : Addr} {xs : List V}, H13 b = some (.tup xs) → H14 b = some (.tup xs) := fun {b xs} hb => by rw [d.but b (st13.hand.net hb)]; exact hb
    have hp14 : H14 p = some (.lst (ts'.map V.ref)) := by rw [d.but p hph]; exact hp13
    have tY14 := tY13.mono fun b xs hb => keep hb
    refine ⟨t, _, rfl, .inr (.inl (.inl (keep hlot))), fun sA nsA => ?_⟩
    refine ⟨by show 3 ≤ sizeLine; decide, fun q0 nq0 => ?_⟩
    have s15 := same_new (o := .lst (lot.map fun c => .int (c : Nat))) (Same.refl H14) nsA
    have s16 := same_new (o := .tup [.int (n : Nat), .ref p, .ref sA]) s15 nq0
    have nsq : sA ≠ q0 := ne_of_none (show upd H14 sA (.lst (lot.map fun c => .int (c : Nat))) sA = some (.lst (lot.map fun c => .int (c : Nat))) from upd_same) nq0
    have hmem := List.mem_filter.mp (List.mem_of_getElem? elot)
    obtain ⟨hm1, hm2⟩ := hmem
    have hm2 := Bool.and_eq_true_iff.mp hm2
    exact q _ q0 es lot (st14.same s16) ((st14.same s15).free nq0) ⟨⟨p, sA, ts', upd_same, s16 _ _ hp14, tY14.same s16, by rw [upd_ne nsq, upd_same]; rfl⟩, ok, hm1, of_decide_eq_true hm2.1, of_decide_eq_true hm2.2⟩
end
end K7
end
/-! ## P4 -/
section
open PySem PySem.Spec PyProof.Rows L2
namespace K7
abbrev N_is_whole : List Str := ["thing", "low", "high"]
abbrev s_is_whole : Stmt := topS 14
theorem sc_is_whole : FnScope ["thing", "low", "high"] ["thing", "low", "high"] (defScope s_is_whole) := ⟨rfl, rfl, rfl, by decide +kernel, rfl, by decide +kernel, by decide +kernel⟩
abbrev N_is_sequence : List Str := ["thing"]
abbrev s_is_sequence : Stmt := topS 13
theorem sc_is_sequence : FnScope ["thing"] ["thing"] (defScope s_is_sequence) := ⟨rfl, rfl, rfl, by decide +kernel, rfl, by decide +kernel, by decide +kernel⟩
section
variable {P : Program} {w : World} {K : PySem.W.Frag} {mg : Str → Option Value} {base : Heap}
/-! is_whole -/
def wholeV (x : V) (lo hi : Int) : Bool := match x with
  | .int i => decide (lo ≤ i) && decide (i ≤ hi)
  | _ => false
theorem wholeV_int (i lo hi : Int) : wholeV (.int i) lo hi = (decide (lo ≤ i) && decide (i ≤ hi)) := rfl
inductive Flat4 : V → Prop where
  | non : Flat4 .non
  | bl (b : Bool) : Flat4 (.bl b)
  | int (i : Int) : Flat4 (.int i)
  | str (z : Str) : Flat4 (.str z)
/-- what a row of the law holds -/
inductive Thing (H : Hp) : V → Prop where
  | flat {x : V} (h : Flat4 x) : Thing H x
  | tup {a : Addr} {xs : List V} (h : H a = some (.tup xs)) : Thing H (.ref a)
  | lst {a : Addr} {xs : List V} (h : H a = some (.lst xs)) : Thing H (.ref a)
theorem Thing.same {H H' : Hp} {x : V} (h : Thing H x) (e : Same H H') : Thing H' x := by
  cases h with
  | flat h => exact .flat h
  | tup h => exact .tup (e _ _ h)
  | lst h => exact .lst (e _ _ h)
def spWhole : Sp := fun vs H Q _ => ∃ (x : V) (lo hi : Int), vs = [x, .int lo, .int hi] ∧ Thing H x ∧ Q (.bl (wholeV x lo hi)) H
theorem ok_whole {f : Addr} {fd : FuncData} (F : Fun K "is_whole" "is_whole" s_is_whole f fd) (m_isinstance : mg "isinstance" = none) (m_int : mg "int" = none) (m_bool : mg "bool" = none) : FnOk P w K mg base CX0 1 f fd ["thing", "low", "high"] spWhole := by
  refine F.ok sc_is_whole (fun vs H Q E h => ?_) (fun cdv A outer s H vs Q E hr h => ?_)
  · obtain ⟨x, lo, hi, rfl, _⟩ := h
    rfl
  · obtain ⟨x, lo, hi, rfl, hx, q⟩ := h
    refine ⟨_, (pss_one (ps_ret (pe_and (pe_callB call_isi (by rfl) m_isinstance boot_isinstance (pa_cons (pv 0) (pa_cons (pe_bltn (v := .ty "int") (by rfl) m_int boot_int rfl) pa_nil))) (pe_and (pe_not (pe_callB call_isi (by rfl) m_isinstance boot_isinstance (pa_cons (pv 0) (pa_cons (pe_bltn (v := .ty "bool") (by rfl) m_bool boot_bool rfl) pa_nil)))) (pe_one (pe_chain op_le op_le (pv 1) (pv 0) (pv 2))))))), ?_⟩
    rcases hx with ⟨hx⟩ | hx | hx
    rotate_left
    · exact ⟨_, rfl, _, _, _, _, _, rfl, .ty _, .base (.tup hx), kit_ty (r := false) (by decide +kernel), false, rfl, q⟩
    · exact ⟨_, rfl, _, _, _, _, _, rfl, .ty _, .base (.lst hx), kit_ty (r := false) (by decide +kernel), false, rfl, q⟩
    cases hx with
    | non => exact ⟨_, rfl, _, _, _, _, _, rfl, .ty _, .base .non, kit_ty (r := false) (by decide +kernel), false, rfl, q⟩
    | bl b => 
      refine ⟨_, rfl, _, _, _, _, _, rfl, .ty _, .base (.bl b), kit_ty (r := true) (by decide +kernel), true, rfl, ?_⟩
      exact ⟨_, rfl, _, _, _, _, _, rfl, .ty _, .base (.bl b), kit_ty (r := true) (by decide +kernel), _, rfl, _, rfl, q⟩
    | str z => exact ⟨_, rfl, _, _, _, _, _, rfl, .ty _, .base (.str z), kit_ty (r := false) (by decide +kernel), false, rfl, q⟩
    | int i =>
      refine ⟨_, rfl, _, _, _, _, _, rfl, .ty _, .base (.int i), kit_ty (r := true) (by decide +kernel), true, rfl, ?_⟩
      refine ⟨_, rfl, _, _, _, _, _, rfl, .ty _, .base (.int i), kit_ty (r := false) (by decide +kernel), _, rfl, _, rfl, ?_⟩
      refine ⟨_, rfl, _, rfl, _, _, rfl, rfl, _, rfl, ite2 (fun e => ?_) (fun e => ?_)⟩
      · rw [wholeV_int, e, Bool.true_and] at q
        exact ⟨_, rfl, _, _, rfl, rfl, q⟩
      · rw [wholeV_int, Bool.eq_false_iff.mpr e, Bool.false_and] at q
        exact q

/-! is_sequence -/
/-- a tuple or a list -/
def SqA (K : PySem.W.Frag) (H : Hp) (a : Addr) (xs : List V) : Prop := SqL K H a xs ∨ SqT K H a xs
def spSeq (K : PySem.W.Frag) : Sp := fun vs H Q _ => ∃ (x : V) (t : String) (b : Bool), vs = [x] ∧ (∀ H1, Same H H1 → TyX K H1 x (.type t)) ∧ PySem.W.kitAny K (.type t) [.type "list", .type "tuple"] = some b ∧ ∀ H1, Same H H1 → Q (.bl b) H1
theorem ok_seq {f : Addr} {fd : FuncData} (F : Fun K "is_sequence" "is_sequence" s_is_sequence f fd) (m_isinstance : mg "isinstance" = none) (m_list : mg "list" = none) (m_tuple : mg "tuple" = none) : FnOk P w K mg base CX0 1 f fd ["thing"] (spSeq K) := by
  refine F.ok sc_is_sequence (fun vs H Q E h => ?_) (fun cdv A outer s H vs Q E hr h => ?_)
  · obtain ⟨x, t, b, rfl, _⟩ := h
    rfl
  · obtain ⟨x, t, b, rfl, ty, k, q⟩ := h
    refine ⟨_, (pss_one (ps_ret (pe_callB call_isiT (by rfl) m_isinstance boot_isinstance (pa_cons (pv 0) (pa_cons (pe_tup (pa_cons (pe_bltn (v := .ty "list") (by rfl) m_list boot_list rfl) (pa_cons (pe_bltn (v := .ty "tuple") (by rfl) m_tuple boot_tuple rfl) pa_nil))) pa_nil))))), ?_⟩
    refine ⟨_, rfl, by show 2 ≤ sizeLine; decide, fun tp np => ?_⟩
    have s1 := same_new (o := .tup [.ty "list", .ty "tuple"]) (Same.refl H) np
    exact ⟨x, tp, _, .type t, _, b, rfl, upd_same, .cons (.ty _) (.cons (.ty _) .nil), ty _ s1, k, q _ s1⟩
theorem any_tup : PySem.W.kitAny K (.type "tuple") [.type "list", .type "tuple"] = some true := kitAny_cons (b := false) (kit_ty (by decide +kernel)) (fun _ => kitAny_cons (b := true) (kit_ty (by decide +kernel)) (fun z => nomatch z) (fun _ => rfl)) (fun z => nomatch z)
theorem any_lst : PySem.W.kitAny K (.type "list") [.type "list", .type "tuple"] = some true := kitAny_cons (b := true) (kit_ty (by decide +kernel)) (fun z => nomatch z) (fun _ => rfl)
theorem any_int : PySem.W.kitAny K (.type "int") [.type "list", .type "tuple"] = some false := kitAny_cons (b := false) (kit_ty (by decide +kernel)) (fun _ => kitAny_cons (b := false) (kit_ty (by decide +kernel)) (fun _ => kitAny_nil) (fun z => nomatch z)) (fun z => nomatch z)
theorem any_str : PySem.W.kitAny K (.type "str") [.type "list", .type "tuple"] = some false := kitAny_cons (b := false) (kit_ty (by decide +kernel)) (fun _ => kitAny_cons (b := false) (kit_ty (by decide +kernel)) (fun _ => kitAny_nil) (fun z => nomatch z)) (fun z => nomatch z)
theorem any_non : PySem.W.kitAny K (.type "NoneType") [.type "list", .type "tuple"] = some false := kitAny_cons (b := false) (kit_ty (by decide +kernel)) (fun _ => kitAny_cons (b := false) (kit_ty (by decide +kernel)) (fun _ => kitAny_nil) (fun z => nomatch z)) (fun z => nomatch z)
theorem any_bool : PySem.W.kitAny K (.type "bool") [.type "list", .type "tuple"] = some false := kitAny_cons (b := false) (kit_ty (by decide +kernel)) (fun _ => kitAny_cons (b := false) (kit_ty (by decide +kernel)) (fun _ => kitAny_nil) (fun z => nomatch z)) (fun z => nomatch z)
end
end K7
end
/-! ## EL -/
section
open PySem PySem.Spec PyProof.Rows L2
namespace K7E
theorem nodup_le {α : Type} [DecidableEq α] : ∀ (l D : List α), l.Nodup → (∀ x ∈ l, x ∈ D) → l.length ≤ D.length
  | [], _, _, _ => Nat.zero_le _
  | x :: l, D, h, m => by
    obtain ⟨h1, h2⟩ := List.nodup_cons.mp h
    have hx := m x List.mem_cons_self
    have z := nodup_le l (D.erase x) h2 fun y hy => (List.mem_erase_of_ne (fun (e : y = x) => h1 (by rw [← e]; exact hy))).mpr (m y (List.mem_cons_of_mem _ hy))
    rw [List.length_erase_of_mem hx] at z
    have := List.length_pos_of_mem hx
    rw [List.length_cons]
    omega
theorem nodup_of_le {α : Type} [DecidableEq α] : ∀ (l D : List α), l.Nodup → (∀ x ∈ l, x ∈ D) → D.length ≤ l.length → D.Nodup
  | [], [], _, _, _ => List.nodup_nil
  | [], _ :: _, _, _, z => absurd z (by rw [List.length_cons, List.length_nil]; omega)
  | x :: l, D, h, m, z => by
    obtain ⟨h1, h2⟩ := List.nodup_cons.mp h
    have hx := m x List.mem_cons_self
    have hl := List.length_erase_of_mem hx
    have sub : ∀ y ∈ l, y ∈ D.erase x := fun y hy => (List.mem_erase_of_ne (fun (e : y = x) => h1 (by rw [← e]; exact hy))).mpr (m y (List.mem_cons_of_mem _ hy))
    rw [List.length_cons] at z
    have hp := List.length_pos_of_mem hx
    have hd := nodup_of_le l (D.erase x) h2 sub (by omega)
    rw [(List.perm_cons_erase hx).nodup_iff, List.nodup_cons]
    refine ⟨fun hm => ?_, hd⟩
    have w := nodup_le (x :: l) (D.erase x) h fun y hy => by
      rcases List.mem_cons.mp hy with rfl | hy
      · exact hm
      · exact sub y hy
    rw [List.length_cons] at w
    omega
section
variable {X : Cx}
/-- len(set(x)), x a tuple of ints: how many there are of them, and all of them only if no two are the same -/
def tLenSetT (K : PySem.W.Frag) (ta : TE) : TE := fun σ H Q => ta σ H fun x H1 => ∃ (l : Addr) (ns : List Int), x = V.ref l ∧ SqT K H1 l (ns.map V.int) ∧ ns.length < 64 ∧ ∀ c : Nat, c ≤ ns.length → (c = ns.length ↔ ns.Nodup) → Q (.int c) H1
theorem pe_lenSetT {a : Expr} {ta : TE} {p p2 q pos : Pos} (hc : X.calm = true) (hg : Gl X "len") (hm : X.mg "len" = none) (hg2 : Gl X "set") (hm2 : X.mg "set" = none) (ha : PE X a ta)
    (na : starEach [a] X.env = (false, eval a X.env) :: starEach [] X.env := by rfl) : PE X (.Call (.Name "len" p) [.Call (.Name "set" p2) [a] [] q] [] pos) (tLenSetT X.K ta) := by
  refine ⟨fun pins s σ H Q I h => ?_⟩
  refine Call_ (ld_blt I hg hm PySem.boot_len ?_)
  refine PyProof.Rows.callWith_builtin1 (PyProof.Rows.args_cons ?_ rfl) rfl rfl
  refine Call_ (ld_blt I hg2 hm2 PyProof.Rows.boot_set ?_)
  refine PyProof.Rows.callWith_type1 (PyProof.Rows.args_cons (thn (ha.run pins s σ H _ I h) fun v s1 ⟨x, H1, I1, r1, q1⟩ => PyProof.Rows.args_nil ?_) na) na rfl
  obtain ⟨l, ns, rfl, hq, h1, q1⟩ := q1
  cases r1
  obtain ⟨its, r, pl, hz⟩ := I1.tuple hq
  have hi : IntsAre its.toArray.toList ns := ints_of_vals r
  refine call_set_tupI ns (I1.ok.hd hc) (show s1.heap.IsTuple l its.toArray from pl) hi (by unfold scanBound; omega) fun h' tk c hS hcn hk => ?_
  refine PyProof.Rows.args_nil ?_
  obtain ⟨o, es, ep, t, ho, hex, hd, g, nd, hm2, hb, hf, hn, hr, hl2⟩ := hS
  have I2 : Inv X pins σ H1 { s1 with heap := h', toks := tk } := I1.kept fun b o e => hk b o e
  have hmem : ∀ k, k ∈ es.toList.map keyOf ↔ k ∈ ns := fun k => by rw [← hm2 k, decide_eq_true_eq]
  have hlen : (es.toList.map keyOf).length = c := by rw [List.length_map, Array.length_toList, hn]
  have key : c = ns.length ↔ ns.Nodup := by
    constructor
    · intro e
      exact nodup_of_le _ _ nd (fun k hk => (hmem k).mp hk) (by rw [hlen, e]; exact Nat.le_refl _)
    · intro hn2
      have w := nodup_le _ _ hn2 fun k hk => (hmem k).mpr hk
      rw [hlen] at w
      omega
  refine call_len_set ho hex hd hf (by rw [hn] <;> omega) ⟨.int c, H1, I2.tok _, ⟨_, by rw [hn]⟩, q1 c hcn key⟩
/-- the same over a list -/
theorem firstMet_nd (val : Nat → Int) : ∀ i, (firstMet val i).Nodup
  | 0 => List.nodup_nil
  | i + 1 => by
    rw [firstMet_succ]
    unfold step_dedup
    split
    · exact firstMet_nd val i
    · rename_i h
      refine List.nodup_append.mpr ⟨firstMet_nd val i, List.nodup_cons.mpr ⟨List.not_mem_nil, List.nodup_nil⟩, fun a ha b hb e => h ?_⟩
      rw [List.mem_singleton] at hb
      exact List.any_eq_true.mpr ⟨a, ha, by rw [e, hb]; exact beq_self_eq_true _⟩
theorem firstMet_mem (ns : List Int) (k : Int) : k ∈ firstMet (fun i => ns.getD i 0) ns.length ↔ k ∈ ns := by
  have e := firstMet_any (fun i => ns.getD i 0) ns.length k
  have em : (List.range ns.length).map (fun i => ns.getD i 0) = ns := by
    refine List.ext_getElem (by rw [List.length_map, List.length_range]) fun j h1 h2 => ?_
    rw [List.getElem_map, List.getElem_range, List.getD_eq_getElem?_getD, List.getElem?_eq_getElem h2]
    rfl
  rw [em] at e
  have w : ∀ l : List Int, l.any (· == k) = true ↔ k ∈ l := fun l => by
    rw [List.any_eq_true]
    exact ⟨fun ⟨x, hx, ex⟩ => by rw [← beq_iff_eq.mp ex]; exact hx, fun hx => ⟨k, hx, beq_self_eq_true _⟩⟩
  rw [← w, ← w, e]
def tLenSetL (K : PySem.W.Frag) (ta : TE) : TE := fun σ H Q => ta σ H fun x H1 => ∃ (l : Addr) (ns : List Int), x = V.ref l ∧ SqL K H1 l (ns.map V.int) ∧ ns.length < 64 ∧ ∀ c : Nat, c ≤ ns.length → (c = ns.length ↔ ns.Nodup) → Q (.int c) H1
theorem pe_lenSetL {a : Expr} {ta : TE} {p p2 q pos : Pos} (hc : X.calm = true) (hg : Gl X "len") (hm : X.mg "len" = none) (hg2 : Gl X "set") (hm2 : X.mg "set" = none) (ha : PE X a ta)
    (na : starEach [a] X.env = (false, eval a X.env) :: starEach [] X.env := by rfl) : PE X (.Call (.Name "len" p) [.Call (.Name "set" p2) [a] [] q] [] pos) (tLenSetL X.K ta) := by
  refine ⟨fun pins s σ H Q I h => ?_⟩
  refine Call_ (ld_blt I hg hm PySem.boot_len ?_)
  refine PyProof.Rows.callWith_builtin1 (PyProof.Rows.args_cons ?_ rfl) rfl rfl
  refine Call_ (ld_blt I hg2 hm2 PyProof.Rows.boot_set ?_)
  refine PyProof.Rows.callWith_type1 (PyProof.Rows.args_cons (thn (ha.run pins s σ H _ I h) fun v s1 ⟨x, H1, I1, r1, q1⟩ => PyProof.Rows.args_nil ?_) na) na rfl
  obtain ⟨l, ns, rfl, hq, h1, q1⟩ := q1
  cases r1
  obtain ⟨its, r, pl, hz⟩ := I1.list hq
  have hl : its.toArray.size = ns.length := by rw [List.size_toArray, ← r.length, List.length_map]
  refine call_set_list (I1.ok.hd hc) pl.isList (ns := ns) (by simpa using r.ints) (by unfold scanBound; omega) fun h' tk hS hk => ?_
  rw [hl] at hS
  have nd := firstMet_nd (fun i => ns.getD i 0) ns.length
  have mm := firstMet_mem ns
  have hcn := firstMet_length_le (fun i => ns.getD i 0) ns.length
  generalize firstMet (fun i => ns.getD i 0) ns.length = L at hS nd mm hcn
  refine PyProof.Rows.args_nil ?_
  obtain ⟨o, es, ep, t, ho, hex, hd, _, _, _, hf, hn⟩ := hS
  have I2 : Inv X pins σ H1 { s1 with heap := h', toks := tk } := I1.kept fun b o e => hk b o (Heap.lt_size e) e
  have key : L.length = ns.length ↔ ns.Nodup := by
    constructor
    · intro e
      exact nodup_of_le _ _ nd (fun k hk => (mm k).mp hk) (by rw [e]; exact Nat.le_refl _)
    · intro hn2
      have w := nodup_le _ _ hn2 fun k hk => (mm k).mpr hk
      omega
  refine call_len_set ho hex hd hf (by rw [hn] <;> omega) ⟨.int L.length, H1, I2.tok _, ⟨_, by rw [hn]⟩, q1 _ hcn key⟩
/-- one of two readings -/
theorem pe_either {e : Expr} {t1 t2 : TE} (a : PE X e t1) (b : PE X e t2) : PE X e (fun σ H Q => t1 σ H Q ∨ t2 σ H Q) := ⟨fun pins s σ H Q I h => h.elim (a.run pins s σ H Q I) (b.run pins s σ H Q I)⟩
theorem pi_either {tg e : Expr} {t1 t2 : TI} (a : PI X tg e t1) (b : PI X tg e t2) : PI X tg e (fun σ H R => t1 σ H R ∨ t2 σ H R) := ⟨fun pins s σ H R I h => h.elim (a.run pins s σ H R I) (b.run pins s σ H R I)⟩
end
end K7E
end
/-! ## P5 -/
section
open PySem PySem.Spec PyProof.Rows L2
namespace K7
abbrev N_are_cells : List Str := ["many", "thing", "least", "cell"]
abbrev s_are_cells : Stmt := topS 15
theorem sc_are_cells : FnScope ["many", "thing", "least", "cell"] ["many", "thing", "least"] (defScope s_are_cells) := ⟨rfl, rfl, rfl, by decide +kernel, rfl, by decide +kernel, by decide +kernel⟩
section
variable {P : Program} {w : World} {K : PySem.W.Frag} {mg : Str → Option Value} {base : Heap}
def intOf : V → Int | .int i => i | _ => 0
/-- what are_cells says of a row -/
def cellsV (many : Int) (xs : List V) (least : Int) : Bool := decide (least ≤ (xs.length : Nat)) && xs.all (fun x => wholeV x 0 (many - 1)) && decide (xs.map intOf).Nodup
theorem whole_int {x : V} {lo hi : Int} (h : wholeV x lo hi = true) : x = .int (intOf x) := by
  unfold wholeV at h
  split at h
  · rfl
  · cases h
def spCells (K : PySem.W.Frag) : Sp := fun vs H Q _ => ∃ (many : Int) (x : V) (least : Int), vs = [.int many, x, .int least] ∧
  ((∃ t : String, (∀ H1, Same H H1 → TyX K H1 x (.type t)) ∧ PySem.W.kitAny K (.type t) [.type "list", .type "tuple"] = some false ∧ ∀ H1, Same H H1 → Q (.bl false) H1) ∨
   (∃ (a : Addr) (xs : List V), x = .ref a ∧ (H a = some (.tup xs) ∨ H a = some (.lst xs)) ∧ (∀ y ∈ xs, Thing H y) ∧ xs.length < 64 ∧ ∀ H1, Same H H1 → Q (.bl (cellsV many xs least)) H1))
theorem ok_cells {f fS fW : Addr} {fd fdS fdW : FuncData} (F : Fun K "are_cells" "are_cells" s_are_cells f fd)
    (Gsq : FnOk P w K mg base CX0 1 fS fdS ["thing"] (spSeq K)) (gsq : mg "is_sequence" = some (.ref fS)) (ksq : PySem.W.keepIn K (.ref fS) = true) (bsq : Binds K fdS ["thing"] [])
    (Giw : FnOk P w K mg base CX0 1 fW fdW ["thing", "low", "high"] spWhole) (giw : mg "is_whole" = some (.ref fW)) (kiw : PySem.W.keepIn K (.ref fW) = true) (biw : Binds K fdW ["thing", "low", "high"] [])
    (m_len : mg "len" = none) (m_set : mg "set" = none) (m_all : mg "all" = none) : FnOk P w K mg base CX0 2 f fd ["many", "thing", "least"] (spCells K) := by
  refine F.ok sc_are_cells (fun vs H Q E h => ?_) (fun cdv A outer s H vs Q E hr h => ?_)
  · obtain ⟨m, x, l, rfl, _⟩ := h
    rfl
  · obtain ⟨m, x, l, rfl, h⟩ := h
    refine ⟨_, (pss_cons (ps_if (pw_or (pt_not (pt_val (pe_call Gsq (hr.mono (by decide)) (by rfl) gsq ksq bsq .nil pass0 (pa_cons (pv 1) pa_nil)))) (pw_or1 (pt_cmpR op_lt (pe_callB call_len_seq (by rfl) m_len boot_len (pa_cons (pv 1) pa_nil)) (pv 2) (nomark _)))).pt
  (pss_one (ps_ret pe_bl))
  pss_nil)
 (pss_cons (ps_if (pt_not (pt_val (pe_callB (cr_all rfl) (by rfl) m_all boot_all (pa_cons (pe_lc (own := [("cell", 3)]) (g := gName 3) (tt := tYes) rfl sc_are_cells.nd (K7E.pi_either (pi_tup (pv 1)) (pi_list (pv 1))) (blkOk_by (own := [("cell", 3)]) (N := N_are_cells) (sc := defScope s_are_cells) (by decide +kernel)) (fun _ _ _ _ _ => (pg_name (i := 3) sc_are_cells.nd rfl (by first | exact Or.inl rfl | exact Or.inr rfl))) (fun _ _ _ _ _ => pts_nil) (fun _ _ _ _ _ => (pe_call Giw (hr.mono (by decide)) (by rfl) giw kiw biw .nil pass0 (pa_cons (pv 3) (pa_cons pe_int (pa_cons (pe_op op_sub (pv 0) pe_int) pa_nil)))))) pa_nil))))
  (pss_one (ps_ret pe_bl))
  pss_nil)
 (pss_one (ps_ret (pe_cmpR op_eq (K7E.pe_either (K7E.pe_lenSetT rfl (by rfl) m_len (by rfl) m_set (pv 1)) (K7E.pe_lenSetL rfl (by rfl) m_len (by rfl) m_set (pv 1))) (pe_callB call_len_seq (by rfl) m_len boot_len (pa_cons (pv 1) pa_nil)) (nomark _)))))), ?_⟩
    rcases h with ⟨t, ty, k, q⟩ | ⟨a, xs, rfl, ha, th, h64, q⟩
    · refine ⟨_, rfl, x, t, false, rfl, ty, k, fun H1 e1 => ?_⟩
      exact ⟨_, rfl, q H1 e1⟩
    · have sq : ∀ H1, Same H H1 → (SqL K H1 a xs ∨ SqT K H1 a xs) := fun H1 e1 => ha.elim (fun z => .inr (.inl (.inl (e1 _ _ z)))) (fun z => .inl (.inl (.inl (e1 _ _ z))))
      have ex : ∃ t : String, (∀ H1, Same H H1 → TyX K H1 (.ref a) (.type t)) ∧ PySem.W.kitAny K (.type t) [.type "list", .type "tuple"] = some true := by
        rcases ha with z | z
        · exact ⟨"tuple", fun H1 e1 => .base (.tup (e1 _ _ z)), any_tup⟩
        · exact ⟨"list", fun H1 e1 => .base (.lst (e1 _ _ z)), any_lst⟩
      obtain ⟨t, ty, kk⟩ := ex
      refine ⟨_, rfl, _, t, true, rfl, ty, kk, fun H1 e1 => ⟨_, rfl, ?_⟩⟩
      refine ⟨_, rfl, a, xs, rfl, sq H1 e1, _, rfl, _, _, rfl, rfl, _, rfl, ite2 (fun c1 => ?_) (fun c1 => ?_)⟩
      · have c1' : ((xs.length : Nat) : Int) < l := of_decide_eq_true c1
        have z := q H1 e1
        have e0 : cellsV m xs l = false := by
          unfold cellsV
          rw [decide_eq_false (show ¬ l ≤ ((xs.length : Nat) : Int) by omega), Bool.false_and, Bool.false_and]
        rw [e0] at z
        exact z
      · have c1' : ¬ ((xs.length : Nat) : Int) < l := fun z => c1 (decide_eq_true z)
        have c2 : decide (l ≤ ((xs.length : Nat) : Int)) = true := decide_eq_true (by omega)
        rcases ha with z | z
        · refine .inl ⟨_, rfl, a, rfl, ⟨xs, .inl (.inl (e1 _ _ z))⟩, fun D hD => lc_tup (xs := xs) (fun j H2 => Same H1 H2 ∧ H2 D = some (.lst (((xs.take j).map fun x => wholeV x 0 (m - 1)).map V.bl))) ⟨same_new (Same.refl H1) hD, upd_same⟩ (fun j H2 _ pv => .inl (.inl (pv.1 _ _ (e1 _ _ z)))) (fun j x H2 hx pv => ?_) (fun H2 pv => ?_)⟩
          · obtain ⟨e2, hD2⟩ := pv
            have hm := th x (List.mem_of_getElem? hx)
            have hj : j < xs.length := (List.getElem?_eq_some_iff.mp hx).1
            refine ⟨rfl, _, rfl, _, rfl, _, _, rfl, rfl, x, 0, m - 1, rfl, hm.same (e1.trans e2), _, hD2, by rw [List.length_map, List.length_map, List.length_take]; exact small1000 (by omega), fun b o hb => ?_, ?_⟩
            · rw [upd_ne (ne_of_none hb hD)]
              exact e2 _ _ hb
            · rw [upd_same, List.take_add_one, hx, List.map_append, List.map_append]
              rfl
          · obtain ⟨e2, hD2⟩ := pv
            rw [List.take_length] at hD2
            refine ⟨D, xs.map fun x => wholeV x 0 (m - 1), rfl, .inl (.inl hD2), _, rfl, ?_⟩
            have call_ : (xs.map fun x => wholeV x 0 (m - 1)).all id = xs.all fun x => wholeV x 0 (m - 1) := by rw [List.all_map]; rfl
            refine ite2 (fun c3 => ?_) (fun c3 => ?_)
            rotate_left
            · have w : xs.all (fun x => wholeV x 0 (m - 1)) = true := by
                rw [← call_]
                cases hq : (xs.map fun x => wholeV x 0 (m - 1)).all id with
                | true => rfl
                | false => exact absurd (by rw [hq]; rfl) c3
              have exs : xs = (xs.map intOf).map V.int := by
                rw [List.map_map]
                refine (List.map_id xs).symm.trans (List.map_congr_left fun y hy => ?_)
                exact whole_int (List.all_eq_true.mp w y hy)
              refine Or.inl ⟨_, rfl, a, xs.map intOf, rfl, by rw [← exs]; exact .inl (.inl (e2 _ _ (e1 _ _ z))), by rw [List.length_map]; exact h64, fun c hc1 hc2 => ?_⟩
              refine ⟨_, rfl, a, xs, rfl, sq H2 (e1.trans e2), rfl, ?_⟩
              have zz := q H2 (e1.trans e2)
              unfold cellsV at zz
              rw [c2, w, Bool.true_and, Bool.true_and] at zz
              rw [List.length_map] at hc2
              have ee : decide (V.int (c : Nat) = V.int (xs.length : Nat)) = decide (xs.map intOf).Nodup := by
                refine decide_eq_decide.mpr ⟨fun e => hc2.mp ?_, fun e => by rw [hc2.mpr e]⟩
                injection e with e
                omega
              rw [← ee] at zz
              exact zz
            · have w : xs.all (fun x => wholeV x 0 (m - 1)) = false := by
                rw [← call_]
                cases hq : (xs.map fun x => wholeV x 0 (m - 1)).all id with
                | false => rfl
                | true => rw [hq] at c3; cases c3
              have zz := q H2 (e1.trans e2)
              unfold cellsV at zz
              rw [w, Bool.and_false, Bool.false_and] at zz
              exact zz
        · refine .inr ⟨_, rfl, a, rfl, ⟨xs, .inl (.inl (e1 _ _ z))⟩, fun D hD => lc_list (xs := xs) (fun j H2 => Same H1 H2 ∧ H2 D = some (.lst (((xs.take j).map fun x => wholeV x 0 (m - 1)).map V.bl))) ⟨same_new (Same.refl H1) hD, upd_same⟩ (fun j H2 _ pv => .inl (.inl (pv.1 _ _ (e1 _ _ z)))) (fun j x H2 hx pv => ?_) (fun H2 pv => ?_)⟩
          · obtain ⟨e2, hD2⟩ := pv
            have hm := th x (List.mem_of_getElem? hx)
            have hj : j < xs.length := (List.getElem?_eq_some_iff.mp hx).1
            refine ⟨rfl, _, rfl, _, rfl, _, _, rfl, rfl, x, 0, m - 1, rfl, hm.same (e1.trans e2), _, hD2, by rw [List.length_map, List.length_map, List.length_take]; exact small1000 (by omega), fun b o hb => ?_, ?_⟩
            · rw [upd_ne (ne_of_none hb hD)]
              exact e2 _ _ hb
            · rw [upd_same, List.take_add_one, hx, List.map_append, List.map_append]
              rfl
          · obtain ⟨e2, hD2⟩ := pv
            rw [List.take_length] at hD2
            refine ⟨D, xs.map fun x => wholeV x 0 (m - 1), rfl, .inl (.inl hD2), _, rfl, ?_⟩
            have call_ : (xs.map fun x => wholeV x 0 (m - 1)).all id = xs.all fun x => wholeV x 0 (m - 1) := by rw [List.all_map]; rfl
            refine ite2 (fun c3 => ?_) (fun c3 => ?_)
            rotate_left
            · have w : xs.all (fun x => wholeV x 0 (m - 1)) = true := by
                rw [← call_]
                cases hq : (xs.map fun x => wholeV x 0 (m - 1)).all id with
                | true => rfl
                | false => exact absurd (by rw [hq]; rfl) c3
              have exs : xs = (xs.map intOf).map V.int := by
                rw [List.map_map]
                refine (List.map_id xs).symm.trans (List.map_congr_left fun y hy => ?_)
                exact whole_int (List.all_eq_true.mp w y hy)
              refine Or.inr ⟨_, rfl, a, xs.map intOf, rfl, by rw [← exs]; exact .inl (.inl (e2 _ _ (e1 _ _ z))), by rw [List.length_map]; exact h64, fun c hc1 hc2 => ?_⟩
              refine ⟨_, rfl, a, xs, rfl, sq H2 (e1.trans e2), rfl, ?_⟩
              have zz := q H2 (e1.trans e2)
              unfold cellsV at zz
              rw [c2, w, Bool.true_and, Bool.true_and] at zz
              rw [List.length_map] at hc2
              have ee : decide (V.int (c : Nat) = V.int (xs.length : Nat)) = decide (xs.map intOf).Nodup := by
                refine decide_eq_decide.mpr ⟨fun e => hc2.mp ?_, fun e => by rw [hc2.mpr e]⟩
                injection e with e
                omega
              rw [← ee] at zz
              exact zz
            · have w : xs.all (fun x => wholeV x 0 (m - 1)) = false := by
                rw [← call_]
                cases hq : (xs.map fun x => wholeV x 0 (m - 1)).all id with
                | false => rfl
                | true => rw [hq] at c3; cases c3
              have zz := q H2 (e1.trans e2)
              unfold cellsV at zz
              rw [w, Bool.and_false, Bool.false_and] at zz
              exact zz
end
end K7
end
/-! ## P6 -/
section
open PySem PySem.Spec PyProof.Rows L2
namespace K7
abbrev N_are_two_cells : List Str := ["many", "thing"]
abbrev s_are_two_cells : Stmt := topS 16
theorem sc_are_two_cells : FnScope ["many", "thing"] ["many", "thing"] (defScope s_are_two_cells) := ⟨rfl, rfl, rfl, by decide +kernel, rfl, by decide +kernel, by decide +kernel⟩
section
variable {P : Program} {w : World} {K : PySem.W.Frag} {mg : Str → Option Value} {base : Heap}
/-- what are_two_cells says of a row -/
def twoV (many : Int) (xs : List V) : Bool := cellsV many xs 2 && decide (xs.length = 2)
def spTwo (K : PySem.W.Frag) : Sp := fun vs H Q _ => ∃ (many : Int) (x : V), vs = [.int many, x] ∧
  ((∃ t : String, (∀ H1, Same H H1 → TyX K H1 x (.type t)) ∧ PySem.W.kitAny K (.type t) [.type "list", .type "tuple"] = some false ∧ ∀ H1, Same H H1 → Q (.bl false) H1) ∨
   (∃ (a : Addr) (xs : List V), x = .ref a ∧ (H a = some (.tup xs) ∨ H a = some (.lst xs)) ∧ (∀ y ∈ xs, Thing H y) ∧ xs.length < 64 ∧ ∀ H1, Same H H1 → Q (.bl (twoV many xs)) H1))
theorem ok_two {f fC : Addr} {fd fdC : FuncData} (F : Fun K "are_two_cells" "are_two_cells" s_are_two_cells f fd)
    (Gac : FnOk P w K mg base CX0 2 fC fdC ["many", "thing", "least"] (spCells K)) (gac : mg "are_cells" = some (.ref fC)) (kac : PySem.W.keepIn K (.ref fC) = true) (bac : Binds K fdC ["many", "thing", "least"] [])
    (m_len : mg "len" = none) : FnOk P w K mg base CX0 3 f fd ["many", "thing"] (spTwo K) := by
  refine F.ok sc_are_two_cells (fun vs H Q E h => ?_) (fun cdv A outer s H vs Q E hr h => ?_)
  · obtain ⟨m, x, rfl, _⟩ := h
    rfl
  · obtain ⟨m, x, rfl, h⟩ := h
    refine ⟨_, (pss_one (ps_ret (pe_and (pe_call Gac (hr.mono (by decide)) (by rfl) gac kac bac .nil pass0 (pa_cons (pv 0) (pa_cons (pv 1) (pa_cons pe_int pa_nil)))) (pe_one (pe_cmpR op_eq (pe_callB call_len_seq (by rfl) m_len boot_len (pa_cons (pv 1) pa_nil)) pe_int (nomark _)))))), ?_⟩
    refine ⟨_, rfl, _, rfl, m, x, 2, rfl, ?_⟩
    rcases h with ⟨t, ty, k, q⟩ | ⟨a, xs, rfl, ha, th, h64, q⟩
    · exact .inl ⟨t, ty, k, fun H1 e1 => ⟨false, rfl, q H1 e1⟩⟩
    · refine .inr ⟨a, xs, rfl, ha, th, h64, fun H1 e1 => ⟨_, rfl, ite2 (fun c1 => ?_) (fun c1 => ?_)⟩⟩
      · refine ⟨_, rfl, a, xs, rfl, ha.elim (fun z => .inr (.inl (.inl (e1 _ _ z)))) (fun z => .inl (.inl (.inl (e1 _ _ z)))), rfl, ?_⟩
        have zz := q H1 e1
        unfold twoV at zz
        rw [c1, Bool.true_and] at zz
        have ee : decide (V.int (xs.length : Nat) = V.int 2) = decide (xs.length = 2) := by
          refine decide_eq_decide.mpr ⟨fun e => ?_, fun e => by rw [e]; rfl⟩
          injection e with e
          omega
        rw [← ee] at zz
        exact zz
      · have zz := q H1 e1
        unfold twoV at zz
        rw [Bool.eq_false_iff.mpr c1, Bool.false_and] at zz
        exact zz
end
end K7
end
/-! ## KM -/
section
/-! ## more pure facts: couples put in order -/
namespace KL
def srt (c : Nat × Nat) : Nat × Nat := (min c.1 c.2, max c.1 c.2)
theorem srt_le (c : Nat × Nat) : (srt c).1 ≤ (srt c).2 := by unfold srt; simp only; omega
theorem srt_lt {c : Nat × Nat} (h : c.1 ≠ c.2) : (srt c).1 < (srt c).2 := by unfold srt; simp only; omega
theorem srt_of {c : Nat × Nat} (h : c.1 < c.2) : srt c = c := by
  obtain ⟨a, b⟩ := c
  unfold srt
  simp only at h ⊢
  rw [Nat.min_eq_left (by omega), Nat.max_eq_right (by omega)]
/-- two numbers put in order -/
theorem two_sorted {ms : List Int} {x y : Nat} (p : ms.Perm [(x : Int), (y : Int)]) (s : ms.Pairwise (· ≤ ·)) : ms = [((min x y : Nat) : Int), ((max x y : Nat) : Int)] := by
  have hl := p.length_eq
  match ms, hl with
  | [u, v], _ =>
    have huv : u ≤ v := (List.pairwise_cons.mp s).1 v (List.mem_singleton.mpr rfl)
    have hu : u ∈ [(x : Int), (y : Int)] := p.mem_iff.mp List.mem_cons_self
    rcases List.mem_cons.mp hu with e | e
    · subst e
      have := (List.Perm.cons_inv p).eq_singleton
      injection this with e
      subst e
      have hxy : x ≤ y := by omega
      rw [Nat.min_eq_left hxy, Nat.max_eq_right hxy]
    · rw [List.mem_singleton] at e
      subst e
      have p2 : [(y : Int), v].Perm [(y : Int), (x : Int)] := p.trans (List.Perm.swap ..)
      have := (List.Perm.cons_inv p2).eq_singleton
      injection this with e
      subst e
      have hxy : y ≤ x := by omega
      rw [Nat.min_eq_right hxy, Nat.max_eq_left hxy]
def lexLe (a b : Nat × Nat) : Prop := a.1 < b.1 ∨ (a.1 = b.1 ∧ a.2 ≤ b.2)
/-- a sorted list is told by its items -/
theorem uniq {α : Type} {le : α → α → Prop} (anti : ∀ a b, le a b → le b a → a = b) : ∀ {l m : List α}, l.Perm m → l.Pairwise le → m.Pairwise le → l = m
  | [], m, p, _, _ => p.symm.eq_nil.symm
  | x :: l, [], p, _, _ => absurd p.length_eq (by simp)
  | x :: l, y :: m, p, hl, hm => by
    have e : x = y := by
      rcases List.mem_cons.mp (p.mem_iff.mp (List.mem_cons_self (a := x) (l := l))) with e | hx
      · exact e
      · rcases List.mem_cons.mp (p.mem_iff.mpr (List.mem_cons_self (a := y) (l := m))) with e | hy
        · exact e.symm
        · exact anti _ _ ((List.pairwise_cons.mp hl).1 y hy) ((List.pairwise_cons.mp hm).1 x hx)
    subst e
    rw [uniq anti p.cons_inv (List.pairwise_cons.mp hl).2 (List.pairwise_cons.mp hm).2]
theorem lex_anti (a b : Nat × Nat) (h1 : lexLe a b) (h2 : lexLe b a) : a = b := by
  unfold lexLe at h1 h2
  exact Prod.ext (by omega) (by omega)
theorem int_anti (a b : Int) (h1 : a ≤ b) (h2 : b ≤ a) : a = b := by omega
/-- all couples of n cells -/
def allC (n : Nat) : List (Nat × Nat) := (List.range n).flatMap fun a => ((List.range n).filter fun b => decide (a ≠ b)).map fun b => (a, b)
/-- couples taken either way round hang together as the ordered ones do -/
theorem conn_srt {n : Nat} {cs es : List (Nat × Nat)} (h : Conn n cs) (hp : es.Perm (cs.map srt)) : Conn n es := by
  intro S h0 he
  refine h S h0 fun c hc => ?_
  have z := he (srt c) (hp.mem_iff.mpr (List.mem_map.mpr ⟨c, hc, rfl⟩))
  unfold srt at z
  simp only at z
  rcases Nat.le_total c.1 c.2 with q | q
  · rw [Nat.min_eq_left q, Nat.max_eq_right q] at z
    exact z
  · rw [Nat.min_eq_right q, Nat.max_eq_left q] at z
    exact z.symm
/-- what is reached from c over passing cells -/
inductive Rch (E : Nat → Nat → Prop) (ps : List Nat) (c : Nat) : Nat → Prop
  | base : Rch E ps c c
  | step {a b : Nat} (h : Rch E ps c a) (e : E a b) (p : b ∈ ps) : Rch E ps c b
theorem Rch.mono {E E' : Nat → Nat → Prop} {ps ps' : List Nat} {c x : Nat} (h : Rch E ps c x) (he : ∀ a b, E a b → E' a b) (hp : ∀ b ∈ ps, b ∈ ps') : Rch E' ps' c x := by
  induction h with
  | base => exact .base
  | step _ e p ih => exact .step ih (he _ _ e) (hp _ p)
/-- a closed list that holds c holds what is reached -/
theorem Rch.mem {E : Nat → Nat → Prop} {ps : List Nat} {c x : Nat} {fd : List Nat} (h : Rch E ps c x) (h0 : c ∈ fd) (hc : ∀ a b, a ∈ fd → E a b → b ∈ ps → b ∈ fd) : x ∈ fd := by
  induction h with
  | base => exact h0
  | step _ e p ih => exact hc _ _ ih e p
end KL
end
/-! ## P7 -/
section
open PySem PySem.Spec PyProof.Rows L2
namespace K7
abbrev N_spread : List Str := ["nearby", "cell", "passing", "found", "done", "here", "b"]
abbrev s_spread : Stmt := topS 19
theorem sc_spread : FnScope ["nearby", "cell", "passing", "found", "done", "here", "b"] ["nearby", "cell", "passing"] (defScope s_spread) := ⟨rfl, rfl, rfl, by decide +kernel, rfl, by decide +kernel, by decide +kernel⟩
theorem flat_ints : ∀ l : List Nat, (ints_ l).all flatV = true
  | [] => rfl
  | _ :: l => flat_ints l
theorem inV_ints (c : Nat) : ∀ l : List Nat, inV (.int (c : Nat)) (ints_ l) = decide (c ∈ l)
  | [] => rfl
  | y :: l => by
    show (eqV (.int (y : Nat)) (.int (c : Nat)) || inV (.int (c : Nat)) (ints_ l)) = _
    rw [inV_ints c l]
    have e : eqV (.int (y : Nat)) (.int (c : Nat)) = decide (c = y) := by
      show decide ((y : Int) = (c : Int)) = _
      exact decide_eq_decide.mpr (by omega)
    rw [e, ← Bool.decide_or]
    exact decide_eq_decide.mpr List.mem_cons.symm
section
variable {P : Program} {w : World} {K : PySem.W.Frag} {mg : Str → Option Value} {base : Heap}
def SqOf (H : Hp) (a : Addr) (xs : List V) : Prop := H a = some (.tup xs) ∨ H a = some (.lst xs)
theorem SqOf.same {H H' : Hp} {a : Addr} {xs : List V} (h : SqOf H a xs) (e : Same H H') : SqOf H' a xs := h.imp (e _ _) (e _ _)
theorem SqOf.sq {H : Hp} {a : Addr} {xs : List V} (h : SqOf H a xs) : SqL K H a xs ∨ SqT K H a xs := h.elim (fun z => .inr (.inl (.inl z))) fun z => .inl (.inl (.inl z))
def nbE (Nb : List (List Nat)) (a b : Nat) : Prop := ∃ l, Nb[a]? = some l ∧ b ∈ l
def SpInv (H : Hp) (nb pa F0 : Addr) (Nb : List (List Nat)) (ps : List Nat) (c m : Nat) (σ' : L2.St) (H' : Hp) : Prop := ∃ (fd : List Nat) (d : Nat) (y5 y6 : Option V), σ' = [some (.ref nb), some (.int (c : Nat)), some (.ref pa), some (.ref F0), some (.int (d : Nat)), y5, y6] ∧ But F0 H H' ∧ H' F0 = some (.lst (ints_ fd)) ∧ fd.Nodup ∧ c ∈ fd ∧ (∀ x ∈ fd, x < Nb.length) ∧ d ≤ fd.length ∧
      (∀ i a, i < d → fd[i]? = some a → ∀ l, Nb[a]? = some l → ∀ b ∈ l, b ∈ ps → b ∈ fd) ∧ m + d = Nb.length ∧ ∀ x ∈ fd, KL.Rch (nbE Nb) ps c x
/-- what spread finds: the cell, and all that is near to what is found -/
structure Found (Nb : List (List Nat)) (ps : List Nat) (c : Nat) (fd : List Nat) : Prop where
  nd : fd.Nodup
  me : c ∈ fd
  lt : ∀ x ∈ fd, x < Nb.length
  cl : ∀ a ∈ fd, ∀ l, Nb[a]? = some l → ∀ b ∈ l, b ∈ ps → b ∈ fd
  so : ∀ x ∈ fd, KL.Rch (nbE Nb) ps c x
def spSpread : Sp := fun vs H Q _ => ∃ (nb : Addr) (ts : List Addr) (Nb : List (List Nat)) (c : Nat) (pa : Addr) (ps : List Nat), vs = [.ref nb, .int c, .ref pa] ∧ H nb = some (.tup (ts.map V.ref)) ∧ TAt H ts Nb ∧ SqOf H pa (ints_ ps) ∧
  Nb.length ≤ 5 ∧ c < Nb.length ∧ (∀ l ∈ Nb, ∀ x ∈ l, x < Nb.length) ∧ ∀ H' q fd, Same H H' → H q = none → H' q = some (.lst (ints_ fd)) → Found Nb ps c fd → Q (.ref q) H'
theorem ok_spread {f : Addr} {fd : FuncData} (F : Fun K "spread" "spread" s_spread f fd) (m_len : mg "len" = none) : FnOk P w K mg base CX0 1 f fd ["nearby", "cell", "passing"] spSpread := by
  refine F.ok sc_spread (fun vs H Q E h => ?_) (fun cdv A outer s H vs Q E hr h => ?_)
  · obtain ⟨nb, ts, Nb, c, pa, ps, rfl, _⟩ := h
    rfl
  · obtain ⟨nb, ts, Nb, c, pa, ps, rfl, hnb, tN, hpa, h5, hc, hlt, q⟩ := h
    refine ⟨_, (pss_cons (ps_set (i := 3) sc_spread.nd rfl (by first | exact Or.inl rfl | exact Or.inr rfl) (pe_lst (pa_cons (pv 1) pa_nil)))
 (pss_cons (ps_set (i := 4) sc_spread.nd rfl (by first | exact Or.inl rfl | exact Or.inr rfl) pe_int)
 (pss_cons (ps_while PassesOwn.never (pt_cmpR op_lt (pv 4) (pe_callB call_len_seq (by rfl) m_len boot_len (pa_cons (pv 3) pa_nil)) (nomark _))
  (pss_cons (ps_set (i := 5) sc_spread.nd rfl (by first | exact Or.inl rfl | exact Or.inr rfl) (pe_ix ix_list (pv 3) (pv 4) (fun _ _ => rfl)))
 (pss_cons (ps_for PassesOwn.never rfl (pi_tup (pe_ix ix_tup (pv 0) (pv 5) (fun _ _ => rfl))) (pg_name (i := 6) sc_spread.nd rfl (by first | exact Or.inl rfl | exact Or.inr rfl))
  (pss_one (ps_if (pw_and (pt_cmpR op_in_seq (pv 6) (pv 2) (by with_unfolding_all rfl)) (pw_and1 (pt_cmpR op_notIn_seq (pv 6) (pv 3) (by with_unfolding_all rfl)))).pt
  (pss_one (ps_expr (pe_bm PySem.F.plainAttrs_list PySem.F.slot_list_append PySem.F.type_list_append mt_append (pv 3) (pa_cons (pv 6) pa_nil))))
  pss_nil)))
 (pss_one (ps_aug (i := 4) sc_spread.nd rfl (by first | exact Or.inl rfl | exact Or.inr rfl) pe_int ip_add)))))
 (pss_one (ps_ret (pv 3)))))), ?_⟩
    refine ⟨_, rfl, by show 1 ≤ sizeLine; decide, fun F0 nF => ?_⟩
    refine ⟨SpInv H nb pa F0 Nb ps c, ⟨Nb.length, [c], 0, none, none, rfl, ?_, upd_same, ?_, List.mem_singleton.mpr rfl, ?_, Nat.zero_le _, ?_, rfl, fun x hx => by rw [List.mem_singleton.mp hx]; exact .base⟩, fun m σ' H' wv => ?_⟩
    · exact fun b o hb e => by rw [upd_ne hb]; exact e
    · exact List.nodup_cons.mpr ⟨List.not_mem_nil, List.nodup_nil⟩
    · intro x hx
      rw [List.mem_singleton] at hx
      rw [hx]
      exact hc
    · exact fun i a hi => absurd hi (Nat.not_lt_zero _)
    · obtain ⟨fd, d, y5, y6, rfl, bt, hF, nd, hcm, lt, hd, cl, hm, so⟩ := wv
      have h1 : fd.length ≤ Nb.length := by
        have z := K7E.nodup_le fd (List.range Nb.length) nd fun x hx => List.mem_range.mpr (lt x hx)
        rw [List.length_range] at z
        exact z
      refine ⟨_, rfl, _, rfl, F0, _, rfl, .inl (.inl (.inl hF)), _, _, rfl, rfl, _, rfl, ite2 (fun c1 => ?_) (fun c1 => ?_)⟩
      · have c1' : d < fd.length := by
          have z : ((d : Nat) : Int) < (((ints_ fd).length : Nat) : Int) := of_decide_eq_true c1
          rw [show (ints_ fd).length = fd.length from List.length_map ..] at z
          omega
        refine ⟨SpInv H nb pa F0 Nb ps c (m - 1), fun σ2 H2 z => ⟨m - 1, by omega, z⟩, ?_⟩
        obtain ⟨a, ea⟩ : ∃ a, fd[d]? = some a := ⟨_, List.getElem?_eq_getElem c1'⟩
        have ma := List.mem_of_getElem? ea
        have la := lt a ma
        obtain ⟨l, el⟩ : ∃ l, Nb[a]? = some l := ⟨_, List.getElem?_eq_getElem la⟩
        have ltsl : a < ts.length := by rw [tN.len]; exact la
        obtain ⟨t, et⟩ : ∃ t, ts[a]? = some t := ⟨_, List.getElem?_eq_getElem ltsl⟩
        obtain ⟨l', el', ht⟩ := tN.get et
        have : l' = l := by rw [el] at el'; injection el' with e; exact e.symm
        subst this
        have sm : Same H H' := fun b o hb => bt b o (ne_of_none hb nF) hb
        refine ⟨_, rfl, _, rfl, F0, _, _, .int (a : Nat), rfl, rfl, .inl (.inl hF), atI_nat (by unfold ints_; rw [List.getElem?_map, ea]; rfl), ?_⟩
        refine ⟨_, rfl, _, rfl, nb, _, _, .ref t, rfl, rfl, .inl (.inl (sm _ _ hnb)), atI_nat (by rw [List.getElem?_map, et]; rfl), t, rfl, ⟨_, .inl (.inl (sm _ _ ht))⟩, for_tup (xs := ints_ l') (fun j σ2 H2 => ∃ (fd2 r : List Nat) (y6 : Option V), σ2 = [some (.ref nb), some (.int (c : Nat)), some (.ref pa), some (.ref F0), some (.int (d : Nat)), some (.int (a : Nat)), y6] ∧ But F0 H H2 ∧ H2 F0 = some (.lst (ints_ fd2)) ∧ fd2.Nodup ∧ fd2 = fd ++ r ∧ (∀ x ∈ fd2, x < Nb.length) ∧ (∀ b ∈ l'.take j, b ∈ ps → b ∈ fd2) ∧ ∀ x ∈ fd2, KL.Rch (nbE Nb) ps c x)
          ⟨fd, [], y6, rfl, bt, hF, nd, (List.append_nil _).symm, lt, fun b hb => (by cases hb), so⟩ (fun j σ2 H2 _ pv => ?_) (fun j x σ2 H2 hx pv => ?_) (fun σ2 H2 pv => ?_)⟩
        · obtain ⟨fd2, r, y6, _, bt2, _⟩ := pv
          exact .inl (.inl (bt2 t _ (ne_of_none ht nF) ht))
        · obtain ⟨fd2, r, y6, rfl, bt2, hF2, nd2, rfl, lt2, cl2, so2⟩ := pv
          have sm2 : Same H H2 := fun b o hb => bt2 b o (ne_of_none hb nF) hb
          unfold ints_ at hx
          rw [List.getElem?_map] at hx
          obtain ⟨b, eb, rfl⟩ := Option.map_eq_some_iff.mp hx
          have hbl := hlt l' (List.mem_of_getElem? el) b (List.mem_of_getElem? eb)
          have tk : l'.take (j + 1) = l'.take j ++ [b] := by rw [List.take_add_one, eb]; rfl
          refine ⟨_, rfl, _, rfl, pa, _, rfl, (hpa.same sm2).sq, rfl, flat_ints ps, _, rfl, ite2 (fun q1 => ?_) (fun q1 => ?_)⟩
          · have q1' : b ∈ ps := of_decide_eq_true ((inV_ints b ps).symm.trans q1)
            refine ⟨_, rfl, _, rfl, F0, _, rfl, .inl (.inl (.inl hF2)), rfl, flat_ints _, _, rfl, ite2 (fun q2 => ?_) (fun q2 => ?_)⟩
            · have q2' : b ∉ fd ++ r := by
                intro hb2
                have z : (!inV (.int (b : Nat)) (ints_ (fd ++ r))) = true := q2
                rw [inV_ints, decide_eq_true hb2] at z
                cases z
              have hl2 : (fd ++ r).length ≤ 5 := by
                have z := K7E.nodup_le (fd ++ r) (List.range Nb.length) nd2 fun x hx => List.mem_range.mpr (lt2 x hx)
                rw [List.length_range] at z
                omega
              refine ⟨_, rfl, .inl ⟨rfl, _, .inl (.inl hF2)⟩, _, rfl, F0, _, _, rfl, rfl, hF2, by unfold ints_; rw [List.length_map]; exact small1000 (by omega), ?_⟩
              refine ⟨(fd ++ r) ++ [b], r ++ [b], some (.int (b : Nat)), rfl, fun b' o hb' e => by rw [upd_ne hb']; exact bt2 b' o hb' e, by rw [upd_same]; exact congrArg (fun z => some (HO.lst z)) (List.map_append (f := fun c : Nat => V.int (c : Nat)) (l₁ := fd ++ r) (l₂ := [b])).symm, ?_, List.append_assoc .., fun x hx => ?_, fun x hx hp => ?_, fun x hx => ?_⟩
              · exact List.nodup_append.mpr ⟨nd2, List.nodup_cons.mpr ⟨List.not_mem_nil, List.nodup_nil⟩, fun a' ha' b' hb' e => by rw [List.mem_singleton] at hb'; exact q2' (by rw [← hb', ← e]; exact ha')⟩
              · rcases List.mem_append.mp hx with hx | hx
                · exact lt2 x hx
                · rw [List.mem_singleton] at hx
                  rw [hx]
                  exact hbl
              · rw [tk] at hx
                rcases List.mem_append.mp hx with hx | hx
                · exact List.mem_append_left _ (cl2 x hx hp)
                · exact List.mem_append_right _ hx
              · rcases List.mem_append.mp hx with hx | hx
                · exact so2 x hx
                · rw [List.mem_singleton.mp hx]
                  exact .step (so a ma) ⟨_, el, List.mem_of_getElem? eb⟩ q1'
            · have q2' : b ∈ fd ++ r := by
                refine Classical.byContradiction fun hn => q2 ?_
                show (!inV (.int (b : Nat)) (ints_ (fd ++ r))) = true
                rw [inV_ints, decide_eq_false hn]
                rfl
              refine ⟨fd ++ r, r, some (.int (b : Nat)), rfl, bt2, hF2, nd2, rfl, lt2, fun x hx hp => ?_, so2⟩
              rw [tk] at hx
              rcases List.mem_append.mp hx with hx | hx
              · exact cl2 x hx hp
              · rw [List.mem_singleton] at hx
                rw [hx]
                exact q2'
          · have q1' : b ∉ ps := fun hb => q1 ((inV_ints b ps).trans (decide_eq_true hb))
            refine iteF ?_
            refine ⟨fd ++ r, r, some (.int (b : Nat)), rfl, bt2, hF2, nd2, rfl, lt2, fun x hx hp => ?_, so2⟩
            rw [tk] at hx
            rcases List.mem_append.mp hx with hx | hx
            · exact cl2 x hx hp
            · rw [List.mem_singleton] at hx
              rw [hx] at hp
              exact absurd hp q1'
        · obtain ⟨fd2, r, y6, rfl, bt2, hF2, nd2, rfl, lt2, cl2, so2⟩ := pv
          rw [show (ints_ l').length = l'.length from List.length_map .., List.take_length] at cl2
          refine ⟨_, rfl, _, _, rfl, rfl, ?_⟩
          refine ⟨fd ++ r, d + 1, some (.int (a : Nat)), y6, rfl, bt2, hF2, nd2, List.mem_append_left _ hcm, lt2, by rw [List.length_append]; omega, fun i a' hi ea' l2 el2 b hb hp => ?_, by omega, so2⟩
          rw [List.getElem?_append_left (by omega)] at ea'
          rcases Nat.lt_or_ge i d with hid | hid
          · exact List.mem_append_left _ (cl i a' hid ea' l2 el2 b hb hp)
          · have : i = d := by omega
            subst this
            rw [ea] at ea'
            injection ea' with e3
            subst e3
            rw [el] at el2
            injection el2 with e4
            subst e4
            exact cl2 b hb hp
      · have c1' : ¬ d < fd.length := fun z => c1 (decide_eq_true (by rw [show (ints_ fd).length = fd.length from List.length_map ..]; omega))
        refine ⟨_, rfl, q H' F0 fd (fun b o hb => bt b o (ne_of_none hb nF) hb) nF hF ⟨nd, hcm, lt, fun a ha l hl b hb hp => ?_, so⟩⟩
        obtain ⟨i, hi, e⟩ := List.getElem_of_mem ha
        exact cl i a (by omega) (by rw [List.getElem?_eq_getElem hi, e]) l hl b hb hp
end
end K7
end
/-! ## P8 -/
section
open PySem PySem.Spec PyProof.Rows L2
namespace K7
abbrev N_nearby_cells : List Str := ["cells", "couples", "b", "a"]
abbrev s_nearby_cells : Stmt := topS 20
theorem sc_nearby_cells : FnScope ["cells", "couples", "b", "a"] ["cells", "couples"] (defScope s_nearby_cells) := ⟨rfl, rfl, rfl, by decide +kernel, rfl, by decide +kernel, by decide +kernel⟩
abbrev scA : Scope := { kind := ScopeKind.function, names := [(".0", NameKind.local), ("a", NameKind.cell), ("tuple", NameKind.globalImplicit), ("range", NameKind.globalImplicit), ("cells", NameKind.cell), ("couples", NameKind.cell)], isGenerator := false, isCoroutine := false }
def rTup_ (K : PySem.W.Frag) : List V → Hp → VK → Prop := fun xs H Q => ∃ p ys, xs = [V.ref p] ∧ ((SqL K H p ys ∧ ∀ l, H l = none → Q (.ref l) (upd H l (.tup ys))) ∨ SqT K H p ys ∧ Q (.ref p) H)
section
variable {P : Program} {w : World} {K : PySem.W.Frag} {mg : Str → Option Value} {base : Heap}
/-- the neighbours of each cell -/
def nearV (n : Nat) (es : List (Nat × Nat)) : List (List Nat) := (List.range n).map fun a => (List.range n).filter fun b => decide ((a, b) ∈ es) || decide ((b, a) ∈ es)
theorem ints_snoc (l : List Nat) (j : Nat) : ints_ (l ++ [j]) = ints_ l ++ [.int (j : Nat)] := by
  unfold ints_
  rw [List.map_append]
  rfl
theorem range_filter (p : Nat → Bool) (j : Nat) : (List.range (j + 1)).filter p = (List.range j).filter p ++ (if p j = true then [j] else []) := by
  rw [List.range_succ, List.filter_append, List.filter_cons]
  rfl
theorem dp_two {H : Hp} (k j : Nat) : DpAll K H [.int (0 + (k : Nat)), .int (0 + (j : Nat))] [.int (k : Nat), .int (j : Nat)] := by
  rw [Int.zero_add, Int.zero_add]
  exact .cons (.int _) (.cons (.int _) .nil)
def spNear : Sp := fun vs H Q _ => ∃ (n : Nat) (ca : Addr) (ts : List Addr) (es : List (Nat × Nat)), vs = [.int n, .ref ca] ∧ n ≤ 5 ∧ H ca = some (.lst (ts.map V.ref)) ∧ TAt H ts (pairs es) ∧ es.length ≤ 32 ∧
  ∀ H' q us, Same H H' → H q = none → H' q = some (.tup (us.map V.ref)) → TAt H' us (nearV n es) → Q (.ref q) H'
theorem ok_near {f : Addr} {fd : FuncData} (F : Fun K "nearby_cells" "nearby_cells" s_nearby_cells f fd) (m_range : mg "range" = none) (m_tuple : mg "tuple" = none) : FnOk P w K mg base CX0 1 f fd ["cells", "couples"] spNear := by
  refine F.ok sc_nearby_cells (fun vs H Q E h => ?_) (fun cdv A outer s H vs Q E hr h => ?_)
  · obtain ⟨n, ca, ts, es, rfl, _⟩ := h
    rfl
  · obtain ⟨n, ca, ts, es, rfl, hn, hca, tE, h32, q⟩ := h
    refine ⟨_, (pss_one (ps_ret (pe_callTy call_tuple_of (by rfl) m_tuple boot_tuple (pa_cons (pe_lc (own := [("a", 3)]) (g := gName 3) (tt := tYes) rfl sc_nearby_cells.nd (pi_range1 rfl m_range (pa_cons (pv 0) pa_nil)) (blkOk_by (own := [("a", 3)]) (N := N_nearby_cells) (sc := defScope s_nearby_cells) (by decide +kernel)) (fun _ _ _ _ _ => (pg_name (i := 3) sc_nearby_cells.nd rfl (by first | exact Or.inl rfl | exact Or.inr rfl))) (fun _ _ _ _ _ => pts_nil) (fun _ _ _ _ _ => (pe_callTy (show CallR _ (.type "tuple") (rTup_ K) from call_tuple_of) (by rfl) m_tuple boot_tuple (pa_cons (pe_lc (own := [("b", 2)]) (g := gName 2) rfl sc_nearby_cells.nd (pi_range1 rfl m_range (pa_cons (pv 0) pa_nil)) (blkOk_by (own := [("b", 2)]) (N := N_nearby_cells) (sc := scA) (by decide +kernel)) (fun _ _ _ _ _ => (pg_name (i := 2) sc_nearby_cells.nd rfl (by first | exact Or.inl rfl | exact Or.inr rfl))) (fun _ _ _ _ _ => (pts_one (PW.pt (pw_or (pt_cmpR (show OpR _ _ (rInD K) from op_inD (K7L.hu65 hr)) (pe_tup (pa_cons (pv 3) (pa_cons (pv 2) pa_nil))) (pv 1) (by with_unfolding_all rfl)) (pw_or1 (pt_cmpR (show OpR _ _ (rInD K) from op_inD (K7L.hu65 hr)) (pe_tup (pa_cons (pv 2) (pa_cons (pv 3) pa_nil))) (pv 1) (by with_unfolding_all rfl))))))) (fun _ _ _ _ _ => (pv 2))) pa_nil)))) pa_nil)))), ?_⟩
    refine ⟨_, rfl, _, rfl, by omega, by omega, fun D hD => lc_range (lo := 0) (n := n) (fun i H1 => Same H H1 ∧ ∃ us : List Addr, H1 D = some (.lst (us.map V.ref)) ∧ TAt H1 us ((nearV n es).take i) ∧ us.length ≤ i) ⟨same_new (Same.refl H) hD, [], upd_same, .nil, Nat.le_refl _⟩ (fun i H1 hi pv => ?_) (fun H1 pv => ?_)⟩
    · obtain ⟨e1, us, hD1, tU, lu⟩ := pv
      refine ⟨rfl, _, rfl, _, rfl, by omega, by omega, fun D2 hD2 => lc_range (lo := 0) (n := n) (fun j H2 => Same H1 H2 ∧ H2 D2 = some (.lst (ints_ ((List.range j).filter fun b => decide ((i, b) ∈ es) || decide ((b, i) ∈ es))))) ⟨same_new (Same.refl H1) hD2, upd_same⟩ (fun j H2 hj pv => ?_) (fun H2 pv => ?_)⟩
      · obtain ⟨e2, h2⟩ := pv
        have eA := e1.trans e2
        refine ⟨rfl, _, rfl, _, rfl, by show 2 ≤ sizeLine; decide, fun t nt => ?_⟩
        have s3 := same_new (o := .tup [.int (0 + (i : Nat)), .int (0 + (j : Nat))]) (Same.refl H2) nt
        refine ⟨_, rfl, intD [i, j], _, .tup (xs := [.int (0 + (i : Nat)), .int (0 + (j : Nat))]) (.inl (.inl upd_same)) (dp_two i j), .lst (.inl (.inl (s3 _ _ (eA _ _ hca)))) (dp_rows (tE.same (eA.trans s3))), shaped_ints _, shaped_rows _, ?_⟩
        rw [any_rows]
        have e2b := e2
        refine ⟨_, rfl, ite2 (fun q1 => ?_) (fun q1 => ?_)⟩
        · have g : ∀ {b : Addr} {o : HO}, H2 b = some o → upd H2 t (.tup [.int (0 + (i : Nat)), .int (0 + (j : Nat))]) b = some o := fun hb => s3 _ _ hb
          refine ⟨_, rfl, _, g h2, by unfold ints_; rw [List.length_map]; exact small1000 (Nat.le_trans (List.length_filter_le _ _) (by rw [List.length_range]; omega)), fun b o hb => ?_, ?_⟩
          · rw [upd_ne (ne_of_none hb hD2)]
            exact g (e2 _ _ hb)
          · rw [upd_same, range_filter, if_pos (by rw [q1]; rfl), Int.zero_add]
            rw [ints_snoc]
        · refine ⟨_, rfl, _, rfl, by show 2 ≤ sizeLine; decide, fun t2 nt2 => ?_⟩
          have s4 := same_new (o := .tup [.int (0 + (j : Nat)), .int (0 + (i : Nat))]) s3 nt2
          refine ⟨_, rfl, intD [j, i], _, .tup (xs := [.int (0 + (j : Nat)), .int (0 + (i : Nat))]) (.inl (.inl upd_same)) (dp_two j i), .lst (.inl (.inl (s4 _ _ (eA _ _ hca)))) (dp_rows (tE.same (eA.trans s4))), shaped_ints _, shaped_rows _, ?_⟩
          rw [any_rows]
          refine ⟨_, rfl, ite2 (fun q2 => ?_) (fun q2 => ?_)⟩
          · refine ⟨_, rfl, _, s4 _ _ h2, by unfold ints_; rw [List.length_map]; exact small1000 (Nat.le_trans (List.length_filter_le _ _) (by rw [List.length_range]; omega)), fun b o hb => ?_, ?_⟩
            · rw [upd_ne (ne_of_none hb hD2)]
              exact s4 _ _ (e2 _ _ hb)
            · rw [upd_same, range_filter, if_pos (by rw [q2, Bool.or_true]), Int.zero_add]
              rw [ints_snoc]
          · refine ⟨e2.trans s4, ?_⟩
            rw [range_filter, if_neg (by rw [Bool.eq_false_iff.mpr q1, Bool.eq_false_iff.mpr q2]; decide), List.append_nil]
            exact s4 _ _ h2
      · obtain ⟨e2, h2⟩ := pv
        have eA := e1.trans e2
        refine ⟨D2, _, rfl, .inl ⟨.inl (.inl h2), fun l nl => ?_⟩⟩
        have s4 := same_new (o := .tup (ints_ ((List.range n).filter fun b => decide ((i, b) ∈ es) || decide ((b, i) ∈ es)))) (Same.refl H2) nl
        have hD4 := s4 _ _ (e2 _ _ hD1)
        have tk : (nearV n es).take (i + 1) = (nearV n es).take i ++ [(List.range n).filter fun b => decide ((i, b) ∈ es) || decide ((b, i) ∈ es)] := by
          rw [List.take_add_one]
          congr 1
          unfold nearV
          rw [List.getElem?_map, List.getElem?_range hi]
          rfl
        have up : ∀ b xs, upd H2 l (.tup (ints_ ((List.range n).filter fun b => decide ((i, b) ∈ es) || decide ((b, i) ∈ es)))) b = some (.tup xs) → upd (upd H2 l (.tup (ints_ ((List.range n).filter fun b => decide ((i, b) ∈ es) || decide ((b, i) ∈ es))))) D (.lst (us.map V.ref ++ [.ref l])) b = some (.tup xs) := fun b xs hb => by
          rw [upd_ne (fun z => by rw [z, hD4] at hb; cases hb)]
          exact hb
        refine ⟨_, hD4, by rw [List.length_map]; exact small1000 (by omega), fun b o hb => ?_, us ++ [l], by rw [upd_same, List.map_append]; rfl, ?_, by rw [List.length_append, List.length_singleton]; omega⟩
        · rw [upd_ne (ne_of_none hb hD)]
          exact s4 _ _ (eA _ _ hb)
        · rw [tk]
          exact ((tU.same (e2.trans s4)).mono up).append (.cons (up _ _ upd_same) .nil)
    · obtain ⟨e1, us, hD1, tU, lu⟩ := pv
      rw [List.take_of_length_le (by unfold nearV; rw [List.length_map, List.length_range]; exact Nat.le_refl _)] at tU
      refine ⟨D, _, rfl, .inl ⟨.inl (.inl hD1), fun l nl => ?_⟩⟩
      have s3 := same_new (o := .tup (us.map V.ref)) e1 nl
      refine q _ l us s3 (e1.free nl) upd_same (tU.same (same_new (Same.refl H1) nl))
end
end K7
end
/-! ## P9 -/
section
open PySem PySem.Spec PyProof.Rows L2
namespace K7
abbrev N_hang_together : List Str := ["cells", "couples"]
abbrev s_hang_together : Stmt := topS 21
theorem sc_hang_together : FnScope ["cells", "couples"] ["cells", "couples"] (defScope s_hang_together) := ⟨rfl, rfl, rfl, by decide +kernel, rfl, by decide +kernel, by decide +kernel⟩
section
variable {P : Program} {w : World} {K : PySem.W.Frag} {mg : Str → Option Value} {base : Heap}
def spHang : Sp := fun vs H Q _ => ∃ (n : Nat) (ca : Addr) (ts : List Addr) (es : List (Nat × Nat)), vs = [.int n, .ref ca] ∧ 0 < n ∧ n ≤ 5 ∧ H ca = some (.lst (ts.map V.ref)) ∧ TAt H ts (pairs es) ∧ es.length ≤ 32 ∧
  (∀ e ∈ es, e.1 < n ∧ e.2 < n) ∧ KL.Conn n es ∧ ∀ H', Same H H' → Q (.bl true) H'
theorem ok_hang {f fN fS : Addr} {fd fdN fdS : FuncData} (F : Fun K "hang_together" "hang_together" s_hang_together f fd)
    (Gnc : FnOk P w K mg base CX0 1 fN fdN ["cells", "couples"] spNear) (gnc : mg "nearby_cells" = some (.ref fN)) (knc : PySem.W.keepIn K (.ref fN) = true) (bnc : Binds K fdN ["cells", "couples"] [])
    (Gsp : FnOk P w K mg base CX0 1 fS fdS ["nearby", "cell", "passing"] spSpread) (gsp : mg "spread" = some (.ref fS)) (ksp : PySem.W.keepIn K (.ref fS) = true) (bsp : Binds K fdS ["nearby", "cell", "passing"] [])
    (m_len : mg "len" = none) (m_list : mg "list" = none) (m_range : mg "range" = none) : FnOk P w K mg base CX0 2 f fd ["cells", "couples"] spHang := by
  refine F.ok sc_hang_together (fun vs H Q E h => ?_) (fun cdv A outer s H vs Q E hr h => ?_)
  · obtain ⟨n, ca, ts, es, rfl, _⟩ := h
    rfl
  · obtain ⟨n, ca, ts, es, rfl, n0, hn, hca, tE, h32, elt, cn, q⟩ := h
    refine ⟨_, (pss_one (ps_ret (pe_cmpR op_eq (pe_callB call_len_seq (by rfl) m_len boot_len (pa_cons (pe_call Gsp (hr.mono (by decide)) (by rfl) gsp ksp bsp .nil pass0 (pa_cons (pe_call Gnc (hr.mono (by decide)) (by rfl) gnc knc bnc .nil pass0 (pa_cons (pv 0) (pa_cons (pv 1) pa_nil))) (pa_cons pe_int (pa_cons (pe_callTy (K7E.cr_list_rng rfl) (by rfl) m_list boot_list (pa_cons (pe_callTy K7E.cr_range1 (by rfl) m_range boot_range (pa_cons (pv 0) pa_nil)) pa_nil)) pa_nil)))) pa_nil)) (pv 0) (nomark _)))), ?_⟩
    refine ⟨_, rfl, _, rfl, n, ca, ts, es, rfl, hn, hca, tE, h32, fun H1 nb us e1 nf1 hnb tU => ?_⟩
    refine ⟨_, rfl, n, rfl, fun p1 np1 => ?_⟩
    refine ⟨p1, n, rfl, upd_same, by omega, fun p2 np2 => ?_⟩
    have s1 := same_new (o := .rng 0 n) (Same.refl H1) np1
    have s2 := same_new (o := .lst (K7E.upTo n)) s1 np2
    have hps : upd (upd H1 p1 (.rng 0 n)) p2 (.lst (K7E.upTo n)) p2 = some (.lst (ints_ (List.range n))) := upd_same
    generalize upd (upd H1 p1 (.rng 0 n)) p2 (.lst (K7E.upTo n)) = H2 at s2 hps ⊢
    have ln : (nearV n es).length = n := by unfold nearV; rw [List.length_map, List.length_range]
    have hget : ∀ a, a < n → (nearV n es)[a]? = some ((List.range n).filter fun b => decide ((a, b) ∈ es) || decide ((b, a) ∈ es)) := fun a ha => by
      unfold nearV
      rw [List.getElem?_map, List.getElem?_range ha]
      rfl
    refine ⟨nb, us, nearV n es, 0, p2, List.range n, rfl, s2 _ _ hnb, tU.same s2, .inr hps, by rw [ln]; exact hn, by rw [ln]; exact n0, fun l hl x hx => ?_, fun H3 qa fd e3 nq hq fo => ?_⟩
    · rw [ln]
      unfold nearV at hl
      obtain ⟨a, _, rfl⟩ := List.mem_map.mp hl
      exact List.mem_range.mp (List.mem_filter.mp hx).1
    · have hlt : ∀ x ∈ fd, x < n := fun x hx => by have z := fo.lt x hx; rw [ln] at z; exact z
      have all := KL.conn_closed cn fo.me fun a b hab ha => by
        have hb : b < n := by
          rcases hab with z | z
          · exact (elt _ z).2
          · exact (elt _ z).1
        refine fo.cl a ha _ (hget a (hlt a ha)) b (List.mem_filter.mpr ⟨List.mem_range.mpr hb, ?_⟩) (List.mem_range.mpr hb)
        rcases hab with z | z
        · rw [decide_eq_true z]; rfl
        · rw [decide_eq_true z, Bool.or_true]
      have len := KL.all_len fo.nd hlt all
      refine ⟨qa, _, rfl, .inl (.inl (.inl hq)), _, rfl, rfl, ?_⟩
      have lq : (ints_ fd).length = n := by unfold ints_; rw [List.length_map]; exact len
      rw [lq, decide_eq_true rfl]
      exact q H3 (e1.trans (s2.trans e3))
end
end K7
end
/-! ## ES -/
section
/-! A set comprehension of tuples of ints, and how many there are in such a set. -/
namespace K7S
open PySem PySem.Spec PyProof.Rows L2
abbrev eS (w : World) : Obj := { cls := .type "set", dict := none, data := .set #[] 0 (.fresh 0 0 (!w.params.followText "set-order")) }
abbrev eD : Obj := { cls := .type "dict", data := .dict #[] }
section
variable {X : Cx}
/-- one more tuple -/
theorem addT_ok {pins : List (Addr × Obj)} {τ : L2.St} {H : Hp} {s : Shared} {E : Value → Shared → Prop} {D t : Addr} {L : List (Addr × List Int)} {k : List Int} {Q : Value → Shared → Prop} (I : Inv X pins τ H s) (hD : H D = some (SetTO X.prog X.w D L)) (ht : ∀ p ∈ L, SqT X.K H p.1 (p.2.map V.int)) (hy : SqT X.K H t (k.map V.int)) (hf : L.length + 1 < 64) (hu : X.A.units + 1 < cLine)
    (h : ∀ s' L', (k ∈ L.map (·.2) → L' = L) → (k ∉ L.map (·.2) → L'.Perm ((t, k) :: L)) → Inv X pins τ (upd H D (SetTO X.prog X.w D L')) s' → Q .none s') : wpAny (model X.prog X.w) X.A (call (.builtin "set.add") [.ref D, .ref t]) Q E s := by
  obtain ⟨es, ep, tb, R⟩ := SetT0.full (I.hok D _ hD).1 fun p hp => I.isT (ht p hp)
  obtain ⟨o, ho, hex, hd⟩ := id R.ob
  have hT : s.TypeIs (.ref D) "set" := ⟨o, ho, hex.1⟩
  refine wpAny_call_entry F.slot_set_add hT F.entry_set_add ?_ (F.args_set_add_2 _ _)
  unfold Builtin.«set.add» Builtin.Frozenset.oneOther
  simp only [List.isEmpty_nil, bind_assoc]
  unfold Builtin.Frozenset.addrOf setAdd
  refine wpAny_bind (wpAny_pure ?_)
  try dsimp only
  refine wpAny_bind (wpAny_pure ?_)
  try dsimp only
  refine wpAny_bind (wpAny_holding (wpAny_bind (wpAny_pyHash_tuple (show X.A.units + 1 < cLine from hu) (I.isT hy) ?_)))
  refine add_at (s := { s with toks := s.toks + (k.length + 1) }) R (I.isT hy) (show X.A.units + 1 < cLine from hu) hf fun b h' L' es' ep' tb' sb R' c1 c2 => ?_
  show wpAny _ _ (ret Value.none) _ _ _
  obtain ⟨o', ho', _⟩ := id R'.ob
  exact wpAny_pure ⟨_, rfl, h _ L' c1 c2 (I.write (e := D) (t' := s.toks + (k.length + 1)) (by rw [hD]; trivial) (.inl rfl) (fun b u hb hu => (sb.2 b hb).trans hu) ⟨o', ho'⟩ (setTO_new R'.t0))⟩
/-- how many -/
theorem call_lenT : CallR X (.builtin "len") (fun xs H Q => ∃ a L, xs = [V.ref a] ∧ H a = some (SetTO X.prog X.w a L) ∧ (∀ p ∈ L, SqT X.K H p.1 (p.2.map V.int)) ∧ Q (.int (L.length : Nat)) H) := by
  intro pins s τ H xs us Q I r h
  obtain ⟨a, L, rfl, ha, ht, q⟩ := h
  rw [Vals.ref1 r]
  obtain ⟨es, ep, tb, R⟩ := SetT0.full (I.hok a _ ha).1 fun p hp => I.isT (ht p hp)
  obtain ⟨o, ho, hex, hd⟩ := id R.ob
  have n1 := R.size
  have n2 := R.few
  exact call_len_set ho hex hd R.fits (by omega) ⟨.int (L.length : Nat), H, I.tok _, ⟨_, by rw [n1]⟩, q⟩
/-- {elt for target in iter}, elt a tuple of ints: D the new set -/
def tSt (P : Program) (w : World) (K : PySem.W.Frag) (wi : TI) (g : TG) (te : TE) (vs : List Nat) : TE := fun τ H Q => wi τ H fun J H1 => ∀ D, H1 D = none → ∃ W : Nat → Nat → Hp → Prop, (∃ m, W 0 m (upd H1 D (SetTO P w D []))) ∧ ∀ i m H, W i m H →
  (J.stop i H ∧ Q (.ref D) H) ∨ (J.go i H ∧ ∃ Nx : Hp → Prop, (∀ H', Nx H' → ∃ m', m' < m ∧ W (i + 1) m' H') ∧ ∀ x H', J.yld i H x H' → g x (wipe τ vs) H' fun τ2 H3 => wipe τ2 vs = wipe τ vs ∧
    te τ2 H3 fun y H4 => ∃ (t : Addr) (k : List Int) (L : List (Addr × List Int)), y = .ref t ∧ SqT K H4 t (k.map V.int) ∧ H4 D = some (SetTO P w D L) ∧ (∀ p ∈ L, SqT K H4 p.1 (p.2.map V.int)) ∧ L.length + 1 < 64 ∧
      ∀ L', (k ∈ L.map (·.2) → L' = L) → (k ∉ L.map (·.2) → L'.Perm ((t, k) :: L)) → Nx (upd H4 D (SetTO P w D L')))
theorem fresh0 (P : Program) (w : World) (h : Heap) : SetT0 P w (h.push (eS w)) h.objs.size [] := (setTR_fresh (P := P) (w := w) (h := h.push (eS w)) (a := h.objs.size) (Heap.get?_push_size _ rfl)).t0
/-- as a value -/
theorem pe_st {elt tg iter : Expr} {scope : Scope} {own : List (PySem.Str × Nat)} {pos : Pos} {wi : TI} {g : TG} {te : TE} (hc : X.calm = true) (hu : X.A.units + 1 < cLine) (hN : X.N.Nodup) (hi : PI X tg iter wi) (ok : BlkOk X.N X.env.scope scope own)
    (hg : ∀ (s : Shared) (H : Hp) (C : Addr) (cl : List (PySem.Str × Addr)) (fp : List Addr), PG (X.blk s H scope (compEnvC scope cl C X.env) fp) tg g) (he : ∀ (s : Shared) (H : Hp) (C : Addr) (cl : List (PySem.Str × Addr)) (fp : List Addr), PE (X.blk s H scope (compEnvC scope cl C X.env) fp) elt te)
    (hs : ∀ x, foldedSetIterable iter X.env x = pure x := by intro _; rfl) : PE X (.SetComp elt [⟨tg, iter, [], 0⟩] scope pos) (tSt X.prog X.w X.K wi g te (own.map (·.2))) := by
  refine ⟨fun pins s τ H Q I h => ?_⟩
  rw [PpSet.eval_SetComp]
  have hfree : ∀ z ∈ scope.names, z.2 = .free → ∃ c, X.env.cells.lookup z.1 = some c := fun z hz e => (ok.free z hz e).elim (fun k => I.ok.has _ (.inl k)) fun k => I.ok.has _ (.inr k)
  refine wpAny_comprehension_free (use := none) rfl hs (closure_ok hfree) ok.kind (fun z hz e => by rw [ok.uniq z hz, e]) (thn (hi.run pins s τ H _ I h) fun xv s1 hx => thn hx fun itv s2 z2 => ?_)
  obtain ⟨it, fp, tn, J, H2, rfl, I2, T, st2, f2, q⟩ := z2
  refine PpSet.newSet_ok (newEnv_comp ?_)
  show codeAny _ _ (.compStart (.SetComp elt [⟨tg, iter, [], 0⟩] scope pos) 0 (.ref it) (.ref s2.heap.objs.size) (compEnvC scope (cellsFrom ((s2.heap.push (eS X.w)).objs.size + 1) scope.names (cloFrom X.env.cells scope.names [])) (s2.heap.push (eS X.w)).objs.size X.env)) _ { s2 with heap := pushCells ((s2.heap.push (eS X.w)).push eD) scope.names }
  have nD : H2 s2.heap.objs.size = none := I2.hok.fresh (Nat.le_refl _)
  have IS : Inv X pins τ (upd H2 s2.heap.objs.size (SetTO X.prog X.w s2.heap.objs.size [])) { s2 with heap := s2.heap.push (eS X.w) } := I2.laid (t' := s2.toks) (fun b o e => Heap.get?_push_of_some _ e) (Nat.le_refl _) (setTO_new (fresh0 _ _ _))
  have stS : tn 0 (s2.heap.push (eS X.w)) := T.keep _ _ _ st2 fun b _ o e => Heap.get?_push_of_some _ e
  have fS : ∀ b ∈ fp, FpOk X pins (upd H2 s2.heap.objs.size (SetTO X.prog X.w s2.heap.objs.size [])) b ∧ b < (s2.heap.push (eS X.w)).objs.size := fun b hb => by
    obtain ⟨o, e, _⟩ := T.obj _ _ st2 b hb
    have l1 := Heap.lt_size e
    exact ⟨⟨by rw [upd_ne (Nat.ne_of_lt l1)]; exact (f2 b hb).1, (f2 b hb).2⟩, by rw [Heap.size_push]; exact Nat.lt_succ_of_lt l1⟩
  obtain ⟨W, ⟨m0, w0⟩, turn⟩ := q _ nD
  have IB := block_start IS ok hN fS
  have stB : tn 0 (pushCells ((s2.heap.push (eS X.w)).push eD) scope.names) := T.keep _ _ _ stS fun b _ o e => pushCells_keeps _ _ _ _ (Heap.get?_push_of_some _ e)
  generalize s2.heap.objs.size = D at *
  generalize upd H2 D (SetTO X.prog X.w D []) = HS at IS IB w0 fS
  generalize eS3 : ({ s2 with heap := s2.heap.push (eS X.w) } : Shared) = s3 at IS IB
  have e3 : s2.heap.push (eS X.w) = s3.heap := by rw [← eS3]
  rw [e3] at fS stS stB ⊢
  have e4 : ({ s2 with heap := pushCells (s3.heap.push eD) scope.names } : Shared) = { s3 with heap := pushCells (s3.heap.push eD) scope.names } := by rw [← eS3]
  rw [e4]
  have pg := hg s3 HS s3.heap.objs.size (cellsFrom (s3.heap.objs.size + 1) scope.names (cloFrom X.env.cells scope.names [])) fp
  have pe := he s3 HS s3.heap.objs.size (cellsFrom (s3.heap.objs.size + 1) scope.names (cloFrom X.env.cells scope.names [])) fp
  generalize hce : compEnvC scope (cellsFrom (s3.heap.objs.size + 1) scope.names (cloFrom X.env.cells scope.names [])) s3.heap.objs.size X.env = ce at IB pg pe ⊢
  have cL : ce.locals = s3.heap.objs.size := by rw [← hce]; rfl
  generalize hs4 : ({ s3 with heap := pushCells (s3.heap.push eD) scope.names } : Shared) = s4 at IB ⊢
  have st4 : tn 0 s4.heap := by rw [← hs4]; exact stB
  have nf : ∀ b ∈ fp, HS b = none := fun b hb => (fS b hb).1.1
  have stat : ∀ {τ' : L2.St} {H' : Hp} {s' : Shared}, Inv (X.blk s3 HS scope ce fp) [] τ' H' s' → (∀ b ∈ fp, H' b = none) → ∀ b ∈ fp, FpOk (X.blk s3 HS scope ce fp) [] H' b := fun {τ' H' s'} I' hn b hb =>
    ⟨hn b hb, (I'.ok.exf b hb).1, I'.ok.exfs b hb, .inl hb, fun x c e => (I'.ok.exf b hb).2 x c e, fun p hp => absurd (show p ∈ ([] : List (Addr × Obj)) ++ [] from hp) (by simp)⟩
  suffices loop : codeAny (model X.prog X.w) X.A (.compLoop (.SetComp elt [⟨tg, iter, [], 0⟩] scope pos) 0 (.ref it) (.ref D) ce) (compPost (model X.prog X.w) X.A X.xe none (EP X pins τ Q) (.ref D) s3.heap.objs.size) s4 from PpSet.codeAny_compStart_set loop (T.self X.A 0 _ _ _ st4 loop)
  refine PpSet.compLoopS_any (fun n s' => ∃ i H', Inv (X.blk s3 HS scope ce fp) [] (wipe τ (own.map (·.2))) H' s' ∧ tn i s'.heap ∧ (∀ b ∈ fp, H' b = none) ∧ W i n H') (fun n s5 z5 => ?_) m0 ⟨0, HS, IB, st4, nf, w0⟩
  obtain ⟨i, H5, I5, st5, n5, w5⟩ := z5
  rcases turn i n H5 w5 with ⟨stop, qq⟩ | ⟨go, Nx, hNx, step⟩
  · refine thnF (T.done (X.blk s3 HS scope ce fp) rfl rfl rfl hc i [] s5 _ H5 (fun _ _ => False) I5 (stat I5 n5) st5 stop) fun r s6 ⟨hr, I6⟩ => ?_
    subst hr
    have I7 : Inv X pins τ H5 s6 := IS.call' (ch := fp) I6.os I6.base I6.hok I6.bare fun b hb => ⟨(fS b hb).1.2.2.2.1, (fS b hb).1.2.1, (fS b hb).1.2.2.2.2.1, (fS b hb).1.2.2.2.2.2⟩
    have nC : H5 s3.heap.objs.size = none := by rw [← cL]; exact I6.free
    obtain ⟨m, hn, _⟩ := I6.loc
    have hn : s6.heap.Ns s3.heap.objs.size m := by rw [← cL]; exact hn
    obtain ⟨f0, f1, f2', f3, f4, f5⟩ := IS.fpOk (Nat.le_refl _) nC
    exact ⟨m, hn, fun h'' sb => ⟨.ref D, H5, I7.turned (t' := s6.toks) (fun b o hb e => (sb.2 b hb).trans e) f0 f1 f3 f4 f5, rfl, qq⟩⟩
  · refine thnF (T.item (X.blk s3 HS scope ce fp) rfl rfl rfl hc i [] s5 _ H5 (fun _ _ => False) I5 (stat I5 n5) st5 go) fun r s6 ⟨u, hr, h6⟩ => ?_
    subst hr
    refine thnF h6 fun _ s7 ⟨x, H7, I7, r7, y7, st7, n7⟩ => ?_
    refine thnF (pg.run _ s7 _ H7 x u _ (I7.pinned (stat I7 n7) (T.obj _ _ st7)) r7 (step x H7 y7)) fun _ s8 ⟨τ8, H8, I8, hw8, q8⟩ => ?_
    refine wpAny_tests_nil ?_
    rw [if_pos rfl]
    refine thnF (pe.run _ s8 τ8 H8 _ I8 q8) fun z s10 ⟨yv, H10, I10, r10, t, k, L, ey, hy, hD10, hL, hlt, nx⟩ => ?_
    subst ey
    cases (show z = Value.ref t from r10)
    refine addT_ok (X := X.blk s3 HS scope ce fp) I10 hD10 hL hy hlt hu fun s11 L' c1 c2 I11 => ?_
    obtain ⟨m', hm, w'⟩ := hNx _ (nx L' c1 c2)
    have pin' : ∀ b ∈ fp, ∀ o, s7.heap.get? b = some o → s11.heap.get? b = some o ∧ (upd H10 D (SetTO X.prog X.w D L')) b = none := fun b hb o e =>
      let z := I11.pin (b, o) (List.mem_append_right _ (List.mem_append_right _ (mem_pinsAt hb e)))
      ⟨z.1, z.2.1⟩
    refine ⟨m', hm, i + 1, _, (I11.unpinned (pins := [])).weak (by rw [← hw8, wipe_length]) (fun j v e => (wipe_some (by rw [hw8]; exact e)).1), T.keep _ _ _ st7 fun b hb o e => (pin' b hb o e).1, fun b hb => ?_, w'⟩
    obtain ⟨o, e, _⟩ := T.obj _ _ st7 b hb
    exact (pin' b hb o e).2
/-- over a list that the block leaves as it is -/
theorem st_list {P : Program} {w : World} {K : PySem.W.Frag} {a : Addr} {xs : List V} {g : TG} {te : TE} {vs : List Nat} {τ : L2.St} {H1 : Hp} {D : Addr} {Qd : Hp → Prop} (Pv : Nat → Hp → Prop) (h0 : Pv 0 (upd H1 D (SetTO P w D []))) (hl : ∀ i H, i ≤ xs.length → Pv i H → SqL K H a xs)
    (hs : ∀ i x H, xs[i]? = some x → Pv i H → g x (wipe τ vs) H fun τ2 H3 => wipe τ2 vs = wipe τ vs ∧
      te τ2 H3 fun y H4 => ∃ (t : Addr) (k : List Int) (L : List (Addr × List Int)), y = .ref t ∧ SqT K H4 t (k.map V.int) ∧ H4 D = some (SetTO P w D L) ∧ (∀ p ∈ L, SqT K H4 p.1 (p.2.map V.int)) ∧ L.length + 1 < 64 ∧
      ∀ L', (k ∈ L.map (·.2) → L' = L) → (k ∉ L.map (·.2) → L'.Perm ((t, k) :: L)) → Pv (i + 1) (upd H4 D (SetTO P w D L'))) (hd : ∀ H, Pv xs.length H → Qd H) :
    ∃ W : Nat → Nat → Hp → Prop, (∃ m, W 0 m (upd H1 D (SetTO P w D []))) ∧ ∀ i m H, W i m H →
      ((Itl K a).stop i H ∧ Qd H) ∨ ((Itl K a).go i H ∧ ∃ Nx : Hp → Prop, (∀ H', Nx H' → ∃ m', m' < m ∧ W (i + 1) m' H') ∧ ∀ x H', (Itl K a).yld i H x H' → g x (wipe τ vs) H' fun τ2 H3 => wipe τ2 vs = wipe τ vs ∧
        te τ2 H3 fun y H4 => ∃ (t : Addr) (k : List Int) (L : List (Addr × List Int)), y = .ref t ∧ SqT K H4 t (k.map V.int) ∧ H4 D = some (SetTO P w D L) ∧ (∀ p ∈ L, SqT K H4 p.1 (p.2.map V.int)) ∧ L.length + 1 < 64 ∧
      ∀ L', (k ∈ L.map (·.2) → L' = L) → (k ∉ L.map (·.2) → L'.Perm ((t, k) :: L)) → Nx (upd H4 D (SetTO P w D L'))) := by
  refine ⟨fun i m H => m + i = xs.length ∧ Pv i H, ⟨xs.length, rfl, h0⟩, fun i m H z => ?_⟩
  obtain ⟨hm, p⟩ := z
  have q := hl i H (by omega) p
  rcases Nat.lt_or_ge i xs.length with lt | ge
  · refine .inr ⟨⟨xs, xs[i], q, List.getElem?_eq_getElem lt⟩, Pv (i + 1), fun H' p' => ⟨m - 1, by omega, by omega, p'⟩, fun x H' y => ?_⟩
    obtain ⟨rfl, y⟩ := y
    exact hs i x _ (y xs q) p
  · obtain rfl : i = xs.length := by omega
    exact .inl ⟨⟨xs, q, Nat.le_refl _⟩, hd H p⟩
/-- over a tuple that the block leaves as it is -/
theorem st_tup {P : Program} {w : World} {K : PySem.W.Frag} {a : Addr} {xs : List V} {g : TG} {te : TE} {vs : List Nat} {τ : L2.St} {H1 : Hp} {D : Addr} {Qd : Hp → Prop} (Pv : Nat → Hp → Prop) (h0 : Pv 0 (upd H1 D (SetTO P w D []))) (hl : ∀ i H, i ≤ xs.length → Pv i H → SqT K H a xs)
    (hs : ∀ i x H, xs[i]? = some x → Pv i H → g x (wipe τ vs) H fun τ2 H3 => wipe τ2 vs = wipe τ vs ∧
      te τ2 H3 fun y H4 => ∃ (t : Addr) (k : List Int) (L : List (Addr × List Int)), y = .ref t ∧ SqT K H4 t (k.map V.int) ∧ H4 D = some (SetTO P w D L) ∧ (∀ p ∈ L, SqT K H4 p.1 (p.2.map V.int)) ∧ L.length + 1 < 64 ∧
      ∀ L', (k ∈ L.map (·.2) → L' = L) → (k ∉ L.map (·.2) → L'.Perm ((t, k) :: L)) → Pv (i + 1) (upd H4 D (SetTO P w D L'))) (hd : ∀ H, Pv xs.length H → Qd H) :
    ∃ W : Nat → Nat → Hp → Prop, (∃ m, W 0 m (upd H1 D (SetTO P w D []))) ∧ ∀ i m H, W i m H →
      ((Itt K a).stop i H ∧ Qd H) ∨ ((Itt K a).go i H ∧ ∃ Nx : Hp → Prop, (∀ H', Nx H' → ∃ m', m' < m ∧ W (i + 1) m' H') ∧ ∀ x H', (Itt K a).yld i H x H' → g x (wipe τ vs) H' fun τ2 H3 => wipe τ2 vs = wipe τ vs ∧
        te τ2 H3 fun y H4 => ∃ (t : Addr) (k : List Int) (L : List (Addr × List Int)), y = .ref t ∧ SqT K H4 t (k.map V.int) ∧ H4 D = some (SetTO P w D L) ∧ (∀ p ∈ L, SqT K H4 p.1 (p.2.map V.int)) ∧ L.length + 1 < 64 ∧
      ∀ L', (k ∈ L.map (·.2) → L' = L) → (k ∉ L.map (·.2) → L'.Perm ((t, k) :: L)) → Nx (upd H4 D (SetTO P w D L'))) := by
  refine ⟨fun i m H => m + i = xs.length ∧ Pv i H, ⟨xs.length, rfl, h0⟩, fun i m H z => ?_⟩
  obtain ⟨hm, p⟩ := z
  have q := hl i H (by omega) p
  rcases Nat.lt_or_ge i xs.length with lt | ge
  · refine .inr ⟨⟨xs, xs[i], q, List.getElem?_eq_getElem lt⟩, Pv (i + 1), fun H' p' => ⟨m - 1, by omega, by omega, p'⟩, fun x H' y => ?_⟩
    obtain ⟨rfl, y⟩ := y
    exact hs i x _ (y xs q) p
  · obtain rfl : i = xs.length := by omega
    exact .inl ⟨⟨xs, q, Nat.le_refl _⟩, hd H p⟩
theorem hu1 {k : Nat} {A : Around} (hr : Room k A) : A.units + 1 < cLine := by have := hr.un; omega
end
end K7S
end
/-! ## ET -/
section
/-! sorted of a tuple, or of a list, of ints. -/
namespace K7S
open PySem PySem.Spec PyProof.Rows L2
section
variable {X : Cx}
def rSortA (K : PySem.W.Frag) : List V → Hp → VK → Prop := fun vs H Q => ∃ (a : Addr) (ns : List Int), vs = [V.ref a] ∧ (SqL K H a (ns.map V.int) ∨ SqT K H a (ns.map V.int)) ∧ ns.length < 64 ∧ ∀ (ms : List Int) (p : Addr), ms.Perm ns → ms.Pairwise (· ≤ ·) → H p = none → Q (.ref p) (upd H p (.lst (ms.map V.int)))
theorem cr_sortA : CallR X (.builtin "sorted") (rSortA X.K) := by
  intro pins s τ H vs us Q I r h
  obtain ⟨a, ns, rfl, hs, h64, q⟩ := h
  rw [Vals.ref1 r]
  have got : ∃ (its : List Value) (o : Obj) (n : Nat) (T : String), Vals (ns.map V.int) its ∧ (T = "list" ∨ T = "tuple") ∧ s.heap.get? a = some o ∧ o.cls = .type T ∧ o.data = .seq its.toArray n := by
    rcases hs with z | z
    · obtain ⟨its, rv, pl, _⟩ := I.list z
      obtain ⟨o, ho, hc, n, hd⟩ := pl.isList
      exact ⟨its, o, n, "list", rv, .inl rfl, ho, hc, hd⟩
    · obtain ⟨its, rv, ⟨o, ho, hc, n, hd⟩, _⟩ := I.tuple z
      exact ⟨its, o, n, "tuple", rv, .inr rfl, ho, hc, hd⟩
  obtain ⟨its, o, n, T, rv, hT, ho, hc, hd⟩ := got
  have hi := rv.ints
  have h64' : its.length < 64 := by rw [hi.length]; exact h64
  refine Calls.call_function_entry kind_sorted plain_sorted entry_sorted (args_sorted1 _) ?_
  unfold Builtin.«sorted»
  refine wpAny_bind (m := checkCount "sorted" 1 1 _) (wpAny_pure (wpAny_bind (wpAny_collect_seq a hT ho hc hd (fun h' kp => ?_) (by rw [List.size_toArray, sizeLine_eq]; omega))))
  have hoL : (h'.push (seqObj "list" its.toArray 0)).get? h'.objs.size = some (seqObj "list" its.toArray 0) := Heap.get?_push_size _ rfl
  refine wpAny_bind (wpAny_newList ?_ (by rw [sizeLine_eq]; show its.length ≤ _; omega))
  show wpAny _ _ _ _ _ { s with heap := h'.push (seqObj "list" its.toArray 0) }
  refine wpAny_bind (wpAny_holding (wpAny_call_entry slot_list_sort ⟨_, hoL, rfl⟩ entry_list_sort (list_sort_tree hoL hi h64' fun out ms a1 a2 a3 => ⟨_, rfl, wpAny_pure ⟨_, rfl, ?_⟩⟩) (args_list_sort _)))
  obtain ⟨e, he⟩ := sortedHeap_at (vs := its) (out := out) hoL
  have hlen : (ms.map V.int).length ≤ sizeLine := by rw [List.length_map, a2.length_eq]; exact small64 h64
  have I1 : Inv X pins τ H { s with heap := h' } := I.kept (t' := s.toks) kp
  refine ⟨.ref h'.objs.size, upd H h'.objs.size (.lst (ms.map V.int)), I1.laid (t' := s.toks) (fun b u hb => ?_) (Nat.le_refl _) ⟨hlen, out.toList, e, vals_of_ints a1, he⟩, rfl, q ms _ a2 a3 (I1.hok.fresh (Nat.le_refl _))⟩
  have lt := Heap.lt_size hb
  exact (sortedHeap_old (Nat.ne_of_lt lt) (by rw [size_push']; exact Nat.lt_succ_of_lt lt)).trans (Heap.get?_push_of_some _ hb)
end
end K7S
end
/-! ## P10 -/
section
open PySem PySem.Spec PyProof.Rows L2
namespace K7
abbrev N__are_neighbours : List Str := ["cells", "thing", "couple"]
abbrev s__are_neighbours : Stmt := topS 22
theorem sc__are_neighbours : FnScope ["cells", "thing", "couple"] ["cells", "thing"] (defScope s__are_neighbours) := ⟨rfl, rfl, rfl, by decide +kernel, rfl, by decide +kernel, by decide +kernel⟩
section
variable {P : Program} {w : World} {K : PySem.W.Frag} {mg : Str → Option Value} {base : Heap}
/-! ### couples that are handed in: rows of two cells, either way round, tuples or lists -/
theorem SqOf.ty {H : Hp} {a : Addr} {xs : List V} (h : SqOf H a xs) : ∃ t : String, (∀ H1, Same H H1 → TyX K H1 (.ref a) (.type t)) ∧ PySem.W.kitAny K (.type t) [.type "list", .type "tuple"] = some true := by
  rcases h with z | z
  · exact ⟨"tuple", fun H1 e1 => .base (.tup (e1 _ _ z)), any_tup⟩
  · exact ⟨"list", fun H1 e1 => .base (.lst (e1 _ _ z)), any_lst⟩
def CoAt (H : Hp) (t : Addr) (c : Nat × Nat) : Prop := SqOf H t (ints_ [c.1, c.2])
def CoAll (H : Hp) (ts : List Addr) (cs : List (Nat × Nat)) : Prop := ts.length = cs.length ∧ ∀ (i : Nat) t c, ts[i]? = some t → cs[i]? = some c → CoAt H t c
theorem CoAll.same {H H' : Hp} {ts : List Addr} {cs : List (Nat × Nat)} (h : CoAll H ts cs) (e : Same H H') : CoAll H' ts cs := ⟨h.1, fun i t c h1 h2 => (h.2 i t c h1 h2).same e⟩
structure Cos (n : Nat) (cs : List (Nat × Nat)) : Prop where
  lt : ∀ c ∈ cs, c.1 < n ∧ c.2 < n ∧ c.1 ≠ c.2
  nd : (cs.map KL.srt).Nodup
  len : cs.length ≤ 32
theorem two_co {n : Nat} {c : Nat × Nat} (h : c.1 < n ∧ c.2 < n ∧ c.1 ≠ c.2) : twoV (n : Nat) (ints_ [c.1, c.2]) = true := by
  obtain ⟨h1, h2, h3⟩ := h
  unfold twoV cellsV
  have e1 : wholeV (.int (c.1 : Nat)) 0 (((n : Nat) : Int) - 1) = true := by rw [wholeV_int, decide_eq_true (by omega), decide_eq_true (by omega)]; rfl
  have e2 : wholeV (.int (c.2 : Nat)) 0 (((n : Nat) : Int) - 1) = true := by rw [wholeV_int, decide_eq_true (by omega), decide_eq_true (by omega)]; rfl
  have e3 : (ints_ [c.1, c.2]).all (fun x => wholeV x 0 (((n : Nat) : Int) - 1)) = true := by
    show (wholeV (.int (c.1 : Nat)) 0 (((n : Nat) : Int) - 1) && (wholeV (.int (c.2 : Nat)) 0 (((n : Nat) : Int) - 1) && true)) = true
    rw [e1, e2]; rfl
  have e4 : ((ints_ [c.1, c.2]).map intOf).Nodup := by
    show [((c.1 : Nat) : Int), ((c.2 : Nat) : Int)].Nodup
    refine List.nodup_cons.mpr ⟨fun m => ?_, List.nodup_cons.mpr ⟨List.not_mem_nil, List.nodup_nil⟩⟩
    rw [List.mem_singleton] at m
    omega
  rw [e3, decide_eq_true e4, decide_eq_true (show (2 : Int) ≤ (((ints_ [c.1, c.2]).length : Nat) : Int) from (by decide : (2 : Int) ≤ ((2 : Nat) : Int))), decide_eq_true (show (ints_ [c.1, c.2]).length = 2 from rfl)]
  rfl
def keyOf (c : Nat × Nat) : List Int := [((KL.srt c).1 : Int), ((KL.srt c).2 : Int)]
theorem keyOf_inj {c d : Nat × Nat} (h : keyOf c = keyOf d) : KL.srt c = KL.srt d := by
  unfold keyOf at h
  injection h with h1 h2
  injection h2 with h2
  exact Prod.ext (by omega) (by omega)
theorem keys_nd {cs : List (Nat × Nat)} (h : (cs.map KL.srt).Nodup) : (cs.map keyOf).Nodup := by
  induction cs with
  | nil => exact List.nodup_nil
  | cons c cs ih =>
    rw [List.map_cons, List.nodup_cons] at h
    rw [List.map_cons, List.nodup_cons]
    refine ⟨fun m => ?_, ih h.2⟩
    obtain ⟨d, hd, e⟩ := List.mem_map.mp m
    exact h.1 (List.mem_map.mpr ⟨d, hd, keyOf_inj e⟩)
theorem key_ints (c : Nat × Nat) : (keyOf c).map V.int = ints_ [(KL.srt c).1, (KL.srt c).2] := rfl
def spNbrs : Sp := fun vs H Q _ => ∃ (n : Nat) (a : Addr) (ts : List Addr) (cs : List (Nat × Nat)), vs = [.int (n : Nat), .ref a] ∧ SqOf H a (ts.map V.ref) ∧ CoAll H ts cs ∧ Cos n cs ∧ ∀ H', Same H H' → Q (.bl true) H'
theorem ok_nbrs {f fS fT : Addr} {fd fdS fdT : FuncData} (F : Fun K "_are_neighbours" "_are_neighbours" s__are_neighbours f fd)
    (Gsq : FnOk P w K mg base CX0 1 fS fdS ["thing"] (spSeq K)) (gsq : mg "is_sequence" = some (.ref fS)) (ksq : PySem.W.keepIn K (.ref fS) = true) (bsq : Binds K fdS ["thing"] [])
    (Ga2 : FnOk P w K mg base CX0 3 fT fdT ["many", "thing"] (spTwo K)) (ga2 : mg "are_two_cells" = some (.ref fT)) (ka2 : PySem.W.keepIn K (.ref fT) = true) (ba2 : Binds K fdT ["many", "thing"] [])
    (m_len : mg "len" = none) (m_all : mg "all" = none) (m_tuple : mg "tuple" = none) (m_sorted : mg "sorted" = none) : FnOk P w K mg base CX0 4 f fd ["cells", "thing"] spNbrs := by
  refine F.ok sc__are_neighbours (fun vs H Q E h => ?_) (fun cdv A outer s H vs Q E hr h => ?_)
  · obtain ⟨n, a, ts, cs, rfl, _⟩ := h
    rfl
  · obtain ⟨n, a, ts, cs, rfl, ha, hT, hc, q⟩ := h
    refine ⟨_, (pss_cons (ps_if (pw_or (pt_not (pt_val (pe_call Gsq (hr.mono (by decide)) (by rfl) gsq ksq bsq .nil pass0 (pa_cons (pv 1) pa_nil)))) (pw_or1 (pt_not (pt_val (pe_callB (cr_all rfl) (by rfl) m_all boot_all (pa_cons (pe_lc (own := [("couple", 2)]) (g := gName 2) (tt := tYes) rfl sc__are_neighbours.nd (K7E.pi_either (pi_tup (pv 1)) (pi_list (pv 1))) (blkOk_by (own := [("couple", 2)]) (N := N__are_neighbours) (sc := defScope s__are_neighbours) (by decide +kernel)) (fun _ _ _ _ _ => (pg_name (i := 2) sc__are_neighbours.nd rfl (by first | exact Or.inl rfl | exact Or.inr rfl))) (fun _ _ _ _ _ => pts_nil) (fun _ _ _ _ _ => (pe_call Ga2 (hr.mono (by decide)) (by rfl) ga2 ka2 ba2 .nil pass0 (pa_cons (pv 0) (pa_cons (pv 2) pa_nil))))) pa_nil)))))).pt
  (pss_one (ps_ret pe_bl))
  pss_nil)
 (pss_one (ps_ret (pe_cmpR op_eq (pe_callB K7S.call_lenT (by rfl) m_len boot_len (pa_cons (K7S.pe_st (own := [("couple", 2)]) (g := gName 2) rfl (K7S.hu1 hr) sc__are_neighbours.nd (K7E.pi_either (pi_tup (pv 1)) (pi_list (pv 1))) (blkOk_by (own := [("couple", 2)]) (N := N__are_neighbours) (sc := defScope s__are_neighbours) (by decide +kernel)) (fun _ _ _ _ _ => (pg_name (i := 2) sc__are_neighbours.nd rfl (by first | exact Or.inl rfl | exact Or.inr rfl))) (fun _ _ _ _ _ => (pe_callTy (show CallR _ (.type "tuple") (rTup_ K) from call_tuple_of) (by rfl) m_tuple boot_tuple (pa_cons (pe_callB (show CallR _ (.builtin "sorted") (K7S.rSortA K) from K7S.cr_sortA) (by rfl) m_sorted boot_sorted (pa_cons (pv 2) pa_nil)) pa_nil)))) pa_nil)) (pe_callB call_len_seq (by rfl) m_len boot_len (pa_cons (pv 1) pa_nil)) (nomark _))))), ?_⟩
    obtain ⟨t, ty, kk⟩ := ha.ty (K := K)
    have hl : ts.length = cs.length := hT.1
    have h32 := hc.len
    refine ⟨_, rfl, _, t, true, rfl, ty, kk, fun H1 e1 => ⟨_, rfl, ?_⟩⟩
    have ha1 := ha.same e1
    have hT1 := hT.same e1
    -- the second half: the set, behind any heap
    have half : ∀ H2, Same H1 H2 → ∀ D, H2 D = none → ∀ (j : Nat) (x : V) (H3 : Hp), (ts.map V.ref)[j]? = some x → (Same H2 H3 ∧ ∃ L : List (Addr × List Int), H3 D = some (SetTO P w D L) ∧ (∀ p ∈ L, H3 p.1 = some (.tup (p.2.map V.int))) ∧ (L.map (·.2)).Perm ((cs.take j).map keyOf)) →
        ∃ c t', x = .ref t' ∧ cs[j]? = some c ∧ CoAt H3 t' c ∧ keyOf c ∉ (cs.take j).map keyOf := by
      intro H2 e2 D hD j x H3 hx pv
      rw [List.getElem?_map] at hx
      obtain ⟨t', ht', rfl⟩ := Option.map_eq_some_iff.mp hx
      have hj : j < cs.length := by rw [← hl]; exact (List.getElem?_eq_some_iff.mp ht').1
      refine ⟨cs[j], t', rfl, List.getElem?_eq_getElem hj, (hT1.2 j t' _ ht' (List.getElem?_eq_getElem hj)).same (e2.trans pv.1), fun m => ?_⟩
      have nd := keys_nd hc.nd
      have e3 : cs.map keyOf = (cs.take j).map keyOf ++ (cs.drop j).map keyOf := by rw [← List.map_append, List.take_append_drop]
      rw [e3, List.nodup_append] at nd
      exact nd.2.2 _ m _ (List.mem_map.mpr ⟨cs[j], by rw [List.drop_eq_getElem_cons hj]; exact List.mem_cons_self, rfl⟩) rfl
    have fin : ∀ H2, Same H1 H2 → ∀ L : List (Addr × List Int), (L.map (·.2)).Perm ((cs.take (ts.map V.ref).length).map keyOf) → (Same H H2 → decide (V.int (L.length : Nat) = V.int ((ts.map V.ref).length : Nat)) = true) := by
      intro H2 e2 L p _
      have z := p.length_eq
      rw [List.length_map, List.length_map, List.length_map, hl, List.take_length] at z
      rw [List.length_map, z, hl]
      exact decide_eq_true rfl
    have Q2 : ∀ H2, Same H1 H2 → Q (.bl true) H2 := fun H2 e2 => q H2 (e1.trans e2)
    have sz : (ts.map V.ref).length = cs.length := by rw [List.length_map, hl]
    rcases ha1 with z | z
    · refine .inl ⟨_, rfl, a, rfl, ⟨_, .inl (.inl z)⟩, fun D hD => lc_tup (xs := ts.map V.ref) (fun j H2 => Same H1 H2 ∧ ∃ bs : List Bool, H2 D = some (.lst (bs.map V.bl)) ∧ bs.all id = true ∧ bs.length = j) ⟨same_new (Same.refl H1) hD, [], upd_same, rfl, rfl⟩ (fun j H2 _ pv => .inl (.inl (pv.1 _ _ z))) (fun j x H2 hx pv => ?_) (fun H2 pv => ?_)⟩
      · obtain ⟨e2, bs, hD2, hb, lb⟩ := pv
        have hjx := (List.getElem?_eq_some_iff.mp hx).1
        rw [List.getElem?_map] at hx
        obtain ⟨t', ht', rfl⟩ := Option.map_eq_some_iff.mp hx
        have hj : j < cs.length := by rw [← sz]; exact hjx
        have hco := hc.lt cs[j] (List.getElem_mem hj)
        refine ⟨rfl, _, rfl, _, rfl, n, .ref t', rfl, .inr ⟨t', _, rfl, (hT1.2 j t' cs[j] ht' (List.getElem?_eq_getElem hj)).same e2, fun y hy => ?_, by show 2 < 64; decide, fun H3 e3 => ?_⟩⟩
        · obtain ⟨k, _, rfl⟩ := List.mem_map.mp hy
          exact .flat (.int _)
        · rw [two_co hco]
          refine ⟨_, e3 _ _ hD2, by rw [List.length_map]; exact small1000 (by omega), fun b o hb => ?_, bs ++ [true], ?_, ?_, by rw [List.length_append, lb]; rfl⟩
          · rw [upd_ne (ne_of_none hb hD)]
            exact e3 _ _ (e2 _ _ hb)
          · rw [upd_same, List.map_append]
            rfl
          · rw [List.all_append, hb]
            rfl
      · obtain ⟨e2, bs, hD2, hb, lb⟩ := pv
        refine ⟨D, bs, rfl, .inl (.inl hD2), _, rfl, ?_⟩
        rw [hb]
        refine iteF ?_
        refine .inl ⟨_, rfl, a, rfl, ⟨_, .inl (.inl (e2 _ _ z))⟩, fun D2 hD2 => K7S.st_tup (xs := ts.map V.ref) (fun j H3 => Same H2 H3 ∧ ∃ L : List (Addr × List Int), H3 D2 = some (SetTO P w D2 L) ∧ (∀ p ∈ L, H3 p.1 = some (.tup (p.2.map V.int))) ∧ (L.map (·.2)).Perm ((cs.take j).map keyOf)) ⟨same_new (Same.refl H2) hD2, [], upd_same, fun p hp => (nomatch hp), List.Perm.refl _⟩ (fun j H3 _ pv => .inl (.inl (pv.1 _ _ (e2 _ _ z)))) (fun j x H3 hx pv => ?_) (fun H3 pv => ?_)⟩
        · obtain ⟨c, t', rfl, hcj, hco, hnew⟩ := half H2 e2 D2 hD2 j x H3 hx pv
          obtain ⟨e3, L, hL, hLt, pm⟩ := pv
          have ll : L.length = j := by
            have z := pm.length_eq
            rw [List.length_map, List.length_map, List.length_take, Nat.min_eq_left (Nat.le_of_lt (List.getElem?_eq_some_iff.mp hcj).1)] at z
            exact z
          have hjc := (List.getElem?_eq_some_iff.mp hcj).1
          refine ⟨rfl, _, rfl, t', [(c.1 : Int), (c.2 : Int)], rfl, hco.sq, by show 2 < 64; decide, fun ms p pm2 so np => ?_⟩
          have em := KL.two_sorted pm2 so
          subst em
          refine ⟨p, _, rfl, .inl ⟨.inl (.inl upd_same), fun l nl => ?_⟩⟩
          have s1 := same_new (o := .lst ([((min c.1 c.2 : Nat) : Int), ((max c.1 c.2 : Nat) : Int)].map V.int)) (Same.refl H3) np
          have s2 := same_new (o := .tup ([((min c.1 c.2 : Nat) : Int), ((max c.1 c.2 : Nat) : Int)].map V.int)) s1 nl
          refine ⟨l, keyOf c, L, rfl, .inl (.inl upd_same), s2 _ _ hL, fun p hp => .inl (.inl (s2 _ _ (hLt p hp))), by omega, fun L' _ c2 => ?_⟩
          have pm' := c2 (fun m => hnew (pm.mem_iff.mp m))
          have nlD : l ≠ D2 := fun e => by rw [e, s1 _ _ hL] at nl; cases nl
          refine ⟨fun b o hb => ?_, L', upd_same, fun p hp => ?_, ?_⟩
          · rw [upd_ne (ne_of_none hb hD2)]
            exact s2 _ _ (e3 _ _ hb)
          · have tp : ∀ p ∈ L', (upd (upd H3 _ _) l (.tup ((keyOf c).map V.int))) p.1 = some (.tup (p.2.map V.int)) := fun p hp => by
              rcases List.mem_cons.mp (pm'.mem_iff.mp hp) with rfl | hp
              · exact upd_same
              · exact s2 _ _ (hLt p hp)
            have z := tp p hp
            rw [upd_ne (fun e => by rw [e] at z; exact absurd (z.symm.trans (s2 _ _ hL)) (fun w => by cases w))]
            exact z
          · refine (pm'.map (·.2)).trans ?_
            rw [List.take_add_one, hcj, List.map_append]
            exact ((List.perm_append_singleton _ _).trans (pm.symm.cons _)).symm
        · obtain ⟨e3, L, hL, hLt, pm⟩ := pv
          have eq2 := fin H3 (e2.trans e3) L pm (e1.trans (e2.trans e3))
          refine ⟨D2, L, rfl, hL, fun p hp => .inl (.inl (hLt p hp)), _, rfl, a, ts.map V.ref, rfl, ?_, rfl, ?_⟩
          · exact (SqOf.sq (K := K) (H := H3) (show SqOf H3 a (ts.map V.ref) from (ha.same e1).same (e2.trans e3)))
          · rw [eq2]
            exact Q2 H3 (e2.trans e3)
    · refine .inr ⟨_, rfl, a, rfl, ⟨_, .inl (.inl z)⟩, fun D hD => lc_list (xs := ts.map V.ref) (fun j H2 => Same H1 H2 ∧ ∃ bs : List Bool, H2 D = some (.lst (bs.map V.bl)) ∧ bs.all id = true ∧ bs.length = j) ⟨same_new (Same.refl H1) hD, [], upd_same, rfl, rfl⟩ (fun j H2 _ pv => .inl (.inl (pv.1 _ _ z))) (fun j x H2 hx pv => ?_) (fun H2 pv => ?_)⟩
      · obtain ⟨e2, bs, hD2, hb, lb⟩ := pv
        have hjx := (List.getElem?_eq_some_iff.mp hx).1
        rw [List.getElem?_map] at hx
        obtain ⟨t', ht', rfl⟩ := Option.map_eq_some_iff.mp hx
        have hj : j < cs.length := by rw [← sz]; exact hjx
        have hco := hc.lt cs[j] (List.getElem_mem hj)
        refine ⟨rfl, _, rfl, _, rfl, n, .ref t', rfl, .inr ⟨t', _, rfl, (hT1.2 j t' cs[j] ht' (List.getElem?_eq_getElem hj)).same e2, fun y hy => ?_, by show 2 < 64; decide, fun H3 e3 => ?_⟩⟩
        · obtain ⟨k, _, rfl⟩ := List.mem_map.mp hy
          exact .flat (.int _)
        · rw [two_co hco]
          refine ⟨_, e3 _ _ hD2, by rw [List.length_map]; exact small1000 (by omega), fun b o hb => ?_, bs ++ [true], ?_, ?_, by rw [List.length_append, lb]; rfl⟩
          · rw [upd_ne (ne_of_none hb hD)]
            exact e3 _ _ (e2 _ _ hb)
          · rw [upd_same, List.map_append]
            rfl
          · rw [List.all_append, hb]
            rfl
      · obtain ⟨e2, bs, hD2, hb, lb⟩ := pv
        refine ⟨D, bs, rfl, .inl (.inl hD2), _, rfl, ?_⟩
        rw [hb]
        refine iteF ?_
        refine .inr ⟨_, rfl, a, rfl, ⟨_, .inl (.inl (e2 _ _ z))⟩, fun D2 hD2 => K7S.st_list (xs := ts.map V.ref) (fun j H3 => Same H2 H3 ∧ ∃ L : List (Addr × List Int), H3 D2 = some (SetTO P w D2 L) ∧ (∀ p ∈ L, H3 p.1 = some (.tup (p.2.map V.int))) ∧ (L.map (·.2)).Perm ((cs.take j).map keyOf)) ⟨same_new (Same.refl H2) hD2, [], upd_same, fun p hp => (nomatch hp), List.Perm.refl _⟩ (fun j H3 _ pv => .inl (.inl (pv.1 _ _ (e2 _ _ z)))) (fun j x H3 hx pv => ?_) (fun H3 pv => ?_)⟩
        · obtain ⟨c, t', rfl, hcj, hco, hnew⟩ := half H2 e2 D2 hD2 j x H3 hx pv
          obtain ⟨e3, L, hL, hLt, pm⟩ := pv
          have ll : L.length = j := by
            have z := pm.length_eq
            rw [List.length_map, List.length_map, List.length_take, Nat.min_eq_left (Nat.le_of_lt (List.getElem?_eq_some_iff.mp hcj).1)] at z
            exact z
          have hjc := (List.getElem?_eq_some_iff.mp hcj).1
          refine ⟨rfl, _, rfl, t', [(c.1 : Int), (c.2 : Int)], rfl, hco.sq, by show 2 < 64; decide, fun ms p pm2 so np => ?_⟩
          have em := KL.two_sorted pm2 so
          subst em
          refine ⟨p, _, rfl, .inl ⟨.inl (.inl upd_same), fun l nl => ?_⟩⟩
          have s1 := same_new (o := .lst ([((min c.1 c.2 : Nat) : Int), ((max c.1 c.2 : Nat) : Int)].map V.int)) (Same.refl H3) np
          have s2 := same_new (o := .tup ([((min c.1 c.2 : Nat) : Int), ((max c.1 c.2 : Nat) : Int)].map V.int)) s1 nl
          refine ⟨l, keyOf c, L, rfl, .inl (.inl upd_same), s2 _ _ hL, fun p hp => .inl (.inl (s2 _ _ (hLt p hp))), by omega, fun L' _ c2 => ?_⟩
          have pm' := c2 (fun m => hnew (pm.mem_iff.mp m))
          have nlD : l ≠ D2 := fun e => by rw [e, s1 _ _ hL] at nl; cases nl
          refine ⟨fun b o hb => ?_, L', upd_same, fun p hp => ?_, ?_⟩
          · rw [upd_ne (ne_of_none hb hD2)]
            exact s2 _ _ (e3 _ _ hb)
          · have tp : ∀ p ∈ L', (upd (upd H3 _ _) l (.tup ((keyOf c).map V.int))) p.1 = some (.tup (p.2.map V.int)) := fun p hp => by
              rcases List.mem_cons.mp (pm'.mem_iff.mp hp) with rfl | hp
              · exact upd_same
              · exact s2 _ _ (hLt p hp)
            have z := tp p hp
            rw [upd_ne (fun e => by rw [e] at z; exact absurd (z.symm.trans (s2 _ _ hL)) (fun w => by cases w))]
            exact z
          · refine (pm'.map (·.2)).trans ?_
            rw [List.take_add_one, hcj, List.map_append]
            exact ((List.perm_append_singleton _ _).trans (pm.symm.cons _)).symm
        · obtain ⟨e3, L, hL, hLt, pm⟩ := pv
          have eq2 := fin H3 (e2.trans e3) L pm (e1.trans (e2.trans e3))
          refine ⟨D2, L, rfl, hL, fun p hp => .inl (.inl (hLt p hp)), _, rfl, a, ts.map V.ref, rfl, ?_, rfl, ?_⟩
          · exact (SqOf.sq (K := K) (H := H3) (show SqOf H3 a (ts.map V.ref) from (ha.same e1).same (e2.trans e3)))
          · rw [eq2]
            exact Q2 H3 (e2.trans e3)
end
end K7
end
/-! ## EU -/
section
namespace K7E
open PySem PySem.Spec PyProof.Rows L2
section
variable {X : Cx} {CX : CXT} {k : Nat} {f : Addr} {sp : Sp} {E : XK} {x : Str} {e : Expr} {es : List Expr} {t : TA} {p pos : Pos}
/-- x(e, ..) by a positional promise -/
theorem pe_callR0 (F : FnR X.prog X.w X.K X.mg X.base CX k f sp) (hr : Room k X.A) (hg : Gl X x) (hm : X.mg x = some (.ref f)) (hk : PySem.W.keepIn X.K (.ref f) = true) (hx : Passes CX X E) (ha : PA X (e :: es) t) (hd : (x == ("__debug__" : Str)) = false := by decide)
    (h1 : starEach (e :: es) X.env = (false, eval e X.env) :: starEach es X.env := by rfl) (h2 : (backTo pos (starEach es X.env)).any (·.1) = false := by rfl) : PE X (.Call (.Name x p) (e :: es) [] pos) (fun τ H Q => t τ H fun vs H1 => sp vs H1 Q E) := by
  refine ⟨fun pins s τ H Q I h => wpAny_Call_Name_kw (ld_glob I hg hm (PySem.W.callWith_K (h₀ := X.base) I.ok.mod.kin hk (thn (ha.run pos pins s τ H _ I h) fun us s1 ⟨vs, H1, I1, r, q⟩ => ⟨I1.kIn, ?_⟩) h1 h2) hd)⟩
  exact wpAny_call (run_fnR F hr hx I1 r q)
end
end K7E
end
/-! ## P11 -/
section
open PySem PySem.Spec PyProof.Rows L2
namespace K7
abbrev N_BadCell___init__ : List Str := ["self", "cell"]
abbrev s_BadCell___init__ : Stmt := inClass (topS 4) 0
theorem sc_BadCell___init__ : FnScope ["self", "cell"] ["self", "cell"] (defScope s_BadCell___init__) := ⟨rfl, rfl, rfl, by decide +kernel, rfl, by decide +kernel, by decide +kernel⟩
abbrev N_is_cell : List Str := ["land", "thing"]
abbrev s_is_cell : Stmt := topS 17
theorem sc_is_cell : FnScope ["land", "thing"] ["land", "thing"] (defScope s_is_cell) := ⟨rfl, rfl, rfl, by decide +kernel, rfl, by decide +kernel, by decide +kernel⟩
abbrev N_check_cells : List Str := ["land", "things", "thing"]
abbrev s_check_cells : Stmt := topS 18
theorem sc_check_cells : FnScope ["land", "things", "thing"] ["land", "things"] (defScope s_check_cells) := ⟨rfl, rfl, rfl, by decide +kernel, rfl, by decide +kernel, by decide +kernel⟩
/-! ### a land that stands, and what the top says of it -/
def landFs (n : Int) (an ar ay ac : Addr) : List (Str × V) := putF "_couples" (.ref ac) (putF "nearby" (.ref ay) (putF "roads" (.ref ar) (putF "neighbours" (.ref an) (putF "cells" (.int n) []))))
def lfields : List Str := ["cells", "neighbours", "roads", "nearby", "_couples"]
structure AdL where
  (C B iB : Addr)
structure Tl (K : PySem.W.Frag) (mg : Str → Option Value) (a : AdL) : Prop where
  gC : mg "Land" = some (.ref a.C)
  cl : Cls K a.C
  nA : ∀ f ∈ lfields, NoAttr K a.C f
  gB : mg "BadCell" = some (.ref a.B)
  oxB : OexC K a.B
  iCB : PySem.W.findIn K (.ref a.B) "__init__" = some (some (.ref a.iB))
  tIB : PySem.W.typeIn K (.ref a.iB) = some (.type "function")
  nB : PySem.W.findIn K (.ref a.B) "cell" = some none
/-- an error of the class C with one field is raised -/
def Flies (H : Hp) (C : Addr) (f : Str) (v : V) (E : XK) : Prop := ∀ H' d, Same H H' → H d = none → H' d = some (.xd [(f, v)]) → E (.ref C) (some d) H'
theorem Flies.later {H H1 : Hp} {C : Addr} {f : Str} {v : V} {E : XK} (h : Flies H C f v E) (e : Same H H1) : Flies H1 C f v E := fun H' d e' n q => h H' d (e.trans e') (e.free n) q
/-- an instance with a number of cells -/
def LandC (C : Addr) (H : Hp) (p : Addr) (n : Nat) : Prop := ∃ dx fs, H p = some (.ins C dx fs) ∧ fs.lookup ("cells" : Str) = some (V.int (n : Nat))
theorem LandC.same {C : Addr} {H H' : Hp} {p : Addr} {n : Nat} (h : LandC C H p n) (e : Same H H') : LandC C H' p n := by
  obtain ⟨dx, fs, h1, h2⟩ := h
  exact ⟨dx, fs, e _ _ h1, h2⟩
section
variable {P : Program} {w : World} {K : PySem.W.Frag} {mg : Str → Option Value} {base : Heap} {a : AdL}
def spX (C : Addr) (f : Str) : Sp := fun vs H Q _ => ∃ (e : Addr) (y : V), vs = [.ref e, y] ∧ H e = some (exo e C none) ∧ ∀ d, H d = none → d ≠ e → Q .non (upd (upd H d (exd d [(f, y)])) e (exo e C (some d)))
theorem ok_iB (T : Tl K mg a) {f : Addr} {fd : FuncData} (F : Fun K "__init__" "BadCell.__init__" s_BadCell___init__ f fd) : FnOk P w K mg base (L2.CX P w) 1 f fd ["self", "cell"] (spX a.B "cell") := by
  refine F.okX sc_BadCell___init__ (fun vs H Q E h => ?_) (fun cdv A outer s H vs Q E hr h => ?_)
  · obtain ⟨e, y, rfl, _⟩ := h
    rfl
  · obtain ⟨e, y, rfl, he, q⟩ := h
    refine ⟨_, (pss_one (ps_ost (pv 0) (pv 1))), ?_⟩
    exact ⟨y, rfl, .ref e, rfl, e, a.B, rfl, T.oxB, T.nB, .inl ⟨he, fun d hd hn => q d hd hn⟩⟩
/-- the reading of «raise X(y)» -/
theorem flies_go {H : Hp} {C : Addr} {f : Str} {y : V} {E : XK} (h : Flies H C f y E) :
    ∀ e, H e = none → spX C f (.ref e :: ([y] ++ [])) (upd H e (exo e C none)) (fun v H2 => v = .non ∧ ∃ (d : Addr) (fs : List (Str × V)), H2 e = some (exo e C (some d)) ∧ H2 d = some (exd d fs) ∧ H d = none ∧ E (.ref C) (some d) (upd (del H2 e) d (.xd fs))) (fun _ _ _ => False) := by
  intro e he
  refine ⟨e, y, rfl, upd_same, fun d hd hne => ⟨rfl, d, _, upd_same, by rw [upd_ne hne, upd_same], ?_, ?_⟩⟩
  · rw [upd_ne hne] at hd
    exact hd
  · rw [upd_ne hne] at hd
    refine h _ d (fun b o hb => ?_) hd upd_same
    have h1 : b ≠ d := ne_of_none hb hd
    have h2 : b ≠ e := ne_of_none hb he
    rw [upd_ne h1, del_ne h2, upd_ne h2, upd_ne h1, upd_ne h2]
    exact hb
/-! is_cell -/
def spIsCell (C : Addr) : Sp := fun vs H Q _ => ∃ (p : Addr) (n : Nat) (x : V), vs = [.ref p, x] ∧ LandC C H p n ∧ Thing H x ∧ Q (.bl (wholeV x 0 ((n : Nat) - 1))) H
theorem ok_iscell (T : Tl K mg a) {f fW : Addr} {fd fdW : FuncData} (F : Fun K "is_cell" "is_cell" s_is_cell f fd)
    (Giw : FnOk P w K mg base CX0 1 fW fdW ["thing", "low", "high"] spWhole) (giw : mg "is_whole" = some (.ref fW)) (kiw : PySem.W.keepIn K (.ref fW) = true) (biw : Binds K fdW ["thing", "low", "high"] []) : FnOk P w K mg base CX0 2 f fd ["land", "thing"] (spIsCell a.C) := by
  refine F.ok sc_is_cell (fun vs H Q E h => ?_) (fun cdv A outer s H vs Q E hr h => ?_)
  · obtain ⟨p, n, x, rfl, _⟩ := h
    rfl
  · obtain ⟨p, n, x, rfl, ⟨dx, fs, hp, hl⟩, hx, q⟩ := h
    refine ⟨_, (pss_one (ps_ret (pe_call Giw (hr.mono (by decide)) (by rfl) giw kiw biw .nil pass0 (pa_cons (pv 1) (pa_cons pe_int (pa_cons (pe_op op_sub (pe_fld (pv 0) rfl) pe_int) pa_nil)))))), ?_⟩
    exact ⟨_, rfl, .ref p, rfl, p, a.C, dx, fs, _, rfl, hp, T.cl, T.nA _ (by decide), hl, _, _, rfl, rfl, x, 0, _, rfl, hx, q⟩
/-! check_cells -/
def AllIn (n : Nat) (xs : List V) : Prop := ∀ x ∈ xs, wholeV x 0 ((n : Nat) - 1) = true
def spCheck (a : AdL) : Sp := fun vs H Q E => ∃ (p : Addr) (n : Nat) (xs : List V), vs = .ref p :: xs ∧ LandC a.C H p n ∧ xs.length < 64 ∧
  (((∀ x ∈ xs, Thing H x) ∧ AllIn n xs ∧ ∀ H', Same H H' → Q .non H') ∨ (∃ ys x zs, xs = ys ++ x :: zs ∧ (∀ x ∈ ys, Thing H x) ∧ AllIn n ys ∧ Thing H x ∧ wholeV x 0 ((n : Nat) - 1) = false ∧ Flies H a.B "cell" x E))
theorem ok_check (T : Tl K mg a) {f fI : Addr} {fd fdI fdB : FuncData} (F : Fun K "check_cells" "check_cells" s_check_cells f fd)
    (Gic : FnOk P w K mg base CX0 2 fI fdI ["land", "thing"] (spIsCell a.C)) (gic : mg "is_cell" = some (.ref fI)) (kic : PySem.W.keepIn K (.ref fI) = true) (bic : Binds K fdI ["land", "thing"] [])
    (FB0 : Fun K "__init__" "BadCell.__init__" s_BadCell___init__ a.iB fdB) (bB : Binds K fdB ["self", "cell"] []) : FnR P w K mg base (L2.CX P w) 4 f (spCheck a) := by
  have FB : FnOk P w K mg base (L2.CX P w) 1 a.iB fdB ["self", "cell"] (spX a.B "cell") := ok_iB T FB0
  obtain ⟨oc, od, kV, doc, pm, an, cdv, ct, osl, rfl, lk, hcd⟩ := F.ex
  have G := StX.fn_star (CX := L2.CX P w) (P := P) (w := w) (mg := mg) (base := base) (k := 3) (ps := ["land"]) (pv := "things") (sp := fun vs H Q E => ∃ (p t : Addr) (n : Nat) (xs : List V), vs = [.ref p, .ref t] ∧ H t = some (.tup xs) ∧ LandC a.C H p n ∧ xs.length < 64 ∧
    (((∀ x ∈ xs, Thing H x) ∧ AllIn n xs ∧ ∀ H', Same H H' → Q .non H') ∨ (∃ ys x zs, xs = ys ++ x :: zs ∧ (∀ x ∈ ys, Thing H x) ∧ AllIn n ys ∧ Thing H x ∧ wholeV x 0 ((n : Nat) - 1) = false ∧ Flies H a.B "cell" x E))) lk hcd sc_check_cells StX.cxUp (StX.bind_star1 (B := fun l => bindArgs (PySem.W.fnOf "check_cells" "check_cells" (defArgs s_check_cells) (defBody s_check_cells) (defScope s_check_cells) .none kV doc pm an cdv ct) ⟨l, []⟩) (p1 := "land") (pv := "things") (fun _ => rfl) fun _ _ _ => rfl) ?_
  · refine G.imp fun vs H Q E h => ?_
    obtain ⟨p, n, xs, rfl, hl, h64, hh⟩ := h
    refine ⟨[.ref p], xs, rfl, rfl, by rw [sizeLine_eq]; omega, fun t ht => ⟨p, t, n, xs, rfl, upd_same, hl.same (same_new (Same.refl H) ht), h64, ?_⟩⟩
    have e := same_new (o := .tup xs) (Same.refl H) ht
    rcases hh with ⟨h1, h2, h3⟩ | ⟨ys, x, zs, h1, h2, h3, h4, h5, h6⟩
    · exact .inl ⟨fun x hx => (h1 x hx).same e, h2, fun H' e' => h3 H' (e.trans e')⟩
    · exact .inr ⟨ys, x, zs, h1, fun x hx => (h2 x hx).same e, h3, h4.same e, h5, h6.later e⟩
  · intro A outer s H vs Q E hr h
    obtain ⟨p, t, n, xs, rfl, ht, hl, h64, hh⟩ := h
    have hrx : Room (1 + 1) _ := hr.mono (by decide)
    refine ⟨_, (pss_one (ps_for (passes_of rfl) rfl (pi_tup (pv 1)) (pg_name (i := 2) sc_check_cells.nd rfl (by first | exact Or.inl rfl | exact Or.inr rfl))
  (pss_one (ps_if (pt_not (pt_val (pe_call Gic (hr.mono (by decide)) (by rfl) gic kic bic .nil pass0 (pa_cons (pv 0) (pa_cons (pv 2) pa_nil)))))
  (pss_one (ps_raise rfl (takes_of rfl rfl rfl rfl) (pmk_oex T.oxB T.iCB T.tIB FB hrx bB .nil passL (by rfl) T.gB (pa_cons (pv 2) pa_nil))))
  pss_nil)))), ?_⟩
    refine ⟨_, rfl, t, rfl, ⟨xs, .inl (.inl ht)⟩, for_tup (xs := xs) (fun j τ H1 => H1 = H ∧ AllIn n (xs.take j) ∧ ∃ y, τ = [some (.ref p), some (.ref t), y]) ⟨rfl, fun x hx => (nomatch hx), none, rfl⟩ (fun j τ H1 _ pv => ?_) (fun j x τ H1 hx pv => ?_) (fun τ H1 pv => ?_)⟩
    · obtain ⟨rfl, _⟩ := pv
      exact .inl (.inl ht)
    · obtain ⟨rfl, al, y, rfl⟩ := pv
      have fin : ∀ b, wholeV x 0 ((n : Nat) - 1) = b → Thing H1 x ∧ (b = false → Flies H1 a.B "cell" x E) := by
        intro b hb
        rcases hh with ⟨h1, h2, h3⟩ | ⟨ys, x', zs, rfl, h2, h3, h4, h5, h6⟩
        · refine ⟨h1 x (List.mem_of_getElem? hx), fun e => ?_⟩
          rw [h2 x (List.mem_of_getElem? hx)] at hb
          rw [← hb] at e
          cases e
        · rcases Nat.lt_trichotomy j ys.length with lt | e | gt
          · rw [List.getElem?_append_left lt] at hx
            have m := List.mem_of_getElem? hx
            refine ⟨h2 x m, fun e => ?_⟩
            rw [h3 x m] at hb
            rw [← hb] at e
            cases e
          · rw [List.getElem?_append_right (by omega), e, Nat.sub_self] at hx
            obtain rfl : x' = x := Option.some.inj hx
            exact ⟨h4, fun _ => h6⟩
          · have m : x' ∈ (ys ++ x' :: zs).take j := by
              rw [List.take_append, List.take_of_length_le (by omega)]
              exact List.mem_append_right _ (by
                obtain ⟨k, hk⟩ : ∃ k, j - ys.length = k + 1 := ⟨j - ys.length - 1, by omega⟩
                rw [hk]
                exact List.mem_cons_self)
            rw [al x' m] at h5
            cases h5
      obtain ⟨hth, hfl⟩ := fin _ rfl
      refine ⟨_, rfl, _, rfl, p, n, x, rfl, hl, hth, _, rfl, ?_⟩
      cases hb : wholeV x 0 ((n : Nat) - 1) with
      | true =>
        refine iteF ⟨rfl, fun z hz => ?_, _, rfl⟩
        rw [List.take_add_one, hx] at hz
        rcases List.mem_append.mp hz with hz | hz
        · exact al z hz
        · rw [List.mem_singleton.mp hz]
          exact hb
      | false => exact iteT ⟨_, rfl, by show 1 ≤ 1000; decide, flies_go (hfl hb)⟩
    · obtain ⟨rfl, al, y, rfl⟩ := pv
      rcases hh with ⟨h1, h2, h3⟩ | ⟨ys, x', zs, rfl, h2, h3, h4, h5, h6⟩
      · exact h3 _ (Same.refl _)
      · rw [List.take_length] at al
        rw [al x' (List.mem_append_right _ List.mem_cons_self)] at h5
        cases h5
end
end K7
end
/-! ## EV -/
section
namespace K7E
open PySem PySem.Spec PyProof.Rows L2
/-- the inner range of a comprehension of two -/
theorem in_range {lo : Int} {n : Nat} {g : TG} {tt : TT} {te : TE} {vs : List Nat} {τ : L2.St} {H4 : Hp} {D : Addr} {Nx : Hp → Prop} (Pw : Nat → Hp → Prop) (h0 : Pw 0 H4)
    (hs : ∀ j H, j < n → Pw j H → g (.int (lo + j)) (wipe τ vs) H fun t3 H5 => wipe t3 vs = wipe τ vs ∧ tt t3 H5 fun b H6 => if b = true then te t3 H6 fun y H7 => ∃ acc, H7 D = some (.lst acc) ∧ acc.length < sizeLine ∧ Pw (j + 1) (upd H7 D (.lst (acc ++ [y]))) else Pw (j + 1) H6) (hd : ∀ H, Pw n H → Nx H) :
    ∃ W1 : Nat → Nat → Hp → Prop, (∃ m, W1 0 m H4) ∧ ∀ j k H, W1 j k H → ((Itr lo n).stop j H ∧ Nx H) ∨ ((Itr lo n).go j H ∧ ∃ N1 : Hp → Prop, (∀ H', N1 H' → ∃ k', k' < k ∧ W1 (j + 1) k' H') ∧
      ∀ x H', (Itr lo n).yld j H x H' → g x (wipe τ vs) H' fun t3 H5 => wipe t3 vs = wipe τ vs ∧ tt t3 H5 fun b H6 => if b = true then te t3 H6 fun y H7 => ∃ acc, H7 D = some (.lst acc) ∧ acc.length < sizeLine ∧ N1 (upd H7 D (.lst (acc ++ [y]))) else N1 H6) := by
  refine ⟨fun j k H => k + j = n ∧ Pw j H, ⟨n, rfl, h0⟩, fun j k H z => ?_⟩
  obtain ⟨hk, p⟩ := z
  rcases Nat.lt_or_ge j n with lt | ge
  · refine .inr ⟨lt, Pw (j + 1), fun H' p' => ⟨k - 1, by omega, by omega, p'⟩, fun x H' y => ?_⟩
    obtain ⟨rfl, rfl⟩ := y
    exact hs j _ lt p
  · obtain rfl : j = n := by omega
    exact .inl ⟨Nat.le_refl _, hd H p⟩
/-- the outer one -/
theorem out_range {lo : Int} {n : Nat} {g : TG} {tt : TT} {inner : (Hp → Prop) → L2.St → Hp → Prop} {vs : List Nat} {τ : L2.St} {H1 : Hp} {D : Addr} {Qd : Hp → Prop} (Pv : Nat → Hp → Prop) (h0 : Pv 0 (upd H1 D (.lst [])))
    (hs : ∀ i H, i < n → Pv i H → g (.int (lo + i)) (wipe τ vs) H fun t2 H2 => wipe t2 vs = wipe τ vs ∧ tt t2 H2 fun b H3 => if b = true then inner (Pv (i + 1)) t2 H3 else Pv (i + 1) H3) (hd : ∀ H, Pv n H → Qd H) :
    ∃ W : Nat → Nat → Hp → Prop, (∃ m, W 0 m (upd H1 D (.lst []))) ∧ ∀ i m H, W i m H → ((Itr lo n).stop i H ∧ Qd H) ∨ ((Itr lo n).go i H ∧ ∃ Nx : Hp → Prop, (∀ H', Nx H' → ∃ m', m' < m ∧ W (i + 1) m' H') ∧
      ∀ x H', (Itr lo n).yld i H x H' → g x (wipe τ vs) H' fun t2 H2 => wipe t2 vs = wipe τ vs ∧ tt t2 H2 fun b H3 => if b = true then inner Nx t2 H3 else Nx H3) := by
  refine ⟨fun i m H => m + i = n ∧ Pv i H, ⟨n, rfl, h0⟩, fun i m H z => ?_⟩
  obtain ⟨hm, p⟩ := z
  rcases Nat.lt_or_ge i n with lt | ge
  · refine .inr ⟨lt, Pv (i + 1), fun H' p' => ⟨m - 1, by omega, by omega, p'⟩, fun x H' y => ?_⟩
    obtain ⟨rfl, rfl⟩ := y
    exact hs i _ lt p
  · obtain rfl : i = n := by omega
    exact .inl ⟨Nat.le_refl _, hd H p⟩
end K7E
end
/-! ## P12 -/
section
open PySem PySem.Spec PyProof.Rows L2
namespace K7
abbrev N_Land___init__ : List Str := ["self", "cells", "neighbours", "roads", "couples", "couple", "a", "b"]
abbrev s_Land___init__ : Stmt := inClass (topS 23) 0
theorem sc_Land___init__ : FnScope ["self", "cells", "neighbours", "roads", "couples", "couple", "a", "b"] ["self", "cells", "neighbours", "roads"] (defScope s_Land___init__) := ⟨rfl, rfl, rfl, by decide +kernel, rfl, by decide +kernel, by decide +kernel⟩
/-! ### a land is made -/
structure LandO (C : Addr) (H : Hp) (p : Addr) (n : Nat) (es : List (Nat × Nat)) (rd : List Nat) : Prop where
  at_ : ∃ dx an ar ay ac tn ty tc, H p = some (.ins C dx (landFs (n : Nat) an ar ay ac)) ∧ H an = some (.tup (tn.map V.ref)) ∧ TAt H tn (pairs es) ∧ H ar = some (.tup (ints_ rd)) ∧ H ay = some (.tup (ty.map V.ref)) ∧ TAt H ty (nearV n es) ∧ H ac = some (.tup (tc.map V.ref)) ∧ TAt H tc (pairs (KL.allC n))
  n2 : 2 ≤ n
  n5 : n ≤ 5
  ok : LandOk n es
  rlt : ∀ c ∈ rd, c < n
  rnd : rd.Nodup
  rso : rd.Pairwise (· ≤ ·)
  r0 : 0 < rd.length
  rn : rd.length < n
theorem LandO.same {C : Addr} {H H' : Hp} {p : Addr} {n : Nat} {es : List (Nat × Nat)} {rd : List Nat} (h : LandO C H p n es rd) (e : Same H H') : LandO C H' p n es rd := by
  obtain ⟨dx, an, ar, ay, ac, tn, ty, tc, h1, h2, h3, h4, h5, h6, h7, h8⟩ := h.at_
  exact ⟨⟨dx, an, ar, ay, ac, tn, ty, tc, e _ _ h1, e _ _ h2, h3.same e, e _ _ h4, e _ _ h5, h6.same e, e _ _ h7, h8.same e⟩, h.n2, h.n5, h.ok, h.rlt, h.rnd, h.rso, h.r0, h.rn⟩
theorem LandO.c {C : Addr} {H : Hp} {p : Addr} {n : Nat} {es : List (Nat × Nat)} {rd : List Nat} (h : LandO C H p n es rd) : LandC C H p n := by
  obtain ⟨dx, an, ar, ay, ac, tn, ty, tc, h1, _⟩ := h.at_
  exact ⟨dx, _, h1, rfl⟩
/-- a land is written while an object is made: what is not an instance stays -/
theorem keepNI {C dx x : Addr} {fs : List (Str × V)} {H : Hp} (hx : H x = some (.ins C dx fs)) {b : Addr} {o o' : HO} (hb : H b = some o) (no : ∀ C dx fs, o ≠ .ins C dx fs) : upd H x o' b = some o := by
  rw [upd_ne (fun e => by rw [e, hx] at hb; exact no _ _ _ (Option.some.inj hb).symm)]
  exact hb
theorem cells_lot {n : Nat} {lot : List Nat} (h1 : ∀ c ∈ lot, c < n) (h2 : lot.Nodup) (h3 : 0 < lot.length) : cellsV (n : Nat) (ints_ lot) 1 = true := by
  unfold cellsV
  have e1 : (ints_ lot).all (fun x => wholeV x 0 (((n : Nat) : Int) - 1)) = true := by
    refine List.all_eq_true.mpr fun x hx => ?_
    obtain ⟨c, hc, rfl⟩ := List.mem_map.mp hx
    have := h1 c hc
    rw [wholeV_int, decide_eq_true (by omega), decide_eq_true (by omega)]
    rfl
  have e2 : ((ints_ lot).map intOf).Nodup := by
    unfold ints_
    rw [List.map_map, List.nodup_iff_pairwise_ne, List.pairwise_map]
    refine (List.nodup_iff_pairwise_ne.mp h2).imp fun {a b} ne e => ne ?_
    have e : ((a : Nat) : Int) = ((b : Nat) : Int) := e
    omega
  have e3 : (ints_ lot).length = lot.length := List.length_map ..
  rw [e1, decide_eq_true e2, e3, decide_eq_true (by omega)]
  rfl
theorem ints_back {ms : List Int} {lot : List Nat} (p : ms.Perm (lot.map fun c => ((c : Nat) : Int))) : ms = (ms.map Int.toNat).map fun c => ((c : Nat) : Int) := by
  rw [List.map_map]
  refine (List.map_id ms).symm.trans (List.map_congr_left fun x hx => ?_)
  obtain ⟨c, _, rfl⟩ := List.mem_map.mp (p.mem_iff.mp hx)
  rfl
/-- one more couple of the comprehension of all of them -/
def rowC (n i j : Nat) : List (Nat × Nat) := ((List.range j).filter fun b => decide (i ≠ b)).map fun b => (i, b)
def upC (n i : Nat) : List (Nat × Nat) := (List.range i).flatMap fun a => rowC n a n
theorem upC_succ (n i : Nat) : upC n (i + 1) = upC n i ++ rowC n i n := by
  unfold upC
  rw [List.range_succ, List.flatMap_append, List.flatMap_cons, List.flatMap_nil, List.append_nil]
theorem rowC_succ (n i j : Nat) : rowC n i (j + 1) = rowC n i j ++ (if i ≠ j then [(i, j)] else []) := by
  unfold rowC
  rw [range_filter, List.map_append]
  by_cases h : i = j
  · rw [if_neg (by rw [decide_eq_false (by simpa using h)]; decide), if_neg (by simpa using h)]
    rfl
  · rw [if_pos (decide_eq_true h), if_pos h]
    rfl
theorem rowC_len (n i j : Nat) : (rowC n i j).length ≤ j := by
  unfold rowC
  rw [List.length_map]
  exact Nat.le_trans (List.length_filter_le _ _) (by rw [List.length_range]; exact Nat.le_refl _)
theorem upC_len (n : Nat) : ∀ i, (upC n i).length ≤ i * n
  | 0 => Nat.zero_le _
  | i + 1 => by
    rw [upC_succ, List.length_append, Nat.succ_mul]
    exact Nat.add_le_add (upC_len n i) (rowC_len n i n)
theorem SqOf.ni {C dx x : Addr} {fs : List (Str × V)} {H : Hp} (hx : H x = some (.ins C dx fs)) {b : Addr} {xs : List V} (h : SqOf H b xs) (o' : HO) : SqOf (upd H x o') b xs :=
  h.imp (fun z => keepNI hx z fun _ _ _ e => by cases e) fun z => keepNI hx z fun _ _ _ e => by cases e
theorem TAt.ni {C dx x : Addr} {fs : List (Str × V)} {H : Hp} (hx : H x = some (.ins C dx fs)) {ts : List Addr} {ls : List (List Nat)} (h : TAt H ts ls) (o' : HO) : TAt (upd H x o') ts ls := h.mono fun b xs hb => keepNI hx hb fun _ _ _ e => by cases e
theorem But.put {x : Addr} {H H' : Hp} (h : But x H H') (o : HO) : But x H (upd H' x o) := fun b o' nb hb => by rw [upd_ne nb]; exact h b o' nb hb
theorem But.new {x p : Addr} {H H' : Hp} (h : But x H H') (np : H' p = none) (o : HO) : But x H (upd H' p o) := fun b o' nb hb => by
  have z := h b o' nb hb
  rw [upd_ne (ne_of_none z np)]
  exact z
theorem But.same {x : Addr} {H H' H'' : Hp} (h : But x H H') (e : Same H' H'') : But x H H'' := fun b o nb hb => e _ _ (h b o nb hb)
theorem iteTo {c : Prop} [Decidable c] {p q : Prop} (h : c) (x : p) : if c then p else q := by rw [if_pos h]; exact x
theorem iteFo {b : Bool} {p q : Prop} (h : b = false) (x : q) : if b = true then p else q := by rw [h]; exact x
theorem ints_map (lot : List Nat) : ints_ lot = (lot.map fun c => ((c : Nat) : Int)).map V.int := by
  unfold ints_
  rw [List.map_map]
  rfl
section
variable {P : Program} {w : World} {K : PySem.W.Frag} {mg : Str → Option Value} {base : Heap} {a : AdL}
def spLandI (a : AdL) : Sp := fun vs H Q _ => ∃ (x dx : Addr) (n : Nat) (an : Addr) (ts : List Addr) (cs : List (Nat × Nat)) (ar : Addr) (lot : List Nat), vs = [.ref x, .int (n : Nat), .ref an, .ref ar] ∧ H x = some (.ins a.C dx []) ∧ 2 ≤ n ∧ n ≤ 5 ∧
  SqOf H an (ts.map V.ref) ∧ CoAll H ts cs ∧ Cos n cs ∧ KL.Conn n cs ∧ SqOf H ar (ints_ lot) ∧ (∀ c ∈ lot, c < n) ∧ lot.Nodup ∧ 0 < lot.length ∧ lot.length < n ∧
  ∀ H' es rd, But x H H' → LandO a.C H' x n es rd → es.Perm (cs.map KL.srt) → rd.Perm lot → Q .non H'
theorem ok_landI (T : Tl K mg a) {tM : Tok} (gM : mg "MOST_CELLS" = some (.int 5 tM)) {f fW fB fC fH fN : Addr} {fd fdW fdB fdC fdH fdN : FuncData} (F : Fun K "__init__" "Land.__init__" s_Land___init__ f fd)
    (Giw : FnOk P w K mg base CX0 1 fW fdW ["thing", "low", "high"] spWhole) (giw : mg "is_whole" = some (.ref fW)) (kiw : PySem.W.keepIn K (.ref fW) = true) (biw : Binds K fdW ["thing", "low", "high"] [])
    (Gnb : FnOk P w K mg base CX0 4 fB fdB ["cells", "thing"] spNbrs) (gnb : mg "_are_neighbours" = some (.ref fB)) (knb : PySem.W.keepIn K (.ref fB) = true) (bnb : Binds K fdB ["cells", "thing"] [])
    (Gac : FnOk P w K mg base CX0 2 fC fdC ["many", "thing", "least"] (spCells K)) (gac : mg "are_cells" = some (.ref fC)) (kac : PySem.W.keepIn K (.ref fC) = true) (bac : Binds K fdC ["many", "thing", "least"] [])
    (Ght : FnOk P w K mg base CX0 2 fH fdH ["cells", "couples"] spHang) (ght : mg "hang_together" = some (.ref fH)) (kht : PySem.W.keepIn K (.ref fH) = true) (bht : Binds K fdH ["cells", "couples"] [])
    (Gnc : FnOk P w K mg base CX0 1 fN fdN ["cells", "couples"] spNear) (gnc : mg "nearby_cells" = some (.ref fN)) (knc : PySem.W.keepIn K (.ref fN) = true) (bnc : Binds K fdN ["cells", "couples"] [])
    (m_len : mg "len" = none) (m_sorted : mg "sorted" = none) (m_tuple : mg "tuple" = none) (m_range : mg "range" = none) : FnOk P w K mg base CX0 5 f fd ["self", "cells", "neighbours", "roads"] (spLandI a) := by
  refine F.ok sc_Land___init__ (fun vs H Q E h => ?_) (fun cdv A outer s H vs Q E hr h => ?_)
  · obtain ⟨x, dx, n, an, ts, cs, ar, lot, rfl, _⟩ := h
    rfl
  · obtain ⟨x, dx, n, an, ts, cs, ar, lot, rfl, hx, n2, n5, han, hT, hc, cn, har, llt, lnd, l0, ln, q⟩ := h
    refine ⟨_, (pss_cons (ps_if (pt_not (pt_val (pe_call Giw (hr.mono (by decide)) (by rfl) giw kiw biw .nil pass0 (pa_cons (pv 1) (pa_cons pe_int (pa_cons (pe_glob (v := .int 5) rfl gM ⟨_, rfl⟩) pa_nil))))))
  (pss_one ps_never)
  pss_nil)
 (pss_cons (ps_if (pt_not (pt_val (pe_call Gnb (hr.mono (by decide)) (by rfl) gnb knb bnb .nil pass0 (pa_cons (pv 1) (pa_cons (pv 2) pa_nil)))))
  (pss_one ps_never)
  pss_nil)
 (pss_cons (ps_if (pw_or (pt_not (pt_val (pe_call Gac (hr.mono (by decide)) (by rfl) gac kac bac .nil pass0 (pa_cons (pv 1) (pa_cons (pv 3) (pa_cons pe_int pa_nil)))))) (pw_or1 (pt_cmpR op_eq (pe_callB call_len_seq (by rfl) m_len boot_len (pa_cons (pv 3) pa_nil)) (pv 1) (nomark _)))).pt
  (pss_one ps_never)
  pss_nil)
 (Evl.pss_cut (ps_set (i := 4) sc_Land___init__.nd rfl (by first | exact Or.inl rfl | exact Or.inr rfl) (pe_callB cr_sortedPO (by rfl) m_sorted boot_sorted (pa_cons (pe_lc (own := [("couple", 5)]) (g := gName 5) (tt := tYes) rfl sc_Land___init__.nd (K7E.pi_either (pi_tup (pv 2)) (pi_list (pv 2))) (blkOk_by (own := [("couple", 5)]) (N := N_Land___init__) (sc := defScope s_Land___init__) (by decide +kernel)) (fun _ _ _ _ _ => (pg_name (i := 5) sc_Land___init__.nd rfl (by first | exact Or.inl rfl | exact Or.inr rfl))) (fun _ _ _ _ _ => pts_nil) (fun _ _ _ _ _ => (pe_callTy (show CallR _ (.type "tuple") (rTup_ K) from call_tuple_of) (by rfl) m_tuple boot_tuple (pa_cons (pe_callB (show CallR _ (.builtin "sorted") (K7S.rSortA K) from K7S.cr_sortA) (by rfl) m_sorted boot_sorted (pa_cons (pv 5) pa_nil)) pa_nil)))) pa_nil)))
 (pss_cons (ps_if (pt_not (pt_val (pe_call Ght (hr.mono (by decide)) (by rfl) ght kht bht .nil pass0 (pa_cons (pv 1) (pa_cons (pv 4) pa_nil)))))
  (pss_one ps_never)
  pss_nil)
 (pss_cons (ps_fld (pv 0) (pv 1) rfl)
 (pss_cons (ps_fld (pv 0) (pe_callTy call_tuple_of (by rfl) m_tuple boot_tuple (pa_cons (pv 4) pa_nil)) rfl)
 (pss_cons (ps_fld (pv 0) (pe_callTy call_tuple_of (by rfl) m_tuple boot_tuple (pa_cons (pe_callB K7S.cr_sortA (by rfl) m_sorted boot_sorted (pa_cons (pv 3) pa_nil)) pa_nil)) rfl)
 (pss_cons (ps_fld (pv 0) (pe_call Gnc (hr.mono (by decide)) (by rfl) gnc knc bnc .nil pass0 (pa_cons (pv 1) (pa_cons (pv 4) pa_nil))) rfl)
 (pss_one (ps_fld (pv 0) (pe_callTy call_tuple_of (by rfl) m_tuple boot_tuple (pa_cons (pe_lc2 (own := [("a", 6), ("b", 7)]) (vs1 := [7]) (g := gName 6) (g1 := gName 7) (tt := tYes) rfl sc_Land___init__.nd (pi_range1 rfl m_range (pa_cons (pv 1) pa_nil)) (blkOk_by (own := [("a", 6), ("b", 7)]) (N := N_Land___init__) (sc := defScope s_Land___init__) (by decide +kernel)) (by decide) (fun _ _ _ _ _ => (pg_name (i := 6) sc_Land___init__.nd rfl (by first | exact Or.inl rfl | exact Or.inr rfl))) (fun _ _ _ _ _ => pts_nil) (fun _ _ _ _ _ => (pi_range1 rfl m_range (pa_cons (pv 1) pa_nil))) (fun _ _ _ _ _ => (pg_name (i := 7) sc_Land___init__.nd rfl (by first | exact Or.inl rfl | exact Or.inr rfl))) (fun _ _ _ _ _ => (pts_one (pt_cmpR op_ne (pv 6) (pv 7) (nomark _)))) (fun _ _ _ _ _ => (pe_tup (pa_cons (pv 6) (pa_cons (pv 7) pa_nil))))) pa_nil)) rfl))))))))))), ?_⟩
    have hl : ts.length = cs.length := hT.1
    have h32 := hc.len
    have lilen : (ints_ lot).length = lot.length := List.length_map ..
    refine ⟨_, rfl, .int (n : Nat), 2, 5, rfl, .flat (.int _), _, rfl, ?_⟩
    rw [wholeV_int, decide_eq_true (by omega), decide_eq_true (by omega)]
    refine iteF ?_
    refine ⟨_, rfl, _, rfl, n, an, ts, cs, rfl, han, hT, hc, fun H1 e1 => ⟨_, rfl, iteF ?_⟩⟩
    refine ⟨_, rfl, _, rfl, n, .ref ar, 1, rfl, .inr ⟨ar, ints_ lot, rfl, har.same e1, fun y hy => ?_, by rw [lilen]; omega, fun H2 e2 => ?_⟩⟩
    · obtain ⟨k, _, rfl⟩ := List.mem_map.mp hy
      exact .flat (.int _)
    rw [cells_lot llt lnd l0]
    have e02 := e1.trans e2
    refine ⟨_, rfl, _, rfl, ar, ints_ lot, rfl, (har.same e02).sq, _, rfl, rfl, _, rfl, ?_⟩
    rw [lilen, decide_eq_false (fun e => by injection e with e; omega)]
    refine iteF ?_
    have han2 := han.same e02
    have hT2 := hT.same e02
    -- the couples, in order
    refine ⟨fun σ' H' => ∃ p us es y5 y6 y7, σ' = [some (.ref x), some (.int (n : Nat)), some (.ref an), some (.ref ar), some (.ref p), y5, y6, y7] ∧ Same H H' ∧ H' p = some (.lst (us.map V.ref)) ∧ TAt H' us (pairs es) ∧ LandOk n es ∧ es.Perm (cs.map KL.srt), ?_, fun σ' H' hM => ?_⟩
    · rcases han2 with z | z
      · refine .inl ⟨_, rfl, an, rfl, ⟨_, .inl (.inl z)⟩, fun D hD => lc_tup (xs := ts.map V.ref) (fun j H3 => Same H2 H3 ∧ ∃ us, H3 D = some (.lst (us.map V.ref)) ∧ TAt H3 us (pairs ((cs.take j).map KL.srt)) ∧ us.length ≤ j) ⟨same_new (Same.refl H2) hD, [], upd_same, .nil, Nat.le_refl _⟩ (fun j H3 _ pv => .inl (.inl (pv.1 _ _ z))) (fun j y H3 hy pv => ?_) (fun H3 pv => ?_)⟩
        · obtain ⟨e3, us, hD3, tD, lu⟩ := pv
          rw [List.getElem?_map] at hy
          obtain ⟨t', ht', rfl⟩ := Option.map_eq_some_iff.mp hy
          have hj : j < cs.length := by rw [← hl]; exact (List.getElem?_eq_some_iff.mp ht').1
          have hco := (hT2.2 j t' _ ht' (List.getElem?_eq_getElem hj)).same e3
          refine ⟨rfl, _, rfl, t', [(cs[j].1 : Int), (cs[j].2 : Int)], rfl, hco.sq, by show 2 < 64; decide, fun ms p pm so np => ?_⟩
          have em := KL.two_sorted pm so
          subst em
          refine ⟨p, _, rfl, .inl ⟨.inl (.inl upd_same), fun l nl => ?_⟩⟩
          have s1 := same_new (o := .lst ([((min cs[j].1 cs[j].2 : Nat) : Int), ((max cs[j].1 cs[j].2 : Nat) : Int)].map V.int)) (Same.refl H3) np
          have s2 := same_new (o := .tup ([((min cs[j].1 cs[j].2 : Nat) : Int), ((max cs[j].1 cs[j].2 : Nat) : Int)].map V.int)) s1 nl
          have hD4 := s2 _ _ hD3
          refine ⟨_, hD4, by rw [List.length_map]; exact small1000 (by omega), fun b o hb => ?_, us ++ [l], by rw [upd_same, List.map_append]; rfl, ?_, by rw [List.length_append, List.length_singleton]; omega⟩
          · rw [upd_ne (ne_of_none hb hD)]
            exact s2 _ _ (e3 _ _ hb)
          · rw [List.take_add_one, List.getElem?_eq_getElem hj, List.map_append]
            unfold pairs
            rw [List.map_append]
            have up : ∀ b xs, upd (upd H3 p (.lst ([((min cs[j].1 cs[j].2 : Nat) : Int), ((max cs[j].1 cs[j].2 : Nat) : Int)].map V.int))) l (.tup ([((min cs[j].1 cs[j].2 : Nat) : Int), ((max cs[j].1 cs[j].2 : Nat) : Int)].map V.int)) b = some (.tup xs) → upd (upd (upd H3 p (.lst ([((min cs[j].1 cs[j].2 : Nat) : Int), ((max cs[j].1 cs[j].2 : Nat) : Int)].map V.int))) l (.tup ([((min cs[j].1 cs[j].2 : Nat) : Int), ((max cs[j].1 cs[j].2 : Nat) : Int)].map V.int))) D (.lst (us.map V.ref ++ [.ref l])) b = some (.tup xs) := fun b xs hb => by
              rw [upd_ne (fun e => by rw [e, hD4] at hb; cases hb)]
              exact hb
            exact ((tD.same s2).mono up).append (.cons (up _ _ upd_same) .nil)
        · obtain ⟨e3, us, hD3, tD, lu⟩ := pv
          rw [List.length_map, hl, List.take_length] at tD
          refine ⟨D, us.map V.ref, kfOf H3, rfl, .inl (.inl hD3), fun y hy => ?_, fun ys p srt stb np => ?_⟩
          · obtain ⟨b, e, rfl, hb⟩ := g_mem tD y hy
            exact ⟨b, rfl, by rw [kf_at hb]; exact hb⟩
          · have hys := fun y (hy : y ∈ ys) => g_mem tD y (stb.perm.mem_iff.mp hy)
            obtain ⟨us', rfl, tY⟩ := tat_of ys hys
            have pe : ((us'.map V.ref).map (gOf H3)).Perm (cs.map KL.srt) := by
              have z := stb.perm.map (gOf H3)
              rw [g_map tD] at z
              exact z
            have s4 := same_new (o := .lst (us'.map V.ref)) (Same.refl H3) np
            refine ⟨p, us', _, _, _, _, rfl, e02.trans (e3.trans s4), upd_same, tY.same s4, ⟨fun e he => ?_, pe.nodup_iff.mpr hc.nd, sorted_of _ hys srt, KL.conn_srt cn pe⟩, pe⟩
            obtain ⟨c, hcm, rfl⟩ := List.mem_map.mp (pe.mem_iff.mp he)
            obtain ⟨c1, c2, c3⟩ := hc.lt c hcm
            refine ⟨KL.srt_lt c3, ?_⟩
            unfold KL.srt
            simp only
            omega
      · refine .inr ⟨_, rfl, an, rfl, ⟨_, .inl (.inl z)⟩, fun D hD => lc_list (xs := ts.map V.ref) (fun j H3 => Same H2 H3 ∧ ∃ us, H3 D = some (.lst (us.map V.ref)) ∧ TAt H3 us (pairs ((cs.take j).map KL.srt)) ∧ us.length ≤ j) ⟨same_new (Same.refl H2) hD, [], upd_same, .nil, Nat.le_refl _⟩ (fun j H3 _ pv => .inl (.inl (pv.1 _ _ z))) (fun j y H3 hy pv => ?_) (fun H3 pv => ?_)⟩
        · obtain ⟨e3, us, hD3, tD, lu⟩ := pv
          rw [List.getElem?_map] at hy
          obtain ⟨t', ht', rfl⟩ := Option.map_eq_some_iff.mp hy
          have hj : j < cs.length := by rw [← hl]; exact (List.getElem?_eq_some_iff.mp ht').1
          have hco := (hT2.2 j t' _ ht' (List.getElem?_eq_getElem hj)).same e3
          refine ⟨rfl, _, rfl, t', [(cs[j].1 : Int), (cs[j].2 : Int)], rfl, hco.sq, by show 2 < 64; decide, fun ms p pm so np => ?_⟩
          have em := KL.two_sorted pm so
          subst em
          refine ⟨p, _, rfl, .inl ⟨.inl (.inl upd_same), fun l nl => ?_⟩⟩
          have s1 := same_new (o := .lst ([((min cs[j].1 cs[j].2 : Nat) : Int), ((max cs[j].1 cs[j].2 : Nat) : Int)].map V.int)) (Same.refl H3) np
          have s2 := same_new (o := .tup ([((min cs[j].1 cs[j].2 : Nat) : Int), ((max cs[j].1 cs[j].2 : Nat) : Int)].map V.int)) s1 nl
          have hD4 := s2 _ _ hD3
          refine ⟨_, hD4, by rw [List.length_map]; exact small1000 (by omega), fun b o hb => ?_, us ++ [l], by rw [upd_same, List.map_append]; rfl, ?_, by rw [List.length_append, List.length_singleton]; omega⟩
          · rw [upd_ne (ne_of_none hb hD)]
            exact s2 _ _ (e3 _ _ hb)
          · rw [List.take_add_one, List.getElem?_eq_getElem hj, List.map_append]
            unfold pairs
            rw [List.map_append]
            have up : ∀ b xs, upd (upd H3 p (.lst ([((min cs[j].1 cs[j].2 : Nat) : Int), ((max cs[j].1 cs[j].2 : Nat) : Int)].map V.int))) l (.tup ([((min cs[j].1 cs[j].2 : Nat) : Int), ((max cs[j].1 cs[j].2 : Nat) : Int)].map V.int)) b = some (.tup xs) → upd (upd (upd H3 p (.lst ([((min cs[j].1 cs[j].2 : Nat) : Int), ((max cs[j].1 cs[j].2 : Nat) : Int)].map V.int))) l (.tup ([((min cs[j].1 cs[j].2 : Nat) : Int), ((max cs[j].1 cs[j].2 : Nat) : Int)].map V.int))) D (.lst (us.map V.ref ++ [.ref l])) b = some (.tup xs) := fun b xs hb => by
              rw [upd_ne (fun e => by rw [e, hD4] at hb; cases hb)]
              exact hb
            exact ((tD.same s2).mono up).append (.cons (up _ _ upd_same) .nil)
        · obtain ⟨e3, us, hD3, tD, lu⟩ := pv
          rw [List.length_map, hl, List.take_length] at tD
          refine ⟨D, us.map V.ref, kfOf H3, rfl, .inl (.inl hD3), fun y hy => ?_, fun ys p srt stb np => ?_⟩
          · obtain ⟨b, e, rfl, hb⟩ := g_mem tD y hy
            exact ⟨b, rfl, by rw [kf_at hb]; exact hb⟩
          · have hys := fun y (hy : y ∈ ys) => g_mem tD y (stb.perm.mem_iff.mp hy)
            obtain ⟨us', rfl, tY⟩ := tat_of ys hys
            have pe : ((us'.map V.ref).map (gOf H3)).Perm (cs.map KL.srt) := by
              have z := stb.perm.map (gOf H3)
              rw [g_map tD] at z
              exact z
            have s4 := same_new (o := .lst (us'.map V.ref)) (Same.refl H3) np
            refine ⟨p, us', _, _, _, _, rfl, e02.trans (e3.trans s4), upd_same, tY.same s4, ⟨fun e he => ?_, pe.nodup_iff.mpr hc.nd, sorted_of _ hys srt, KL.conn_srt cn pe⟩, pe⟩
            obtain ⟨c, hcm, rfl⟩ := List.mem_map.mp (pe.mem_iff.mp he)
            obtain ⟨c1, c2, c3⟩ := hc.lt c hcm
            refine ⟨KL.srt_lt c3, ?_⟩
            unfold KL.srt
            simp only
            omega
    · obtain ⟨p, us, es, y5, y6, y7, rfl, eM, hp, tU, ok, pe⟩ := hM
      have esl : es.length = cs.length := by rw [pe.length_eq, List.length_map]
      refine ⟨_, rfl, _, rfl, n, p, us, es, rfl, by omega, n5, hp, tU, by omega, fun e he => ?_, ok.conn, fun H5 e5 => ⟨_, rfl, iteF ?_⟩⟩
      · obtain ⟨l1, l2⟩ := ok.lt e he
        exact ⟨by omega, l2⟩
      have b5 : But x H H5 := fun b o _ hb => e5 _ _ (eM _ _ hb)
      have hx5 := e5 _ _ (eM _ _ hx)
      have hp5 := e5 _ _ hp
      have tU5 := tU.same e5
      have har5 := (har.same eM).same e5
      -- cells
      refine ⟨_, rfl, _, rfl, x, a.C, dx, _, rfl, hx5, T.cl, T.nA _ (by decide), by show 0 < 1000; decide, ?_⟩
      have b6 := b5.put (.ins a.C dx (putF "cells" (.int (n : Nat)) []))
      have hx6 : upd H5 x (.ins a.C dx (putF "cells" (.int (n : Nat)) [])) x = _ := upd_same
      have hp6 := keepNI (o' := .ins a.C dx (putF "cells" (.int (n : Nat)) [])) hx5 hp5 fun _ _ _ e => by cases e
      have tU6 := tU5.ni hx5 (.ins a.C dx (putF "cells" (.int (n : Nat)) []))
      have har6 := har5.ni hx5 (.ins a.C dx (putF "cells" (.int (n : Nat)) []))
      generalize upd H5 x (.ins a.C dx (putF "cells" (.int (n : Nat)) [])) = H6 at b6 hx6 hp6 tU6 har6 ⊢
      -- neighbours
      refine ⟨_, rfl, p, us.map V.ref, rfl, .inl ⟨.inl (.inl hp6), fun tn ntn => ?_⟩⟩
      have s7 := same_new (o := .tup (us.map V.ref)) (Same.refl H6) ntn
      have b7 := b6.same s7
      have hx7 := s7 _ _ hx6
      refine ⟨_, rfl, x, a.C, dx, _, rfl, hx7, T.cl, T.nA _ (by decide), by show 1 < 1000; decide, ?_⟩
      have b8 := b7.put (.ins a.C dx (putF "neighbours" (.ref tn) (putF "cells" (.int (n : Nat)) [])))
      have hx8 : upd (upd H6 tn (.tup (us.map V.ref))) x (.ins a.C dx (putF "neighbours" (.ref tn) (putF "cells" (.int (n : Nat)) []))) x = _ := upd_same
      have hp8 := keepNI (o' := .ins a.C dx (putF "neighbours" (.ref tn) (putF "cells" (.int (n : Nat)) []))) hx7 (s7 _ _ hp6) fun _ _ _ e => by cases e
      have tU8 := (tU6.same s7).ni hx7 (.ins a.C dx (putF "neighbours" (.ref tn) (putF "cells" (.int (n : Nat)) [])))
      have har8 := (har6.same s7).ni hx7 (.ins a.C dx (putF "neighbours" (.ref tn) (putF "cells" (.int (n : Nat)) [])))
      have hn8 := keepNI (o' := .ins a.C dx (putF "neighbours" (.ref tn) (putF "cells" (.int (n : Nat)) []))) hx7 (show upd H6 tn (.tup (us.map V.ref)) tn = _ from upd_same) fun _ _ _ e => by cases e
      generalize upd (upd H6 tn (.tup (us.map V.ref))) x (.ins a.C dx (putF "neighbours" (.ref tn) (putF "cells" (.int (n : Nat)) []))) = H8 at b8 hx8 hp8 tU8 har8 hn8 ⊢
      -- roads
      have harI : SqOf H8 ar ((lot.map fun c => ((c : Nat) : Int)).map V.int) := by rw [← ints_map]; exact har8
      refine ⟨_, rfl, ar, lot.map fun c => ((c : Nat) : Int), rfl, harI.sq, by rw [List.length_map]; omega, fun ms pl pm so npl => ⟨pl, _, rfl, .inl ⟨.inl (.inl upd_same), fun tr ntr => ?_⟩⟩⟩
      have ems := ints_back pm
      have e12 : ms.map V.int = ints_ (ms.map Int.toNat) := by rw [ints_map, ← ems]
      rw [e12] at ntr ⊢
      have prd : (ms.map Int.toNat).Perm lot := by
        have z := pm.map Int.toNat
        rw [List.map_map] at z
        exact z.trans (List.Perm.of_eq ((List.map_congr_left fun c _ => rfl).trans (List.map_id lot)))
      have srd : (ms.map Int.toNat).Pairwise (· ≤ ·) := by
        rw [List.pairwise_map]
        exact so.imp fun {a b} h => by omega
      generalize ms.map Int.toNat = rd at prd srd ntr ⊢
      have s9 := same_new (o := .lst (ints_ rd)) (Same.refl H8) npl
      have s10 := same_new (o := .tup (ints_ rd)) s9 ntr
      have hr10 : upd (upd H8 pl (.lst (ints_ rd))) tr (.tup (ints_ rd)) tr = some (.tup (ints_ rd)) := upd_same
      generalize upd (upd H8 pl (.lst (ints_ rd))) tr (.tup (ints_ rd)) = H10 at s10 hr10 ⊢
      have hx10 := s10 _ _ hx8
      refine ⟨_, rfl, x, a.C, dx, _, rfl, hx10, T.cl, T.nA _ (by decide), by show 2 < 1000; decide, ?_⟩
      have b11 := (b8.same s10).put (.ins a.C dx (putF "roads" (.ref tr) (putF "neighbours" (.ref tn) (putF "cells" (.int (n : Nat)) []))))
      have hx11 : upd H10 x (.ins a.C dx (putF "roads" (.ref tr) (putF "neighbours" (.ref tn) (putF "cells" (.int (n : Nat)) [])))) x = _ := upd_same
      have hp11 := keepNI (o' := .ins a.C dx (putF "roads" (.ref tr) (putF "neighbours" (.ref tn) (putF "cells" (.int (n : Nat)) [])))) hx10 (s10 _ _ hp8) fun _ _ _ e => by cases e
      have tU11 := (tU8.same s10).ni hx10 (.ins a.C dx (putF "roads" (.ref tr) (putF "neighbours" (.ref tn) (putF "cells" (.int (n : Nat)) []))))
      have hn11 := keepNI (o' := .ins a.C dx (putF "roads" (.ref tr) (putF "neighbours" (.ref tn) (putF "cells" (.int (n : Nat)) [])))) hx10 (s10 _ _ hn8) fun _ _ _ e => by cases e
      have hr11 := keepNI (o' := .ins a.C dx (putF "roads" (.ref tr) (putF "neighbours" (.ref tn) (putF "cells" (.int (n : Nat)) [])))) hx10 hr10 fun _ _ _ e => by cases e
      generalize upd H10 x (.ins a.C dx (putF "roads" (.ref tr) (putF "neighbours" (.ref tn) (putF "cells" (.int (n : Nat)) [])))) = H11 at b11 hx11 hp11 tU11 hn11 hr11 ⊢
      -- nearby
      refine ⟨_, rfl, _, rfl, n, p, us, es, rfl, n5, hp11, tU11, by omega, fun H12 ty uy s12 nty hy12 tY12 => ?_⟩
      have hx12 := s12 _ _ hx11
      refine ⟨_, rfl, x, a.C, dx, _, rfl, hx12, T.cl, T.nA _ (by decide), by show 3 < 1000; decide, ?_⟩
      have b13 := (b11.same s12).put (.ins a.C dx (putF "nearby" (.ref ty) (putF "roads" (.ref tr) (putF "neighbours" (.ref tn) (putF "cells" (.int (n : Nat)) [])))))
      have hx13 : upd H12 x (.ins a.C dx (putF "nearby" (.ref ty) (putF "roads" (.ref tr) (putF "neighbours" (.ref tn) (putF "cells" (.int (n : Nat)) []))))) x = _ := upd_same
      have tU13 := (tU11.same s12).ni hx12 (.ins a.C dx (putF "nearby" (.ref ty) (putF "roads" (.ref tr) (putF "neighbours" (.ref tn) (putF "cells" (.int (n : Nat)) [])))))
      have tY13 := tY12.ni hx12 (.ins a.C dx (putF "nearby" (.ref ty) (putF "roads" (.ref tr) (putF "neighbours" (.ref tn) (putF "cells" (.int (n : Nat)) [])))))
      have hn13 := keepNI (o' := .ins a.C dx (putF "nearby" (.ref ty) (putF "roads" (.ref tr) (putF "neighbours" (.ref tn) (putF "cells" (.int (n : Nat)) []))))) hx12 (s12 _ _ hn11) fun _ _ _ e => by cases e
      have hr13 := keepNI (o' := .ins a.C dx (putF "nearby" (.ref ty) (putF "roads" (.ref tr) (putF "neighbours" (.ref tn) (putF "cells" (.int (n : Nat)) []))))) hx12 (s12 _ _ hr11) fun _ _ _ e => by cases e
      have hy13 := keepNI (o' := .ins a.C dx (putF "nearby" (.ref ty) (putF "roads" (.ref tr) (putF "neighbours" (.ref tn) (putF "cells" (.int (n : Nat)) []))))) hx12 hy12 fun _ _ _ e => by cases e
      generalize upd H12 x (.ins a.C dx (putF "nearby" (.ref ty) (putF "roads" (.ref tr) (putF "neighbours" (.ref tn) (putF "cells" (.int (n : Nat)) []))))) = H13 at b13 hx13 tU13 hn13 hr13 hy13 tY13 ⊢
      -- couples
      refine ⟨_, rfl, _, rfl, by omega, by omega, fun D hD => K7E.out_range (lo := 0) (n := n) (fun i H' => Same H13 H' ∧ ∃ vs, H' D = some (.lst (vs.map V.ref)) ∧ TAt H' vs (pairs (upC n i)) ∧ vs.length ≤ i * n) ⟨same_new (Same.refl H13) hD, [], upd_same, .nil, Nat.zero_le _⟩ (fun i H' hi pv => ?_) (fun H' pv => ?_)⟩
      · obtain ⟨e14, vs, hD14, tV, lv⟩ := pv
        refine ⟨rfl, _, rfl, _, rfl, by omega, by omega, K7E.in_range (lo := 0) (n := n) (fun j H'' => Same H13 H'' ∧ ∃ vs, H'' D = some (.lst (vs.map V.ref)) ∧ TAt H'' vs (pairs (upC n i ++ rowC n i j)) ∧ vs.length ≤ i * n + j) ⟨e14, vs, hD14, ?_, lv⟩ (fun j H'' hj pv => ?_) (fun H'' pv => ?_)⟩
        · show TAt H' vs (pairs (upC n i ++ []))
          rw [List.append_nil]
          exact tV
        · obtain ⟨e15, vs, hD15, tV, lv⟩ := pv
          refine ⟨rfl, _, rfl, _, rfl, rfl, _, rfl, ?_⟩
          by_cases hij : i = j
          · subst hij
            have er : rowC n i (i + 1) = rowC n i i := by rw [rowC_succ, if_neg (fun h => h rfl), List.append_nil]
            have e16 : (!decide (V.int (0 + (i : Nat)) = V.int (0 + (i : Nat)))) = false := by rw [decide_eq_true rfl]; rfl
            rw [e16]
            refine iteF ⟨e15, vs, hD15, ?_, by omega⟩
            rw [er]
            exact tV
          · have er : rowC n i (j + 1) = rowC n i j ++ [(i, j)] := by rw [rowC_succ, if_pos hij]
            have e16 : (!decide (V.int (0 + (i : Nat)) = V.int (0 + (j : Nat)))) = true := by
              rw [decide_eq_false (fun h => by injection h with h; exact hij (by omega))]
              rfl
            have hin : i * n ≤ 25 := Nat.le_trans (Nat.mul_le_mul (Nat.le_of_lt (Nat.lt_of_lt_of_le hi n5)) n5) (by decide)
            rw [e16]
            refine iteT ⟨_, rfl, _, rfl, by show 2 ≤ sizeLine; decide, fun t nt => ?_⟩
            rw [er]
            have sT := same_new (o := .tup [.int (0 + (i : Nat)), .int (0 + (j : Nat))]) (Same.refl H'') nt
            have up : ∀ b xs, upd H'' t (.tup [.int (0 + (i : Nat)), .int (0 + (j : Nat))]) b = some (.tup xs) → upd (upd H'' t (.tup [.int (0 + (i : Nat)), .int (0 + (j : Nat))])) D (.lst (vs.map V.ref ++ [.ref t])) b = some (.tup xs) := fun b xs hb => by
              rw [upd_ne (fun z => by rw [z, sT _ _ hD15] at hb; cases hb)]
              exact hb
            refine ⟨_, sT _ _ hD15, by rw [List.length_map]; exact small1000 (by omega), fun b o hb => ?_, vs ++ [t], by rw [upd_same, List.map_append]; rfl, ?_, by rw [List.length_append, List.length_singleton]; omega⟩
            · rw [upd_ne (ne_of_none hb hD)]
              exact sT _ _ (e15 _ _ hb)
            · rw [← List.append_assoc]
              unfold pairs
              rw [List.map_append]
              refine ((tV.same sT).mono up).append (.cons (up _ _ ?_) .nil)
              rw [upd_same, Int.zero_add, Int.zero_add]
              rfl
        · obtain ⟨e15, vs, hD15, tV, lv⟩ := pv
          exact ⟨e15, vs, hD15, by rw [upC_succ]; exact tV, by rw [Nat.succ_mul]; exact lv⟩
      · obtain ⟨e14, vs, hD14, tV, lv⟩ := pv
        refine ⟨D, vs.map V.ref, rfl, .inl ⟨.inl (.inl hD14), fun tc ntc => ?_⟩⟩
        have sC := same_new (o := .tup (vs.map V.ref)) e14 ntc
        have hc14 : upd H' tc (.tup (vs.map V.ref)) tc = some (.tup (vs.map V.ref)) := upd_same
        have tV14 := tV.same (same_new (o := .tup (vs.map V.ref)) (Same.refl H') ntc)
        generalize upd H' tc (.tup (vs.map V.ref)) = H15 at sC hc14 tV14 ⊢
        have hx15 := sC _ _ hx13
        refine ⟨_, rfl, x, a.C, dx, _, rfl, hx15, T.cl, T.nA _ (by decide), by show 4 < 1000; decide, ?_⟩
        have no : ∀ (xs : List V) (C dx : Addr) fs, HO.tup xs ≠ .ins C dx fs := fun _ _ _ _ e => by cases e
        exact q _ es rd ((b13.same sC).put _) ⟨⟨dx, tn, tr, ty, tc, us, uy, vs, upd_same, keepNI hx15 (sC _ _ hn13) (no _), (tU13.same sC).ni hx15 _, keepNI hx15 (sC _ _ hr13) (no _), keepNI hx15 (sC _ _ hy13) (no _), (tY13.same sC).ni hx15 _, keepNI hx15 hc14 (no _), tV14.ni hx15 _⟩,
          n2, n5, ok, fun c hc => llt c (prd.mem_iff.mp hc), prd.nodup_iff.mpr lnd, srd, by rw [prd.length_eq]; exact l0, by rw [prd.length_eq]; exact ln⟩ pe prd
end
end K7
end
/-! ## P13 -/
section
open PySem PySem.Spec PyProof.Rows L2
namespace K7
abbrev N_Land_is_road : List Str := ["self", "cell"]
abbrev s_Land_is_road : Stmt := inClass (topS 23) 6
theorem sc_Land_is_road : FnScope ["self", "cell"] ["self", "cell"] (defScope s_Land_is_road) := ⟨rfl, rfl, rfl, by decide +kernel, rfl, by decide +kernel, by decide +kernel⟩
theorem near_get {n : Nat} {es : List (Nat × Nat)} {c : Nat} (h : c < n) : (nearV n es)[c]? = some ((List.range n).filter fun b => decide ((c, b) ∈ es) || decide ((b, c) ∈ es)) := by
  unfold nearV
  rw [List.getElem?_map, List.getElem?_range h]
  rfl
def nearOf (n : Nat) (es : List (Nat × Nat)) (c : Nat) : List Nat := (List.range n).filter fun b => decide ((c, b) ∈ es) || decide ((b, c) ∈ es)
/-- a cell, or what is no cell and is told so -/
def CellOr (B : Addr) (n : Nat) (H : Hp) (x : V) (E : XK) (q : Nat → Prop) : Prop := (∃ c, x = .int (c : Nat) ∧ c < n ∧ q c) ∨ (Thing H x ∧ wholeV x 0 ((n : Nat) - 1) = false ∧ Flies H B "cell" x E)
theorem whole_cell {n c : Nat} (h : c < n) : wholeV (.int (c : Nat)) 0 (((n : Nat) : Int) - 1) = true := by
  rw [wholeV_int, decide_eq_true (by omega), decide_eq_true (by omega)]
  rfl
theorem one_in {n c : Nat} (h : c < n) : AllIn n [.int (c : Nat)] := fun x hx => by
  rw [List.mem_singleton.mp hx]
  exact whole_cell h
section
variable {P : Program} {w : World} {K : PySem.W.Frag} {mg : Str → Option Value} {base : Heap} {a : AdL}
variable {fk : Addr} (Gck : FnR P w K mg base (L2.CX P w) 4 fk (spCheck a)) (gck : mg "check_cells" = some (.ref fk)) (kck : PySem.W.keepIn K (.ref fk) = true)
def spRoad (a : AdL) : Sp := fun vs H Q E => ∃ (p : Addr) (n : Nat) (es : List (Nat × Nat)) (rd : List Nat) (x : V), vs = [.ref p, x] ∧ LandO a.C H p n es rd ∧ CellOr a.B n H x E fun c => ∀ H', Same H H' → Q (.bl (decide (c ∈ rd))) H'
include Gck gck kck in
theorem ok_road (T : Tl K mg a) {f : Addr} {fd : FuncData} (F : Fun K "is_road" "Land.is_road" s_Land_is_road f fd) : FnOk P w K mg base (L2.CX P w) 5 f fd ["self", "cell"] (spRoad a) := by
  refine F.okX sc_Land_is_road (fun vs H Q E h => ?_) (fun cdv A outer s H vs Q E hr h => ?_)
  · obtain ⟨p, n, es, rd, x, rfl, _⟩ := h
    rfl
  · obtain ⟨p, n, es, rd, x, rfl, L, h⟩ := h
    refine ⟨_, (pss_cons (ps_expr (K7E.pe_callR0 Gck (hr.mono (by decide)) (by rfl) gck kck (passes_call (E := E) (takes_of rfl rfl rfl rfl) (fun _ _ _ _ h => h)) (pa_cons (pv 0) (pa_cons (pv 1) pa_nil))))
 (pss_one (ps_ret (pe_cmpR op_in_seq (pv 1) (pe_fld (pv 0) rfl) (by with_unfolding_all rfl))))), ?_⟩
    rcases h with ⟨c, rfl, hc, q⟩ | ⟨th, wf, fl⟩
    · refine ⟨_, rfl, _, rfl, p, n, [.int (c : Nat)], rfl, L.c, by show 1 < 64; decide, .inl ⟨fun y hy => by rw [List.mem_singleton.mp hy]; exact .flat (.int _), one_in hc, fun H1 e1 => ?_⟩⟩
      obtain ⟨dx, an, ar, ay, ac, tn, ty, tc, h1, h2, h3, h4, h5, h6, h7, h8⟩ := (L.same e1).at_
      refine ⟨_, rfl, _, rfl, p, a.C, dx, _, _, rfl, h1, T.cl, T.nA _ (by decide), rfl, ar, _, rfl, .inr (.inl (.inl h4)), rfl, flat_ints rd, ?_⟩
      show Q (.bl (inV (.int (c : Nat)) (ints_ rd))) H1
      rw [inV_ints]
      exact q _ e1
    · exact ⟨_, rfl, _, rfl, p, n, [x], rfl, L.c, by show 1 < 64; decide, .inr ⟨[], x, [], rfl, fun y hy => (nomatch hy), fun y hy => (nomatch hy), th, wf, fl⟩⟩
end
end K7
end
/-! ## EN -/
section
/-! x == y, x != y by x's own __eq__, x an instance of an own class without a __ne__. -/
namespace K7E
open PySem PySem.Spec PyProof.Rows L2
theorem slot_obj_ne : Slot "object" "__ne__" "object.__ne__" := .of (owner := "object") (n := "__ne__") (by rw [typeLookup_type, builtinLookup_eq_fast]; kernel_rfl) (by decide +kernel) (by decide +kernel) (by decide +kernel) (.inl (by decide +kernel)) (by rw [isSubtype_type]; kernel_rfl)
section
variable {prog : Program} {w : World} {A : Around} {E : Value → Shared → Prop} {s : Shared} {K : PySem.W.Frag} {x C L f : Addr} {h₀ : Heap} {m : Str → Option Value} {ox : Obj} {od : Option Obj} {b tb : Value}
open PySem.W in
theorem ne_K {Q : Value → Shared → Prop} (hu : A.units + 1 < cLine) (FF : Fr h₀ L s.heap m) (X₀ : K.In h₀) (I : InstAt s.heap x ox C od) (hb : Looks (model prog w) s.heap (typeOf b) tb) (hn : notFirst K C tb = true) (hm : mroIn K C (.type "object") = some true)
    (hs : findIn K (.ref C) "__ne__" = some (some (.builtin "object.__ne__"))) (he : findIn K (.ref C) "__eq__" = some (some (.ref f))) (hf : isFn K (.ref f) = true)
    (h : wpAny (model prog w) A.in1 (call (.ref f) [.ref x, b]) (fun v s' => ∃ c, v = .bool c ∧ Q (.bool (!c)) s') E s) : wpAny (model prog w) A (richCompare .NotEq (.ref x) b) Q E s := by
  have X := X₀.keeps FF.keep
  have inner : wpAny (model prog w) A.in1 (Builtin.«object.__ne__» ⟨[.ref x, b], []⟩) (fun fin s' => ∃ c, fin = .done (.ret (.bool (!c))) ∧ Q (.bool (!c)) s') E s := by
    unfold Builtin.«object.__ne__»
    repeat (first
      | with_reducible refine wpAny_cRoomFor (show A.in1.units < cLine from hu) ?_
      | (refine wpAny_bind (m := callSpecialIfBound? (.ref x) (Str.ofString "__eq__") [b]) (ifBound_K X I he hf (wpAny_mono h (fun r s' hr => by
          obtain ⟨c, rfl, hq⟩ := hr
          repeat (first | exact ⟨c, rfl, hq⟩ | exact wpAny_pure ⟨c, rfl, hq⟩ | exact wpAny_truthy_bool ⟨c, rfl, hq⟩ | (refine wpAny_bind (m := truthy (.bool _)) (wpAny_truthy_bool ?_)) | wp_step)) fun _ _ e => e)))
      | wp_step)
  have mid : wpAny (model prog w) A (callSpecialIfBound? (.ref x) "__ne__" [b]) (fun r s' => ∃ c, r = some (.bool (!c)) ∧ Q (.bool (!c)) s') E s := by
    simp only [callSpecialIfBound?, bindSpecialIfBound?]
    refine wpAny_holding (wpAny_bind (wpAny_bind (wpAny_bind (I.type.here ((looks_findIn X hs).here ?_)))))
    simp only [slot_obj_ne.bind]
    refine wpAny_bind (wpAny_askSetting (wpAny_ite ?_))
    have fin : wpAny (model prog w) A (call (.builtin "object.__ne__") ([.ref x] ++ [b]) >>= fun v => pure (some v)) (fun r s' => ∃ c, r = some (.bool (!c)) ∧ Q (.bool (!c)) s') E s := by
      refine wpAny_bind (wpAny_call (codeAny_call_builtin slot_obj_ne.plain F.cmpEntry_ne (check_slot F.cmpKind_ne F.cmpSplit_ne (I.type.andThen (looks_mroIn X hm)) (F.cmpArgs_ne _ _) (wpAny_mono inner (fun fin s' z => ?_) fun _ _ e => e))))
      obtain ⟨c, rfl, hq⟩ := z
      exact wpAny_pure ⟨c, rfl, hq⟩
    split
    · exact wpAny_bind (wpAny_pure (wpAny_pure fin))
    · exact wpAny_tryCatch (wpAny_bind (wpAny_pure (wpAny_pure fin)))
  have one : wpAny (model prog w) A (tryCompare (.ref x) "__ne__" b) (fun r s' => ∃ c, r = some (.bool (!c)) ∧ Q (.bool (!c)) s') E s := by
    simp only [tryCompare]
    refine wpAny_bind (wpAny_mono mid (fun r s' ⟨c, er, hq⟩ => ?_) fun _ _ e => e)
    rw [er]
    exact wpAny_pure ⟨c, rfl, hq⟩
  unfold richCompare
  simp only [oneThing_ref]
  refine wpAny_holding (wpAny_bind (wpAny_cRoomFor (Nat.lt_of_succ_lt hu) (wpAny_bind (I.type.here (wpAny_bind (hb.here ?_))))))
  rw [cmpInfo_NotEq]
  dsimp only
  have last : wpAny (model prog w) A (tryCompare (.ref x) "__ne__" b) (fun r s' => ∃ c, r = some (.bool (!c)) ∧ Q (.bool (!c)) s') E s := one
  split
  · rename_i q
    have e : subIn K tb (.ref C) = some false := by
      rcases Bool.or_eq_true_iff.mp hn with e | e
      · rw [beq_iff_eq.mp e] at q; simp at q
      · exact beq_iff_eq.mp e
    refine wpAny_bind ((looks_subIn X e).here ?_)
    simp only [Bool.false_eq_true, if_false]
    refine wpAny_bind (wpAny_mono last (fun r s' ⟨c, er, hq⟩ => ?_) fun _ _ e => e)
    rw [er]
    exact wpAny_pure hq
  · refine wpAny_bind (wpAny_pure ?_)
    simp only [Bool.false_eq_true, if_false]
    refine wpAny_bind (wpAny_mono last (fun r s' ⟨c, er, hq⟩ => ?_) fun _ _ e => e)
    rw [er]
    exact wpAny_pure hq
end
/-! ### x == y by x's own __eq__ -/
def rEqO (K : PySem.W.Frag) (C : Addr) (sp : Sp) (E : XK) : R2 := fun x y H Q => ∃ (a dx : Addr) (fs : List (Str × V)) (b : Addr) (t : Value), x = .ref a ∧ y = .ref b ∧ H a = some (.ins C dx fs) ∧ TyX K H y t ∧ PySem.W.notFirst K C t = true ∧ sp [x, y] H Q E
section
variable {X : Cx}
theorem op_eqOwn {CX : CXT} {C g : Addr} {fd : FuncData} {ps : List Str} {sp : Sp} {E : XK} {n : Nat} (F : FnOk X.prog X.w X.K X.mg X.base CX n g fd ps sp) (hs : PySem.W.findIn X.K (.ref C) "__eq__" = some (some (.ref g))) (hf : PySem.W.isFn X.K (.ref g) = true) (hb : Binds X.K fd ps [])
    (hr : Room n X.A) (hx : Passes CX X E) : OpR X (compareOp .Eq) (rEqO X.K C sp E) := by
  intro pins s σ H x y v u Q I rx ry h
  obtain ⟨a, dx, fs, b, t, rfl, rfl, ha, ty, hn, q⟩ := h
  cases (show v = Value.ref a from rx)
  cases (show u = Value.ref b from ry)
  obtain ⟨mA, J, _⟩ := ins_get I.hok ha
  obtain ⟨od, J, _⟩ := J.look
  obtain ⟨P, Z, hp, hne⟩ := kit_of I (show RelV (.ref b) (Value.ref b) from rfl) ty
  obtain ⟨m, hF⟩ := I.fr
  have hl := F.len _ _ _ _ q
  have r2 : Vals [V.ref a, V.ref b] [Value.ref a, Value.ref b] := .cons rfl (.cons rfl .nil)
  refine PySem.W.cmp_K (op := .Eq) (tb := t) hr.units0 hF I.ok.mod.kin J (Z.ty _ _ I.kIn hp) hn hs hf ?_
  refine wpAny_mono (wpAny_call (run_fnR (us := [.ref a, .ref b]) (vs := [.ref a, .ref b]) (F.raw hb .nil) hr hx I r2 q)) (fun w s' z => ?_) fun _ _ x => x
  obtain ⟨z', H', I', rz, qz⟩ := z
  exact SlX.cmpback rz ⟨z', H', I', rz, qz⟩
/-- x != y -/
theorem op_neOwn {CX : CXT} {C g : Addr} {fd : FuncData} {ps : List Str} {sp : Sp} {E : XK} {n : Nat} (F : FnOk X.prog X.w X.K X.mg X.base CX n g fd ps sp) (hs : PySem.W.findIn X.K (.ref C) "__ne__" = some (some (.builtin "object.__ne__"))) (hm : PySem.W.mroIn X.K C (.type "object") = some true)
    (he : PySem.W.findIn X.K (.ref C) "__eq__" = some (some (.ref g))) (hf : PySem.W.isFn X.K (.ref g) = true) (hb : Binds X.K fd ps []) (hr : Room (n + 1) X.A) (hx : Passes CX X E) : OpR X (compareOp .NotEq) (fun x y H Q => ∃ (a dx : Addr) (fs : List (Str × V)) (b : Addr) (t : Value), x = .ref a ∧ y = .ref b ∧ H a = some (.ins C dx fs) ∧ TyX X.K H y t ∧ PySem.W.notFirst X.K C t = true ∧ sp [x, y] H (fun z H' => ∃ c, z = .bl c ∧ Q (.bl (!c)) H') E) := by
  intro pins s τ H x y v u Q I rx ry h
  obtain ⟨a, dx, fs, b, t, rfl, rfl, ha, ty, hn, q⟩ := h
  cases (show v = Value.ref a from rx)
  cases (show u = Value.ref b from ry)
  obtain ⟨mA, J, _⟩ := ins_get I.hok ha
  obtain ⟨od, J, _⟩ := J.look
  obtain ⟨P, Z, hp, hne⟩ := kit_of I (show RelV (.ref b) (Value.ref b) from rfl) ty
  obtain ⟨m, hF⟩ := I.fr
  have hl := F.len _ _ _ _ q
  have r2 : Vals [V.ref a, V.ref b] [Value.ref a, Value.ref b] := .cons rfl (.cons rfl .nil)
  have hu : X.A.units + 1 < cLine := by have := hr.un; omega
  refine ne_K (tb := t) hu hF I.ok.mod.kin J (Z.ty _ _ I.kIn hp) hn hm hs he hf ?_
  refine wpAny_call (codeAny_mono (F.run X.A.in1 X.stack s H ⟨[.ref a, .ref b], []⟩ [.ref a, .ref b] [.ref a, .ref b] _ E hr.in1 I.env0.in1 (hb s [.ref a, .ref b] I.kIn hl) r2 q) fun r s' hq => ?_)
  cases r with
  | error e => exact hx pins τ H s e s' I hq
  | ok fl =>
    cases fl with
    | ret u =>
      obtain ⟨z', H', I', rz, c, ez, qz⟩ := I.after hq
      subst ez
      cases (show u = Value.bool c from rz)
      exact ⟨c, rfl, .bl (!c), H', I', rfl, qz⟩
    | next => exact False.elim hq
    | brk => exact False.elim hq
    | cont => exact False.elim hq
end
end K7E
end
/-! ## P14 -/
section
open PySem PySem.Spec PyProof.Rows L2
namespace K7
abbrev N_opens : List Str := ["land", "cell", "passing", "b"]
abbrev s_opens : Stmt := topS 30
theorem sc_opens : FnScope ["land", "cell", "passing", "b"] ["land", "cell", "passing"] (defScope s_opens) := ⟨rfl, rfl, rfl, by decide +kernel, rfl, by decide +kernel, by decide +kernel⟩
abbrev N_near_roads : List Str := ["land", "cell", "b"]
abbrev s_near_roads : Stmt := topS 34
theorem sc_near_roads : FnScope ["land", "cell", "b"] ["land", "cell"] (defScope s_near_roads) := ⟨rfl, rfl, rfl, by decide +kernel, rfl, by decide +kernel, by decide +kernel⟩
abbrev N_sort_of : List Str := ["land", "cell", "near", "b"]
abbrev s_sort_of : Stmt := topS 33
theorem sc_sort_of : FnScope ["land", "cell", "near", "b"] ["land", "cell"] (defScope s_sort_of) := ⟨rfl, rfl, rfl, by decide +kernel, rfl, by decide +kernel, by decide +kernel⟩
/-! ### what a cell reaches -/
def edge (es : List (Nat × Nat)) (a b : Nat) : Prop := (a, b) ∈ es ∨ (b, a) ∈ es
theorem nb_edge {n : Nat} {es : List (Nat × Nat)} (ok : LandOk n es) {a b : Nat} : nbE (nearV n es) a b ↔ edge es a b := by
  constructor
  · rintro ⟨l, el, hb⟩
    have ha : a < n := by
      have z := (List.getElem?_eq_some_iff.mp el).1
      unfold nearV at z
      rw [List.length_map, List.length_range] at z
      exact z
    rw [near_get ha] at el
    obtain rfl := Option.some.inj el
    have z := (List.mem_filter.mp hb).2
    rcases Bool.or_eq_true_iff.mp z with q | q
    · exact .inl (of_decide_eq_true q)
    · exact .inr (of_decide_eq_true q)
  · intro h
    have lts : a < n ∧ b < n := by
      rcases h with z | z
      · obtain ⟨z1, z2⟩ := ok.lt _ z
        exact ⟨by have z1 : a < b := z1; have z2 : b < n := z2; omega, z2⟩
      · obtain ⟨z1, z2⟩ := ok.lt _ z
        exact ⟨z2, by have z1 : b < a := z1; have z2 : a < n := z2; omega⟩
    refine ⟨_, near_get lts.1, List.mem_filter.mpr ⟨List.mem_range.mpr lts.2, ?_⟩⟩
    rcases h with z | z
    · rw [decide_eq_true z]; rfl
    · rw [decide_eq_true z, Bool.or_true]
theorem found_iff {n : Nat} {es : List (Nat × Nat)} {ps fd : List Nat} {c : Nat} (ok : LandOk n es) (f : Found (nearV n es) ps c fd) (x : Nat) : x ∈ fd ↔ KL.Rch (edge es) ps c x := by
  constructor
  · exact fun h => (f.so x h).mono (fun a b => (nb_edge ok).mp) fun b hb => hb
  · intro h
    refine KL.Rch.mem h f.me fun a b ha e hp => ?_
    obtain ⟨l, el, hb⟩ := (nb_edge ok).mpr e
    exact f.cl a ha l el b hb hp
/-- the cells that are reached hold one of the road cells -/
def OpenV (es : List (Nat × Nat)) (rd ps : List Nat) (c : Nat) : Prop := ∃ x ∈ rd, KL.Rch (edge es) ps c x
section
variable {P : Program} {w : World} {K : PySem.W.Frag} {mg : Str → Option Value} {base : Heap} {a : AdL}
def spOpens (C : Addr) : Sp := fun vs H Q _ => ∃ (p : Addr) (n : Nat) (es : List (Nat × Nat)) (rd : List Nat) (c : Nat) (pa : Addr) (ps : List Nat), vs = [.ref p, .int (c : Nat), .ref pa] ∧ LandO C H p n es rd ∧ c < n ∧ SqOf H pa (ints_ ps) ∧
  ∀ H' b, Same H H' → (b = true ↔ OpenV es rd ps c) → Q (.bl b) H'
theorem ok_opens (T : Tl K mg a) {f fS : Addr} {fd fdS : FuncData} (F : Fun K "opens" "opens" s_opens f fd)
    (Gsp : FnOk P w K mg base CX0 1 fS fdS ["nearby", "cell", "passing"] spSpread) (gsp : mg "spread" = some (.ref fS)) (ksp : PySem.W.keepIn K (.ref fS) = true) (bsp : Binds K fdS ["nearby", "cell", "passing"] []) (m_any : mg "any" = none) : FnOk P w K mg base CX0 2 f fd ["land", "cell", "passing"] (spOpens a.C) := by
  refine F.ok sc_opens (fun vs H Q E h => ?_) (fun cdv A outer s H vs Q E hr h => ?_)
  · obtain ⟨p, n, es, rd, c, pa, ps, rfl, _⟩ := h
    rfl
  · obtain ⟨p, n, es, rd, c, pa, ps, rfl, L, hc, hpa, q⟩ := h
    refine ⟨_, (pss_one (ps_ret (pe_callB (cr_any rfl) (by rfl) m_any boot_any (pa_cons (pe_lc (own := [("b", 3)]) (g := gName 3) (tt := tYes) rfl sc_opens.nd (pi_list (pe_call Gsp (hr.mono (by decide)) (by rfl) gsp ksp bsp .nil pass0 (pa_cons (pe_fld (pv 0) rfl) (pa_cons (pv 1) (pa_cons (pv 2) pa_nil))))) (blkOk_by (own := [("b", 3)]) (N := N_opens) (sc := defScope s_opens) (by decide +kernel)) (fun _ _ _ _ _ => (pg_name (i := 3) sc_opens.nd rfl (by first | exact Or.inl rfl | exact Or.inr rfl))) (fun _ _ _ _ _ => pts_nil) (fun _ _ _ _ _ => (pe_cmpR (show OpR _ _ (rIn K false) from op_in_seq) (pv 3) (show PE _ _ (tFld K (tVar 0) "roads") from pe_fld (pv 0) rfl) (by with_unfolding_all rfl)))) pa_nil)))), ?_⟩
    have n5 := L.n5
    have L0 := L
    obtain ⟨dx, an, ar, ay, ac, tn, ty, tc, h1, h2, h3, h4, h5, h6, h7, h8⟩ := L.at_
    have ln : (nearV n es).length = n := by unfold nearV; rw [List.length_map, List.length_range]
    refine ⟨_, rfl, p, a.C, dx, _, _, rfl, h1, T.cl, T.nA _ (by decide), rfl, _, rfl, _, rfl, ay, ty, nearV n es, c, pa, ps, rfl, h5, h6, hpa, by omega, by omega, fun l hl x hx => ?_, fun H1 F0 fd e1 nF hF fo => ?_⟩
    · rw [ln]
      unfold nearV at hl
      obtain ⟨k, _, rfl⟩ := List.mem_map.mp hl
      exact List.mem_range.mp (List.mem_filter.mp hx).1
    · have fl : fd.length ≤ 5 := by
        have z := K7E.nodup_le fd (List.range n) fo.nd fun x hx => List.mem_range.mpr (by have z := fo.lt x hx; rw [ln] at z; exact z)
        rw [List.length_range] at z
        omega
      refine ⟨F0, rfl, ⟨_, .inl (.inl hF)⟩, fun D hD => lc_list (xs := ints_ fd) (fun j H2 => Same H1 H2 ∧ H2 D = some (.lst (((fd.take j).map fun x => decide (x ∈ rd)).map V.bl))) ⟨same_new (Same.refl H1) hD, upd_same⟩ (fun j H2 _ pv => .inl (.inl (pv.1 _ _ hF))) (fun j x H2 hx pv => ?_) (fun H2 pv => ?_)⟩
      · obtain ⟨e2, hD2⟩ := pv
        unfold ints_ at hx
        rw [List.getElem?_map] at hx
        obtain ⟨b, hb, rfl⟩ := Option.map_eq_some_iff.mp hx
        refine ⟨rfl, _, rfl, _, rfl, p, a.C, dx, _, _, rfl, e2 _ _ (e1 _ _ h1), T.cl, T.nA _ (by decide), rfl, ar, _, rfl, .inr (.inl (.inl (e2 _ _ (e1 _ _ h4)))), rfl, flat_ints rd, _, hD2, by rw [List.length_map, List.length_map, List.length_take]; exact small1000 (by omega), fun b o hb => ?_, ?_⟩
        · rw [upd_ne (ne_of_none hb hD)]
          exact e2 _ _ hb
        · rw [upd_same, List.take_add_one, hb, List.map_append, List.map_append]
          show some (HO.lst (_ ++ [V.bl (inV (.int (b : Nat)) (ints_ rd))])) = _
          rw [inV_ints]
          rfl
      · obtain ⟨e2, hD2⟩ := pv
        rw [show (ints_ fd).length = fd.length from List.length_map .., List.take_length] at hD2
        refine ⟨D, _, rfl, .inl (.inl hD2), q _ _ (e1.trans e2) ?_⟩
        rw [List.any_map, List.any_eq_true]
        constructor
        · rintro ⟨x, hx, hq⟩
          exact ⟨x, of_decide_eq_true hq, (found_iff L0.ok fo x).mp hx⟩
        · rintro ⟨x, hx, hq⟩
          exact ⟨x, (found_iff L0.ok fo x).mpr hq, decide_eq_true hx⟩
/-! near_roads -/
def nearR (n : Nat) (es : List (Nat × Nat)) (rd : List Nat) (c : Nat) : List Nat := (nearOf n es c).filter fun b => decide (b ∈ rd)
theorem filter_take {p : Nat → Bool} {l : List Nat} {j b : Nat} (h : l[j]? = some b) : (l.take (j + 1)).filter p = (l.take j).filter p ++ (if p b = true then [b] else []) := by
  rw [List.take_add_one, h, List.filter_append]
  show _ ++ ([b].filter p) = _
  rw [List.filter_cons]
  rfl
theorem nearR_len (n : Nat) (es : List (Nat × Nat)) (rd : List Nat) (c : Nat) : (nearOf n es c).length ≤ n := by
  unfold nearOf
  exact Nat.le_trans (List.length_filter_le _ _) (by rw [List.length_range]; exact Nat.le_refl _)
def spNearR (C : Addr) : Sp := fun vs H Q _ => ∃ (p : Addr) (n : Nat) (es : List (Nat × Nat)) (rd : List Nat) (c : Nat), vs = [.ref p, .int (c : Nat)] ∧ LandO C H p n es rd ∧ c < n ∧
  ∀ H' u, Same H H' → H' u = some (.tup (ints_ (nearR n es rd c))) → Q (.ref u) H'
theorem ok_nearR (T : Tl K mg a) {f : Addr} {fd : FuncData} (F : Fun K "near_roads" "near_roads" s_near_roads f fd) (m_tuple : mg "tuple" = none) : FnOk P w K mg base CX0 1 f fd ["land", "cell"] (spNearR a.C) := by
  refine F.ok sc_near_roads (fun vs H Q E h => ?_) (fun cdv A outer s H vs Q E hr h => ?_)
  · obtain ⟨p, n, es, rd, c, rfl, _⟩ := h
    rfl
  · obtain ⟨p, n, es, rd, c, rfl, L, hc, q⟩ := h
    refine ⟨_, (pss_one (ps_ret (pe_callTy call_tuple_of (by rfl) m_tuple boot_tuple (pa_cons (pe_lc (own := [("b", 2)]) (g := gName 2) rfl sc_near_roads.nd (pi_tup (pe_ix ix_tup (pe_fld (pv 0) rfl) (pv 1) (fun _ _ => rfl))) (blkOk_by (own := [("b", 2)]) (N := N_near_roads) (sc := defScope s_near_roads) (by decide +kernel)) (fun _ _ _ _ _ => (pg_name (i := 2) sc_near_roads.nd rfl (by first | exact Or.inl rfl | exact Or.inr rfl))) (fun _ _ _ _ _ => (pts_one (pt_cmpR (show OpR _ _ (rIn K false) from op_in_seq) (pv 2) (show PE _ _ (tFld K (tVar 0) "roads") from pe_fld (pv 0) rfl) (by with_unfolding_all rfl)))) (fun _ _ _ _ _ => (pv 2))) pa_nil)))), ?_⟩
    have n5 := L.n5
    obtain ⟨dx, an, ar, ay, ac, tn, ty, tc, h1, h2, h3, h4, h5, h6, h7, h8⟩ := L.at_
    have lt : c < ty.length := by rw [h6.len]; unfold nearV; rw [List.length_map, List.length_range]; exact hc
    obtain ⟨l, el, hl⟩ := h6.get (i := c) (List.getElem?_eq_getElem lt)
    rw [near_get hc] at el
    obtain rfl := Option.some.inj el
    have hl : H ty[c] = some (.tup (ints_ (nearOf n es c))) := hl
    have ll := nearR_len n es rd c
    refine ⟨_, rfl, p, a.C, dx, _, _, rfl, h1, T.cl, T.nA _ (by decide), rfl, _, rfl, ay, _, _, _, rfl, rfl, .inl (.inl h5), atI_nat (by rw [List.getElem?_map, List.getElem?_eq_getElem lt]; rfl), _, rfl, ⟨_, .inl (.inl hl)⟩, fun D hD => lc_tup (xs := ints_ (nearOf n es c)) (fun j H2 => Same H H2 ∧ H2 D = some (.lst (ints_ (((nearOf n es c).take j).filter fun b => decide (b ∈ rd))))) ⟨same_new (Same.refl H) hD, upd_same⟩ (fun j H2 _ pv => .inl (.inl (pv.1 _ _ hl))) (fun j x H2 hx pv => ?_) (fun H2 pv => ?_)⟩
    · obtain ⟨e2, hD2⟩ := pv
      unfold ints_ at hx
      rw [List.getElem?_map] at hx
      obtain ⟨b, hb, rfl⟩ := Option.map_eq_some_iff.mp hx
      refine ⟨rfl, _, rfl, _, rfl, p, a.C, dx, _, _, rfl, e2 _ _ h1, T.cl, T.nA _ (by decide), rfl, ar, _, rfl, .inr (.inl (.inl (e2 _ _ h4))), rfl, flat_ints rd, _, rfl, ?_⟩
      rw [show inV (.int (b : Nat)) (ints_ rd) = decide (b ∈ rd) from inV_ints b rd]
      have ft := filter_take (p := fun b => decide (b ∈ rd)) hb
      by_cases hm : b ∈ rd
      · rw [decide_eq_true hm] at ft ⊢
        rw [if_pos rfl] at ft
        refine iteT ⟨_, rfl, _, hD2, by unfold ints_; rw [List.length_map]; exact small1000 (Nat.le_trans (List.length_filter_le _ _) (by rw [List.length_take]; omega)), fun b o hb => ?_, ?_⟩
        · rw [upd_ne (ne_of_none hb hD)]
          exact e2 _ _ hb
        · rw [upd_same, ft, ints_snoc]
      · rw [decide_eq_false hm] at ft ⊢
        rw [if_neg (by decide), List.append_nil] at ft
        refine iteF ⟨e2, ?_⟩
        rw [ft]
        exact hD2
    · obtain ⟨e2, hD2⟩ := pv
      rw [show (ints_ (nearOf n es c)).length = (nearOf n es c).length from List.length_map .., List.take_length] at hD2
      exact ⟨D, _, rfl, .inl ⟨.inl (.inl hD2), fun u nu => q _ u (same_new e2 nu) upd_same⟩⟩
/-! sort_of -/
/-- the sort of a cell -/
def SortIs (n : Nat) (es : List (Nat × Nat)) (rd : List Nat) (c : Nat) (z : Str) : Prop :=
  (c ∈ rd ∧ z = "road") ∨ (c ∉ rd ∧ nearR n es rd c = [] ∧ z = "far") ∨ (c ∉ rd ∧ nearR n es rd c ≠ [] ∧ OpenV es rd ((List.range n).filter fun b => decide (b ∉ nearR n es rd c)) c ∧ z = "loose") ∨
  (c ∉ rd ∧ nearR n es rd c ≠ [] ∧ ¬ OpenV es rd ((List.range n).filter fun b => decide (b ∉ nearR n es rd c)) c ∧ z = "bound")
def spSort (a : AdL) : Sp := fun vs H Q E => ∃ (p : Addr) (n : Nat) (es : List (Nat × Nat)) (rd : List Nat) (x : V), vs = [.ref p, x] ∧ LandO a.C H p n es rd ∧ CellOr a.B n H x E fun c => ∀ H' z, Same H H' → SortIs n es rd c z → Q (.str z) H'
theorem ok_sort (T : Tl K mg a) {f fR fN fO : Addr} {fd fdR fdN fdO : FuncData} (F : Fun K "sort_of" "sort_of" s_sort_of f fd)
    (mRd : Meth K a.C "is_road" fR) (Grd : FnOk P w K mg base (L2.CX P w) 5 fR fdR ["self", "cell"] (spRoad a)) (bRd : Binds K fdR ["self", "cell"] [])
    (Gnr : FnOk P w K mg base CX0 1 fN fdN ["land", "cell"] (spNearR a.C)) (gnr : mg "near_roads" = some (.ref fN)) (knr : PySem.W.keepIn K (.ref fN) = true) (bnr : Binds K fdN ["land", "cell"] [])
    (Gop : FnOk P w K mg base CX0 2 fO fdO ["land", "cell", "passing"] (spOpens a.C)) (gop : mg "opens" = some (.ref fO)) (kop : PySem.W.keepIn K (.ref fO) = true) (bop : Binds K fdO ["land", "cell", "passing"] [])
    (m_range : mg "range" = none) : FnOk P w K mg base (L2.CX P w) 6 f fd ["land", "cell"] (spSort a) := by
  refine F.okX sc_sort_of (fun vs H Q E h => ?_) (fun cdv A outer s H vs Q E hr h => ?_)
  · obtain ⟨p, n, es, rd, x, rfl, _⟩ := h
    rfl
  · obtain ⟨p, n, es, rd, x, rfl, L, h⟩ := h
    refine ⟨_, (pss_cons (ps_if (pt_val (pe_meth (pv 0) T.cl mRd Grd (hr.mono (by decide)) bRd .nil (passes_call (E := E) (takes_of rfl rfl rfl rfl) (fun _ _ _ _ h => h)) (pa_cons (pv 1) pa_nil)))
  (pss_one (ps_ret pe_str))
  pss_nil)
 (pss_cons (ps_set (i := 2) sc_sort_of.nd rfl (by first | exact Or.inl rfl | exact Or.inr rfl) (pe_call Gnr (hr.mono (by decide)) (by rfl) gnr knr bnr .nil pass0 (pa_cons (pv 0) (pa_cons (pv 1) pa_nil))))
 (pss_cons (ps_if (pt_not (pt_truth (pv 2) (by intro _; rfl)))
  (pss_one (ps_ret pe_str))
  pss_nil)
 (pss_one (ps_ret (pe_ifExp (pt_val (pe_call Gop (hr.mono (by decide)) (by rfl) gop kop bop .nil pass0 (pa_cons (pv 0) (pa_cons (pv 1) (pa_cons (pe_lc (own := [("b", 3)]) (g := gName 3) rfl sc_sort_of.nd (pi_range1 rfl m_range (pa_cons (pe_fld (pv 0) rfl) pa_nil)) (blkOk_by (own := [("b", 3)]) (N := N_sort_of) (sc := defScope s_sort_of) (by decide +kernel)) (fun _ _ _ _ _ => (pg_name (i := 3) sc_sort_of.nd rfl (by first | exact Or.inl rfl | exact Or.inr rfl))) (fun _ _ _ _ _ => (pts_one (pt_cmpR (show OpR _ _ (rIn K true) from op_notIn_seq) (pv 3) (pv 2) (by with_unfolding_all rfl)))) (fun _ _ _ _ _ => (pv 3))) pa_nil))))) pe_str pe_str)))))), ?_⟩
    have n5 := L.n5
    obtain ⟨dx, an, ar, ay, ac, tn, ty, tc, h1, _⟩ := L.at_
    rcases h with ⟨c, rfl, hc, q⟩ | ⟨th, wf, fl⟩
    rotate_left
    · exact ⟨_, rfl, p, dx, _, rfl, h1, rfl, _, rfl, p, n, es, rd, x, rfl, L, .inr ⟨th, wf, fl⟩⟩
    · refine ⟨_, rfl, p, dx, _, rfl, h1, rfl, _, rfl, p, n, es, rd, _, rfl, L, .inl ⟨c, rfl, hc, fun H1 e1 => ⟨_, rfl, ?_⟩⟩⟩
      by_cases hm : c ∈ rd
      · rw [decide_eq_true hm]
        exact iteT (q _ _ e1 (.inl ⟨hm, rfl⟩))
      · rw [decide_eq_false hm]
        refine iteF ?_
        have L1 := L.same e1
        refine ⟨_, rfl, _, rfl, p, n, es, rd, c, rfl, L1, hc, fun H2 u e2 hu => ?_⟩
        have L2 := L1.same e2
        have e12 := e1.trans e2
        refine ⟨_, rfl, !(ints_ (nearR n es rd c)).isEmpty, .inr (.inl ⟨_, .inl (.inl hu), rfl⟩), ?_⟩
        by_cases hn : nearR n es rd c = []
        · rw [hn]
          exact iteT (q _ _ e12 (.inr (.inl ⟨hm, hn, rfl⟩)))
        · have he : (ints_ (nearR n es rd c)).isEmpty = false := by
            cases z : nearR n es rd c with
            | nil => exact absurd z hn
            | cons => rfl
          rw [he]
          refine iteF ?_
          obtain ⟨dx2, an2, ar2, ay2, ac2, tn2, ty2, tc2, g1, _⟩ := L2.at_
          refine ⟨_, rfl, _, rfl, ?_⟩
          refine ⟨_, rfl, p, a.C, dx2, _, _, rfl, g1, T.cl, T.nA _ (by decide), rfl, _, rfl, by omega, by omega, fun D hD => lc_range (lo := 0) (n := n) (fun i H3 => Same H2 H3 ∧ H3 D = some (.lst (ints_ ((List.range i).filter fun b => decide (b ∉ nearR n es rd c))))) ⟨same_new (Same.refl H2) hD, upd_same⟩ (fun i H3 hi pv => ?_) (fun H3 pv => ?_)⟩
          · obtain ⟨e3, hD3⟩ := pv
            refine ⟨rfl, _, rfl, _, rfl, u, _, rfl, .inr (.inl (.inl (e3 _ _ hu))), rfl, flat_ints _, _, rfl, ?_⟩
            have ev : inV (.int (0 + (i : Nat))) (ints_ (nearR n es rd c)) = decide (i ∈ nearR n es rd c) := by rw [Int.zero_add]; exact inV_ints i _
            rw [ev]
            by_cases hi2 : i ∈ nearR n es rd c
            · rw [decide_eq_true hi2]
              refine iteF ⟨e3, ?_⟩
              rw [range_filter, if_neg (by rw [decide_eq_false (by simpa using hi2)]; decide), List.append_nil]
              exact hD3
            · rw [decide_eq_false hi2]
              refine iteT ⟨_, rfl, _, hD3, by unfold ints_; rw [List.length_map]; exact small1000 (Nat.le_trans (List.length_filter_le _ _) (by rw [List.length_range]; omega)), fun b o hb => ?_, ?_⟩
              · rw [upd_ne (ne_of_none hb hD)]
                exact e3 _ _ hb
              · rw [upd_same, range_filter, if_pos (decide_eq_true hi2), Int.zero_add, ints_snoc]
          · obtain ⟨e3, hD3⟩ := pv
            refine ⟨p, n, es, rd, c, D, _, rfl, L2.same e3, hc, .inr hD3, fun H4 b e4 hb => ⟨_, rfl, ?_⟩⟩
            cases b with
            | true => exact iteT (q _ _ (e12.trans (e3.trans e4)) (.inr (.inr (.inl ⟨hm, hn, hb.mp rfl, rfl⟩))))
            | false => exact iteF (q _ _ (e12.trans (e3.trans e4)) (.inr (.inr (.inr ⟨hm, hn, fun z => Bool.noConfusion (hb.mpr z), rfl⟩))))
end
end K7
end
/-! ## P15 -/
section
open PySem PySem.Spec PyProof.Rows L2
namespace K7
theorem eqv_ints : ∀ l m : List Nat, PyData.eqvAll (l.map fun c => PyData.int (c : Nat)) (m.map fun c => PyData.int (c : Nat)) = decide (l = m)
  | [], [] => rfl
  | [], _ :: _ => by simp [PyData.eqvAll]
  | _ :: _, [] => by simp [PyData.eqvAll]
  | x :: l, y :: m => by
    rw [List.map_cons, List.map_cons, PyData.eqvAll, eqv_ints l m]
    by_cases e : x = y
    · subst e
      simp [PyData.eqv]
    · have e2 : ¬ ((x : Nat) : Int) = (y : Nat) := by omega
      simp [PyData.eqv, e, e2]
theorem eqv_intD (l m : List Nat) : PyData.eqv (intD l) (intD m) = decide (l = m) := by
  unfold intD
  rw [PyData.eqv, eqv_ints]
theorem eqv_rows : ∀ es fs : List (Nat × Nat), PyData.eqvAll ((pairs es).map intD) ((pairs fs).map intD) = decide (es = fs)
  | [], [] => rfl
  | [], _ :: _ => by simp [pairs, PyData.eqvAll]
  | _ :: _, [] => by simp [pairs, PyData.eqvAll]
  | e :: es, f :: fs => by
    show PyData.eqvAll (intD [e.1, e.2] :: (pairs es).map intD) (intD [f.1, f.2] :: (pairs fs).map intD) = _
    rw [PyData.eqvAll, eqv_intD, eqv_rows es fs]
    obtain ⟨a, b⟩ := e
    obtain ⟨c, d⟩ := f
    by_cases h1 : a = c <;> by_cases h2 : b = d <;> by_cases h3 : es = fs <;> simp [h1, h2, h3]
theorem shapedT_rows (ls : List (List Nat)) : SeqAt.shaped (.tuple (ls.map intD)) = true := by
  have z : ((PyData.canLay0 (.list (ls.map intD))) && decide (PyData.depth (.list (ls.map intD)) ≤ 64)) = true := shaped_rows ls
  show ((PyData.canLay0 (.tuple (ls.map intD))) && decide (PyData.depth (.tuple (ls.map intD)) ≤ 64)) = true
  simpa [PyData.canLay0, PyData.depth] using z
section
variable {a : AdL}
theorem new_land {H1 : Hp} {Q : VK} {E : XK} {n : Nat} {an : Addr} {ts : List Addr} {cs : List (Nat × Nat)} {ar : Addr} {lot : List Nat} (n2 : 2 ≤ n) (n5 : n ≤ 5) (han : SqOf H1 an (ts.map V.ref)) (hT : CoAll H1 ts cs) (hc : Cos n cs) (cn : KL.Conn n cs) (har : SqOf H1 ar (ints_ lot)) (llt : ∀ c ∈ lot, c < n) (lnd : lot.Nodup) (l0 : 0 < lot.length) (ln : lot.length < n)
    (q : ∀ H' x es rd, Same H1 H' → H1 x = none → LandO a.C H' x n es rd → es.Perm (cs.map KL.srt) → rd.Perm lot → Q (.ref x) H') :
    ∀ x dx, H1 x = none → H1 dx = none → dx ≠ x → spLandI a (.ref x :: ([.int (n : Nat), .ref an, .ref ar] ++ [])) (upd (upd H1 dx (.own x)) x (.ins a.C dx [])) (fun v H2 => v = .non ∧ Q (.ref x) H2) E := by
  intro x dx hx hdx hne
  have e : Same H1 (upd (upd H1 dx (.own x)) x (.ins a.C dx [])) := same_new (same_new (Same.refl H1) hdx) (by rw [upd_ne hne.symm]; exact hx)
  refine ⟨x, dx, n, an, ts, cs, ar, lot, rfl, upd_same, n2, n5, han.same e, hT.same e, hc, cn, har.same e, llt, lnd, l0, ln, fun H' es rd b L pe pr => ⟨rfl, q H' x es rd (fun z o hz => ?_) hx L pe pr⟩⟩
  exact b z o (ne_of_none hz hx) (e _ _ hz)
theorem es_is {n : Nat} {es cs : List (Nat × Nat)} (ok : LandOk n es) (p : es.Perm cs) (hs : cs.Pairwise KL.lexLe) : es = cs := KL.uniq KL.lex_anti p (ok.sorted.imp fun h => h) hs
theorem rd_is {rd lot : List Nat} (hr : rd.Pairwise (· ≤ ·)) (p : rd.Perm lot) (hs : lot.Pairwise (· ≤ ·)) : rd = lot := KL.uniq (fun a b (h1 : a ≤ b) (h2 : b ≤ a) => Nat.le_antisymm h1 h2) p hr hs
end
theorem co_lit {H : Hp} {ts : List Addr} {cs : List (Nat × Nat)} (h : TAt H ts (pairs cs)) : CoAll H ts cs := by
  refine ⟨by rw [h.len]; unfold pairs; rw [List.length_map], fun i t c ht hc => ?_⟩
  obtain ⟨l, el, hl⟩ := h.get ht
  unfold pairs at el
  rw [List.getElem?_map, hc] at el
  obtain rfl := Option.some.inj el
  exact .inl hl
end K7
end
/-! ## P16 -/
section
open PySem PySem.Spec PyProof.Rows L2
namespace K7
abbrev N__law_comes : List Str := ["_law_land_here", "_law_cell", "_law_passing", "_law_seen", "_law_place", "_law_low", "_law_high"]
abbrev s__law_comes : Stmt := topS 47
theorem sc__law_comes : FnScope ["_law_land_here", "_law_cell", "_law_passing", "_law_seen", "_law_place", "_law_low", "_law_high"] ["_law_land_here", "_law_cell", "_law_passing"] (defScope s__law_comes) := ⟨rfl, rfl, rfl, by decide +kernel, rfl, by decide +kernel, by decide +kernel⟩
abbrev N__law_open : List Str := ["_law_land_here", "_law_cell", "_law_passing", "_law_here"]
abbrev s__law_open : Stmt := topS 48
theorem sc__law_open : FnScope ["_law_land_here", "_law_cell", "_law_passing", "_law_here"] ["_law_land_here", "_law_cell", "_law_passing"] (defScope s__law_open) := ⟨rfl, rfl, rfl, by decide +kernel, rfl, by decide +kernel, by decide +kernel⟩
/-! ### what the law reaches -/
structure SnOk (n : Nat) (es : List (Nat × Nat)) (ps : List Nat) (c : Nat) (sn : List Nat) : Prop where
  nd : sn.Nodup
  me : c ∈ sn
  lt : ∀ x ∈ sn, x < n
  so : ∀ x ∈ sn, KL.Rch (edge es) ps c x
theorem SnOk.add {n : Nat} {es : List (Nat × Nat)} {ps : List Nat} {c : Nat} {sn : List Nat} (h : SnOk n es ps c sn) {a b : Nat} (ha : a ∈ sn) (e : edge es a b) (hp : b ∈ ps) (hb : b < n) (hn : b ∉ sn) : SnOk n es ps c (sn ++ [b]) := by
  refine ⟨List.nodup_append.mpr ⟨h.nd, List.nodup_cons.mpr ⟨List.not_mem_nil, List.nodup_nil⟩, fun a' ha' b' hb' e => ?_⟩, List.mem_append_left _ h.me, fun x hx => ?_, fun x hx => ?_⟩
  · rw [List.mem_singleton] at hb'
    exact hn (by rw [← hb', ← e]; exact ha')
  · rcases List.mem_append.mp hx with hx | hx
    · exact h.lt x hx
    · rw [List.mem_singleton.mp hx]
      exact hb
  · rcases List.mem_append.mp hx with hx | hx
    · exact h.so x hx
    · rw [List.mem_singleton.mp hx]
      exact .step (h.so a ha) e hp
theorem SnOk.len {n : Nat} {es : List (Nat × Nat)} {ps : List Nat} {c : Nat} {sn : List Nat} (h : SnOk n es ps c sn) : sn.length ≤ n := by
  have z := K7E.nodup_le sn (List.range n) h.nd fun x hx => List.mem_range.mpr (h.lt x hx)
  rw [List.length_range] at z
  exact z
theorem snoc_ints (sn : List Nat) (b : Nat) : ints_ sn ++ [.int (b : Nat)] = ints_ (sn ++ [b]) := by
  unfold ints_
  rw [List.map_append]
  rfl
section
variable {P : Program} {w : World} {K : PySem.W.Frag} {mg : Str → Option Value} {base : Heap}
def spComes : Sp := fun vs H Q _ => ∃ (q : Addr) (n : Nat) (es : List (Nat × Nat)) (lot : List Nat) (c : Nat) (pa : Addr) (ps : List Nat), vs = [.ref q, .int (c : Nat), .ref pa] ∧ LandAt H q n es lot ∧ n ≤ 5 ∧ es.length ≤ 32 ∧ c < n ∧ SqOf H pa (ints_ ps) ∧
  ∀ H' r sn, Same H H' → H r = none → H' r = some (.lst (ints_ sn)) → sn.Nodup → sn.length ≤ 5 → (∀ x, x ∈ sn ↔ KL.Rch (edge es) ps c x) → Q (.ref r) H'
theorem ok_comes {f : Addr} {fd : FuncData} (F : Fun K "_law_comes" "_law_comes" s__law_comes f fd) (m_range : mg "range" = none) (m_len : mg "len" = none) : FnOk P w K mg base CX0 1 f fd ["_law_land_here", "_law_cell", "_law_passing"] spComes := by
  refine F.ok sc__law_comes (fun vs H Q E h => ?_) (fun cdv A outer s H vs Q E hr h => ?_)
  · obtain ⟨q, n, es, lot, c, pa, ps, rfl, _⟩ := h
    rfl
  · obtain ⟨q, n, es, lot, c, pa, ps, rfl, L, n5, e32, hc, hpa, k⟩ := h
    refine ⟨_, (pss_cons (ps_set (i := 3) sc__law_comes.nd rfl (by first | exact Or.inl rfl | exact Or.inr rfl) (pe_lst (pa_cons (pv 1) pa_nil)))
 (pss_cons (ps_for PassesOwn.never rfl (pi_range1 rfl m_range (pa_cons (pe_ix ix_tup (pv 0) pe_int (fun _ _ => rfl)) pa_nil)) (pg_name (i := 4) sc__law_comes.nd rfl (by first | exact Or.inl rfl | exact Or.inr rfl))
  (pss_one (ps_if (pt_cmpR op_lt (pv 4) (pe_callB call_len_seq (by rfl) m_len boot_len (pa_cons (pv 3) pa_nil)) (nomark _))
  (pss_one (ps_for PassesOwn.never rfl (pi_list (pe_ix ix_tup (pv 0) pe_int (fun _ _ => rfl))) (pg_tup rfl (pgs_cons (pg_name (i := 5) sc__law_comes.nd rfl (by first | exact Or.inl rfl | exact Or.inr rfl)) (pgs_cons (pg_name (i := 6) sc__law_comes.nd rfl (by first | exact Or.inl rfl | exact Or.inr rfl)) pgs_nil)))
  (Evl.pss_cut (ps_if (pw_and (pt_cmpR op_eq (pv 5) (pe_ix ix_list (pv 3) (pv 4) (fun _ _ => rfl)) (nomark _)) (pw_and (pt_cmpR op_in_seq (pv 6) (pv 2) (by with_unfolding_all rfl)) (pw_and1 (pt_cmpR op_notIn_seq (pv 6) (pv 3) (by with_unfolding_all rfl))))).pt
  (pss_one (ps_expr (pe_bm PySem.F.plainAttrs_list PySem.F.slot_list_append PySem.F.type_list_append mt_append (pv 3) (pa_cons (pv 6) pa_nil))))
  pss_nil)
 (pss_one (ps_if (pw_and (pt_cmpR op_eq (pv 6) (pe_ix ix_list (pv 3) (pv 4) (fun _ _ => rfl)) (nomark _)) (pw_and (pt_cmpR op_in_seq (pv 5) (pv 2) (by with_unfolding_all rfl)) (pw_and1 (pt_cmpR op_notIn_seq (pv 5) (pv 3) (by with_unfolding_all rfl))))).pt
  (pss_one (ps_expr (pe_bm PySem.F.plainAttrs_list PySem.F.slot_list_append PySem.F.type_list_append mt_append (pv 3) (pa_cons (pv 5) pa_nil))))
  pss_nil)))))
  pss_nil)))
 (pss_one (ps_ret (pv 3))))), ?_⟩
    obtain ⟨rA, sA, ts, h1, h2, h3, h4⟩ := L.at_
    have tl : ts.length = es.length := by rw [h3.len]; unfold pairs; rw [List.length_map]
    refine ⟨_, rfl, by show 1 ≤ sizeLine; decide, fun F0 nF => ?_⟩
    have sm : ∀ {H' : Hp}, But F0 H H' → Same H H' := fun b z o hz => b z o (ne_of_none hz nF) hz
    refine ⟨_, rfl, q, _, _, _, rfl, rfl, .inl (.inl (by rw [upd_ne (ne_of_none h1 nF)]; exact h1)), atI_nat (j := 0) rfl, ?_⟩
    refine ⟨_, rfl, by omega, by omega, for_range (lo := 0) (n := n) (fun i τ H' => ∃ (sn : List Nat) (y4 y5 y6 : Option V), τ = [some (.ref q), some (.int (c : Nat)), some (.ref pa), some (.ref F0), y4, y5, y6] ∧ But F0 H H' ∧ H' F0 = some (.lst (ints_ sn)) ∧ SnOk n es ps c sn ∧ ∀ j, j < i → ∀ a, sn[j]? = some a → ∀ b, edge es a b → b ∈ ps → b ∈ sn) ⟨[c], none, none, none, rfl, fun b o nb hb => by rw [upd_ne nb]; exact hb, upd_same, ⟨List.nodup_cons.mpr ⟨List.not_mem_nil, List.nodup_nil⟩, List.mem_singleton.mpr rfl, fun x hx => by rw [List.mem_singleton.mp hx]; exact hc, fun x hx => by rw [List.mem_singleton.mp hx]; exact .base⟩, fun j hj => absurd hj (Nat.not_lt_zero _)⟩ (fun i τ H' hi pv => ?_) (fun τ H' pv => ?_)⟩
    · obtain ⟨sn, y4, y5, y6, rfl, bt, hF, ok, cl⟩ := pv
      refine ⟨_, rfl, _, rfl, F0, _, rfl, .inl (.inl (.inl hF)), _, _, rfl, rfl, _, rfl, ite2 (fun c1 => ?_) (fun c1 => ?_)⟩
      · have c1' : i < sn.length := by
          have z : ((0 : Int) + (i : Nat)) < (((ints_ sn).length : Nat) : Int) := of_decide_eq_true c1
          rw [show (ints_ sn).length = sn.length from List.length_map ..] at z
          omega
        obtain ⟨a, ea⟩ : ∃ a, sn[i]? = some a := ⟨_, List.getElem?_eq_getElem c1'⟩
        have ma := List.mem_of_getElem? ea
        refine ⟨_, rfl, q, _, _, _, rfl, rfl, .inl (.inl (sm bt _ _ h1)), atI_nat (j := 1) rfl, rA, rfl, ⟨_, .inl (.inl (sm bt _ _ h2))⟩, for_list (xs := ts.map V.ref) (fun j τ H2 => ∃ (r : List Nat) (y5 y6 : Option V), τ = [some (.ref q), some (.int (c : Nat)), some (.ref pa), some (.ref F0), some (.int (0 + (i : Nat))), y5, y6] ∧ But F0 H H2 ∧ H2 F0 = some (.lst (ints_ (sn ++ r))) ∧ SnOk n es ps c (sn ++ r) ∧ ∀ e ∈ es.take j, (e.1 = a → e.2 ∈ ps → e.2 ∈ sn ++ r) ∧ (e.2 = a → e.1 ∈ ps → e.1 ∈ sn ++ r)) ⟨[], y5, y6, rfl, bt, by rw [List.append_nil]; exact hF, by rw [List.append_nil]; exact ok, fun e he => by cases he⟩ (fun j τ H2 _ pv => ?_) (fun j x τ H2 hx pv => ?_) (fun τ H2 pv => ?_)⟩
        · obtain ⟨r, y5, y6, _, bt2, _⟩ := pv
          exact .inl (.inl (sm bt2 _ _ h2))
        · obtain ⟨r, y5, y6, rfl, bt2, hF2, ok2, cl2⟩ := pv
          rw [List.getElem?_map] at hx
          obtain ⟨t, ht, rfl⟩ := Option.map_eq_some_iff.mp hx
          obtain ⟨l, el, hl⟩ := h3.get ht
          unfold pairs at el
          rw [List.getElem?_map] at el
          obtain ⟨ab, eab, rfl⟩ := Option.map_eq_some_iff.mp el
          obtain ⟨lo, hi'⟩ := ab
          have mem := List.mem_of_getElem? eab
          obtain ⟨l1, l2⟩ := L.ok.lt _ mem
          have l1 : lo < hi' := l1
          have l2 : hi' < n := l2
          have tk : es.take (j + 1) = es.take j ++ [(lo, hi')] := by rw [List.take_add_one, eab]; rfl
          have ixa : ∀ r : List Nat, atI (ints_ (sn ++ r)) (0 + (i : Nat)) = some (.int (a : Nat)) := fun r => by
            rw [Int.zero_add]
            refine atI_nat ?_
            unfold ints_
            rw [List.getElem?_map, List.getElem?_append_left c1', ea]
            rfl
          refine ⟨t, [.int (lo : Nat), .int (hi' : Nat)], rfl, .inl (.inl (sm bt2 _ _ hl)), rfl, _, _, rfl, _, _, rfl, rfl, ?_⟩
          refine ⟨fun τ' H3 => ∃ r, τ' = [some (.ref q), some (.int (c : Nat)), some (.ref pa), some (.ref F0), some (.int (0 + (i : Nat))), some (.int (lo : Nat)), some (.int (hi' : Nat))] ∧ But F0 H H3 ∧ H3 F0 = some (.lst (ints_ (sn ++ r))) ∧ SnOk n es ps c (sn ++ r) ∧ (∀ e ∈ es.take j, (e.1 = a → e.2 ∈ ps → e.2 ∈ sn ++ r) ∧ (e.2 = a → e.1 ∈ ps → e.1 ∈ sn ++ r)) ∧ (lo = a → hi' ∈ ps → hi' ∈ sn ++ r), ?_, fun τ' H3 hM => ?_⟩
          · refine ⟨_, rfl, _, rfl, _, rfl, F0, _, _, _, rfl, rfl, .inl (.inl hF2), ixa r, rfl, _, rfl, ite2 (fun d1 => ?_) (fun d1 => ?_)⟩
            · have hla : lo = a := by
                have z := of_decide_eq_true d1
                injection z with z
                omega
              refine ⟨_, rfl, _, rfl, pa, _, rfl, (hpa.same (sm bt2)).sq, rfl, flat_ints ps, _, rfl, ite2 (fun d2 => ?_) (fun d2 => ?_)⟩
              · have d2' : hi' ∈ ps := of_decide_eq_true ((inV_ints hi' ps).symm.trans d2)
                refine ⟨_, rfl, _, rfl, F0, _, rfl, .inl (.inl (.inl hF2)), rfl, flat_ints _, _, rfl, ite2 (fun d3 => ?_) (fun d3 => ?_)⟩
                · have d3' : hi' ∉ sn ++ r := fun hb => by
                    have z : (!inV (.int (hi' : Nat)) (ints_ (sn ++ r))) = true := d3
                    rw [inV_ints, decide_eq_true hb] at z
                    cases z
                  have ok3 := ok2.add (a := a) (List.mem_append_left _ ma) (.inl (by rw [← hla]; exact mem)) d2' l2 d3'
                  have len3 := ok2.len
                  refine ⟨_, rfl, .inl ⟨rfl, _, .inl (.inl hF2)⟩, _, rfl, F0, _, _, rfl, rfl, hF2, by unfold ints_; rw [List.length_map]; exact small1000 (by omega), r ++ [hi'], rfl, fun b' o hb' e => by rw [upd_ne hb']; exact bt2 b' o hb' e, by rw [upd_same, snoc_ints, List.append_assoc], by rw [← List.append_assoc]; exact ok3, fun e he => ?_, fun _ _ => ?_⟩
                  · rw [← List.append_assoc]
                    exact ⟨fun x1 x2 => List.mem_append_left _ ((cl2 e he).1 x1 x2), fun x1 x2 => List.mem_append_left _ ((cl2 e he).2 x1 x2)⟩
                  · rw [← List.append_assoc]
                    exact List.mem_append_right _ (List.mem_singleton.mpr rfl)
                · have d3' : hi' ∈ sn ++ r := Classical.byContradiction fun hn => d3 (by
                    show (!inV (.int (hi' : Nat)) (ints_ (sn ++ r))) = true
                    rw [inV_ints, decide_eq_false hn]
                    rfl)
                  exact ⟨r, rfl, bt2, hF2, ok2, cl2, fun _ _ => d3'⟩
              · have d2' : hi' ∉ ps := fun hb => d2 ((inV_ints hi' ps).trans (decide_eq_true hb))
                exact iteF ⟨r, rfl, bt2, hF2, ok2, cl2, fun _ x => absurd x d2'⟩
            · have hla : lo ≠ a := fun e => d1 (decide_eq_true (by rw [e]))
              exact iteF ⟨r, rfl, bt2, hF2, ok2, cl2, fun x _ => absurd x hla⟩
          · obtain ⟨r, rfl, bt2, hF2, ok2, cl2, fst⟩ := hM
            have fin : ∀ r', (∀ e ∈ es.take j, (e.1 = a → e.2 ∈ ps → e.2 ∈ sn ++ r') ∧ (e.2 = a → e.1 ∈ ps → e.1 ∈ sn ++ r')) → (lo = a → hi' ∈ ps → hi' ∈ sn ++ r') → (hi' = a → lo ∈ ps → lo ∈ sn ++ r') → ∀ e ∈ es.take (j + 1), (e.1 = a → e.2 ∈ ps → e.2 ∈ sn ++ r') ∧ (e.2 = a → e.1 ∈ ps → e.1 ∈ sn ++ r') := fun r' z1 z2 z3 e he => by
              rw [tk] at he
              rcases List.mem_append.mp he with he | he
              · exact z1 e he
              · rw [List.mem_singleton.mp he]
                exact ⟨z2, z3⟩
            refine ⟨_, rfl, _, rfl, _, rfl, F0, _, _, _, rfl, rfl, .inl (.inl hF2), ixa r, rfl, _, rfl, ite2 (fun d1 => ?_) (fun d1 => ?_)⟩
            · have hla : hi' = a := by
                have z := of_decide_eq_true d1
                injection z with z
                omega
              refine ⟨_, rfl, _, rfl, pa, _, rfl, (hpa.same (sm bt2)).sq, rfl, flat_ints ps, _, rfl, ite2 (fun d2 => ?_) (fun d2 => ?_)⟩
              · have d2' : lo ∈ ps := of_decide_eq_true ((inV_ints lo ps).symm.trans d2)
                refine ⟨_, rfl, _, rfl, F0, _, rfl, .inl (.inl (.inl hF2)), rfl, flat_ints _, _, rfl, ite2 (fun d3 => ?_) (fun d3 => ?_)⟩
                · have d3' : lo ∉ sn ++ r := fun hb => by
                    have z : (!inV (.int (lo : Nat)) (ints_ (sn ++ r))) = true := d3
                    rw [inV_ints, decide_eq_true hb] at z
                    cases z
                  have ok3 := ok2.add (a := a) (List.mem_append_left _ ma) (.inr (by rw [← hla]; exact mem)) d2' (by omega) d3'
                  have len3 := ok2.len
                  refine ⟨_, rfl, .inl ⟨rfl, _, .inl (.inl hF2)⟩, _, rfl, F0, _, _, rfl, rfl, hF2, by unfold ints_; rw [List.length_map]; exact small1000 (by omega), r ++ [lo], _, _, rfl, fun b' o hb' e => by rw [upd_ne hb']; exact bt2 b' o hb' e, by rw [upd_same, snoc_ints, List.append_assoc], by rw [← List.append_assoc]; exact ok3, fin _ (fun e he => ?_) (fun x1 x2 => ?_) (fun _ _ => ?_)⟩
                  · rw [← List.append_assoc]
                    exact ⟨fun x1 x2 => List.mem_append_left _ ((cl2 e he).1 x1 x2), fun x1 x2 => List.mem_append_left _ ((cl2 e he).2 x1 x2)⟩
                  · rw [← List.append_assoc]
                    exact List.mem_append_left _ (fst x1 x2)
                  · rw [← List.append_assoc]
                    exact List.mem_append_right _ (List.mem_singleton.mpr rfl)
                · have d3' : lo ∈ sn ++ r := Classical.byContradiction fun hn => d3 (by
                    show (!inV (.int (lo : Nat)) (ints_ (sn ++ r))) = true
                    rw [inV_ints, decide_eq_false hn]
                    rfl)
                  exact ⟨r, _, _, rfl, bt2, hF2, ok2, fin r cl2 fst fun _ _ => d3'⟩
              · have d2' : lo ∉ ps := fun hb => d2 ((inV_ints lo ps).trans (decide_eq_true hb))
                exact iteF ⟨r, _, _, rfl, bt2, hF2, ok2, fin r cl2 fst fun _ x => absurd x d2'⟩
            · have hla : hi' ≠ a := fun e => d1 (decide_eq_true (by rw [e]))
              exact iteF ⟨r, _, _, rfl, bt2, hF2, ok2, fin r cl2 fst fun x _ => absurd x hla⟩
        · obtain ⟨r, y5, y6, rfl, bt2, hF2, ok2, cl2⟩ := pv
          rw [List.length_map, tl, List.take_length] at cl2
          refine ⟨sn ++ r, _, y5, y6, rfl, bt2, hF2, ok2, fun j hj a' ea' b he hp => ?_⟩
          rw [List.getElem?_append_left (by omega)] at ea'
          rcases Nat.lt_or_ge j i with lt | ge
          · exact List.mem_append_left _ (cl j lt a' ea' b he hp)
          · obtain rfl : j = i := by omega
            rw [ea] at ea'
            obtain rfl := Option.some.inj ea'
            rcases he with he | he
            · exact (cl2 _ he).1 rfl hp
            · exact (cl2 _ he).2 rfl hp
      · have c1' : sn.length ≤ i := by
          refine Nat.not_lt.mp fun z => c1 (decide_eq_true ?_)
          rw [show (ints_ sn).length = sn.length from List.length_map ..]
          omega
        refine ⟨sn, _, y5, y6, rfl, bt, hF, ok, fun j hj a ea => ?_⟩
        have z := (List.getElem?_eq_some_iff.mp ea).1
        exact cl j (by omega) a ea
    · obtain ⟨sn, y4, y5, y6, rfl, bt, hF, ok, cl⟩ := pv
      have len := ok.len
      refine ⟨_, rfl, k H' F0 sn (sm bt) nF hF ok.nd (by omega) fun x => ⟨ok.so x, fun h => KL.Rch.mem h ok.me fun a b ha e hp => ?_⟩⟩
      obtain ⟨j, hj, e2⟩ := List.getElem_of_mem ha
      exact cl j (by omega) a (by rw [List.getElem?_eq_getElem hj, e2]) b e hp
end
end K7
end
/-! ## P17 -/
section
open PySem PySem.Spec PyProof.Rows L2
namespace K7
abbrev N__law_sort : List Str := ["_law_land_here", "_law_cell", "_law_ends", "_law_b"]
abbrev s__law_sort : Stmt := topS 51
theorem sc__law_sort : FnScope ["_law_land_here", "_law_cell", "_law_ends", "_law_b"] ["_law_land_here", "_law_cell"] (defScope s__law_sort) := ⟨rfl, rfl, rfl, by decide +kernel, rfl, by decide +kernel, by decide +kernel⟩
section
variable {P : Program} {w : World} {K : PySem.W.Frag} {mg : Str → Option Value} {base : Heap}
/-! _law_open -/
def spLOpen : Sp := fun vs H Q _ => ∃ (q : Addr) (n : Nat) (es : List (Nat × Nat)) (lot : List Nat) (c : Nat) (pa : Addr) (ps : List Nat), vs = [.ref q, .int (c : Nat), .ref pa] ∧ LandAt H q n es lot ∧ n ≤ 5 ∧ es.length ≤ 32 ∧ c < n ∧ SqOf H pa (ints_ ps) ∧
  ∀ H' b, Same H H' → (b = true ↔ OpenV es lot ps c) → Q (.bl b) H'
theorem LandAt.same {H H' : Hp} {q : Addr} {n : Nat} {es : List (Nat × Nat)} {lot : List Nat} (h : LandAt H q n es lot) (e : Same H H') : LandAt H' q n es lot := by
  obtain ⟨rA, sA, ts, h1, h2, h3, h4⟩ := h.at_
  exact ⟨⟨rA, sA, ts, e _ _ h1, e _ _ h2, h3.same e, e _ _ h4⟩, h.ok, h.lot⟩
theorem ok_lopen {f fC : Addr} {fd fdC : FuncData} (F : Fun K "_law_open" "_law_open" s__law_open f fd)
    (Glc : FnOk P w K mg base CX0 1 fC fdC ["_law_land_here", "_law_cell", "_law_passing"] spComes) (glc : mg "_law_comes" = some (.ref fC)) (klc : PySem.W.keepIn K (.ref fC) = true) (blc : Binds K fdC ["_law_land_here", "_law_cell", "_law_passing"] [])
    (m_len : mg "len" = none) : FnOk P w K mg base CX0 2 f fd ["_law_land_here", "_law_cell", "_law_passing"] spLOpen := by
  refine F.ok sc__law_open (fun vs H Q E h => ?_) (fun cdv A outer s H vs Q E hr h => ?_)
  · obtain ⟨q, n, es, lot, c, pa, ps, rfl, _⟩ := h
    rfl
  · obtain ⟨q, n, es, lot, c, pa, ps, rfl, L, n5, e32, hc, hpa, k⟩ := h
    refine ⟨_, (pss_one (ps_ret (pe_cmpR op_gt (pe_callB call_len_seq (by rfl) m_len boot_len (pa_cons (pe_lc (own := [("_law_here", 3)]) (g := gName 3) rfl sc__law_open.nd (pi_list (pe_call Glc (hr.mono (by decide)) (by rfl) glc klc blc .nil pass0 (pa_cons (pv 0) (pa_cons (pv 1) (pa_cons (pv 2) pa_nil))))) (blkOk_by (own := [("_law_here", 3)]) (N := N__law_open) (sc := defScope s__law_open) (by decide +kernel)) (fun _ _ _ _ _ => (pg_name (i := 3) sc__law_open.nd rfl (by first | exact Or.inl rfl | exact Or.inr rfl))) (fun _ _ _ _ _ => (pts_one (pt_cmpR (show OpR _ _ (rIn K false) from op_in_seq) (pv 3) (pe_ix (show IxR _ (rIxT K) from ix_tup) (pv 0) pe_int (fun _ _ => rfl)) (by with_unfolding_all rfl)))) (fun _ _ _ _ _ => (pv 3))) pa_nil)) pe_int (nomark _)))), ?_⟩
    refine ⟨_, rfl, _, rfl, _, rfl, q, n, es, lot, c, pa, ps, rfl, L, n5, e32, hc, hpa, fun H1 r sn e1 nr hr1 nd l5 iff => ?_⟩
    obtain ⟨rA, sA, ts, h1, h2, h3, h4⟩ := (L.same e1).at_
    refine ⟨r, rfl, ⟨_, .inl (.inl hr1)⟩, fun D hD => lc_list (xs := ints_ sn) (fun j H2 => Same H1 H2 ∧ H2 D = some (.lst (ints_ ((sn.take j).filter fun b => decide (b ∈ lot))))) ⟨same_new (Same.refl H1) hD, upd_same⟩ (fun j H2 _ pv => .inl (.inl (pv.1 _ _ hr1))) (fun j x H2 hx pv => ?_) (fun H2 pv => ?_)⟩
    · obtain ⟨e2, hD2⟩ := pv
      unfold ints_ at hx
      rw [List.getElem?_map] at hx
      obtain ⟨b, hb, rfl⟩ := Option.map_eq_some_iff.mp hx
      refine ⟨rfl, _, rfl, _, rfl, q, _, _, _, rfl, rfl, .inl (.inl (e2 _ _ h1)), atI_nat (j := 2) rfl, ?_⟩
      refine ⟨sA, _, rfl, .inl (.inl (.inl (e2 _ _ h4))), rfl, flat_ints lot, _, rfl, ?_⟩
      rw [show inV (.int (b : Nat)) (ints_ lot) = decide (b ∈ lot) from inV_ints b lot]
      have ft := filter_take (p := fun b => decide (b ∈ lot)) hb
      by_cases hm : b ∈ lot
      · rw [decide_eq_true hm] at ft ⊢
        rw [if_pos rfl] at ft
        refine iteT ⟨_, rfl, _, hD2, by unfold ints_; rw [List.length_map]; exact small1000 (Nat.le_trans (List.length_filter_le _ _) (by rw [List.length_take]; omega)), fun b o hb => ?_, ?_⟩
        · rw [upd_ne (ne_of_none hb hD)]
          exact e2 _ _ hb
        · rw [upd_same, ft, ints_snoc]
      · rw [decide_eq_false hm] at ft ⊢
        rw [if_neg (by decide), List.append_nil] at ft
        refine iteF ⟨e2, ?_⟩
        rw [ft]
        exact hD2
    · obtain ⟨e2, hD2⟩ := pv
      rw [show (ints_ sn).length = sn.length from List.length_map .., List.take_length] at hD2
      refine ⟨D, _, rfl, .inl (.inl (.inl hD2)), _, _, rfl, rfl, k _ _ (e1.trans e2) ?_⟩
      rw [decide_eq_true_eq]
      constructor
      · intro h
        have h : (0 : Int) < (((ints_ (sn.filter fun b => decide (b ∈ lot))).length : Nat) : Int) := h
        rw [show (ints_ (sn.filter fun b => decide (b ∈ lot))).length = (sn.filter fun b => decide (b ∈ lot)).length from List.length_map ..] at h
        have hp : 0 < (sn.filter fun b => decide (b ∈ lot)).length := by omega
        obtain ⟨x, hx⟩ := List.exists_mem_of_length_pos hp
        obtain ⟨x1, x2⟩ := List.mem_filter.mp hx
        exact ⟨x, of_decide_eq_true x2, (iff x).mp x1⟩
      · rintro ⟨x, x1, x2⟩
        have hp : 0 < (sn.filter fun b => decide (b ∈ lot)).length := List.length_pos_of_mem (List.mem_filter.mpr ⟨(iff x).mpr x2, decide_eq_true x1⟩)
        show (0 : Int) < (((ints_ (sn.filter fun b => decide (b ∈ lot))).length : Nat) : Int)
        rw [show (ints_ (sn.filter fun b => decide (b ∈ lot))).length = (sn.filter fun b => decide (b ∈ lot)).length from List.length_map ..]
        omega
/-! _law_sort -/
theorem shapedL_ints (l : List Nat) : SeqAt.shaped (.list (l.map fun c => PyData.int (c : Nat))) = true := by
  have z : ((PyData.canLay0 (intD l)) && decide (PyData.depth (intD l) ≤ 64)) = true := shaped_ints l
  show ((PyData.canLay0 (.list (l.map fun c => PyData.int (c : Nat)))) && decide (PyData.depth (.list (l.map fun c => PyData.int (c : Nat))) ≤ 64)) = true
  unfold intD at z
  simpa [PyData.canLay0, PyData.depth] using z
theorem lot_lt {n : Nat} (hn : n ≤ 5) {lot : List Nat} (h : lot ∈ lotsTo (List.range n) n) : (∀ c ∈ lot, c < n) ∧ lot.Pairwise (· < ·) := by
  have all : ∀ n : Fin 6, (lotsTo (List.range n.val) n.val).all (fun l => l.all (fun c => decide (c < n.val)) && decide (l.Pairwise (· < ·))) = true := by decide +kernel
  have z := List.all_eq_true.mp (all ⟨n, by omega⟩) lot h
  obtain ⟨z1, z2⟩ := Bool.and_eq_true_iff.mp z
  exact ⟨fun c hc => of_decide_eq_true (List.all_eq_true.mp z1 c hc), of_decide_eq_true z2⟩
theorem mm_edge {n : Nat} {es : List (Nat × Nat)} (ok : LandOk n es) (b c : Nat) : (min b c, max b c) ∈ es ↔ edge es c b := by
  unfold edge
  rcases Nat.le_total b c with h | h
  · rw [Nat.min_eq_left h, Nat.max_eq_right h]
    refine ⟨.inr, fun z => z.elim (fun z => ?_) id⟩
    have q := (ok.lt _ z).1
    have q : c < b := q
    omega
  · rw [Nat.min_eq_right h, Nat.max_eq_left h]
    refine ⟨.inl, fun z => z.elim id fun z => ?_⟩
    have q := (ok.lt _ z).1
    have q : b < c := q
    omega
theorem near_mem {n : Nat} {es : List (Nat × Nat)} (ok : LandOk n es) (rd : List Nat) (c b : Nat) : b ∈ nearR n es rd c ↔ b ∈ rd ∧ edge es c b := by
  unfold nearR nearOf
  rw [List.mem_filter, List.mem_filter, decide_eq_true_eq, Bool.or_eq_true, decide_eq_true_eq, decide_eq_true_eq, List.mem_range]
  constructor
  · rintro ⟨⟨_, h⟩, h2⟩
    exact ⟨h2, h⟩
  · rintro ⟨h2, h⟩
    refine ⟨⟨?_, h⟩, h2⟩
    rcases h with z | z
    · exact (ok.lt _ z).2
    · have q := ok.lt _ z
      have q1 : b < c := q.1
      have q2 : c < n := q.2
      omega
theorem nil_iff {l m : List Nat} (h : ∀ b, b ∈ l ↔ b ∈ m) : l = [] ↔ m = [] := by
  rw [List.eq_nil_iff_forall_not_mem, List.eq_nil_iff_forall_not_mem]
  exact ⟨fun x b hb => x b ((h b).mpr hb), fun x b hb => x b ((h b).mp hb)⟩
def spLSort : Sp := fun vs H Q _ => ∃ (q : Addr) (n : Nat) (es : List (Nat × Nat)) (lot : List Nat) (c : Nat), vs = [.ref q, .int (c : Nat)] ∧ LandAt H q n es lot ∧ n ≤ 5 ∧ es.length ≤ 32 ∧ c < n ∧ ∀ H' z, Same H H' → SortIs n es lot c z → Q (.str z) H'
theorem ok_lsort {f fO : Addr} {fd fdO : FuncData} (F : Fun K "_law_sort" "_law_sort" s__law_sort f fd)
    (Glo : FnOk P w K mg base CX0 2 fO fdO ["_law_land_here", "_law_cell", "_law_passing"] spLOpen) (glo : mg "_law_open" = some (.ref fO)) (klo : PySem.W.keepIn K (.ref fO) = true) (blo : Binds K fdO ["_law_land_here", "_law_cell", "_law_passing"] [])
    (m_range : mg "range" = none) (m_min : mg "min" = none) (m_max : mg "max" = none) : FnOk P w K mg base CX0 3 f fd ["_law_land_here", "_law_cell"] spLSort := by
  refine F.ok sc__law_sort (fun vs H Q E h => ?_) (fun cdv A outer s H vs Q E hr h => ?_)
  · obtain ⟨q, n, es, lot, c, rfl, _⟩ := h
    rfl
  · obtain ⟨q, n, es, lot, c, rfl, L, n5, e32, hc, k⟩ := h
    refine ⟨_, (pss_cons (ps_if (pt_cmpR op_in_seq (pv 1) (pe_ix ix_tup (pv 0) pe_int (fun _ _ => rfl)) (by with_unfolding_all rfl))
  (pss_one (ps_ret pe_str))
  pss_nil)
 (pss_cons (ps_set (i := 2) sc__law_sort.nd rfl (by first | exact Or.inl rfl | exact Or.inr rfl) (pe_lc (own := [("_law_b", 3)]) (g := gName 3) rfl sc__law_sort.nd (pi_list (pe_ix ix_tup (pv 0) pe_int (fun _ _ => rfl))) (blkOk_by (own := [("_law_b", 3)]) (N := N__law_sort) (sc := defScope s__law_sort) (by decide +kernel)) (fun _ _ _ _ _ => (pg_name (i := 3) sc__law_sort.nd rfl (by first | exact Or.inl rfl | exact Or.inr rfl))) (fun _ _ _ _ _ => (pts_one (pt_cmpR (show OpR _ _ (rInD K) from op_inD (K7L.hu65 hr)) (pe_tup (pa_cons (pe_callB (call_min2 rfl) (by rfl) m_min boot_min (pa_cons (pv 3) (pa_cons (pv 1) pa_nil))) (pa_cons (pe_callB (call_max2 rfl) (by rfl) m_max boot_max (pa_cons (pv 3) (pa_cons (pv 1) pa_nil))) pa_nil))) (pe_ix (show IxR _ (rIxT K) from ix_tup) (pv 0) pe_int (fun _ _ => rfl)) (by with_unfolding_all rfl)))) (fun _ _ _ _ _ => (pv 3))))
 (pss_cons (ps_if (pt_cmpR (op_eqD hr.units) (pv 2) (pe_lst pa_nil) (nomark _))
  (pss_one (ps_ret pe_str))
  pss_nil)
 (pss_one (ps_ret (pe_ifExp (pt_val (pe_call Glo (hr.mono (by decide)) (by rfl) glo klo blo .nil pass0 (pa_cons (pv 0) (pa_cons (pv 1) (pa_cons (pe_lc (own := [("_law_b", 3)]) (g := gName 3) rfl sc__law_sort.nd (pi_range1 rfl m_range (pa_cons (pe_ix ix_tup (pv 0) pe_int (fun _ _ => rfl)) pa_nil)) (blkOk_by (own := [("_law_b", 3)]) (N := N__law_sort) (sc := defScope s__law_sort) (by decide +kernel)) (fun _ _ _ _ _ => (pg_name (i := 3) sc__law_sort.nd rfl (by first | exact Or.inl rfl | exact Or.inr rfl))) (fun _ _ _ _ _ => (pts_one (pt_cmpR (show OpR _ _ (rIn K true) from op_notIn_seq) (pv 3) (pv 2) (by with_unfolding_all rfl)))) (fun _ _ _ _ _ => (pv 3))) pa_nil))))) pe_str pe_str)))))), ?_⟩
    obtain ⟨rA, sA, ts, h1, h2, h3, h4⟩ := L.at_
    have ll : lot.length ≤ 5 := Nat.le_of_lt (Nat.lt_of_lt_of_le L.lot.2.2 n5)
    refine ⟨_, rfl, _, rfl, q, _, _, _, rfl, rfl, .inl (.inl h1), atI_nat (j := 2) rfl, ?_⟩
    refine ⟨sA, _, rfl, .inl (.inl (.inl h4)), rfl, flat_ints lot, _, rfl, ?_⟩
    rw [show inV (.int (c : Nat)) (ints_ lot) = decide (c ∈ lot) from inV_ints c lot]
    by_cases hm : c ∈ lot
    · rw [decide_eq_true hm]
      exact iteT (k _ _ (Same.refl H) (.inl ⟨hm, rfl⟩))
    · rw [decide_eq_false hm]
      refine iteF ?_
      refine ⟨_, rfl, q, _, _, _, rfl, rfl, .inl (.inl h1), atI_nat (j := 2) rfl, ?_⟩
      refine ⟨sA, rfl, ⟨_, .inl (.inl h4)⟩, fun D hD => lc_list (xs := ints_ lot) (fun j H2 => Same H H2 ∧ H2 D = some (.lst (ints_ ((lot.take j).filter fun b => decide ((min b c, max b c) ∈ es))))) ⟨same_new (Same.refl H) hD, upd_same⟩ (fun j H2 _ pv => .inl (.inl (pv.1 _ _ h4))) (fun j x H2 hx pv => ?_) (fun H2 pv => ?_)⟩
      · obtain ⟨e2, hD2⟩ := pv
        unfold ints_ at hx
        rw [List.getElem?_map] at hx
        obtain ⟨b, hb, rfl⟩ := Option.map_eq_some_iff.mp hx
        have ft := filter_take (p := fun b => decide ((min b c, max b c) ∈ es)) hb
        refine ⟨rfl, _, rfl, _, rfl, _, _, rfl, _, rfl, _, rfl, _, _, rfl, by show 2 ≤ sizeLine; decide, fun t nt => ?_⟩
        have em : (if ((c : Nat) : Int) < ((b : Nat) : Int) then ((c : Nat) : Int) else ((b : Nat) : Int)) = ((min b c : Nat) : Int) := by split <;> omega
        have ex : (if ((c : Nat) : Int) > ((b : Nat) : Int) then ((c : Nat) : Int) else ((b : Nat) : Int)) = ((max b c : Nat) : Int) := by split <;> omega
        rw [em, ex]
        have sT := same_new (o := .tup [.int ((min b c : Nat) : Int), .int ((max b c : Nat) : Int)]) (Same.refl H2) nt
        have e2T := e2.trans sT
        refine ⟨_, rfl, q, _, _, _, rfl, rfl, .inl (.inl (e2T _ _ h1)), atI_nat (j := 1) rfl, ?_⟩
        refine ⟨intD [min b c, max b c], _, .tup (xs := [.int ((min b c : Nat) : Int), .int ((max b c : Nat) : Int)]) (.inl (.inl upd_same)) (dp_ints [min b c, max b c]), .lst (.inl (.inl (e2T _ _ h2))) (dp_rows (h3.same e2T)), shaped_ints _, shaped_rows _, ?_⟩
        rw [any_rows]
        refine ⟨_, rfl, ?_⟩
        by_cases hme : (min b c, max b c) ∈ es
        · rw [decide_eq_true hme] at ft ⊢
          rw [if_pos rfl] at ft
          refine iteT ⟨_, rfl, _, sT _ _ hD2, by unfold ints_; rw [List.length_map]; exact small1000 (Nat.le_trans (List.length_filter_le _ _) (by rw [List.length_take]; omega)), fun z o hz => ?_, ?_⟩
          · rw [upd_ne (ne_of_none hz hD)]
            exact e2T _ _ hz
          · rw [upd_same, ft, ints_snoc]
        · rw [decide_eq_false hme] at ft ⊢
          rw [if_neg (by decide), List.append_nil] at ft
          refine iteF ⟨e2T, ?_⟩
          rw [ft]
          exact sT _ _ hD2
      · obtain ⟨e2, hD2⟩ := pv
        rw [show (ints_ lot).length = lot.length from List.length_map .., List.take_length] at hD2
        have mem : ∀ b, b ∈ lot.filter (fun b => decide ((min b c, max b c) ∈ es)) ↔ b ∈ nearR n es lot c := fun b => by
          rw [near_mem L.ok, List.mem_filter, decide_eq_true_eq, mm_edge L.ok]
        have lf : (lot.filter fun b => decide ((min b c, max b c) ∈ es)).length ≤ 5 := Nat.le_trans (List.length_filter_le _ _) ll
        generalize lot.filter (fun b => decide ((min b c, max b c) ∈ es)) = ends at hD2 mem lf
        have nil := nil_iff mem
        refine ⟨_, rfl, by show 0 ≤ sizeLine; decide, fun l nl => ?_⟩
        have s3 := same_new (o := .lst []) (Same.refl H2) nl
        refine ⟨.list (ends.map fun c => PyData.int (c : Nat)), .list [], .lst (.inl (.inl (s3 _ _ hD2))) (dp_ints ends), .lst (.inl (.inl upd_same)) .nil, shapedL_ints ends, shapedL_ints [], _, rfl, ?_⟩
        have ee : PyData.eqv (.list (ends.map fun c => PyData.int (c : Nat))) (.list []) = ends.isEmpty := by
          cases ends with
          | nil => simp [PyData.eqv, PyData.eqvAll]
          | cons x r => simp [PyData.eqv, PyData.eqvAll]
        rw [ee]
        by_cases hn : ends = []
        · rw [hn]
          exact iteT (k _ _ (e2.trans s3) (.inr (.inl ⟨hm, nil.mp hn, rfl⟩)))
        · have he : ends.isEmpty = false := by
            cases ends with
            | nil => exact absurd rfl hn
            | cons => rfl
          rw [he]
          refine iteF ?_
          have hn2 : nearR n es lot c ≠ [] := fun z => hn (nil.mpr z)
          have e3 := e2.trans s3
          refine ⟨_, rfl, _, rfl, _, rfl, q, _, _, _, rfl, rfl, .inl (.inl (e3 _ _ h1)), atI_nat (j := 0) rfl, ?_⟩
          refine ⟨_, rfl, by omega, by omega, fun D3 hD3 => lc_range (lo := 0) (n := n) (fun i H4 => Same (upd H2 l (.lst [])) H4 ∧ H4 D3 = some (.lst (ints_ ((List.range i).filter fun b => decide (b ∉ nearR n es lot c))))) ⟨same_new (Same.refl _) hD3, upd_same⟩ (fun i H4 hi pv => ?_) (fun H4 pv => ?_)⟩
          · obtain ⟨e4, hD4⟩ := pv
            refine ⟨rfl, _, rfl, _, rfl, D, _, rfl, .inl (.inl (.inl (e4 _ _ (s3 _ _ hD2)))), rfl, flat_ints _, _, rfl, ?_⟩
            have ev : inV (.int (0 + (i : Nat))) (ints_ ends) = decide (i ∈ nearR n es lot c) := by rw [Int.zero_add, inV_ints]; exact decide_eq_decide.mpr (mem i)
            rw [ev]
            by_cases hi2 : i ∈ nearR n es lot c
            · rw [decide_eq_true hi2]
              refine iteF ⟨e4, ?_⟩
              rw [range_filter, if_neg (by rw [decide_eq_false (by simpa using hi2)]; decide), List.append_nil]
              exact hD4
            · rw [decide_eq_false hi2]
              refine iteT ⟨_, rfl, _, hD4, by unfold ints_; rw [List.length_map]; exact small1000 (Nat.le_trans (List.length_filter_le _ _) (by rw [List.length_range]; omega)), fun b o hb => ?_, ?_⟩
              · rw [upd_ne (ne_of_none hb hD3)]
                exact e4 _ _ hb
              · rw [upd_same, range_filter, if_pos (decide_eq_true hi2), Int.zero_add, ints_snoc]
          · obtain ⟨e4, hD4⟩ := pv
            have e34 := e3.trans e4
            refine ⟨q, n, es, lot, c, D3, _, rfl, L.same e34, n5, e32, hc, .inr hD4, fun H5 b e5 hb => ⟨_, rfl, ?_⟩⟩
            cases b with
            | true => exact iteT (k _ _ (e34.trans e5) (.inr (.inr (.inl ⟨hm, hn2, hb.mp rfl, rfl⟩))))
            | false => exact iteF (k _ _ (e34.trans e5) (.inr (.inr (.inr ⟨hm, hn2, fun z => Bool.noConfusion (hb.mpr z), rfl⟩))))
/-! the sort is one, and hangs on the road cells alone -/
theorem SortIs.uniq {n : Nat} {es : List (Nat × Nat)} {rd : List Nat} {c : Nat} {z z' : Str} (h : SortIs n es rd c z) (h' : SortIs n es rd c z') : z = z' := by
  rcases h with ⟨a, rfl⟩ | ⟨a, b, rfl⟩ | ⟨a, b, d, rfl⟩ | ⟨a, b, d, rfl⟩ <;> rcases h' with ⟨a', rfl⟩ | ⟨a', b', rfl⟩ | ⟨a', b', d', rfl⟩ | ⟨a', b', d', rfl⟩ <;> first | rfl | exact absurd a a' | exact absurd a' a | exact absurd b b' | exact absurd b' b | exact absurd d d' | exact absurd d' d
end
end K7
end
/-! ## E1 -/
section
namespace K7E
open PySem PySem.SeqAt PySem.MeetsSeq PySem.AutoSeq1
theorem dict_eq_declines_str (l : Addr) (es : Array DictEntry) (n : Nat) (dd : Option Addr) (sl : Array (Option Value)) (b : Str) (u : Tok) :
    Meets (Builtin.«dict.__eq__» ⟨[.ref l, .str b u], []⟩) (fun _ R s => s.heap.get? l = some { cls := .type "dict", dict := dd, data := .dict es n, slots := sl } ∧ R (.ok (.ret .notImplemented)) s) :=
  .of_wp fun prog w A R s h => by obtain ⟨hp, g, d, tk, os⟩ := s; obtain ⟨hl, h⟩ := h; have f1 := F.sub_str_dict; wp_walk using wpAny_loadPart' hl; exact ⟨_, rfl, h⟩
theorem str_eq_declines_dict (b : Str) (u : Tok) (l : Addr) (c : Value) (es : Array DictEntry) (n : Nat) (dd : Option Addr) (sl : Array (Option Value)) :
    Meets (Builtin.«str.__eq__» ⟨[.str b u, .ref l], []⟩) (fun _ R s => s.heap.get? l = some { cls := c, dict := dd, data := .dict es n, slots := sl } ∧ R (.ok (.ret .notImplemented)) s) :=
  .of_wp fun prog w A R s h => by obtain ⟨hp, g, d, tk, os⟩ := s; obtain ⟨hl, h⟩ := h; wp_walk using wpAny_loadPart' hl, wpAny_load hl; exact ⟨_, rfl, h⟩
theorem RcAt.str_dict {A : Around} {s : Shared} {l : Addr} {es : Array DictEntry} {n : Nat} {dd : Option Addr} {sl : Array (Option Value)} (b : Str) (u : Tok) (ho : s.heap.get? l = some { cls := .type "dict", dict := dd, data := .dict es n, slots := sl }) (hu : A.units < cLine) : RcAt A s (.str b u) (.ref l) false := fun prog w E Q h => by
  exact rc_eq_decline_or (k := false) (typeIs_str s b u) ⟨_, ho, rfl⟩ (by decide) F.sub_dict_str F.slot_str_eq F.slot_dict_eq_refl
    (fun _ hq => call_meets F.slot_str_eq (typeIs_str s b u) F.entry_str_eq (F.args_str_eq_2 _ _) (str_eq_declines_dict b u l (.type "dict") es n dd sl) ⟨ho, hq⟩)
    (fun _ hq => call_meets F.slot_dict_eq_refl ⟨_, ho, rfl⟩ F.entry_dict_eq (F.args_dict_eq_2 _ _) (dict_eq_declines_str l es n dd sl b u) ⟨ho, hq⟩)
    (fun _ hq => wpAny_of_eq (rfl : isSame (.str b u) (.ref l) = pure false) hq) (.inr hu) h
theorem EqAt.str_dict {A : Around} {s : Shared} {l : Addr} {es : Array DictEntry} {n : Nat} {dd : Option Addr} {sl : Array (Option Value)} (b : Str) (u : Tok) (ho : s.heap.get? l = some { cls := .type "dict", dict := dd, data := .dict es n, slots := sl }) (hu : A.units < cLine) : EqAt A s (.str b u) (.ref l) false := fun prog w E Q h => by
  unfold eqBool
  refine wpAny_holding ?_
  refine wpAny_ite_split (fun hab => absurd (eq_of_beq hab) nofun) (fun _ => ?_)
  exact wpAny_bind (RcAt.str_dict b u ho hu prog w E _ (wpAny_truthy_bool h))
end K7E
end
/-! ## CU -/
section
open PySem PySem.Spec PyProof.Rows L2
namespace K7.C
abbrev N_BadClause___init__ : List Str := ["self", "what"]
abbrev s_BadClause___init__ : Stmt := inClass (topS 6) 0
theorem sc_BadClause___init__ : FnScope ["self", "what"] ["self", "what"] (defScope s_BadClause___init__) := ⟨rfl, rfl, rfl, by decide +kernel, rfl, by decide +kernel, by decide +kernel⟩

abbrev N_BadCustom___init__ : List Str := ["self", "what"]
abbrev s_BadCustom___init__ : Stmt := inClass (topS 5) 0
theorem sc_BadCustom___init__ : FnScope ["self", "what"] ["self", "what"] (defScope s_BadCustom___init__) := ⟨rfl, rfl, rfl, by decide +kernel, rfl, by decide +kernel, by decide +kernel⟩

/-! ### the words -/
def clauses : List Str := ["untold", "joined", "sold", "kept", "ends"]
def menus : List (List Str) := [["stay", "die", "needed stay"], ["die", "sleep"], ["none", "all", "beside", "need"], ["none", "all", "beside", "need"], ["never", "free"]]
def menuAt (i : Nat) : List Str := menus.getD i []
def clauseAt (i : Nat) : Str := clauses.getD i ""
theorem clause_get {i : Nat} (h : i < 5) : clauses[i]? = some (clauseAt i) := by
  match i, h with
  | 0, _ => rfl
  | 1, _ => rfl
  | 2, _ => rfl
  | 3, _ => rfl
  | 4, _ => rfl
/-- a tuple of the written part -/
def KTup (K : PySem.W.Frag) (a : Addr) (xs : List V) : Prop := ∃ (o : Obj) (its : Array Value) (n : Nat), K.lookup a = some o ∧ o.cls = .type "tuple" ∧ o.data = .seq its n ∧ its.size ≤ sizeLine ∧ Vals xs its.toList ∧ o.dict = none
theorem KTup.t {K : PySem.W.Frag} {a : Addr} {xs : List V} (h : KTup K a xs) (H : Hp) : SqT K H a xs := by
  obtain ⟨o, its, n, h1, h2, h3, h4, h5, _⟩ := h
  exact .inr ⟨o, its, n, h1, h2, h3, h4, h5⟩
theorem KTup.ty {K : PySem.W.Frag} {a : Addr} {xs : List V} (h : KTup K a xs) (H : Hp) : tyV K "tuple" (.ref a) H := by
  obtain ⟨o, its, n, h1, h2, h3, h4, h5, h6⟩ := h
  exact .inr (.inl ⟨rfl, o, h1, h2, h6⟩)
/-! ### x in a tuple of texts, x any thing -/
/-- a thing that is no text -/
inductive Odd (K : PySem.W.Frag) (H : Hp) : V → Prop where
  | non : Odd K H .non
  | bl (b : Bool) : Odd K H (.bl b)
  | int (i : Int) : Odd K H (.int i)
  | lst {a : Addr} {xs : List V} (h : H a = some (.lst xs)) : Odd K H (.ref a)
  | tup {a : Addr} {xs : List V} (h : H a = some (.tup xs)) : Odd K H (.ref a)
  | dct {a : Addr} {kvs : List (Key × V)} (h : H a = some (.dK kvs)) : Odd K H (.ref a)
theorem Odd.same {K : PySem.W.Frag} {H H' : Hp} {x : V} (o : Odd K H x) (e : Same H H') : Odd K H' x := by
  cases o with
  | non => exact .non
  | bl b => exact .bl b
  | int i => exact .int i
  | lst h => exact .lst (e _ _ h)
  | tup h => exact .tup (e _ _ h)
  | dct h => exact .dct (e _ _ h)
/-- whether x is one of the texts -/
inductive InW (K : PySem.W.Frag) (H : Hp) (ss : List Str) : V → Bool → Prop where
  | str (z : Str) : InW K H ss (.str z) (decide (z ∈ ss))
  | odd {x : V} (o : Odd K H x) : InW K H ss x false
def rInW (K : PySem.W.Frag) (neg : Bool) : R2 := fun x y H Q => ∃ p ss b, y = .ref p ∧ SqT K H p (ss.map V.str) ∧ InW K H ss x b ∧ Q (.bl (if neg then !b else b)) H
section
variable {X : Cx}
theorem vals_strs : ∀ {ss : List Str} {us : List Value}, Vals (ss.map V.str) us → ∀ u ∈ us, ∃ z t, u = .str z t ∧ z ∈ ss
  | [], _, r => fun u hu => by cases r; cases hu
  | z :: ss, _, r => fun u hu => by
    rw [List.map_cons] at r
    cases r with
    | cons h r =>
      obtain ⟨t, rfl⟩ := h
      rcases List.mem_cons.mp hu with rfl | hu
      · exact ⟨z, t, rfl, List.mem_cons_self⟩
      · obtain ⟨z', t', e, m⟩ := vals_strs r u hu
        exact ⟨z', t', e, List.mem_cons_of_mem _ m⟩
theorem any_strs (z : Str) : ∀ {ss : List Str} {us : List Value}, Vals (ss.map V.str) us → us.any (fun u => match u with | .str y _ => y == z | _ => false) = decide (z ∈ ss)
  | [], _, r => by cases r; rfl
  | y :: ss, _, r => by
    rw [List.map_cons] at r
    cases r with
    | cons h r =>
      obtain ⟨t, rfl⟩ := h
      rw [List.any_cons, any_strs z r]
      by_cases e : y = z
      · subst e
        simp
      · have e' : (y == z) = false := beq_eq_false_iff_ne.mpr e
        have e2 : ¬ z = y := fun q => e q.symm
        simp only [e', Bool.false_or, List.mem_cons, e2, false_or]
theorem odd_eq {A : Around} {pins : List (Addr × Obj)} {s : Shared} {σ : L2.St} {H : Hp} {x : V} {v : Value} (I : Inv X pins σ H s) (hu : A.units < cLine) (o : Odd X.K H x) (rx : RelV x v) (z : Str) (t : Tok) : SeqAt.EqAt A s (.str z t) v false := by
  cases o with
  | non => cases rx; exact SeqAt.EqAt.str_none z t
  | bl b => cases rx; exact SeqAt.EqAt.str_bool z t b
  | int i => obtain ⟨t', rfl⟩ := rx; exact SeqAt.EqAt.str_int z t i t'
  | @lst a xs h =>
    cases (show v = Value.ref a from rx)
    obtain ⟨_, its, n, _, h1⟩ := (show ObjOk X.prog X.w H s.heap a (.lst xs) from I.hok a _ h)
    exact SeqAt.EqAt.str_list z t ⟨_, h1, rfl, _, rfl⟩ hu
  | @tup a xs h =>
    cases (show v = Value.ref a from rx)
    obtain ⟨_, its, _, pl⟩ := (show ObjOk X.prog X.w H s.heap a (.tup xs) from I.hok a _ h)
    exact SeqAt.EqAt.str_tuple z t pl hu
  | @dct a kvs h =>
    cases (show v = Value.ref a from rx)
    obtain ⟨_, _, vs, _, o, es, ep, h1, h2, h3⟩ := (show ObjOk X.prog X.w H s.heap a (.dK kvs) from I.hok a _ h)
    obtain ⟨oc, od, oda, osl⟩ := o
    have e1 := h2.1
    simp only at e1 h3
    subst e1
    obtain ⟨h3, _⟩ := h3
    subst h3
    exact K7E.EqAt.str_dict z t h1 hu
theorem inW_core {A : Around} {pins : List (Addr × Obj)} {s : Shared} {σ : L2.St} {H : Hp} {x : V} {v : Value} {ss : List Str} {b : Bool} {its : List Value} (I : Inv X pins σ H s) (hu : A.units < cLine) (r : Vals (ss.map V.str) its) (rx : RelV x v) (h : InW X.K H ss x b) :
    ∃ f : Value → Bool, (∀ w ∈ its, SeqAt.EqAt A s w v (f w)) ∧ its.any f = b := by
  cases h with
  | str z =>
    obtain ⟨t', rfl⟩ := rx
    refine ⟨fun u => match u with | .str y _ => y == z | _ => false, fun w hw => ?_, any_strs z r⟩
    obtain ⟨y, t, rfl, _⟩ := vals_strs r w hw
    exact SeqAt.EqAt.str_str y t z t'
  | odd o =>
    refine ⟨fun _ => false, fun w hw => ?_, by simp⟩
    obtain ⟨y, t, rfl, _⟩ := vals_strs r w hw
    exact odd_eq I hu o rx y t
theorem op_inW (hu : X.A.units + 1 < cLine) : OpR X (compareOp .In) (rInW X.K false) := by
  intro pins s σ H x y v u Q I rx ry h
  obtain ⟨p, ss, b, rfl, hq, hi, q⟩ := h
  cases ry
  obtain ⟨its, r, pl, hz⟩ := I.tuple hq
  obtain ⟨f, hf, e⟩ := inW_core (A := X.A.in1) I hu r rx hi
  refine SeqAt.in_tupleAt f pl (fun w hw => hf w (by simpa using hw)) ⟨.bl _, H, I, rfl, ?_⟩
  rw [show its.toArray.any f = its.any f by simp, e]
  exact q
theorem op_notInW (hu : X.A.units + 1 < cLine) : OpR X (compareOp .NotIn) (rInW X.K true) := by
  intro pins s σ H x y v u Q I rx ry h
  obtain ⟨p, ss, b, rfl, hq, hi, q⟩ := h
  cases ry
  obtain ⟨its, r, pl, hz⟩ := I.tuple hq
  obtain ⟨f, hf, e⟩ := inW_core (A := X.A.in1) I hu r rx hi
  refine SeqAt.notIn_tupleAt f pl (fun w hw => hf w (by simpa using hw)) ⟨.bl _, H, I, rfl, ?_⟩
  rw [show its.toArray.any f = its.any f by simp, e]
  exact q
end
/-! ### what the top says -/
def fields : List Str := ["untold", "joined", "sold", "kept", "ends", "row", "number"]
structure Ad where
  (cl wd m0 m1 m2 m3 m4 C L U B N iU iB iN : Addr)
def Ad.menu (a : Ad) (i : Nat) : Addr := [a.m0, a.m1, a.m2, a.m3, a.m4].getD i a.m0
structure Tx (K : PySem.W.Frag) (w : World) (mg : Str → Option Value) (a : Ad) : Prop where
  gCl : mg "CLAUSES" = some (.ref a.cl)
  tCl : KTup K a.cl (clauses.map V.str)
  gWd : mg "_WORDS" = some (.ref a.wd)
  kWd : ∀ i < 5, KDct K w a.wd (clauseAt i) (.ref (a.menu i))
  tMn : ∀ i < 5, KTup K (a.menu i) ((menuAt i).map V.str)
  gU : mg "BadCustom" = some (.ref a.U)
  gB : mg "BadClause" = some (.ref a.B)
  oxU : OexC K a.U
  oxB : OexC K a.B
  iCU : PySem.W.findIn K (.ref a.U) "__init__" = some (some (.ref a.iU))
  iCB : PySem.W.findIn K (.ref a.B) "__init__" = some (some (.ref a.iB))
  tIU : PySem.W.typeIn K (.ref a.iU) = some (.type "function")
  tIB : PySem.W.typeIn K (.ref a.iB) = some (.type "function")
  nU : PySem.W.findIn K (.ref a.U) "what" = some none
  nB : PySem.W.findIn K (.ref a.B) "what" = some none
  gC : mg "Custom" = some (.ref a.C)
  cl : Cls K a.C
  nA : ∀ f ∈ fields, NoAttr K a.C f
/-- an error of the class C with one field is raised -/
def Flies (H : Hp) (C : Addr) (f : Str) (v : V) (E : XK) : Prop := ∀ H' d, Same H H' → H d = none → H' d = some (.xd [(f, v)]) → E (.ref C) (some d) H'
theorem Flies.later {H H1 : Hp} {C : Addr} {f : Str} {v : V} {E : XK} (h : Flies H C f v E) (e : Same H H1) : Flies H1 C f v E := fun H' d e' n q => h H' d (e.trans e') (e.free n) q
section
variable {P : Program} {w : World} {K : PySem.W.Frag} {mg : Str → Option Value} {base : Heap} {a : Ad}
/-! errors are made -/
def spX (C : Addr) (f : Str) : Sp := fun vs H Q _ => ∃ (e : Addr) (y : V), vs = [.ref e, y] ∧ H e = some (exo e C none) ∧ ∀ d, H d = none → d ≠ e → Q .non (upd (upd H d (exd d [(f, y)])) e (exo e C (some d)))
theorem ok_iB (T : Tx K w mg a) {f : Addr} {fd : FuncData} (F : Fun K "__init__" "BadClause.__init__" s_BadClause___init__ f fd) : FnOk P w K mg base (L2.CX P w) 1 f fd ["self", "what"] (spX a.B "what") := by
  refine F.okX sc_BadClause___init__ (fun vs H Q E h => ?_) (fun cdv A outer s H vs Q E hr h => ?_)
  · obtain ⟨e, y, rfl, _⟩ := h
    rfl
  · obtain ⟨e, y, rfl, he, q⟩ := h
    refine ⟨_, (pss_one (ps_ost (pv 0) (pv 1))), ?_⟩
    exact ⟨y, rfl, .ref e, rfl, e, a.B, rfl, T.oxB, T.nB, .inl ⟨he, fun d hd hn => q d hd hn⟩⟩
theorem ok_iU (T : Tx K w mg a) {f : Addr} {fd : FuncData} (F : Fun K "__init__" "BadCustom.__init__" s_BadCustom___init__ f fd) : FnOk P w K mg base (L2.CX P w) 1 f fd ["self", "what"] (spX a.U "what") := by
  refine F.okX sc_BadCustom___init__ (fun vs H Q E h => ?_) (fun cdv A outer s H vs Q E hr h => ?_)
  · obtain ⟨e, y, rfl, _⟩ := h
    rfl
  · obtain ⟨e, y, rfl, he, q⟩ := h
    refine ⟨_, (pss_one (ps_ost (pv 0) (pv 1))), ?_⟩
    exact ⟨y, rfl, .ref e, rfl, e, a.U, rfl, T.oxU, T.nU, .inl ⟨he, fun d hd hn => q d hd hn⟩⟩
/-- the reading of «raise X(y)» -/
theorem flies_go {H : Hp} {C : Addr} {f : Str} {y : V} {E : XK} (h : Flies H C f y E) :
    ∀ e, H e = none → spX C f (.ref e :: ([y] ++ [])) (upd H e (exo e C none)) (fun v H2 => v = .non ∧ ∃ (d : Addr) (fs : List (Str × V)), H2 e = some (exo e C (some d)) ∧ H2 d = some (exd d fs) ∧ H d = none ∧ E (.ref C) (some d) (upd (del H2 e) d (.xd fs))) (fun _ _ _ => False) := by
  intro e he
  refine ⟨e, y, rfl, upd_same, fun d hd hne => ⟨rfl, d, _, upd_same, by rw [upd_ne hne, upd_same], ?_, ?_⟩⟩
  · rw [upd_ne hne] at hd
    exact hd
  · rw [upd_ne hne] at hd
    refine h _ d (fun b o hb => ?_) hd upd_same
    have h1 : b ≠ d := ne_of_none hb hd
    have h2 : b ≠ e := ne_of_none hb he
    rw [upd_ne h1, del_ne h2, upd_ne h2, upd_ne h1, upd_ne h2]
    exact hb
end
abbrev N_Custom___init__ : List Str := ["self", "untold", "joined", "sold", "kept", "ends", "row", "number", "clause", "word"]
abbrev s_Custom___init__ : Stmt := inClass (topS 28) 0
theorem sc_Custom___init__ : FnScope ["self", "untold", "joined", "sold", "kept", "ends", "row", "number", "clause", "word"] ["self", "untold", "joined", "sold", "kept", "ends"] (defScope s_Custom___init__) := ⟨rfl, rfl, rfl, by decide +kernel, rfl, by decide +kernel, by decide +kernel⟩

/-! ### rows and numbers -/
def ixAt (n i : Nat) : Nat := [n / 64 % 3, n / 32 % 2, n / 8 % 4, n / 2 % 4, n % 2].getD i 0
def wAt (n i : Nat) : Str := (menuAt i).getD (ixAt n i) ""
def rowOf (n : Nat) : List Str := [wAt n 0, wAt n 1, wAt n 2, wAt n 3, wAt n 4]
def dv (i : Nat) : Nat := [192, 64, 32, 8, 2, 1].getD i 1
theorem row_get {n i : Nat} (h : i < 5) : (rowOf n)[i]? = some (wAt n i) := by
  match i, h with
  | 0, _ => rfl
  | 1, _ => rfl
  | 2, _ => rfl
  | 3, _ => rfl
  | 4, _ => rfl
theorem step_all : ∀ n : Fin 192, ∀ i : Fin 5, n.val / dv i.val * (menuAt i.val).length + (menuAt i.val).idxOf (wAt n.val i.val) = n.val / dv (i.val + 1) ∧ wAt n.val i.val ∈ menuAt i.val := by decide +kernel
theorem menu_nodup : ∀ i : Fin 5, (menuAt i.val).Nodup ∧ (menuAt i.val).length ≤ 4 := by decide +kernel
theorem menu_ix0 : ∀ i : Fin 5, ∀ s ∈ menuAt i.val, (menuAt i.val)[(menuAt i.val).idxOf s]? = some s ∧ (menuAt i.val).idxOf s < 4 ∧ ∀ m : Fin 4, m.val < (menuAt i.val).idxOf s → (menuAt i.val)[m.val]? ≠ some s := by decide +kernel
theorem menu_ix {i : Nat} (hi : i < 5) {s : Str} (h : s ∈ menuAt i) : (menuAt i)[(menuAt i).idxOf s]? = some s ∧ ∀ m, m < (menuAt i).idxOf s → (menuAt i)[m]? ≠ some s := by
  obtain ⟨h1, h2, h3⟩ := menu_ix0 ⟨i, hi⟩ s h
  exact ⟨h1, fun m hm => h3 ⟨m, Nat.lt_trans hm h2⟩ hm⟩
theorem num_dv : ∀ n : Fin 192, n.val / dv 0 = 0 := by decide +kernel
def custFs (w : List V) (t : Addr) (n : Int) : List (Str × V) :=
  putF "number" (.int n) (putF "row" (.ref t) (putF "ends" (w.getD 4 .non) (putF "kept" (w.getD 3 .non) (putF "sold" (w.getD 2 .non) (putF "joined" (w.getD 1 .non) (putF "untold" (w.getD 0 .non) []))))))
/-- a custom of the number n stands at p -/
def CustAt (C : Addr) (H : Hp) (p : Addr) (n : Nat) : Prop := n < 192 ∧ ∃ dx t, H p = some (.ins C dx (custFs ((rowOf n).map V.str) t n)) ∧ H t = some (.tup ((rowOf n).map V.str))
theorem CustAt.same {C : Addr} {H H' : Hp} {p : Addr} {n : Nat} (c : CustAt C H p n) (e : Same H H') : CustAt C H' p n := by
  obtain ⟨h, dx, t, h1, h2⟩ := c
  exact ⟨h, dx, t, e _ _ h1, e _ _ h2⟩
/-- a word that does not belong to a clause -/
def BadW (K : PySem.W.Frag) (H : Hp) (i : Nat) (x : V) : Prop := InW K H (menuAt i) x false
theorem InW.same {K : PySem.W.Frag} {H H' : Hp} {ss : List Str} {x : V} {b : Bool} (h : InW K H ss x b) (e : Same H H') : InW K H' ss x b := by
  cases h with
  | str z => exact .str z
  | odd o => exact .odd (o.same e)
section
variable {P : Program} {w : World} {K : PySem.W.Frag} {mg : Str → Option Value} {base : Heap} {a : Ad}
def spInit (K : PySem.W.Frag) (a : Ad) : Sp := fun vs H Q E => ∃ (x dx : Addr) (w0 w1 w2 w3 w4 : V), vs = [.ref x, w0, w1, w2, w3, w4] ∧ H x = some (.ins a.C dx []) ∧
  ((∃ n, n < 192 ∧ [w0, w1, w2, w3, w4] = (rowOf n).map V.str ∧ ∀ H', But x H H' → CustAt a.C H' x n → Q .non H') ∨
   (∃ p, p < 5 ∧ (∀ i < p, ∃ z ∈ menuAt i, [w0, w1, w2, w3, w4][i]? = some (.str z)) ∧ (∃ z, [w0, w1, w2, w3, w4][p]? = some z ∧ BadW K H p z) ∧ Flies H a.U "what" (.str (clauseAt p)) E))
theorem ok_init (T : Tx K w mg a) {f : Addr} {fd fdU : FuncData} (F : Fun K "__init__" "Custom.__init__" s_Custom___init__ f fd) (FU0 : Fun K "__init__" "BadCustom.__init__" s_BadCustom___init__ a.iU fdU) (bU : Binds K fdU ["self", "what"] [])
    (m_zip : mg "zip" = none) (m_len : mg "len" = none) : FnOk P w K mg base (L2.CX P w) 3 f fd ["self", "untold", "joined", "sold", "kept", "ends"] (spInit K a) := by
  have FU : FnOk P w K mg base (L2.CX P w) 1 a.iU fdU ["self", "what"] (spX a.U "what") := ok_iU T FU0
  refine F.okX sc_Custom___init__ (fun vs H Q E h => ?_) (fun cdv A outer s H vs Q E hr h => ?_)
  · obtain ⟨x, dx, w0, w1, w2, w3, w4, rfl, _⟩ := h
    rfl
  · obtain ⟨x, dx, w0, w1, w2, w3, w4, rfl, hx, h⟩ := h
    have hu1 := hu_of hr
    have hrx : Room (1 + 1) _ := hr
    refine ⟨_, (pss_cons (ps_set (i := 6) sc_Custom___init__.nd rfl (by first | exact Or.inl rfl | exact Or.inr rfl) (pe_tup (pa_cons (pv 1) (pa_cons (pv 2) (pa_cons (pv 3) (pa_cons (pv 4) (pa_cons (pv 5) pa_nil)))))))
 (pss_cons (ps_set (i := 7) sc_Custom___init__.nd rfl (by first | exact Or.inl rfl | exact Or.inr rfl) pe_int)
 (pss_cons (ps_for (passes_of rfl) rfl (RZ.pi_zipA (by rfl) m_zip (pa_cons (pe_glob (v := .ref _) rfl T.gCl rfl) (pa_cons (pv 6) pa_nil))) (pg_tup rfl (pgs_cons (pg_name (i := 8) sc_Custom___init__.nd rfl (by first | exact Or.inl rfl | exact Or.inr rfl)) (pgs_cons (pg_name (i := 9) sc_Custom___init__.nd rfl (by first | exact Or.inl rfl | exact Or.inr rfl)) pgs_nil)))
  (pss_cons (ps_if (pt_cmpR (op_notInW hu1) (pv 9) (pe_ix ix_kdict (pe_glob (v := .ref _) rfl T.gWd rfl) (pv 8) (fun _ _ => rfl)) (by with_unfolding_all rfl))
  (pss_one (ps_raise rfl (takes_of rfl rfl rfl rfl) (pmk_oex T.oxU T.iCU T.tIU FU hrx bU .nil passL (by rfl) T.gU (pa_cons (pv 8) pa_nil))))
  pss_nil)
 (pss_one (ps_set (i := 7) sc_Custom___init__.nd rfl (by first | exact Or.inl rfl | exact Or.inr rfl) (pe_op op_add (pe_op op_mul (pv 7) (pe_callB call_len_seq (by rfl) m_len boot_len (pa_cons (pe_ix ix_kdict (pe_glob (v := .ref _) rfl T.gWd rfl) (pv 8) (fun _ _ => rfl)) pa_nil))) (pe_bm PySem.F.plainAttrs_tuple PySem.F.slot_tuple_index PySem.F.type_tuple_index mt_tup_index (pe_ix ix_kdict (pe_glob (v := .ref _) rfl T.gWd rfl) (pv 8) (fun _ _ => rfl)) (pa_cons (pv 9) pa_nil)))))))
 (pss_cons (ps_fld (pv 0) (pv 1) rfl)
 (pss_cons (ps_fld (pv 0) (pv 2) rfl)
 (pss_cons (ps_fld (pv 0) (pv 3) rfl)
 (pss_cons (ps_fld (pv 0) (pv 4) rfl)
 (pss_cons (ps_fld (pv 0) (pv 5) rfl)
 (pss_cons (ps_fld (pv 0) (pv 6) rfl)
 (pss_one (ps_fld (pv 0) (pv 7) rfl))))))))))), ?_⟩
    refine ⟨w0, rfl, w1, rfl, w2, rfl, w3, rfl, w4, rfl, by show 5 ≤ sizeLine; decide, fun t ht => ?_⟩
    have hxt : x ≠ t := ne_of_none hx ht
    have e0 : Same H (upd H t (.tup [w0, w1, w2, w3, w4])) := same_new (Same.refl H) ht
    refine ⟨.ref t, rfl, a.cl, t, _, _, rfl, .inr ⟨T.tCl.t _, .inl (.inl upd_same), RZ.for_zipT (xs := clauses.map V.str) (ys := [w0, w1, w2, w3, w4]) rfl (fun i σ H' => ∃ (z : Int) (y8 y9 : Option V), σ = [some (.ref x), some w0, some w1, some w2, some w3, some w4, some (.ref t), some (.int z), y8, y9] ∧ Same (upd H t (.tup [w0, w1, w2, w3, w4])) H' ∧
      ((∃ n, n < 192 ∧ [w0, w1, w2, w3, w4] = (rowOf n).map V.str ∧ z = ((n / dv i : Nat) : Int) ∧ ∀ H', But x H H' → CustAt a.C H' x n → Q .non H') ∨
       (∃ p, p < 5 ∧ i ≤ p ∧ (∀ i < p, ∃ z ∈ menuAt i, [w0, w1, w2, w3, w4][i]? = some (.str z)) ∧ (∃ z, [w0, w1, w2, w3, w4][p]? = some z ∧ BadW K H p z) ∧ Flies H a.U "what" (.str (clauseAt p)) E))) ?_ (fun i σ H' p => ?_) (fun i v y T' σ H' hv hy p nT => ?_) (fun σ H' p => ?_)⟩⟩
    · refine ⟨0, none, none, rfl, Same.refl _, ?_⟩
      rcases h with ⟨n, hn, e, q⟩ | ⟨p, hp, h1, h2, h3⟩
      · exact .inl ⟨n, hn, e, by rw [num_dv ⟨n, hn⟩]; rfl, q⟩
      · exact .inr ⟨p, hp, Nat.zero_le _, h1, h2, h3⟩
    · obtain ⟨z, y8, y9, rfl, e, _⟩ := p
      exact ⟨T.tCl.t _, .inl (.inl (e _ _ upd_same))⟩
    · obtain ⟨z, y8, y9, rfl, e, hm⟩ := p
      have hi : i < 5 := (List.getElem?_eq_some_iff.mp hy).1
      have hv' : v = .str (clauseAt i) := by
        rw [List.getElem?_map, clause_get hi] at hv
        exact (Option.some.inj hv).symm
      subst hv'
      refine ⟨T', _, rfl, .inl (.inl upd_same), rfl, _, _, rfl, _, _, rfl, rfl, ?_⟩
      have e1 : Same H (upd H' T' (.tup [.str (clauseAt i), y])) := same_new (e0.trans e) nT
      have e2 : Same (upd H t (.tup [w0, w1, w2, w3, w4])) (upd H' T' (.tup [.str (clauseAt i), y])) := same_new e nT
      have hlen : ((menuAt i).map V.str).length = (menuAt i).length := List.length_map ..
      have hl4 := (menu_nodup ⟨i, hi⟩).2
      have hl4' : (menuAt i).length ≤ 4 := hl4
      -- which words
      have cases_ : (∃ s ∈ menuAt i, y = .str s ∧ ((∃ n, n < 192 ∧ [w0, w1, w2, w3, w4] = (rowOf n).map V.str ∧ z * (((menuAt i).map V.str).length : Int) + ((menuAt i).idxOf s : Nat) = ((n / dv (i + 1) : Nat) : Int) ∧ ∀ H', But x H H' → CustAt a.C H' x n → Q .non H') ∨
          (∃ p, p < 5 ∧ i + 1 ≤ p ∧ (∀ i < p, ∃ z ∈ menuAt i, [w0, w1, w2, w3, w4][i]? = some (.str z)) ∧ (∃ z, [w0, w1, w2, w3, w4][p]? = some z ∧ BadW K H p z) ∧ Flies H a.U "what" (.str (clauseAt p)) E))) ∨
          (BadW K H i y ∧ Flies H a.U "what" (.str (clauseAt i)) E) := by
        rcases hm with ⟨n, hn, ew, ez, q⟩ | ⟨p, hp, hip, h1, h2, h3⟩
        · have ey : y = .str (wAt n i) := by
            rw [ew, List.getElem?_map, row_get hi] at hy
            exact (Option.some.inj hy).symm
          obtain ⟨st, sm⟩ := step_all ⟨n, hn⟩ ⟨i, hi⟩
          refine .inl ⟨_, sm, ey, .inl ⟨n, hn, ew, ?_, q⟩⟩
          have st' : n / dv i * (menuAt i).length + (menuAt i).idxOf (wAt n i) = n / dv (i + 1) := st
          rw [ez, hlen, ← st']
          simp
        · by_cases e3 : i < p
          · obtain ⟨s, sm, es⟩ := h1 i e3
            have ey : y = .str s := Option.some.inj (hy.symm.trans es)
            exact .inl ⟨s, sm, ey, .inr ⟨p, hp, e3, h1, h2, h3⟩⟩
          · have : i = p := by omega
            subst this
            obtain ⟨z', ez, hb⟩ := h2
            have ey : y = z' := Option.some.inj (hy.symm.trans ez)
            subst ey
            exact .inr ⟨hb, h3⟩
      rcases cases_ with ⟨s, sm, rfl, hgo⟩ | ⟨hb, hfl⟩
      · have hin : InW K (upd H' T' (.tup [.str (clauseAt i), .str s])) (menuAt i) (.str s) true := by
          rw [← decide_eq_true sm]
          exact .str s
        obtain ⟨i1, i2⟩ := menu_ix hi sm
        refine ⟨_, rfl, _, rfl, _, _, _, rfl, rfl, T.kWd i hi, _, menuAt i, true, rfl, (T.tMn i hi).t _, hin, _, rfl, ?_⟩
        refine ⟨_, rfl, _, rfl, _, _, _, rfl, rfl, T.kWd i hi, _, _, rfl, .inr ((T.tMn i hi).t _), _, _, rfl, rfl, .inr ⟨by omega, by omega⟩, _, rfl, _, _, _, rfl, rfl, T.kWd i hi, (T.tMn i hi).ty _, _, rfl, _, _, s, _, rfl, rfl, (T.tMn i hi).t _, i1, i2, _, _, rfl, rfl, ?_⟩
        exact ⟨_, _, _, rfl, e2, hgo⟩
      · refine ⟨_, rfl, _, rfl, _, _, _, rfl, rfl, T.kWd i hi, _, menuAt i, false, rfl, (T.tMn i hi).t _, InW.same hb e1, _, rfl, ?_⟩
        exact ⟨_, rfl, by show 1 ≤ 1000; decide, flies_go (hfl.later e1)⟩
    · obtain ⟨z, y8, y9, rfl, e, hm⟩ := p
      rcases hm with ⟨n, hn, ew, ez, q⟩ | ⟨p, hp, hip, _⟩
      · have ez' : z = (n : Int) := by rw [ez]; show ((n / 1 : Nat) : Int) = _; rw [Nat.div_one]
        subst ez'
        have ht2 : H' t = some (.tup ((rowOf n).map V.str)) := by rw [← ew]; exact e _ _ upd_same
        have hx2 : H' x = some (.ins a.C dx []) := e _ _ (by rw [upd_ne hxt]; exact hx)
        have hn' : ∀ f, f ∈ fields → NoAttr K a.C f := T.nA
        refine ⟨_, rfl, _, rfl, x, a.C, dx, _, rfl, hx2, T.cl, hn' _ (by decide), by show 0 < 1000; decide, ?_⟩
        refine ⟨_, rfl, _, rfl, x, a.C, dx, _, rfl, upd_same, T.cl, hn' _ (by decide), by show 1 < 1000; decide, ?_⟩
        refine ⟨_, rfl, _, rfl, x, a.C, dx, _, rfl, upd_same, T.cl, hn' _ (by decide), by show 2 < 1000; decide, ?_⟩
        refine ⟨_, rfl, _, rfl, x, a.C, dx, _, rfl, upd_same, T.cl, hn' _ (by decide), by show 3 < 1000; decide, ?_⟩
        refine ⟨_, rfl, _, rfl, x, a.C, dx, _, rfl, upd_same, T.cl, hn' _ (by decide), by show 4 < 1000; decide, ?_⟩
        refine ⟨_, rfl, _, rfl, x, a.C, dx, _, rfl, upd_same, T.cl, hn' _ (by decide), by show 5 < 1000; decide, ?_⟩
        refine ⟨_, rfl, _, rfl, x, a.C, dx, _, rfl, upd_same, T.cl, hn' _ (by decide), by show 6 < 1000; decide, ?_⟩
        rw [upd_upd, upd_upd, upd_upd, upd_upd, upd_upd, upd_upd]
        refine q _ (fun b o hb hz => by rw [upd_ne hb]; exact e _ _ (e0 _ _ hz)) ⟨hn, dx, t, ?_, by rw [upd_ne hxt.symm]; exact ht2⟩
        rw [upd_same, ← ew]
        rfl
      · exact absurd hip (by show ¬ (5 ≤ p); omega)
end
abbrev N_Custom___eq__ : List Str := ["self", "other"]
abbrev s_Custom___eq__ : Stmt := inClass (topS 28) 1
theorem sc_Custom___eq__ : FnScope ["self", "other"] ["self", "other"] (defScope s_Custom___eq__) := ⟨rfl, rfl, rfl, by decide +kernel, rfl, by decide +kernel, by decide +kernel⟩

theorem custFs_look (w : List V) (t : Addr) (n : Int) : (custFs w t n).lookup ("row" : Str) = some (.ref t) ∧ (custFs w t n).lookup ("number" : Str) = some (.int n) ∧
    (custFs w t n).lookup ("untold" : Str) = some (w.getD 0 .non) ∧ (custFs w t n).lookup ("joined" : Str) = some (w.getD 1 .non) ∧ (custFs w t n).lookup ("sold" : Str) = some (w.getD 2 .non) ∧ (custFs w t n).lookup ("kept" : Str) = some (w.getD 3 .non) ∧ (custFs w t n).lookup ("ends" : Str) = some (w.getD 4 .non) :=
  ⟨rfl, rfl, rfl, rfl, rfl, rfl, rfl⟩
theorem dp_strs {K : PySem.W.Frag} {H : Hp} : ∀ ss : List Str, DpAll K H (ss.map V.str) (ss.map PyData.str)
  | [] => .nil
  | z :: ss => .cons (.str z) (dp_strs ss)
theorem eqv_strs : ∀ ss tt : List Str, PyData.eqvAll (ss.map PyData.str) (tt.map PyData.str) = decide (ss = tt)
  | [], [] => rfl
  | [], _ :: _ => by simp [PyData.eqvAll]
  | _ :: _, [] => by simp [PyData.eqvAll]
  | x :: ss, y :: tt => by
    rw [List.map_cons, List.map_cons, PyData.eqvAll, eqv_strs ss tt]
    by_cases e : x = y
    · subst e
      simp [PyData.eqv]
    · simp [PyData.eqv, e]
theorem shaped_strs (ss : List Str) (h : ∀ z ∈ ss, PyData.strOk z = true) : SeqAt.shaped (.tuple (ss.map PyData.str)) = true ∧ SeqAt.shaped (.list (ss.map PyData.str)) = true := by
  have h1 : ∀ ss : List Str, (∀ z ∈ ss, PyData.strOk z = true) → PyData.canLayAll0 (ss.map PyData.str) = true := fun ss => by
    induction ss with
    | nil => intro _; simp [PyData.canLayAll0]
    | cons x r ih => intro h; simp [PyData.canLayAll0, PyData.canLay0, ih fun z hz => h z (List.mem_cons_of_mem _ hz), h x List.mem_cons_self]
  have h2 : ∀ ss : List Str, PyData.depthAll (ss.map PyData.str) = 0 := fun ss => by
    induction ss with
    | nil => simp [PyData.depthAll]
    | cons x r ih => simp [PyData.depthAll, PyData.depth, ih]
  refine ⟨?_, ?_⟩
  · show ((PyData.canLay0 (.tuple (ss.map PyData.str))) && decide (PyData.depth (.tuple (ss.map PyData.str)) ≤ 64)) = true
    simp [PyData.canLay0, PyData.depth, h1 ss h, h2]
  · show ((PyData.canLay0 (.list (ss.map PyData.str))) && decide (PyData.depth (.list (ss.map PyData.str)) ≤ 64)) = true
    simp [PyData.canLay0, PyData.depth, h1 ss h, h2]
theorem row_ok0 : ∀ n : Fin 192, (rowOf n.val).all PyData.strOk = true := by decide +kernel
theorem row_ok {n : Nat} (h : n < 192) : ∀ z ∈ rowOf n, PyData.strOk z = true := List.all_eq_true.mp (row_ok0 ⟨n, h⟩)
def numOf (ss : List Str) : Nat := ((((menuAt 0).idxOf (ss.getD 0 "") * 2 + (menuAt 1).idxOf (ss.getD 1 "")) * 4 + (menuAt 2).idxOf (ss.getD 2 "")) * 4 + (menuAt 3).idxOf (ss.getD 3 "")) * 2 + (menuAt 4).idxOf (ss.getD 4 "")
theorem num_row : ∀ n : Fin 192, numOf (rowOf n.val) = n.val := by decide +kernel
theorem row_inj {n m : Nat} (hn : n < 192) (hm : m < 192) : rowOf n = rowOf m ↔ n = m :=
  ⟨fun e => by have h1 := num_row ⟨n, hn⟩; have h2 := num_row ⟨m, hm⟩; simp only at h1 h2; rw [← h1, ← h2, e], fun e => by rw [e]⟩
/-! ### what more the top says -/
structure Tc (K : PySem.W.Frag) (mg : Str → Option Value) (a : Ad) : Prop where
  ha : PySem.W.findIn K (.ref a.C) "__class__" = some (some (.builtin "object.__class__"))
  hn : PySem.W.specialIn K (.builtin "object.__class__") "__get__" = some (some (.builtin "getset_descriptor.__get__"))
  ht : PySem.W.takesIn K (.builtin "object.__class__") = some true
  hm : PySem.W.mroIn K a.C (.type "object") = some true
  own : PySem.W.kitOne K (.ref a.C) (.ref a.C) = some true
  tup : PySem.W.kitOne K (.type "tuple") (.ref a.C) = some false
section
variable {P : Program} {w : World} {K : PySem.W.Frag} {mg : Str → Option Value} {base : Heap} {a : Ad}
/-! Custom.word -/
def spEqC (K : PySem.W.Frag) (a : Ad) : Sp := fun vs H Q _ => ∃ (p q : Addr) (n : Nat), vs = [.ref p, .ref q] ∧ CustAt a.C H p n ∧ ((∃ m, CustAt a.C H q m ∧ Q (.bl (decide (n = m))) H) ∨ (∃ xs, H q = some (.tup xs) ∧ Q (.bl false) H))
theorem ok_eqC (T : Tx K w mg a) (T2 : Tc K mg a) {f : Addr} {fd : FuncData} (F : Fun K "__eq__" "Custom.__eq__" s_Custom___eq__ f fd) (m_isinstance : mg "isinstance" = none) : FnOk P w K mg base CX0 1 f fd ["self", "other"] (spEqC K a) := by
  refine F.ok sc_Custom___eq__ (fun vs H Q E h => ?_) (fun cdv A outer s H vs Q E hr h => ?_)
  · obtain ⟨p, q, n, rfl, _⟩ := h
    rfl
  · obtain ⟨p, q, n, rfl, ⟨hn, dx, t, hp, ht⟩, h⟩ := h
    have hu64 := hr.units
    refine ⟨_, (pss_one (ps_ret (pe_and (pe_callB call_isi (by rfl) m_isinstance boot_isinstance (pa_cons (pv 1) (pa_cons (pe_glob (v := .ref _) rfl T.gC rfl) pa_nil))) (pe_one (pe_cmpR (op_eqD hu64) (pe_fld (pv 0) rfl) (pe_fld (pv 1) rfl) (nomark _)))))), ?_⟩
    rcases h with ⟨m, ⟨hm, dy, u, hq, hu⟩, k⟩ | ⟨xs, hq, k⟩
    · refine ⟨_, rfl, _, _, _, _, _, rfl, .own _, .base (.ins hq T.cl T2.ha T2.hn T2.ht T2.hm), T2.own, true, rfl, ?_⟩
      refine ⟨.ref p, rfl, p, a.C, dx, _, _, rfl, hp, T.cl, T.nA _ (by decide), (custFs_look _ _ _).1, .ref q, rfl, q, a.C, dy, _, _, rfl, hq, T.cl, T.nA _ (by decide), (custFs_look _ _ _).1, _, _, .tup (.inl (.inl ht)) (dp_strs _), .tup (.inl (.inl hu)) (dp_strs _), (shaped_strs _ (row_ok hn)).1, (shaped_strs _ (row_ok hm)).1, ?_⟩
      have e : PyData.eqv (.tuple ((rowOf n).map PyData.str)) (.tuple ((rowOf m).map PyData.str)) = decide (n = m) := by
        rw [PyData.eqv, eqv_strs]
        exact decide_eq_decide.mpr (row_inj hn hm)
      rw [e]
      exact k
    · exact ⟨_, rfl, _, _, _, _, _, rfl, .own _, .base (.tup hq), T2.tup, false, rfl, k⟩
/-- a promise's end: a new custom -/
def NewC (a : Ad) (m : Nat) (H : Hp) (Q : VK) : Prop := ∀ H' q, Same H H' → H q = none → CustAt a.C H' q m → Q (.ref q) H'
theorem new_init {H H1 : Hp} {Q : VK} {E : XK} {m : Nat} {ws : List V} (e : Same H H1) (hm : m < 192) (hw : ws = (rowOf m).map V.str) (q : NewC a m H Q) :
    ∀ x dx, H1 x = none → H1 dx = none → dx ≠ x → spInit K a (.ref x :: (ws ++ [])) (upd (upd H1 dx (.own x)) x (.ins a.C dx [])) (fun v H2 => v = .non ∧ Q (.ref x) H2) E := by
  intro x dx hx hdx hne
  subst hw
  refine ⟨x, dx, .str (wAt m 0), .str (wAt m 1), .str (wAt m 2), .str (wAt m 3), .str (wAt m 4), rfl, upd_same, .inl ⟨m, hm, rfl, fun H' hb hc => ⟨rfl, q H' x (fun b o hz => ?_) (e.free hx) hc⟩⟩⟩
  have hz1 := e _ _ hz
  have n1 : b ≠ x := ne_of_none hz1 hx
  refine hb b o n1 ?_
  rw [upd_ne n1, upd_ne (ne_of_none hz1 hdx)]
  exact hz1
theorem clause_eq0 : ∀ i j : Fin 5, clauseAt i.val = clauseAt j.val → i = j := by decide +kernel
theorem clause_eq {i j : Nat} (hi : i < 5) (hj : j < 5) : clauseAt i = clauseAt j ↔ i = j := ⟨fun e => congrArg Fin.val (clause_eq0 ⟨i, hi⟩ ⟨j, hj⟩ e), fun e => by rw [e]⟩
theorem dec_str (x y : Str) : decide (V.str x = V.str y) = decide (x = y) := by
  by_cases e : x = y
  · subst e; simp
  · simp [e]
/-! Custom.changed -/
end
end K7.C
end
/-! ## P18 -/
section
open PySem PySem.Spec PyProof.Rows L2
namespace K7
abbrev N_Counted___init__ : List Str := ["self", "grants", "untold", "giving_up"]
abbrev s_Counted___init__ : Stmt := inClass (topS 9) 0
theorem sc_Counted___init__ : FnScope ["self", "grants", "untold", "giving_up"] ["self", "grants", "untold", "giving_up"] (defScope s_Counted___init__) := ⟨rfl, rfl, rfl, by decide +kernel, rfl, by decide +kernel, by decide +kernel⟩
abbrev N_Counted___eq__ : List Str := ["self", "other"]
abbrev s_Counted___eq__ : Stmt := inClass (topS 9) 1
theorem sc_Counted___eq__ : FnScope ["self", "other"] ["self", "other"] (defScope s_Counted___eq__) := ⟨rfl, rfl, rfl, by decide +kernel, rfl, by decide +kernel, by decide +kernel⟩
abbrev N_meant : List Str := ["counted"]
abbrev s_meant : Stmt := topS 10
theorem sc_meant : FnScope ["counted"] ["counted"] (defScope s_meant) := ⟨rfl, rfl, rfl, by decide +kernel, rfl, by decide +kernel, by decide +kernel⟩
abbrev N_EveryLand___init__ : List Str := ["self", "custom", "counted", "far", "loose", "bound"]
abbrev s_EveryLand___init__ : Stmt := inClass (topS 35) 0
theorem sc_EveryLand___init__ : FnScope ["self", "custom", "counted", "far", "loose", "bound"] ["self", "custom", "counted", "far", "loose", "bound"] (defScope s_EveryLand___init__) := ⟨rfl, rfl, rfl, by decide +kernel, rfl, by decide +kernel, by decide +kernel⟩
abbrev N_EveryLand___eq__ : List Str := ["self", "other"]
abbrev s_EveryLand___eq__ : Stmt := inClass (topS 35) 1
theorem sc_EveryLand___eq__ : FnScope ["self", "other"] ["self", "other"] (defScope s_EveryLand___eq__) := ⟨rfl, rfl, rfl, by decide +kernel, rfl, by decide +kernel, by decide +kernel⟩
abbrev N_EveryLand_nowhere : List Str := ["self"]
abbrev s_EveryLand_nowhere : Stmt := inClass (topS 35) 2
theorem sc_EveryLand_nowhere : FnScope ["self"] ["self"] (defScope s_EveryLand_nowhere) := ⟨rfl, rfl, rfl, by decide +kernel, rfl, by decide +kernel, by decide +kernel⟩
abbrev N_EveryLand_everywhere : List Str := ["self"]
abbrev s_EveryLand_everywhere : Stmt := inClass (topS 35) 3
theorem sc_EveryLand_everywhere : FnScope ["self"] ["self"] (defScope s_EveryLand_everywhere) := ⟨rfl, rfl, rfl, by decide +kernel, rfl, by decide +kernel, by decide +kernel⟩
/-- what the top says of a class with fields of its own -/
structure To (K : PySem.W.Frag) (mg : Str → Option Value) (nm : Str) (C : Addr) (fl : List Str) : Prop where
  g : mg nm = some (.ref C)
  cl : Cls K C
  nA : ∀ f ∈ fl, NoAttr K C f
  ha : PySem.W.findIn K (.ref C) "__class__" = some (some (.builtin "object.__class__"))
  hn : PySem.W.specialIn K (.builtin "object.__class__") "__get__" = some (some (.builtin "getset_descriptor.__get__"))
  ht : PySem.W.takesIn K (.builtin "object.__class__") = some true
  hm : PySem.W.mroIn K C (.type "object") = some true
  own : PySem.W.kitOne K (.ref C) (.ref C) = some true
theorem al {H : Hp} {o : HO} {b : Addr} (nb : H b = none) : Same H (upd H b o) := same_new (Same.refl H) nb
def cntFs (b0 b1 b2 : Bool) : List (Str × V) := putF "giving_up" (.bl b2) (putF "untold" (.bl b1) (putF "grants" (.bl b0) []))
def cntL : List Str := ["grants", "untold", "giving_up"]
def CntAt (C : Addr) (H : Hp) (p : Addr) (b0 b1 b2 : Bool) : Prop := ∃ dx, H p = some (.ins C dx (cntFs b0 b1 b2))
theorem CntAt.same {C : Addr} {H H' : Hp} {p : Addr} {b0 b1 b2 : Bool} (h : CntAt C H p b0 b1 b2) (e : Same H H') : CntAt C H' p b0 b1 b2 := h.imp fun _ z => e _ _ z
section
variable {P : Program} {w : World} {K : PySem.W.Frag} {mg : Str → Option Value} {base : Heap} {N : Addr}
def spCtI (N : Addr) : Sp := fun vs H Q _ => ∃ (x dx : Addr) (b0 b1 b2 : Bool), vs = [.ref x, .bl b0, .bl b1, .bl b2] ∧ H x = some (.ins N dx []) ∧ ∀ H', But x H H' → CntAt N H' x b0 b1 b2 → Q .non H'
theorem ok_ctI (TN : To K mg "Counted" N cntL) {f : Addr} {fd : FuncData} (F : FunD K "__init__" "Counted.__init__" (defArgs s_Counted___init__) (defBody s_Counted___init__) (defScope s_Counted___init__) [.bl true, .bl true, .bl false] [] f fd)
    (m_isinstance : mg "isinstance" = none) (m_bool : mg "bool" = none) : FnOk P w K mg base CX0 1 f fd ["self", "grants", "untold", "giving_up"] (spCtI N) := by
  refine F.ok sc_Counted___init__ (fun vs H Q E h => ?_) (fun cdv A outer s H vs Q E hr h => ?_)
  · obtain ⟨x, dx, b0, b1, b2, rfl, _⟩ := h
    rfl
  · obtain ⟨x, dx, b0, b1, b2, rfl, hx, q⟩ := h
    refine ⟨_, (pss_cons (ps_if (pt_not (pt_val (pe_callB call_isi (by rfl) m_isinstance boot_isinstance (pa_cons (pv 1) (pa_cons (pe_bltn (v := .ty "bool") (by rfl) m_bool boot_bool rfl) pa_nil)))))
  (pss_one ps_never)
  pss_nil)
 (pss_cons (ps_if (pt_not (pt_val (pe_callB call_isi (by rfl) m_isinstance boot_isinstance (pa_cons (pv 2) (pa_cons (pe_bltn (v := .ty "bool") (by rfl) m_bool boot_bool rfl) pa_nil)))))
  (pss_one ps_never)
  pss_nil)
 (pss_cons (ps_if (pt_not (pt_val (pe_callB call_isi (by rfl) m_isinstance boot_isinstance (pa_cons (pv 3) (pa_cons (pe_bltn (v := .ty "bool") (by rfl) m_bool boot_bool rfl) pa_nil)))))
  (pss_one ps_never)
  pss_nil)
 (pss_cons (ps_fld (pv 0) (pv 1) rfl)
 (pss_cons (ps_fld (pv 0) (pv 2) rfl)
 (pss_one (ps_fld (pv 0) (pv 3) rfl))))))), ?_⟩
    refine ⟨_, rfl, _, _, _, _, _, rfl, .ty _, .base (.bl b0), kit_ty (r := true) (by decide +kernel), _, rfl, ?_⟩
    refine iteFo rfl ?_
    refine ⟨_, rfl, _, _, _, _, _, rfl, .ty _, .base (.bl b1), kit_ty (r := true) (by decide +kernel), _, rfl, ?_⟩
    refine iteFo rfl ?_
    refine ⟨_, rfl, _, _, _, _, _, rfl, .ty _, .base (.bl b2), kit_ty (r := true) (by decide +kernel), _, rfl, ?_⟩
    refine iteFo rfl ?_
    refine ⟨_, rfl, _, rfl, x, N, dx, _, rfl, hx, TN.cl, TN.nA _ (by decide), by show 0 < 1000; decide, ?_⟩
    refine ⟨_, rfl, _, rfl, x, N, dx, _, rfl, upd_same, TN.cl, TN.nA _ (by decide), by show 1 < 1000; decide, ?_⟩
    refine ⟨_, rfl, _, rfl, x, N, dx, _, rfl, upd_same, TN.cl, TN.nA _ (by decide), by show 2 < 1000; decide, ?_⟩
    exact q _ (fun b o nb hb => by rw [upd_ne nb, upd_ne nb, upd_ne nb]; exact hb) ⟨dx, upd_same⟩
def spCtE (N : Addr) : Sp := fun vs H Q _ => ∃ (p q : Addr) (b0 b1 b2 c0 c1 c2 : Bool), vs = [.ref p, .ref q] ∧ CntAt N H p b0 b1 b2 ∧ CntAt N H q c0 c1 c2 ∧ Q (.bl (decide (b0 = c0 ∧ b1 = c1 ∧ b2 = c2))) H
theorem ok_ctE (TN : To K mg "Counted" N cntL) {f : Addr} {fd : FuncData} (F : Fun K "__eq__" "Counted.__eq__" s_Counted___eq__ f fd) (m_isinstance : mg "isinstance" = none) : FnOk P w K mg base CX0 1 f fd ["self", "other"] (spCtE N) := by
  refine F.ok sc_Counted___eq__ (fun vs H Q E h => ?_) (fun cdv A outer s H vs Q E hr h => ?_)
  · obtain ⟨p, q, b0, b1, b2, c0, c1, c2, rfl, _⟩ := h
    rfl
  · obtain ⟨p, q, b0, b1, b2, c0, c1, c2, rfl, ⟨dx, hp⟩, ⟨dy, hq⟩, k⟩ := h
    refine ⟨_, (pss_one (ps_ret (pe_and (pe_callB call_isi (by rfl) m_isinstance boot_isinstance (pa_cons (pv 1) (pa_cons (pe_glob (v := .ref _) rfl TN.g rfl) pa_nil))) (pe_and (pe_cmpR op_eq (pe_fld (pv 0) rfl) (pe_fld (pv 1) rfl) (nomark _)) (pe_and (pe_cmpR op_eq (pe_fld (pv 0) rfl) (pe_fld (pv 1) rfl) (nomark _)) (pe_one (pe_cmpR op_eq (pe_fld (pv 0) rfl) (pe_fld (pv 1) rfl) (nomark _)))))))), ?_⟩
    have eb : ∀ a b : Bool, decide (V.bl a = V.bl b) = decide (a = b) := fun a b => decide_eq_decide.mpr ⟨fun e => by injection e, fun e => by rw [e]⟩
    refine ⟨_, rfl, _, _, _, _, _, rfl, .own _, .base (.ins hq TN.cl TN.ha TN.hn TN.ht TN.hm), TN.own, true, rfl, ?_⟩
    refine ⟨.ref p, rfl, p, N, dx, _, _, rfl, hp, TN.cl, TN.nA _ (by decide), rfl, .ref q, rfl, q, N, dy, _, _, rfl, hq, TN.cl, TN.nA _ (by decide), rfl, rfl, _, rfl, ?_⟩
    rw [eb]
    by_cases h0 : b0 = c0
    · rw [decide_eq_true h0]
      refine ⟨.ref p, rfl, p, N, dx, _, _, rfl, hp, TN.cl, TN.nA _ (by decide), rfl, .ref q, rfl, q, N, dy, _, _, rfl, hq, TN.cl, TN.nA _ (by decide), rfl, rfl, _, rfl, ?_⟩
      rw [eb]
      by_cases h1 : b1 = c1
      · rw [decide_eq_true h1]
        refine ⟨.ref p, rfl, p, N, dx, _, _, rfl, hp, TN.cl, TN.nA _ (by decide), rfl, .ref q, rfl, q, N, dy, _, _, rfl, hq, TN.cl, TN.nA _ (by decide), rfl, rfl, ?_⟩
        rw [eb]
        rw [decide_eq_decide.mpr (show b2 = c2 ↔ (b0 = c0 ∧ b1 = c1 ∧ b2 = c2) from ⟨fun z => ⟨h0, h1, z⟩, fun z => z.2.2⟩)]
        exact k
      · rw [decide_eq_false h1]
        rw [decide_eq_false (fun z => h1 z.2.1)] at k
        exact k
    · rw [decide_eq_false h0]
      rw [decide_eq_false (fun z => h0 z.1)] at k
      exact k
def spMt (N : Addr) : Sp := fun vs H Q _ => ∃ x : V, vs = [x] ∧ ((x = .non ∧ ∀ H' q, Same H H' → CntAt N H' q true true false → Q (.ref q) H') ∨ (∃ q b0 b1 b2, x = .ref q ∧ CntAt N H q b0 b1 b2 ∧ Q (.ref q) H))
theorem ok_mt (TN : To K mg "Counted" N cntL) {f fI : Addr} {fd fdI : FuncData} {ds : List Value} (F : Fun K "meant" "meant" s_meant f fd) (MN : Mk K N fI) (GN : FnOk P w K mg base CX0 1 fI fdI ["self", "grants", "untold", "giving_up"] (spCtI N)) (vN : Vals [.bl true, .bl true, .bl false] ds) (bN : Binds K fdI ["self", "grants", "untold", "giving_up"] ds) : FnOk P w K mg base CX0 3 f fd ["counted"] (spMt N) := by
  refine F.ok sc_meant (fun vs H Q E h => ?_) (fun cdv A outer s H vs Q E hr h => ?_)
  · obtain ⟨x, rfl, _⟩ := h
    rfl
  · obtain ⟨x, rfl, h⟩ := h
    refine ⟨_, (pss_one (ps_ret (pe_ifExp (pt_cmpR op_isN (pv 0) pe_non (nomark _)) (pe_make0 MN GN (hr.mono (by decide)) (by rfl) TN.g bN vN pass0) (pv 0)))), ?_⟩
    rcases h with ⟨rfl, q⟩ | ⟨p, b0, b1, b2, rfl, hp, q⟩
    · refine ⟨_, rfl, rfl, _, rfl, ?_⟩
      rw [decide_eq_true rfl]
      refine iteT ?_
      intro x dx hx hdx hne
      have e : Same H (upd (upd H dx (.own x)) x (.ins N dx [])) := same_new (al hdx) (by rw [upd_ne hne.symm]; exact hx)
      exact ⟨x, dx, true, true, false, rfl, upd_same, fun H' b z => ⟨rfl, q H' x (fun y o hy => b y o (ne_of_none hy hx) (e _ _ hy)) z⟩⟩
    · refine ⟨_, rfl, rfl, _, rfl, ?_⟩
      rw [decide_eq_false (by intro e; cases e)]
      exact iteF ⟨_, rfl, q⟩
/-! ### EveryLand -/
def optV : Option Nat → V
  | none => .non
  | some k => .int (k : Nat)
def evFs (cu co : Addr) (f l b : Option Nat) : List (Str × V) := putF "bound" (optV b) (putF "loose" (optV l) (putF "far" (optV f) (putF "counted" (.ref co) (putF "custom" (.ref cu) []))))
def evL : List Str := ["custom", "counted", "far", "loose", "bound"]
structure EvIs (G D N : Addr) (H : Hp) (p : Addr) (m : Nat) (b0 b1 b2 : Bool) (f l b : Option Nat) : Prop where
  at_ : ∃ dx cu co, H p = some (.ins G dx (evFs cu co f l b)) ∧ C.CustAt D H cu m ∧ CntAt N H co b0 b1 b2
theorem EvIs.same {G D N : Addr} {H H' : Hp} {p : Addr} {m : Nat} {b0 b1 b2 : Bool} {f l b : Option Nat} (h : EvIs G D N H p m b0 b1 b2 f l b) (e : Same H H') : EvIs G D N H' p m b0 b1 b2 f l b := by
  obtain ⟨dx, cu, co, h1, h2, h3⟩ := h.at_
  exact ⟨dx, cu, co, e _ _ h1, h2.same e, h3.same e⟩
variable {G D : Addr}
def spEvI (G : Addr) : Sp := fun vs H Q _ => ∃ (x dx cu co : Addr) (f l b : Option Nat), vs = [.ref x, .ref cu, .ref co, optV f, optV l, optV b] ∧ H x = some (.ins G dx []) ∧ ∀ H', But x H H' → H' x = some (.ins G dx (evFs cu co f l b)) → Q .non H'
theorem ok_evI (TE : To K mg "EveryLand" G evL) {f : Addr} {fd : FuncData} (F : Fun K "__init__" "EveryLand.__init__" s_EveryLand___init__ f fd) : FnOk P w K mg base CX0 1 f fd ["self", "custom", "counted", "far", "loose", "bound"] (spEvI G) := by
  refine F.ok sc_EveryLand___init__ (fun vs H Q E h => ?_) (fun cdv A outer s H vs Q E hr h => ?_)
  · obtain ⟨x, dx, cu, co, f, l, b, rfl, _⟩ := h
    rfl
  · obtain ⟨x, dx, cu, co, f, l, b, rfl, hx, q⟩ := h
    refine ⟨_, (pss_cons (ps_fld (pv 0) (pv 1) rfl)
 (pss_cons (ps_fld (pv 0) (pv 2) rfl)
 (pss_cons (ps_fld (pv 0) (pv 3) rfl)
 (pss_cons (ps_fld (pv 0) (pv 4) rfl)
 (pss_one (ps_fld (pv 0) (pv 5) rfl)))))), ?_⟩
    refine ⟨_, rfl, _, rfl, x, G, dx, _, rfl, hx, TE.cl, TE.nA _ (by decide), by show 0 < 1000; decide, ?_⟩
    refine ⟨_, rfl, _, rfl, x, G, dx, _, rfl, upd_same, TE.cl, TE.nA _ (by decide), by show 1 < 1000; decide, ?_⟩
    refine ⟨_, rfl, _, rfl, x, G, dx, _, rfl, upd_same, TE.cl, TE.nA _ (by decide), by show 2 < 1000; decide, ?_⟩
    refine ⟨_, rfl, _, rfl, x, G, dx, _, rfl, upd_same, TE.cl, TE.nA _ (by decide), by show 3 < 1000; decide, ?_⟩
    refine ⟨_, rfl, _, rfl, x, G, dx, _, rfl, upd_same, TE.cl, TE.nA _ (by decide), by show 4 < 1000; decide, ?_⟩
    exact q _ (fun b o nb hb => by rw [upd_ne nb, upd_ne nb, upd_ne nb, upd_ne nb, upd_ne nb]; exact hb) upd_same
theorem opt_non (o : Option Nat) : decide (optV o = V.non) = o.isNone := by cases o <;> rfl
def spNo (G D N : Addr) : Sp := fun vs H Q _ => ∃ (p : Addr) (m : Nat) (b0 b1 b2 : Bool) (f l b : Option Nat), vs = [.ref p] ∧ EvIs G D N H p m b0 b1 b2 f l b ∧ Q (.bl (f.isNone && (l.isNone && b.isNone))) H
theorem ok_no (TE : To K mg "EveryLand" G evL) {f : Addr} {fd : FuncData} (F : Fun K "nowhere" "EveryLand.nowhere" s_EveryLand_nowhere f fd) : FnOk P w K mg base CX0 1 f fd ["self"] (spNo G D N) := by
  refine F.ok sc_EveryLand_nowhere (fun vs H Q E h => ?_) (fun cdv A outer s H vs Q E hr h => ?_)
  · obtain ⟨p, m, b0, b1, b2, f, l, b, rfl, _⟩ := h
    rfl
  · obtain ⟨p, m, b0, b1, b2, f, l, b, rfl, ⟨dx, cu, co, hp, _⟩, q⟩ := h
    refine ⟨_, (pss_one (ps_ret (pe_and (pe_cmpR op_isN (pe_fld (pv 0) rfl) pe_non (nomark _)) (pe_and (pe_cmpR op_isN (pe_fld (pv 0) rfl) pe_non (nomark _)) (pe_one (pe_cmpR op_isN (pe_fld (pv 0) rfl) pe_non (nomark _))))))), ?_⟩
    refine ⟨.ref p, rfl, p, G, dx, _, _, rfl, hp, TE.cl, TE.nA _ (by decide), rfl, rfl, _, rfl, ?_⟩
    rw [opt_non]
    cases f with
    | some f => exact q
    | none =>
      refine ⟨.ref p, rfl, p, G, dx, _, _, rfl, hp, TE.cl, TE.nA _ (by decide), rfl, rfl, _, rfl, ?_⟩
      rw [opt_non]
      cases l with
      | some l => exact q
      | none =>
        refine ⟨.ref p, rfl, p, G, dx, _, _, rfl, hp, TE.cl, TE.nA _ (by decide), rfl, rfl, ?_⟩
        rw [opt_non]
        exact q
def spEv (G D N : Addr) : Sp := fun vs H Q _ => ∃ (p : Addr) (m : Nat) (b0 b1 b2 : Bool) (f l b : Option Nat), vs = [.ref p] ∧ EvIs G D N H p m b0 b1 b2 f l b ∧ Q (.bl (f.isSome && (l.isSome && b.isSome))) H
theorem opt_some (o : Option Nat) : (!decide (optV o = V.non)) = o.isSome := by cases o <;> rfl
theorem ok_ev (TE : To K mg "EveryLand" G evL) {f : Addr} {fd : FuncData} (F : Fun K "everywhere" "EveryLand.everywhere" s_EveryLand_everywhere f fd) : FnOk P w K mg base CX0 1 f fd ["self"] (spEv G D N) := by
  refine F.ok sc_EveryLand_everywhere (fun vs H Q E h => ?_) (fun cdv A outer s H vs Q E hr h => ?_)
  · obtain ⟨p, m, b0, b1, b2, f, l, b, rfl, _⟩ := h
    rfl
  · obtain ⟨p, m, b0, b1, b2, f, l, b, rfl, ⟨dx, cu, co, hp, _⟩, q⟩ := h
    refine ⟨_, (pss_one (ps_ret (pe_and (pe_cmpR op_notN (pe_fld (pv 0) rfl) pe_non (nomark _)) (pe_and (pe_cmpR op_notN (pe_fld (pv 0) rfl) pe_non (nomark _)) (pe_one (pe_cmpR op_notN (pe_fld (pv 0) rfl) pe_non (nomark _))))))), ?_⟩
    refine ⟨.ref p, rfl, p, G, dx, _, _, rfl, hp, TE.cl, TE.nA _ (by decide), rfl, rfl, _, rfl, ?_⟩
    rw [opt_some]
    cases f with
    | none => exact q
    | some f =>
      refine ⟨.ref p, rfl, p, G, dx, _, _, rfl, hp, TE.cl, TE.nA _ (by decide), rfl, rfl, _, rfl, ?_⟩
      rw [opt_some]
      cases l with
      | none => exact q
      | some l =>
        refine ⟨.ref p, rfl, p, G, dx, _, _, rfl, hp, TE.cl, TE.nA _ (by decide), rfl, rfl, ?_⟩
        rw [opt_some]
        exact q
variable {ac : C.Ad}
def spEvE (G D N : Addr) : Sp := fun vs H Q _ => ∃ (p q : Addr) (m : Nat) (b0 b1 b2 : Bool) (f l b : Option Nat), vs = [.ref p, .ref q] ∧ EvIs G D N H p m b0 b1 b2 f l b ∧
  ((∃ (m' : Nat) (c0 c1 c2 : Bool) (f' l' b' : Option Nat), EvIs G D N H q m' c0 c1 c2 f' l' b' ∧ Q (.bl (decide (m = m' ∧ b0 = c0 ∧ b1 = c1 ∧ b2 = c2))) H) ∨ (∃ xs, H q = some (.lst xs) ∧ Q (.bl false) H) ∨ (∃ m', C.CustAt D H q m' ∧ Q (.bl false) H))
theorem ok_evE (TE : To K mg "EveryLand" G evL) (TD : To K mg "Custom" ac.C C.fields) (TN : To K mg "Counted" N cntL) (kL : PySem.W.kitOne K (.type "list") (.ref G) = some false) (kD : PySem.W.kitOne K (.ref ac.C) (.ref G) = some false) {f fcE0 fnE0 : Addr} {fd fdcE fdnE : FuncData} (F : Fun K "__eq__" "EveryLand.__eq__" s_EveryLand___eq__ f fd)
    (GcE : FnOk P w K mg base CX0 1 fcE0 fdcE ["self", "other"] (C.spEqC K ac)) (fcE : PySem.W.findIn K (.ref ac.C) "__eq__" = some (some (.ref fcE0))) (icE : PySem.W.isFn K (.ref fcE0) = true) (bcE : Binds K fdcE ["self", "other"] [])
    (GnE : FnOk P w K mg base CX0 1 fnE0 fdnE ["self", "other"] (spCtE N)) (fnE : PySem.W.findIn K (.ref N) "__eq__" = some (some (.ref fnE0))) (inE : PySem.W.isFn K (.ref fnE0) = true) (bnE : Binds K fdnE ["self", "other"] [])
    (m_isinstance : mg "isinstance" = none) : FnOk P w K mg base CX0 3 f fd ["self", "other"] (spEvE G ac.C N) := by
  refine F.ok sc_EveryLand___eq__ (fun vs H Q E h => ?_) (fun cdv A outer s H vs Q E hr h => ?_)
  · obtain ⟨p, q, m, b0, b1, b2, f, l, b, rfl, _⟩ := h
    rfl
  · obtain ⟨p, q, m, b0, b1, b2, f, l, b, rfl, ⟨dx, cu, co, hp, hcu, hco⟩, h⟩ := h
    refine ⟨_, (pss_one (ps_ret (pe_and (pe_callB call_isi (by rfl) m_isinstance boot_isinstance (pa_cons (pv 1) (pa_cons (pe_glob (v := .ref _) rfl TE.g rfl) pa_nil))) (pe_and (pe_cmpR (K7E.op_eqOwn GcE fcE icE bcE (hr.mono (by decide)) pass0) (pe_fld (pv 0) rfl) (pe_fld (pv 1) rfl) (nomark _)) (pe_one (pe_cmpR (K7E.op_eqOwn GnE fnE inE bnE (hr.mono (by decide)) pass0) (pe_fld (pv 0) rfl) (pe_fld (pv 1) rfl) (nomark _))))))), ?_⟩
    rcases h with ⟨m', c0, c1, c2, f', l', b', ⟨dy, cu', co', hq, hcu', hco'⟩, k⟩ | ⟨xs, hq, k⟩ | ⟨m', ⟨hm', dy, t, hq, _⟩, k⟩
    · refine ⟨_, rfl, _, _, _, _, _, rfl, .own _, .base (.ins hq TE.cl TE.ha TE.hn TE.ht TE.hm), TE.own, true, rfl, ?_⟩
      refine ⟨.ref p, rfl, p, G, dx, _, _, rfl, hp, TE.cl, TE.nA _ (by decide), rfl, .ref q, rfl, q, G, dy, _, _, rfl, hq, TE.cl, TE.nA _ (by decide), rfl, ?_⟩
      obtain ⟨hm, d1, t1, g1, _⟩ := id hcu
      obtain ⟨hm', d2, t2, g2, _⟩ := id hcu'
      refine ⟨cu, _, _, cu', _, rfl, rfl, g1, .base (.ins g2 TD.cl TD.ha TD.hn TD.ht TD.hm), by simp [PySem.W.notFirst], cu, cu', m, rfl, hcu, .inl ⟨m', hcu', _, rfl, ?_⟩⟩
      by_cases hmm : m = m'
      · rw [decide_eq_true hmm]
        refine ⟨.ref p, rfl, p, G, dx, _, _, rfl, hp, TE.cl, TE.nA _ (by decide), rfl, .ref q, rfl, q, G, dy, _, _, rfl, hq, TE.cl, TE.nA _ (by decide), rfl, ?_⟩
        obtain ⟨d3, g3⟩ := id hco
        obtain ⟨d4, g4⟩ := id hco'
        refine ⟨co, _, _, co', _, rfl, rfl, g3, .base (.ins g4 TN.cl TN.ha TN.hn TN.ht TN.hm), by simp [PySem.W.notFirst], co, co', b0, b1, b2, c0, c1, c2, rfl, hco, hco', ?_⟩
        rw [decide_eq_decide.mpr (show (b0 = c0 ∧ b1 = c1 ∧ b2 = c2) ↔ (m = m' ∧ b0 = c0 ∧ b1 = c1 ∧ b2 = c2) from ⟨fun z => ⟨hmm, z⟩, fun z => z.2⟩)]
        exact k
      · rw [decide_eq_false hmm]
        rw [decide_eq_false (fun z => hmm z.1)] at k
        exact k
    · exact ⟨_, rfl, _, _, _, _, _, rfl, .own _, .base (.lst hq), kL, false, rfl, k⟩
    · exact ⟨_, rfl, _, _, _, _, _, rfl, .own _, .base (.ins hq TD.cl TD.ha TD.hn TD.ht TD.hm), kD, false, rfl, k⟩
end
end K7
end
/-! ## P19 -/
section
open PySem PySem.Spec PyProof.Rows L2
namespace K7
abbrev N__case : List Str := ["row", "counted", "sort", "untold", "joined", "sold", "kept", "_", "both", "staying"]
abbrev s__case : Stmt := topS 36
theorem sc__case : FnScope ["row", "counted", "sort", "untold", "joined", "sold", "kept", "_", "both", "staying"] ["row", "counted", "sort"] (defScope s__case) := ⟨rfl, rfl, rfl, by decide +kernel, rfl, by decide +kernel, by decide +kernel⟩
/-! ### which case -/
section
def c1V (s k : Str) : Bool := inV (.str "none") [.str s, .str k]
def c2V (s k z : Str) : Bool := decide (V.str z = V.str "far") && inV (.str "beside") [.str s, .str k]
def c4V (u : Str) (b1 : Bool) : Bool := b1 && decide (V.str u = V.str "die")
def stV (u : Str) (b1 : Bool) : Bool := b1 && decide (V.str u = V.str "needed stay")
def c5V (u s k : Str) (b1 : Bool) : Bool := stV u b1 && !PyData.eqv (.tuple [.str s, .str k]) (.tuple [.str "need", .str "need"])
def c6V (s k z : Str) : Bool := decide (V.str z = V.str "loose") && (inV (.str "beside") [.str s, .str k] && inV (.str "need") [.str s, .str k])
def caseV (u j s k z : Str) (b0 b1 b2 : Bool) : Option Str :=
  if c1V s k = true then some "bare" else if c2V s k z = true then some "bare" else if b2 = true then some "given up" else if c4V u b1 = true then some "untold" else
  if c5V u s k b1 = true then some "untold" else if c6V s k z = true then some "by turns" else if (stV u b1 && b0) = true then some "granted" else if (stV u b1 && decide (V.str j = V.str "sleep")) = true then some "woken" else none
def optS : Option Str → V
  | none => .non
  | some z => .str z
end
section
variable {P : Program} {w : World} {K : PySem.W.Frag} {mg : Str → Option Value} {base : Heap} {D N : Addr}
def spCase (D N : Addr) : Sp := fun vs H Q _ => ∃ (rw co : Addr) (z : Str) (m : Nat) (b0 b1 b2 : Bool), vs = [.ref rw, .ref co, .str z] ∧ m < 192 ∧ H rw = some (.tup ((C.rowOf m).map V.str)) ∧ CntAt N H co b0 b1 b2 ∧ ∀ H', Same H H' → Q (optS (caseV (C.wAt m 0) (C.wAt m 1) (C.wAt m 2) (C.wAt m 3) z b0 b1 b2)) H'
theorem iteB {b : Bool} {p q : Prop} (h1 : b = true → p) (h2 : b = false → q) : if b = true then p else q := by
  cases b with
  | true => exact h1 rfl
  | false => exact h2 rfl
theorem ok_case (TN : To K mg "Counted" N cntL) {f : Addr} {fd : FuncData} (F : Fun K "_case" "_case" s__case f fd) : FnOk P w K mg base CX0 1 f fd ["row", "counted", "sort"] (spCase D N) := by
  refine F.ok sc__case (fun vs H Q E h => ?_) (fun cdv A outer s H vs Q E hr h => ?_)
  · obtain ⟨rw, co, z, m, b0, b1, b2, rfl, _⟩ := h
    rfl
  · obtain ⟨rw, co, z, m, b0, b1, b2, rfl, hm, hrw, ⟨dy, hco⟩, q⟩ := h
    have hrw : H rw = some (.tup [.str (C.wAt m 0), .str (C.wAt m 1), .str (C.wAt m 2), .str (C.wAt m 3), .str (C.wAt m 4)]) := hrw
    refine ⟨_, (pss_cons (ps_asg (pv 0) (pg_tup rfl (pgs_cons (pg_name (i := 3) sc__case.nd rfl (by first | exact Or.inl rfl | exact Or.inr rfl)) (pgs_cons (pg_name (i := 4) sc__case.nd rfl (by first | exact Or.inl rfl | exact Or.inr rfl)) (pgs_cons (pg_name (i := 5) sc__case.nd rfl (by first | exact Or.inl rfl | exact Or.inr rfl)) (pgs_cons (pg_name (i := 6) sc__case.nd rfl (by first | exact Or.inl rfl | exact Or.inr rfl)) (pgs_cons (pg_name (i := 7) sc__case.nd rfl (by first | exact Or.inl rfl | exact Or.inr rfl)) pgs_nil)))))))
 (Evl.pss_cut (ps_set (i := 8) sc__case.nd rfl (by first | exact Or.inl rfl | exact Or.inr rfl) (pe_tup (pa_cons (pv 5) (pa_cons (pv 6) pa_nil))))
 (Evl.pss_cut (ps_if (pt_cmpR op_in_seq pe_str (pv 8) (by with_unfolding_all rfl))
  (pss_one (ps_ret pe_str))
  pss_nil)
 (Evl.pss_cut (ps_if (pw_and (pt_cmpR op_eq (pv 2) pe_str (nomark _)) (pw_and1 (pt_cmpR op_in_seq pe_str (pv 8) (by with_unfolding_all rfl)))).pt
  (pss_one (ps_ret pe_str))
  pss_nil)
 (Evl.pss_cut (ps_if (pt_val (pe_fld (pv 1) rfl))
  (pss_one (ps_ret pe_str))
  pss_nil)
 (Evl.pss_cut (ps_if (pw_and (pt_val (pe_fld (pv 1) rfl)) (pw_and1 (pt_cmpR op_eq (pv 3) pe_str (nomark _)))).pt
  (pss_one (ps_ret pe_str))
  pss_nil)
 (Evl.pss_cut (ps_set (i := 9) sc__case.nd rfl (by first | exact Or.inl rfl | exact Or.inr rfl) (pe_and (pe_fld (pv 1) rfl) (pe_one (pe_cmpR op_eq (pv 3) pe_str (nomark _)))))
 (Evl.pss_cut (ps_if (pw_and (pt_val (pv 9)) (pw_and1 (pt_cmpR (op_neD hr.units) (pv 8) (pe_tup (pa_cons pe_str (pa_cons pe_str pa_nil))) (nomark _)))).pt
  (pss_one (ps_ret pe_str))
  pss_nil)
 (Evl.pss_cut (ps_if (pw_and (pt_cmpR op_eq (pv 2) pe_str (nomark _)) (pw_and (pt_cmpR op_in_seq pe_str (pv 8) (by with_unfolding_all rfl)) (pw_and1 (pt_cmpR op_in_seq pe_str (pv 8) (by with_unfolding_all rfl))))).pt
  (pss_one (ps_ret pe_str))
  pss_nil)
 (Evl.pss_cut (ps_if (pw_and (pt_val (pv 9)) (pw_and1 (pt_val (pe_fld (pv 1) rfl)))).pt
  (pss_one (ps_ret pe_str))
  pss_nil)
 (pss_one (ps_ret (pe_ifExp (pw_and (pt_val (pv 9)) (pw_and1 (pt_cmpR op_eq (pv 4) pe_str (nomark _)))).pt pe_str pe_non))))))))))))), ?_⟩
    generalize hu : C.wAt m 0 = u at q hrw
    generalize hj : C.wAt m 1 = j at q hrw
    generalize hs : C.wAt m 2 = s' at q hrw
    generalize hk : C.wAt m 3 = k at q hrw
    generalize C.wAt m 4 = en at hrw
    refine ⟨_, rfl, rw, _, rfl, .inl (.inl hrw), rfl, _, _, rfl, _, _, rfl, _, _, rfl, _, _, rfl, _, _, rfl, rfl, ?_⟩
    refine ⟨fun τ H' => ∃ B, τ = [some (.ref rw), some (.ref co), some (.str z), some (.str u), some (.str j), some (.str s'), some (.str k), some (.str en), some (.ref B), none] ∧ Same H H' ∧ H' B = some (.tup [.str s', .str k]), ?_, fun τ H' hM => ?_⟩
    · refine ⟨_, rfl, _, rfl, by show 2 ≤ sizeLine; decide, fun B nB => ?_⟩
      exact ⟨B, rfl, al nB, upd_same⟩
    · obtain ⟨B, rfl, e, hB⟩ := hM
      have shs : SeqAt.shaped (.tuple [.str s', .str k]) = true := by
        rw [← hs, ← hk]
        exact (by decide +kernel : ∀ n : Fin 192, SeqAt.shaped (.tuple [.str (C.wAt n.val 2), .str (C.wAt n.val 3)]) = true) ⟨m, hm⟩
      have fnd : ∀ (x : Str) (H' : Hp), Same H H' → H' B = some (.tup [.str s', .str k]) → SqT K H' B [.str s', .str k] := fun _ _ _ h => .inl (.inl h)
      unfold caseV at q
      have fco : ∀ H', Same H H' → H' co = some (.ins N dy (cntFs b0 b1 b2)) := fun H' e => e _ _ hco
      refine ⟨fun τ H' => τ = [some (.ref rw), some (.ref co), some (.str z), some (.str u), some (.str j), some (.str s'), some (.str k), some (.str en), some (.ref B), none] ∧ Same H H' ∧ H' B = some (.tup [.str s', .str k]) ∧ c1V s' k = false, ?_, fun τ H' hM => ?_⟩
      · refine ⟨_, rfl, B, _, rfl, .inr (fnd "none" _ e hB), rfl, rfl, _, rfl, iteB (fun h => ?_) (fun h => ?_)⟩
        · rw [if_pos (show c1V s' k = true from h)] at q
          exact q _ e
        · exact ⟨rfl, e, hB, h⟩
      · obtain ⟨rfl, e, hB, n1⟩ := hM
        rw [if_neg (Bool.eq_false_iff.mp n1)] at q
        refine ⟨fun τ H' => τ = [some (.ref rw), some (.ref co), some (.str z), some (.str u), some (.str j), some (.str s'), some (.str k), some (.str en), some (.ref B), none] ∧ Same H H' ∧ H' B = some (.tup [.str s', .str k]) ∧ c2V s' k z = false, ?_, fun τ H' hM => ?_⟩
        · refine ⟨_, rfl, rfl, _, rfl, iteB (fun h => ?_) (fun h => ?_)⟩
          · refine ⟨_, rfl, B, _, rfl, .inr (fnd "beside" _ e hB), rfl, rfl, _, rfl, iteB (fun h2 => ?_) (fun h2 => ?_)⟩
            · rw [if_pos (show c2V s' k z = true by unfold c2V; rw [h]; exact h2)] at q
              exact q _ e
            · exact ⟨rfl, e, hB, by unfold c2V; rw [h]; exact h2⟩
          · exact iteFo rfl ⟨rfl, e, hB, by unfold c2V; rw [h]; rfl⟩
        · obtain ⟨rfl, e, hB, n2⟩ := hM
          rw [if_neg (Bool.eq_false_iff.mp n2)] at q
          refine ⟨fun τ H' => τ = [some (.ref rw), some (.ref co), some (.str z), some (.str u), some (.str j), some (.str s'), some (.str k), some (.str en), some (.ref B), none] ∧ Same H H' ∧ H' B = some (.tup [.str s', .str k]) ∧ b2 = false, ?_, fun τ H' hM => ?_⟩
          · refine ⟨_, rfl, co, N, dy, _, _, rfl, fco _ e, TN.cl, TN.nA _ (by decide), rfl, b2, rfl, iteB (fun h => ?_) (fun h => ?_)⟩
            · rw [if_pos h] at q
              exact q _ e
            · exact ⟨rfl, e, hB, h⟩
          · obtain ⟨rfl, e, hB, n3⟩ := hM
            rw [if_neg (Bool.eq_false_iff.mp n3)] at q
            refine ⟨fun τ H' => τ = [some (.ref rw), some (.ref co), some (.str z), some (.str u), some (.str j), some (.str s'), some (.str k), some (.str en), some (.ref B), none] ∧ Same H H' ∧ H' B = some (.tup [.str s', .str k]) ∧ c4V u b1 = false, ?_, fun τ H' hM => ?_⟩
            · refine ⟨_, rfl, co, N, dy, _, _, rfl, fco _ e, TN.cl, TN.nA _ (by decide), rfl, b1, rfl, iteB (fun h => ?_) (fun h => ?_)⟩
              · refine ⟨_, rfl, rfl, _, rfl, ?_⟩
                refine iteB (fun h2 => ?_) (fun h2 => ?_)
                · rw [if_pos (show c4V u b1 = true by unfold c4V; rw [h]; exact h2)] at q
                  exact q _ e
                · exact ⟨rfl, e, hB, by unfold c4V; rw [h]; exact h2⟩
              · exact iteFo rfl ⟨rfl, e, hB, by unfold c4V; rw [h]; rfl⟩
            · obtain ⟨rfl, e, hB, n4⟩ := hM
              rw [if_neg (Bool.eq_false_iff.mp n4)] at q
              refine ⟨fun τ H' => τ = [some (.ref rw), some (.ref co), some (.str z), some (.str u), some (.str j), some (.str s'), some (.str k), some (.str en), some (.ref B), some (.bl (stV u b1))] ∧ Same H H' ∧ H' B = some (.tup [.str s', .str k]), ?_, fun τ H' hM => ?_⟩
              · refine ⟨_, rfl, co, N, dy, _, _, rfl, fco _ e, TN.cl, TN.nA _ (by decide), rfl, b1, rfl, iteB (fun h => ?_) (fun h => ?_)⟩
                · refine ⟨_, rfl, rfl, ?_⟩
                  refine ⟨?_, e, hB⟩
                  unfold stV
                  rw [h]
                  rfl
                · refine ⟨?_, e, hB⟩
                  unfold stV
                  rw [h]
                  rfl
              · obtain ⟨rfl, e, hB⟩ := hM
                refine ⟨fun τ H' => τ = [some (.ref rw), some (.ref co), some (.str z), some (.str u), some (.str j), some (.str s'), some (.str k), some (.str en), some (.ref B), some (.bl (stV u b1))] ∧ Same H H' ∧ H' B = some (.tup [.str s', .str k]) ∧ c5V u s' k b1 = false, ?_, fun τ H' hM => ?_⟩
                · refine ⟨_, rfl, stV u b1, rfl, iteB (fun h => ?_) (fun h => ?_)⟩
                  · refine ⟨_, rfl, by show 2 ≤ sizeLine; decide, fun w2 nw => ?_⟩
                    have e2 := al (o := .tup [.str "need", .str "need"]) nw
                    refine ⟨.tuple [.str s', .str k], .tuple [.str "need", .str "need"], .tup (.inl (.inl (e2 _ _ hB))) (.cons (.str _) (.cons (.str _) .nil)), .tup (.inl (.inl upd_same)) (.cons (.str _) (.cons (.str _) .nil)), shs, by decide +kernel, _, rfl, iteB (fun h2 => ?_) (fun h2 => ?_)⟩
                    · rw [if_pos (show c5V u s' k b1 = true by unfold c5V; rw [h]; exact h2)] at q
                      exact q _ (e.trans e2)
                    · exact ⟨rfl, e.trans e2, e2 _ _ hB, by unfold c5V; rw [h]; exact h2⟩
                  · exact iteFo rfl ⟨rfl, e, hB, by unfold c5V; rw [h]; rfl⟩
                · obtain ⟨rfl, e, hB, n5⟩ := hM
                  rw [if_neg (Bool.eq_false_iff.mp n5)] at q
                  refine ⟨fun τ H' => τ = [some (.ref rw), some (.ref co), some (.str z), some (.str u), some (.str j), some (.str s'), some (.str k), some (.str en), some (.ref B), some (.bl (stV u b1))] ∧ Same H H' ∧ H' B = some (.tup [.str s', .str k]) ∧ c6V s' k z = false, ?_, fun τ H' hM => ?_⟩
                  · refine ⟨_, rfl, rfl, _, rfl, iteB (fun h => ?_) (fun h => ?_)⟩
                    · refine ⟨_, rfl, B, _, rfl, .inr (fnd "beside" _ e hB), rfl, rfl, _, rfl, iteB (fun h2 => ?_) (fun h2 => ?_)⟩
                      · have h2 : inV (.str "beside") [.str s', .str k] = true := h2
                        refine ⟨_, rfl, B, _, rfl, .inr (fnd "need" _ e hB), rfl, rfl, _, rfl, iteB (fun h3 => ?_) (fun h3 => ?_)⟩
                        · rw [if_pos (show c6V s' k z = true by unfold c6V; rw [h, h2]; exact h3)] at q
                          exact q _ e
                        · exact ⟨rfl, e, hB, by unfold c6V; rw [h, h2]; exact h3⟩
                      · have h2 : inV (.str "beside") [.str s', .str k] = false := h2
                        exact iteFo rfl ⟨rfl, e, hB, by unfold c6V; rw [h, h2]; rfl⟩
                    · exact iteFo rfl ⟨rfl, e, hB, by unfold c6V; rw [h]; rfl⟩
                  · obtain ⟨rfl, e, hB, n6⟩ := hM
                    rw [if_neg (Bool.eq_false_iff.mp n6)] at q
                    refine ⟨fun τ H' => τ = [some (.ref rw), some (.ref co), some (.str z), some (.str u), some (.str j), some (.str s'), some (.str k), some (.str en), some (.ref B), some (.bl (stV u b1))] ∧ Same H H' ∧ H' B = some (.tup [.str s', .str k]) ∧ (stV u b1 && b0) = false, ?_, fun τ H' hM => ?_⟩
                    · refine ⟨_, rfl, stV u b1, rfl, iteB (fun h => ?_) (fun h => ?_)⟩
                      · refine ⟨_, rfl, co, N, dy, _, _, rfl, fco _ e, TN.cl, TN.nA _ (by decide), rfl, b0, rfl, iteB (fun h2 => ?_) (fun h2 => ?_)⟩
                        · rw [if_pos (show (stV u b1 && b0) = true by rw [h, h2]; rfl)] at q
                          exact q _ e
                        · exact ⟨rfl, e, hB, by rw [h, h2]; rfl⟩
                      · exact iteFo rfl ⟨rfl, e, hB, by rw [h]; rfl⟩
                    · obtain ⟨rfl, e, hB, n7⟩ := hM
                      rw [if_neg (Bool.eq_false_iff.mp n7)] at q
                      refine ⟨_, rfl, stV u b1, rfl, iteB (fun h => ?_) (fun h => ?_)⟩
                      · refine ⟨_, rfl, rfl, _, rfl, ?_⟩
                        refine iteB (fun h2 => ?_) (fun h2 => ?_)
                        · rw [if_pos (show (stV u b1 && decide (V.str j = V.str "sleep")) = true by rw [h]; exact h2)] at q
                          exact q _ e
                        · rw [if_neg (show ¬ (stV u b1 && decide (V.str j = V.str "sleep")) = true by rw [h, h2]; decide)] at q
                          exact q _ e
                      · rw [if_neg (show ¬ (stV u b1 && decide (V.str j = V.str "sleep")) = true by rw [h, Bool.false_and]; decide)] at q
                        exact q _ e
end
end K7
end
/-! ## EG -/
section
/-! ## d.get(k), d a written dict with texts as keys -/
namespace K7E
open PySem PySem.Spec PyProof.Rows L2
/-- what a written dict says of a text or of None -/
def KGet (K : PySem.W.Frag) (w : World) (a : Addr) (y v : V) : Prop := (∃ z, y = .str z ∧ KDct K w a z v) ∨ (y = .non ∧ v = .non ∧ ∃ z v', KDct K w a z v')
def tKGet (K : PySem.W.Frag) (w : World) (td ty : TE) : TE := fun σ H Q => td σ H fun x H1 => ∃ a, x = .ref a ∧ (a == sysModules) = false ∧ (∃ z v, KDct K w a z v) ∧ ty σ H1 fun y H2 => ∃ v, KGet K w a y v ∧ Q v H2
section
variable {X : Cx}
theorem k_get {pins : List (Addr × Obj)} {σ : L2.St} {H : Hp} {s : Shared} {a : Addr} {y v : V} {u : Value} {A : Around} {E Q : Value → Shared → Prop} (I : L2.Inv X pins σ H s) (hs : (a == sysModules) = false) (g : KGet X.K X.w a y v) (ry : RelV y u)
    (h : ∀ (w' : Value) (s' : Shared), L2.Inv X pins σ H s' → RelV v w' → Q w' s') : wpAny (model X.prog X.w) A (call (.builtin "dict.get") [.ref a, u]) Q E s := by
  rcases g with ⟨z, rfl, es, n, u0, hl, hk, e, ru⟩ | ⟨rfl, rfl, z, v', es, n, u0, hl, hk, _⟩
  · obtain ⟨t, rfl⟩ := ry
    have hm := PySem.W.mapOf_K (prog := X.prog) I.kIn hl hk
    refine call_meetsIn PySem.F.slot_dict_get hm.typeIs PySem.F.entry_dict_get (PySem.F.args_dict_get_2 (.ref a) (.str z t)) (meets_dict_get (strKind X.prog X.w) a (strKind_is X.prog X.w z t) hs) ⟨_, hm, h _ _ (I.tok _) ?_⟩
    rw [PySem.W.find_K hl e]
    exact ru
  · cases (show u = Value.none from ry)
    have hm : Heap.MapOf (noneKind X.prog X.w) s.heap a (fun k => findBy (noneKind X.prog X.w).is es k) := ⟨_, es, n, I.kIn a _ hl, ⟨rfl, rfl, rfl⟩, rfl, fun e he => by
      obtain ⟨x, t, e1, e2⟩ := PySem.W.KeysLit.all hk e (Array.mem_toList_iff.mpr he)
      exact ⟨some (.inr x), by rw [e1]; exact strKind_is X.prog X.w x t, e2⟩, fun k => rfl⟩
    have hf : findBy (noneKind X.prog X.w).is es none = none := by
      have q : es.find? (fun e => (noneKind X.prog X.w).is none e.key) = none := Array.find?_eq_none.mpr fun e he hq => by
        obtain ⟨x, t, e1, e2⟩ := PySem.W.KeysLit.all hk e (Array.mem_toList_iff.mpr he)
        rw [e1] at hq
        cases hq
      show Option.map (fun x => x.val) (es.find? fun e => (noneKind X.prog X.w).is none e.key) = none
      rw [q]
      rfl
    refine call_meetsIn PySem.F.slot_dict_get hm.typeIs PySem.F.entry_dict_get (PySem.F.args_dict_get_2 (.ref a) .none) (meets_dict_get (noneKind X.prog X.w) a (k := none) rfl hs) ⟨_, hm, h _ _ (I.tok _) ?_⟩
    rw [hf]
    rfl
/-- o.get(e) -/
theorem pe_kget {o e : Expr} {apos cpos : Pos} {td ty : TE} (ho : PE X o td) (he : PE X e ty) (m : M1 X o "get" apos e cpos) : PE X (.Call (.Attribute o "get" apos) [e] [] cpos)
    (tKGet X.K X.w td ty) := by
  refine ⟨fun pins s σ H Q I h => wpAny_Call_method m.base m.few m.line PySem.F.plainAttrs_dict PySem.F.slot_dict_get PySem.F.type_dict_get (thn (ho.run pins s σ H _ I h) fun u s1 ⟨x, H1, I1, rx, a, ex, hs, ⟨z, v, es, n, u0, hl, hk, e0, r0⟩, q1⟩ => ?_)⟩
  subst ex
  cases (show u = Value.ref a from rx)
  have hm := PySem.W.mapOf_K (prog := X.prog) I1.kIn hl hk
  refine ⟨hm.typeIs, fun a' ea => ?_, ?_⟩
  · cases ea
    exact ⟨_, I1.kIn a _ hl, rfl⟩
  · rw [m.trees]
    refine Calls.callWith_builtin rfl (Calls.evalArgs_plain (Calls.spliced_cons (thn (he.run pins s1 σ H1 _ I1 q1) fun iv s2 ⟨y, H2, I2, ry, v2, g, q2⟩ => Calls.spliced_nil ?_)))
    exact k_get I2 hs g ry fun w' s3 I3 rw' => ⟨v2, H2, I3, rw', q2⟩
end
end K7E
end
/-! ## P20 -/
section
open PySem PySem.Spec PyProof.Rows L2
namespace K7
abbrev N_EveryLand_fewest : List Str := ["self", "land", "cell", "numbers"]
abbrev s_EveryLand_fewest : Stmt := inClass (topS 35) 4
theorem sc_EveryLand_fewest : FnScope ["self", "land", "cell", "numbers"] ["self", "land", "cell"] (defScope s_EveryLand_fewest) := ⟨rfl, rfl, rfl, by decide +kernel, rfl, by decide +kernel, by decide +kernel⟩
abbrev N_EveryLand_exposed : List Str := ["self", "land", "cell"]
abbrev s_EveryLand_exposed : Stmt := inClass (topS 35) 5
theorem sc_EveryLand_exposed : FnScope ["self", "land", "cell"] ["self", "land"] (defScope s_EveryLand_exposed) := ⟨rfl, rfl, rfl, by decide +kernel, rfl, by decide +kernel, by decide +kernel⟩
theorem hu2 {k : Nat} {A : Around} (hr : Room k A) : A.units + 1 < cLine := by have := hr.un; omega
def numOf (z : Str) (f l b : Option Nat) : Option Nat := if z = "road" then none else if z = "far" then f else if z = "loose" then l else b
section
variable {P : Program} {w : World} {K : PySem.W.Frag} {mg : Str → Option Value} {base : Heap} {a : AdL} {G D N : Addr}
def spFew (a : AdL) (G D N : Addr) : Sp := fun vs H Q E => ∃ (p q : Addr) (m : Nat) (b0 b1 b2 : Bool) (f l b : Option Nat) (n : Nat) (es : List (Nat × Nat)) (rd : List Nat) (x : V), vs = [.ref p, .ref q, x] ∧ EvIs G D N H p m b0 b1 b2 f l b ∧ LandO a.C H q n es rd ∧
  CellOr a.B n H x E fun c => ∀ H' z, Same H H' → SortIs n es rd c z → Q (optV (numOf z f l b)) H'
theorem ok_few (TE : To K mg "EveryLand" G evL) {f fso : Addr} {fd fdso : FuncData} (F : Fun K "fewest" "EveryLand.fewest" s_EveryLand_fewest f fd)
    (Gso : FnOk P w K mg base (L2.CX P w) 6 fso fdso ["land", "cell"] (spSort a)) (gso : mg "sort_of" = some (.ref fso)) (kso : PySem.W.keepIn K (.ref fso) = true) (bso : Binds K fdso ["land", "cell"] []) : FnOk P w K mg base (L2.CX P w) 7 f fd ["self", "land", "cell"] (spFew a G D N) := by
  refine F.okX sc_EveryLand_fewest (fun vs H Q E h => ?_) (fun cdv A outer s H vs Q E hr h => ?_)
  · obtain ⟨p, q, m, b0, b1, b2, f, l, b, n, es, rd, x, rfl, _⟩ := h
    rfl
  · obtain ⟨p, q, m, b0, b1, b2, f, l, b, n, es, rd, x, rfl, ⟨dx, cu, co, hp, _⟩, Lo, h⟩ := h
    refine ⟨_, (pss_cons (ps_set (i := 3) sc_EveryLand_fewest.nd rfl (by first | exact Or.inl rfl | exact Or.inr rfl) (pe_disp (pps_cons pe_str pe_non (pps_cons pe_str (pe_fld (pv 0) rfl) (pps_cons pe_str (pe_fld (pv 0) rfl) (pps_cons pe_str (pe_fld (pv 0) rfl) pps_nil)))) rfl rfl (by intro h; cases h) (by decide)))
 (pss_one (ps_ret (pe_dget (hu2 hr) (pv 3) (pe_call Gso (hr.mono (by decide)) (by rfl) gso kso bso .nil (passes_call (E := E) (takes_of rfl rfl rfl rfl) (fun _ _ _ _ h => h)) (pa_cons (pv 1) (pa_cons (pv 2) pa_nil))) (fun _ _ => rfl))))), ?_⟩
    intro d nd
    have e0 := al (o := .dK []) nd
    have h0 : upd H d (.dK []) d = some (.dK []) := upd_same
    have hp0 := e0 _ _ hp
    have Lo0 := Lo.same e0
    refine ⟨_, rfl, p, G, dx, _, _, rfl, hp0, TE.cl, TE.nA _ (by decide), rfl, _, rfl, p, G, dx, _, _, rfl, hp0, TE.cl, TE.nA _ (by decide), rfl, _, rfl, p, G, dx, _, _, rfl, hp0, TE.cl, TE.nA _ (by decide), rfl, h0, [(.inr "road", .non), (.inr "far", optV f), (.inr "loose", optV l), (.inr "bound", optV b)], rfl, by show 4 ≤ 15; decide, ?_⟩
    have look : ∀ z : Str, (z = "road" ∨ z = "far" ∨ z = "loose" ∨ z = "bound") → valV (mergeK [] [((.inr "road" : Key), V.non), (.inr "far", optV f), (.inr "loose", optV l), (.inr "bound", optV b)]) (.inr z) = some (optV (numOf z f l b)) := by
      intro z hz
      have k1 : mergeK [] [((.inr "road" : Key), V.non), (.inr "far", optV f), (.inr "loose", optV l), (.inr "bound", optV b)] = [((.inr "road" : Key), V.non), (.inr "far", optV f), (.inr "loose", optV l), (.inr "bound", optV b)] := by with_unfolding_all rfl
      rw [k1]
      rcases hz with rfl | rfl | rfl | rfl
      · with_unfolding_all rfl
      · with_unfolding_all rfl
      · with_unfolding_all rfl
      · with_unfolding_all rfl
    have eN : Same H (upd (upd H d (.dK [])) d (.dK (mergeK [] [((.inr "road" : Key), V.non), (.inr "far", optV f), (.inr "loose", optV l), (.inr "bound", optV b)]))) := fun z o hz => by
      rw [upd_ne (ne_of_none hz nd), upd_ne (ne_of_none hz nd)]
      exact hz
    have hN : upd (upd H d (.dK [])) d (.dK (mergeK [] [((.inr "road" : Key), V.non), (.inr "far", optV f), (.inr "loose", optV l), (.inr "bound", optV b)])) d = some (.dK (mergeK [] [((.inr "road" : Key), V.non), (.inr "far", optV f), (.inr "loose", optV l), (.inr "bound", optV b)])) := upd_same
    generalize upd (upd H d (.dK [])) d (.dK (mergeK [] [((.inr "road" : Key), V.non), (.inr "far", optV f), (.inr "loose", optV l), (.inr "bound", optV b)])) = HN at eN hN ⊢
    rcases h with ⟨c, rfl, hc, k⟩ | ⟨th, wf, fl⟩
    · refine ⟨_, rfl, _, rfl, _, rfl, q, n, es, rd, _, rfl, Lo.same eN, .inl ⟨c, rfl, hc, fun H' z e hz => ?_⟩⟩
      have four : z = "road" ∨ z = "far" ∨ z = "loose" ∨ z = "bound" := by
        rcases hz with h | h | h | h
        · exact .inl h.2
        · exact .inr (.inl h.2.2)
        · exact .inr (.inr (.inl h.2.2.2))
        · exact .inr (.inr (.inr h.2.2.2))
      exact ⟨d, _, rfl, .inl ⟨_, .inr z, .inl (e _ _ hN), rfl, (look z four).symm⟩, k H' z (eN.trans e) hz⟩
    · exact ⟨_, rfl, _, rfl, _, rfl, q, n, es, rd, x, rfl, Lo.same eN, .inr ⟨th.same eN, wf, fl.later eN⟩⟩
/-- the sort of a cell, as a word -/
noncomputable def srt (n : Nat) (es : List (Nat × Nat)) (rd : List Nat) (c : Nat) : Str := @dite _ (∃ z, SortIs n es rd c z) (Classical.propDecidable _) (fun h => h.choose) (fun _ => "")
theorem srt_is {n : Nat} {es : List (Nat × Nat)} {rd : List Nat} {c : Nat} {z : Str} (h : SortIs n es rd c z) : srt n es rd c = z := by
  unfold srt
  have e : ∃ z, SortIs n es rd c z := ⟨z, h⟩
  rw [dif_pos e]
  exact e.choose_spec.uniq h
noncomputable def expoOf (n : Nat) (es : List (Nat × Nat)) (rd : List Nat) (f l b : Option Nat) (i : Nat) : List Nat := (List.range i).filter fun c => (numOf (srt n es rd c) f l b).isSome
def spExp (a : AdL) (G D N : Addr) : Sp := fun vs H Q _ => ∃ (p q : Addr) (m : Nat) (b0 b1 b2 : Bool) (f l b : Option Nat) (n : Nat) (es : List (Nat × Nat)) (rd : List Nat), vs = [.ref p, .ref q] ∧ EvIs G D N H p m b0 b1 b2 f l b ∧ LandO a.C H q n es rd ∧
  ∀ H' t, Same H H' → H' t = some (.tup (ints_ (expoOf n es rd f l b n))) → Q (.ref t) H'
theorem ok_exp (T : Tl K mg a) (TE : To K mg "EveryLand" G evL) {f ffw : Addr} {fd fdfw : FuncData} (F : Fun K "exposed" "EveryLand.exposed" s_EveryLand_exposed f fd)
    (mfw : Meth K G "fewest" ffw) (Gfw : FnOk P w K mg base (L2.CX P w) 7 ffw fdfw ["self", "land", "cell"] (spFew a G D N)) (bfw : Binds K fdfw ["self", "land", "cell"] []) (m_tuple : mg "tuple" = none) (m_range : mg "range" = none) : FnOk P w K mg base CX0 8 f fd ["self", "land"] (spExp a G D N) := by
  refine F.ok sc_EveryLand_exposed (fun vs H Q E h => ?_) (fun cdv A outer s H vs Q E hr h => ?_)
  · obtain ⟨p, q, m, b0, b1, b2, f, l, b, n, es, rd, rfl, _⟩ := h
    rfl
  · obtain ⟨p, q, m, b0, b1, b2, f, l, b, n, es, rd, rfl, Ev, Lo, k⟩ := h
    refine ⟨_, (pss_one (ps_ret (pe_callTy call_tuple_of (by rfl) m_tuple boot_tuple (pa_cons (pe_lc (own := [("cell", 2)]) (g := gName 2) rfl sc_EveryLand_exposed.nd (pi_range1 rfl m_range (pa_cons (pe_fld (pv 1) rfl) pa_nil)) (blkOk_by (own := [("cell", 2)]) (N := N_EveryLand_exposed) (sc := defScope s_EveryLand_exposed) (by decide +kernel)) (fun _ _ _ _ _ => (pg_name (i := 2) sc_EveryLand_exposed.nd rfl (by first | exact Or.inl rfl | exact Or.inr rfl))) (fun _ _ _ _ _ => (pts_one (pt_cmpR op_notN (pe_meth (pv 0) TE.cl mfw Gfw (hr.mono (by decide)) bfw .nil passL (pa_cons (pv 1) (pa_cons (pv 2) pa_nil))) pe_non (nomark _)))) (fun _ _ _ _ _ => (pv 2))) pa_nil)))), ?_⟩
    obtain ⟨dx, cu, co, hp, _⟩ := Ev.at_
    obtain ⟨dq, an, ar, ay, ac, tn, ty, tc, hq, _⟩ := Lo.at_
    refine ⟨_, rfl, q, a.C, dq, _, _, rfl, hq, T.cl, T.nA _ (by decide), rfl, _, rfl, by omega, by have := Lo.n5; omega, fun X hX => lc_range (lo := 0) (n := n) (fun i H2 => Same H H2 ∧ H2 X = some (.lst (ints_ (expoOf n es rd f l b i)))) ⟨al hX, upd_same⟩ (fun i H2 hi pv => ?_) (fun H2 pv => ?_)⟩
    · obtain ⟨e2, h2⟩ := pv
      rw [show (0 : Int) + ((i : Nat) : Int) = (i : Nat) from Int.zero_add _]
      have hpq := e2 _ _ hp
      refine ⟨rfl, _, rfl, p, dx, _, rfl, hpq, rfl, _, rfl, _, rfl, p, q, m, b0, b1, b2, f, l, b, n, es, rd, _, rfl, Ev.same e2, Lo.same e2, .inl ⟨i, rfl, hi, fun H3 z e3 hz => ?_⟩⟩
      refine ⟨rfl, _, rfl, ?_⟩
      rw [opt_some]
      have step : expoOf n es rd f l b (i + 1) = expoOf n es rd f l b i ++ (if (numOf z f l b).isSome = true then [i] else []) := by
        unfold expoOf
        rw [range_filter, srt_is hz]
      cases hh : (numOf z f l b).isSome with
      | true =>
        rw [hh] at step
        refine ⟨_, rfl, _, e3 _ _ h2, by unfold ints_; rw [List.length_map]; exact small1000 (Nat.le_trans (List.length_filter_le _ _) (by rw [List.length_range]; have := Lo.n5; omega)), fun y o hy => ?_, ?_⟩
        · rw [upd_ne (ne_of_none hy hX)]
          exact e3 _ _ (e2 _ _ hy)
        · rw [upd_same, step, if_pos rfl, ints_snoc]
      | false =>
        rw [hh] at step
        refine ⟨e2.trans e3, ?_⟩
        rw [step, if_neg (by decide), List.append_nil]
        exact e3 _ _ h2
    · obtain ⟨e2, h2⟩ := pv
      exact ⟨X, _, rfl, .inl ⟨.inl (.inl h2), fun t nt => k _ t (e2.trans (al nt)) upd_same⟩⟩
end
end K7
end
/-! ## P21 -/
section
open PySem PySem.Spec PyProof.Rows L2
namespace K7
abbrev N_on_all_lands : List Str := ["custom", "counted", "truth", "far", "loose", "bound", "sort"]
abbrev s_on_all_lands : Stmt := topS 38
theorem sc_on_all_lands : FnScope ["custom", "counted", "truth", "far", "loose", "bound", "sort"] ["custom", "counted"] (defScope s_on_all_lands) := ⟨rfl, rfl, rfl, by decide +kernel, rfl, by decide +kernel, by decide +kernel⟩
abbrev N_fewest_deeds : List Str := ["land", "custom", "cell", "counted"]
abbrev s_fewest_deeds : Stmt := topS 39
theorem sc_fewest_deeds : FnScope ["land", "custom", "cell", "counted"] ["land", "custom", "cell", "counted"] (defScope s_fewest_deeds) := ⟨rfl, rfl, rfl, by decide +kernel, rfl, by decide +kernel, by decide +kernel⟩
def deedsV : Option Str → Option Nat
  | none => none
  | some z => if z = "bare" then some 1 else if z = "given up" then some 2 else if z = "untold" then some 2 else if z = "by turns" then some 2 else if z = "granted" then some 3 else some 4
def dwords : List Str := ["bare", "given up", "untold", "by turns", "granted", "woken"]
def few (m : Nat) (b0 b1 b2 : Bool) (z : Str) : Option Nat := deedsV (caseV (C.wAt m 0) (C.wAt m 1) (C.wAt m 2) (C.wAt m 3) z b0 b1 b2)
theorem case_in (u j s k z : Str) (b0 b1 b2 : Bool) : caseV u j s k z b0 b1 b2 = none ∨ ∃ x ∈ dwords, caseV u j s k z b0 b1 b2 = some x := by
  unfold caseV
  repeat' split
  all_goals first | exact .inl rfl | exact .inr ⟨_, by decide, rfl⟩
structure Dd (K : PySem.W.Frag) (w : World) (mg : Str → Option Value) (dd so : Addr) : Prop where
  gD : mg "_DEEDS" = some (.ref dd)
  hs : (dd == sysModules) = false
  kd : ∀ z ∈ dwords, KDct K w dd z (optV (deedsV (some z)))
  gS : mg "SORTS" = some (.ref so)
  ts : C.KTup K so [.str "far", .str "loose", .str "bound"]
section
variable {P : Program} {w : World} {K : PySem.W.Frag} {mg : Str → Option Value} {base : Heap} {a : AdL} {G D N dd so : Addr}
def CntOr (N : Addr) (H : Hp) (x : V) (b0 b1 b2 : Bool) : Prop := (x = .non ∧ b0 = true ∧ b1 = true ∧ b2 = false) ∨ ∃ q, x = .ref q ∧ CntAt N H q b0 b1 b2
def spOal (G D N : Addr) : Sp := fun vs H Q _ => ∃ (cu : Addr) (x : V) (m : Nat) (b0 b1 b2 : Bool), vs = [.ref cu, x] ∧ C.CustAt D H cu m ∧ CntOr N H x b0 b1 b2 ∧
  ∀ H' p, Same H H' → EvIs G D N H' p m b0 b1 b2 (few m b0 b1 b2 "far") (few m b0 b1 b2 "loose") (few m b0 b1 b2 "bound") → Q (.ref p) H'
theorem ok_oal (DD : Dd K w mg dd so) (TD : To K mg "Custom" D C.fields) (TE : To K mg "EveryLand" G evL) {f fmt fca fEI : Addr} {fd fdmt fdca fdEI : FuncData} (F : FunD K "on_all_lands" "on_all_lands" (defArgs s_on_all_lands) (defBody s_on_all_lands) (defScope s_on_all_lands) [.non] [] f fd)
    (Gmt : FnOk P w K mg base CX0 3 fmt fdmt ["counted"] (spMt N)) (gmt : mg "meant" = some (.ref fmt)) (kmt : PySem.W.keepIn K (.ref fmt) = true) (bmt : Binds K fdmt ["counted"] [])
    (Gca : FnOk P w K mg base CX0 1 fca fdca ["row", "counted", "sort"] (spCase D N)) (gca : mg "_case" = some (.ref fca)) (kca : PySem.W.keepIn K (.ref fca) = true) (bca : Binds K fdca ["row", "counted", "sort"] [])
    (ME : Mk K G fEI) (GEI : FnOk P w K mg base CX0 1 fEI fdEI ["self", "custom", "counted", "far", "loose", "bound"] (spEvI G)) (bEI : Binds K fdEI ["self", "custom", "counted", "far", "loose", "bound"] []) : FnOk P w K mg base CX0 4 f fd ["custom", "counted"] (spOal G D N) := by
  refine F.ok sc_on_all_lands (fun vs H Q E h => ?_) (fun cdv A outer s H vs Q E hr h => ?_)
  · obtain ⟨cu, x, m, b0, b1, b2, rfl, _⟩ := h
    rfl
  · obtain ⟨cu, x, m, b0, b1, b2, rfl, hcu, cn, q⟩ := h
    refine ⟨_, (Evl.pss_cut (ps_set (i := 2) sc_on_all_lands.nd rfl (by first | exact Or.inl rfl | exact Or.inr rfl) (pe_call Gmt (hr.mono (by decide)) (by rfl) gmt kmt bmt .nil pass0 (pa_cons (pv 1) pa_nil)))
 (pss_cons (ps_asg (pe_lc (own := [("sort", 6)]) (g := gName 6) (tt := tYes) rfl sc_on_all_lands.nd (pi_tup (pe_glob (v := .ref _) (by rfl) DD.gS rfl)) (blkOk_by (own := [("sort", 6)]) (N := N_on_all_lands) (sc := defScope s_on_all_lands) (by decide +kernel)) (fun _ _ _ _ _ => (pg_name (i := 6) sc_on_all_lands.nd rfl (by first | exact Or.inl rfl | exact Or.inr rfl))) (fun _ _ _ _ _ => pts_nil) (fun _ _ _ _ _ => (show PE _ _ (K7E.tKGet K w (tC (.ref dd)) (tCall (spCase D N) [] E0 (tCons (tFld K (tVar 0) "row") (tCons (tVar 2) (tCons (tVar 6) tNil))))) from K7E.pe_kget (pe_glob (v := .ref _) (by rfl) DD.gD rfl) (pe_call Gca (hr.mono (by decide)) (by rfl) gca kca bca .nil pass0 (pa_cons (show PE _ _ (tFld K (tVar 0) "row") from pe_fld (pv 0) rfl) (pa_cons (pv 2) (pa_cons (pv 6) pa_nil)))) ⟨by rfl, by rfl, by rfl, by rfl⟩))) (pg_unl rfl (pgs_cons (pg_name (i := 3) sc_on_all_lands.nd rfl (by first | exact Or.inl rfl | exact Or.inr rfl)) (pgs_cons (pg_name (i := 4) sc_on_all_lands.nd rfl (by first | exact Or.inl rfl | exact Or.inr rfl)) (pgs_cons (pg_name (i := 5) sc_on_all_lands.nd rfl (by first | exact Or.inl rfl | exact Or.inr rfl)) pgs_nil)))))
 (pss_one (ps_ret (pe_make ME GEI (hr.mono (by decide)) (by rfl) TE.g bEI .nil pass0 (pa_cons (pv 0) (pa_cons (pv 2) (pa_cons (pv 3) (pa_cons (pv 4) (pa_cons (pv 5) pa_nil)))))))))), ?_⟩
    obtain ⟨hm, dxc, trw, hcu1, hrw⟩ := id hcu
    have kg : ∀ z : Str, K7E.KGet K w dd (optS (caseV (C.wAt m 0) (C.wAt m 1) (C.wAt m 2) (C.wAt m 3) z b0 b1 b2)) (optV (few m b0 b1 b2 z)) := by
      intro z
      unfold few
      rcases case_in (C.wAt m 0) (C.wAt m 1) (C.wAt m 2) (C.wAt m 3) z b0 b1 b2 with e | ⟨y, my, e⟩
      · rw [e]
        exact .inr ⟨rfl, rfl, _, _, DD.kd "bare" (by decide)⟩
      · rw [e]
        exact .inl ⟨y, rfl, DD.kd y my⟩
    refine ⟨fun τ H' => ∃ tr, τ = [some (.ref cu), some x, some (.ref tr), none, none, none, none] ∧ Same H H' ∧ CntAt N H' tr b0 b1 b2, ?_, fun τ H1 hM => ?_⟩
    · refine ⟨_, rfl, x, rfl, ?_⟩
      rcases cn with ⟨rfl, rfl, rfl, rfl⟩ | ⟨q', rfl, hq'⟩
      · exact .inl ⟨rfl, fun H' q e c => ⟨q, rfl, e, c⟩⟩
      · exact .inr ⟨q', b0, b1, b2, rfl, hq', q', rfl, Same.refl H, hq'⟩
    · obtain ⟨tr, rfl, e1, htr⟩ := hM
      refine ⟨_, rfl, ⟨_, DD.ts.t _⟩, fun X hX => lc_tup (xs := [.str "far", .str "loose", .str "bound"]) (fun j H2 => Same H1 H2 ∧ H2 X = some (.lst (((["far", "loose", "bound"] : List Str).take j).map fun z : Str => optV (few m b0 b1 b2 z)))) ⟨al hX, upd_same⟩ (fun j H2 _ pv => DD.ts.t _) (fun j y H2 hy pv => ?_) (fun H2 pv => ?_)⟩
      · obtain ⟨e2, h2⟩ := pv
        obtain ⟨z, hz, rfl⟩ : ∃ z : Str, (["far", "loose", "bound"] : List Str)[j]? = some z ∧ y = .str z := by
          match j, hy with
          | 0, hy => exact ⟨_, rfl, (Option.some.inj hy).symm⟩
          | 1, hy => exact ⟨_, rfl, (Option.some.inj hy).symm⟩
          | 2, hy => exact ⟨_, rfl, (Option.some.inj hy).symm⟩
          | (k + 3), hy => exact nomatch hy
        refine ⟨rfl, dd, rfl, DD.hs, ⟨_, _, DD.kd "bare" (by decide)⟩, ?_⟩
        refine ⟨_, rfl, cu, D, dxc, _, _, rfl, (e1.trans e2) _ _ hcu1, TD.cl, TD.nA _ (by decide), rfl, _, rfl, _, rfl, trw, tr, z, m, b0, b1, b2, rfl, hm, (e1.trans e2) _ _ hrw, htr.same e2, fun H3 e3 => ?_⟩
        refine ⟨_, kg z, _, e3 _ _ h2, by rw [List.length_map, List.length_take]; exact small1000 (by show min j 3 ≤ 1000; omega), fun y o hy => ?_, ?_⟩
        · rw [upd_ne (ne_of_none hy hX)]
          exact e3 _ _ (e2 _ _ hy)
        · rw [upd_same, List.take_add_one, hz, List.map_append]
          rfl
      · obtain ⟨e2, h2⟩ := pv
        refine ⟨X, _, rfl, .inl (.inl h2), rfl, _, _, rfl, _, _, rfl, _, _, rfl, rfl, ?_⟩
        refine ⟨_, rfl, _, rfl, _, rfl, _, rfl, _, rfl, ?_⟩
        intro y dy hy hdy hne
        have e3 : Same H2 (upd (upd H2 dy (.own y)) y (.ins G dy [])) := same_new (al hdy) (by rw [upd_ne hne.symm]; exact hy)
        refine ⟨y, dy, cu, tr, _, _, _, rfl, upd_same, fun H' b hy' => ⟨rfl, ?_⟩⟩
        have e4 : Same H2 H' := fun v o hv => b v o (ne_of_none hv hy) (e3 _ _ hv)
        exact q H' y ((e1.trans e2).trans e4) ⟨dy, cu, tr, hy', hcu.same ((e1.trans e2).trans e4), htr.same (e2.trans e4)⟩
def fewN (m : Nat) (b0 b1 b2 : Bool) (z : Str) : Option Nat := numOf z (few m b0 b1 b2 "far") (few m b0 b1 b2 "loose") (few m b0 b1 b2 "bound")
def spFdd (a : AdL) (D N : Addr) : Sp := fun vs H Q _ => ∃ (q cu : Addr) (y : V) (m : Nat) (b0 b1 b2 : Bool) (n : Nat) (es : List (Nat × Nat)) (rd : List Nat) (c : Nat), vs = [.ref q, .ref cu, .int (c : Nat), y] ∧ LandO a.C H q n es rd ∧ C.CustAt D H cu m ∧ CntOr N H y b0 b1 b2 ∧ c < n ∧ ∀ H' z, Same H H' → SortIs n es rd c z → Q (optV (fewN m b0 b1 b2 z)) H'
theorem ok_fdd (TE : To K mg "EveryLand" G evL) {f foa ffw : Addr} {fd fdoa fdfw : FuncData} (F : FunD K "fewest_deeds" "fewest_deeds" (defArgs s_fewest_deeds) (defBody s_fewest_deeds) (defScope s_fewest_deeds) [.non] [] f fd)
    (Goa : FnOk P w K mg base CX0 4 foa fdoa ["custom", "counted"] (spOal G D N)) (goa : mg "on_all_lands" = some (.ref foa)) (koa : PySem.W.keepIn K (.ref foa) = true) (boa : Binds K fdoa ["custom", "counted"] [])
    (mfw : Meth K G "fewest" ffw) (Gfw : FnOk P w K mg base (L2.CX P w) 7 ffw fdfw ["self", "land", "cell"] (spFew a G D N)) (bfw : Binds K fdfw ["self", "land", "cell"] []) : FnOk P w K mg base CX0 8 f fd ["land", "custom", "cell", "counted"] (spFdd a D N) := by
  refine F.ok sc_fewest_deeds (fun vs H Q E h => ?_) (fun cdv A outer s H vs Q E hr h => ?_)
  · obtain ⟨q, cu, y, m, b0, b1, b2, n, es, rd, c, rfl, _⟩ := h
    rfl
  · obtain ⟨q, cu, y, m, b0, b1, b2, n, es, rd, c, rfl, Lo, hcu, cn, hc, k⟩ := h
    refine ⟨_, (pss_one (ps_ret (pe_meth (pe_call Goa (hr.mono (by decide)) (by rfl) goa koa boa .nil pass0 (pa_cons (pv 1) (pa_cons (pv 3) pa_nil))) TE.cl mfw Gfw (hr.mono (by decide)) bfw .nil passL (pa_cons (pv 0) (pa_cons (pv 2) pa_nil))))), ?_⟩
    refine ⟨_, rfl, _, rfl, cu, y, m, b0, b1, b2, rfl, hcu, cn, fun H1 p e1 Ev => ?_⟩
    obtain ⟨dx, cu', co', hp, _⟩ := Ev.at_
    exact ⟨p, dx, _, rfl, hp, rfl, _, rfl, _, rfl, p, q, m, b0, b1, b2, _, _, _, n, es, rd, _, rfl, Ev, Lo.same e1, .inl ⟨c, rfl, hc, fun H2 z e2 hz => k H2 z (e1.trans e2) hz⟩⟩
end
end K7
end
/-! ## P22 -/
section
open PySem PySem.Spec PyProof.Rows L2
namespace K7
abbrev N__law_truth : List Str := ["_law_told", "_law_due"]
abbrev s__law_truth : Stmt := topS 54
theorem sc__law_truth : FnScope ["_law_told", "_law_due"] ["_law_told", "_law_due"] (defScope s__law_truth) := ⟨rfl, rfl, rfl, by decide +kernel, rfl, by decide +kernel, by decide +kernel⟩
abbrev N__law_is : List Str := ["_law_told", "_law_due"]
abbrev s__law_is : Stmt := topS 55
theorem sc__law_is : FnScope ["_law_told", "_law_due"] ["_law_told", "_law_due"] (defScope s__law_is) := ⟨rfl, rfl, rfl, by decide +kernel, rfl, by decide +kernel, by decide +kernel⟩
abbrev N__law_made : List Str := ["_law_custom_here"]
abbrev s__law_made : Stmt := topS 53
theorem sc__law_made : FnScope ["_law_custom_here"] ["_law_custom_here"] (defScope s__law_made) := ⟨rfl, rfl, rfl, by decide +kernel, rfl, by decide +kernel, by decide +kernel⟩
section
variable {P : Program} {w : World} {K : PySem.W.Frag} {mg : Str → Option Value} {base : Heap} {ac : C.Ad}
def spTruth : Sp := fun vs H Q _ => ∃ b d : Bool, vs = [.bl b, .bl d] ∧ Q (.bl (decide (b = d))) H
theorem ok_truth {f : Addr} {fd : FuncData} (F : Fun K "_law_truth" "_law_truth" s__law_truth f fd) : FnOk P w K mg base CX0 1 f fd ["_law_told", "_law_due"] spTruth := by
  refine F.ok sc__law_truth (fun vs H Q E h => ?_) (fun cdv A outer s H vs Q E hr h => ?_)
  · obtain ⟨b, d, rfl, _⟩ := h
    rfl
  · obtain ⟨b, d, rfl, q⟩ := h
    refine ⟨_, (pss_one (ps_ret (pe_ifExp (pt_val (pv 1)) (pe_cmpR op_isBl (pv 0) pe_bl (nomark _)) (pe_cmpR op_isBl (pv 0) pe_bl (nomark _))))), ?_⟩
    refine ⟨_, rfl, d, rfl, iteB (fun t => ?_) (fun t => ?_)⟩
    · subst t
      exact ⟨_, rfl, _, _, rfl, rfl, q⟩
    · subst t
      exact ⟨_, rfl, _, _, rfl, rfl, q⟩
def spIs : Sp := fun vs H Q _ => ∃ x y : Option Nat, vs = [optV x, optV y] ∧ Q (.bl (decide (x = y))) H
theorem ok_is {f : Addr} {fd : FuncData} (F : Fun K "_law_is" "_law_is" s__law_is f fd) (m_isinstance : mg "isinstance" = none) (m_int : mg "int" = none) (m_bool : mg "bool" = none) : FnOk P w K mg base CX0 1 f fd ["_law_told", "_law_due"] spIs := by
  refine F.ok sc__law_is (fun vs H Q E h => ?_) (fun cdv A outer s H vs Q E hr h => ?_)
  · obtain ⟨x, y, rfl, _⟩ := h
    rfl
  · obtain ⟨x, y, rfl, q⟩ := h
    refine ⟨_, (pss_cons (ps_if (pt_cmpR op_isN (pv 1) pe_non (nomark _))
  (pss_one (ps_ret (pe_cmpR op_isN (pv 0) pe_non (nomark _))))
  pss_nil)
 (pss_one (ps_ret (pe_and (pe_callB call_isi (by rfl) m_isinstance boot_isinstance (pa_cons (pv 0) (pa_cons (pe_bltn (v := .ty "int") (by rfl) m_int boot_int rfl) pa_nil))) (pe_and (pe_not (pe_callB call_isi (by rfl) m_isinstance boot_isinstance (pa_cons (pv 0) (pa_cons (pe_bltn (v := .ty "bool") (by rfl) m_bool boot_bool rfl) pa_nil)))) (pe_one (pe_cmpR op_eq (pv 0) (pv 1) (nomark _)))))))), ?_⟩
    cases y with
    | none =>
      refine ⟨_, rfl, rfl, _, rfl, ?_⟩
      rw [show decide (optV none = V.non) = true from rfl]
      refine iteT ⟨_, rfl, rfl, ?_⟩
      rw [opt_non]
      rw [show decide (x = none) = x.isNone by cases x <;> rfl] at q
      exact q
    | some k =>
      refine ⟨_, rfl, rfl, _, rfl, ?_⟩
      rw [show decide (optV (some k) = V.non) = false from rfl]
      refine iteF ?_
      cases x with
      | none => exact ⟨_, rfl, _, _, _, _, _, rfl, .ty _, .base .non, kit_ty (r := false) (by decide +kernel), false, rfl, q⟩
      | some i =>
        refine ⟨_, rfl, _, _, _, _, _, rfl, .ty _, .base (.int _), kit_ty (r := true) (by decide +kernel), true, rfl, ?_⟩
        refine ⟨_, rfl, _, _, _, _, _, rfl, .ty _, .base (.int _), kit_ty (r := false) (by decide +kernel), _, rfl, _, rfl, ?_⟩
        refine ⟨_, rfl, _, rfl, rfl, ?_⟩
        rw [decide_eq_decide.mpr (show optV (some i) = optV (some k) ↔ some i = some k from ⟨fun e => by unfold optV at e; injection e with e; rw [Int.ofNat.inj e], fun e => by rw [e]⟩)]
        exact q
/-- a custom of the row's words -/
def spMade (ac : C.Ad) : Sp := fun vs H Q _ => ∃ (r : Addr) (m : Nat), vs = [.ref r] ∧ m < 192 ∧ H r = some (.lst ((C.rowOf m).map V.str)) ∧ ∀ H' p, Same H H' → C.CustAt ac.C H' p m → Q (.ref p) H'
theorem ok_made (TD : To K mg "Custom" ac.C C.fields) {f fC : Addr} {fd fdC : FuncData} (F : Fun K "_law_made" "_law_made" s__law_made f fd) (MC : Mk K ac.C fC) (GC : FnOk P w K mg base (L2.CX P w) 3 fC fdC ["self", "untold", "joined", "sold", "kept", "ends"] (C.spInit K ac)) (bC : Binds K fdC ["self", "untold", "joined", "sold", "kept", "ends"] []) : FnOk P w K mg base CX0 5 f fd ["_law_custom_here"] (spMade ac) := by
  refine F.ok sc__law_made (fun vs H Q E h => ?_) (fun cdv A outer s H vs Q E hr h => ?_)
  · obtain ⟨r, m, rfl, _⟩ := h
    rfl
  · obtain ⟨r, m, rfl, hm, hr', q⟩ := h
    refine ⟨_, (pss_one (ps_ret (pe_make MC GC (hr.mono (by decide)) (by rfl) TD.g bC .nil passL (pa_cons (pe_ix ix_list (pv 0) pe_int (fun _ _ => rfl)) (pa_cons (pe_ix ix_list (pv 0) pe_int (fun _ _ => rfl)) (pa_cons (pe_ix ix_list (pv 0) pe_int (fun _ _ => rfl)) (pa_cons (pe_ix ix_list (pv 0) pe_int (fun _ _ => rfl)) (pa_cons (pe_ix ix_list (pv 0) pe_int (fun _ _ => rfl)) pa_nil)))))))), ?_⟩
    have at_ : ∀ i : Nat, i < 5 → atI ((C.rowOf m).map V.str) ((i : Nat) : Int) = some (.str (C.wAt m i)) := fun i hi => atI_nat (j := i) (by rw [List.getElem?_map, C.row_get hi]; rfl)
    refine ⟨_, rfl, r, _, _, _, rfl, rfl, .inl (.inl hr'), at_ 0 (by decide), ?_⟩
    refine ⟨_, rfl, r, _, _, _, rfl, rfl, .inl (.inl hr'), at_ 1 (by decide), ?_⟩
    refine ⟨_, rfl, r, _, _, _, rfl, rfl, .inl (.inl hr'), at_ 2 (by decide), ?_⟩
    refine ⟨_, rfl, r, _, _, _, rfl, rfl, .inl (.inl hr'), at_ 3 (by decide), ?_⟩
    refine ⟨_, rfl, r, _, _, _, rfl, rfl, .inl (.inl hr'), at_ 4 (by decide), ?_⟩
    intro x dx hx hdx hne
    have e3 : Same H (upd (upd H dx (.own x)) x (.ins ac.C dx [])) := same_new (al hdx) (by rw [upd_ne hne.symm]; exact hx)
    refine ⟨x, dx, _, _, _, _, _, rfl, upd_same, .inl ⟨m, hm, rfl, fun H' b c => ⟨rfl, q H' x (fun v o hv => b v o (ne_of_none hv hx) (e3 _ _ hv)) c⟩⟩⟩
/-- the law's own number -/
def lnum (u j s k z : Str) (b0 b1 b2 : Bool) : Option Nat :=
  if (inV (.str "none") [.str s, .str k] || (inV (.str "beside") [.str s, .str k] && decide (V.str z = V.str "far"))) = true then some 1
  else if (b2 || (b1 && !decide (V.str u = V.str "stay") && !decide (V.str u = V.str "needed stay"))) = true then some 2
  else if (b1 && !decide (V.str u = V.str "stay")) = true then
    if (!PyData.eqv (.list [.str s, .str k]) (.list [.str "need", .str "need"])) = true then some 2 else if b0 = true then some 3 else if decide (V.str j = V.str "sleep") = true then some 4 else none
  else if (decide (V.str z = V.str "loose") && (decide (s = "beside" ∧ k = "need") || decide (s = "need" ∧ k = "beside"))) = true then some 2 else none
theorem lnum_few : ∀ (n : Fin 192) (b0 b1 b2 : Bool), ∀ z ∈ (["far", "loose", "bound"] : List Str), lnum (C.wAt n.val 0) (C.wAt n.val 1) (C.wAt n.val 2) (C.wAt n.val 3) z b0 b1 b2 = few n.val b0 b1 b2 z := by decide +kernel
end
end K7
end
/-! ## P23 -/
section
open PySem PySem.Spec PyProof.Rows L2
namespace K7
abbrev N__law_number : List Str := ["_law_custom_here", "_law_counted", "_law_sort_here", "_law_sides", "_law_mortal"]
abbrev s__law_number : Stmt := topS 52
theorem sc__law_number : FnScope ["_law_custom_here", "_law_counted", "_law_sort_here", "_law_sides", "_law_mortal"] ["_law_custom_here", "_law_counted", "_law_sort_here"] (defScope s__law_number) := ⟨rfl, rfl, rfl, by decide +kernel, rfl, by decide +kernel, by decide +kernel⟩
def mortV (u : Str) (b1 : Bool) : List Str := if (b1 && !decide (V.str u = V.str "stay")) = true then (if decide (V.str u = V.str "needed stay") = true then ["awake"] else ["awake", "needed"]) else []
theorem sort_two {ys : List Str} {s k : Str} (p : ys.Perm [s, k]) (h : sortedS ys = true) : decide (ys = (["beside", "need"] : List Str)) = (decide (s = "beside" ∧ k = "need") || decide (s = "need" ∧ k = "beside")) := by
  have bad : sortedS (["need", "beside"] : List Str) = false := by decide +kernel
  rw [← Bool.decide_or]
  refine decide_eq_decide.mpr ⟨fun e => ?_, fun e => ?_⟩
  · subst e
    have ms : s ∈ (["beside", "need"] : List Str) := p.mem_iff.mpr (List.mem_cons_self ..)
    have mb : ("beside" : Str) ∈ [s, k] := p.mem_iff.mp (List.mem_cons_self ..)
    have mn : ("need" : Str) ∈ [s, k] := p.mem_iff.mp (List.mem_cons_of_mem _ (List.mem_cons_self ..))
    have ne : ("beside" : Str) ≠ "need" := by decide +kernel
    simp only [List.mem_cons, List.not_mem_nil, or_false] at ms mb mn
    rcases ms with rfl | rfl
    · rcases mn with e | rfl
      · exact absurd e.symm ne
      · exact .inl ⟨rfl, rfl⟩
    · rcases mb with e | rfl
      · exact absurd e ne
      · exact .inr ⟨rfl, rfl⟩
  · have two : ys = [s, k] ∨ ys = [k, s] := by
      have hl : ys.length = 2 := p.length_eq
      match ys, hl with
      | [x, y], _ =>
        have mx : x ∈ [s, k] := p.mem_iff.mp (List.mem_cons_self ..)
        simp only [List.mem_cons, List.not_mem_nil, or_false] at mx
        rcases mx with rfl | rfl
        · have := List.perm_singleton.mp (p.cons_inv)
          cases this
          exact .inl rfl
        · have p2 : [x, y].Perm [x, s] := p.trans (List.Perm.swap ..)
          have := List.perm_singleton.mp (p2.cons_inv)
          cases this
          exact .inr rfl
    rcases e with ⟨rfl, rfl⟩ | ⟨rfl, rfl⟩
    · rcases two with e | e
      · exact e
      · rw [e, bad] at h
        cases h
    · rcases two with e | e
      · rw [e, bad] at h
        cases h
      · exact e
theorem mort_need (u : Str) (b1 : Bool) : inV (.str "needed") ((mortV u b1).map V.str) = (b1 && !decide (V.str u = V.str "stay") && !decide (V.str u = V.str "needed stay")) := by
  unfold mortV
  cases h : (b1 && !decide (V.str u = V.str "stay")) with
  | false => rw [if_neg (by decide), Bool.false_and]; rfl
  | true =>
    rw [if_pos rfl]
    cases h2 : decide (V.str u = V.str "needed stay") with
    | true => rw [if_pos rfl]; with_unfolding_all rfl
    | false => rw [if_neg (by decide)]; with_unfolding_all rfl
theorem mort_nil (u : Str) (b1 : Bool) : ((mortV u b1).map PyData.str).isEmpty = !(b1 && !decide (V.str u = V.str "stay")) ∧ SeqAt.shaped (.list ((mortV u b1).map PyData.str)) = true := by
  unfold mortV
  cases h : (b1 && !decide (V.str u = V.str "stay")) with
  | false => rw [if_neg (by decide)]; exact ⟨rfl, by decide +kernel⟩
  | true =>
    rw [if_pos rfl]
    cases h2 : decide (V.str u = V.str "needed stay") with
    | true => rw [if_pos rfl]; exact ⟨rfl, by decide +kernel⟩
    | false => rw [if_neg (by decide)]; exact ⟨rfl, by decide +kernel⟩
section
variable {P : Program} {w : World} {K : PySem.W.Frag} {mg : Str → Option Value} {base : Heap}
def spNum : Sp := fun vs H Q _ => ∃ (r ct : Addr) (z : Str) (m : Nat) (b0 b1 b2 : Bool), vs = [.ref r, .ref ct, .str z] ∧ m < 192 ∧ H r = some (.lst ((C.rowOf m).map V.str)) ∧ H ct = some (.tup [.bl b0, .bl b1, .bl b2]) ∧ z ∈ (["far", "loose", "bound"] : List Str) ∧ ∀ H', Same H H' → Q (optV (few m b0 b1 b2 z)) H'
theorem eqv_lnil (xs : List PyData) : PyData.eqv (.list xs) (.list []) = xs.isEmpty := by
  cases xs with
  | nil => simp [PyData.eqv, PyData.eqvAll]
  | cons x r => simp [PyData.eqv, PyData.eqvAll]
theorem ok_num {f : Addr} {fd : FuncData} (F : Fun K "_law_number" "_law_number" s__law_number f fd) (m_sorted : mg "sorted" = none) : FnOk P w K mg base CX0 1 f fd ["_law_custom_here", "_law_counted", "_law_sort_here"] spNum := by
  refine F.ok sc__law_number (fun vs H Q E h => ?_) (fun cdv A outer s H vs Q E hr h => ?_)
  · obtain ⟨r, ct, z, m, b0, b1, b2, rfl, _⟩ := h
    rfl
  · obtain ⟨r, ct, z, m, b0, b1, b2, rfl, hm, hr', hct, hz, q⟩ := h
    refine ⟨_, (Evl.pss_cut (ps_set (i := 3) sc__law_number.nd rfl (by first | exact Or.inl rfl | exact Or.inr rfl) (pe_slice sl_list (pv 0) (po_some pe_int) (po_some pe_int)))
 (Evl.pss_cut (ps_set (i := 4) sc__law_number.nd rfl (by first | exact Or.inl rfl | exact Or.inr rfl) (pe_lst pa_nil))
 (Evl.pss_cut (ps_if (pw_and (pt_val (pe_ix ix_tup (pv 1) pe_int (fun _ _ => rfl))) (pw_and1 (pt_cmpR op_ne (pe_ix ix_list (pv 0) pe_int (fun _ _ => rfl)) pe_str (nomark _)))).pt
  (pss_one (ps_set (i := 4) sc__law_number.nd rfl (by first | exact Or.inl rfl | exact Or.inr rfl) (pe_ifExp (pt_cmpR op_eq (pe_ix ix_list (pv 0) pe_int (fun _ _ => rfl)) pe_str (nomark _)) (pe_lst (pa_cons pe_str pa_nil)) (pe_lst (pa_cons pe_str (pa_cons pe_str pa_nil))))))
  pss_nil)
 (Evl.pss_cut (ps_if (pw_or (pt_cmpR op_in_seq pe_str (pv 3) (by with_unfolding_all rfl)) (pw_or1 (pw_and (pt_cmpR op_in_seq pe_str (pv 3) (by with_unfolding_all rfl)) (pw_and1 (pt_cmpR op_eq (pv 2) pe_str (nomark _)))).pt)).pt
  (pss_one (ps_ret pe_int))
  pss_nil)
 (Evl.pss_cut (ps_if (pw_or (pt_val (pe_ix ix_tup (pv 1) pe_int (fun _ _ => rfl))) (pw_or1 (pt_cmpR op_in_seq pe_str (pv 4) (by with_unfolding_all rfl)))).pt
  (pss_one (ps_ret pe_int))
  pss_nil)
 (Evl.pss_cut (ps_if (pt_cmpR (op_neD hr.units) (pv 4) (pe_lst pa_nil) (nomark _))
  (pss_cons (ps_if (pt_cmpR (op_neD hr.units) (pv 3) (pe_lst (pa_cons pe_str (pa_cons pe_str pa_nil))) (nomark _))
  (pss_one (ps_ret pe_int))
  pss_nil)
 (pss_cons (ps_if (pt_val (pe_ix ix_tup (pv 1) pe_int (fun _ _ => rfl)))
  (pss_one (ps_ret pe_int))
  pss_nil)
 (pss_one (ps_ret (pe_ifExp (pt_cmpR op_eq (pe_ix ix_list (pv 0) pe_int (fun _ _ => rfl)) pe_str (nomark _)) pe_int pe_non)))))
  pss_nil)
 (pss_one (ps_ret (pe_ifExp (pw_and (pt_cmpR op_eq (pv 2) pe_str (nomark _)) (pw_and1 (pt_cmpR (op_eqD hr.units) (pe_callB cr_sortedS (by rfl) m_sorted boot_sorted (pa_cons (pv 3) pa_nil)) (pe_lst (pa_cons pe_str (pa_cons pe_str pa_nil))) (nomark _)))).pt pe_int pe_non))))))))), ?_⟩
    rw [← lnum_few ⟨m, hm⟩ b0 b1 b2 z hz] at q
    have at_ : ∀ i : Nat, i < 5 → atI ((C.rowOf m).map V.str) ((i : Nat) : Int) = some (.str (C.wAt m i)) := fun i hi => atI_nat (j := i) (by rw [List.getElem?_map, C.row_get hi]; rfl)
    have shs : SeqAt.shaped (.list [.str (C.wAt m 2), .str (C.wAt m 3)]) = true := (by decide +kernel : ∀ n : Fin 192, SeqAt.shaped (.list [.str (C.wAt n.val 2), .str (C.wAt n.val 3)]) = true) ⟨m, hm⟩
    have ok2 : PyData.strOk (C.wAt m 2) = true ∧ PyData.strOk (C.wAt m 3) = true := ⟨C.row_ok hm _ (List.mem_of_getElem? (C.row_get (by decide : 2 < 5))), C.row_ok hm _ (List.mem_of_getElem? (C.row_get (by decide : 3 < 5)))⟩
    have cut : cutV ((C.rowOf m).map V.str) (some 2) (some 4) = [.str (C.wAt m 2), .str (C.wAt m 3)] := rfl
    have at0 := at_ 0 (by decide)
    have at1 := at_ 1 (by decide)
    clear at_
    have q : ∀ H', Same H H' → Q (optV (lnum (C.wAt m 0) (C.wAt m 1) (C.wAt m 2) (C.wAt m 3) z b0 b1 b2)) H' := q
    generalize C.wAt m 0 = u at q at0
    generalize C.wAt m 1 = j at q at1
    generalize C.wAt m 2 = s' at q cut shs ok2
    generalize C.wAt m 3 = k at q cut shs ok2
    -- the two sides
    refine ⟨fun τ H' => ∃ S, τ = [some (.ref r), some (.ref ct), some (.str z), some (.ref S), none] ∧ Same H H' ∧ H' S = some (.lst [.str s', .str k]), ?_, fun τ H1 hM => ?_⟩
    · refine ⟨_, rfl, _, rfl, _, rfl, r, _, rfl, .inl (.inl hr'), fun S nS => ?_⟩
      rw [cut]
      exact ⟨S, rfl, al nS, upd_same⟩
    · obtain ⟨S, rfl, e1, hS⟩ := hM
      refine ⟨fun τ H' => ∃ M, τ = [some (.ref r), some (.ref ct), some (.str z), some (.ref S), some (.ref M)] ∧ Same H H' ∧ H' S = some (.lst [.str s', .str k]) ∧ H' M = some (.lst []), ?_, fun τ H2 hM => ?_⟩
      · refine ⟨by show 0 ≤ sizeLine; decide, fun M nM => ?_⟩
        exact ⟨M, rfl, e1.trans (al nM), al nM _ _ hS, upd_same⟩
      · obtain ⟨M0, rfl, e2, hS2, hM0⟩ := hM
        -- what dies
        refine ⟨fun τ H' => ∃ M, τ = [some (.ref r), some (.ref ct), some (.str z), some (.ref S), some (.ref M)] ∧ Same H H' ∧ H' S = some (.lst [.str s', .str k]) ∧ H' M = some (.lst ((mortV u b1).map V.str)), ?_, fun τ H3 hM => ?_⟩
        · refine ⟨_, rfl, ct, _, _, _, rfl, rfl, .inl (.inl (e2 _ _ hct)), atI_nat (j := 1) rfl, b1, rfl, iteB (fun h => ?_) (fun h => ?_)⟩
          · refine ⟨_, rfl, r, _, _, _, rfl, rfl, .inl (.inl (e2 _ _ hr')), at0, rfl, _, rfl, iteB (fun h2 => ?_) (fun h2 => ?_)⟩
            · have m1 : mortV u b1 = if decide (V.str u = V.str "needed stay") = true then (["awake"] : List Str) else ["awake", "needed"] := by
                unfold mortV
                rw [if_pos (by rw [h]; exact h2)]
              refine ⟨_, rfl, r, _, _, _, rfl, rfl, .inl (.inl (e2 _ _ hr')), at0, rfl, _, rfl, iteB (fun h3 => ?_) (fun h3 => ?_)⟩
              · rw [if_pos h3] at m1
                refine ⟨by show 1 ≤ sizeLine; decide, fun M nM => ⟨M, rfl, e2.trans (al nM), al nM _ _ hS2, by rw [upd_same, m1]; rfl⟩⟩
              · rw [if_neg (Bool.eq_false_iff.mp h3)] at m1
                refine ⟨by show 2 ≤ sizeLine; decide, fun M nM => ⟨M, rfl, e2.trans (al nM), al nM _ _ hS2, by rw [upd_same, m1]; rfl⟩⟩
            · exact ⟨M0, rfl, e2, hS2, by unfold mortV; rw [if_neg (by rw [h]; exact Bool.eq_false_iff.mp h2)]; exact hM0⟩
          · exact iteFo rfl ⟨M0, rfl, e2, hS2, by unfold mortV; rw [if_neg (by rw [h, Bool.false_and]; decide)]; exact hM0⟩
        · obtain ⟨M, rfl, e3, hS3, hM3⟩ := hM
          unfold lnum at q
          have sq : SqL K H3 S [.str s', .str k] ∨ SqT K H3 S [.str s', .str k] := .inl (.inl (.inl hS3))
          have flM : ((mortV u b1).map V.str).all flatV = true := by
            rw [List.all_eq_true]
            intro x hx
            obtain ⟨y, _, rfl⟩ := List.mem_map.mp hx
            rfl
          -- nothing stands
          refine ⟨fun τ H' => τ = [some (.ref r), some (.ref ct), some (.str z), some (.ref S), some (.ref M)] ∧ H' = H3 ∧ (inV (.str "none") [.str s', .str k] || (inV (.str "beside") [.str s', .str k] && decide (V.str z = V.str "far"))) = false, ?_, fun τ H4 hM => ?_⟩
          · refine ⟨_, rfl, S, _, rfl, sq, rfl, rfl, _, rfl, iteB (fun h => ?_) (fun h => ?_)⟩
            · have h : inV (.str "none") [.str s', .str k] = true := h
              rw [if_pos (by rw [h]; rfl)] at q
              exact q _ e3
            · have h : inV (.str "none") [.str s', .str k] = false := h
              refine ⟨_, rfl, S, _, rfl, sq, rfl, rfl, _, rfl, iteB (fun h2 => ?_) (fun h2 => ?_)⟩
              · have h2 : inV (.str "beside") [.str s', .str k] = true := h2
                refine ⟨_, rfl, rfl, _, rfl, iteB (fun h3 => ?_) (fun h3 => ?_)⟩
                · rw [if_pos (by rw [h, h2, h3]; rfl)] at q
                  exact q _ e3
                · exact ⟨rfl, rfl, by rw [h, h2, h3]; rfl⟩
              · have h2 : inV (.str "beside") [.str s', .str k] = false := h2
                exact iteFo rfl ⟨rfl, rfl, by rw [h, h2]; rfl⟩
          · obtain ⟨rfl, rfl, n1⟩ := hM
            rw [if_neg (Bool.eq_false_iff.mp n1)] at q
            -- two deeds are enough
            refine ⟨fun τ H' => τ = [some (.ref r), some (.ref ct), some (.str z), some (.ref S), some (.ref M)] ∧ H' = H4 ∧ (b2 || (b1 && !decide (V.str u = V.str "stay") && !decide (V.str u = V.str "needed stay"))) = false, ?_, fun τ H5 hM => ?_⟩
            · refine ⟨_, rfl, ct, _, _, _, rfl, rfl, .inl (.inl (e3 _ _ hct)), atI_nat (j := 2) rfl, b2, rfl, iteB (fun h => ?_) (fun h => ?_)⟩
              · rw [if_pos (by rw [h]; rfl)] at q
                exact q _ e3
              · refine ⟨_, rfl, M, _, rfl, .inl (.inl (.inl hM3)), rfl, flM, _, rfl, ?_⟩
                change if inV (.str "needed") ((mortV u b1).map V.str) = true then _ else _
                rw [mort_need]
                refine iteB (fun h2 => ?_) (fun h2 => ?_)
                · rw [if_pos (by rw [h, h2]; rfl)] at q
                  exact q _ e3
                · exact ⟨rfl, rfl, by rw [h, h2]; rfl⟩
            · obtain ⟨rfl, rfl, n2⟩ := hM
              rw [if_neg (Bool.eq_false_iff.mp n2)] at q
              obtain ⟨me, msh⟩ := mort_nil u b1
              have dpS : Dp K H5 (.ref S) (.list [.str s', .str k]) := .lst (.inl (.inl hS3)) (.cons (.str _) (.cons (.str _) .nil))
              refine ⟨fun τ H' => τ = [some (.ref r), some (.ref ct), some (.str z), some (.ref S), some (.ref M)] ∧ Same H5 H' ∧ (b1 && !decide (V.str u = V.str "stay")) = false, ?_, fun τ H6 hM => ?_⟩
              · refine ⟨_, rfl, by show 0 ≤ sizeLine; decide, fun w nw => ?_⟩
                have e4 := al (o := .lst []) nw
                refine ⟨_, _, .lst (.inl (.inl (e4 _ _ hM3))) (C.dp_strs _), .lst (.inl (.inl upd_same)) .nil, msh, by decide +kernel, _, rfl, ?_⟩
                rw [eqv_lnil, me, Bool.not_not]
                refine iteB (fun h => ?_) (fun h => ?_)
                · rw [if_pos h] at q
                  refine ⟨_, rfl, by show 2 ≤ sizeLine; decide, fun w2 nw2 => ?_⟩
                  have e5 := e4.trans (al (o := .lst [.str "need", .str "need"]) nw2)
                  refine ⟨.list [.str s', .str k], .list [.str "need", .str "need"], .lst (.inl (.inl (e5 _ _ hS3))) (.cons (.str _) (.cons (.str _) .nil)), .lst (.inl (.inl upd_same)) (.cons (.str _) (.cons (.str _) .nil)), shs, by decide +kernel, _, rfl, iteB (fun h2 => ?_) (fun h2 => ?_)⟩
                  · rw [if_pos h2] at q
                    exact q _ (e3.trans e5)
                  · rw [if_neg (Bool.eq_false_iff.mp h2)] at q
                    refine ⟨_, rfl, ct, _, _, _, rfl, rfl, .inl (.inl (e5 _ _ (e3 _ _ hct))), atI_nat (j := 0) rfl, b0, rfl, iteB (fun h3 => ?_) (fun h3 => ?_)⟩
                    · rw [if_pos h3] at q
                      exact q _ (e3.trans e5)
                    · rw [if_neg (Bool.eq_false_iff.mp h3)] at q
                      refine ⟨_, rfl, r, _, _, _, rfl, rfl, .inl (.inl (e5 _ _ (e3 _ _ hr'))), at1, rfl, _, rfl, iteB (fun h4 => ?_) (fun h4 => ?_)⟩
                      · rw [if_pos h4] at q
                        exact q _ (e3.trans e5)
                      · rw [if_neg (Bool.eq_false_iff.mp h4)] at q
                        exact q _ (e3.trans e5)
                · exact ⟨rfl, e4, h⟩
              · obtain ⟨rfl, e4, n3⟩ := hM
                rw [if_neg (Bool.eq_false_iff.mp n3)] at q
                have e34 := e3.trans e4
                refine ⟨_, rfl, rfl, _, rfl, iteB (fun h => ?_) (fun h => ?_)⟩
                · refine ⟨_, rfl, S, [s', k], rfl, .inl (.inl (e4 _ _ hS3)), by show 2 < 64; decide, fun ys pp perm srtd np => ?_⟩
                  have e5 := al (o := .lst (ys.map V.str)) np
                  refine ⟨by show 2 ≤ sizeLine; decide, fun w nw => ?_⟩
                  have e6 := al (o := .lst [.str "beside", .str "need"]) nw
                  have oky : ∀ y ∈ ys, PyData.strOk y = true := fun y my => by
                    have := perm.mem_iff.mp my
                    simp only [List.mem_cons, List.not_mem_nil, or_false] at this
                    rcases this with rfl | rfl
                    · exact ok2.1
                    · exact ok2.2
                  refine ⟨_, _, .lst (.inl (.inl (e6 _ _ upd_same))) (C.dp_strs ys), .lst (.inl (.inl upd_same)) (C.dp_strs ["beside", "need"]), (C.shaped_strs ys oky).2, by decide +kernel, _, rfl, ?_⟩
                  have ev : PyData.eqv (.list (ys.map PyData.str)) (.list ((["beside", "need"] : List Str).map PyData.str)) = (decide (s' = "beside" ∧ k = "need") || decide (s' = "need" ∧ k = "beside")) := by
                    rw [PyData.eqv, C.eqv_strs, sort_two perm srtd]
                  rw [ev]
                  refine iteB (fun h2 => ?_) (fun h2 => ?_)
                  · rw [if_pos (by rw [h, h2]; rfl)] at q
                    exact q _ ((e34.trans e5).trans e6)
                  · rw [if_neg (by rw [h, h2]; decide)] at q
                    exact q _ ((e34.trans e5).trans e6)
                · rw [if_neg (by rw [h, Bool.false_and]; decide)] at q
                  exact iteFo rfl (q _ e34)
end
end K7
end
/-! ## EX -/
section
namespace K7E
open PySem PySem.Spec PyProof.Rows L2
/-! a call under try: what it lets out is asked for where it stands -/
section
variable {X : Cx} {W : WX} {k : Nat} {f C : Addr} {fd : FuncData} {ps : List Str} {sp : Sp} {dvs : List V} {ds : List Value} {x m : Str} {p pos apos : Pos} {e o : Expr} {es : List Expr} {ta : TE} {t : TA}
theorem run_fnW {pins : List (Addr × Obj)} {σ : L2.St} {H : Hp} {s : Shared} {Q : VK} {us : List Value} {vs : List V} (F : FnOk X.prog X.w X.K X.mg X.base (L2.CX X.prog X.w) k f fd ps sp) (hr : Room k X.A) (hb : Binds X.K fd ps ds) (hd : Vals dvs ds) (tk : Takes X W)
    (I : Inv X pins σ H s) (r : Vals vs us) (h : sp (vs ++ dvs) H Q (fun cls d H' => W cls d σ H')) : wpAny (model X.prog X.w) X.A (call (.ref f) us) (EP X pins σ Q) X.xe s := by
  have r2 : Vals (vs ++ dvs) (us ++ ds) := r.append hd
  have hl : (us ++ ds).length = ps.length := by rw [← r2.length]; exact F.len _ _ _ _ h
  refine wpAny_call (codeAny_mono (F.run X.A X.stack s H ⟨us, []⟩ (us ++ ds) (vs ++ dvs) Q _ hr I.env0 (hb s us I.kIn hl) r2 h) fun r s' hq => ?_)
  cases r with
  | error e => exact tk e s' (XE.of_call (E := fun cls d H' => W cls d σ H') I (fun cls d H' h => h) hq)
  | ok fl =>
    cases fl with
    | ret u => exact I.after hq
    | next => exact False.elim hq
    | brk => exact False.elim hq
    | cont => exact False.elim hq
theorem pe_callW (F : FnOk X.prog X.w X.K X.mg X.base (L2.CX X.prog X.w) k f fd ps sp) (hr : Room k X.A) (hg : Gl X x) (hm : X.mg x = some (.ref f)) (hk : PySem.W.keepIn X.K (.ref f) = true) (hb : Binds X.K fd ps ds) (hd : Vals dvs ds) (tk : Takes X W)
    (ha : PA X (e :: es) t) (hdb : (x == ("__debug__" : Str)) = false := by decide) (he : starEach (e :: es) X.env = (false, eval e X.env) :: starEach es X.env := by rfl) (hpl : (backTo pos (starEach es X.env)).any (·.1) = false := by rfl) :
    PE X (.Call (.Name x p) (e :: es) [] pos) (fun σ H Q => t σ H fun vs H1 => sp (vs ++ dvs) H1 Q (fun cls d H' => W cls d σ H')) := by
  refine ⟨fun pins s σ H Q I h => ?_⟩
  refine wpAny_Call_Name_kw (ld_glob I hg hm ?_ hdb)
  refine PySem.W.callWith_K (h₀ := X.base) I.ok.mod.kin hk (thn (ha.run pos pins s σ H _ I h) fun us s1 ⟨vs, H1, I1, r, q⟩ => ⟨I1.kIn, ?_⟩) he hpl
  exact run_fnW F hr hb hd tk I1 r q
theorem pe_methW {pl : Sem Bool} (he : PE X o ta) (c : Cls X.K C) (hm : Meth X.K C m f) (F : FnOk X.prog X.w X.K X.mg X.base (L2.CX X.prog X.w) k f fd ps sp) (hr : Room k X.A) (hb : Binds X.K fd ps ds) (hd : Vals dvs ds) (tk : Takes X W) (ha : PA X (e :: es) t)
    (hst : starEach (e :: es) X.env = (false, eval e X.env) :: starEach es X.env := by rfl) (hpl : (backTo pos (starEach es X.env)).any (·.1) = false := by rfl)
    (ht : eval (.Call (.Attribute o m apos) (e :: es) [] pos) X.env = (do
      let ov ← eval o X.env
      standAt apos.atName
      let (f, first) ← holding [ov] (getMethod ov m pl)
      callWith pos f first (backTo pos (starEach (e :: es) X.env)) (backToKw pos (keywordEach [] X.env))) := by rfl) :
    PE X (.Call (.Attribute o m apos) (e :: es) [] pos) (fun σ H Q => ta σ H fun x H1 => ∃ a dx fs, x = .ref a ∧ H1 a = some (.ins C dx fs) ∧ fs.lookup m = none ∧
      t σ H1 fun vs H2 => sp (x :: (vs ++ dvs)) H2 Q (fun cls d H' => W cls d σ H')) := by
  refine ⟨fun pins s σ H Q I h => ?_⟩
  refine PySem.W.methodCall_KW (pl := pl) (thn (he.run pins s σ H _ I h) fun u s1 ⟨x, H1, I1, rx, a, dx, fs, ex, ea, l, q⟩ => ?_) ht
  subst ex
  obtain rfl : u = Value.ref a := rx
  refine getmeth_ok I1 ea c hm l ?_
  refine PySem.W.callWith_K (first := [.ref a]) (h₀ := X.base) I.ok.mod.kin hm.kp (thn (ha.run pos pins s1 σ H1 _ I1 q) fun us s2 ⟨vs, H2, I2, r, q2⟩ => ⟨I2.kIn, ?_⟩) hst hpl
  exact run_fnW (us := .ref a :: us) (vs := .ref a :: vs) F hr hb hd tk I2 (.cons rfl r) q2
end
/-! ### isinstance(e, c), e the exception that the suite holds, with fields of its own -/
section
variable {X : Cx}
theorem call_isEd {a D d : Addr} {oe : Obj} {pn : List (Addr × Obj)} (C : ExcC X.K D) (hz : Zc (.ref D) (some d) oe) (hf : ∃ vs, oe.data = .fields vs) : CallR (X.suite a ((a, oe) :: pn)) (.builtin "isinstance") (fun xs H Q => ∃ (c : V) (cv : Value) (b : Bool) (fs : List (Str × V)), xs = [.ref a, c] ∧ (∀ u, RelV c u → u = cv) ∧ PySem.W.kitOne X.K (.ref D) cv = some b ∧ H d = some (.xd fs) ∧ Q (.bl b) H) := by
  intro pins s σ H xs us Q I r h
  obtain ⟨c, cv, b, fs, rfl, hcv, e, hd, q⟩ := h
  cases r with
  | cons rx rr =>
    cases rr with
    | cons rt rr =>
      cases rr
      cases rx
      have ec := hcv _ rt
      subst ec
      obtain ⟨hget, _⟩ := I.pin (a, oe) (List.mem_append.mpr (.inl List.mem_cons_self))
      obtain ⟨vs, hv⟩ := hf
      have hx : ObjOk X.prog X.w H s.heap d (.xd fs) := I.hok d _ hd
      obtain ⟨mA, hns, hrr⟩ := hx
      obtain ⟨od, ho, hl⟩ := lookIn_ns hns
      have J : PySem.W.InstAt s.heap a oe D (some od) := ⟨hget, hz.1, by unfold PySem.W.notCls; rw [hv] <;> rfl, by rw [hz.2]; exact ho⟩
      obtain ⟨cd, hcc, _⟩ := PySem.W.any_some C.hd
      exact PySem.W.kia_one (PySem.W.kitx_exc (gt := none) (by rw [hcc]; rfl) C.hg C.hk C.hs C.ha C.hn C.ht C.hm) I.kIn J e (fun z => nomatch z) fun tk => ⟨.bl b, H, I.kept (t' := tk) fun _ _ z => z, rfl, q⟩
end
theorem call_isEdX {X : Cx} {a D : Addr} {cls : Value} {d : Option Addr} {oe : Obj} {pn : List (Addr × Obj)} (C : ExcC X.K D) (hz : Zc cls d oe) (hf : ∃ vs, oe.data = .fields vs) : CallR (X.suite a ((a, oe) :: pn)) (.builtin "isinstance") (fun xs H Q => cls = .ref D ∧ ∃ dd, d = some dd ∧ ∃ (c : V) (cv : Value) (b : Bool) (fs : List (Str × V)), xs = [.ref a, c] ∧ (∀ u, RelV c u → u = cv) ∧ PySem.W.kitOne X.K (.ref D) cv = some b ∧ H dd = some (.xd fs) ∧ Q (.bl b) H) := by
  intro pins s σ H xs us Q I r h
  obtain ⟨rfl, dd, rfl, h⟩ := h
  exact call_isEd C hz hf pins s σ H xs us Q I r h
/-! repr of a plain thing -/
def reprV : V → Str
  | .non => "None"
  | .bl b => if b then "True" else "False"
  | .int i => toString i
  | .str z => reprText z
  | _ => ""
def reprOk : V → Prop
  | .non => True
  | .bl b => True
  | .int i => i.natAbs.log2 < 1920
  | .str z => (reprText z).length ≤ sizeLine
  | _ => False
theorem call_reprF {X : Cx} : CallR X (.builtin "repr") (fun xs H Q => ∃ v, xs = [v] ∧ reprOk v ∧ Q (.str (reprV v)) H) := by
  intro pins s σ H xs us Q I r h
  obtain ⟨v, rfl, hz, q⟩ := h
  obtain ⟨u, rfl, ru⟩ := r.one
  cases v with
  | non => cases ru; exact PySem.P.repr_of_none ⟨.str _, H, I.tok _, ⟨_, rfl⟩, q⟩
  | bl b => cases ru; exact PySem.P.repr_of_bool ⟨.str _, H, I.tok _, ⟨_, rfl⟩, q⟩
  | int i => obtain ⟨t, rfl⟩ := ru; exact PySem.P.repr_of_int hz ⟨.str _, H, I.tok _, ⟨_, rfl⟩, q⟩
  | str z => obtain ⟨t, rfl⟩ := ru; exact PySem.P.repr_of_str ⟨.str _, H, I.tok _, ⟨_, rfl⟩, q⟩ hz
  | _ => exact hz.elim
end K7E
end
/-! ## P24 -/
section
open PySem PySem.Spec PyProof.Rows L2
namespace K7
abbrev N__law_words : List Str := ["_law_side"]
abbrev s__law_words : Stmt := topS 49
theorem sc__law_words : FnScope ["_law_side"] [] (defScope s__law_words) := ⟨rfl, rfl, rfl, by decide +kernel, rfl, by decide +kernel, by decide +kernel⟩
abbrev N__law_custom : List Str := ["_law_hand_here", "_law_rest", "_law_row", "_law_words_here"]
abbrev s__law_custom : Stmt := topS 50
theorem sc__law_custom : FnScope ["_law_hand_here", "_law_rest", "_law_row", "_law_words_here"] ["_law_hand_here"] (defScope s__law_custom) := ⟨rfl, rfl, rfl, by decide +kernel, rfl, by decide +kernel, by decide +kernel⟩
abbrev N__law_no_cell : List Str := ["_law_effect", "_law_land_here", "_law_thing", "e"]
abbrev s__law_no_cell : Stmt := topS 56
theorem sc__law_no_cell : FnScope ["_law_effect", "_law_land_here", "_law_thing", "e"] ["_law_effect", "_law_land_here", "_law_thing"] (defScope s__law_no_cell) := ⟨rfl, rfl, rfl, by decide +kernel, rfl, by decide +kernel, by decide +kernel⟩
section
variable {P : Program} {w : World} {K : PySem.W.Frag} {mg : Str → Option Value} {base : Heap} {a : AdL} {G D N : Addr}
/-- the lists of words -/
def MenusAt (H : Hp) (t : Addr) : Prop := ∃ as : List Addr, as.length = 5 ∧ H t = some (.lst (as.map V.ref)) ∧ ∀ i x, as[i]? = some x → H x = some (.lst ((C.menuAt i).map V.str))
def spWords : Sp := fun vs H Q _ => vs = [] ∧ ∀ H' t, Same H H' → MenusAt H' t → Q (.ref t) H'
theorem ok_wo {f : Addr} {fd : FuncData} (F : Fun K "_law_words" "_law_words" s__law_words f fd) : FnOk P w K mg base CX0 1 f fd [] spWords := by
  refine F.ok sc__law_words (fun vs H Q E h => ?_) (fun cdv A outer s H vs Q E hr h => ?_)
  · obtain ⟨rfl, _⟩ := h
    rfl
  · obtain ⟨rfl, q⟩ := h
    refine ⟨_, (pss_cons (ps_set (i := 0) sc__law_words.nd rfl (by first | exact Or.inl rfl | exact Or.inr rfl) (pe_lst (pa_cons pe_str (pa_cons pe_str (pa_cons pe_str (pa_cons pe_str pa_nil))))))
 (pss_one (ps_ret (pe_lst (pa_cons (pe_lst (pa_cons pe_str (pa_cons pe_str (pa_cons pe_str pa_nil)))) (pa_cons (pe_lst (pa_cons pe_str (pa_cons pe_str pa_nil))) (pa_cons (pv 0) (pa_cons (pv 0) (pa_cons (pe_lst (pa_cons pe_str (pa_cons pe_str pa_nil))) pa_nil))))))))), ?_⟩
    refine ⟨by show 4 ≤ sizeLine; decide, fun t2 n2 => ?_⟩
    have e2 := al (o := .lst [.str "none", .str "all", .str "beside", .str "need"]) n2
    have h2 : upd H t2 (.lst [.str "none", .str "all", .str "beside", .str "need"]) t2 = some (.lst ((C.menuAt 2).map V.str)) := upd_same
    generalize upd H t2 (.lst [.str "none", .str "all", .str "beside", .str "need"]) = H2 at e2 h2 ⊢
    refine ⟨by show 3 ≤ sizeLine; decide, fun t0 n0 => ?_⟩
    have e0 := al (o := .lst [.str "stay", .str "die", .str "needed stay"]) n0
    have h0 : upd H2 t0 (.lst [.str "stay", .str "die", .str "needed stay"]) t0 = some (.lst ((C.menuAt 0).map V.str)) := upd_same
    generalize upd H2 t0 (.lst [.str "stay", .str "die", .str "needed stay"]) = H3 at e0 h0 ⊢
    refine ⟨by show 2 ≤ sizeLine; decide, fun t1 n1 => ?_⟩
    have e1 := al (o := .lst [.str "die", .str "sleep"]) n1
    have h1 : upd H3 t1 (.lst [.str "die", .str "sleep"]) t1 = some (.lst ((C.menuAt 1).map V.str)) := upd_same
    generalize upd H3 t1 (.lst [.str "die", .str "sleep"]) = H4 at e1 h1 ⊢
    refine ⟨_, rfl, _, rfl, by show 2 ≤ sizeLine; decide, fun t4 n4 => ?_⟩
    have e4 := al (o := .lst [.str "never", .str "free"]) n4
    have h4 : upd H4 t4 (.lst [.str "never", .str "free"]) t4 = some (.lst ((C.menuAt 4).map V.str)) := upd_same
    generalize upd H4 t4 (.lst [.str "never", .str "free"]) = H5 at e4 h4 ⊢
    refine ⟨by show 5 ≤ sizeLine; decide, fun t nt => ?_⟩
    have e5 := al (o := .lst [.ref t0, .ref t1, .ref t2, .ref t2, .ref t4]) nt
    refine q _ t ((((e2.trans e0).trans e1).trans e4).trans e5) ⟨[t0, t1, t2, t2, t4], rfl, upd_same, fun i x hx => ?_⟩
    match i, hx with
    | 0, hx => cases hx; exact e5 _ _ (e4 _ _ (e1 _ _ h0))
    | 1, hx => cases hx; exact e5 _ _ (e4 _ _ h1)
    | 2, hx => cases hx; exact e5 _ _ (e4 _ _ (e1 _ _ (e0 _ _ h2)))
    | 3, hx => cases hx; exact e5 _ _ (e4 _ _ (e1 _ _ (e0 _ _ h2)))
    | 4, hx => cases hx; exact e5 _ _ h4
    | (k + 5), hx => exact nomatch hx
theorem row_of0 : ∀ x0 ∈ C.menuAt 0, ∀ x1 ∈ C.menuAt 1, ∀ x2 ∈ C.menuAt 2, ∀ x3 ∈ C.menuAt 3, ∀ x4 ∈ C.menuAt 4, C.numOf [x0, x1, x2, x3, x4] < 192 ∧ C.rowOf (C.numOf [x0, x1, x2, x3, x4]) = [x0, x1, x2, x3, x4] := by decide +kernel
theorem row_of {ws : List Str} (hl : ws.length = 5) (h : ∀ i x, ws[i]? = some x → x ∈ C.menuAt i) : ∃ m, m < 192 ∧ ws = C.rowOf m := by
  match ws, hl with
  | [x0, x1, x2, x3, x4], _ =>
    obtain ⟨z1, z2⟩ := row_of0 x0 (h 0 x0 rfl) x1 (h 1 x1 rfl) x2 (h 2 x2 rfl) x3 (h 3 x3 rfl) x4 (h 4 x4 rfl)
    exact ⟨_, z1, z2.symm⟩
/-- a row of words as the law draws it -/
def spDrawn : Sp := fun vs H Q _ => ∃ (h c : Addr), vs = [.ref h] ∧ Hand H h c ∧ ∀ H' R m, Stay h c H H' → H R = none → m < 192 → H' R = some (.lst ((C.rowOf m).map V.str)) → Q (.ref R) H'
theorem menu_len : ∀ i : Fin 5, 0 < (C.menuAt i.val).length ∧ (C.menuAt i.val).length ≤ 4 := by decide +kernel
theorem ok_cu {f fdr fwo : Addr} {fd fddr fdwo : FuncData} (F : Fun K "_law_custom" "_law_custom" s__law_custom f fd)
    (Gdr : FnOk P w K mg base CX0 2 fdr fddr ["_law_hand_here", "_law_many"] spDraw) (gdr : mg "_law_draw" = some (.ref fdr)) (kdr : PySem.W.keepIn K (.ref fdr) = true) (bdr : Binds K fddr ["_law_hand_here", "_law_many"] [])
    (Gwo : FnOk P w K mg base CX0 1 fwo fdwo [] spWords) (gwo : mg "_law_words" = some (.ref fwo)) (kwo : PySem.W.keepIn K (.ref fwo) = true) (bwo : Binds K fdwo [] [])
    (m_int : mg "int" = none) (m_len : mg "len" = none) : FnOk P w K mg base CX0 3 f fd ["_law_hand_here"] spDrawn := by
  refine F.ok sc__law_custom (fun vs H Q E h => ?_) (fun cdv A outer s H vs Q E hr h => ?_)
  · obtain ⟨h, c, rfl, _⟩ := h
    rfl
  · obtain ⟨h, c, rfl, hh, q⟩ := h
    refine ⟨_, (pss_cons (ps_set (i := 1) sc__law_custom.nd rfl (by first | exact Or.inl rfl | exact Or.inr rfl) (pe_call Gdr (hr.mono (by decide)) (by rfl) gdr kdr bdr .nil pass0 (pa_cons (pv 0) (pa_cons pe_int pa_nil))))
 (pss_cons (ps_set (i := 2) sc__law_custom.nd rfl (by first | exact Or.inl rfl | exact Or.inr rfl) (pe_lst pa_nil))
 (pss_cons (ps_for PassesOwn.never rfl (pi_list (pe_call0 Gwo (hr.mono (by decide)) (by rfl) gwo kwo bwo .nil pass0)) (pg_name (i := 3) sc__law_custom.nd rfl (by first | exact Or.inl rfl | exact Or.inr rfl))
  (pss_cons (ps_expr (pe_bm PySem.F.plainAttrs_list PySem.F.slot_list_append PySem.F.type_list_append mt_append (pv 2) (pa_cons (pe_ix ix_list (pv 3) (pe_op op_mod (pe_callTy call_int1 (by rfl) m_int boot_int (pa_cons (pv 1) pa_nil)) (pe_callB call_len_seq (by rfl) m_len boot_len (pa_cons (pv 3) pa_nil))) (fun _ _ => rfl)) pa_nil)))
 (pss_one (ps_set (i := 1) sc__law_custom.nd rfl (by first | exact Or.inl rfl | exact Or.inr rfl) (pe_op op_fdiv (pv 1) (pe_callB call_len_seq (by rfl) m_len boot_len (pa_cons (pv 3) pa_nil)))))))
 (pss_one (ps_ret (pv 2)))))), ?_⟩
    refine ⟨_, rfl, h, c, 192, rfl, hh, by decide, by decide, fun H1 r d1 r0 r1 => ?_⟩
    have s1 := Stay.of_drawn hh d1
    refine ⟨by show 0 ≤ sizeLine; decide, fun R nR => ?_⟩
    have hR : upd H1 R (.lst []) R = some (.lst []) := upd_same
    have e2 := al (o := .lst []) nR
    generalize hH2 : upd H1 R (.lst []) = H2 at hR e2 ⊢
    refine ⟨rfl, fun H3 t e3 mn => ?_⟩
    obtain ⟨as, la, ht, hm⟩ := mn
    have e13 := e2.trans e3
    have nR0 : H R = none := s1.free nR
    have nx : ∀ i x, as[i]? = some x → x ≠ R := fun i x hx e => by
      have i5 : i < 5 := by rw [← la]; exact (List.getElem?_eq_some_iff.mp hx).1
      have l0 : 0 < (C.menuAt i).length := (menu_len ⟨i, i5⟩).1
      have z := hm i x hx
      rw [e, e3 _ _ hR] at z
      injection z with z
      injection z with z
      have := congrArg List.length z
      rw [List.length_map] at this
      simp only [List.length_nil] at this
      omega
    have ntR : t ≠ R := fun e => by
      rw [e, e3 _ _ hR] at ht
      injection ht with z
      injection z with z
      have := congrArg List.length z
      rw [List.length_map, la] at this
      cases this
    refine ⟨t, rfl, ⟨_, .inl (.inl ht)⟩, for_list (xs := as.map V.ref) (fun j τ H' => ∃ (ws : List Str) (rest : Int) (y3 : Option V), τ = [some (.ref h), some (.int rest), some (.ref R), y3] ∧ Same H1 H' ∧ H' R = some (.lst (ws.map V.str)) ∧ H' t = some (.lst (as.map V.ref)) ∧ (∀ i x, as[i]? = some x → H' x = some (.lst ((C.menuAt i).map V.str))) ∧ ws.length = j ∧ (∀ i x, ws[i]? = some x → x ∈ C.menuAt i) ∧ 0 ≤ rest ∧ rest < 192) ⟨[], r, none, rfl, e13, e3 _ _ hR, ht, hm, rfl, fun i x hx => (nomatch hx), r0, r1⟩ (fun j τ H' _ pv => ?_) (fun j x τ H' hx pv => ?_) (fun τ H' pv => ?_)⟩
    · obtain ⟨_, _, _, _, _, _, ht', _⟩ := pv
      exact .inl (.inl ht')
    · obtain ⟨ws, rest, y3, rfl, e', hR', ht', hm', lw, inw, z0, z1⟩ := pv
      rw [List.getElem?_map] at hx
      obtain ⟨b, hb, rfl⟩ := Option.map_eq_some_iff.mp hx
      have j5 : j < 5 := by rw [← la]; exact (List.getElem?_eq_some_iff.mp hb).1
      obtain ⟨l0, l4⟩ := menu_len ⟨j, j5⟩
      have l0 : 0 < (C.menuAt j).length := l0
      have l4 : (C.menuAt j).length ≤ 4 := l4
      have hbw := hm' j b hb
      have lm : ((C.menuAt j).map V.str).length = (C.menuAt j).length := List.length_map ..
      obtain ⟨k, hk⟩ : ∃ k : Nat, rest % (((C.menuAt j).map V.str).length : Int) = (k : Nat) := ⟨(rest % (((C.menuAt j).map V.str).length : Int)).toNat, by
        have := Int.emod_nonneg rest (b := (((C.menuAt j).map V.str).length : Int)) (by omega)
        omega⟩
      have kl : k < (C.menuAt j).length := by
        have := Int.emod_lt_of_pos rest (b := (((C.menuAt j).map V.str).length : Int)) (by omega)
        omega
      have at_ : atI ((C.menuAt j).map V.str) (rest % (((C.menuAt j).map V.str).length : Int)) = some (.str (C.menuAt j)[k]) := by
        rw [hk]
        exact atI_nat (j := k) (by rw [List.getElem?_map, List.getElem?_eq_getElem kl]; rfl)
      refine ⟨_, rfl, .inl ⟨rfl, _, .inl (.inl hR')⟩, ?_⟩
      refine ⟨_, rfl, _, rfl, .inl ⟨_, rfl, ?_⟩⟩
      refine ⟨_, rfl, b, _, rfl, .inl (.inl (.inl hbw)), ?_⟩
      refine ⟨_, _, rfl, rfl, by omega, ?_⟩
      refine ⟨b, _, _, _, rfl, rfl, .inl (.inl hbw), at_, ?_⟩
      refine ⟨R, _, _, rfl, rfl, hR', by rw [List.length_map]; exact small1000 (by omega), ?_⟩
      have up : ∀ y o, y ≠ R → H' y = some o → upd H' R (.lst (ws.map V.str ++ [.str (C.menuAt j)[k]])) y = some o := fun y o ny hy => by
        rw [upd_ne ny]
        exact hy
      have hR2 : upd H' R (.lst (ws.map V.str ++ [.str (C.menuAt j)[k]])) R = some (.lst ((ws ++ [(C.menuAt j)[k]]).map V.str)) := by rw [upd_same, List.map_append]; rfl
      have hb2 := up b _ (nx j b hb) hbw
      have ht2 := up t _ ntR ht'
      have e2' : Same H1 (upd H' R (.lst (ws.map V.str ++ [.str (C.menuAt j)[k]]))) := fun y o hy => up y o (ne_of_none hy nR) (e' _ _ hy)
      have hm2 : ∀ i x, as[i]? = some x → upd H' R (.lst (ws.map V.str ++ [.str (C.menuAt j)[k]])) x = some (.lst ((C.menuAt i).map V.str)) := fun i x hx => up x _ (nx i x hx) (hm' i x hx)
      generalize upd H' R (.lst (ws.map V.str ++ [.str (C.menuAt j)[k]])) = H5 at hR2 hb2 ht2 e2' hm2 ⊢
      refine ⟨_, rfl, _, rfl, b, _, rfl, .inl (.inl (.inl hb2)), ?_⟩
      refine ⟨_, _, rfl, rfl, ⟨by omega, by omega⟩, ?_⟩
      refine ⟨ws ++ [(C.menuAt j)[k]], _, _, rfl, e2', hR2, ht2, hm2, by rw [List.length_append, lw]; rfl, fun i x hx => ?_, Int.ediv_nonneg z0 (by omega), Int.lt_of_le_of_lt (Int.ediv_le_self _ z0) z1⟩
      rcases Nat.lt_or_ge i ws.length with lt | ge
      · rw [List.getElem?_append_left lt] at hx
        exact inw i x hx
      · rw [List.getElem?_append_right ge] at hx
        have i0 : i - ws.length = 0 := by
          have := (List.getElem?_eq_some_iff.mp hx).1
          rw [List.length_singleton] at this
          omega
        rw [i0] at hx
        obtain rfl := Option.some.inj hx
        have : i = j := by omega
        subst this
        exact List.getElem_mem kl
    · obtain ⟨ws, rest, y3, rfl, e', hR', ht', hm', lw, inw, z0, z1⟩ := pv
      rw [List.length_map, la] at lw
      obtain ⟨m, hm, rfl⟩ := row_of lw inw
      exact ⟨_, rfl, q H' R m (s1.trans (Stay.of_same d1.hand e')) nR0 hm hR'⟩
structure Tb (K : PySem.W.Frag) (B : Addr) : Prop where
  xfB : XfC K B
  mB : PySem.W.exmOne K (.ref B) (.ref B) = some true
def isBool : V → Bool | .bl _ => true | _ => false
def spNc (a : AdL) (G D N : Addr) : Sp := fun vs H Q _ => ∃ (p q : Addr) (m : Nat) (b0 b1 b2 : Bool) (f l b : Option Nat) (n : Nat) (es : List (Nat × Nat)) (rd : List Nat) (x : V), vs = [.ref p, .ref q, x] ∧ EvIs G D N H p m b0 b1 b2 f l b ∧ LandO a.C H q n es rd ∧ Flat4 x ∧ wholeV x 0 ((n : Nat) - 1) = false ∧ ∀ H', Same H H' → Q (.bl true) H'
theorem ok_nc (T : Tl K mg a) (T3 : Tb K a.B) (TE : To K mg "EveryLand" G evL) {f ffw : Addr} {fd fdfw : FuncData} (F : Fun K "_law_no_cell" "_law_no_cell" s__law_no_cell f fd)
    (mfw : Meth K G "fewest" ffw) (Gfw : FnOk P w K mg base (L2.CX P w) 7 ffw fdfw ["self", "land", "cell"] (spFew a G D N)) (bfw : Binds K fdfw ["self", "land", "cell"] []) (m_isinstance : mg "isinstance" = none) (m_bool : mg "bool" = none) : FnOk P w K mg base CX0 8 f fd ["_law_effect", "_law_land_here", "_law_thing"] (spNc a G D N) := by
  refine F.ok sc__law_no_cell (fun vs H Q E h => ?_) (fun cdv A outer s H vs Q E hr h => ?_)
  · obtain ⟨p, q, m, b0, b1, b2, f, l, b, n, es, rd, x, rfl, _⟩ := h
    rfl
  · obtain ⟨p, q, m, b0, b1, b2, f, l, b, n, es, rd, x, rfl, Ev, Lo, fx, wf, k⟩ := h
    refine ⟨_, (pss_one (ps_try_as (i := 3) rfl rfl sc__law_no_cell.nd rfl rfl ⟨rfl, by decide, .inl T.gB⟩ takes0 (fun W pn xe tk _ => (pss_cons (ps_expr (K7E.pe_methW (pv 0) TE.cl mfw Gfw (hr.mono (by decide)) bfw .nil tk (pa_cons (pv 1) (pa_cons (pv 2) pa_nil))))
 (pss_one (ps_ret pe_bl)))) (fun b oe cls d pn hz hf => (pss_one (ps_ret (pe_and (pe_cmpR op_eq (pe_xf T3.xfB T.nB hz hf (pv 3)) (pv 2) (nomark _)) (pe_one (pe_cmpR op_eq (pe_callB (show CallR _ (.builtin "isinstance") (rIsi K) from call_isi) (by rfl) m_isinstance boot_isinstance (pa_cons (pe_xf T3.xfB T.nB hz hf (pv 3)) (pa_cons (pe_bltn (v := .ty "bool") (by rfl) m_bool boot_bool rfl) pa_nil))) (pe_callB (show CallR _ (.builtin "isinstance") (rIsi K) from call_isi) (by rfl) m_isinstance boot_isinstance (pa_cons (pv 2) (pa_cons (pe_bltn (v := .ty "bool") (by rfl) m_bool boot_bool rfl) pa_nil))) (nomark _))))))))), ?_⟩
    obtain ⟨dx, cu, co, hp, _⟩ := Ev.at_
    refine ⟨_, rfl, p, dx, _, rfl, hp, rfl, _, rfl, _, rfl, p, q, m, b0, b1, b2, f, l, b, n, es, rd, x, rfl, Ev, Lo, .inr ⟨.flat fx, wf, fun H' d e nd hd => ?_⟩⟩
    refine ⟨true, T3.mB, fun _ b hb' => ?_, fun z => nomatch z⟩
    have sx : scal x x = true := by cases fx <;> rfl
    refine ⟨_, rfl, rfl, rfl, d, _, _, rfl, hd, rfl, _, rfl, sx, _, rfl, ?_⟩
    rw [decide_eq_true rfl]
    obtain ⟨ty, ht, hk⟩ : ∃ t : String, (∀ H1, TyX K H1 x (.type t)) ∧ PySem.W.kitOne K (.type t) (.type "bool") = some (isBool x) := by
      cases fx with
      | non => exact ⟨"NoneType", fun _ => .base .non, kit_ty (r := false) (by decide +kernel)⟩
      | bl b => exact ⟨"bool", fun _ => .base (.bl b), kit_ty (r := true) (by decide +kernel)⟩
      | int i => exact ⟨"int", fun _ => .base (.int i), kit_ty (r := false) (by decide +kernel)⟩
      | str z => exact ⟨"str", fun _ => .base (.str z), kit_ty (r := false) (by decide +kernel)⟩
    refine ⟨_, rfl, rfl, rfl, d, _, _, rfl, hd, rfl, x, _, _, _, _, rfl, .ty _, ht _, hk, ?_⟩
    refine ⟨_, rfl, x, _, _, _, _, rfl, .ty _, ht _, hk, rfl, ?_⟩
    rw [decide_eq_true rfl]
    exact k _ e
end
end K7
end
/-! ## P25 -/
section
open PySem PySem.Spec PyProof.Rows L2
namespace K7
abbrev N__law_right : List Str := ["_law_effect", "_law_custom_here", "_law_counted", "_law_land_here", "_law_told", "_law_numbers", "_law_sort_here", "_law_k", "_law_one", "_law_exposed", "_law_cell", "_law_due"]
abbrev s__law_right : Stmt := topS 57
theorem sc__law_right : FnScope ["_law_effect", "_law_custom_here", "_law_counted", "_law_land_here", "_law_told", "_law_numbers", "_law_sort_here", "_law_k", "_law_one", "_law_exposed", "_law_cell", "_law_due"] ["_law_effect", "_law_custom_here", "_law_counted", "_law_land_here", "_law_told"] (defScope s__law_right) := ⟨rfl, rfl, rfl, by decide +kernel, rfl, by decide +kernel, by decide +kernel⟩
def threeS : List Str := ["far", "loose", "bound"]
theorem few_num : ∀ (n : Fin 192) (b0 b1 b2 : Bool), ∀ z ∈ threeS, few n.val b0 b1 b2 z = numOf z (few n.val b0 b1 b2 "far") (few n.val b0 b1 b2 "loose") (few n.val b0 b1 b2 "bound") := by decide +kernel
theorem no_beside : ∀ (n : Fin 192) (b0 b1 b2 : Bool), inV (.str "beside") ((C.rowOf n.val).map V.str) = false → few n.val b0 b1 b2 "far" = few n.val b0 b1 b2 "loose" ∧ few n.val b0 b1 b2 "loose" = few n.val b0 b1 b2 "bound" := by decide +kernel
def optD : Option Nat → PyData
  | none => .none
  | some k => .int (k : Nat)
theorem opt_dp {K : PySem.W.Frag} {H : Hp} (o : Option Nat) : Dp K H (optV o) (optD o) := by
  cases o with
  | none => exact .non
  | some k => exact .int _
theorem opt3_shaped (f l b : Option Nat) : SeqAt.shaped (.list [optD f, optD l, optD b]) = true := by
  cases f <;> cases l <;> cases b <;> rfl
theorem opt3_eqv (f l b : Option Nat) : PyData.eqv (.list [optD f, optD l, optD b]) (.list [.none, .none, .none]) = (f.isNone && (l.isNone && b.isNone)) := by
  cases f <;> cases l <;> cases b <;> simp [PyData.eqv, PyData.eqvAll, optD]
theorem opt3_in (f l b : Option Nat) : (!inV .non [optV f, optV l, optV b]) = (f.isSome && (l.isSome && b.isSome)) := by
  cases f <;> cases l <;> cases b <;> rfl
theorem opt_scal (x y : Option Nat) : scal (optV x) (optV y) = true := by cases x <;> cases y <;> rfl
theorem opt3_flat (f l b : Option Nat) : [optV f, optV l, optV b].all flatV = true := by cases f <;> cases l <;> cases b <;> rfl
section
variable {P : Program} {w : World} {K : PySem.W.Frag} {mg : Str → Option Value} {base : Heap} {a : AdL} {G N : Addr} {ac : C.Ad}
def spRight (a : AdL) (G D N : Addr) : Sp := fun vs H Q _ => ∃ (p r ct q0 q : Addr) (m : Nat) (b0 b1 b2 : Bool) (n : Nat) (es : List (Nat × Nat)) (lot : List Nat), vs = [.ref p, .ref r, .ref ct, .ref q0, .ref q] ∧ EvIs G D N H p m b0 b1 b2 (few m b0 b1 b2 "far") (few m b0 b1 b2 "loose") (few m b0 b1 b2 "bound") ∧
  m < 192 ∧ H r = some (.lst ((C.rowOf m).map V.str)) ∧ H ct = some (.tup [.bl b0, .bl b1, .bl b2]) ∧ LandAt H q0 n es lot ∧ n ≤ 5 ∧ es.length ≤ 32 ∧ LandO a.C H q n es lot ∧ ∀ H', Same H H' → Q (.bl true) H'
theorem ok_rt (TE : To K mg "EveryLand" G evL) (TD : To K mg "Custom" ac.C C.fields) (neD : PySem.W.findIn K (.ref ac.C) "__ne__" = some (some (.builtin "object.__ne__"))) {f fnu fma fli ftr fls ffw fex fcE0 fno fev pno0 pev0 : Addr} {fd fdnu fdma fdli fdtr fdls fdfw fdex fdcE fdno fdev : FuncData} (F : Fun K "_law_right" "_law_right" s__law_right f fd)
    (Gnu : FnOk P w K mg base CX0 1 fnu fdnu ["_law_custom_here", "_law_counted", "_law_sort_here"] spNum) (gnu : mg "_law_number" = some (.ref fnu)) (knu : PySem.W.keepIn K (.ref fnu) = true) (bnu : Binds K fdnu ["_law_custom_here", "_law_counted", "_law_sort_here"] [])
    (Gma : FnOk P w K mg base CX0 5 fma fdma ["_law_custom_here"] (spMade ac)) (gma : mg "_law_made" = some (.ref fma)) (kma : PySem.W.keepIn K (.ref fma) = true) (bma : Binds K fdma ["_law_custom_here"] [])
    (Gli : FnOk P w K mg base CX0 1 fli fdli ["_law_told", "_law_due"] spIs) (gli : mg "_law_is" = some (.ref fli)) (kli : PySem.W.keepIn K (.ref fli) = true) (bli : Binds K fdli ["_law_told", "_law_due"] [])
    (Gtr : FnOk P w K mg base CX0 1 ftr fdtr ["_law_told", "_law_due"] spTruth) (gtr : mg "_law_truth" = some (.ref ftr)) (ktr : PySem.W.keepIn K (.ref ftr) = true) (btr : Binds K fdtr ["_law_told", "_law_due"] [])
    (Gls : FnOk P w K mg base CX0 3 fls fdls ["_law_land_here", "_law_cell"] spLSort) (gls : mg "_law_sort" = some (.ref fls)) (kls : PySem.W.keepIn K (.ref fls) = true) (bls : Binds K fdls ["_law_land_here", "_law_cell"] [])
    (mfw : Meth K G "fewest" ffw) (Gfw : FnOk P w K mg base (L2.CX P w) 7 ffw fdfw ["self", "land", "cell"] (spFew a G ac.C N)) (bfw : Binds K fdfw ["self", "land", "cell"] [])
    (mex : Meth K G "exposed" fex) (Gex : FnOk P w K mg base CX0 8 fex fdex ["self", "land"] (spExp a G ac.C N)) (bex : Binds K fdex ["self", "land"] [])
    (GcE : FnOk P w K mg base CX0 1 fcE0 fdcE ["self", "other"] (C.spEqC K ac)) (fcE : PySem.W.findIn K (.ref ac.C) "__eq__" = some (some (.ref fcE0))) (icE : PySem.W.isFn K (.ref fcE0) = true) (bcE : Binds K fdcE ["self", "other"] [])
    (pno : PropOf K G "nowhere" pno0 fno) (Gno : FnOk P w K mg base CX0 1 fno fdno ["self"] (spNo G ac.C N)) (bno : Binds K fdno ["self"] [])
    (pev : PropOf K G "everywhere" pev0 fev) (Gev : FnOk P w K mg base CX0 1 fev fdev ["self"] (spEv G ac.C N)) (bev : Binds K fdev ["self"] [])
    (m_isinstance : mg "isinstance" = none) (m_enumerate : mg "enumerate" = none) (m_range : mg "range" = none) (m_tuple : mg "tuple" = none) : FnOk P w K mg base CX0 9 f fd ["_law_effect", "_law_custom_here", "_law_counted", "_law_land_here", "_law_told"] (spRight a G ac.C N) := by
  refine F.ok sc__law_right (fun vs H Q E h => ?_) (fun cdv A outer s H vs Q E hr h => ?_)
  · obtain ⟨p, r, ct, q0, q, m, b0, b1, b2, n, es, lot, rfl, _⟩ := h
    rfl
  · obtain ⟨p, r, ct, q0, q, m, b0, b1, b2, n, es, lot, rfl, Ev, hm, hr', hct, La, n5, e32, Lo, k⟩ := h
    refine ⟨_, (Evl.pss_cut (ps_setLc (i := 5) (own := [("_law_sort_here", 6)]) (g := gName 6) (tt := tYes) rfl sc__law_right.nd rfl rfl (sw_true rfl rfl rfl (by decide +kernel)) (pi_list (pe_lst (pa_cons pe_str (pa_cons pe_str (pa_cons pe_str pa_nil))))) (blkOk_by (own := [("_law_sort_here", 6)]) (N := N__law_right) (sc := defScope s__law_right) (by decide +kernel)) (fun _ _ _ _ _ => (pg_name (i := 6) sc__law_right.nd rfl (by first | exact Or.inl rfl | exact Or.inr rfl))) (fun _ _ _ _ _ => pts_nil) (fun _ _ _ _ _ => (pe_call Gnu (hr.mono (by decide)) (by rfl) gnu knu bnu .nil pass0 (pa_cons (pv 1) (pa_cons (pv 2) (pa_cons (pv 6) pa_nil))))))
 (Evl.pss_cut (ps_if (pw_or (pt_not (pt_val (pe_callB call_isi (by rfl) m_isinstance boot_isinstance (pa_cons (pv 0) (pa_cons (pe_glob (v := .ref _) (by rfl) TE.g rfl) pa_nil))))) (pw_or1 (pt_cmpR (K7E.op_neOwn GcE neD TD.hm fcE icE bcE (hr.mono (by decide)) pass0) (pe_fld (pv 0) rfl) (pe_call Gma (hr.mono (by decide)) (by rfl) gma kma bma .nil pass0 (pa_cons (pv 1) pa_nil)) (nomark _)))).pt
  (pss_one (ps_ret pe_bl))
  pss_nil)
 (Evl.pss_cut (ps_for PassesOwn.never rfl (pi_enum (by rfl) m_enumerate (pa_cons (pe_lst (pa_cons (pe_fld (pv 0) rfl) (pa_cons (pe_fld (pv 0) rfl) (pa_cons (pe_fld (pv 0) rfl) pa_nil)))) pa_nil)) (pg_tup rfl (pgs_cons (pg_name (i := 7) sc__law_right.nd rfl (by first | exact Or.inl rfl | exact Or.inr rfl)) (pgs_cons (pg_name (i := 8) sc__law_right.nd rfl (by first | exact Or.inl rfl | exact Or.inr rfl)) pgs_nil)))
  (pss_one (ps_if (pt_not (pt_val (pe_call Gli (hr.mono (by decide)) (by rfl) gli kli bli .nil pass0 (pa_cons (pv 8) (pa_cons (pe_ix ix_list (pv 5) (pv 7) (fun _ _ => rfl)) pa_nil)))))
  (pss_one (ps_ret pe_bl))
  pss_nil)))
 (Evl.pss_cut (ps_if (pw_and (pt_cmpR op_notIn_seq pe_str (pv 1) (by with_unfolding_all rfl)) (pw_and1 (pw_or (pt_cmpR op_ne (pe_ix ix_list (pv 5) pe_int (fun _ _ => rfl)) (pe_ix ix_list (pv 5) pe_int (fun _ _ => rfl)) (nomark _)) (pw_or1 (pt_cmpR op_ne (pe_ix ix_list (pv 5) pe_int (fun _ _ => rfl)) (pe_ix ix_list (pv 5) pe_int (fun _ _ => rfl)) (nomark _)))).pt)).pt
  (pss_one (ps_ret pe_bl))
  pss_nil)
 (Evl.pss_cut (ps_if (pw_or (pt_not (pt_val (pe_call Gtr (hr.mono (by decide)) (by rfl) gtr ktr btr .nil pass0 (pa_cons (pe_prop (pv 0) TE.cl pno Gno (hr.mono (by decide)) bno .nil pass0 rfl) (pa_cons (pe_cmpR (op_eqD hr.units) (pv 5) (pe_lst (pa_cons pe_non (pa_cons pe_non (pa_cons pe_non pa_nil)))) (nomark _)) pa_nil))))) (pw_or1 (pt_not (pt_val (pe_call Gtr (hr.mono (by decide)) (by rfl) gtr ktr btr .nil pass0 (pa_cons (pe_prop (pv 0) TE.cl pev Gev (hr.mono (by decide)) bev .nil pass0 rfl) (pa_cons (pe_cmpR op_notIn_seq pe_non (pv 5) (by with_unfolding_all rfl)) pa_nil))))))).pt
  (pss_one (ps_ret pe_bl))
  pss_nil)
 (Evl.pss_cut (ps_set (i := 9) sc__law_right.nd rfl (by first | exact Or.inl rfl | exact Or.inr rfl) (pe_lst pa_nil))
 (Evl.pss_cut (ps_for PassesOwn.never rfl (pi_range1 rfl m_range (pa_cons (pe_ix ix_tup (pv 3) pe_int (fun _ _ => rfl)) pa_nil)) (pg_name (i := 10) sc__law_right.nd rfl (by first | exact Or.inl rfl | exact Or.inr rfl))
  (pss_cons (ps_set (i := 6) sc__law_right.nd rfl (by first | exact Or.inl rfl | exact Or.inr rfl) (pe_call Gls (hr.mono (by decide)) (by rfl) gls kls bls .nil pass0 (pa_cons (pv 3) (pa_cons (pv 10) pa_nil))))
 (pss_cons (ps_set (i := 11) sc__law_right.nd rfl (by first | exact Or.inl rfl | exact Or.inr rfl) (pe_ifExp (pt_cmpR op_eq (pv 6) pe_str (nomark _)) pe_non (pe_call Gnu (hr.mono (by decide)) (by rfl) gnu knu bnu .nil pass0 (pa_cons (pv 1) (pa_cons (pv 2) (pa_cons (pv 6) pa_nil))))))
 (pss_cons (ps_if (pt_not (pt_val (pe_call Gli (hr.mono (by decide)) (by rfl) gli kli bli .nil pass0 (pa_cons (pe_meth (pv 0) TE.cl mfw Gfw (hr.mono (by decide)) bfw .nil passL (pa_cons (pv 4) (pa_cons (pv 10) pa_nil))) (pa_cons (pv 11) pa_nil)))))
  (pss_one (ps_ret pe_bl))
  pss_nil)
 (pss_one (ps_if (pt_cmpR op_notN (pv 11) pe_non (nomark _))
  (pss_one (ps_expr (pe_bm PySem.F.plainAttrs_list PySem.F.slot_list_append PySem.F.type_list_append mt_append (pv 9) (pa_cons (pv 10) pa_nil))))
  pss_nil))))))
 (pss_one (ps_ret (pe_cmpR (op_eqD hr.units) (pe_meth (pv 0) TE.cl mex Gex (hr.mono (by decide)) bex .nil pass0 (pa_cons (pv 4) pa_nil)) (pe_callTy call_tuple_of (by rfl) m_tuple boot_tuple (pa_cons (pv 9) pa_nil)) (nomark _))))))))))), ?_⟩
    have fz : ∀ z : Str, z ∈ threeS → Q (.bl true) H → True := fun _ _ _ => trivial
    obtain ⟨dx, cu, co, hp, hcu, hco⟩ := Ev.at_
    -- the numbers
    refine ⟨fun τ H' => ∃ (X : Addr) (y6 : Option V), τ = [some (.ref p), some (.ref r), some (.ref ct), some (.ref q0), some (.ref q), some (.ref X), y6, none, none, none, none, none] ∧ Same H H' ∧ H' X = some (.lst (threeS.map fun z => optV (few m b0 b1 b2 z))), ?_, fun τ H1 hM => ?_⟩
    · refine ⟨by show 3 ≤ sizeLine; decide, fun t nt => ?_⟩
      have e1 := al (o := .lst [.str "far", .str "loose", .str "bound"]) nt
      have ht : upd H t (.lst [.str "far", .str "loose", .str "bound"]) t = some (.lst (threeS.map V.str)) := upd_same
      generalize upd H t (.lst [.str "far", .str "loose", .str "bound"]) = H1 at e1 ht ⊢
      refine ⟨t, rfl, ⟨_, .inl (.inl ht)⟩, fun X hX => lc_list (xs := threeS.map V.str) (fun j H2 => Same H1 H2 ∧ H2 X = some (.lst ((threeS.take j).map fun z => optV (few m b0 b1 b2 z)))) ⟨al hX, upd_same⟩ (fun j H2 _ pv => .inl (.inl (pv.1 _ _ ht))) (fun j y H2 hy pv => ?_) (fun H2 pv => ?_)⟩
      · obtain ⟨e2, h2⟩ := pv
        rw [List.getElem?_map] at hy
        obtain ⟨z, hz, rfl⟩ := Option.map_eq_some_iff.mp hy
        have e12 := e1.trans e2
        refine ⟨rfl, _, rfl, _, rfl, _, rfl, r, ct, z, m, b0, b1, b2, rfl, hm, e12 _ _ hr', e12 _ _ hct, List.mem_of_getElem? hz, fun H3 e3 => ?_⟩
        refine ⟨_, e3 _ _ h2, by rw [List.length_map, List.length_take]; exact small1000 (Nat.le_trans (Nat.min_le_right ..) (by decide)), fun y o hy => ?_, ?_⟩
        · rw [upd_ne (ne_of_none hy hX)]
          exact e3 _ _ (e2 _ _ hy)
        · rw [upd_same, List.take_add_one, hz, List.map_append]
          rfl
      · obtain ⟨e2, h2⟩ := pv
        exact ⟨X, _, rfl, e1.trans e2, h2⟩
    · obtain ⟨X, y6, rfl, e1, hX⟩ := hM
      -- its custom
      refine ⟨fun τ H' => τ = [some (.ref p), some (.ref r), some (.ref ct), some (.ref q0), some (.ref q), some (.ref X), y6, none, none, none, none, none] ∧ Same H H' ∧ H' X = some (.lst (threeS.map fun z => optV (few m b0 b1 b2 z))), ?_, fun τ H2 hM => ?_⟩
      · refine ⟨_, rfl, _, _, _, _, _, rfl, .own _, .base (.ins (e1 _ _ hp) TE.cl TE.ha TE.hn TE.ht TE.hm), TE.own, true, rfl, ?_⟩
        refine iteFo rfl ?_
        refine ⟨.ref p, rfl, p, G, dx, _, _, rfl, e1 _ _ hp, TE.cl, TE.nA _ (by decide), rfl, ?_⟩
        refine ⟨_, rfl, r, m, rfl, hm, e1 _ _ hr', fun H3 c' e3 hc' => ?_⟩
        have e13 := e1.trans e3
        obtain ⟨_, d1, t1, g1, _⟩ := hcu.same e13
        obtain ⟨_, d2, t2, g2, _⟩ := id hc'
        refine ⟨cu, _, _, c', _, rfl, rfl, g1, .base (.ins g2 TD.cl TD.ha TD.hn TD.ht TD.hm), by simp [PySem.W.notFirst], cu, c', m, rfl, hcu.same e13, .inl ⟨m, hc', ?_⟩⟩
        refine ⟨_, rfl, _, rfl, ?_⟩
        rw [decide_eq_true rfl]
        exact iteFo rfl ⟨rfl, e13, e3 _ _ hX⟩
      · obtain ⟨rfl, e2, hX2⟩ := hM
        generalize hF : few m b0 b1 b2 "far" = F0 at Ev hp
        generalize hL : few m b0 b1 b2 "loose" = F1 at Ev hp
        generalize hB : few m b0 b1 b2 "bound" = F2 at Ev hp
        have hX3 : (threeS.map fun z => optV (few m b0 b1 b2 z)) = [optV F0, optV F1, optV F2] := by rw [← hF, ← hL, ← hB]; rfl
        rw [hX3] at hX2
        -- each number
        refine ⟨fun τ H' => ∃ y7 y8, τ = [some (.ref p), some (.ref r), some (.ref ct), some (.ref q0), some (.ref q), some (.ref X), y6, y7, y8, none, none, none] ∧ Same H H' ∧ H' X = some (.lst [optV F0, optV F1, optV F2]), ?_, fun τ H3 hM => ?_⟩
        · refine ⟨.ref p, rfl, p, G, dx, _, _, rfl, e2 _ _ hp, TE.cl, TE.nA _ (by decide), rfl, .ref p, rfl, p, G, dx, _, _, rfl, e2 _ _ hp, TE.cl, TE.nA _ (by decide), rfl, .ref p, rfl, p, G, dx, _, _, rfl, e2 _ _ hp, TE.cl, TE.nA _ (by decide), rfl, by show 3 ≤ sizeLine; decide, fun L nL => ?_⟩
          have eL := al (o := .lst [optV F0, optV F1, optV F2]) nL
          refine ⟨L, _, rfl, .inl (.inl upd_same), for_it (walk_enum (xs := [optV F0, optV F1, optV F2])) (fun i τ H' => ∃ y7 y8, τ = [some (.ref p), some (.ref r), some (.ref ct), some (.ref q0), some (.ref q), some (.ref X), y6, y7, y8, none, none, none] ∧ Same (upd H2 L (.lst [optV F0, optV F1, optV F2])) H') ⟨none, none, rfl, Same.refl _⟩ (fun i σ H' _ pv => ?_) (fun i v σ H' H'' hi pv y => ?_) (fun σ H' pv => ?_)⟩
          · obtain ⟨_, _, _, e⟩ := pv
            exact .inl (.inl (e _ _ upd_same))
          · obtain ⟨y7, y8, rfl, e⟩ := pv
            obtain ⟨T, x, y, rfl, nT, rfl, ex, ey⟩ := y
            obtain rfl : .int (i : Nat) = x := Option.some.inj ex
            have ey : ([optV F0, optV F1, optV F2] : List V)[i]? = some y := ey
            have e5 := e.trans (al (o := .tup [.int (i : Nat), y]) nT)
            refine ⟨T, _, rfl, .inl (.inl upd_same), rfl, _, _, rfl, _, _, rfl, rfl, ?_⟩
            have hX5 := e5 _ _ (eL _ _ hX2)
            obtain ⟨o, rfl⟩ : ∃ o, y = optV o := by
              match i, ey with
              | 0, ey => exact ⟨F0, (Option.some.inj ey).symm⟩
              | 1, ey => exact ⟨F1, (Option.some.inj ey).symm⟩
              | 2, ey => exact ⟨F2, (Option.some.inj ey).symm⟩
              | (k + 3), ey => exact nomatch ey
            refine ⟨_, rfl, _, rfl, _, rfl, X, _, _, _, rfl, rfl, .inl (.inl hX5), atI_nat ey, ?_⟩
            refine ⟨o, o, rfl, _, rfl, ?_⟩
            rw [decide_eq_true rfl]
            exact iteFo rfl ⟨_, _, rfl, e5⟩
          · obtain ⟨y7, y8, rfl, e⟩ := pv
            exact ⟨y7, y8, rfl, (e2.trans eL).trans e, e _ _ (eL _ _ hX2)⟩
        · obtain ⟨y7, y8, rfl, e3, hX4⟩ := hM
          -- no clause beside a cell
          refine ⟨fun τ H' => τ = [some (.ref p), some (.ref r), some (.ref ct), some (.ref q0), some (.ref q), some (.ref X), y6, y7, y8, none, none, none] ∧ Same H H' ∧ H' X = some (.lst [optV F0, optV F1, optV F2]), ?_, fun τ H4 hM => ?_⟩
          · have flr : ((C.rowOf m).map V.str).all flatV = true := by
              rw [List.all_eq_true]
              intro x hx
              obtain ⟨y, _, rfl⟩ := List.mem_map.mp hx
              rfl
            refine ⟨_, rfl, r, _, rfl, .inl (.inl (.inl (e3 _ _ hr'))), rfl, flr, _, rfl, ?_⟩
            change if (!inV (.str "beside") ((C.rowOf m).map V.str)) = true then _ else _
            refine iteB (fun h => ?_) (fun h => ?_)
            · have hb : inV (.str "beside") ((C.rowOf m).map V.str) = false := by simpa using h
              obtain ⟨z1, z2⟩ := no_beside ⟨m, hm⟩ b0 b1 b2 hb
              have z1 : few m b0 b1 b2 "far" = few m b0 b1 b2 "loose" := z1
              have z2 : few m b0 b1 b2 "loose" = few m b0 b1 b2 "bound" := z2
              rw [hF, hL] at z1
              rw [hL, hB] at z2
              refine ⟨_, rfl, X, _, _, _, rfl, rfl, .inl (.inl hX4), atI_nat (j := 0) rfl, ?_⟩
              refine ⟨_, rfl, X, _, _, _, rfl, rfl, .inl (.inl hX4), atI_nat (j := 1) rfl, opt_scal _ _, _, rfl, ?_⟩
              rw [show decide (optV F0 = optV F1) = true from decide_eq_true (by rw [z1])]
              refine iteFo rfl ?_
              refine ⟨_, rfl, X, _, _, _, rfl, rfl, .inl (.inl hX4), atI_nat (j := 1) rfl, ?_⟩
              refine ⟨_, rfl, X, _, _, _, rfl, rfl, .inl (.inl hX4), atI_nat (j := 2) rfl, opt_scal _ _, _, rfl, ?_⟩
              rw [show decide (optV F1 = optV F2) = true from decide_eq_true (by rw [z2])]
              exact ⟨rfl, e3, hX4⟩
            · exact iteFo rfl ⟨rfl, e3, hX4⟩
          · obtain ⟨rfl, e4, hX5⟩ := hM
            have Ev4 : ∀ H', Same H H' → EvIs G ac.C N H' p m b0 b1 b2 F0 F1 F2 := fun H' e => Ev.same e
            -- nowhere, everywhere
            refine ⟨fun τ H' => τ = [some (.ref p), some (.ref r), some (.ref ct), some (.ref q0), some (.ref q), some (.ref X), y6, y7, y8, none, none, none] ∧ Same H H' ∧ H' X = some (.lst [optV F0, optV F1, optV F2]), ?_, fun τ H5 hM => ?_⟩
            · refine ⟨_, rfl, p, dx, _, rfl, e4 _ _ hp, p, m, b0, b1, b2, F0, F1, F2, rfl, Ev4 _ e4, ?_⟩
              refine ⟨_, rfl, by show 3 ≤ sizeLine; decide, fun t nt => ?_⟩
              have e5 := al (o := .lst [V.non, V.non, V.non]) nt
              refine ⟨.list [optD F0, optD F1, optD F2], .list [.none, .none, .none], .lst (.inl (.inl (e5 _ _ hX5))) (.cons (opt_dp _) (.cons (opt_dp _) (.cons (opt_dp _) .nil))), .lst (.inl (.inl upd_same)) (.cons .non (.cons .non (.cons .non .nil))), opt3_shaped _ _ _, by decide +kernel, ?_⟩
              rw [opt3_eqv]
              refine ⟨_, _, rfl, _, rfl, ?_⟩
              rw [decide_eq_true rfl]
              refine iteFo rfl ?_
              have e45 := e4.trans e5
              refine ⟨_, rfl, p, dx, _, rfl, e45 _ _ hp, p, m, b0, b1, b2, F0, F1, F2, rfl, Ev4 _ e45, ?_⟩
              refine ⟨_, rfl, X, _, rfl, .inl (.inl (.inl (e5 _ _ hX5))), rfl, opt3_flat _ _ _, ?_⟩
              refine ⟨(F0.isSome && (F1.isSome && F2.isSome)), (F0.isSome && (F1.isSome && F2.isSome)), congrArg (fun z => [V.bl (F0.isSome && (F1.isSome && F2.isSome)), V.bl z]) (opt3_in F0 F1 F2), _, rfl, ?_⟩
              rw [decide_eq_true rfl]
              exact iteFo rfl ⟨rfl, e45, e5 _ _ hX5⟩
            · obtain ⟨rfl, e5, hX6⟩ := hM
              -- the cells
              refine ⟨fun τ H' => ∃ U, τ = [some (.ref p), some (.ref r), some (.ref ct), some (.ref q0), some (.ref q), some (.ref X), y6, y7, y8, some (.ref U), none, none] ∧ Same H H' ∧ H U = none ∧ H' U = some (.lst []), ?_, fun τ H6 hM => ?_⟩
              · refine ⟨by show 0 ≤ sizeLine; decide, fun U nU => ⟨U, rfl, e5.trans (al nU), e5.free nU, upd_same⟩⟩
              · obtain ⟨U, rfl, e6, nU, hU6⟩ := hM
                refine ⟨fun τ H' => ∃ y6 y10 y11, τ = [some (.ref p), some (.ref r), some (.ref ct), some (.ref q0), some (.ref q), some (.ref X), y6, y7, y8, some (.ref U), y10, y11] ∧ Same H H' ∧ H' U = some (.lst (ints_ (expoOf n es lot F0 F1 F2 n))), ?_, fun τ H7 hM => ?_⟩
                · obtain ⟨rA, sA, ts, g1, _⟩ := (La.same e6).at_
                  refine ⟨_, rfl, q0, _, _, _, rfl, rfl, .inl (.inl g1), atI_nat (j := 0) rfl, ?_⟩
                  refine ⟨_, rfl, by omega, by omega, for_range (lo := 0) (n := n) (fun i τ H' => ∃ y6 y10 y11, τ = [some (.ref p), some (.ref r), some (.ref ct), some (.ref q0), some (.ref q), some (.ref X), y6, y7, y8, some (.ref U), y10, y11] ∧ Same H H' ∧ H' U = some (.lst (ints_ (expoOf n es lot F0 F1 F2 i)))) ⟨y6, none, none, rfl, e6, hU6⟩ (fun i τ H' hi pv => ?_) (fun τ H' pv => ?_)⟩
                  · obtain ⟨y6, y10, y11, rfl, e7, hU7⟩ := pv
                    rw [show (0 : Int) + ((i : Nat) : Int) = (i : Nat) from Int.zero_add _]
                    refine ⟨_, rfl, _, rfl, q0, n, es, lot, i, rfl, La.same e7, n5, e32, hi, fun H8 z e8 hz => ?_⟩
                    have e08 := e7.trans e8
                    have hU8 := e8 _ _ hU7
                    refine ⟨_, rfl, rfl, _, rfl, iteB (fun hz1 => ?_) (fun hz1 => ?_)⟩
                    · have zr : z = "road" := by
                        have z1 := of_decide_eq_true hz1
                        injection z1
                      have nr : numOf z F0 F1 F2 = none := by unfold numOf; rw [if_pos zr]
                      refine ⟨_, rfl, p, dx, _, rfl, e08 _ _ hp, rfl, _, rfl, _, rfl, p, q, m, b0, b1, b2, F0, F1, F2, n, es, lot, _, rfl, Ev4 _ e08, Lo.same e08, .inl ⟨i, rfl, hi, fun H10 z' e10 hz' => ?_⟩⟩
                      obtain rfl := hz'.uniq hz
                      refine ⟨_, rfl, numOf z' F0 F1 F2, numOf z' F0 F1 F2, by rw [nr]; rfl, _, rfl, ?_⟩
                      rw [decide_eq_true rfl]
                      refine iteFo rfl ?_
                      have e010 := e08.trans e10
                      have hU10 := e10 _ _ (hU8)
                      have step : expoOf n es lot F0 F1 F2 (i + 1) = expoOf n es lot F0 F1 F2 i ++ (if (numOf z' F0 F1 F2).isSome = true then [i] else []) := by
                        unfold expoOf
                        rw [range_filter, srt_is hz]
                      refine ⟨_, rfl, rfl, _, rfl, ?_⟩
                      change if (!decide (V.non = V.non)) = true then _ else _
                      rw [show (!decide (V.non = V.non)) = (numOf z' F0 F1 F2).isSome by rw [nr]; rfl]
                      refine iteB (fun hs => ?_) (fun hs => ?_)
                      · rw [if_pos hs] at step
                        refine ⟨_, rfl, .inl ⟨rfl, _, .inl (.inl hU10)⟩, _, rfl, U, _, _, rfl, rfl, hU10, by unfold ints_; rw [List.length_map]; exact small1000 (Nat.le_trans (List.length_filter_le _ _) (by rw [List.length_range]; omega)), ?_⟩
                        exact ⟨_, _, _, rfl, fun y o hy => by rw [upd_ne (ne_of_none hy nU)]; exact e010 _ _ hy, by rw [upd_same, step, ints_snoc]⟩
                      · rw [if_neg (Bool.eq_false_iff.mp hs), List.append_nil] at step
                        exact ⟨_, _, _, rfl, e010, by rw [step]; exact hU10⟩
                    · have nzr : z ≠ "road" := fun e => by rw [e] at hz1; exact absurd hz1 (by decide +kernel)
                      have z3 : z ∈ (threeS : List Str) := by
                        rcases hz with h | h | h | h
                        · exact absurd h.2 nzr
                        · rw [h.2.2]; exact List.mem_cons_self ..
                        · rw [h.2.2.2]; exact List.mem_cons_of_mem _ (List.mem_cons_self ..)
                        · rw [h.2.2.2]; exact List.mem_cons_of_mem _ (List.mem_cons_of_mem _ (List.mem_cons_self ..))
                      have nf : few m b0 b1 b2 z = numOf z F0 F1 F2 := by
                        rw [← hF, ← hL, ← hB]
                        exact few_num ⟨m, hm⟩ b0 b1 b2 z z3
                      refine ⟨_, rfl, _, rfl, _, rfl, r, ct, z, m, b0, b1, b2, rfl, hm, e08 _ _ hr', e08 _ _ hct, z3, fun H9 e9 => ?_⟩
                      have e09 := e08.trans e9
                      rw [nf]
                      refine ⟨_, rfl, p, dx, _, rfl, e09 _ _ hp, rfl, _, rfl, _, rfl, p, q, m, b0, b1, b2, F0, F1, F2, n, es, lot, _, rfl, Ev4 _ e09, Lo.same e09, .inl ⟨i, rfl, hi, fun H10 z' e10 hz' => ?_⟩⟩
                      obtain rfl := hz'.uniq hz
                      refine ⟨_, rfl, numOf z' F0 F1 F2, numOf z' F0 F1 F2, rfl, _, rfl, ?_⟩
                      rw [decide_eq_true rfl]
                      refine iteFo rfl ?_
                      have e010 := e09.trans e10
                      have hU10 := e10 _ _ (e9 _ _ hU8)
                      have step : expoOf n es lot F0 F1 F2 (i + 1) = expoOf n es lot F0 F1 F2 i ++ (if (numOf z' F0 F1 F2).isSome = true then [i] else []) := by
                        unfold expoOf
                        rw [range_filter, srt_is hz]
                      refine ⟨_, rfl, rfl, _, rfl, ?_⟩
                      rw [opt_some]
                      refine iteB (fun hs => ?_) (fun hs => ?_)
                      · rw [if_pos hs] at step
                        refine ⟨_, rfl, .inl ⟨rfl, _, .inl (.inl hU10)⟩, _, rfl, U, _, _, rfl, rfl, hU10, by unfold ints_; rw [List.length_map]; exact small1000 (Nat.le_trans (List.length_filter_le _ _) (by rw [List.length_range]; omega)), ?_⟩
                        exact ⟨_, _, _, rfl, fun y o hy => by rw [upd_ne (ne_of_none hy nU)]; exact e010 _ _ hy, by rw [upd_same, step, ints_snoc]⟩
                      · rw [if_neg (Bool.eq_false_iff.mp hs), List.append_nil] at step
                        exact ⟨_, _, _, rfl, e010, by rw [step]; exact hU10⟩
                  · exact pv
                · obtain ⟨y6, y10, y11, rfl, e7, hU7⟩ := hM
                  refine ⟨_, rfl, p, dx, _, rfl, e7 _ _ hp, rfl, _, rfl, p, q, m, b0, b1, b2, F0, F1, F2, n, es, lot, rfl, Ev4 _ e7, Lo.same e7, fun H8 t e8 ht => ?_⟩
                  refine ⟨_, rfl, U, _, rfl, .inl ⟨.inl (.inl (e8 _ _ hU7)), fun t2 nt2 => ?_⟩⟩
                  have e9 := al (o := .tup (ints_ (expoOf n es lot F0 F1 F2 n))) nt2
                  refine ⟨_, _, .tup (.inl (.inl (e9 _ _ ht))) (dp_ints _), .tup (.inl (.inl upd_same)) (dp_ints _), shaped_ints _, shaped_ints _, ?_⟩
                  rw [show PyData.eqv (.tuple ((expoOf n es lot F0 F1 F2 n).map fun c => PyData.int (c : Nat))) (.tuple ((expoOf n es lot F0 F1 F2 n).map fun c => PyData.int (c : Nat))) = true from (eqv_intD _ _).trans (decide_eq_true rfl)]
                  exact k _ ((e7.trans e8).trans e9)
end
end K7
end
/-! ## NL -/
section
open PySem PySem.Spec PyProof.Rows L2
namespace K7
theorem notHand_refs : ∀ ts : List Addr, notHand (ts.map V.ref) = true
  | [] => rfl
  | [_] => rfl
  | [_, _] => rfl
  | [_, _, _] => rfl
  | [_, _, _, _] => rfl
  | _ :: _ :: _ :: _ :: _ :: _ => by rfl
theorem notHand_ints : ∀ ts : List Nat, notHand (ints_ ts) = true
  | [] => rfl
  | [_] => rfl
  | [_, _] => rfl
  | [_, _, _] => rfl
  | [_, _, _, _] => rfl
  | _ :: _ :: _ :: _ :: _ :: _ => by rfl
section
variable {h c : Addr} {H H' : Hp}
theorem Stay.tup {b : Addr} {xs : List V} (x : Stay h c H H') (hb : H b = some (.tup xs)) : H' b = some (.tup xs) := x.but b _ (x.hand0.net hb) hb
theorem Stay.tat (x : Stay h c H H') {ts : List Addr} {ls : List (List Nat)} (t : TAt H ts ls) : TAt H' ts ls := t.mono fun b xs hb => x.tup hb
theorem Stay.la (x : Stay h c H H') {q : Addr} {n : Nat} {es : List (Nat × Nat)} {lot : List Nat} (L : LandAt H q n es lot) : LandAt H' q n es lot := by
  obtain ⟨rA, sA, ts, h1, h2, h3, h4⟩ := L.at_
  exact ⟨⟨rA, sA, ts, x.tup h1, x.lst h2 (notHand_refs _), x.tat h3, x.lst h4 (notHand_ints _)⟩, L.ok, L.lot⟩
theorem Stay.lo (x : Stay h c H H') {C p : Addr} {n : Nat} {es : List (Nat × Nat)} {rd : List Nat} (L : LandO C H p n es rd) : LandO C H' p n es rd := by
  obtain ⟨dx, an, ar, ay, ac, tn, ty, tc, h1, h2, h3, h4, h5, h6, h7, h8⟩ := L.at_
  exact ⟨⟨dx, an, ar, ay, ac, tn, ty, tc, x.but p _ (x.hand0.nei h1) h1, x.tup h2, x.tat h3, x.tup h4, x.tup h5, x.tat h6, x.tup h7, x.tat h8⟩, L.n2, L.n5, L.ok, L.rlt, L.rnd, L.rso, L.r0, L.rn⟩
end
theorem es_len {n : Nat} {es : List (Nat × Nat)} (ok : LandOk n es) (hn : n ≤ 5) : es.length ≤ 32 := by
  have z := K7E.nodup_le es ((List.range 5).flatMap fun a => (List.range 5).map fun b => (a, b)) ok.nd fun e he => by
    obtain ⟨a, b⟩ := e
    obtain ⟨l1, l2⟩ := ok.lt _ he
    have l1 : a < b := l1
    have l2 : b < n := l2
    exact List.mem_flatMap.mpr ⟨a, List.mem_range.mpr (by omega), List.mem_map.mpr ⟨b, List.mem_range.mpr (by omega), rfl⟩⟩
  have e : ((List.range 5).flatMap fun a => (List.range 5).map fun b => (a, b)).length = 25 := by decide
  rw [e] at z
  omega

section
variable {h c : Addr} {H H' : Hp}
theorem Stay.cu {D p : Addr} {m : Nat} (x : Stay h c H H') (L : C.CustAt D H p m) : C.CustAt D H' p m := by
  obtain ⟨hm, dx, t, h1, h2⟩ := L
  exact ⟨hm, dx, t, x.but p _ (x.hand0.nei h1) h1, x.tup h2⟩
theorem Stay.cnt {C p : Addr} {b0 b1 b2 : Bool} (x : Stay h c H H') (L : CntAt C H p b0 b1 b2) : CntAt C H' p b0 b1 b2 := by
  obtain ⟨dx, h1⟩ := L
  exact ⟨dx, x.but p _ (x.hand0.nei h1) h1⟩
theorem Stay.ev {G D N p : Addr} {m : Nat} {b0 b1 b2 : Bool} {f l b : Option Nat} (x : Stay h c H H') (L : EvIs G D N H p m b0 b1 b2 f l b) : EvIs G D N H' p m b0 b1 b2 f l b := by
  obtain ⟨dx, cu, co, h1, h2, h3⟩ := L.at_
  exact ⟨⟨dx, cu, co, x.but p _ (x.hand0.nei h1) h1, x.cu h2, x.cnt h3⟩⟩
end
theorem new_same {D x dx : Addr} {H1 H' : Hp} (hx : H1 x = none) (hdx : H1 dx = none) (hne : dx ≠ x) (b : But x (upd (upd H1 dx (.own x)) x (.ins D dx [])) H') : Same H1 H' := by
  have e : Same H1 (upd (upd H1 dx (.own x)) x (.ins D dx [])) := same_new (same_new (Same.refl H1) hdx) (by rw [upd_ne hne.symm]; exact hx)
  exact fun y o hy => b y o (ne_of_none hy hx) (e _ _ hy)
def bt0 (k : Nat) : Bool := decide ((4 : Int) ≤ (k : Nat))
def bt1 (k : Nat) : Bool := decide ((2 : Int) ≤ ((k : Nat) : Int) % 4)
def bt2 (k : Nat) : Bool := decide (V.int (((k : Nat) : Int) % 2) = V.int 1)
theorem dec_int (x y : Int) : decide (V.int x = V.int y) = decide (x = y) := decide_eq_decide.mpr ⟨fun e => by injection e, fun e => by rw [e]⟩
theorem bits_eq : ∀ i s : Fin 8, ((decide ((4 : Int) ≤ (i.val : Nat)) = decide ((4 : Int) ≤ (s.val : Nat))) ∧ decide ((2 : Int) ≤ ((i.val : Nat) : Int) % 4) = decide ((2 : Int) ≤ ((s.val : Nat) : Int) % 4) ∧ decide (((i.val : Nat) : Int) % 2 = 1) = decide (((s.val : Nat) : Int) % 2 = 1)) ↔ i.val = s.val := by decide +kernel
theorem same_cnt {m i s : Nat} (hi : i < 8) (hs : s < 8) : decide (m = m ∧ bt0 i = bt0 s ∧ bt1 i = bt1 s ∧ bt2 i = bt2 s) = decide (V.int ((i : Nat) : Int) = V.int ((s : Nat) : Int)) := by
  rw [dec_int]
  refine decide_eq_decide.mpr ?_
  unfold bt0 bt1 bt2
  rw [dec_int, dec_int]
  have z := bits_eq ⟨i, hi⟩ ⟨s, hs⟩
  refine ⟨fun h => congrArg _ (z.mp h.2), fun h => ⟨rfl, z.mpr (Int.ofNat.inj h)⟩⟩
theorem srt_map {n : Nat} {es : List (Nat × Nat)} (ok : LandOk n es) : es.map KL.srt = es := by
  refine (List.map_congr_left fun e he => ?_).trans (List.map_id es)
  exact KL.srt_of (ok.lt e he).1
theorem cos_es {n : Nat} {es : List (Nat × Nat)} (ok : LandOk n es) (hn : n ≤ 5) : Cos n es := by
  refine ⟨fun c hc => ?_, by rw [srt_map ok]; exact ok.nd, es_len ok hn⟩
  obtain ⟨l1, l2⟩ := ok.lt c hc
  exact ⟨by omega, l2, by omega⟩
/-- all that the law holds on to -/
structure Lw (Cl h c q0 p R R1 : Addr) (n : Nat) (es : List (Nat × Nat)) (lot : List Nat) (m m1 : Nat) (H : Hp) : Prop where
  hand : Hand H h c
  la : LandAt H q0 n es lot
  lo : LandO Cl H p n es lot
  r : H R = some (.lst ((C.rowOf m).map V.str))
  r1 : H R1 = some (.lst ((C.rowOf m1).map V.str))
section
variable {Cl h c q0 p R R1 : Addr} {n m m1 : Nat} {es : List (Nat × Nat)} {lot : List Nat} {H H' : Hp}
theorem Lw.stay (x : Lw Cl h c q0 p R R1 n es lot m m1 H) (s : Stay h c H H') : Lw Cl h c q0 p R R1 n es lot m m1 H' := ⟨s.hand, s.la x.la, s.lo x.lo, s.row x.r, s.row x.r1⟩
theorem Lw.same (x : Lw Cl h c q0 p R R1 n es lot m m1 H) (s : Same H H') : Lw Cl h c q0 p R R1 n es lot m m1 H' := x.stay (.of_same x.hand s)
theorem Lw.drawn (x : Lw Cl h c q0 p R R1 n es lot m m1 H) (s : Drawn H H' h c) : Lw Cl h c q0 p R R1 n es lot m m1 H' := x.stay (.of_drawn x.hand s)
end
end K7
end
/-! ## P26 -/
section
open PySem PySem.Spec PyProof.Rows L2
namespace K7
abbrev N_law : List Str := ["_law_script", "_law_hand_here", "_law_custom_here", "_law_other", "_law_land_here", "_law_told", "_law_place", "_law_shift", "_law_first", "_law_k", "_law_counted", "_law_effect", "_law_cell", "_law_sort_here", "_law_due", "_law_plain", "_law_second", "_law_odd"]
abbrev s_law : Stmt := topS 58
theorem sc_law : FnScope ["_law_script", "_law_hand_here", "_law_custom_here", "_law_other", "_law_land_here", "_law_told", "_law_place", "_law_shift", "_law_first", "_law_k", "_law_counted", "_law_effect", "_law_cell", "_law_sort_here", "_law_due", "_law_plain", "_law_second", "_law_odd"] ["_law_script"] (defScope s_law) := ⟨rfl, rfl, rfl, by decide +kernel, rfl, by decide +kernel, by decide +kernel⟩
section
variable {P : Program} {w : World} {K : PySem.W.Frag} {mg : Str → Option Value} {base : Heap} {a : AdL} {G N : Addr} {ac : C.Ad}
def spLaw (K : PySem.W.Frag) : Sp := fun vs H Q _ => ∃ (s : Addr) (ns : List Int), vs = [.ref s] ∧ SqL K H s (ns.map V.int) ∧ ns.length ≤ 63 ∧ ∀ H', Q (.bl true) H'
def sg (pre : List (Option V)) : L2.St := pre ++ List.replicate (18 - pre.length) none
theorem n200' {n : Nat} (h : n ≤ 5) : ((n : Nat) : Int) < 2 ^ 200 := Int.lt_of_le_of_lt (show ((n : Nat) : Int) ≤ 5 by omega) (by decide)
theorem cut_take (ss : List Str) {k : Nat} (h : k ≤ ss.length) : cutV (ss.map V.str) none (some ((k : Nat) : Int)) = (ss.take k).map V.str := by
  have hl : (ss.map V.str).length = ss.length := List.length_map ..
  unfold cutV
  have h1 : HT.sIx (ss.map V.str).length 0 none = 0 := rfl
  have h2 : HT.sIx (ss.map V.str).length (ss.map V.str).length (some ((k : Nat) : Int)) = k := by
    unfold HT.sIx
    have : ¬ ((k : Nat) : Int) < 0 := by omega
    simp only [this, if_false, Int.toNat_natCast, hl]
    omega
  rw [h1, h2, List.drop_zero, Nat.sub_zero, List.map_take]
theorem cut_drop (ss : List Str) {k : Nat} (h : k ≤ ss.length) : cutV (ss.map V.str) (some ((k : Nat) : Int)) none = (ss.drop k).map V.str := by
  have hl : (ss.map V.str).length = ss.length := List.length_map ..
  unfold cutV
  have h1 : HT.sIx (ss.map V.str).length (ss.map V.str).length none = ss.length := hl
  have h2 : HT.sIx (ss.map V.str).length 0 (some ((k : Nat) : Int)) = k := by
    unfold HT.sIx
    have : ¬ ((k : Nat) : Int) < 0 := by omega
    simp only [this, if_false, Int.toNat_natCast, hl]
    omega
  rw [h1, h2, List.take_of_length_le (by rw [List.length_drop, hl]; exact Nat.le_refl _), List.map_drop]
theorem row_put {m k : Nat} {w : Str} (hm : m < 192) (hk : k < 5) (hw : w ∈ C.menuAt k) : ∃ m', m' < 192 ∧ (C.rowOf m).take k ++ [w] ++ (C.rowOf m).drop (k + 1) = C.rowOf m' := by
  have inm : ∀ i x, (C.rowOf m)[i]? = some x → x ∈ C.menuAt i := fun i x hx => by
    have i5 : i < 5 := (List.getElem?_eq_some_iff.mp hx).1
    rw [C.row_get i5] at hx
    obtain rfl := Option.some.inj hx
    exact (C.step_all ⟨m, hm⟩ ⟨i, i5⟩).2
  have l5 : (C.rowOf m).length = 5 := rfl
  obtain ⟨m', hm', e⟩ := row_of (ws := (C.rowOf m).take k ++ [w] ++ (C.rowOf m).drop (k + 1)) (by
    rw [List.length_append, List.length_append, List.length_take, List.length_drop, l5, List.length_singleton]; omega) fun i x hx => by
    rw [List.append_assoc] at hx
    have lt : ((C.rowOf m).take k).length = k := by rw [List.length_take, l5]; omega
    rcases Nat.lt_or_ge i k with h | h
    · rw [List.getElem?_append_left (by rw [lt]; exact h), List.getElem?_take_of_lt h] at hx
      exact inm i x hx
    · rw [List.getElem?_append_right (by rw [lt]; exact h), lt] at hx
      rcases Nat.eq_or_lt_of_le h with h | h
      · subst h
        rw [Nat.sub_self] at hx
        obtain rfl := Option.some.inj hx
        exact hw
      · rw [List.getElem?_append_right (by rw [List.length_singleton]; omega), List.length_singleton, List.getElem?_drop] at hx
        rw [show k + 1 + (i - k - 1) = i by omega] at hx
        exact inm i x hx
  exact ⟨m', hm', e⟩
theorem sort3 {n : Nat} {es : List (Nat × Nat)} {lot : List Nat} {c : Nat} {z : Str} (hz : SortIs n es lot c z) (nzr : z ≠ "road") : z ∈ (threeS : List Str) := by
  rcases hz with h | h | h | h
  · exact absurd h.2 nzr
  · rw [h.2.2]; exact List.mem_cons_self ..
  · rw [h.2.2.2]; exact List.mem_cons_of_mem _ (List.mem_cons_self ..)
  · rw [h.2.2.2]; exact List.mem_cons_of_mem _ (List.mem_cons_of_mem _ (List.mem_cons_self ..))
theorem ok_law (T : Tl K mg a) (TE : To K mg "EveryLand" G evL) (TD : To K mg "Custom" ac.C C.fields) (TN : To K mg "Counted" N cntL) (nfL : PySem.W.notFirst K G (.type "list") = true) (nfD : PySem.W.notFirst K G (.ref ac.C) = true) (neN : PySem.W.findIn K (.ref N) "__ne__" = some (some (.builtin "object.__ne__")))
    {f fha fcu fld fpk fdr frt fnc fma ftr fli fls fwo foa ffd fI fN feE0 fnE0 : Addr} {fd fdha fdcu fdld fdpk fddr fdrt fdnc fdma fdtr fdli fdls fdwo fdoa fdfd fdI fdN fdeE fdnE : FuncData} {dsN dsO : List Value} (F : Fun K "law" "law" s_law f fd)
    (Gha : FnOk P w K mg base CX0 1 fha fdha ["_law_script"] (spHand K)) (gha : mg "_law_hand" = some (.ref fha)) (kha : PySem.W.keepIn K (.ref fha) = true) (bha : Binds K fdha ["_law_script"] [])
    (Gcu : FnOk P w K mg base CX0 3 fcu fdcu ["_law_hand_here"] spDrawn) (gcu : mg "_law_custom" = some (.ref fcu)) (kcu : PySem.W.keepIn K (.ref fcu) = true) (bcu : Binds K fdcu ["_law_hand_here"] [])
    (Gld : FnOk P w K mg base CX0 4 fld fdld ["_law_hand_here", "_law_n"] spLand) (gld : mg "_law_land" = some (.ref fld)) (kld : PySem.W.keepIn K (.ref fld) = true) (bld : Binds K fdld ["_law_hand_here", "_law_n"] [])
    (Gpk : FnOk P w K mg base CX0 3 fpk fdpk ["_law_hand_here", "_law_things"] spPick) (gpk : mg "_law_pick" = some (.ref fpk)) (kpk : PySem.W.keepIn K (.ref fpk) = true) (bpk : Binds K fdpk ["_law_hand_here", "_law_things"] [])
    (Gdr : FnOk P w K mg base CX0 2 fdr fddr ["_law_hand_here", "_law_many"] spDraw) (gdr : mg "_law_draw" = some (.ref fdr)) (kdr : PySem.W.keepIn K (.ref fdr) = true) (bdr : Binds K fddr ["_law_hand_here", "_law_many"] [])
    (Grt : FnOk P w K mg base CX0 9 frt fdrt ["_law_effect", "_law_custom_here", "_law_counted", "_law_land_here", "_law_told"] (spRight a G ac.C N)) (grt : mg "_law_right" = some (.ref frt)) (krt : PySem.W.keepIn K (.ref frt) = true) (brt : Binds K fdrt ["_law_effect", "_law_custom_here", "_law_counted", "_law_land_here", "_law_told"] [])
    (Gnc : FnOk P w K mg base CX0 8 fnc fdnc ["_law_effect", "_law_land_here", "_law_thing"] (spNc a G ac.C N)) (gnc : mg "_law_no_cell" = some (.ref fnc)) (knc : PySem.W.keepIn K (.ref fnc) = true) (bnc : Binds K fdnc ["_law_effect", "_law_land_here", "_law_thing"] [])
    (Gma : FnOk P w K mg base CX0 5 fma fdma ["_law_custom_here"] (spMade ac)) (gma : mg "_law_made" = some (.ref fma)) (kma : PySem.W.keepIn K (.ref fma) = true) (bma : Binds K fdma ["_law_custom_here"] [])
    (Gtr : FnOk P w K mg base CX0 1 ftr fdtr ["_law_told", "_law_due"] spTruth) (gtr : mg "_law_truth" = some (.ref ftr)) (ktr : PySem.W.keepIn K (.ref ftr) = true) (btr : Binds K fdtr ["_law_told", "_law_due"] [])
    (Gli : FnOk P w K mg base CX0 1 fli fdli ["_law_told", "_law_due"] spIs) (gli : mg "_law_is" = some (.ref fli)) (kli : PySem.W.keepIn K (.ref fli) = true) (bli : Binds K fdli ["_law_told", "_law_due"] [])
    (Gls : FnOk P w K mg base CX0 3 fls fdls ["_law_land_here", "_law_cell"] spLSort) (gls : mg "_law_sort" = some (.ref fls)) (kls : PySem.W.keepIn K (.ref fls) = true) (bls : Binds K fdls ["_law_land_here", "_law_cell"] [])
    {fnu : Addr} {fdnu : FuncData} (Gnu : FnOk P w K mg base CX0 1 fnu fdnu ["_law_custom_here", "_law_counted", "_law_sort_here"] spNum) (gnu : mg "_law_number" = some (.ref fnu)) (knu : PySem.W.keepIn K (.ref fnu) = true) (bnu : Binds K fdnu ["_law_custom_here", "_law_counted", "_law_sort_here"] [])
    (Gwo : FnOk P w K mg base CX0 1 fwo fdwo [] spWords) (gwo : mg "_law_words" = some (.ref fwo)) (kwo : PySem.W.keepIn K (.ref fwo) = true) (bwo : Binds K fdwo [] [])
    (Goa : FnOk P w K mg base CX0 4 foa fdoa ["custom", "counted"] (spOal G ac.C N)) (goa : mg "on_all_lands" = some (.ref foa)) (koa : PySem.W.keepIn K (.ref foa) = true) (boa : Binds K fdoa ["custom", "counted"] []) (voa1 : Vals [.non] dsO) (boa1 : Binds K fdoa ["custom", "counted"] dsO)
    (Gfd : FnOk P w K mg base CX0 8 ffd fdfd ["land", "custom", "cell", "counted"] (spFdd a ac.C N)) (gfd : mg "fewest_deeds" = some (.ref ffd)) (kfd : PySem.W.keepIn K (.ref ffd) = true) (bfd : Binds K fdfd ["land", "custom", "cell", "counted"] [])
    (MC : Mk K a.C fI) (GI : FnOk P w K mg base CX0 5 fI fdI ["self", "cells", "neighbours", "roads"] (spLandI a)) (bI : Binds K fdI ["self", "cells", "neighbours", "roads"] [])
    (MN : Mk K N fN) (GN : FnOk P w K mg base CX0 1 fN fdN ["self", "grants", "untold", "giving_up"] (spCtI N)) (bN : Binds K fdN ["self", "grants", "untold", "giving_up"] []) (vN0 : Vals [.bl true, .bl true, .bl false] dsN) (bN0 : Binds K fdN ["self", "grants", "untold", "giving_up"] dsN)
    (GeE : FnOk P w K mg base CX0 3 feE0 fdeE ["self", "other"] (spEvE G ac.C N)) (feE : PySem.W.findIn K (.ref G) "__eq__" = some (some (.ref feE0))) (ieE : PySem.W.isFn K (.ref feE0) = true) (beE : Binds K fdeE ["self", "other"] [])
    (GnE : FnOk P w K mg base CX0 1 fnE0 fdnE ["self", "other"] (spCtE N)) (fnE : PySem.W.findIn K (.ref N) "__eq__" = some (some (.ref fnE0))) (inE : PySem.W.isFn K (.ref fnE0) = true) (bnE : Binds K fdnE ["self", "other"] [])
    (m_list : mg "list" = none) (m_range : mg "range" = none) : FnOk P w K mg base CX0 10 f fd ["_law_script"] (spLaw K) := by
  refine F.ok sc_law (fun vs H Q E h => ?_) (fun cdv A outer s H vs Q E hr h => ?_)
  · obtain ⟨s, ns, rfl, _⟩ := h
    rfl
  · obtain ⟨s0, ns, rfl, hS, hl, q⟩ := h
    refine ⟨_, (pss_cons (ps_set (i := 1) sc_law.nd rfl (by first | exact Or.inl rfl | exact Or.inr rfl) (pe_call Gha (hr.mono (by decide)) (by rfl) gha kha bha .nil pass0 (pa_cons (pv 0) pa_nil)))
 (pss_cons (ps_par (by rfl) sc_law.nd (i := 2) (j := 3) rfl rfl (by decide) rfl rfl (pa_cons (pe_call Gcu (hr.mono (by decide)) (by rfl) gcu kcu bcu .nil pass0 (pa_cons (pv 1) pa_nil)) (pa_cons (pe_call Gcu (hr.mono (by decide)) (by rfl) gcu kcu bcu .nil pass0 (pa_cons (pv 1) pa_nil)) pa_nil)) (by rfl))
 (pss_cons (ps_set (i := 4) sc_law.nd rfl (by first | exact Or.inl rfl | exact Or.inr rfl) (pe_call Gld (hr.mono (by decide)) (by rfl) gld kld bld .nil pass0 (pa_cons (pv 1) (pa_cons (pe_call Gpk (hr.mono (by decide)) (by rfl) gpk kpk bpk .nil pass0 (pa_cons (pv 1) (pa_cons (pe_lst (pa_cons pe_int (pa_cons pe_int (pa_cons pe_int (pa_cons pe_int (pa_cons pe_int pa_nil)))))) pa_nil))) pa_nil))))
 (Evl.pss_cut (ps_set (i := 5) sc_law.nd rfl (by first | exact Or.inl rfl | exact Or.inr rfl) (pe_make MC GI (hr.mono (by decide)) (by rfl) T.gC bI .nil pass0 (pa_cons (pe_ix ix_tup (pv 4) pe_int (fun _ _ => rfl)) (pa_cons (pe_callTy call_list_of (by rfl) m_list boot_list (pa_cons (pe_ix ix_tup (pv 4) pe_int (fun _ _ => rfl)) pa_nil)) (pa_cons (pe_callTy call_list_of (by rfl) m_list boot_list (pa_cons (pe_ix ix_tup (pv 4) pe_int (fun _ _ => rfl)) pa_nil)) pa_nil)))))
 (Evl.pss_cut (ps_if (pt_cmpR op_eq (pe_call Gdr (hr.mono (by decide)) (by rfl) gdr kdr bdr .nil pass0 (pa_cons (pv 1) (pa_cons pe_int pa_nil))) pe_int (nomark _))
  (pss_cons (ps_set (i := 6) sc_law.nd rfl (by first | exact Or.inl rfl | exact Or.inr rfl) (pe_call Gdr (hr.mono (by decide)) (by rfl) gdr kdr bdr .nil pass0 (pa_cons (pv 1) (pa_cons pe_int pa_nil))))
 (pss_one (ps_set (i := 3) sc_law.nd rfl (by first | exact Or.inl rfl | exact Or.inr rfl) (pe_op op_cat (pe_op op_cat (pe_slice sl_list (pv 2) po_none (po_some (pv 6))) (pe_lst (pa_cons (pe_call Gpk (hr.mono (by decide)) (by rfl) gpk kpk bpk .nil pass0 (pa_cons (pv 1) (pa_cons (pe_ix ix_list (pe_call0 Gwo (hr.mono (by decide)) (by rfl) gwo kwo bwo .nil pass0) (pv 6) (fun _ _ => rfl)) pa_nil))) pa_nil))) (pe_slice sl_list (pv 2) (po_some (pe_op op_add (pv 6) pe_int)) po_none)))))
  pss_nil)
 (Evl.pss_cut (ps_set (i := 7) sc_law.nd rfl (by first | exact Or.inl rfl | exact Or.inr rfl) (pe_call Gdr (hr.mono (by decide)) (by rfl) gdr kdr bdr .nil pass0 (pa_cons (pv 1) (pa_cons pe_int pa_nil))))
 (Evl.pss_cut (ps_set (i := 8) sc_law.nd rfl (by first | exact Or.inl rfl | exact Or.inr rfl) (pe_call Goa (hr.mono (by decide)) (by rfl) goa koa boa .nil pass0 (pa_cons (pe_call Gma (hr.mono (by decide)) (by rfl) gma kma bma .nil pass0 (pa_cons (pv 2) pa_nil)) (pa_cons (pe_make MN GN (hr.mono (by decide)) (by rfl) TN.g bN .nil pass0 (pa_cons (pe_cmpR op_ge (pv 7) pe_int (nomark _)) (pa_cons (pe_cmpR op_ge (pe_op op_mod (pv 7) pe_int) pe_int (nomark _)) (pa_cons (pe_cmpR op_eq (pe_op op_mod (pv 7) pe_int) pe_int (nomark _)) pa_nil)))) pa_nil))))
 (Evl.pss_cut (ps_for PassesOwn.never rfl (pi_range1 rfl m_range (pa_cons pe_int pa_nil)) (pg_name (i := 9) sc_law.nd rfl (by first | exact Or.inl rfl | exact Or.inr rfl))
  (Evl.pss_cut (ps_set (i := 10) sc_law.nd rfl (by first | exact Or.inl rfl | exact Or.inr rfl) (pe_tup (pa_cons (pe_cmpR op_ge (pv 9) pe_int (nomark _)) (pa_cons (pe_cmpR op_ge (pe_op op_mod (pv 9) pe_int) pe_int (nomark _)) (pa_cons (pe_cmpR op_eq (pe_op op_mod (pv 9) pe_int) pe_int (nomark _)) pa_nil)))))
 (Evl.pss_cut (ps_set (i := 11) sc_law.nd rfl (by first | exact Or.inl rfl | exact Or.inr rfl) (pe_call Goa (hr.mono (by decide)) (by rfl) goa koa boa .nil pass0 (pa_cons (pe_call Gma (hr.mono (by decide)) (by rfl) gma kma bma .nil pass0 (pa_cons (pv 2) pa_nil)) (pa_cons (pe_make MN GN (hr.mono (by decide)) (by rfl) TN.g bN .nil pass0 (pa_cons (pe_ix ix_tup (pv 10) pe_int (fun _ _ => rfl)) (pa_cons (pe_ix ix_tup (pv 10) pe_int (fun _ _ => rfl)) (pa_cons (pe_ix ix_tup (pv 10) pe_int (fun _ _ => rfl)) pa_nil)))) pa_nil))))
 (Evl.pss_cut (ps_if (pw_or (pt_not (pt_val (pe_call Grt (hr.mono (by decide)) (by rfl) grt krt brt .nil pass0 (pa_cons (pv 11) (pa_cons (pv 2) (pa_cons (pv 10) (pa_cons (pv 4) (pa_cons (pv 5) pa_nil)))))))) (pw_or1 (pt_cmpR (K7E.op_neOwn GnE neN TN.hm fnE inE bnE (hr.mono (by decide)) pass0) (pe_fld (pv 11) rfl) (pe_make MN GN (hr.mono (by decide)) (by rfl) TN.g bN .nil pass0 (pa_cons (pe_ix ix_tup (pv 10) pe_int (fun _ _ => rfl)) (pa_cons (pe_ix ix_tup (pv 10) pe_int (fun _ _ => rfl)) (pa_cons (pe_ix ix_tup (pv 10) pe_int (fun _ _ => rfl)) pa_nil)))) (nomark _)))).pt
  (pss_one (ps_ret pe_bl))
  pss_nil)
 (Evl.pss_cut (ps_if (pt_not (pt_val (pe_call Gtr (hr.mono (by decide)) (by rfl) gtr ktr btr .nil pass0 (pa_cons (pe_cmpR (K7E.op_eqOwn GeE feE ieE beE (hr.mono (by decide)) pass0) (pv 11) (pv 8) (nomark _)) (pa_cons (pe_cmpR op_eq (pv 9) (pv 7) (nomark _)) pa_nil)))))
  (pss_one (ps_ret pe_bl))
  pss_nil)
 (pss_cons (ps_set (i := 12) sc_law.nd rfl (by first | exact Or.inl rfl | exact Or.inr rfl) (pe_call Gdr (hr.mono (by decide)) (by rfl) gdr kdr bdr .nil pass0 (pa_cons (pv 1) (pa_cons (pe_ix ix_tup (pv 4) pe_int (fun _ _ => rfl)) pa_nil))))
 (Evl.pss_cut (ps_set (i := 13) sc_law.nd rfl (by first | exact Or.inl rfl | exact Or.inr rfl) (pe_call Gls (hr.mono (by decide)) (by rfl) gls kls bls .nil pass0 (pa_cons (pv 4) (pa_cons (pv 12) pa_nil))))
 (Evl.pss_cut (ps_set (i := 14) sc_law.nd rfl (by first | exact Or.inl rfl | exact Or.inr rfl) (pe_ifExp (pt_cmpR op_eq (pv 13) pe_str (nomark _)) pe_non (pe_call Gnu (hr.mono (by decide)) (by rfl) gnu knu bnu .nil pass0 (pa_cons (pv 2) (pa_cons (pv 10) (pa_cons (pv 13) pa_nil))))))
 (pss_one (ps_if (pt_not (pt_val (pe_call Gli (hr.mono (by decide)) (by rfl) gli kli bli .nil pass0 (pa_cons (pe_call Gfd (hr.mono (by decide)) (by rfl) gfd kfd bfd .nil pass0 (pa_cons (pv 5) (pa_cons (pe_call Gma (hr.mono (by decide)) (by rfl) gma kma bma .nil pass0 (pa_cons (pv 2) pa_nil)) (pa_cons (pv 12) (pa_cons (pe_make MN GN (hr.mono (by decide)) (by rfl) TN.g bN .nil pass0 (pa_cons (pe_ix ix_tup (pv 10) pe_int (fun _ _ => rfl)) (pa_cons (pe_ix ix_tup (pv 10) pe_int (fun _ _ => rfl)) (pa_cons (pe_ix ix_tup (pv 10) pe_int (fun _ _ => rfl)) pa_nil)))) pa_nil))))) (pa_cons (pv 14) pa_nil)))))
  (pss_one (ps_ret pe_bl))
  pss_nil))))))))))
 (Evl.pss_cut (ps_set (i := 15) sc_law.nd rfl (by first | exact Or.inl rfl | exact Or.inr rfl) (pe_call Goa (hr.mono (by decide)) (by rfl) goa koa boa1 voa1 pass0 (pa_cons (pe_call Gma (hr.mono (by decide)) (by rfl) gma kma bma .nil pass0 (pa_cons (pv 2) pa_nil)) pa_nil)))
 (Evl.pss_cut (ps_if (pw_or (pt_not (pt_val (pe_call Grt (hr.mono (by decide)) (by rfl) grt krt brt .nil pass0 (pa_cons (pv 15) (pa_cons (pv 2) (pa_cons (pe_tup (pa_cons pe_bl (pa_cons pe_bl (pa_cons pe_bl pa_nil)))) (pa_cons (pv 4) (pa_cons (pv 5) pa_nil)))))))) (pw_or1 (pt_cmpR (K7E.op_neOwn GnE neN TN.hm fnE inE bnE (hr.mono (by decide)) pass0) (pe_fld (pv 15) rfl) (pe_make0 MN GN (hr.mono (by decide)) (by rfl) TN.g bN0 vN0 pass0) (nomark _)))).pt
  (pss_one (ps_ret pe_bl))
  pss_nil)
 (Evl.pss_cut (ps_set (i := 16) sc_law.nd rfl (by first | exact Or.inl rfl | exact Or.inr rfl) (pe_call Goa (hr.mono (by decide)) (by rfl) goa koa boa .nil pass0 (pa_cons (pe_call Gma (hr.mono (by decide)) (by rfl) gma kma bma .nil pass0 (pa_cons (pv 3) pa_nil)) (pa_cons (pe_make0 MN GN (hr.mono (by decide)) (by rfl) TN.g bN0 vN0 pass0) pa_nil))))
 (Evl.pss_cut (ps_if (pw_or (pt_not (pt_val (pe_call Gtr (hr.mono (by decide)) (by rfl) gtr ktr btr .nil pass0 (pa_cons (pe_cmpR (K7E.op_eqOwn GeE feE ieE beE (hr.mono (by decide)) pass0) (pv 15) (pv 16) (nomark _)) (pa_cons (pe_cmpR (op_eqD hr.units) (pv 2) (pv 3) (nomark _)) pa_nil))))) (pw_or (pt_cmpR (K7E.op_eqOwn GeE feE ieE beE (hr.mono (by decide)) pass0) (pv 15) (pv 2) (nomark _)) (pw_or1 (pt_cmpR (K7E.op_eqOwn GeE feE ieE beE (hr.mono (by decide)) pass0) (pv 15) (pe_call Gma (hr.mono (by decide)) (by rfl) gma kma bma .nil pass0 (pa_cons (pv 2) pa_nil)) (nomark _))))).pt
  (pss_one (ps_ret pe_bl))
  pss_nil)
 (Evl.pss_cut (ps_set (i := 17) sc_law.nd rfl (by first | exact Or.inl rfl | exact Or.inr rfl) (pe_call Gpk (hr.mono (by decide)) (by rfl) gpk kpk bpk .nil pass0 (pa_cons (pv 1) (pa_cons (pe_lst (pa_cons (pe_ix ix_tup (pv 4) pe_int (fun _ _ => rfl)) (pa_cons (pe_un un_neg pe_int) (pa_cons pe_bl (pa_cons pe_bl (pa_cons pe_non (pa_cons pe_str (pa_cons (pe_op op_add (pe_ix ix_tup (pv 4) pe_int (fun _ _ => rfl)) (pe_call Gdr (hr.mono (by decide)) (by rfl) gdr kdr bdr .nil pass0 (pa_cons (pv 1) (pa_cons (pe_op op_pow pe_int pe_int) pa_nil)))) pa_nil)))))))) pa_nil))))
 (pss_one (ps_ret (pe_and (pe_call Gnc (hr.mono (by decide)) (by rfl) gnc knc bnc .nil pass0 (pa_cons (pv 15) (pa_cons (pv 5) (pa_cons (pv 17) pa_nil)))) (pe_one (pe_cmpR (K7E.op_eqOwn GeE feE ieE beE (hr.mono (by decide)) pass0) (pv 15) (pe_call Goa (hr.mono (by decide)) (by rfl) goa koa boa .nil pass0 (pa_cons (pe_call Gma (hr.mono (by decide)) (by rfl) gma kma bma .nil pass0 (pa_cons (pv 2) pa_nil)) (pa_cons pe_non pa_nil))) (nomark _))))))))))))))))))), ?_⟩
    refine ⟨_, rfl, s0, ns, rfl, hS, hl, fun H1 h c e1 nh nc hh1 => ?_⟩
    -- two customs
    refine ⟨_, rfl, h, c, rfl, hh1, fun H2 R m st2 nR hm hR2 => ?_⟩
    refine ⟨_, rfl, h, c, rfl, st2.hand, fun H3 R1 m1 st3 nR1 hm1 hR13 => ?_⟩
    have hR3 := st3.row hR2
    refine ⟨_, _, rfl, ?_⟩
    -- a land
    refine ⟨_, rfl, _, rfl, by show 5 ≤ sizeLine; decide, fun t nt => ?_⟩
    have hh3 := st3.hand
    have st4 := Stay.of_same hh3 (al (o := .lst [.int 2, .int 3, .int 4, .int 4, .int 5]) nt)
    refine ⟨h, c, t, _, rfl, st4.hand, (hh3.ne nt).1, upd_same, (show 0 < 5 by decide), (show 5 ≤ 1000 by decide), fun H5 j v d5 hv => ?_⟩
    have st5 := Stay.of_drawn st4.hand d5
    obtain ⟨n, rfl, n2, n5⟩ : ∃ n : Nat, v = .int (n : Nat) ∧ 2 ≤ n ∧ n ≤ 5 := by
      match j, hv with
      | 0, hv => exact ⟨2, (Option.some.inj hv).symm, by decide, by decide⟩
      | 1, hv => exact ⟨3, (Option.some.inj hv).symm, by decide, by decide⟩
      | 2, hv => exact ⟨4, (Option.some.inj hv).symm, by decide, by decide⟩
      | 3, hv => exact ⟨4, (Option.some.inj hv).symm, by decide, by decide⟩
      | 4, hv => exact ⟨5, (Option.some.inj hv).symm, by decide, by decide⟩
      | (k + 5), hv => exact nomatch hv
    refine ⟨h, c, n, rfl, st5.hand, n2, n5, fun H6 q0 es lot st6 nq La => ?_⟩
    have s36 := (st4.trans st5).trans st6
    have hR6 := s36.row hR3
    have hR16 := s36.row hR13
    have hand6 := st6.hand
    obtain ⟨rA, sA, ts, h1, h2, h3, h4⟩ := La.at_
    obtain ⟨llt, lsd⟩ := lot_lt n5 La.lot.1
    have lso : lot.Pairwise (· ≤ ·) := lsd.imp fun h => Nat.le_of_lt h
    have lnd : lot.Nodup := List.nodup_iff_pairwise_ne.mpr (lsd.imp fun h e => by rw [e] at h; exact Nat.lt_irrefl _ h)
    have lo0 := La.lot.2.1
    have lon := La.lot.2.2
    have e32 := es_len La.ok n5
    -- the land told
    refine ⟨fun τ H' => ∃ p, τ = sg [some (.ref s0), some (.ref h), some (.ref R), some (.ref R1), some (.ref q0), some (.ref p)] ∧ Lw a.C h c q0 p R R1 n es lot m m1 H', ?_, fun τ H' hM => ?_⟩
    · refine ⟨_, rfl, q0, _, _, _, rfl, rfl, .inl (.inl h1), atI_nat (j := 0) rfl, ?_⟩
      refine ⟨_, rfl, q0, _, _, _, rfl, rfl, .inl (.inl h1), atI_nat (j := 1) rfl, rA, _, rfl, .inl (.inl (.inl h2)), fun A1 nA1 => ?_⟩
      have s4 := al (o := .lst (ts.map V.ref)) nA1
      refine ⟨_, rfl, q0, _, _, _, rfl, rfl, .inl (.inl (s4 _ _ h1)), atI_nat (j := 2) rfl, sA, _, rfl, .inl (.inl (.inl (s4 _ _ h4))), fun B1 nB1 => ?_⟩
      have s5 := s4.trans (al (o := .lst (ints_ lot)) nB1)
      have hA5 := al (o := .lst (ints_ lot)) nB1 A1 _ (upd_same (H := H6) (a := A1))
      have hB5 : upd (upd H6 A1 (.lst (ts.map V.ref))) B1 (.lst (ints_ lot)) B1 = _ := upd_same
      generalize upd (upd H6 A1 (.lst (ts.map V.ref))) B1 (.lst (ints_ lot)) = H5 at s5 hA5 hB5 ⊢
      refine new_land (a := a) (Q := fun w H1 => ∃ p, (sg [some (.ref s0), some (.ref h), some (.ref R), some (.ref R1), some (.ref q0)]).set 5 (some w) = sg [some (.ref s0), some (.ref h), some (.ref R), some (.ref R1), some (.ref q0), some (.ref p)] ∧ Lw a.C h c q0 p R R1 n es lot m m1 H1) n2 n5 (.inr hA5) (co_lit (h3.same s5)) (cos_es La.ok n5) La.ok.conn (.inr hB5) llt lnd lo0 lon fun H' x es' rd e nx Lo pe pr => ?_
      rw [srt_map La.ok] at pe
      obtain rfl := es_is Lo.ok pe (La.ok.sorted.imp fun h => h)
      obtain rfl := rd_is Lo.rso pr lso
      have e6 := s5.trans e
      exact ⟨x, rfl, hand6.same e6, La.same e6, Lo, e6 _ _ hR6, e6 _ _ hR16⟩
    · obtain ⟨p, rfl, W⟩ := hM
      -- another custom
      refine ⟨fun τ H' => ∃ y6 R1 m1, τ = sg [some (.ref s0), some (.ref h), some (.ref R), some (.ref R1), some (.ref q0), some (.ref p), y6] ∧ m1 < 192 ∧ Lw a.C h c q0 p R R1 n es lot m m1 H', ?_, fun τ H' hM => ?_⟩
      · refine ⟨_, rfl, h, c, 2, rfl, W.hand, by decide, by decide, fun H7 r d7 r0 r1 => ?_⟩
        have W7 := W.drawn d7
        refine ⟨rfl, _, rfl, iteB (fun _ => ?_) (fun _ => ?_)⟩
        · refine ⟨_, rfl, h, c, 5, rfl, W7.hand, by decide, by decide, fun H8 r d8 r0 r1 => ?_⟩
          have W8 := W7.drawn d8
          obtain ⟨k, rfl⟩ : ∃ k : Nat, r = (k : Nat) := ⟨r.toNat, by omega⟩
          have k5 : k < 5 := by omega
          have l5 : (C.rowOf m).length = 5 := rfl
          refine ⟨_, rfl, _, rfl, _, rfl, R, _, rfl, .inl (.inl W8.r), fun S nS => ?_⟩
          rw [cut_take _ (show k ≤ (C.rowOf m).length by omega)]
          have W9 := W8.same (al (o := .lst (((C.rowOf m).take k).map V.str)) nS)
          have hS9 : upd H8 S (.lst (((C.rowOf m).take k).map V.str)) S = some (.lst (((C.rowOf m).take k).map V.str)) := upd_same
          generalize upd H8 S (.lst (((C.rowOf m).take k).map V.str)) = H9 at W9 hS9 ⊢
          refine ⟨_, rfl, rfl, fun H10 t e10 mn => ?_⟩
          obtain ⟨as, la, ht, hm'⟩ := mn
          have W10 := W9.same e10
          have ka : k < as.length := by omega
          refine ⟨_, rfl, t, _, _, _, rfl, rfl, .inl (.inl ht), atI_nat (v := .ref as[k]) (by rw [List.getElem?_map, List.getElem?_eq_getElem ka]; rfl), ?_⟩
          have hk := hm' k as[k] (List.getElem?_eq_getElem ka)
          obtain ⟨l0, l4⟩ := menu_len ⟨k, k5⟩
          have l0 : 0 < (C.menuAt k).length := l0
          have l4 : (C.menuAt k).length ≤ 4 := l4
          refine ⟨h, c, as[k], _, rfl, W10.hand, W10.hand.nel hk (notHand_strs _), hk, by rw [List.length_map]; exact l0, by rw [List.length_map]; omega, fun H11 j v d11 hv => ?_⟩
          have W11 := W10.drawn d11
          have hS11 := (Stay.of_drawn W10.hand d11).row (e10 _ _ hS9)
          rw [List.getElem?_map] at hv
          obtain ⟨w0, hw0, rfl⟩ := Option.map_eq_some_iff.mp hv
          have wm : w0 ∈ C.menuAt k := List.mem_of_getElem? hw0
          refine ⟨by show 1 ≤ sizeLine; decide, fun u nu => ?_⟩
          have W12 := W11.same (al (o := .lst [.str w0]) nu)
          have hS12 := al (o := .lst [.str w0]) nu _ _ hS11
          have hu12 : upd H11 u (.lst [.str w0]) u = some (.lst [.str w0]) := upd_same
          generalize upd H11 u (.lst [.str w0]) = H12 at W12 hS12 hu12 ⊢
          refine ⟨S, u, _, _, rfl, rfl, hS12, hu12, by rw [List.length_map, List.length_take, l5]; exact Nat.le_trans (show min k 5 + 1 ≤ 6 by omega) (by decide), fun X nX => ?_⟩
          have hX : upd H12 X (.lst (((C.rowOf m).take k).map V.str ++ [.str w0])) X = some (.lst (((C.rowOf m).take k ++ [w0]).map V.str)) := by rw [upd_same, List.map_append]; rfl
          have W13 := W12.same (al (o := .lst (((C.rowOf m).take k).map V.str ++ [.str w0])) nX)
          generalize upd H12 X (.lst (((C.rowOf m).take k).map V.str ++ [.str w0])) = H13 at W13 hX ⊢
          refine ⟨_, rfl, _, rfl, _, _, rfl, rfl, _, rfl, R, _, rfl, .inl (.inl W13.r), fun Y nY => ?_⟩
          rw [show ((k : Nat) : Int) + 1 = ((k + 1 : Nat) : Int) from rfl, cut_drop _ (show k + 1 ≤ (C.rowOf m).length by omega)]
          have W14 := W13.same (al (o := .lst (((C.rowOf m).drop (k + 1)).map V.str)) nY)
          have hX14 := al (o := .lst (((C.rowOf m).drop (k + 1)).map V.str)) nY _ _ hX
          have hY14 : upd H13 Y (.lst (((C.rowOf m).drop (k + 1)).map V.str)) Y = some (.lst (((C.rowOf m).drop (k + 1)).map V.str)) := upd_same
          generalize upd H13 Y (.lst (((C.rowOf m).drop (k + 1)).map V.str)) = H14 at W14 hX14 hY14 ⊢
          refine ⟨X, Y, _, _, rfl, rfl, hX14, hY14, by rw [List.length_map, List.length_map, List.length_append, List.length_take, List.length_drop, l5, List.length_singleton]; exact Nat.le_trans (show min k 5 + 1 + (5 - (k + 1)) ≤ 6 by omega) (by decide), fun Z nZ => ?_⟩
          obtain ⟨m', hm'', er⟩ := row_put hm k5 wm
          have W15 := W14.same (al (o := .lst (((C.rowOf m).take k ++ [w0]).map V.str ++ ((C.rowOf m).drop (k + 1)).map V.str)) nZ)
          refine ⟨_, Z, m', rfl, hm'', W15.hand, W15.la, W15.lo, W15.r, ?_⟩
          rw [upd_same, ← List.map_append, er]
        · exact ⟨none, R1, m1, rfl, hm1, W7⟩
      · clear W hR13 hR16 nR1
        obtain ⟨y6, R1, m1, rfl, hm1, W⟩ := hM
        -- the first effect
        refine ⟨fun τ H' => ∃ k : Nat, τ = sg [some (.ref s0), some (.ref h), some (.ref R), some (.ref R1), some (.ref q0), some (.ref p), y6, some (.int (k : Nat))] ∧ k < 8 ∧ Lw a.C h c q0 p R R1 n es lot m m1 H', ?_, fun τ H' hM => ?_⟩
        · refine ⟨_, rfl, h, c, 8, rfl, W.hand, by decide, by decide, fun H7 r d7 r0 r1 => ?_⟩
          obtain ⟨k, rfl⟩ : ∃ k : Nat, r = (k : Nat) := ⟨r.toNat, by omega⟩
          exact ⟨k, rfl, by omega, W.drawn d7⟩
        · clear W
          obtain ⟨sh, rfl, hsh, W⟩ := hM
          refine ⟨fun τ H' => ∃ f0, τ = sg [some (.ref s0), some (.ref h), some (.ref R), some (.ref R1), some (.ref q0), some (.ref p), y6, some (.int (sh : Nat)), some (.ref f0)] ∧ EvIs G ac.C N H' f0 m (bt0 sh) (bt1 sh) (bt2 sh) (few m (bt0 sh) (bt1 sh) (bt2 sh) "far") (few m (bt0 sh) (bt1 sh) (bt2 sh) "loose") (few m (bt0 sh) (bt1 sh) (bt2 sh) "bound") ∧ Lw a.C h c q0 p R R1 n es lot m m1 H', ?_, fun τ H' hM => ?_⟩
          · refine ⟨_, rfl, R, m, rfl, hm, W.r, fun H7 cu e7 hcu => ?_⟩
            refine ⟨_, rfl, _, _, rfl, rfl, _, rfl, _, _, rfl, rfl, (show (0 : Int) < 4 by decide), _, _, rfl, rfl, _, rfl, _, _, rfl, rfl, (show (0 : Int) < 2 by decide), rfl, ?_⟩
            intro x dx1 nx1 ndx1 ne1
            refine ⟨x, dx1, bt0 sh, bt1 sh, bt2 sh, rfl, upd_same, fun H8 bb1 hx => ⟨rfl, ?_⟩⟩
            have e8 := new_same nx1 ndx1 ne1 bb1
            refine ⟨cu, _, m, bt0 sh, bt1 sh, bt2 sh, rfl, hcu.same e8, .inr ⟨x, rfl, hx⟩, fun H9 f0 e9 Ev => ?_⟩
            exact ⟨f0, rfl, Ev, ((W.same e7).same e8).same e9⟩
          · clear W
            obtain ⟨f0, rfl, Ev0, W⟩ := hM
            -- all eight
            refine ⟨fun τ H' => ∃ y9 y10 y11 y12 y13 y14, τ = sg [some (.ref s0), some (.ref h), some (.ref R), some (.ref R1), some (.ref q0), some (.ref p), y6, some (.int (sh : Nat)), some (.ref f0), y9, y10, y11, y12, y13, y14] ∧ Lw a.C h c q0 p R R1 n es lot m m1 H', ?_, fun τ H' hM => ?_⟩
            · refine ⟨_, rfl, by decide, by decide, for_range (lo := 0) (n := 8) (fun i τ H' => ∃ y9 y10 y11 y12 y13 y14, τ = sg [some (.ref s0), some (.ref h), some (.ref R), some (.ref R1), some (.ref q0), some (.ref p), y6, some (.int (sh : Nat)), some (.ref f0), y9, y10, y11, y12, y13, y14] ∧ EvIs G ac.C N H' f0 m (bt0 sh) (bt1 sh) (bt2 sh) (few m (bt0 sh) (bt1 sh) (bt2 sh) "far") (few m (bt0 sh) (bt1 sh) (bt2 sh) "loose") (few m (bt0 sh) (bt1 sh) (bt2 sh) "bound") ∧ Lw a.C h c q0 p R R1 n es lot m m1 H') ⟨none, none, none, none, none, none, rfl, Ev0, W⟩ (fun i τ H' hi pv => ?_) (fun τ H' pv => ?_)⟩
              · obtain ⟨y9, y10, y11, y12, y13, y14, rfl, Ev1, W1⟩ := pv
                rw [show (0 : Int) + ((i : Nat) : Int) = (i : Nat) from Int.zero_add _]
                refine ⟨fun τ H' => ∃ ct, τ = sg [some (.ref s0), some (.ref h), some (.ref R), some (.ref R1), some (.ref q0), some (.ref p), y6, some (.int (sh : Nat)), some (.ref f0), some (.int (i : Nat)), some (.ref ct), y11, y12, y13, y14] ∧ H' ct = some (.tup [.bl (bt0 i), .bl (bt1 i), .bl (bt2 i)]) ∧ EvIs G ac.C N H' f0 m (bt0 sh) (bt1 sh) (bt2 sh) (few m (bt0 sh) (bt1 sh) (bt2 sh) "far") (few m (bt0 sh) (bt1 sh) (bt2 sh) "loose") (few m (bt0 sh) (bt1 sh) (bt2 sh) "bound") ∧ Lw a.C h c q0 p R R1 n es lot m m1 H', ?_, fun τ H' hM => ?_⟩
                · refine ⟨_, rfl, _, _, rfl, rfl, _, rfl, _, _, rfl, rfl, (show (0 : Int) < 4 by decide), _, _, rfl, rfl, _, rfl, _, _, rfl, rfl, (show (0 : Int) < 2 by decide), rfl, by show 3 ≤ sizeLine; decide, fun ct nct => ?_⟩
                  have e2 := al (o := .tup [.bl (bt0 i), .bl (bt1 i), .bl (bt2 i)]) nct
                  exact ⟨ct, rfl, upd_same, Ev1.same e2, W1.same e2⟩
                · clear W1 Ev1
                  obtain ⟨ct, rfl, hct, Ev1, W1⟩ := hM
                  -- its effect
                  refine ⟨fun τ H' => ∃ ef, τ = sg [some (.ref s0), some (.ref h), some (.ref R), some (.ref R1), some (.ref q0), some (.ref p), y6, some (.int (sh : Nat)), some (.ref f0), some (.int (i : Nat)), some (.ref ct), some (.ref ef), y12, y13, y14] ∧ H' ct = some (.tup [.bl (bt0 i), .bl (bt1 i), .bl (bt2 i)]) ∧ EvIs G ac.C N H' ef m (bt0 i) (bt1 i) (bt2 i) (few m (bt0 i) (bt1 i) (bt2 i) "far") (few m (bt0 i) (bt1 i) (bt2 i) "loose") (few m (bt0 i) (bt1 i) (bt2 i) "bound") ∧ EvIs G ac.C N H' f0 m (bt0 sh) (bt1 sh) (bt2 sh) (few m (bt0 sh) (bt1 sh) (bt2 sh) "far") (few m (bt0 sh) (bt1 sh) (bt2 sh) "loose") (few m (bt0 sh) (bt1 sh) (bt2 sh) "bound") ∧ Lw a.C h c q0 p R R1 n es lot m m1 H', ?_, fun τ H' hM => ?_⟩
                  · refine ⟨_, rfl, R, m, rfl, hm, W1.r, fun H7 cu e7 hcu => ?_⟩
                    have hc7 := e7 _ _ hct
                    refine ⟨_, rfl, ct, _, _, _, rfl, rfl, .inl (.inl hc7), atI_nat (j := 0) rfl, _, rfl, ct, _, _, _, rfl, rfl, .inl (.inl hc7), atI_nat (j := 1) rfl, _, rfl, ct, _, _, _, rfl, rfl, .inl (.inl hc7), atI_nat (j := 2) rfl, ?_⟩
                    intro x dx1 nx1 ndx1 ne1
                    refine ⟨x, dx1, bt0 i, bt1 i, bt2 i, rfl, upd_same, fun H8 bb1 hx => ⟨rfl, ?_⟩⟩
                    have e8 := new_same nx1 ndx1 ne1 bb1
                    refine ⟨cu, _, m, bt0 i, bt1 i, bt2 i, rfl, hcu.same e8, .inr ⟨x, rfl, hx⟩, fun H9 ef e9 Ev => ?_⟩
                    have e79 := (e7.trans e8).trans e9
                    exact ⟨ef, rfl, e79 _ _ hct, Ev, Ev1.same e79, W1.same e79⟩
                  · clear W1 Ev1 hct
                    obtain ⟨ef, rfl, hct, Ev2, Ev1, W1⟩ := hM
                    have mid : ∀ H7, Same H' H7 → H7 ct = some (.tup [.bl (bt0 i), .bl (bt1 i), .bl (bt2 i)]) ∧ EvIs G ac.C N H7 ef m (bt0 i) (bt1 i) (bt2 i) (few m (bt0 i) (bt1 i) (bt2 i) "far") (few m (bt0 i) (bt1 i) (bt2 i) "loose") (few m (bt0 i) (bt1 i) (bt2 i) "bound") ∧ EvIs G ac.C N H7 f0 m (bt0 sh) (bt1 sh) (bt2 sh) (few m (bt0 sh) (bt1 sh) (bt2 sh) "far") (few m (bt0 sh) (bt1 sh) (bt2 sh) "loose") (few m (bt0 sh) (bt1 sh) (bt2 sh) "bound") ∧ Lw a.C h c q0 p R R1 n es lot m m1 H7 := fun H7 e => ⟨e _ _ hct, Ev2.same e, Ev1.same e, W1.same e⟩
                    -- it is right
                    refine ⟨fun τ H' => τ = sg [some (.ref s0), some (.ref h), some (.ref R), some (.ref R1), some (.ref q0), some (.ref p), y6, some (.int (sh : Nat)), some (.ref f0), some (.int (i : Nat)), some (.ref ct), some (.ref ef), y12, y13, y14] ∧ H' ct = some (.tup [.bl (bt0 i), .bl (bt1 i), .bl (bt2 i)]) ∧ EvIs G ac.C N H' ef m (bt0 i) (bt1 i) (bt2 i) (few m (bt0 i) (bt1 i) (bt2 i) "far") (few m (bt0 i) (bt1 i) (bt2 i) "loose") (few m (bt0 i) (bt1 i) (bt2 i) "bound") ∧ EvIs G ac.C N H' f0 m (bt0 sh) (bt1 sh) (bt2 sh) (few m (bt0 sh) (bt1 sh) (bt2 sh) "far") (few m (bt0 sh) (bt1 sh) (bt2 sh) "loose") (few m (bt0 sh) (bt1 sh) (bt2 sh) "bound") ∧ Lw a.C h c q0 p R R1 n es lot m m1 H', ?_, fun τ H' hM => ?_⟩
                    · refine ⟨_, rfl, _, rfl, _, rfl, _, rfl, _, rfl, ef, R, ct, q0, p, m, bt0 i, bt1 i, bt2 i, n, es, lot, rfl, Ev2, hm, W1.r, hct, W1.la, n5, e32, W1.lo, fun H7 e7 => ?_⟩
                      refine ⟨_, rfl, ?_⟩
                      refine iteFo rfl ?_
                      obtain ⟨dx, cu, co, hp, hcu, hco⟩ := (Ev2.same e7).at_
                      refine ⟨.ref ef, rfl, ef, G, dx, _, _, rfl, hp, TE.cl, TE.nA _ (by decide), rfl, ?_⟩
                      have hc7 := e7 _ _ hct
                      refine ⟨_, rfl, ct, _, _, _, rfl, rfl, .inl (.inl hc7), atI_nat (j := 0) rfl, _, rfl, ct, _, _, _, rfl, rfl, .inl (.inl hc7), atI_nat (j := 1) rfl, _, rfl, ct, _, _, _, rfl, rfl, .inl (.inl hc7), atI_nat (j := 2) rfl, ?_⟩
                      intro x dx1 nx1 ndx1 ne1
                      refine ⟨x, dx1, bt0 i, bt1 i, bt2 i, rfl, upd_same, fun H8 bb1 hx => ⟨rfl, ?_⟩⟩
                      have e8 := new_same nx1 ndx1 ne1 bb1
                      obtain ⟨d3, g3⟩ := id (hco.same e8)
                      obtain ⟨d4, g4⟩ := id hx
                      refine ⟨co, _, _, x, _, rfl, rfl, g3, .base (.ins g4 TN.cl TN.ha TN.hn TN.ht TN.hm), by simp [PySem.W.notFirst], co, x, _, _, _, _, _, _, rfl, hco.same e8, hx, ?_⟩
                      refine ⟨_, rfl, _, rfl, ?_⟩
                      rw [decide_eq_true (by exact ⟨rfl, rfl, rfl⟩)]
                      exact iteFo rfl ⟨rfl, mid _ (e7.trans e8)⟩
                    · clear mid W1 Ev1 Ev2 hct
                      obtain ⟨rfl, hct, Ev2, Ev1, W1⟩ := hM
                      -- it is the first one or not
                      refine ⟨fun τ H' => τ = sg [some (.ref s0), some (.ref h), some (.ref R), some (.ref R1), some (.ref q0), some (.ref p), y6, some (.int (sh : Nat)), some (.ref f0), some (.int (i : Nat)), some (.ref ct), some (.ref ef), y12, y13, y14] ∧ H' ct = some (.tup [.bl (bt0 i), .bl (bt1 i), .bl (bt2 i)]) ∧ EvIs G ac.C N H' f0 m (bt0 sh) (bt1 sh) (bt2 sh) (few m (bt0 sh) (bt1 sh) (bt2 sh) "far") (few m (bt0 sh) (bt1 sh) (bt2 sh) "loose") (few m (bt0 sh) (bt1 sh) (bt2 sh) "bound") ∧ Lw a.C h c q0 p R R1 n es lot m m1 H', ?_, fun τ H' hM => ?_⟩
                      · obtain ⟨dx, cu, co, hp, _⟩ := Ev2.at_
                        obtain ⟨dy, cu', co', hp', _⟩ := Ev1.at_
                        refine ⟨_, rfl, _, rfl, ef, _, _, f0, _, rfl, rfl, hp, .base (.ins hp' TE.cl TE.ha TE.hn TE.ht TE.hm), by simp [PySem.W.notFirst], ef, f0, m, _, _, _, _, _, _, rfl, Ev2, .inl ⟨m, _, _, _, _, _, _, Ev1, ?_⟩⟩
                        refine ⟨_, rfl, _, rfl, rfl, ?_⟩
                        refine ⟨_, _, rfl, _, rfl, ?_⟩
                        rw [decide_eq_true (same_cnt hi hsh)]
                        exact iteFo rfl ⟨rfl, hct, Ev1, W1⟩
                      · clear W1 Ev1 Ev2 hct
                        obtain ⟨rfl, hct, Ev1, W1⟩ := hM
                        obtain ⟨rA1, sA1, ts1, g1, _⟩ := W1.la.at_
                        -- a cell
                        refine ⟨_, rfl, _, rfl, q0, _, _, _, rfl, rfl, .inl (.inl g1), atI_nat (j := 0) rfl, h, c, (n : Nat), rfl, W1.hand, by omega, n200' n5, fun H7 r d7 r0 r1 => ?_⟩
                        obtain ⟨x, rfl⟩ : ∃ k : Nat, r = (k : Nat) := ⟨r.toNat, by omega⟩
                        have hx : x < n := by omega
                        have st7 := Stay.of_drawn W1.hand d7
                        have W7 := W1.drawn d7
                        refine ⟨fun τ H' => ∃ z, τ = sg [some (.ref s0), some (.ref h), some (.ref R), some (.ref R1), some (.ref q0), some (.ref p), y6, some (.int (sh : Nat)), some (.ref f0), some (.int (i : Nat)), some (.ref ct), some (.ref ef), some (.int (x : Nat)), some (.str z), y14] ∧ SortIs n es lot x z ∧ Same H7 H', ?_, fun τ H8 hM => ?_⟩
                        · refine ⟨_, rfl, _, rfl, q0, n, es, lot, x, rfl, W7.la, n5, e32, hx, fun H8 z e8 hz => ⟨z, rfl, hz, e8⟩⟩
                        · obtain ⟨z, rfl, hz, e8⟩ := hM
                          refine ⟨fun τ H' => τ = sg [some (.ref s0), some (.ref h), some (.ref R), some (.ref R1), some (.ref q0), some (.ref p), y6, some (.int (sh : Nat)), some (.ref f0), some (.int (i : Nat)), some (.ref ct), some (.ref ef), some (.int (x : Nat)), some (.str z), some (optV (fewN m (bt0 i) (bt1 i) (bt2 i) z))] ∧ Same H7 H', ?_, fun τ H9 hM => ?_⟩
                          · refine ⟨_, rfl, rfl, _, rfl, iteB (fun hz1 => ?_) (fun hz1 => ?_)⟩
                            · have zr : z = "road" := by
                                have z1 := of_decide_eq_true hz1
                                injection z1
                              have nr : fewN m (bt0 i) (bt1 i) (bt2 i) z = none := by unfold fewN numOf; rw [if_pos zr]
                              rw [nr]
                              exact ⟨rfl, e8⟩
                            · have nzr : z ≠ "road" := fun e => by rw [e] at hz1; exact absurd hz1 (by decide +kernel)
                              have z3 := sort3 hz nzr
                              have nf : few m (bt0 i) (bt1 i) (bt2 i) z = fewN m (bt0 i) (bt1 i) (bt2 i) z := few_num ⟨m, hm⟩ _ _ _ z z3
                              refine ⟨_, rfl, _, rfl, _, rfl, R, ct, z, m, _, _, _, rfl, hm, e8 _ _ W7.r, e8 _ _ (st7.tup hct), z3, fun H9 e9 => ?_⟩
                              rw [nf]
                              exact ⟨rfl, e8.trans e9⟩
                          · obtain ⟨rfl, e9⟩ := hM
                            have W9 := W7.same e9
                            refine ⟨_, rfl, _, rfl, R, m, rfl, hm, W9.r, fun H10 cu e10 hcu => ?_⟩
                            have hc10 := e10 _ _ (e9 _ _ (st7.tup hct))
                            refine ⟨_, rfl, _, rfl, ct, _, _, _, rfl, rfl, .inl (.inl hc10), atI_nat (j := 0) rfl, _, rfl, ct, _, _, _, rfl, rfl, .inl (.inl hc10), atI_nat (j := 1) rfl, _, rfl, ct, _, _, _, rfl, rfl, .inl (.inl hc10), atI_nat (j := 2) rfl, ?_⟩
                            intro y dx1 nx1 ndx1 ne1
                            refine ⟨y, dx1, bt0 i, bt1 i, bt2 i, rfl, upd_same, fun H11 bb1 hy => ⟨rfl, ?_⟩⟩
                            have e11 := new_same nx1 ndx1 ne1 bb1
                            have W11 := (W9.same e10).same e11
                            refine ⟨p, cu, _, m, _, _, _, n, es, lot, x, rfl, W11.lo, hcu.same e11, .inr ⟨y, rfl, hy⟩, hx, fun H12 z' e12 hz' => ?_⟩
                            obtain rfl := hz'.uniq hz
                            refine ⟨_, rfl, fewN m (bt0 i) (bt1 i) (bt2 i) z', fewN m (bt0 i) (bt1 i) (bt2 i) z', rfl, _, rfl, ?_⟩
                            rw [decide_eq_true rfl]
                            have e712 := ((e9.trans e10).trans e11).trans e12
                            exact iteFo rfl ⟨_, _, _, _, _, _, rfl, (st7.ev Ev1).same e712, W7.same e712⟩
              · obtain ⟨y9, y10, y11, y12, y13, y14, rfl, _, W1⟩ := pv
                exact ⟨_, _, _, _, _, _, rfl, W1⟩
            · clear W Ev0
              obtain ⟨y9, y10, y11, y12, y13, y14, rfl, W⟩ := hM
              -- the plain one
              refine ⟨fun τ H' => ∃ ef, τ = sg [some (.ref s0), some (.ref h), some (.ref R), some (.ref R1), some (.ref q0), some (.ref p), y6, some (.int (sh : Nat)), some (.ref f0), y9, y10, y11, y12, y13, y14, some (.ref ef)] ∧ EvIs G ac.C N H' ef m true true false (few m true true false "far") (few m true true false "loose") (few m true true false "bound") ∧ Lw a.C h c q0 p R R1 n es lot m m1 H', ?_, fun τ H' hM => ?_⟩
              · refine ⟨_, rfl, R, m, rfl, hm, W.r, fun H7 cu e7 hcu => ?_⟩
                refine ⟨cu, .non, m, true, true, false, rfl, hcu, .inl ⟨rfl, rfl, rfl, rfl⟩, fun H9 ef e9 Ev => ?_⟩
                exact ⟨ef, rfl, Ev, (W.same e7).same e9⟩
              · clear W
                obtain ⟨ef, rfl, Ev, W⟩ := hM
                refine ⟨fun τ H' => τ = sg [some (.ref s0), some (.ref h), some (.ref R), some (.ref R1), some (.ref q0), some (.ref p), y6, some (.int (sh : Nat)), some (.ref f0), y9, y10, y11, y12, y13, y14, some (.ref ef)] ∧ EvIs G ac.C N H' ef m true true false (few m true true false "far") (few m true true false "loose") (few m true true false "bound") ∧ Lw a.C h c q0 p R R1 n es lot m m1 H', ?_, fun τ H' hM => ?_⟩
                · refine ⟨_, rfl, _, rfl, by show 3 ≤ sizeLine; decide, fun ct nct => ?_⟩
                  have e1 := al (o := .tup [.bl true, .bl true, .bl false]) nct
                  have hct : upd H' ct (.tup [.bl true, .bl true, .bl false]) ct = some (.tup [.bl true, .bl true, .bl false]) := upd_same
                  generalize upd H' ct (.tup [.bl true, .bl true, .bl false]) = H6 at e1 hct ⊢
                  have W6 := W.same e1
                  refine ⟨_, rfl, _, rfl, ef, R, ct, q0, p, m, true, true, false, n, es, lot, rfl, Ev.same e1, hm, W6.r, hct, W6.la, n5, e32, W6.lo, fun H7 e7 => ?_⟩
                  refine ⟨_, rfl, ?_⟩
                  refine iteFo rfl ?_
                  have Ev7 := (Ev.same e1).same e7
                  obtain ⟨dx, cu, co, hp, hcu, hco⟩ := Ev7.at_
                  refine ⟨.ref ef, rfl, ef, G, dx, _, _, rfl, hp, TE.cl, TE.nA _ (by decide), rfl, ?_⟩
                  intro x dx1 nx1 ndx1 ne1
                  refine ⟨x, dx1, true, true, false, rfl, upd_same, fun H8 bb1 hx => ⟨rfl, ?_⟩⟩
                  have e8 := new_same nx1 ndx1 ne1 bb1
                  obtain ⟨d3, g3⟩ := id (hco.same e8)
                  obtain ⟨d4, g4⟩ := id hx
                  refine ⟨co, _, _, x, _, rfl, rfl, g3, .base (.ins g4 TN.cl TN.ha TN.hn TN.ht TN.hm), by simp [PySem.W.notFirst], co, x, _, _, _, _, _, _, rfl, hco.same e8, hx, ?_⟩
                  refine ⟨_, rfl, _, rfl, ?_⟩
                  rw [decide_eq_true (by exact ⟨rfl, rfl, rfl⟩)]
                  exact iteFo rfl ⟨rfl, Ev7.same e8, (W6.same e7).same e8⟩
                · clear W Ev
                  obtain ⟨rfl, Ev, W⟩ := hM
                  -- the second
                  refine ⟨fun τ H' => ∃ g0, τ = sg [some (.ref s0), some (.ref h), some (.ref R), some (.ref R1), some (.ref q0), some (.ref p), y6, some (.int (sh : Nat)), some (.ref f0), y9, y10, y11, y12, y13, y14, some (.ref ef), some (.ref g0)] ∧ EvIs G ac.C N H' g0 m1 true true false (few m1 true true false "far") (few m1 true true false "loose") (few m1 true true false "bound") ∧ EvIs G ac.C N H' ef m true true false (few m true true false "far") (few m true true false "loose") (few m true true false "bound") ∧ Lw a.C h c q0 p R R1 n es lot m m1 H', ?_, fun τ H' hM => ?_⟩
                  · refine ⟨_, rfl, R1, m1, rfl, hm1, W.r1, fun H7 cu e7 hcu => ?_⟩
                    intro x dx1 nx1 ndx1 ne1
                    refine ⟨x, dx1, true, true, false, rfl, upd_same, fun H8 bb1 hx => ⟨rfl, ?_⟩⟩
                    have e8 := new_same nx1 ndx1 ne1 bb1
                    refine ⟨cu, _, m1, true, true, false, rfl, hcu.same e8, .inr ⟨x, rfl, hx⟩, fun H9 g0 e9 Ev1 => ?_⟩
                    have e79 := (e7.trans e8).trans e9
                    exact ⟨g0, rfl, Ev1, Ev.same e79, W.same e79⟩
                  · clear W Ev
                    obtain ⟨g0, rfl, Ev1, Ev, W⟩ := hM
                    obtain ⟨dx, cu, co, hp, _⟩ := Ev.at_
                    obtain ⟨dy, cu', co', hp', _⟩ := Ev1.at_
                    refine ⟨fun τ H' => τ = sg [some (.ref s0), some (.ref h), some (.ref R), some (.ref R1), some (.ref q0), some (.ref p), y6, some (.int (sh : Nat)), some (.ref f0), y9, y10, y11, y12, y13, y14, some (.ref ef), some (.ref g0)] ∧ EvIs G ac.C N H' ef m true true false (few m true true false "far") (few m true true false "loose") (few m true true false "bound") ∧ Lw a.C h c q0 p R R1 n es lot m m1 H', ?_, fun τ H' hM => ?_⟩
                    · refine ⟨_, rfl, _, rfl, ef, _, _, g0, _, rfl, rfl, hp, .base (.ins hp' TE.cl TE.ha TE.hn TE.ht TE.hm), by simp [PySem.W.notFirst], ef, g0, m, _, _, _, _, _, _, rfl, Ev, .inl ⟨m1, _, _, _, _, _, _, Ev1, ?_⟩⟩
                      refine ⟨_, rfl, _, rfl, .list ((C.rowOf m).map PyData.str), .list ((C.rowOf m1).map PyData.str), .lst (.inl (.inl W.r)) (C.dp_strs _), .lst (.inl (.inl W.r1)) (C.dp_strs _), (C.shaped_strs _ (C.row_ok hm)).2, (C.shaped_strs _ (C.row_ok hm1)).2, ?_⟩
                      rw [show PyData.eqv (.list ((C.rowOf m).map PyData.str)) (.list ((C.rowOf m1).map PyData.str)) = decide (m = m1) from (by rw [show PyData.eqv (.list ((C.rowOf m).map PyData.str)) (.list ((C.rowOf m1).map PyData.str)) = PyData.eqvAll ((C.rowOf m).map PyData.str) ((C.rowOf m1).map PyData.str) by simp [PyData.eqv], C.eqv_strs]; exact decide_eq_decide.mpr (C.row_inj hm hm1))]
                      refine ⟨_, _, rfl, _, rfl, ?_⟩
                      rw [decide_eq_true (decide_eq_decide.mpr (show (m = m1 ∧ true = true ∧ true = true ∧ false = false) ↔ m = m1 from ⟨fun z => z.1, fun z => ⟨z, rfl, rfl, rfl⟩⟩))]
                      refine iteFo rfl ?_
                      refine ⟨_, rfl, _, rfl, ef, _, _, R, _, rfl, rfl, hp, .base (.lst W.r), nfL, ef, R, m, _, _, _, _, _, _, rfl, Ev, .inr (.inl ⟨_, W.r, ?_⟩)⟩
                      refine ⟨_, rfl, ?_⟩
                      refine iteFo rfl ?_
                      refine ⟨_, rfl, _, rfl, R, m, rfl, hm, W.r, fun H7 cu1 e7 hcu1 => ?_⟩
                      obtain ⟨_, d1, t1, g1, _⟩ := id hcu1
                      refine ⟨ef, _, _, cu1, _, rfl, rfl, e7 _ _ hp, .base (.ins g1 TD.cl TD.ha TD.hn TD.ht TD.hm), nfD, ef, cu1, m, _, _, _, _, _, _, rfl, Ev.same e7, .inr (.inr ⟨m, hcu1, ?_⟩)⟩
                      refine ⟨_, rfl, ?_⟩
                      exact iteFo rfl ⟨rfl, Ev.same e7, W.same e7⟩
                    · clear W Ev hp hp' Ev1
                      obtain ⟨rfl, Ev, W⟩ := hM
                      obtain ⟨rA1, sA1, ts1, g1, _⟩ := W.la.at_
                      -- what is no cell
                      refine ⟨fun τ H' => ∃ x, τ = sg [some (.ref s0), some (.ref h), some (.ref R), some (.ref R1), some (.ref q0), some (.ref p), y6, some (.int (sh : Nat)), some (.ref f0), y9, y10, y11, y12, y13, y14, some (.ref ef), some (.ref g0), some x] ∧ Flat4 x ∧ wholeV x 0 ((n : Nat) - 1) = false ∧ EvIs G ac.C N H' ef m true true false (few m true true false "far") (few m true true false "loose") (few m true true false "bound") ∧ Lw a.C h c q0 p R R1 n es lot m m1 H', ?_, fun τ H' hM => ?_⟩
                      · refine ⟨_, rfl, _, rfl, q0, _, _, _, rfl, rfl, .inl (.inl g1), atI_nat (j := 0) rfl, ?_⟩
                        refine ⟨_, rfl, _, rfl, q0, _, _, _, rfl, rfl, .inl (.inl g1), atI_nat (j := 0) rfl, ?_⟩
                        refine ⟨_, rfl, _, _, rfl, rfl, ⟨by decide, by decide, by decide⟩, h, c, _, rfl, W.hand, by decide, by decide, fun H9 r9 d9 r0 r1 => ?_⟩
                        refine ⟨_, _, rfl, rfl, ?_⟩
                        have W9 := W.drawn d9
                        have Ev9 := (Stay.of_drawn W.hand d9).ev Ev
                        refine ⟨by show 7 ≤ sizeLine; decide, fun l7 nl7 => ?_⟩
                        refine ⟨h, c, l7, _, rfl, W9.hand.same (al nl7), (W9.hand.ne nl7).1, upd_same, (show 0 < 7 by decide), (show 7 ≤ 1000 by decide), fun H10 j v d10 hv => ?_⟩
                        have W10 := (W9.same (al nl7)).drawn d10
                        have Ev10 := (Stay.of_drawn (W9.hand.same (al nl7)) d10).ev (Ev9.same (al nl7))
                        have big : ∀ x : Int, (n : Int) ≤ x → wholeV (.int x) 0 ((n : Nat) - 1) = false := fun x hx => by rw [wholeV_int, decide_eq_false (p := x ≤ (n : Nat) - 1) (by omega), Bool.and_false]
                        obtain ⟨f4, wf⟩ : Flat4 v ∧ wholeV v 0 ((n : Nat) - 1) = false := by
                          have m := List.mem_of_getElem? hv
                          simp only [List.mem_cons, List.not_mem_nil, or_false] at m
                          rcases m with rfl | rfl | rfl | rfl | rfl | rfl | rfl
                          · exact ⟨.int _, big _ (Int.le_refl _)⟩
                          · exact ⟨.int _, rfl⟩
                          · exact ⟨.bl _, rfl⟩
                          · exact ⟨.bl _, rfl⟩
                          · exact ⟨.non, rfl⟩
                          · exact ⟨.str _, rfl⟩
                          · exact ⟨.int _, big _ (by omega)⟩
                        exact ⟨v, rfl, f4, wf, Ev10, W10⟩
                      · clear W Ev
                        obtain ⟨x, rfl, f4, wf, Ev, W⟩ := hM
                        refine ⟨_, rfl, _, rfl, _, rfl, ef, p, m, _, _, _, _, _, _, n, es, lot, x, rfl, Ev, W.lo, f4, wf, fun H7 e7 => ?_⟩
                        refine ⟨true, rfl, _, rfl, _, rfl, R, m, rfl, hm, e7 _ _ W.r, fun H8 cu e8 hcu => ?_⟩
                        refine ⟨cu, .non, m, true, true, false, rfl, hcu, .inl ⟨rfl, rfl, rfl, rfl⟩, fun H9 g1 e9 Ev1 => ?_⟩
                        have Ev9 := ((Ev.same e7).same e8).same e9
                        obtain ⟨dx, cu, co, hp, _⟩ := Ev9.at_
                        obtain ⟨dy, cu', co', hp', _⟩ := Ev1.at_
                        refine ⟨ef, _, _, g1, _, rfl, rfl, hp, .base (.ins hp' TE.cl TE.ha TE.hn TE.ht TE.hm), by simp [PySem.W.notFirst], ef, g1, m, _, _, _, _, _, _, rfl, Ev9, .inl ⟨m, _, _, _, _, _, _, Ev1, ?_⟩⟩
                        rw [decide_eq_true (by exact ⟨rfl, rfl, rfl, rfl⟩)]
                        exact q _
end
end K7
end
/-! ## P27 -/
section
open PySem PySem.Spec PyProof.Rows L2
namespace K7
theorem all_mk {P : Program} {w : World} {K : PySem.W.Frag} {h : Heap} {mg : Str → Option Value} {fa : Addr} (X : K.In h) (G : h.Ns mainGlobals mg) (hfa : mg "law" = some (.ref fa))
  {f_sq : Addr}
  (a_sq : PySem.W.nsIn K mainGlobals "is_sequence" = some (some (.ref f_sq)))
  {od_sq an_sq : Option Addr}
  {sl_sq : Array (Option Value)}
  {oc_sq kV_sq dc_sq pm_sq cd_sq ct_sq : Value}
  (l_sq : K.lookup f_sq = some ⟨oc_sq, od_sq, .func (PySem.W.fnOf "is_sequence" "is_sequence" (defArgs s_is_sequence) (defBody s_is_sequence) (defScope s_is_sequence) .none kV_sq dc_sq pm_sq an_sq cd_sq ct_sq), sl_sq⟩)
  (c_sq : PySem.W.codeIn K cd_sq "is_sequence" = true)
  (k_sq : PySem.W.keepIn K (.ref f_sq) = true)
  {f_isw : Addr}
  (a_isw : PySem.W.nsIn K mainGlobals "is_whole" = some (some (.ref f_isw)))
  {od_isw an_isw : Option Addr}
  {sl_isw : Array (Option Value)}
  {oc_isw kV_isw dc_isw pm_isw cd_isw ct_isw : Value}
  (l_isw : K.lookup f_isw = some ⟨oc_isw, od_isw, .func (PySem.W.fnOf "is_whole" "is_whole" (defArgs s_is_whole) (defBody s_is_whole) (defScope s_is_whole) .none kV_isw dc_isw pm_isw an_isw cd_isw ct_isw), sl_isw⟩)
  (c_isw : PySem.W.codeIn K cd_isw "is_whole" = true)
  (k_isw : PySem.W.keepIn K (.ref f_isw) = true)
  {f_ac : Addr}
  (a_ac : PySem.W.nsIn K mainGlobals "are_cells" = some (some (.ref f_ac)))
  {od_ac an_ac : Option Addr}
  {sl_ac : Array (Option Value)}
  {oc_ac kV_ac dc_ac pm_ac cd_ac ct_ac : Value}
  (l_ac : K.lookup f_ac = some ⟨oc_ac, od_ac, .func (PySem.W.fnOf "are_cells" "are_cells" (defArgs s_are_cells) (defBody s_are_cells) (defScope s_are_cells) .none kV_ac dc_ac pm_ac an_ac cd_ac ct_ac), sl_ac⟩)
  (c_ac : PySem.W.codeIn K cd_ac "are_cells" = true)
  (k_ac : PySem.W.keepIn K (.ref f_ac) = true)
  {f_a2 : Addr}
  (a_a2 : PySem.W.nsIn K mainGlobals "are_two_cells" = some (some (.ref f_a2)))
  {od_a2 an_a2 : Option Addr}
  {sl_a2 : Array (Option Value)}
  {oc_a2 kV_a2 dc_a2 pm_a2 cd_a2 ct_a2 : Value}
  (l_a2 : K.lookup f_a2 = some ⟨oc_a2, od_a2, .func (PySem.W.fnOf "are_two_cells" "are_two_cells" (defArgs s_are_two_cells) (defBody s_are_two_cells) (defScope s_are_two_cells) .none kV_a2 dc_a2 pm_a2 an_a2 cd_a2 ct_a2), sl_a2⟩)
  (c_a2 : PySem.W.codeIn K cd_a2 "are_two_cells" = true)
  (k_a2 : PySem.W.keepIn K (.ref f_a2) = true)
  {f_ic : Addr}
  (a_ic : PySem.W.nsIn K mainGlobals "is_cell" = some (some (.ref f_ic)))
  {od_ic an_ic : Option Addr}
  {sl_ic : Array (Option Value)}
  {oc_ic kV_ic dc_ic pm_ic cd_ic ct_ic : Value}
  (l_ic : K.lookup f_ic = some ⟨oc_ic, od_ic, .func (PySem.W.fnOf "is_cell" "is_cell" (defArgs s_is_cell) (defBody s_is_cell) (defScope s_is_cell) .none kV_ic dc_ic pm_ic an_ic cd_ic ct_ic), sl_ic⟩)
  (c_ic : PySem.W.codeIn K cd_ic "is_cell" = true)
  (k_ic : PySem.W.keepIn K (.ref f_ic) = true)
  {f_ck : Addr}
  (a_ck : PySem.W.nsIn K mainGlobals "check_cells" = some (some (.ref f_ck)))
  {od_ck an_ck : Option Addr}
  {sl_ck : Array (Option Value)}
  {oc_ck kV_ck dc_ck pm_ck cd_ck ct_ck : Value}
  (l_ck : K.lookup f_ck = some ⟨oc_ck, od_ck, .func (PySem.W.fnOf "check_cells" "check_cells" (defArgs s_check_cells) (defBody s_check_cells) (defScope s_check_cells) .none kV_ck dc_ck pm_ck an_ck cd_ck ct_ck), sl_ck⟩)
  (c_ck : PySem.W.codeIn K cd_ck "check_cells" = true)
  (k_ck : PySem.W.keepIn K (.ref f_ck) = true)
  {f_sp : Addr}
  (a_sp : PySem.W.nsIn K mainGlobals "spread" = some (some (.ref f_sp)))
  {od_sp an_sp : Option Addr}
  {sl_sp : Array (Option Value)}
  {oc_sp kV_sp dc_sp pm_sp cd_sp ct_sp : Value}
  (l_sp : K.lookup f_sp = some ⟨oc_sp, od_sp, .func (PySem.W.fnOf "spread" "spread" (defArgs s_spread) (defBody s_spread) (defScope s_spread) .none kV_sp dc_sp pm_sp an_sp cd_sp ct_sp), sl_sp⟩)
  (c_sp : PySem.W.codeIn K cd_sp "spread" = true)
  (k_sp : PySem.W.keepIn K (.ref f_sp) = true)
  {f_ny : Addr}
  (a_ny : PySem.W.nsIn K mainGlobals "nearby_cells" = some (some (.ref f_ny)))
  {od_ny an_ny : Option Addr}
  {sl_ny : Array (Option Value)}
  {oc_ny kV_ny dc_ny pm_ny cd_ny ct_ny : Value}
  (l_ny : K.lookup f_ny = some ⟨oc_ny, od_ny, .func (PySem.W.fnOf "nearby_cells" "nearby_cells" (defArgs s_nearby_cells) (defBody s_nearby_cells) (defScope s_nearby_cells) .none kV_ny dc_ny pm_ny an_ny cd_ny ct_ny), sl_ny⟩)
  (c_ny : PySem.W.codeIn K cd_ny "nearby_cells" = true)
  (k_ny : PySem.W.keepIn K (.ref f_ny) = true)
  {f_ht : Addr}
  (a_ht : PySem.W.nsIn K mainGlobals "hang_together" = some (some (.ref f_ht)))
  {od_ht an_ht : Option Addr}
  {sl_ht : Array (Option Value)}
  {oc_ht kV_ht dc_ht pm_ht cd_ht ct_ht : Value}
  (l_ht : K.lookup f_ht = some ⟨oc_ht, od_ht, .func (PySem.W.fnOf "hang_together" "hang_together" (defArgs s_hang_together) (defBody s_hang_together) (defScope s_hang_together) .none kV_ht dc_ht pm_ht an_ht cd_ht ct_ht), sl_ht⟩)
  (c_ht : PySem.W.codeIn K cd_ht "hang_together" = true)
  (k_ht : PySem.W.keepIn K (.ref f_ht) = true)
  {f_nb : Addr}
  (a_nb : PySem.W.nsIn K mainGlobals "_are_neighbours" = some (some (.ref f_nb)))
  {od_nb an_nb : Option Addr}
  {sl_nb : Array (Option Value)}
  {oc_nb kV_nb dc_nb pm_nb cd_nb ct_nb : Value}
  (l_nb : K.lookup f_nb = some ⟨oc_nb, od_nb, .func (PySem.W.fnOf "_are_neighbours" "_are_neighbours" (defArgs s__are_neighbours) (defBody s__are_neighbours) (defScope s__are_neighbours) .none kV_nb dc_nb pm_nb an_nb cd_nb ct_nb), sl_nb⟩)
  (c_nb : PySem.W.codeIn K cd_nb "_are_neighbours" = true)
  (k_nb : PySem.W.keepIn K (.ref f_nb) = true)
  {f_op : Addr}
  (a_op : PySem.W.nsIn K mainGlobals "opens" = some (some (.ref f_op)))
  {od_op an_op : Option Addr}
  {sl_op : Array (Option Value)}
  {oc_op kV_op dc_op pm_op cd_op ct_op : Value}
  (l_op : K.lookup f_op = some ⟨oc_op, od_op, .func (PySem.W.fnOf "opens" "opens" (defArgs s_opens) (defBody s_opens) (defScope s_opens) .none kV_op dc_op pm_op an_op cd_op ct_op), sl_op⟩)
  (c_op : PySem.W.codeIn K cd_op "opens" = true)
  (k_op : PySem.W.keepIn K (.ref f_op) = true)
  {f_so : Addr}
  (a_so : PySem.W.nsIn K mainGlobals "sort_of" = some (some (.ref f_so)))
  {od_so an_so : Option Addr}
  {sl_so : Array (Option Value)}
  {oc_so kV_so dc_so pm_so cd_so ct_so : Value}
  (l_so : K.lookup f_so = some ⟨oc_so, od_so, .func (PySem.W.fnOf "sort_of" "sort_of" (defArgs s_sort_of) (defBody s_sort_of) (defScope s_sort_of) .none kV_so dc_so pm_so an_so cd_so ct_so), sl_so⟩)
  (c_so : PySem.W.codeIn K cd_so "sort_of" = true)
  (k_so : PySem.W.keepIn K (.ref f_so) = true)
  {f_nr : Addr}
  (a_nr : PySem.W.nsIn K mainGlobals "near_roads" = some (some (.ref f_nr)))
  {od_nr an_nr : Option Addr}
  {sl_nr : Array (Option Value)}
  {oc_nr kV_nr dc_nr pm_nr cd_nr ct_nr : Value}
  (l_nr : K.lookup f_nr = some ⟨oc_nr, od_nr, .func (PySem.W.fnOf "near_roads" "near_roads" (defArgs s_near_roads) (defBody s_near_roads) (defScope s_near_roads) .none kV_nr dc_nr pm_nr an_nr cd_nr ct_nr), sl_nr⟩)
  (c_nr : PySem.W.codeIn K cd_nr "near_roads" = true)
  (k_nr : PySem.W.keepIn K (.ref f_nr) = true)
  {f_mt : Addr}
  (a_mt : PySem.W.nsIn K mainGlobals "meant" = some (some (.ref f_mt)))
  {od_mt an_mt : Option Addr}
  {sl_mt : Array (Option Value)}
  {oc_mt kV_mt dc_mt pm_mt cd_mt ct_mt : Value}
  (l_mt : K.lookup f_mt = some ⟨oc_mt, od_mt, .func (PySem.W.fnOf "meant" "meant" (defArgs s_meant) (defBody s_meant) (defScope s_meant) .none kV_mt dc_mt pm_mt an_mt cd_mt ct_mt), sl_mt⟩)
  (c_mt : PySem.W.codeIn K cd_mt "meant" = true)
  (k_mt : PySem.W.keepIn K (.ref f_mt) = true)
  {f_ca : Addr}
  (a_ca : PySem.W.nsIn K mainGlobals "_case" = some (some (.ref f_ca)))
  {od_ca an_ca : Option Addr}
  {sl_ca : Array (Option Value)}
  {oc_ca kV_ca dc_ca pm_ca cd_ca ct_ca : Value}
  (l_ca : K.lookup f_ca = some ⟨oc_ca, od_ca, .func (PySem.W.fnOf "_case" "_case" (defArgs s__case) (defBody s__case) (defScope s__case) .none kV_ca dc_ca pm_ca an_ca cd_ca ct_ca), sl_ca⟩)
  (c_ca : PySem.W.codeIn K cd_ca "_case" = true)
  (k_ca : PySem.W.keepIn K (.ref f_ca) = true)
  {f_oa : Addr}
  (a_oa : PySem.W.nsIn K mainGlobals "on_all_lands" = some (some (.ref f_oa)))
  {od_oa an_oa : Option Addr}
  {sl_oa : Array (Option Value)}
  {oc_oa kV_oa dc_oa pm_oa cd_oa ct_oa : Value}
  {dt_oa : Addr}
  (l_oa : K.lookup f_oa = some ⟨oc_oa, od_oa, .func (PySem.W.fnOf "on_all_lands" "on_all_lands" (defArgs s_on_all_lands) (defBody s_on_all_lands) (defScope s_on_all_lands) (.ref dt_oa) kV_oa dc_oa pm_oa an_oa cd_oa ct_oa), sl_oa⟩)
  (c_oa : PySem.W.codeIn K cd_oa "on_all_lands" = true)
  (k_oa : PySem.W.keepIn K (.ref f_oa) = true)
  {to_oa : Value}
  {td_oa : Option Addr}
  {it_oa : Array Value}
  {iz_oa : Nat}
  {ts_oa : Array (Option Value)}
  (ld_oa : K.lookup dt_oa = some ⟨to_oa, td_oa, .seq it_oa iz_oa, ts_oa⟩)
  (vd_oa : Vals [.non] it_oa.toList)
  {f_fd : Addr}
  (a_fd : PySem.W.nsIn K mainGlobals "fewest_deeds" = some (some (.ref f_fd)))
  {od_fd an_fd : Option Addr}
  {sl_fd : Array (Option Value)}
  {oc_fd kV_fd dc_fd pm_fd cd_fd ct_fd : Value}
  {dt_fd : Addr}
  (l_fd : K.lookup f_fd = some ⟨oc_fd, od_fd, .func (PySem.W.fnOf "fewest_deeds" "fewest_deeds" (defArgs s_fewest_deeds) (defBody s_fewest_deeds) (defScope s_fewest_deeds) (.ref dt_fd) kV_fd dc_fd pm_fd an_fd cd_fd ct_fd), sl_fd⟩)
  (c_fd : PySem.W.codeIn K cd_fd "fewest_deeds" = true)
  (k_fd : PySem.W.keepIn K (.ref f_fd) = true)
  {to_fd : Value}
  {td_fd : Option Addr}
  {it_fd : Array Value}
  {iz_fd : Nat}
  {ts_fd : Array (Option Value)}
  (ld_fd : K.lookup dt_fd = some ⟨to_fd, td_fd, .seq it_fd iz_fd, ts_fd⟩)
  (vd_fd : Vals [.non] it_fd.toList)
  {f_mi : Addr}
  (a_mi : PySem.W.nsIn K mainGlobals "_law_mix" = some (some (.ref f_mi)))
  {od_mi an_mi : Option Addr}
  {sl_mi : Array (Option Value)}
  {oc_mi kV_mi dc_mi pm_mi cd_mi ct_mi : Value}
  (l_mi : K.lookup f_mi = some ⟨oc_mi, od_mi, .func (PySem.W.fnOf "_law_mix" "_law_mix" (defArgs s__law_mix) (defBody s__law_mix) (defScope s__law_mix) .none kV_mi dc_mi pm_mi an_mi cd_mi ct_mi), sl_mi⟩)
  (c_mi : PySem.W.codeIn K cd_mi "_law_mix" = true)
  (k_mi : PySem.W.keepIn K (.ref f_mi) = true)
  {f_ha : Addr}
  (a_ha : PySem.W.nsIn K mainGlobals "_law_hand" = some (some (.ref f_ha)))
  {od_ha an_ha : Option Addr}
  {sl_ha : Array (Option Value)}
  {oc_ha kV_ha dc_ha pm_ha cd_ha ct_ha : Value}
  (l_ha : K.lookup f_ha = some ⟨oc_ha, od_ha, .func (PySem.W.fnOf "_law_hand" "_law_hand" (defArgs s__law_hand) (defBody s__law_hand) (defScope s__law_hand) .none kV_ha dc_ha pm_ha an_ha cd_ha ct_ha), sl_ha⟩)
  (c_ha : PySem.W.codeIn K cd_ha "_law_hand" = true)
  (k_ha : PySem.W.keepIn K (.ref f_ha) = true)
  {f_dr : Addr}
  (a_dr : PySem.W.nsIn K mainGlobals "_law_draw" = some (some (.ref f_dr)))
  {od_dr an_dr : Option Addr}
  {sl_dr : Array (Option Value)}
  {oc_dr kV_dr dc_dr pm_dr cd_dr ct_dr : Value}
  (l_dr : K.lookup f_dr = some ⟨oc_dr, od_dr, .func (PySem.W.fnOf "_law_draw" "_law_draw" (defArgs s__law_draw) (defBody s__law_draw) (defScope s__law_draw) .none kV_dr dc_dr pm_dr an_dr cd_dr ct_dr), sl_dr⟩)
  (c_dr : PySem.W.codeIn K cd_dr "_law_draw" = true)
  (k_dr : PySem.W.keepIn K (.ref f_dr) = true)
  {f_pk : Addr}
  (a_pk : PySem.W.nsIn K mainGlobals "_law_pick" = some (some (.ref f_pk)))
  {od_pk an_pk : Option Addr}
  {sl_pk : Array (Option Value)}
  {oc_pk kV_pk dc_pk pm_pk cd_pk ct_pk : Value}
  (l_pk : K.lookup f_pk = some ⟨oc_pk, od_pk, .func (PySem.W.fnOf "_law_pick" "_law_pick" (defArgs s__law_pick) (defBody s__law_pick) (defScope s__law_pick) .none kV_pk dc_pk pm_pk an_pk cd_pk ct_pk), sl_pk⟩)
  (c_pk : PySem.W.codeIn K cd_pk "_law_pick" = true)
  (k_pk : PySem.W.keepIn K (.ref f_pk) = true)
  {f_lo : Addr}
  (a_lo : PySem.W.nsIn K mainGlobals "_law_lots" = some (some (.ref f_lo)))
  {od_lo an_lo : Option Addr}
  {sl_lo : Array (Option Value)}
  {oc_lo kV_lo dc_lo pm_lo cd_lo ct_lo : Value}
  (l_lo : K.lookup f_lo = some ⟨oc_lo, od_lo, .func (PySem.W.fnOf "_law_lots" "_law_lots" (defArgs s__law_lots) (defBody s__law_lots) (defScope s__law_lots) .none kV_lo dc_lo pm_lo an_lo cd_lo ct_lo), sl_lo⟩)
  (c_lo : PySem.W.codeIn K cd_lo "_law_lots" = true)
  (k_lo : PySem.W.keepIn K (.ref f_lo) = true)
  {f_ld : Addr}
  (a_ld : PySem.W.nsIn K mainGlobals "_law_land" = some (some (.ref f_ld)))
  {od_ld an_ld : Option Addr}
  {sl_ld : Array (Option Value)}
  {oc_ld kV_ld dc_ld pm_ld cd_ld ct_ld : Value}
  (l_ld : K.lookup f_ld = some ⟨oc_ld, od_ld, .func (PySem.W.fnOf "_law_land" "_law_land" (defArgs s__law_land) (defBody s__law_land) (defScope s__law_land) .none kV_ld dc_ld pm_ld an_ld cd_ld ct_ld), sl_ld⟩)
  (c_ld : PySem.W.codeIn K cd_ld "_law_land" = true)
  (k_ld : PySem.W.keepIn K (.ref f_ld) = true)
  {f_lc : Addr}
  (a_lc : PySem.W.nsIn K mainGlobals "_law_comes" = some (some (.ref f_lc)))
  {od_lc an_lc : Option Addr}
  {sl_lc : Array (Option Value)}
  {oc_lc kV_lc dc_lc pm_lc cd_lc ct_lc : Value}
  (l_lc : K.lookup f_lc = some ⟨oc_lc, od_lc, .func (PySem.W.fnOf "_law_comes" "_law_comes" (defArgs s__law_comes) (defBody s__law_comes) (defScope s__law_comes) .none kV_lc dc_lc pm_lc an_lc cd_lc ct_lc), sl_lc⟩)
  (c_lc : PySem.W.codeIn K cd_lc "_law_comes" = true)
  (k_lc : PySem.W.keepIn K (.ref f_lc) = true)
  {f_lp : Addr}
  (a_lp : PySem.W.nsIn K mainGlobals "_law_open" = some (some (.ref f_lp)))
  {od_lp an_lp : Option Addr}
  {sl_lp : Array (Option Value)}
  {oc_lp kV_lp dc_lp pm_lp cd_lp ct_lp : Value}
  (l_lp : K.lookup f_lp = some ⟨oc_lp, od_lp, .func (PySem.W.fnOf "_law_open" "_law_open" (defArgs s__law_open) (defBody s__law_open) (defScope s__law_open) .none kV_lp dc_lp pm_lp an_lp cd_lp ct_lp), sl_lp⟩)
  (c_lp : PySem.W.codeIn K cd_lp "_law_open" = true)
  (k_lp : PySem.W.keepIn K (.ref f_lp) = true)
  {f_wo : Addr}
  (a_wo : PySem.W.nsIn K mainGlobals "_law_words" = some (some (.ref f_wo)))
  {od_wo an_wo : Option Addr}
  {sl_wo : Array (Option Value)}
  {oc_wo kV_wo dc_wo pm_wo cd_wo ct_wo : Value}
  (l_wo : K.lookup f_wo = some ⟨oc_wo, od_wo, .func (PySem.W.fnOf "_law_words" "_law_words" (defArgs s__law_words) (defBody s__law_words) (defScope s__law_words) .none kV_wo dc_wo pm_wo an_wo cd_wo ct_wo), sl_wo⟩)
  (c_wo : PySem.W.codeIn K cd_wo "_law_words" = true)
  (k_wo : PySem.W.keepIn K (.ref f_wo) = true)
  {f_cu : Addr}
  (a_cu : PySem.W.nsIn K mainGlobals "_law_custom" = some (some (.ref f_cu)))
  {od_cu an_cu : Option Addr}
  {sl_cu : Array (Option Value)}
  {oc_cu kV_cu dc_cu pm_cu cd_cu ct_cu : Value}
  (l_cu : K.lookup f_cu = some ⟨oc_cu, od_cu, .func (PySem.W.fnOf "_law_custom" "_law_custom" (defArgs s__law_custom) (defBody s__law_custom) (defScope s__law_custom) .none kV_cu dc_cu pm_cu an_cu cd_cu ct_cu), sl_cu⟩)
  (c_cu : PySem.W.codeIn K cd_cu "_law_custom" = true)
  (k_cu : PySem.W.keepIn K (.ref f_cu) = true)
  {f_ls : Addr}
  (a_ls : PySem.W.nsIn K mainGlobals "_law_sort" = some (some (.ref f_ls)))
  {od_ls an_ls : Option Addr}
  {sl_ls : Array (Option Value)}
  {oc_ls kV_ls dc_ls pm_ls cd_ls ct_ls : Value}
  (l_ls : K.lookup f_ls = some ⟨oc_ls, od_ls, .func (PySem.W.fnOf "_law_sort" "_law_sort" (defArgs s__law_sort) (defBody s__law_sort) (defScope s__law_sort) .none kV_ls dc_ls pm_ls an_ls cd_ls ct_ls), sl_ls⟩)
  (c_ls : PySem.W.codeIn K cd_ls "_law_sort" = true)
  (k_ls : PySem.W.keepIn K (.ref f_ls) = true)
  {f_nu : Addr}
  (a_nu : PySem.W.nsIn K mainGlobals "_law_number" = some (some (.ref f_nu)))
  {od_nu an_nu : Option Addr}
  {sl_nu : Array (Option Value)}
  {oc_nu kV_nu dc_nu pm_nu cd_nu ct_nu : Value}
  (l_nu : K.lookup f_nu = some ⟨oc_nu, od_nu, .func (PySem.W.fnOf "_law_number" "_law_number" (defArgs s__law_number) (defBody s__law_number) (defScope s__law_number) .none kV_nu dc_nu pm_nu an_nu cd_nu ct_nu), sl_nu⟩)
  (c_nu : PySem.W.codeIn K cd_nu "_law_number" = true)
  (k_nu : PySem.W.keepIn K (.ref f_nu) = true)
  {f_ma : Addr}
  (a_ma : PySem.W.nsIn K mainGlobals "_law_made" = some (some (.ref f_ma)))
  {od_ma an_ma : Option Addr}
  {sl_ma : Array (Option Value)}
  {oc_ma kV_ma dc_ma pm_ma cd_ma ct_ma : Value}
  (l_ma : K.lookup f_ma = some ⟨oc_ma, od_ma, .func (PySem.W.fnOf "_law_made" "_law_made" (defArgs s__law_made) (defBody s__law_made) (defScope s__law_made) .none kV_ma dc_ma pm_ma an_ma cd_ma ct_ma), sl_ma⟩)
  (c_ma : PySem.W.codeIn K cd_ma "_law_made" = true)
  (k_ma : PySem.W.keepIn K (.ref f_ma) = true)
  {f_tr : Addr}
  (a_tr : PySem.W.nsIn K mainGlobals "_law_truth" = some (some (.ref f_tr)))
  {od_tr an_tr : Option Addr}
  {sl_tr : Array (Option Value)}
  {oc_tr kV_tr dc_tr pm_tr cd_tr ct_tr : Value}
  (l_tr : K.lookup f_tr = some ⟨oc_tr, od_tr, .func (PySem.W.fnOf "_law_truth" "_law_truth" (defArgs s__law_truth) (defBody s__law_truth) (defScope s__law_truth) .none kV_tr dc_tr pm_tr an_tr cd_tr ct_tr), sl_tr⟩)
  (c_tr : PySem.W.codeIn K cd_tr "_law_truth" = true)
  (k_tr : PySem.W.keepIn K (.ref f_tr) = true)
  {f_li : Addr}
  (a_li : PySem.W.nsIn K mainGlobals "_law_is" = some (some (.ref f_li)))
  {od_li an_li : Option Addr}
  {sl_li : Array (Option Value)}
  {oc_li kV_li dc_li pm_li cd_li ct_li : Value}
  (l_li : K.lookup f_li = some ⟨oc_li, od_li, .func (PySem.W.fnOf "_law_is" "_law_is" (defArgs s__law_is) (defBody s__law_is) (defScope s__law_is) .none kV_li dc_li pm_li an_li cd_li ct_li), sl_li⟩)
  (c_li : PySem.W.codeIn K cd_li "_law_is" = true)
  (k_li : PySem.W.keepIn K (.ref f_li) = true)
  {f_nc : Addr}
  (a_nc : PySem.W.nsIn K mainGlobals "_law_no_cell" = some (some (.ref f_nc)))
  {od_nc an_nc : Option Addr}
  {sl_nc : Array (Option Value)}
  {oc_nc kV_nc dc_nc pm_nc cd_nc ct_nc : Value}
  (l_nc : K.lookup f_nc = some ⟨oc_nc, od_nc, .func (PySem.W.fnOf "_law_no_cell" "_law_no_cell" (defArgs s__law_no_cell) (defBody s__law_no_cell) (defScope s__law_no_cell) .none kV_nc dc_nc pm_nc an_nc cd_nc ct_nc), sl_nc⟩)
  (c_nc : PySem.W.codeIn K cd_nc "_law_no_cell" = true)
  (k_nc : PySem.W.keepIn K (.ref f_nc) = true)
  {f_rt : Addr}
  (a_rt : PySem.W.nsIn K mainGlobals "_law_right" = some (some (.ref f_rt)))
  {od_rt an_rt : Option Addr}
  {sl_rt : Array (Option Value)}
  {oc_rt kV_rt dc_rt pm_rt cd_rt ct_rt : Value}
  (l_rt : K.lookup f_rt = some ⟨oc_rt, od_rt, .func (PySem.W.fnOf "_law_right" "_law_right" (defArgs s__law_right) (defBody s__law_right) (defScope s__law_right) .none kV_rt dc_rt pm_rt an_rt cd_rt ct_rt), sl_rt⟩)
  (c_rt : PySem.W.codeIn K cd_rt "_law_right" = true)
  (k_rt : PySem.W.keepIn K (.ref f_rt) = true)
  {f_la : Addr}
  (a_la : PySem.W.nsIn K mainGlobals "law" = some (some (.ref f_la)))
  {od_la an_la : Option Addr}
  {sl_la : Array (Option Value)}
  {oc_la kV_la dc_la pm_la cd_la ct_la : Value}
  (l_la : K.lookup f_la = some ⟨oc_la, od_la, .func (PySem.W.fnOf "law" "law" (defArgs s_law) (defBody s_law) (defScope s_law) .none kV_la dc_la pm_la an_la cd_la ct_la), sl_la⟩)
  (c_la : PySem.W.codeIn K cd_la "law" = true)
  (k_la : PySem.W.keepIn K (.ref f_la) = true)
  {L : Addr}
  (aL : PySem.W.nsIn K mainGlobals "LandError" = some (some (.ref L)))
  (eL : PySem.W.subIn K (.ref L) (.type "BaseException") = some true)
  (dL : PySem.W.hasDictIn K L = true)
  (tL : PySem.W.typeIn K (.ref L) = some (.type "type"))
  (icL : PySem.W.isClsIn K L = true)
  (hnO : PySem.W.specialIn K (.builtin "object.__class__") "__get__" = some (some (.builtin "getset_descriptor.__get__")))
  (htO : PySem.W.takesIn K (.builtin "object.__class__") = some true)
  {LC : Addr}
  (aLC : PySem.W.nsIn K mainGlobals "Land" = some (some (.ref LC)))
  (pgLC : PySem.W.plainGet K LC Str.empty = true)
  (hdLC : PySem.W.hasDictIn K LC = true)
  (poLC : PySem.W.plainOver K LC = true)
  (saLC : PySem.W.findIn K (.ref LC) "__setattr__" = some (some (.builtin "object.__setattr__")))
  (mkLC : PySem.W.makesIn K LC = true)
  (kcLC : PySem.W.keepIn K (.ref LC) = true)
  (haLC : PySem.W.findIn K (.ref LC) "__class__" = some (some (.builtin "object.__class__")))
  (hmLC : PySem.W.mroIn K LC (.type "object") = some true)
  (n_LC_cells : PySem.W.findIn K (.ref LC) "cells" = some none)
  (n_LC_neighbours : PySem.W.findIn K (.ref LC) "neighbours" = some none)
  (n_LC_roads : PySem.W.findIn K (.ref LC) "roads" = some none)
  (n_LC_nearby : PySem.W.findIn K (.ref LC) "nearby" = some none)
  (n_LC__couples : PySem.W.findIn K (.ref LC) "_couples" = some none)
  {f_cI : Addr}
  (a_cI : PySem.W.findIn K (.ref LC) "__init__" = some (some (.ref f_cI)))
  (i_cI : PySem.W.isFn K (.ref f_cI) = true)
  {od_cI an_cI : Option Addr}
  {sl_cI : Array (Option Value)}
  {oc_cI kV_cI dc_cI pm_cI cd_cI ct_cI : Value}
  (l_cI : K.lookup f_cI = some ⟨oc_cI, od_cI, .func (PySem.W.fnOf "__init__" "Land.__init__" (defArgs s_Land___init__) (defBody s_Land___init__) (defScope s_Land___init__) .none kV_cI dc_cI pm_cI an_cI cd_cI ct_cI), sl_cI⟩)
  (c_cI : PySem.W.codeIn K cd_cI "Land.__init__" = true)
  (k_cI : PySem.W.keepIn K (.ref f_cI) = true)
  {f_cR : Addr}
  (a_cR : PySem.W.findIn K (.ref LC) "is_road" = some (some (.ref f_cR)))
  (i_cR : PySem.W.isFn K (.ref f_cR) = true)
  {od_cR an_cR : Option Addr}
  {sl_cR : Array (Option Value)}
  {oc_cR kV_cR dc_cR pm_cR cd_cR ct_cR : Value}
  (l_cR : K.lookup f_cR = some ⟨oc_cR, od_cR, .func (PySem.W.fnOf "is_road" "Land.is_road" (defArgs s_Land_is_road) (defBody s_Land_is_road) (defScope s_Land_is_road) .none kV_cR dc_cR pm_cR an_cR cd_cR ct_cR), sl_cR⟩)
  (c_cR : PySem.W.codeIn K cd_cR "Land.is_road" = true)
  (k_cR : PySem.W.keepIn K (.ref f_cR) = true)
  {CC : Addr}
  (aCC : PySem.W.nsIn K mainGlobals "Custom" = some (some (.ref CC)))
  (pgCC : PySem.W.plainGet K CC Str.empty = true)
  (hdCC : PySem.W.hasDictIn K CC = true)
  (poCC : PySem.W.plainOver K CC = true)
  (saCC : PySem.W.findIn K (.ref CC) "__setattr__" = some (some (.builtin "object.__setattr__")))
  (mkCC : PySem.W.makesIn K CC = true)
  (kcCC : PySem.W.keepIn K (.ref CC) = true)
  (haCC : PySem.W.findIn K (.ref CC) "__class__" = some (some (.builtin "object.__class__")))
  (hmCC : PySem.W.mroIn K CC (.type "object") = some true)
  (neCC : PySem.W.findIn K (.ref CC) "__ne__" = some (some (.builtin "object.__ne__")))
  (ssCC : PySem.W.subIn K (.ref CC) (.ref CC) = some true)
  (icCC : PySem.W.isClsIn K CC = true)
  (tyCC : PySem.W.typeIn K (.ref CC) = some (.type "type"))
  (stCC : PySem.W.subIn K (.type "tuple") (.ref CC) = some false)
  (n_CC_untold : PySem.W.findIn K (.ref CC) "untold" = some none)
  (n_CC_joined : PySem.W.findIn K (.ref CC) "joined" = some none)
  (n_CC_sold : PySem.W.findIn K (.ref CC) "sold" = some none)
  (n_CC_kept : PySem.W.findIn K (.ref CC) "kept" = some none)
  (n_CC_ends : PySem.W.findIn K (.ref CC) "ends" = some none)
  (n_CC_row : PySem.W.findIn K (.ref CC) "row" = some none)
  (n_CC_number : PySem.W.findIn K (.ref CC) "number" = some none)
  {f_uI : Addr}
  (a_uI : PySem.W.findIn K (.ref CC) "__init__" = some (some (.ref f_uI)))
  (i_uI : PySem.W.isFn K (.ref f_uI) = true)
  {od_uI an_uI : Option Addr}
  {sl_uI : Array (Option Value)}
  {oc_uI kV_uI dc_uI pm_uI cd_uI ct_uI : Value}
  (l_uI : K.lookup f_uI = some ⟨oc_uI, od_uI, .func (PySem.W.fnOf "__init__" "Custom.__init__" (defArgs C.s_Custom___init__) (defBody C.s_Custom___init__) (defScope C.s_Custom___init__) .none kV_uI dc_uI pm_uI an_uI cd_uI ct_uI), sl_uI⟩)
  (c_uI : PySem.W.codeIn K cd_uI "Custom.__init__" = true)
  (k_uI : PySem.W.keepIn K (.ref f_uI) = true)
  {f_uE : Addr}
  (a_uE : PySem.W.findIn K (.ref CC) "__eq__" = some (some (.ref f_uE)))
  (i_uE : PySem.W.isFn K (.ref f_uE) = true)
  {od_uE an_uE : Option Addr}
  {sl_uE : Array (Option Value)}
  {oc_uE kV_uE dc_uE pm_uE cd_uE ct_uE : Value}
  (l_uE : K.lookup f_uE = some ⟨oc_uE, od_uE, .func (PySem.W.fnOf "__eq__" "Custom.__eq__" (defArgs C.s_Custom___eq__) (defBody C.s_Custom___eq__) (defScope C.s_Custom___eq__) .none kV_uE dc_uE pm_uE an_uE cd_uE ct_uE), sl_uE⟩)
  (c_uE : PySem.W.codeIn K cd_uE "Custom.__eq__" = true)
  (k_uE : PySem.W.keepIn K (.ref f_uE) = true)
  {NC : Addr}
  (aNC : PySem.W.nsIn K mainGlobals "Counted" = some (some (.ref NC)))
  (pgNC : PySem.W.plainGet K NC Str.empty = true)
  (hdNC : PySem.W.hasDictIn K NC = true)
  (poNC : PySem.W.plainOver K NC = true)
  (saNC : PySem.W.findIn K (.ref NC) "__setattr__" = some (some (.builtin "object.__setattr__")))
  (mkNC : PySem.W.makesIn K NC = true)
  (kcNC : PySem.W.keepIn K (.ref NC) = true)
  (haNC : PySem.W.findIn K (.ref NC) "__class__" = some (some (.builtin "object.__class__")))
  (hmNC : PySem.W.mroIn K NC (.type "object") = some true)
  (neNC : PySem.W.findIn K (.ref NC) "__ne__" = some (some (.builtin "object.__ne__")))
  (n_NC_grants : PySem.W.findIn K (.ref NC) "grants" = some none)
  (n_NC_untold : PySem.W.findIn K (.ref NC) "untold" = some none)
  (n_NC_giving_up : PySem.W.findIn K (.ref NC) "giving_up" = some none)
  {f_tI : Addr}
  (a_tI : PySem.W.findIn K (.ref NC) "__init__" = some (some (.ref f_tI)))
  (i_tI : PySem.W.isFn K (.ref f_tI) = true)
  {od_tI an_tI : Option Addr}
  {sl_tI : Array (Option Value)}
  {oc_tI kV_tI dc_tI pm_tI cd_tI ct_tI : Value}
  {dt_tI : Addr}
  (l_tI : K.lookup f_tI = some ⟨oc_tI, od_tI, .func (PySem.W.fnOf "__init__" "Counted.__init__" (defArgs s_Counted___init__) (defBody s_Counted___init__) (defScope s_Counted___init__) (.ref dt_tI) kV_tI dc_tI pm_tI an_tI cd_tI ct_tI), sl_tI⟩)
  (c_tI : PySem.W.codeIn K cd_tI "Counted.__init__" = true)
  (k_tI : PySem.W.keepIn K (.ref f_tI) = true)
  {to_tI : Value}
  {td_tI : Option Addr}
  {it_tI : Array Value}
  {iz_tI : Nat}
  {ts_tI : Array (Option Value)}
  (ld_tI : K.lookup dt_tI = some ⟨to_tI, td_tI, .seq it_tI iz_tI, ts_tI⟩)
  (vd_tI : Vals [.bl true, .bl true, .bl false] it_tI.toList)
  {f_tE : Addr}
  (a_tE : PySem.W.findIn K (.ref NC) "__eq__" = some (some (.ref f_tE)))
  (i_tE : PySem.W.isFn K (.ref f_tE) = true)
  {od_tE an_tE : Option Addr}
  {sl_tE : Array (Option Value)}
  {oc_tE kV_tE dc_tE pm_tE cd_tE ct_tE : Value}
  (l_tE : K.lookup f_tE = some ⟨oc_tE, od_tE, .func (PySem.W.fnOf "__eq__" "Counted.__eq__" (defArgs s_Counted___eq__) (defBody s_Counted___eq__) (defScope s_Counted___eq__) .none kV_tE dc_tE pm_tE an_tE cd_tE ct_tE), sl_tE⟩)
  (c_tE : PySem.W.codeIn K cd_tE "Counted.__eq__" = true)
  (k_tE : PySem.W.keepIn K (.ref f_tE) = true)
  {EV : Addr}
  (aEV : PySem.W.nsIn K mainGlobals "EveryLand" = some (some (.ref EV)))
  (pgEV : PySem.W.plainGet K EV Str.empty = true)
  (hdEV : PySem.W.hasDictIn K EV = true)
  (poEV : PySem.W.plainOver K EV = true)
  (saEV : PySem.W.findIn K (.ref EV) "__setattr__" = some (some (.builtin "object.__setattr__")))
  (mkEV : PySem.W.makesIn K EV = true)
  (kcEV : PySem.W.keepIn K (.ref EV) = true)
  (haEV : PySem.W.findIn K (.ref EV) "__class__" = some (some (.builtin "object.__class__")))
  (hmEV : PySem.W.mroIn K EV (.type "object") = some true)
  (icEV : PySem.W.isClsIn K EV = true)
  (tyEV : PySem.W.typeIn K (.ref EV) = some (.type "type"))
  (slEV : PySem.W.subIn K (.type "list") (.ref EV) = some false)
  (sdEV : PySem.W.subIn K (.ref CC) (.ref EV) = some false)
  (nfLEV : PySem.W.notFirst K EV (.type "list") = true)
  (nfDEV : PySem.W.notFirst K EV (.ref CC) = true)
  (n_EV_custom : PySem.W.findIn K (.ref EV) "custom" = some none)
  (n_EV_counted : PySem.W.findIn K (.ref EV) "counted" = some none)
  (n_EV_far : PySem.W.findIn K (.ref EV) "far" = some none)
  (n_EV_loose : PySem.W.findIn K (.ref EV) "loose" = some none)
  (n_EV_bound : PySem.W.findIn K (.ref EV) "bound" = some none)
  {f_eI : Addr}
  (a_eI : PySem.W.findIn K (.ref EV) "__init__" = some (some (.ref f_eI)))
  (i_eI : PySem.W.isFn K (.ref f_eI) = true)
  {od_eI an_eI : Option Addr}
  {sl_eI : Array (Option Value)}
  {oc_eI kV_eI dc_eI pm_eI cd_eI ct_eI : Value}
  (l_eI : K.lookup f_eI = some ⟨oc_eI, od_eI, .func (PySem.W.fnOf "__init__" "EveryLand.__init__" (defArgs s_EveryLand___init__) (defBody s_EveryLand___init__) (defScope s_EveryLand___init__) .none kV_eI dc_eI pm_eI an_eI cd_eI ct_eI), sl_eI⟩)
  (c_eI : PySem.W.codeIn K cd_eI "EveryLand.__init__" = true)
  (k_eI : PySem.W.keepIn K (.ref f_eI) = true)
  {f_eE : Addr}
  (a_eE : PySem.W.findIn K (.ref EV) "__eq__" = some (some (.ref f_eE)))
  (i_eE : PySem.W.isFn K (.ref f_eE) = true)
  {od_eE an_eE : Option Addr}
  {sl_eE : Array (Option Value)}
  {oc_eE kV_eE dc_eE pm_eE cd_eE ct_eE : Value}
  (l_eE : K.lookup f_eE = some ⟨oc_eE, od_eE, .func (PySem.W.fnOf "__eq__" "EveryLand.__eq__" (defArgs s_EveryLand___eq__) (defBody s_EveryLand___eq__) (defScope s_EveryLand___eq__) .none kV_eE dc_eE pm_eE an_eE cd_eE ct_eE), sl_eE⟩)
  (c_eE : PySem.W.codeIn K cd_eE "EveryLand.__eq__" = true)
  (k_eE : PySem.W.keepIn K (.ref f_eE) = true)
  {f_fw : Addr}
  (a_fw : PySem.W.findIn K (.ref EV) "fewest" = some (some (.ref f_fw)))
  (i_fw : PySem.W.isFn K (.ref f_fw) = true)
  {od_fw an_fw : Option Addr}
  {sl_fw : Array (Option Value)}
  {oc_fw kV_fw dc_fw pm_fw cd_fw ct_fw : Value}
  (l_fw : K.lookup f_fw = some ⟨oc_fw, od_fw, .func (PySem.W.fnOf "fewest" "EveryLand.fewest" (defArgs s_EveryLand_fewest) (defBody s_EveryLand_fewest) (defScope s_EveryLand_fewest) .none kV_fw dc_fw pm_fw an_fw cd_fw ct_fw), sl_fw⟩)
  (c_fw : PySem.W.codeIn K cd_fw "EveryLand.fewest" = true)
  (k_fw : PySem.W.keepIn K (.ref f_fw) = true)
  {f_ex : Addr}
  (a_ex : PySem.W.findIn K (.ref EV) "exposed" = some (some (.ref f_ex)))
  (i_ex : PySem.W.isFn K (.ref f_ex) = true)
  {od_ex an_ex : Option Addr}
  {sl_ex : Array (Option Value)}
  {oc_ex kV_ex dc_ex pm_ex cd_ex ct_ex : Value}
  (l_ex : K.lookup f_ex = some ⟨oc_ex, od_ex, .func (PySem.W.fnOf "exposed" "EveryLand.exposed" (defArgs s_EveryLand_exposed) (defBody s_EveryLand_exposed) (defScope s_EveryLand_exposed) .none kV_ex dc_ex pm_ex an_ex cd_ex ct_ex), sl_ex⟩)
  (c_ex : PySem.W.codeIn K cd_ex "EveryLand.exposed" = true)
  (k_ex : PySem.W.keepIn K (.ref f_ex) = true)
  {pr_no f_no : Addr}
  (a_no : PySem.W.findIn K (.ref EV) "nowhere" = some (some (.ref pr_no)))
  (gp_no : PySem.W.specialIn K (.ref pr_no) "__get__" = some (some (.builtin "property.__get__")))
  (tp_no : PySem.W.takesIn K (.ref pr_no) = some true)
  {rest_no : List Value}
  (rp_no : PySem.W.recIn K pr_no "property" = some (.ref f_no :: rest_no))
  {od_no an_no : Option Addr}
  {sl_no : Array (Option Value)}
  {oc_no kV_no dc_no pm_no cd_no ct_no : Value}
  (l_no : K.lookup f_no = some ⟨oc_no, od_no, .func (PySem.W.fnOf "nowhere" "EveryLand.nowhere" (defArgs s_EveryLand_nowhere) (defBody s_EveryLand_nowhere) (defScope s_EveryLand_nowhere) .none kV_no dc_no pm_no an_no cd_no ct_no), sl_no⟩)
  (c_no : PySem.W.codeIn K cd_no "EveryLand.nowhere" = true)
  (k_no : PySem.W.keepIn K (.ref f_no) = true)
  {pr_ev f_ev : Addr}
  (a_ev : PySem.W.findIn K (.ref EV) "everywhere" = some (some (.ref pr_ev)))
  (gp_ev : PySem.W.specialIn K (.ref pr_ev) "__get__" = some (some (.builtin "property.__get__")))
  (tp_ev : PySem.W.takesIn K (.ref pr_ev) = some true)
  {rest_ev : List Value}
  (rp_ev : PySem.W.recIn K pr_ev "property" = some (.ref f_ev :: rest_ev))
  {od_ev an_ev : Option Addr}
  {sl_ev : Array (Option Value)}
  {oc_ev kV_ev dc_ev pm_ev cd_ev ct_ev : Value}
  (l_ev : K.lookup f_ev = some ⟨oc_ev, od_ev, .func (PySem.W.fnOf "everywhere" "EveryLand.everywhere" (defArgs s_EveryLand_everywhere) (defBody s_EveryLand_everywhere) (defScope s_EveryLand_everywhere) .none kV_ev dc_ev pm_ev an_ev cd_ev ct_ev), sl_ev⟩)
  (c_ev : PySem.W.codeIn K cd_ev "EveryLand.everywhere" = true)
  (k_ev : PySem.W.keepIn K (.ref f_ev) = true)
  {B : Addr}
  (aB : PySem.W.nsIn K mainGlobals "BadCell" = some (some (.ref B)))
  {nmB qB : Str}
  {N_B : Addr}
  {bsB bmB subB : List Value}
  {snB : List Str}
  {abB : Bool}
  {colB : Option Bool}
  {ddB : Option Addr}
  {m0B m1B m2B m3B m5B : Option Value}
  (xB : K.lookup B = some (excClassObj nmB qB B N_B bsB bmB true snB subB abB colB ddB m0B m1B m2B m3B m5B "ValueError.__new__"))
  (rB : PySem.HandSPX.refsVE bmB = true)
  (saB : PySem.W.findIn K (.ref B) "__setattr__" = some (some (.builtin "object.__setattr__")))
  (exB : PySem.W.subIn K (.ref B) (.type "BaseException") = some true)
  (tyB : PySem.W.typeIn K (.ref B) = some (.type "type"))
  (kpB : PySem.W.keepIn K (.ref B) = true)
  (hgB : PySem.W.findIn K (.ref B) "__getattribute__" = some (some (.builtin "BaseException.__getattribute__")))
  (hkB : PySem.W.findIn K (.ref B) "__getattr__" = some none)
  (hdB : PySem.W.hasDictIn K B = true)
  (haB : PySem.W.findIn K (.ref B) "__class__" = some (some (.builtin "object.__class__")))
  (hmB : PySem.W.mroIn K B (.type "object") = some true)
  (icB : PySem.W.isClsIn K B = true)
  (ssB : PySem.W.subIn K (.ref B) (.ref B) = some true)
  (noB : PySem.W.findIn K (.ref B) "cell" = some none)
  {f_iB : Addr}
  (a_iB : PySem.W.findIn K (.ref B) "__init__" = some (some (.ref f_iB)))
  (t_iB : PySem.W.typeIn K (.ref f_iB) = some (.type "function"))
  {od_iB an_iB : Option Addr}
  {sl_iB : Array (Option Value)}
  {oc_iB kV_iB dc_iB pm_iB cd_iB ct_iB : Value}
  (l_iB : K.lookup f_iB = some ⟨oc_iB, od_iB, .func (PySem.W.fnOf "__init__" "BadCell.__init__" (defArgs s_BadCell___init__) (defBody s_BadCell___init__) (defScope s_BadCell___init__) .none kV_iB dc_iB pm_iB an_iB cd_iB ct_iB), sl_iB⟩)
  (c_iB : PySem.W.codeIn K cd_iB "BadCell.__init__" = true)
  (k_iB : PySem.W.keepIn K (.ref f_iB) = true)
  {U : Addr}
  (aU : PySem.W.nsIn K mainGlobals "BadCustom" = some (some (.ref U)))
  {nmU qU : Str}
  {N_U : Addr}
  {bsU bmU subU : List Value}
  {snU : List Str}
  {abU : Bool}
  {colU : Option Bool}
  {ddU : Option Addr}
  {m0U m1U m2U m3U m5U : Option Value}
  (xU : K.lookup U = some (excClassObj nmU qU U N_U bsU bmU true snU subU abU colU ddU m0U m1U m2U m3U m5U "ValueError.__new__"))
  (rU : PySem.HandSPX.refsVE bmU = true)
  (saU : PySem.W.findIn K (.ref U) "__setattr__" = some (some (.builtin "object.__setattr__")))
  (exU : PySem.W.subIn K (.ref U) (.type "BaseException") = some true)
  (tyU : PySem.W.typeIn K (.ref U) = some (.type "type"))
  (kpU : PySem.W.keepIn K (.ref U) = true)
  (hgU : PySem.W.findIn K (.ref U) "__getattribute__" = some (some (.builtin "BaseException.__getattribute__")))
  (hkU : PySem.W.findIn K (.ref U) "__getattr__" = some none)
  (hdU : PySem.W.hasDictIn K U = true)
  (haU : PySem.W.findIn K (.ref U) "__class__" = some (some (.builtin "object.__class__")))
  (hmU : PySem.W.mroIn K U (.type "object") = some true)
  (icU : PySem.W.isClsIn K U = true)
  (ssU : PySem.W.subIn K (.ref U) (.ref U) = some true)
  (noU : PySem.W.findIn K (.ref U) "what" = some none)
  {f_iU : Addr}
  (a_iU : PySem.W.findIn K (.ref U) "__init__" = some (some (.ref f_iU)))
  (t_iU : PySem.W.typeIn K (.ref f_iU) = some (.type "function"))
  {od_iU an_iU : Option Addr}
  {sl_iU : Array (Option Value)}
  {oc_iU kV_iU dc_iU pm_iU cd_iU ct_iU : Value}
  (l_iU : K.lookup f_iU = some ⟨oc_iU, od_iU, .func (PySem.W.fnOf "__init__" "BadCustom.__init__" (defArgs C.s_BadCustom___init__) (defBody C.s_BadCustom___init__) (defScope C.s_BadCustom___init__) .none kV_iU dc_iU pm_iU an_iU cd_iU ct_iU), sl_iU⟩)
  (c_iU : PySem.W.codeIn K cd_iU "BadCustom.__init__" = true)
  (k_iU : PySem.W.keepIn K (.ref f_iU) = true)
  {BC : Addr}
  (aBC : PySem.W.nsIn K mainGlobals "BadClause" = some (some (.ref BC)))
  {nmBC qBC : Str}
  {N_BC : Addr}
  {bsBC bmBC subBC : List Value}
  {snBC : List Str}
  {abBC : Bool}
  {colBC : Option Bool}
  {ddBC : Option Addr}
  {m0BC m1BC m2BC m3BC m5BC : Option Value}
  (xBC : K.lookup BC = some (excClassObj nmBC qBC BC N_BC bsBC bmBC true snBC subBC abBC colBC ddBC m0BC m1BC m2BC m3BC m5BC "ValueError.__new__"))
  (rBC : PySem.HandSPX.refsVE bmBC = true)
  (saBC : PySem.W.findIn K (.ref BC) "__setattr__" = some (some (.builtin "object.__setattr__")))
  (exBC : PySem.W.subIn K (.ref BC) (.type "BaseException") = some true)
  (tyBC : PySem.W.typeIn K (.ref BC) = some (.type "type"))
  (kpBC : PySem.W.keepIn K (.ref BC) = true)
  (hgBC : PySem.W.findIn K (.ref BC) "__getattribute__" = some (some (.builtin "BaseException.__getattribute__")))
  (hkBC : PySem.W.findIn K (.ref BC) "__getattr__" = some none)
  (hdBC : PySem.W.hasDictIn K BC = true)
  (haBC : PySem.W.findIn K (.ref BC) "__class__" = some (some (.builtin "object.__class__")))
  (hmBC : PySem.W.mroIn K BC (.type "object") = some true)
  (icBC : PySem.W.isClsIn K BC = true)
  (ssBC : PySem.W.subIn K (.ref BC) (.ref BC) = some true)
  (noBC : PySem.W.findIn K (.ref BC) "what" = some none)
  {f_iBC : Addr}
  (a_iBC : PySem.W.findIn K (.ref BC) "__init__" = some (some (.ref f_iBC)))
  (t_iBC : PySem.W.typeIn K (.ref f_iBC) = some (.type "function"))
  {od_iBC an_iBC : Option Addr}
  {sl_iBC : Array (Option Value)}
  {oc_iBC kV_iBC dc_iBC pm_iBC cd_iBC ct_iBC : Value}
  (l_iBC : K.lookup f_iBC = some ⟨oc_iBC, od_iBC, .func (PySem.W.fnOf "__init__" "BadClause.__init__" (defArgs C.s_BadClause___init__) (defBody C.s_BadClause___init__) (defScope C.s_BadClause___init__) .none kV_iBC dc_iBC pm_iBC an_iBC cd_iBC ct_iBC), sl_iBC⟩)
  (c_iBC : PySem.W.codeIn K cd_iBC "BadClause.__init__" = true)
  (k_iBC : PySem.W.keepIn K (.ref f_iBC) = true)
  {cl : Addr}
  (a_cl : PySem.W.nsIn K mainGlobals "CLAUSES" = some (some (.ref cl)))
  {o_cl : Array Value}
  {z_cl : Nat}
  {s_cl : Array (Option Value)}
  (l_cl : K.lookup cl = some ⟨.type "tuple", none, .seq o_cl z_cl, s_cl⟩)
  (v_cl : Vals (C.clauses.map V.str) o_cl.toList)
  (w_cl : o_cl.size ≤ sizeLine)
  {wd : Addr}
  (a_wd : PySem.W.nsIn K mainGlobals "_WORDS" = some (some (.ref wd)))
  {es_wd : Array DictEntry}
  {n_wd : Nat}
  (l_wd : K.lookup wd = some ⟨.type "dict", none, .dict es_wd n_wd, #[]⟩)
  (v_wd : PySem.W.KeysLit w.params es_wd.toList)
  {m0 : Addr}
  (a_m0 : PySem.W.nsIn K wd "untold" = some (some (.ref m0)))
  {o_m0 : Array Value}
  {z_m0 : Nat}
  {s_m0 : Array (Option Value)}
  (l_m0 : K.lookup m0 = some ⟨.type "tuple", none, .seq o_m0 z_m0, s_m0⟩)
  (v_m0 : Vals ((C.menuAt 0).map V.str) o_m0.toList)
  (w_m0 : o_m0.size ≤ sizeLine)
  {m1 : Addr}
  (a_m1 : PySem.W.nsIn K wd "joined" = some (some (.ref m1)))
  {o_m1 : Array Value}
  {z_m1 : Nat}
  {s_m1 : Array (Option Value)}
  (l_m1 : K.lookup m1 = some ⟨.type "tuple", none, .seq o_m1 z_m1, s_m1⟩)
  (v_m1 : Vals ((C.menuAt 1).map V.str) o_m1.toList)
  (w_m1 : o_m1.size ≤ sizeLine)
  {m2 : Addr}
  (a_m2 : PySem.W.nsIn K wd "sold" = some (some (.ref m2)))
  {o_m2 : Array Value}
  {z_m2 : Nat}
  {s_m2 : Array (Option Value)}
  (l_m2 : K.lookup m2 = some ⟨.type "tuple", none, .seq o_m2 z_m2, s_m2⟩)
  (v_m2 : Vals ((C.menuAt 2).map V.str) o_m2.toList)
  (w_m2 : o_m2.size ≤ sizeLine)
  {m3 : Addr}
  (a_m3 : PySem.W.nsIn K wd "kept" = some (some (.ref m3)))
  {o_m3 : Array Value}
  {z_m3 : Nat}
  {s_m3 : Array (Option Value)}
  (l_m3 : K.lookup m3 = some ⟨.type "tuple", none, .seq o_m3 z_m3, s_m3⟩)
  (v_m3 : Vals ((C.menuAt 3).map V.str) o_m3.toList)
  (w_m3 : o_m3.size ≤ sizeLine)
  {m4 : Addr}
  (a_m4 : PySem.W.nsIn K wd "ends" = some (some (.ref m4)))
  {o_m4 : Array Value}
  {z_m4 : Nat}
  {s_m4 : Array (Option Value)}
  (l_m4 : K.lookup m4 = some ⟨.type "tuple", none, .seq o_m4 z_m4, s_m4⟩)
  (v_m4 : Vals ((C.menuAt 4).map V.str) o_m4.toList)
  (w_m4 : o_m4.size ≤ sizeLine)
  {dd : Addr}
  (a_dd : PySem.W.nsIn K mainGlobals "_DEEDS" = some (some (.ref dd)))
  {es_dd : Array DictEntry}
  {n_dd : Nat}
  (l_dd : K.lookup dd = some ⟨.type "dict", none, .dict es_dd n_dd, #[]⟩)
  (v_dd : PySem.W.KeysLit w.params es_dd.toList)
  {td0 : Tok}
  (a_d0 : PySem.W.nsIn K dd "bare" = some (some (.int 1 td0)))
  {td1 : Tok}
  (a_d1 : PySem.W.nsIn K dd "given up" = some (some (.int 2 td1)))
  {td2 : Tok}
  (a_d2 : PySem.W.nsIn K dd "untold" = some (some (.int 2 td2)))
  {td3 : Tok}
  (a_d3 : PySem.W.nsIn K dd "by turns" = some (some (.int 2 td3)))
  {td4 : Tok}
  (a_d4 : PySem.W.nsIn K dd "granted" = some (some (.int 3 td4)))
  {td5 : Tok}
  (a_d5 : PySem.W.nsIn K dd "woken" = some (some (.int 4 td5)))
  (ns_dd : (dd == sysModules) = false)
  {srs : Addr}
  (a_srs : PySem.W.nsIn K mainGlobals "SORTS" = some (some (.ref srs)))
  {o_srs : Array Value}
  {z_srs : Nat}
  {s_srs : Array (Option Value)}
  (l_srs : K.lookup srs = some ⟨.type "tuple", none, .seq o_srs z_srs, s_srs⟩)
  (v_srs : Vals ([.str "far", .str "loose", .str "bound"]) o_srs.toList)
  (w_srs : o_srs.size ≤ sizeLine)
  {t_M : Tok}
  (a_M : PySem.W.nsIn K mainGlobals "MOST_CELLS" = some (some (.int 5 t_M)))
  (z_isinstance : PySem.W.nsIn K mainGlobals "isinstance" = some none)
  (z_int : PySem.W.nsIn K mainGlobals "int" = some none)
  (z_bool : PySem.W.nsIn K mainGlobals "bool" = some none)
  (z_tuple : PySem.W.nsIn K mainGlobals "tuple" = some none)
  (z_list : PySem.W.nsIn K mainGlobals "list" = some none)
  (z_enumerate : PySem.W.nsIn K mainGlobals "enumerate" = some none)
  (z_len : PySem.W.nsIn K mainGlobals "len" = some none)
  (z_abs : PySem.W.nsIn K mainGlobals "abs" = some none)
  (z_range : PySem.W.nsIn K mainGlobals "range" = some none)
  (z_min : PySem.W.nsIn K mainGlobals "min" = some none)
  (z_max : PySem.W.nsIn K mainGlobals "max" = some none)
  (z_sorted : PySem.W.nsIn K mainGlobals "sorted" = some none)
  (z_set : PySem.W.nsIn K mainGlobals "set" = some none)
  (z_all : PySem.W.nsIn K mainGlobals "all" = some none)
  (z_any : PySem.W.nsIn K mainGlobals "any" = some none)
  (z_zip : PySem.W.nsIn K mainGlobals "zip" = some none) :
    ∃ fd : FuncData, (∀ (s : Shared) (u : Value), BindsTo s fd ⟨[u], []⟩ [("_law_script", u)]) ∧ ∀ base : Heap, K.In base → base.Ns mainGlobals mg → FnOk P w K mg base CX0 10 fa fd ["_law_script"] (spLaw K) := by
  have e := hfa.symm.trans (PySem.W.mg_of X G a_la)
  cases e
  have F_sq := fun_mk (st := s_is_sequence) l_sq c_sq k_sq
  have b_sq := F_sq.binds (ps := ["thing"]) fun _ _ _ _ _ _ us hl => match us, hl with | [_], _ => rfl
  have g_sq := PySem.W.mg_of X G a_sq
  have F_isw := fun_mk (st := s_is_whole) l_isw c_isw k_isw
  have b_isw := F_isw.binds (ps := ["thing", "low", "high"]) fun _ _ _ _ _ _ us hl => match us, hl with | [_, _, _], _ => rfl
  have g_isw := PySem.W.mg_of X G a_isw
  have F_ac := fun_mk (st := s_are_cells) l_ac c_ac k_ac
  have b_ac := F_ac.binds (ps := ["many", "thing", "least"]) fun _ _ _ _ _ _ us hl => match us, hl with | [_, _, _], _ => rfl
  have g_ac := PySem.W.mg_of X G a_ac
  have F_a2 := fun_mk (st := s_are_two_cells) l_a2 c_a2 k_a2
  have b_a2 := F_a2.binds (ps := ["many", "thing"]) fun _ _ _ _ _ _ us hl => match us, hl with | [_, _], _ => rfl
  have g_a2 := PySem.W.mg_of X G a_a2
  have F_ic := fun_mk (st := s_is_cell) l_ic c_ic k_ic
  have b_ic := F_ic.binds (ps := ["land", "thing"]) fun _ _ _ _ _ _ us hl => match us, hl with | [_, _], _ => rfl
  have g_ic := PySem.W.mg_of X G a_ic
  have F_ck := fun_mk (st := s_check_cells) l_ck c_ck k_ck
  have g_ck := PySem.W.mg_of X G a_ck
  have F_sp := fun_mk (st := s_spread) l_sp c_sp k_sp
  have b_sp := F_sp.binds (ps := ["nearby", "cell", "passing"]) fun _ _ _ _ _ _ us hl => match us, hl with | [_, _, _], _ => rfl
  have g_sp := PySem.W.mg_of X G a_sp
  have F_ny := fun_mk (st := s_nearby_cells) l_ny c_ny k_ny
  have b_ny := F_ny.binds (ps := ["cells", "couples"]) fun _ _ _ _ _ _ us hl => match us, hl with | [_, _], _ => rfl
  have g_ny := PySem.W.mg_of X G a_ny
  have F_ht := fun_mk (st := s_hang_together) l_ht c_ht k_ht
  have b_ht := F_ht.binds (ps := ["cells", "couples"]) fun _ _ _ _ _ _ us hl => match us, hl with | [_, _], _ => rfl
  have g_ht := PySem.W.mg_of X G a_ht
  have F_nb := fun_mk (st := s__are_neighbours) l_nb c_nb k_nb
  have b_nb := F_nb.binds (ps := ["cells", "thing"]) fun _ _ _ _ _ _ us hl => match us, hl with | [_, _], _ => rfl
  have g_nb := PySem.W.mg_of X G a_nb
  have F_op := fun_mk (st := s_opens) l_op c_op k_op
  have b_op := F_op.binds (ps := ["land", "cell", "passing"]) fun _ _ _ _ _ _ us hl => match us, hl with | [_, _, _], _ => rfl
  have g_op := PySem.W.mg_of X G a_op
  have F_so := fun_mk (st := s_sort_of) l_so c_so k_so
  have b_so := F_so.binds (ps := ["land", "cell"]) fun _ _ _ _ _ _ us hl => match us, hl with | [_, _], _ => rfl
  have g_so := PySem.W.mg_of X G a_so
  have F_nr := fun_mk (st := s_near_roads) l_nr c_nr k_nr
  have b_nr := F_nr.binds (ps := ["land", "cell"]) fun _ _ _ _ _ _ us hl => match us, hl with | [_, _], _ => rfl
  have g_nr := PySem.W.mg_of X G a_nr
  have F_mt := fun_mk (st := s_meant) l_mt c_mt k_mt
  have b_mt := F_mt.binds (ps := ["counted"]) fun _ _ _ _ _ _ us hl => match us, hl with | [_], _ => rfl
  have g_mt := PySem.W.mg_of X G a_mt
  have F_ca := fun_mk (st := s__case) l_ca c_ca k_ca
  have b_ca := F_ca.binds (ps := ["row", "counted", "sort"]) fun _ _ _ _ _ _ us hl => match us, hl with | [_, _, _], _ => rfl
  have g_ca := PySem.W.mg_of X G a_ca
  have F_oa : FunD K "on_all_lands" "on_all_lands" (defArgs s_on_all_lands) (defBody s_on_all_lands) (defScope s_on_all_lands) [.non] [] f_oa _ := ⟨⟨_, _, _, _, _, _, _, _, _, _, rfl, l_oa, c_oa, .inr ⟨(by intro h; cases h), dt_oa, _, it_oa.toList, iz_oa, rfl, ld_oa, by rw [Array.toArray_toList], vd_oa⟩, .inl rfl⟩, k_oa⟩
  obtain ⟨ds1_oa, v1_oa, b1_oa⟩ := F_oa.binds1 (ps := ["custom", "counted"]) 1 0 (by intro h; cases h) rfl fun _ _ _ _ _ _ _ us its hu hi => match us, its, hu, hi with | [_], [_], _, _ => ⟨_, rfl, rfl⟩
  obtain ⟨ds_oa, v_oa, b_oa⟩ := F_oa.binds1 (ps := ["custom", "counted"]) 2 1 (by intro h; cases h) rfl fun _ _ _ _ _ _ _ us its hu hi => match us, its, hu, hi with | [_, _], [_], _, _ => ⟨_, rfl, rfl⟩
  cases v_oa
  have g_oa := PySem.W.mg_of X G a_oa
  have F_fd : FunD K "fewest_deeds" "fewest_deeds" (defArgs s_fewest_deeds) (defBody s_fewest_deeds) (defScope s_fewest_deeds) [.non] [] f_fd _ := ⟨⟨_, _, _, _, _, _, _, _, _, _, rfl, l_fd, c_fd, .inr ⟨(by intro h; cases h), dt_fd, _, it_fd.toList, iz_fd, rfl, ld_fd, by rw [Array.toArray_toList], vd_fd⟩, .inl rfl⟩, k_fd⟩
  obtain ⟨ds_fd, v_fd, b_fd⟩ := F_fd.binds1 (ps := ["land", "custom", "cell", "counted"]) 4 1 (by intro h; cases h) rfl fun _ _ _ _ _ _ _ us its hu hi => match us, its, hu, hi with | [_, _, _, _], [_], _, _ => ⟨_, rfl, rfl⟩
  cases v_fd
  have g_fd := PySem.W.mg_of X G a_fd
  have F_mi := fun_mk (st := s__law_mix) l_mi c_mi k_mi
  have b_mi := F_mi.binds (ps := ["_law_number_here", "_law_turn"]) fun _ _ _ _ _ _ us hl => match us, hl with | [_, _], _ => rfl
  have g_mi := PySem.W.mg_of X G a_mi
  have F_ha := fun_mk (st := s__law_hand) l_ha c_ha k_ha
  have b_ha := F_ha.binds (ps := ["_law_script"]) fun _ _ _ _ _ _ us hl => match us, hl with | [_], _ => rfl
  have g_ha := PySem.W.mg_of X G a_ha
  have F_dr := fun_mk (st := s__law_draw) l_dr c_dr k_dr
  have b_dr := F_dr.binds (ps := ["_law_hand_here", "_law_many"]) fun _ _ _ _ _ _ us hl => match us, hl with | [_, _], _ => rfl
  have g_dr := PySem.W.mg_of X G a_dr
  have F_pk := fun_mk (st := s__law_pick) l_pk c_pk k_pk
  have b_pk := F_pk.binds (ps := ["_law_hand_here", "_law_things"]) fun _ _ _ _ _ _ us hl => match us, hl with | [_, _], _ => rfl
  have g_pk := PySem.W.mg_of X G a_pk
  have F_lo := fun_mk (st := s__law_lots) l_lo c_lo k_lo
  have b_lo := F_lo.binds (ps := ["_law_cells"]) fun _ _ _ _ _ _ us hl => match us, hl with | [_], _ => rfl
  have g_lo := PySem.W.mg_of X G a_lo
  have F_ld := fun_mk (st := s__law_land) l_ld c_ld k_ld
  have b_ld := F_ld.binds (ps := ["_law_hand_here", "_law_n"]) fun _ _ _ _ _ _ us hl => match us, hl with | [_, _], _ => rfl
  have g_ld := PySem.W.mg_of X G a_ld
  have F_lc := fun_mk (st := s__law_comes) l_lc c_lc k_lc
  have b_lc := F_lc.binds (ps := ["_law_land_here", "_law_cell", "_law_passing"]) fun _ _ _ _ _ _ us hl => match us, hl with | [_, _, _], _ => rfl
  have g_lc := PySem.W.mg_of X G a_lc
  have F_lp := fun_mk (st := s__law_open) l_lp c_lp k_lp
  have b_lp := F_lp.binds (ps := ["_law_land_here", "_law_cell", "_law_passing"]) fun _ _ _ _ _ _ us hl => match us, hl with | [_, _, _], _ => rfl
  have g_lp := PySem.W.mg_of X G a_lp
  have F_wo := fun_mk (st := s__law_words) l_wo c_wo k_wo
  have b_wo := F_wo.binds (ps := []) fun _ _ _ _ _ _ us hl => match us, hl with | [], _ => rfl
  have g_wo := PySem.W.mg_of X G a_wo
  have F_cu := fun_mk (st := s__law_custom) l_cu c_cu k_cu
  have b_cu := F_cu.binds (ps := ["_law_hand_here"]) fun _ _ _ _ _ _ us hl => match us, hl with | [_], _ => rfl
  have g_cu := PySem.W.mg_of X G a_cu
  have F_ls := fun_mk (st := s__law_sort) l_ls c_ls k_ls
  have b_ls := F_ls.binds (ps := ["_law_land_here", "_law_cell"]) fun _ _ _ _ _ _ us hl => match us, hl with | [_, _], _ => rfl
  have g_ls := PySem.W.mg_of X G a_ls
  have F_nu := fun_mk (st := s__law_number) l_nu c_nu k_nu
  have b_nu := F_nu.binds (ps := ["_law_custom_here", "_law_counted", "_law_sort_here"]) fun _ _ _ _ _ _ us hl => match us, hl with | [_, _, _], _ => rfl
  have g_nu := PySem.W.mg_of X G a_nu
  have F_ma := fun_mk (st := s__law_made) l_ma c_ma k_ma
  have b_ma := F_ma.binds (ps := ["_law_custom_here"]) fun _ _ _ _ _ _ us hl => match us, hl with | [_], _ => rfl
  have g_ma := PySem.W.mg_of X G a_ma
  have F_tr := fun_mk (st := s__law_truth) l_tr c_tr k_tr
  have b_tr := F_tr.binds (ps := ["_law_told", "_law_due"]) fun _ _ _ _ _ _ us hl => match us, hl with | [_, _], _ => rfl
  have g_tr := PySem.W.mg_of X G a_tr
  have F_li := fun_mk (st := s__law_is) l_li c_li k_li
  have b_li := F_li.binds (ps := ["_law_told", "_law_due"]) fun _ _ _ _ _ _ us hl => match us, hl with | [_, _], _ => rfl
  have g_li := PySem.W.mg_of X G a_li
  have F_nc := fun_mk (st := s__law_no_cell) l_nc c_nc k_nc
  have b_nc := F_nc.binds (ps := ["_law_effect", "_law_land_here", "_law_thing"]) fun _ _ _ _ _ _ us hl => match us, hl with | [_, _, _], _ => rfl
  have g_nc := PySem.W.mg_of X G a_nc
  have F_rt := fun_mk (st := s__law_right) l_rt c_rt k_rt
  have b_rt := F_rt.binds (ps := ["_law_effect", "_law_custom_here", "_law_counted", "_law_land_here", "_law_told"]) fun _ _ _ _ _ _ us hl => match us, hl with | [_, _, _, _, _], _ => rfl
  have g_rt := PySem.W.mg_of X G a_rt
  have F_la := fun_mk (st := s_law) l_la c_la k_la
  have b_la := F_la.binds (ps := ["_law_script"]) fun _ _ _ _ _ _ us hl => match us, hl with | [_], _ => rfl
  have g_la := PySem.W.mg_of X G a_la
  have gcL := PySem.W.mg_of X G aL
  have F_cI := fun_mk (st := s_Land___init__) l_cI c_cI k_cI
  have b_cI := F_cI.binds (ps := ["self", "cells", "neighbours", "roads"]) fun _ _ _ _ _ _ us hl => match us, hl with | [_, _, _, _], _ => rfl
  have M_LC : Mk K LC f_cI := ⟨mkLC, a_cI, i_cI, kcLC⟩
  have F_cR := fun_mk (st := s_Land_is_road) l_cR c_cR k_cR
  have b_cR := F_cR.binds (ps := ["self", "cell"]) fun _ _ _ _ _ _ us hl => match us, hl with | [_, _], _ => rfl
  have m_cR : Meth K LC "is_road" f_cR := ⟨a_cR, i_cR, k_cR⟩
  have clsLC : Cls K LC := ⟨pgLC, hdLC, poLC, saLC⟩
  have gcLC := PySem.W.mg_of X G aLC
  have F_uI := fun_mk (st := C.s_Custom___init__) l_uI c_uI k_uI
  have b_uI := F_uI.binds (ps := ["self", "untold", "joined", "sold", "kept", "ends"]) fun _ _ _ _ _ _ us hl => match us, hl with | [_, _, _, _, _, _], _ => rfl
  have M_CC : Mk K CC f_uI := ⟨mkCC, a_uI, i_uI, kcCC⟩
  have F_uE := fun_mk (st := C.s_Custom___eq__) l_uE c_uE k_uE
  have b_uE := F_uE.binds (ps := ["self", "other"]) fun _ _ _ _ _ _ us hl => match us, hl with | [_, _], _ => rfl
  have clsCC : Cls K CC := ⟨pgCC, hdCC, poCC, saCC⟩
  have gcCC := PySem.W.mg_of X G aCC
  have F_tI : FunD K "__init__" "Counted.__init__" (defArgs s_Counted___init__) (defBody s_Counted___init__) (defScope s_Counted___init__) [.bl true, .bl true, .bl false] [] f_tI _ := ⟨⟨_, _, _, _, _, _, _, _, _, _, rfl, l_tI, c_tI, .inr ⟨(by intro h; cases h), dt_tI, _, it_tI.toList, iz_tI, rfl, ld_tI, by rw [Array.toArray_toList], vd_tI⟩, .inl rfl⟩, k_tI⟩
  obtain ⟨ds3_tI, v3_tI, b3_tI⟩ := F_tI.binds1 (ps := ["self", "grants", "untold", "giving_up"]) 1 0 (by intro h; cases h) rfl fun _ _ _ _ _ _ _ us its hu hi => match us, its, hu, hi with | [_], [_, _, _], _, _ => ⟨_, rfl, rfl⟩
  obtain ⟨ds_tI, v_tI, b_tI⟩ := F_tI.binds1 (ps := ["self", "grants", "untold", "giving_up"]) 4 3 (by intro h; cases h) rfl fun _ _ _ _ _ _ _ us its hu hi => match us, its, hu, hi with | [_, _, _, _], [_, _, _], _, _ => ⟨_, rfl, rfl⟩
  cases v_tI
  have M_NC : Mk K NC f_tI := ⟨mkNC, a_tI, i_tI, kcNC⟩
  have F_tE := fun_mk (st := s_Counted___eq__) l_tE c_tE k_tE
  have b_tE := F_tE.binds (ps := ["self", "other"]) fun _ _ _ _ _ _ us hl => match us, hl with | [_, _], _ => rfl
  have clsNC : Cls K NC := ⟨pgNC, hdNC, poNC, saNC⟩
  have gcNC := PySem.W.mg_of X G aNC
  have F_eI := fun_mk (st := s_EveryLand___init__) l_eI c_eI k_eI
  have b_eI := F_eI.binds (ps := ["self", "custom", "counted", "far", "loose", "bound"]) fun _ _ _ _ _ _ us hl => match us, hl with | [_, _, _, _, _, _], _ => rfl
  have M_EV : Mk K EV f_eI := ⟨mkEV, a_eI, i_eI, kcEV⟩
  have F_eE := fun_mk (st := s_EveryLand___eq__) l_eE c_eE k_eE
  have b_eE := F_eE.binds (ps := ["self", "other"]) fun _ _ _ _ _ _ us hl => match us, hl with | [_, _], _ => rfl
  have F_fw := fun_mk (st := s_EveryLand_fewest) l_fw c_fw k_fw
  have b_fw := F_fw.binds (ps := ["self", "land", "cell"]) fun _ _ _ _ _ _ us hl => match us, hl with | [_, _, _], _ => rfl
  have m_fw : Meth K EV "fewest" f_fw := ⟨a_fw, i_fw, k_fw⟩
  have F_ex := fun_mk (st := s_EveryLand_exposed) l_ex c_ex k_ex
  have b_ex := F_ex.binds (ps := ["self", "land"]) fun _ _ _ _ _ _ us hl => match us, hl with | [_, _], _ => rfl
  have m_ex : Meth K EV "exposed" f_ex := ⟨a_ex, i_ex, k_ex⟩
  have F_no := fun_mk (st := s_EveryLand_nowhere) l_no c_no k_no
  have b_no := F_no.binds (ps := ["self"]) fun _ _ _ _ _ _ us hl => match us, hl with | [_], _ => rfl
  have p_no : PropOf K EV "nowhere" pr_no f_no := ⟨a_no, gp_no, tp_no, _, rp_no⟩
  have F_ev := fun_mk (st := s_EveryLand_everywhere) l_ev c_ev k_ev
  have b_ev := F_ev.binds (ps := ["self"]) fun _ _ _ _ _ _ us hl => match us, hl with | [_], _ => rfl
  have p_ev : PropOf K EV "everywhere" pr_ev f_ev := ⟨a_ev, gp_ev, tp_ev, _, rp_ev⟩
  have clsEV : Cls K EV := ⟨pgEV, hdEV, poEV, saEV⟩
  have gcEV := PySem.W.mg_of X G aEV
  have F_iB := fun_mk (st := s_BadCell___init__) l_iB c_iB k_iB
  have b_iB := F_iB.binds (ps := ["self", "cell"]) fun _ _ _ _ _ _ us hl => match us, hl with | [_, _], _ => rfl
  have oxB : OexC K B := ⟨⟨_, _, _, _, _, _, _, _, _, _, _, _, _, _, _, xB, rB⟩, saB, exB, tyB, kpB⟩
  have gcB := PySem.W.mg_of X G aB
  have emB : PySem.W.exmOne K (.ref B) (.ref B) = some true := PySem.W.exm_ref exB hdB tyB ssB
  have F_iU := fun_mk (st := C.s_BadCustom___init__) l_iU c_iU k_iU
  have b_iU := F_iU.binds (ps := ["self", "what"]) fun _ _ _ _ _ _ us hl => match us, hl with | [_, _], _ => rfl
  have oxU : OexC K U := ⟨⟨_, _, _, _, _, _, _, _, _, _, _, _, _, _, _, xU, rU⟩, saU, exU, tyU, kpU⟩
  have gcU := PySem.W.mg_of X G aU
  have emU : PySem.W.exmOne K (.ref U) (.ref U) = some true := PySem.W.exm_ref exU hdU tyU ssU
  have F_iBC := fun_mk (st := C.s_BadClause___init__) l_iBC c_iBC k_iBC
  have b_iBC := F_iBC.binds (ps := ["self", "what"]) fun _ _ _ _ _ _ us hl => match us, hl with | [_, _], _ => rfl
  have oxBC : OexC K BC := ⟨⟨_, _, _, _, _, _, _, _, _, _, _, _, _, _, _, xBC, rBC⟩, saBC, exBC, tyBC, kpBC⟩
  have gcBC := PySem.W.mg_of X G aBC
  have emBC : PySem.W.exmOne K (.ref BC) (.ref BC) = some true := PySem.W.exm_ref exBC hdBC tyBC ssBC
  have g_cl := PySem.W.mg_of X G a_cl
  have g_wd := PySem.W.mg_of X G a_wd
  have g_dd := PySem.W.mg_of X G a_dd
  have g_srs := PySem.W.mg_of X G a_srs
  have g_M := PySem.W.mg_of X G a_M
  have m_isinstance := PySem.W.mg_none_of X G z_isinstance
  have m_int := PySem.W.mg_none_of X G z_int
  have m_bool := PySem.W.mg_none_of X G z_bool
  have m_tuple := PySem.W.mg_none_of X G z_tuple
  have m_list := PySem.W.mg_none_of X G z_list
  have m_enumerate := PySem.W.mg_none_of X G z_enumerate
  have m_len := PySem.W.mg_none_of X G z_len
  have m_abs := PySem.W.mg_none_of X G z_abs
  have m_range := PySem.W.mg_none_of X G z_range
  have m_min := PySem.W.mg_none_of X G z_min
  have m_max := PySem.W.mg_none_of X G z_max
  have m_sorted := PySem.W.mg_none_of X G z_sorted
  have m_set := PySem.W.mg_none_of X G z_set
  have m_all := PySem.W.mg_none_of X G z_all
  have m_any := PySem.W.mg_none_of X G z_any
  have m_zip := PySem.W.mg_none_of X G z_zip
  have self : ∀ c : Addr, PySem.W.kitOne K (.ref c) (.ref c) = some true := fun c => by simp [PySem.W.kitOne]
  have kcls : ∀ t : Value, ∀ c : Addr, PySem.W.isClsIn K c = true → PySem.W.typeIn K (.ref c) = some (.type "type") → PySem.W.kitCls K t (.ref c) = PySem.W.subIn K t (.ref c) := fun t c i y => by
    have e1 : ((PySem.W.clsIn K c).isSome && PySem.W.typeIn K (.ref c) == some (.type "type")) = true := by rw [show (PySem.W.clsIn K c).isSome = true from i, y] <;> rfl
    show (if ((PySem.W.clsIn K c).isSome && PySem.W.typeIn K (.ref c) == some (.type "type")) = true then PySem.W.subIn K t (.ref c) else none) = _
    rw [if_pos e1]
  have kT : ∀ t c : Addr, PySem.W.isClsIn K c = true → PySem.W.typeIn K (.ref c) = some (.type "type") → PySem.W.subIn K (.ref t) (.ref c) = some true → PySem.W.kitOne K (.ref t) (.ref c) = some true := fun t c i y s => by
    unfold PySem.W.kitOne
    rw [kcls _ c i y, s]
    split <;> rfl
  have kF : ∀ t c : Addr, PySem.W.isClsIn K c = true → PySem.W.typeIn K (.ref c) = some (.type "type") → PySem.W.subIn K (.ref t) (.ref c) = some false → PySem.W.subIn K (.ref t) (.ref t) = some true → PySem.W.kitOne K (.ref t) (.ref c) = some false := fun t c i y s ss => by
    have hn : ¬ ((Value.ref t == Value.ref c) = true) := fun e => by
      have e' : t = c := by simpa using e
      subst e'
      rw [ss] at s
      cases s
    unfold PySem.W.kitOne
    rw [if_neg hn, kcls _ c i y, s]
  have kTy : ∀ t : String, ∀ c : Addr, PySem.W.isClsIn K c = true → PySem.W.typeIn K (.ref c) = some (.type "type") → PySem.W.subIn K (.type t) (.ref c) = some false → PySem.W.kitOne K (.type t) (.ref c) = some false := fun t c i y s => by
    have e1 : ((PySem.W.clsIn K c).isSome && PySem.W.typeIn K (.ref c) == some (.type "type")) = true := by rw [show (PySem.W.clsIn K c).isSome = true from i, y] <;> rfl
    show (if ((PySem.W.clsIn K c).isSome && PySem.W.typeIn K (.ref c) == some (.type "type")) = true then PySem.W.subIn K (.type t) (.ref c) else none) = some false
    rw [if_pos e1]
    exact s
  have TL : Tl K mg ⟨LC, B, f_iB⟩ :=
    { gC := gcLC, cl := clsLC, gB := gcB, oxB := oxB, iCB := a_iB, tIB := t_iB, nB := noB, nA := fun f hf => by
        simp only [lfields, List.mem_cons, List.not_mem_nil, or_false] at hf
        rcases hf with rfl | rfl | rfl | rfl | rfl
        · exact n_LC_cells
        · exact n_LC_neighbours
        · exact n_LC_roads
        · exact n_LC_nearby
        · exact n_LC__couples }
  have TX : C.Tx K w mg (⟨cl, wd, m0, m1, m2, m3, m4, CC, L, U, BC, L, f_iU, f_iBC, f_iU⟩ : C.Ad) :=
    { gCl := g_cl, tCl := ⟨_, o_cl, z_cl, l_cl, rfl, rfl, w_cl, v_cl, rfl⟩, gWd := g_wd, kWd := fun i hi => match i, hi with | 0, _ => ⟨_, _, _, l_wd, v_wd, a_m0, rfl⟩ | 1, _ => ⟨_, _, _, l_wd, v_wd, a_m1, rfl⟩ | 2, _ => ⟨_, _, _, l_wd, v_wd, a_m2, rfl⟩ | 3, _ => ⟨_, _, _, l_wd, v_wd, a_m3, rfl⟩ | 4, _ => ⟨_, _, _, l_wd, v_wd, a_m4, rfl⟩, tMn := fun i hi => match i, hi with | 0, _ => ⟨_, o_m0, z_m0, l_m0, rfl, rfl, w_m0, v_m0, rfl⟩ | 1, _ => ⟨_, o_m1, z_m1, l_m1, rfl, rfl, w_m1, v_m1, rfl⟩ | 2, _ => ⟨_, o_m2, z_m2, l_m2, rfl, rfl, w_m2, v_m2, rfl⟩ | 3, _ => ⟨_, o_m3, z_m3, l_m3, rfl, rfl, w_m3, v_m3, rfl⟩ | 4, _ => ⟨_, o_m4, z_m4, l_m4, rfl, rfl, w_m4, v_m4, rfl⟩, gU := gcU, gB := gcBC, oxU := oxU, oxB := oxBC, iCU := a_iU, iCB := a_iBC, tIU := t_iU, tIB := t_iBC, nU := noU, nB := noBC, gC := gcCC, cl := clsCC, nA := fun f hf => by
        simp only [C.fields, List.mem_cons, List.not_mem_nil, or_false] at hf
        rcases hf with rfl | rfl | rfl | rfl | rfl | rfl | rfl
        · exact n_CC_untold
        · exact n_CC_joined
        · exact n_CC_sold
        · exact n_CC_kept
        · exact n_CC_ends
        · exact n_CC_row
        · exact n_CC_number }
  have T2 : C.Tc K mg (⟨cl, wd, m0, m1, m2, m3, m4, CC, L, U, BC, L, f_iU, f_iBC, f_iU⟩ : C.Ad) := ⟨haCC, hnO, htO, hmCC, self CC, kTy "tuple" CC icCC tyCC stCC⟩
  have TCC : To K mg "Custom" CC C.fields :=
    { g := gcCC, cl := clsCC, ha := haCC, hn := hnO, ht := htO, hm := hmCC, own := self CC, nA := fun f hf => by
        simp only [C.fields, List.mem_cons, List.not_mem_nil, or_false] at hf
        rcases hf with rfl | rfl | rfl | rfl | rfl | rfl | rfl
        · exact n_CC_untold
        · exact n_CC_joined
        · exact n_CC_sold
        · exact n_CC_kept
        · exact n_CC_ends
        · exact n_CC_row
        · exact n_CC_number }
  have TNC : To K mg "Counted" NC cntL :=
    { g := gcNC, cl := clsNC, ha := haNC, hn := hnO, ht := htO, hm := hmNC, own := self NC, nA := fun f hf => by
        simp only [cntL, List.mem_cons, List.not_mem_nil, or_false] at hf
        rcases hf with rfl | rfl | rfl
        · exact n_NC_grants
        · exact n_NC_untold
        · exact n_NC_giving_up }
  have TEV : To K mg "EveryLand" EV evL :=
    { g := gcEV, cl := clsEV, ha := haEV, hn := hnO, ht := htO, hm := hmEV, own := self EV, nA := fun f hf => by
        simp only [evL, List.mem_cons, List.not_mem_nil, or_false] at hf
        rcases hf with rfl | rfl | rfl | rfl | rfl
        · exact n_EV_custom
        · exact n_EV_counted
        · exact n_EV_far
        · exact n_EV_loose
        · exact n_EV_bound }
  have TD : To K mg "Custom" (C.Ad.C (⟨cl, wd, m0, m1, m2, m3, m4, CC, L, U, BC, L, f_iU, f_iBC, f_iU⟩ : C.Ad)) C.fields := TCC
  have DD : Dd K w mg dd srs :=
    { gD := g_dd, hs := ns_dd, gS := g_srs, ts := ⟨_, o_srs, z_srs, l_srs, rfl, rfl, w_srs, v_srs, rfl⟩, kd := fun z hz => by
        simp only [dwords, List.mem_cons, List.not_mem_nil, or_false] at hz
        rcases hz with rfl | rfl | rfl | rfl | rfl | rfl
        · exact ⟨_, _, _, l_dd, v_dd, a_d0, ⟨_, rfl⟩⟩
        · exact ⟨_, _, _, l_dd, v_dd, a_d1, ⟨_, rfl⟩⟩
        · exact ⟨_, _, _, l_dd, v_dd, a_d2, ⟨_, rfl⟩⟩
        · exact ⟨_, _, _, l_dd, v_dd, a_d3, ⟨_, rfl⟩⟩
        · exact ⟨_, _, _, l_dd, v_dd, a_d4, ⟨_, rfl⟩⟩
        · exact ⟨_, _, _, l_dd, v_dd, a_d5, ⟨_, rfl⟩⟩ }
  have T3 : Tb K B := ⟨⟨hgB, hkB, exB, hdB⟩, emB⟩
  have kL := kTy "list" EV icEV tyEV slEV
  have kD := kF CC EV icEV tyEV sdEV ssCC
  refine ⟨PySem.W.fnOf "law" "law" (defArgs s_law) (defBody s_law) (defScope s_law) .none kV_la dc_la pm_la an_la cd_la ct_la, fun s u => .of_eq rfl, fun base _ _ => ?_⟩
  have G_mi := ok_mix (P := P) (w := w) (mg := mg) (base := base)  F_mi m_int
  have G_ha := ok_hand (P := P) (w := w) (mg := mg) (base := base)  F_ha m_int m_abs m_enumerate
  have G_dr := ok_draw (P := P) (w := w) (mg := mg) (base := base)  F_dr F_mi g_mi b_mi m_int m_len
  have G_pk := ok_pick (P := P) (w := w) (mg := mg) (base := base)  F_pk k_dr G_dr g_dr b_dr m_len
  have G_lo := ok_lots (P := P) (w := w) (mg := mg) (base := base)  F_lo m_range m_len m_list
  have G_ld := ok_land (P := P) (w := w) (mg := mg) (base := base)  F_ld G_dr g_dr k_dr b_dr G_pk g_pk k_pk b_pk G_lo g_lo k_lo b_lo m_range m_len m_list m_min m_max m_sorted
  have G_isw := ok_whole (P := P) (w := w) (mg := mg) (base := base)  F_isw m_isinstance m_int m_bool
  have G_sq := ok_seq (P := P) (w := w) (mg := mg) (base := base)  F_sq m_isinstance m_list m_tuple
  have G_ac := ok_cells (P := P) (w := w) (mg := mg) (base := base)  F_ac G_sq g_sq k_sq b_sq G_isw g_isw k_isw b_isw m_len m_set m_all
  have G_a2 := ok_two (P := P) (w := w) (mg := mg) (base := base)  F_a2 G_ac g_ac k_ac b_ac m_len
  have G_sp := ok_spread (P := P) (w := w) (mg := mg) (base := base)  F_sp m_len
  have G_ny := ok_near (P := P) (w := w) (mg := mg) (base := base)  F_ny m_range m_tuple
  have G_ht := ok_hang (P := P) (w := w) (mg := mg) (base := base)  F_ht G_ny g_ny k_ny b_ny G_sp g_sp k_sp b_sp m_len m_list m_range
  have G_nb := ok_nbrs (P := P) (w := w) (mg := mg) (base := base)  F_nb G_sq g_sq k_sq b_sq G_a2 g_a2 k_a2 b_a2 m_len m_all m_tuple m_sorted
  have G_ic := ok_iscell (P := P) (w := w) (mg := mg) (base := base)  TL F_ic G_isw g_isw k_isw b_isw
  have G_ck := ok_check (P := P) (w := w) (mg := mg) (base := base)  TL F_ck G_ic g_ic k_ic b_ic F_iB b_iB
  have G_cI := ok_landI (P := P) (w := w) (mg := mg) (base := base)  TL (by assumption) F_cI G_isw g_isw k_isw b_isw G_nb g_nb k_nb b_nb G_ac g_ac k_ac b_ac G_ht g_ht k_ht b_ht G_ny g_ny k_ny b_ny m_len m_sorted m_tuple m_range
  have G_cR := ok_road (P := P) (w := w) (mg := mg) (base := base)  G_ck g_ck k_ck TL F_cR
  have G_op := ok_opens (P := P) (w := w) (mg := mg) (base := base)  TL F_op G_sp g_sp k_sp b_sp m_any
  have G_nr := ok_nearR (P := P) (w := w) (mg := mg) (base := base)  TL F_nr m_tuple
  have G_so := ok_sort (P := P) (w := w) (mg := mg) (base := base)  TL F_so m_cR G_cR b_cR G_nr g_nr k_nr b_nr G_op g_op k_op b_op m_range
  have G_lc := ok_comes (P := P) (w := w) (mg := mg) (base := base)  F_lc m_range m_len
  have G_lp := ok_lopen (P := P) (w := w) (mg := mg) (base := base)  F_lp G_lc g_lc k_lc b_lc m_len
  have G_ls := ok_lsort (P := P) (w := w) (mg := mg) (base := base)  F_ls G_lp g_lp k_lp b_lp m_range m_min m_max
  have G_uI := C.ok_init (P := P) (w := w) (mg := mg) (base := base)  TX F_uI F_iU b_iU m_zip m_len
  have G_uE := C.ok_eqC (P := P) (w := w) (mg := mg) (base := base)  TX T2 F_uE m_isinstance
  have G_tI := ok_ctI (P := P) (w := w) (mg := mg) (base := base)  TNC F_tI m_isinstance m_bool
  have G_tE := ok_ctE (P := P) (w := w) (mg := mg) (base := base)  TNC F_tE m_isinstance
  have G_mt := ok_mt (P := P) (w := w) (mg := mg) (base := base)  TNC F_mt M_NC G_tI v3_tI b3_tI
  have G_eI := ok_evI (P := P) (w := w) (mg := mg) (base := base)  TEV F_eI
  have G_no := ok_no (P := P) (w := w) (mg := mg) (base := base) (D := CC) (N := NC) TEV F_no
  have G_ev := ok_ev (P := P) (w := w) (mg := mg) (base := base) (D := CC) (N := NC) TEV F_ev
  have G_eE := ok_evE (P := P) (w := w) (mg := mg) (base := base) (G := EV) (ac := (⟨cl, wd, m0, m1, m2, m3, m4, CC, L, U, BC, L, f_iU, f_iBC, f_iU⟩ : C.Ad)) TEV TD TNC kL kD F_eE G_uE a_uE i_uE b_uE G_tE a_tE i_tE b_tE m_isinstance
  have G_ca := ok_case (P := P) (w := w) (mg := mg) (base := base) (D := CC) TNC F_ca
  have G_fw := ok_few (P := P) (w := w) (mg := mg) (base := base) (a := ⟨LC, B, f_iB⟩) (D := CC) (N := NC) TEV F_fw G_so g_so k_so b_so
  have G_ex := ok_exp (P := P) (w := w) (mg := mg) (base := base) (a := ⟨LC, B, f_iB⟩) (D := CC) (N := NC) TL TEV F_ex m_fw G_fw b_fw m_tuple m_range
  have G_oa := ok_oal (P := P) (w := w) (mg := mg) (base := base) (D := CC) (N := NC) (by assumption) TCC TEV F_oa G_mt g_mt k_mt b_mt G_ca g_ca k_ca b_ca M_EV G_eI b_eI
  have G_fd := ok_fdd (P := P) (w := w) (mg := mg) (base := base) (D := CC) (N := NC) TEV F_fd G_oa g_oa k_oa b_oa m_fw G_fw b_fw
  have G_tr := ok_truth (P := P) (w := w) (mg := mg) (base := base)  F_tr
  have G_li := ok_is (P := P) (w := w) (mg := mg) (base := base)  F_li m_isinstance m_int m_bool
  have G_ma := ok_made (P := P) (w := w) (mg := mg) (base := base)  TD F_ma M_CC G_uI b_uI
  have G_nu := ok_num (P := P) (w := w) (mg := mg) (base := base)  F_nu m_sorted
  have G_wo := ok_wo (P := P) (w := w) (mg := mg) (base := base)  F_wo
  have G_cu := ok_cu (P := P) (w := w) (mg := mg) (base := base)  F_cu G_dr g_dr k_dr b_dr G_wo g_wo k_wo b_wo m_int m_len
  have G_nc := ok_nc (P := P) (w := w) (mg := mg) (base := base) (D := CC) (N := NC) TL T3 TEV F_nc m_fw G_fw b_fw m_isinstance m_bool
  have G_rt := ok_rt (P := P) (w := w) (mg := mg) (base := base)  TEV TD neCC F_rt G_nu g_nu k_nu b_nu G_ma g_ma k_ma b_ma G_li g_li k_li b_li G_tr g_tr k_tr b_tr G_ls g_ls k_ls b_ls m_fw G_fw b_fw m_ex G_ex b_ex G_uE a_uE i_uE b_uE p_no G_no b_no p_ev G_ev b_ev m_isinstance m_enumerate m_range m_tuple
  exact ok_law TL TEV TD TNC nfLEV nfDEV neNC F_la G_ha g_ha k_ha b_ha G_cu g_cu k_cu b_cu G_ld g_ld k_ld b_ld G_pk g_pk k_pk b_pk G_dr g_dr k_dr b_dr G_rt g_rt k_rt b_rt G_nc g_nc k_nc b_nc G_ma g_ma k_ma b_ma G_tr g_tr k_tr b_tr G_li g_li k_li b_li G_ls g_ls k_ls b_ls G_nu g_nu k_nu b_nu G_wo g_wo k_wo b_wo G_oa g_oa k_oa b_oa v1_oa b1_oa G_fd g_fd k_fd b_fd M_LC G_cI b_cI M_NC G_tI b_tI v3_tI b3_tI G_eE a_eE i_eE b_eE G_tE a_tE i_tE b_tE m_list m_range
end K7
end
open PySem PySem.W PyProof.Rows
set_option maxHeartbeats 0 in
theorem PySem.Challenge.cw_landways_k31_whole_numbers_of_every_cust_holds : PySem.Challenge.rw_landways_k31_whole_numbers_of_every_cust.Holds := by
  w_on; o_law; k_head; (case hw => w_witness2)
  k_fill
  refine L2.walk_ofB (l := PySem.Challenge.rw_landways_k31_whole_numbers_of_every_cust) (n := 63) (k := 10) (x := "_law_script") (CX := fun _ => L2.CX0) (sp := fun w => K7.spLaw _) rfl (by decide) rfl ⟨rfl, by decide, by decide⟩ (fun w h Y => PySem.W.kIn_of Y) ?F (fun _ _ a ns hl _ _ hS => ⟨a, ns, rfl, hS, hl, fun _ => rfl⟩) (fun _ _ _ _ _ h => h)
  case F =>
    intro w mg fa h KX G hmg
    refine' K7.all_mk KX G hmg ?a_sq ?l_sq ?c_sq ?k_sq ?a_isw ?l_isw ?c_isw ?k_isw ?a_ac ?l_ac ?c_ac ?k_ac ?a_a2 ?l_a2 ?c_a2 ?k_a2 ?a_ic ?l_ic ?c_ic ?k_ic ?a_ck ?l_ck ?c_ck ?k_ck ?a_sp ?l_sp ?c_sp ?k_sp ?a_ny ?l_ny ?c_ny ?k_ny ?a_ht ?l_ht ?c_ht ?k_ht ?a_nb ?l_nb ?c_nb ?k_nb ?a_op ?l_op ?c_op ?k_op ?a_so ?l_so ?c_so ?k_so ?a_nr ?l_nr ?c_nr ?k_nr ?a_mt ?l_mt ?c_mt ?k_mt ?a_ca ?l_ca ?c_ca ?k_ca ?a_oa ?l_oa ?c_oa ?k_oa ?ld_oa ?vd_oa ?a_fd ?l_fd ?c_fd ?k_fd ?ld_fd ?vd_fd ?a_mi ?l_mi ?c_mi ?k_mi ?a_ha ?l_ha ?c_ha ?k_ha ?a_dr ?l_dr ?c_dr ?k_dr ?a_pk ?l_pk ?c_pk ?k_pk ?a_lo ?l_lo ?c_lo ?k_lo ?a_ld ?l_ld ?c_ld ?k_ld ?a_lc ?l_lc ?c_lc ?k_lc ?a_lp ?l_lp ?c_lp ?k_lp ?a_wo ?l_wo ?c_wo ?k_wo ?a_cu ?l_cu ?c_cu ?k_cu ?a_ls ?l_ls ?c_ls ?k_ls ?a_nu ?l_nu ?c_nu ?k_nu ?a_ma ?l_ma ?c_ma ?k_ma ?a_tr ?l_tr ?c_tr ?k_tr ?a_li ?l_li ?c_li ?k_li ?a_nc ?l_nc ?c_nc ?k_nc ?a_rt ?l_rt ?c_rt ?k_rt ?a_la ?l_la ?c_la ?k_la ?aL ?eL ?dL ?tL ?icL ?hnO ?htO ?aLC ?pgLC ?hdLC ?poLC ?saLC ?mkLC ?kcLC ?haLC ?hmLC ?n_LC_cells ?n_LC_neighbours ?n_LC_roads ?n_LC_nearby ?n_LC__couples ?a_cI ?i_cI ?l_cI ?c_cI ?k_cI ?a_cR ?i_cR ?l_cR ?c_cR ?k_cR ?aCC ?pgCC ?hdCC ?poCC ?saCC ?mkCC ?kcCC ?haCC ?hmCC ?neCC ?ssCC ?icCC ?tyCC ?stCC ?n_CC_untold ?n_CC_joined ?n_CC_sold ?n_CC_kept ?n_CC_ends ?n_CC_row ?n_CC_number ?a_uI ?i_uI ?l_uI ?c_uI ?k_uI ?a_uE ?i_uE ?l_uE ?c_uE ?k_uE ?aNC ?pgNC ?hdNC ?poNC ?saNC ?mkNC ?kcNC ?haNC ?hmNC ?neNC ?n_NC_grants ?n_NC_untold ?n_NC_giving_up ?a_tI ?i_tI ?l_tI ?c_tI ?k_tI ?ld_tI ?vd_tI ?a_tE ?i_tE ?l_tE ?c_tE ?k_tE ?aEV ?pgEV ?hdEV ?poEV ?saEV ?mkEV ?kcEV ?haEV ?hmEV ?icEV ?tyEV ?slEV ?sdEV ?nfLEV ?nfDEV ?n_EV_custom ?n_EV_counted ?n_EV_far ?n_EV_loose ?n_EV_bound ?a_eI ?i_eI ?l_eI ?c_eI ?k_eI ?a_eE ?i_eE ?l_eE ?c_eE ?k_eE ?a_fw ?i_fw ?l_fw ?c_fw ?k_fw ?a_ex ?i_ex ?l_ex ?c_ex ?k_ex ?a_no ?gp_no ?tp_no ?rp_no ?l_no ?c_no ?k_no ?a_ev ?gp_ev ?tp_ev ?rp_ev ?l_ev ?c_ev ?k_ev ?aB ?xB ?rB ?saB ?exB ?tyB ?kpB ?hgB ?hkB ?hdB ?haB ?hmB ?icB ?ssB ?noB ?a_iB ?t_iB ?l_iB ?c_iB ?k_iB ?aU ?xU ?rU ?saU ?exU ?tyU ?kpU ?hgU ?hkU ?hdU ?haU ?hmU ?icU ?ssU ?noU ?a_iU ?t_iU ?l_iU ?c_iU ?k_iU ?aBC ?xBC ?rBC ?saBC ?exBC ?tyBC ?kpBC ?hgBC ?hkBC ?hdBC ?haBC ?hmBC ?icBC ?ssBC ?noBC ?a_iBC ?t_iBC ?l_iBC ?c_iBC ?k_iBC ?a_cl ?l_cl ?v_cl ?w_cl ?a_wd ?l_wd ?v_wd ?a_m0 ?l_m0 ?v_m0 ?w_m0 ?a_m1 ?l_m1 ?v_m1 ?w_m1 ?a_m2 ?l_m2 ?v_m2 ?w_m2 ?a_m3 ?l_m3 ?v_m3 ?w_m3 ?a_m4 ?l_m4 ?v_m4 ?w_m4 ?a_dd ?l_dd ?v_dd ?a_d0 ?a_d1 ?a_d2 ?a_d3 ?a_d4 ?a_d5 ?ns_dd ?a_srs ?l_srs ?v_srs ?w_srs ?a_M ?z_isinstance ?z_int ?z_bool ?z_tuple ?z_list ?z_enumerate ?z_len ?z_abs ?z_range ?z_min ?z_max ?z_sorted ?z_set ?z_all ?z_any ?z_zip
    (case a_sq => k_is)
    (case l_sq => k_is)
    (case c_sq => k_is)
    (case k_sq => k_is)
    (case a_isw => k_is)
    (case l_isw => k_is)
    (case c_isw => k_is)
    (case k_isw => k_is)
    (case a_ac => k_is)
    (case l_ac => k_is)
    (case c_ac => k_is)
    (case k_ac => k_is)
    (case a_a2 => k_is)
    (case l_a2 => k_is)
    (case c_a2 => k_is)
    (case k_a2 => k_is)
    (case a_ic => k_is)
    (case l_ic => k_is)
    (case c_ic => k_is)
    (case k_ic => k_is)
    (case a_ck => k_is)
    (case l_ck => k_is)
    (case c_ck => k_is)
    (case k_ck => k_is)
    (case a_sp => k_is)
    (case l_sp => k_is)
    (case c_sp => k_is)
    (case k_sp => k_is)
    (case a_ny => k_is)
    (case l_ny => k_is)
    (case c_ny => k_is)
    (case k_ny => k_is)
    (case a_ht => k_is)
    (case l_ht => k_is)
    (case c_ht => k_is)
    (case k_ht => k_is)
    (case a_nb => k_is)
    (case l_nb => k_is)
    (case c_nb => k_is)
    (case k_nb => k_is)
    (case a_op => k_is)
    (case l_op => k_is)
    (case c_op => k_is)
    (case k_op => k_is)
    (case a_so => k_is)
    (case l_so => k_is)
    (case c_so => k_is)
    (case k_so => k_is)
    (case a_nr => k_is)
    (case l_nr => k_is)
    (case c_nr => k_is)
    (case k_nr => k_is)
    (case a_mt => k_is)
    (case l_mt => k_is)
    (case c_mt => k_is)
    (case k_mt => k_is)
    (case a_ca => k_is)
    (case l_ca => k_is)
    (case c_ca => k_is)
    (case k_ca => k_is)
    (case a_oa => k_is)
    (case l_oa => k_is)
    (case c_oa => k_is)
    (case k_oa => k_is)
    (case ld_oa => k_is)
    (case vd_oa => exact (.cons rfl .nil))
    (case a_fd => k_is)
    (case l_fd => k_is)
    (case c_fd => k_is)
    (case k_fd => k_is)
    (case ld_fd => k_is)
    (case vd_fd => exact (.cons rfl .nil))
    (case a_mi => k_is)
    (case l_mi => k_is)
    (case c_mi => k_is)
    (case k_mi => k_is)
    (case a_ha => k_is)
    (case l_ha => k_is)
    (case c_ha => k_is)
    (case k_ha => k_is)
    (case a_dr => k_is)
    (case l_dr => k_is)
    (case c_dr => k_is)
    (case k_dr => k_is)
    (case a_pk => k_is)
    (case l_pk => k_is)
    (case c_pk => k_is)
    (case k_pk => k_is)
    (case a_lo => k_is)
    (case l_lo => k_is)
    (case c_lo => k_is)
    (case k_lo => k_is)
    (case a_ld => k_is)
    (case l_ld => k_is)
    (case c_ld => k_is)
    (case k_ld => k_is)
    (case a_lc => k_is)
    (case l_lc => k_is)
    (case c_lc => k_is)
    (case k_lc => k_is)
    (case a_lp => k_is)
    (case l_lp => k_is)
    (case c_lp => k_is)
    (case k_lp => k_is)
    (case a_wo => k_is)
    (case l_wo => k_is)
    (case c_wo => k_is)
    (case k_wo => k_is)
    (case a_cu => k_is)
    (case l_cu => k_is)
    (case c_cu => k_is)
    (case k_cu => k_is)
    (case a_ls => k_is)
    (case l_ls => k_is)
    (case c_ls => k_is)
    (case k_ls => k_is)
    (case a_nu => k_is)
    (case l_nu => k_is)
    (case c_nu => k_is)
    (case k_nu => k_is)
    (case a_ma => k_is)
    (case l_ma => k_is)
    (case c_ma => k_is)
    (case k_ma => k_is)
    (case a_tr => k_is)
    (case l_tr => k_is)
    (case c_tr => k_is)
    (case k_tr => k_is)
    (case a_li => k_is)
    (case l_li => k_is)
    (case c_li => k_is)
    (case k_li => k_is)
    (case a_nc => k_is)
    (case l_nc => k_is)
    (case c_nc => k_is)
    (case k_nc => k_is)
    (case a_rt => k_is)
    (case l_rt => k_is)
    (case c_rt => k_is)
    (case k_rt => k_is)
    (case a_la => k_is)
    (case l_la => k_is)
    (case c_la => k_is)
    (case k_la => k_is)
    (case aL => k_is)
    (case eL => k_is)
    (case dL => k_is)
    (case tL => k_is)
    (case icL => k_is)
    (case hnO => k_is)
    (case htO => k_is)
    (case aLC => k_is)
    (case pgLC => k_is)
    (case hdLC => k_is)
    (case poLC => k_is)
    (case saLC => k_is)
    (case mkLC => k_is)
    (case kcLC => k_is)
    (case haLC => k_is)
    (case hmLC => k_is)
    (case n_LC_cells => k_is)
    (case n_LC_neighbours => k_is)
    (case n_LC_roads => k_is)
    (case n_LC_nearby => k_is)
    (case n_LC__couples => k_is)
    (case a_cI => k_is)
    (case i_cI => k_is)
    (case l_cI => k_is)
    (case c_cI => k_is)
    (case k_cI => k_is)
    (case a_cR => k_is)
    (case i_cR => k_is)
    (case l_cR => k_is)
    (case c_cR => k_is)
    (case k_cR => k_is)
    (case aCC => k_is)
    (case pgCC => k_is)
    (case hdCC => k_is)
    (case poCC => k_is)
    (case saCC => k_is)
    (case mkCC => k_is)
    (case kcCC => k_is)
    (case haCC => k_is)
    (case hmCC => k_is)
    (case neCC => k_is)
    (case ssCC => k_is)
    (case icCC => k_is)
    (case tyCC => k_is)
    (case stCC => k_is)
    (case n_CC_untold => k_is)
    (case n_CC_joined => k_is)
    (case n_CC_sold => k_is)
    (case n_CC_kept => k_is)
    (case n_CC_ends => k_is)
    (case n_CC_row => k_is)
    (case n_CC_number => k_is)
    (case a_uI => k_is)
    (case i_uI => k_is)
    (case l_uI => k_is)
    (case c_uI => k_is)
    (case k_uI => k_is)
    (case a_uE => k_is)
    (case i_uE => k_is)
    (case l_uE => k_is)
    (case c_uE => k_is)
    (case k_uE => k_is)
    (case aNC => k_is)
    (case pgNC => k_is)
    (case hdNC => k_is)
    (case poNC => k_is)
    (case saNC => k_is)
    (case mkNC => k_is)
    (case kcNC => k_is)
    (case haNC => k_is)
    (case hmNC => k_is)
    (case neNC => k_is)
    (case n_NC_grants => k_is)
    (case n_NC_untold => k_is)
    (case n_NC_giving_up => k_is)
    (case a_tI => k_is)
    (case i_tI => k_is)
    (case l_tI => k_is)
    (case c_tI => k_is)
    (case k_tI => k_is)
    (case ld_tI => k_is)
    (case vd_tI => exact (.cons rfl (.cons rfl (.cons rfl .nil))))
    (case a_tE => k_is)
    (case i_tE => k_is)
    (case l_tE => k_is)
    (case c_tE => k_is)
    (case k_tE => k_is)
    (case aEV => k_is)
    (case pgEV => k_is)
    (case hdEV => k_is)
    (case poEV => k_is)
    (case saEV => k_is)
    (case mkEV => k_is)
    (case kcEV => k_is)
    (case haEV => k_is)
    (case hmEV => k_is)
    (case icEV => k_is)
    (case tyEV => k_is)
    (case slEV => k_is)
    (case sdEV => k_is)
    (case nfLEV => k_is)
    (case nfDEV => k_is)
    (case n_EV_custom => k_is)
    (case n_EV_counted => k_is)
    (case n_EV_far => k_is)
    (case n_EV_loose => k_is)
    (case n_EV_bound => k_is)
    (case a_eI => k_is)
    (case i_eI => k_is)
    (case l_eI => k_is)
    (case c_eI => k_is)
    (case k_eI => k_is)
    (case a_eE => k_is)
    (case i_eE => k_is)
    (case l_eE => k_is)
    (case c_eE => k_is)
    (case k_eE => k_is)
    (case a_fw => k_is)
    (case i_fw => k_is)
    (case l_fw => k_is)
    (case c_fw => k_is)
    (case k_fw => k_is)
    (case a_ex => k_is)
    (case i_ex => k_is)
    (case l_ex => k_is)
    (case c_ex => k_is)
    (case k_ex => k_is)
    (case a_no => k_is)
    (case gp_no => k_is)
    (case tp_no => k_is)
    (case rp_no => k_is)
    (case l_no => k_is)
    (case c_no => k_is)
    (case k_no => k_is)
    (case a_ev => k_is)
    (case gp_ev => k_is)
    (case tp_ev => k_is)
    (case rp_ev => k_is)
    (case l_ev => k_is)
    (case c_ev => k_is)
    (case k_ev => k_is)
    (case aB => k_is)
    (case xB => k_is)
    (case rB => decide +kernel)
    (case saB => k_is)
    (case exB => k_is)
    (case tyB => k_is)
    (case kpB => k_is)
    (case hgB => k_is)
    (case hkB => k_is)
    (case hdB => k_is)
    (case haB => k_is)
    (case hmB => k_is)
    (case icB => k_is)
    (case ssB => k_is)
    (case noB => k_is)
    (case a_iB => k_is)
    (case t_iB => k_is)
    (case l_iB => k_is)
    (case c_iB => k_is)
    (case k_iB => k_is)
    (case aU => k_is)
    (case xU => k_is)
    (case rU => decide +kernel)
    (case saU => k_is)
    (case exU => k_is)
    (case tyU => k_is)
    (case kpU => k_is)
    (case hgU => k_is)
    (case hkU => k_is)
    (case hdU => k_is)
    (case haU => k_is)
    (case hmU => k_is)
    (case icU => k_is)
    (case ssU => k_is)
    (case noU => k_is)
    (case a_iU => k_is)
    (case t_iU => k_is)
    (case l_iU => k_is)
    (case c_iU => k_is)
    (case k_iU => k_is)
    (case aBC => k_is)
    (case xBC => k_is)
    (case rBC => decide +kernel)
    (case saBC => k_is)
    (case exBC => k_is)
    (case tyBC => k_is)
    (case kpBC => k_is)
    (case hgBC => k_is)
    (case hkBC => k_is)
    (case hdBC => k_is)
    (case haBC => k_is)
    (case hmBC => k_is)
    (case icBC => k_is)
    (case ssBC => k_is)
    (case noBC => k_is)
    (case a_iBC => k_is)
    (case t_iBC => k_is)
    (case l_iBC => k_is)
    (case c_iBC => k_is)
    (case k_iBC => k_is)
    (case a_cl => k_is)
    (case l_cl => k_is)
    (case v_cl => exact (.cons ⟨_, rfl⟩ (.cons ⟨_, rfl⟩ (.cons ⟨_, rfl⟩ (.cons ⟨_, rfl⟩ (.cons ⟨_, rfl⟩ .nil))))))
    (case w_cl => decide)
    (case a_wd => k_is)
    (case l_wd => k_is)
    (case v_wd => exact ⟨⟨_, _, rfl, rfl⟩, ⟨_, _, rfl, rfl⟩, ⟨_, _, rfl, rfl⟩, ⟨_, _, rfl, rfl⟩, ⟨_, _, rfl, rfl⟩, trivial⟩)
    (case a_m0 => k_is)
    (case l_m0 => k_is)
    (case v_m0 => exact (.cons ⟨_, rfl⟩ (.cons ⟨_, rfl⟩ (.cons ⟨_, rfl⟩ .nil))))
    (case w_m0 => decide)
    (case a_m1 => k_is)
    (case l_m1 => k_is)
    (case v_m1 => exact (.cons ⟨_, rfl⟩ (.cons ⟨_, rfl⟩ .nil)))
    (case w_m1 => decide)
    (case a_m2 => k_is)
    (case l_m2 => k_is)
    (case v_m2 => exact (.cons ⟨_, rfl⟩ (.cons ⟨_, rfl⟩ (.cons ⟨_, rfl⟩ (.cons ⟨_, rfl⟩ .nil)))))
    (case w_m2 => decide)
    (case a_m3 => k_is)
    (case l_m3 => k_is)
    (case v_m3 => exact (.cons ⟨_, rfl⟩ (.cons ⟨_, rfl⟩ (.cons ⟨_, rfl⟩ (.cons ⟨_, rfl⟩ .nil)))))
    (case w_m3 => decide)
    (case a_m4 => k_is)
    (case l_m4 => k_is)
    (case v_m4 => exact (.cons ⟨_, rfl⟩ (.cons ⟨_, rfl⟩ .nil)))
    (case w_m4 => decide)
    (case a_dd => k_is)
    (case l_dd => k_is)
    (case v_dd => exact ⟨⟨_, _, rfl, rfl⟩, ⟨_, _, rfl, rfl⟩, ⟨_, _, rfl, rfl⟩, ⟨_, _, rfl, rfl⟩, ⟨_, _, rfl, rfl⟩, ⟨_, _, rfl, rfl⟩, trivial⟩)
    (case a_d0 => k_is)
    (case a_d1 => k_is)
    (case a_d2 => k_is)
    (case a_d3 => k_is)
    (case a_d4 => k_is)
    (case a_d5 => k_is)
    (case ns_dd => rfl)
    (case a_srs => k_is)
    (case l_srs => k_is)
    (case v_srs => exact (.cons ⟨_, rfl⟩ (.cons ⟨_, rfl⟩ (.cons ⟨_, rfl⟩ .nil))))
    (case w_srs => decide)
    (case a_M => k_is)
    (case z_isinstance => k_is)
    (case z_int => k_is)
    (case z_bool => k_is)
    (case z_tuple => k_is)
    (case z_list => k_is)
    (case z_enumerate => k_is)
    (case z_len => k_is)
    (case z_abs => k_is)
    (case z_range => k_is)
    (case z_min => k_is)
    (case z_max => k_is)
    (case z_sorted => k_is)
    (case z_set => k_is)
    (case z_all => k_is)
    (case z_any => k_is)
    (case z_zip => k_is)

