import PyProof.Rows.All
import Wide.All
import OpenK.AllK
import Wide.FinOn
import PySem.Challenge.RW_landways_k07_customs_numbers_and_words
import HandS.ForMost
import HandS.Wide
import HandS.Evl
import HandS.Walk
import HandS.Zip
import HandS.Star
import HandS.OwnEq
import HandS.SlotsOwn
import HandS.IsInst
import HandS.ExcIs
import HandS.ExcField
import KE.KExcIs
import HandS.Iter
import KE.GoesMore
import KE.GoesEnum
import HandS.OwnIter
import HandS.IterNext
import PyProof.FactsAll.dict_1
import HandS.ExcInit
import HandS.WordsExc
import HandS.More
import HandS.Strs
import HandS.Rev
import HandS.Deep
import HandS.MakeKw
import HandS.Style
import HandS.RaiseMore
import PyProof.ListRange
import HandS.MakeKwOnly
import HandS.Sort
import HandS.GenList
import HandS.EndBits
set_option Elab.async false
set_option linter.all false
set_option maxRecDepth 100000
set_option maxHeartbeats 4000000
/-! ## P1 -/
section
open PySem PySem.Spec PyProof.Rows L2
namespace K7

def topS (i : Nat) : Stmt := PySem.Challenge.pw_landways_k07_customs_numbers_and_words.main.body.getD i (.Pass ⟨0, 0, 0, 0⟩)
abbrev N__law_mix : List Str := ["_law_number_here", "_law_turn", "_law_once", "_law_twice"]
abbrev s__law_mix : Stmt := topS 18
theorem sc__law_mix : FnScope ["_law_number_here", "_law_turn", "_law_once", "_law_twice"] ["_law_number_here", "_law_turn"] (defScope s__law_mix) := ⟨rfl, rfl, rfl, by decide +kernel, rfl, by decide +kernel, by decide +kernel⟩

abbrev N__law_draw : List Str := ["_law_hand_here", "_law_many", "_law_cell", "_law_rest"]
abbrev s__law_draw : Stmt := topS 20
theorem sc__law_draw : FnScope ["_law_hand_here", "_law_many", "_law_cell", "_law_rest"] ["_law_hand_here", "_law_many"] (defScope s__law_draw) := ⟨rfl, rfl, rfl, by decide +kernel, rfl, by decide +kernel, by decide +kernel⟩

abbrev N__law_pick : List Str := ["_law_hand_here", "_law_things"]
abbrev s__law_pick : Stmt := topS 21
theorem sc__law_pick : FnScope ["_law_hand_here", "_law_things"] ["_law_hand_here", "_law_things"] (defScope s__law_pick) := ⟨rfl, rfl, rfl, by decide +kernel, rfl, by decide +kernel, by decide +kernel⟩

abbrev N__law_hand : List Str := ["_law_script", "_law_total", "_law_k", "_law_cell"]
abbrev s__law_hand : Stmt := topS 19
theorem sc__law_hand : FnScope ["_law_script", "_law_total", "_law_k", "_law_cell"] ["_law_script"] (defScope s__law_hand) := ⟨rfl, rfl, rfl, by decide +kernel, rfl, by decide +kernel, by decide +kernel⟩

section
variable {P : Program} {w : World} {K : PySem.W.Frag} {mg : Str → Option Value} {base : Heap}
/-! mix: some number from 0 on -/
def spMix : Sp := fun vs H Q _ => ∃ n t : Int, vs = [.int n, .int t] ∧ ∀ r : Int, 0 ≤ r → Q (.int r) H
theorem ok_mix {f : Addr} {fd : FuncData} (F : Fun K "_law_mix" "_law_mix" s__law_mix f fd) (m_int : mg "int" = none) : FnOk P w K mg base CX0 1 f fd ["_law_number_here", "_law_turn"] spMix := by
  refine F.ok sc__law_mix (fun vs H Q E h => ?_) (fun cdv A outer s H vs Q E hr h => ?_)
  · obtain ⟨n, t, rfl, _⟩ := h
    rfl
  · obtain ⟨n, t, rfl, q⟩ := h
    refine ⟨_, (pss_cons (ps_set (i := 2) sc__law_mix.nd rfl (by first | exact Or.inl rfl | exact Or.inr rfl) (pe_op op_mod (pe_callTy call_int1 (by rfl) m_int boot_int (pa_cons (pe_op op_add (pe_op op_add (pe_op op_mul (pv 0) pe_int) (pe_op op_mul (pv 1) pe_int)) pe_int) pa_nil)) pe_int))
 (pss_cons (ps_set (i := 3) sc__law_mix.nd rfl (by first | exact Or.inl rfl | exact Or.inr rfl) (pe_op op_mod (pe_callTy call_int1 (by rfl) m_int boot_int (pa_cons (pe_op op_add (pe_op op_add (pe_op op_mul (pv 2) (pv 2)) (pe_op op_mul (pe_op op_fdiv (pv 2) pe_int) pe_int)) (pe_op op_mul (pv 1) pe_int)) pa_nil)) pe_int))
 (pss_one (ps_ret (pe_op op_fdiv (pe_op op_mod (pe_callTy call_int1 (by rfl) m_int boot_int (pa_cons (pe_op op_add (pe_op op_fdiv (pe_op op_mul (pv 3) (pv 3)) pe_int) (pv 2)) pa_nil)) pe_int) pe_int))))), ?_⟩
    have e1 : ∀ z : Int, 0 ≤ z % 2147483647 ∧ z % 2147483647 < 2147483647 := fun z => ⟨Int.emod_nonneg _ (by decide), Int.emod_lt_of_pos _ (by decide)⟩
    have e2 : ∀ z : Int, 0 ≤ z % 2147483399 ∧ z % 2147483399 < 2147483399 := fun z => ⟨Int.emod_nonneg _ (by decide), Int.emod_lt_of_pos _ (by decide)⟩
    refine ⟨_, rfl, _, _, rfl, rfl, .inr ⟨by decide, by decide⟩, _, rfl, _, _, rfl, rfl, .inr ⟨by decide, by decide⟩, _, _, rfl, rfl, _, _, rfl, rfl, .inl ⟨_, rfl, ?_⟩⟩
    refine ⟨_, _, rfl, rfl, show (0 : Int) < _ by decide, ?_⟩
    have b1 := e1 (n * 48271 + t * 16807 + 11)
    refine ⟨_, rfl, _, rfl, _, _, rfl, rfl, .inl ⟨by omega, by omega⟩, _, rfl, _, _, rfl, rfl, ⟨by decide, by decide⟩, _, _, rfl, rfl, .inr ⟨by decide, by decide⟩, _, _, rfl, rfl, _, rfl, _, _, rfl, rfl, .inr ⟨by decide, by decide⟩, _, _, rfl, rfl, .inl ⟨_, rfl, ?_⟩⟩
    refine ⟨_, _, rfl, rfl, show (0 : Int) < _ by decide, ?_⟩
    refine ⟨_, rfl, _, rfl, _, _, rfl, rfl, .inl ⟨by omega, by omega⟩, _, _, rfl, rfl, ⟨by decide, by decide⟩, _, rfl, _, _, rfl, rfl, .inl ⟨_, rfl, _, _, rfl, rfl, show (0 : Int) < _ by decide, _, _, rfl, rfl, ⟨by decide, by decide⟩, ?_⟩⟩
    exact q _ (Int.ediv_nonneg (Int.emod_nonneg _ (by decide)) (by decide))
/-! the hand -/
structure HandB (ns : List Int) (i x t : Int) : Prop where
  len : ns.length ≤ 63
  lo : 0 ≤ i
  hi : i ≤ ns.length
  x0 : 0 ≤ x
  t0 : 0 ≤ t
  pos : ∀ n ∈ ns, 0 ≤ n
def HandO (c : Addr) (i x t : Int) : HO := .lst [.ref c, .int i, .int x, .int t]
def Hand (H : Hp) (a c : Addr) : Prop := ∃ ns i x t, H a = some (HandO c i x t) ∧ H c = some (.lst (ns.map V.int)) ∧ HandB ns i x t
/-- H' is H but for the hand at a, which is a hand still -/
structure Drawn (H H' : Hp) (a c : Addr) : Prop where
  but : ∀ b, b ≠ a → H' b = H b
  hand : Hand H' a c
def spDraw : Sp := fun vs H Q _ => ∃ (a c : Addr) (many : Int), vs = [.ref a, .int many] ∧ Hand H a c ∧ 0 < many ∧ many < 2 ^ 200 ∧ ∀ H' r, Drawn H H' a c → 0 ≤ r → r < many → Q (.int r) H'
theorem hand_ne {H : Hp} {a c : Addr} {ns : List Int} {i x t : Int} (h1 : H a = some (HandO c i x t)) (h2 : H c = some (.lst (ns.map V.int))) : c ≠ a := by
  intro e
  subst e
  rw [h1] at h2
  unfold HandO at h2
  injection h2 with h2
  injection h2 with h2
  cases ns with
  | nil => cases h2
  | cons n r => rw [List.map_cons] at h2; injection h2 with h3 h4; cases h3
theorem drawn_of {H H0 : Hp} {a c : Addr} {ns : List Int} {i x t : Int} (hb : ∀ b, b ≠ a → H0 b = H b) (hc : c ≠ a) (h2 : H c = some (.lst (ns.map V.int))) (B : HandB ns i x t) : Drawn H (upd H0 a (HandO c i x t)) a c :=
  ⟨fun b h => by rw [upd_ne h]; exact hb b h, ⟨ns, i, x, t, upd_same, by rw [upd_ne hc, hb c hc]; exact h2, B⟩⟩
theorem wide200 {many : Int} (h0 : 0 < many) (h1 : many < 2 ^ 200) (i : Int) : CDivW i many := wide_div (b := 200) h0 (by omega) (by decide) (by decide)
theorem ok_draw {f fM : Addr} {fd fdM : FuncData} (F : Fun K "_law_draw" "_law_draw" s__law_draw f fd) (FM : Fun K "_law_mix" "_law_mix" s__law_mix fM fdM) (g_law_mix : mg "_law_mix" = some (.ref fM)) (b_law_mix : Binds K fdM ["_law_number_here", "_law_turn"] [])
    (m_int : mg "int" = none) (m_len : mg "len" = none) : FnOk P w K mg base CX0 2 f fd ["_law_hand_here", "_law_many"] spDraw := by
  have G_law_mix : FnOk P w K mg base CX0 1 fM fdM ["_law_number_here", "_law_turn"] spMix := ok_mix FM m_int
  have k_law_mix := FM.kp
  refine F.ok sc__law_draw (fun vs H Q E h => ?_) (fun cdv A outer s H vs Q E hr h => ?_)
  · obtain ⟨a, c, n, rfl, _⟩ := h
    rfl
  · obtain ⟨a, c, many, rfl, ⟨ns, i, x, t, h1, h2, B⟩, hm0, hm1, q⟩ := h
    have hr_law_mix := hr
    have hc := hand_ne h1 h2
    refine ⟨_, (Evl.pss_cut (ps_if (pw_and (pt_cmpR op_eq (pe_ix ix_list (pv 0) pe_int (fun _ _ => rfl)) pe_int (nomark _)) (pw_and1 (pt_cmpR op_lt (pe_ix ix_list (pv 0) pe_int (fun _ _ => rfl)) (pe_callB call_len_seq (by rfl) m_len boot_len (pa_cons (pe_ix ix_list (pv 0) pe_int (fun _ _ => rfl)) pa_nil)) (nomark _)))).pt
  (pss_cons (ps_set (i := 2) sc__law_draw.nd rfl (by first | exact Or.inl rfl | exact Or.inr rfl) (pe_ix ix_list (pe_ix ix_list (pv 0) pe_int (fun _ _ => rfl)) (pe_ix ix_list (pv 0) pe_int (fun _ _ => rfl)) (fun _ _ => rfl)))
 (pss_cons (ps_asg (pe_op op_add (pe_ix ix_list (pv 0) pe_int (fun _ _ => rfl)) pe_int) (pg_sub (pv 0) pe_int set_list))
 (pss_cons (ps_if (pt_cmpR op_lt (pv 2) (pe_op op_pow pe_int pe_int) (nomark _))
  (pss_one (ps_ret (pe_op op_mod (pe_callTy call_int1 (by rfl) m_int boot_int (pa_cons (pe_call G_law_mix hr_law_mix (by rfl) g_law_mix k_law_mix b_law_mix .nil pass0 (pa_cons (pe_op op_mod (pe_callTy call_int1 (by rfl) m_int boot_int (pa_cons (pv 2) pa_nil)) pe_int) (pa_cons (pe_ix ix_list (pv 0) pe_int (fun _ _ => rfl)) pa_nil))) pa_nil)) (pv 1))))
  pss_nil)
 (pss_one (ps_asg (pv 2) (pg_sub (pv 0) pe_int set_list))))))
  pss_nil)
 (pss_cons (ps_if (pt_cmpR op_gt (pe_ix ix_list (pv 0) pe_int (fun _ _ => rfl)) pe_int (nomark _))
  (pss_cons (ps_set (i := 3) sc__law_draw.nd rfl (by first | exact Or.inl rfl | exact Or.inr rfl) (pe_ix ix_list (pv 0) pe_int (fun _ _ => rfl)))
 (pss_cons (ps_asg (pe_op op_fdivW (pv 3) (pv 1)) (pg_sub (pv 0) pe_int set_list))
 (pss_one (ps_ret (pe_op op_mod (pe_callTy call_int1 (by rfl) m_int boot_int (pa_cons (pv 3) pa_nil)) (pv 1))))))
  pss_nil)
 (pss_cons (ps_asg (pe_op op_mod (pe_callTy call_int1 (by rfl) m_int boot_int (pa_cons (pe_op op_add (pe_ix ix_list (pv 0) pe_int (fun _ _ => rfl)) pe_int) pa_nil)) pe_int) (pg_sub (pv 0) pe_int set_list))
 (pss_one (ps_ret (pe_op op_mod (pe_callTy call_int1 (by rfl) m_int boot_int (pa_cons (pe_call G_law_mix hr_law_mix (by rfl) g_law_mix k_law_mix b_law_mix .nil pass0 (pa_cons (pe_ix ix_list (pv 0) pe_int (fun _ _ => rfl)) (pa_cons (pe_ix ix_list (pv 0) pe_int (fun _ _ => rfl)) pa_nil))) pa_nil)) (pv 1))))))), ?_⟩
    have hS : SqL K H a [.ref c, .int i, .int x, .int t] := .inl (.inl h1)
    have hC : SqL K H c (ns.map V.int) := .inl (.inl h2)
    have last : ∀ (i' : Int) (σ : L2.St) , 0 ≤ i' → i' ≤ ns.length → True := fun _ _ _ _ => trivial
    refine ⟨fun σ' H' => ∃ i' x' y2, σ' = [some (.ref a), some (.int many), y2, none] ∧ (∀ b, b ≠ a → H' b = H b) ∧ H' a = some (HandO c i' x' t) ∧ HandB ns i' x' t, ?_, fun σ' H' hM => ?_⟩
    refine ⟨.ref a, rfl, a, _, _, _, rfl, rfl, hS, rfl, rfl, _, rfl, ite2 (fun e => ?_) (fun e => ?_)⟩
    · have ex : x = 0 := V.int.inj (of_decide_eq_true e)
      subst ex
      refine ⟨.ref a, rfl, a, _, _, _, rfl, rfl, hS, rfl, .ref a, rfl, a, _, _, _, rfl, rfl, hS, rfl, c, _, rfl, .inl hC, _, _, rfl, rfl, _, rfl, ite2 (fun e => ?_) (fun e => ?_)⟩
      · have hi : i < ((ns.map V.int).length : Int) := of_decide_eq_true e
        rw [List.length_map] at hi
        have hlo := B.lo
        obtain ⟨j, rfl⟩ : ∃ j : Nat, i = (j : Int) := ⟨i.toNat, by omega⟩
        have hj : j < ns.length := by omega
        have gj : (ns.map V.int)[j]? = some (.int ns[j]) := by
          rw [List.getElem?_map, List.getElem?_eq_getElem hj]
          rfl
        have p0 : 0 ≤ ns[j] := B.pos _ (List.getElem_mem hj)
        refine ⟨.ref a, rfl, a, _, _, _, rfl, rfl, hS, rfl, .ref a, rfl, a, _, _, _, rfl, rfl, hS, rfl, c, _, _, _, rfl, rfl, hC, atI_nat gj, ?_⟩
        refine ⟨.ref a, rfl, a, _, _, _, rfl, rfl, hS, rfl, _, _, rfl, rfl, .ref a, rfl, a, _, _, _, rfl, rfl, h1, rfl, ?_⟩
        have hS2 : SqL K (upd H a (HandO c (j + 1) 0 t)) a [.ref c, .int (j + 1), .int 0, .int t] := .inl (.inl upd_same)
        refine ⟨_, rfl, _, _, rfl, rfl, ⟨by decide, by decide, by decide⟩, _, _, rfl, rfl, _, rfl, ite2 (fun e => ?_) (fun e => ?_)⟩
        · refine ⟨_, rfl, .inl ⟨_, rfl, _, _, rfl, rfl, show (0 : Int) < _ by decide, .ref a, rfl, a, _, _, _, rfl, rfl, hS2, rfl, _, _, rfl, fun r r0 => .inl ⟨_, rfl, _, rfl, _, _, rfl, rfl, hm0, ?_⟩⟩⟩
          exact q _ _ (drawn_of (H0 := H) (fun _ _ => rfl) hc h2 ⟨B.len, by omega, by omega, by decide, B.t0, B.pos⟩) (Int.emod_nonneg _ (by omega)) (Int.emod_lt_of_pos _ hm0)
        · refine ⟨_, rfl, .ref a, rfl, a, _, _, _, rfl, rfl, upd_same, rfl, ?_⟩
          refine ⟨_, _, _, rfl, fun b hb => by rw [upd_ne hb, upd_ne hb], upd_same, ⟨B.len, by omega, by omega, p0, B.t0, B.pos⟩⟩
      · exact ⟨i, 0, none, rfl, fun _ _ => rfl, h1, B⟩
    · exact ⟨i, x, none, rfl, fun _ _ => rfl, h1, B⟩
    · obtain ⟨i', x', y2, rfl, hb, h1', B'⟩ := hM
      have h2' : H' c = some (.lst (ns.map V.int)) := by rw [hb c hc]; exact h2
      have hS' : SqL K H' a [.ref c, .int i', .int x', .int t] := .inl (.inl h1')
      refine ⟨.ref a, rfl, a, _, _, _, rfl, rfl, hS', rfl, _, _, rfl, rfl, _, rfl, ite2 (fun e => ?_) (fun e => ?_)⟩
      · refine ⟨.ref a, rfl, a, _, _, _, rfl, rfl, hS', rfl, _, rfl, _, rfl, _, _, rfl, rfl, wide200 hm0 hm1 _, .ref a, rfl, a, _, _, _, rfl, rfl, h1', rfl, ?_⟩
        refine ⟨_, rfl, .inl ⟨_, rfl, _, rfl, _, _, rfl, rfl, hm0, ?_⟩⟩
        exact q _ _ (drawn_of (H0 := H') hb hc h2 ⟨B.len, B'.lo, B'.hi, Int.ediv_nonneg B'.x0 (by omega), B.t0, B.pos⟩) (Int.emod_nonneg _ (by omega)) (Int.emod_lt_of_pos _ hm0)
      · refine ⟨.ref a, rfl, a, _, _, _, rfl, rfl, hS', rfl, _, _, rfl, rfl, .inl ⟨_, rfl, _, _, rfl, rfl, show (0 : Int) < _ by decide, .ref a, rfl, a, _, _, _, rfl, rfl, h1', rfl, ?_⟩⟩
        have hS3 : SqL K (upd H' a (HandO c i' x' ((t + 1) % 2147483629))) a [.ref c, .int i', .int x', .int ((t + 1) % 2147483629)] := .inl (.inl upd_same)
        refine ⟨.ref a, rfl, a, _, _, _, rfl, rfl, hS3, rfl, .ref a, rfl, a, _, _, _, rfl, rfl, hS3, rfl, _, _, rfl, fun r r0 => .inl ⟨_, rfl, _, rfl, _, _, rfl, rfl, hm0, ?_⟩⟩
        exact q _ _ (drawn_of (H0 := H') hb hc h2 ⟨B.len, B'.lo, B'.hi, B'.x0, Int.emod_nonneg _ (by decide), B.pos⟩) (Int.emod_nonneg _ (by omega)) (Int.emod_lt_of_pos _ hm0)
theorem Hand.same {H H' : Hp} {a c : Addr} (h : Hand H a c) (e : Same H H') : Hand H' a c := by
  obtain ⟨ns, i, x, t, h1, h2, B⟩ := h
  exact ⟨ns, i, x, t, e _ _ h1, e _ _ h2, B⟩
theorem Hand.upd {H : Hp} {a c l : Addr} {o : HO} (h : Hand H a c) (h1 : l ≠ a) (h2 : l ≠ c) : Hand (upd H l o) a c := by
  obtain ⟨ns, i, x, t, e1, e2, B⟩ := h
  exact ⟨ns, i, x, t, by rw [upd_ne h1.symm]; exact e1, by rw [upd_ne h2.symm]; exact e2, B⟩
theorem Hand.ne {H : Hp} {a c l : Addr} (h : Hand H a c) (n : H l = none) : l ≠ a ∧ l ≠ c := by
  obtain ⟨ns, i, x, t, e1, e2, B⟩ := h
  exact ⟨(ne_of_none e1 n).symm, (ne_of_none e2 n).symm⟩
/-- an item of a list -/
def spPick : Sp := fun vs H Q _ => ∃ (a c l : Addr) (xs : List V), vs = [.ref a, .ref l] ∧ Hand H a c ∧ l ≠ a ∧ H l = some (.lst xs) ∧ 0 < xs.length ∧ xs.length ≤ 1000 ∧ ∀ H' (j : Nat) v, Drawn H H' a c → xs[j]? = some v → Q v H'
theorem ok_pick {f fD : Addr} {fd fdD : FuncData} (F : Fun K "_law_pick" "_law_pick" s__law_pick f fd) (k_law_draw : PySem.W.keepIn K (.ref fD) = true) (G_law_draw : FnOk P w K mg base CX0 2 fD fdD ["_law_hand_here", "_law_many"] spDraw) (g_law_draw : mg "_law_draw" = some (.ref fD)) (b_law_draw : Binds K fdD ["_law_hand_here", "_law_many"] [])
    (m_len : mg "len" = none) : FnOk P w K mg base CX0 3 f fd ["_law_hand_here", "_law_things"] spPick := by
  refine F.ok sc__law_pick (fun vs H Q E h => ?_) (fun cdv A outer s H vs Q E hr h => ?_)
  · obtain ⟨a, c, l, xs, rfl, _⟩ := h
    rfl
  · obtain ⟨a, c, l, xs, rfl, hh, hla, hl, h0, h1, q⟩ := h
    have hr_law_draw := hr
    refine ⟨_, (pss_one (ps_ret (pe_ix ix_list (pv 1) (pe_call G_law_draw hr_law_draw (by rfl) g_law_draw k_law_draw b_law_draw .nil pass0 (pa_cons (pv 0) (pa_cons (pe_callB call_len_seq (by rfl) m_len boot_len (pa_cons (pv 1) pa_nil)) pa_nil))) (fun _ _ => rfl)))), ?_⟩
    have hm : ((xs.length : Nat) : Int) < 2 ^ 200 := Int.lt_of_le_of_lt (show ((xs.length : Nat) : Int) ≤ 1000 by omega) (by decide)
    refine ⟨.ref l, rfl, .ref a, rfl, .ref l, rfl, l, _, rfl, .inl (.inl (.inl hl)), a, c, _, rfl, hh, by omega, hm, fun H' r d r0 r1 => ?_⟩
    obtain ⟨j, rfl⟩ : ∃ j : Nat, r = (j : Int) := ⟨r.toNat, by omega⟩
    have hj : j < xs.length := by omega
    have e : xs[j]? = some xs[j] := List.getElem?_eq_getElem hj
    have hl' : H' l = some (.lst xs) := by rw [d.but l hla]; exact hl
    exact ⟨l, xs, _, _, rfl, rfl, .inl (.inl hl'), atI_nat e, q H' j _ d e⟩
/-- the hand of a script -/
def spHand (K : PySem.W.Frag) : Sp := fun vs H Q _ => ∃ (s : Addr) (ns : List Int), vs = [.ref s] ∧ SqL K H s (ns.map V.int) ∧ ns.length ≤ 63 ∧ ∀ H' a c, Same H H' → H a = none → H c = none → Hand H' a c → Q (.ref a) H'
theorem ok_hand {f : Addr} {fd : FuncData} (F : Fun K "_law_hand" "_law_hand" s__law_hand f fd) (m_int : mg "int" = none) (m_abs : mg "abs" = none) (m_enumerate : mg "enumerate" = none) : FnOk P w K mg base CX0 1 f fd ["_law_script"] (spHand K) := by
  refine F.ok sc__law_hand (fun vs H Q E h => ?_) (fun cdv A outer s H vs Q E hr h => ?_)
  · obtain ⟨a, ns, rfl, _⟩ := h
    rfl
  · obtain ⟨a, ns, rfl, hS, hlen, q⟩ := h
    refine ⟨_, (pss_cons (ps_set (i := 1) sc__law_hand.nd rfl (by first | exact Or.inl rfl | exact Or.inr rfl) pe_int)
 (pss_cons (ps_for PassesOwn.never rfl (pi_enum (by rfl) m_enumerate (pa_cons (pv 0) pa_nil)) (pg_tup rfl (pgs_cons (pg_name (i := 2) sc__law_hand.nd rfl (by first | exact Or.inl rfl | exact Or.inr rfl)) (pgs_cons (pg_name (i := 3) sc__law_hand.nd rfl (by first | exact Or.inl rfl | exact Or.inr rfl)) pgs_nil)))
  (pss_one (ps_set (i := 1) sc__law_hand.nd rfl (by first | exact Or.inl rfl | exact Or.inr rfl) (pe_op op_mod (pe_callTy call_int1 (by rfl) m_int boot_int (pa_cons (pe_op op_add (pe_op op_mul (pv 1) pe_int) (pe_op op_mul (pe_callTy call_int1 (by rfl) m_int boot_int (pa_cons (pv 3) pa_nil)) (pe_op op_add (pv 2) pe_int))) pa_nil)) pe_int))))
 (pss_one (ps_ret (pe_lst (pa_cons (pe_lc (own := [("_law_cell", 3)]) (g := gName 3) (tt := tYes) rfl sc__law_hand.nd (pi_list (pv 0)) (blkOk_by (own := [("_law_cell", 3)]) (N := N__law_hand) (sc := defScope s__law_hand) (by decide +kernel)) (fun _ _ _ _ _ => (pg_name (i := 3) sc__law_hand.nd rfl (by first | exact Or.inl rfl | exact Or.inr rfl))) (fun _ _ _ _ _ => pts_nil) (fun _ _ _ _ _ => (pe_callB call_abs (by rfl) m_abs boot_abs (pa_cons (pe_callTy call_int1 (by rfl) m_int boot_int (pa_cons (pv 3) pa_nil)) pa_nil)))) (pa_cons pe_int (pa_cons pe_int (pa_cons (pv 1) pa_nil))))))))), ?_⟩
    have hlen' : (ns.map V.int).length = ns.length := List.length_map ..
    refine ⟨.ref a, rfl, a, _, rfl, hS, for_it (walk_enum (xs := ns.map V.int)) (fun i σ H' => ∃ tot y2 y3, σ = [some (.ref a), some (.int tot), y2, y3] ∧ 0 ≤ tot ∧ tot < 2147483629 ∧ Same H H') ⟨0, none, none, rfl, by decide, by decide, Same.refl H⟩ (fun i σ H' _ p => ?_) (fun i v σ H' H'' hi p y => ?_) (fun σ H1 p => ?_)⟩
    · obtain ⟨tot, y2, y3, rfl, _, _, e⟩ := p
      exact e.seq hS
    · obtain ⟨tot, y2, y3, rfl, t0, t1, e⟩ := p
      obtain ⟨T, x, y, rfl, nT, rfl, ex, ey⟩ := y
      rw [hlen'] at hi
      obtain rfl : .int (i : Nat) = x := Option.some.inj ex
      obtain ⟨n, rfl⟩ : ∃ n : Int, y = .int n := by
        have ey : (ns.map V.int)[i]? = some y := ey
        rw [List.getElem?_map, List.getElem?_eq_getElem hi] at ey
        exact ⟨_, (Option.some.inj ey).symm⟩
      refine ⟨T, _, rfl, .inl (.inl upd_same), rfl, _, _, rfl, _, _, rfl, rfl, ?_⟩
      refine ⟨_, rfl, _, _, rfl, rfl, .inr ⟨by decide, by decide⟩, _, rfl, .inl ⟨_, rfl, _, rfl, _, _, rfl, rfl, _, _, rfl, rfl, .inr ⟨by omega, by omega⟩, _, _, rfl, rfl, .inl ⟨_, rfl, _, _, rfl, rfl, show (0 : Int) < _ by decide, ?_⟩⟩⟩
      refine ⟨_, _, _, rfl, Int.emod_nonneg _ (by decide), Int.emod_lt_of_pos _ (by decide), e.trans fun b z hz => ?_⟩
      rw [upd_ne (ne_of_none hz nT)]
      exact hz
    · obtain ⟨tot, y2, y3, rfl, t0, t1, e⟩ := p
      have hS1 : SqL K H1 a (ns.map V.int) := e.seq hS
      refine ⟨.ref a, rfl, a, rfl, ⟨_, hS1⟩, fun D hD => lc_list (xs := ns.map V.int) (fun i H2 => Same H1 H2 ∧ H2 D = some (.lst ((ns.take i).map fun n => .int (if n < 0 then -n else n)))) ⟨fun b z hz => ?_, upd_same⟩ (fun i H2 _ p => p.1.seq hS1) (fun i x H2 hx p => ?_) (fun H2 p => ?_)⟩
      · rw [upd_ne (ne_of_none hz hD)]
        exact hz
      · obtain ⟨e2, hd⟩ := p
        rw [List.getElem?_map] at hx
        obtain ⟨n, hn, rfl⟩ := Option.map_eq_some_iff.mp hx
        refine ⟨rfl, ?_⟩
        refine ⟨_, rfl, .inl ⟨_, rfl, _, rfl, _, hd, ?_, fun b z hz => ?_, ?_⟩⟩
        · rw [List.length_map, List.length_take]
          exact Nat.lt_of_le_of_lt (Nat.min_le_right _ _) (small1000 (by omega))
        · rw [upd_ne (ne_of_none hz hD)]
          exact e2 _ _ hz
        · rw [upd_same, List.take_add_one, hn, List.map_append]
          rfl
      · obtain ⟨e2, hd⟩ := p
        rw [hlen', List.take_length] at hd
        refine ⟨_, rfl, by show 4 ≤ sizeLine; decide, fun p hp => ?_⟩
        have npD : D ≠ p := ne_of_none hd hp
        refine q _ p D ?_ ((e.trans e2).free hp) (e.free hD) ⟨ns.map fun n => if n < 0 then -n else n, 0, 0, tot, upd_same, ?_, ?_⟩
        · exact fun b z hz => by
            rw [upd_ne (ne_of_none ((e.trans e2) _ _ hz) hp)]
            exact (e.trans e2) _ _ hz
        · rw [upd_ne npD, hd, List.map_map]
          rfl
        · refine ⟨by rw [List.length_map]; exact hlen, by decide, by omega, by decide, t0, fun n hn => ?_⟩
          obtain ⟨m, _, rfl⟩ := List.mem_map.mp hn
          split <;> omega
end
end K7
end
/-! ## E2 -/
section
namespace K7E
open PySem PySem.Spec PyProof.Rows L2
section
variable {X : Cx} {CX : CXT} {k : Nat} {f C sp_ : Addr} {fd : FuncData} {ps : List Str} {sp : Sp} {E : XK} {x : Str} {e : Expr} {te : TE} {p pos spos : Pos}
/-- C(*y) -/
theorem pe_makeS1 (M : Mk X.K C f) (F : FnOk X.prog X.w X.K X.mg X.base CX k f fd ps sp) (hr : Room (k + 1) X.A) (hg : Gl X x) (hm : X.mg x = some (.ref C)) (hb : Binds X.K fd ps []) (hx : Passes CX X E) (he : PE X e te) (hd : (x == ("__debug__" : Str)) = false := by decide)
    (hst : starEach [.Starred e spos] X.env = [(true, eval e X.env)] := by rfl) :
    PE X (.Call (.Name x p) [.Starred e spos] [] pos) (fun σ H Q => te σ H fun y H1 => ∃ a xs, y = V.ref a ∧ (SqT X.K H1 a xs ∨ SqL X.K H1 a xs) ∧
      ∀ x dx, H1 x = none → H1 dx = none → dx ≠ x → sp (.ref x :: (xs ++ [])) (upd (upd H1 dx (.own x)) x (.ins C dx [])) (fun v H2 => v = .non ∧ Q (.ref x) H2) E) := by
  refine ⟨fun pins s σ H Q I h => ?_⟩
  refine wpAny_Call_Name_kw (ld_glob I hg hm ?_ hd)
  refine PySem.W.callWith_S (h₀ := X.base) I.ok.mod.kin M.kp (thn (he.run pins s σ H _ I h) fun v s1 ⟨y, H1, I1, ry, a, xs, ey, hxs, q⟩ => ?_) hst
  subst ey
  obtain rfl : v = Value.ref a := ry
  exact StX.star_any I1 hxs fun us s2 I2 rv => ⟨I2.kIn, run_make M F hr hb .nil hx I2 rv q⟩
end
theorem walk_zipT {K : PySem.W.Frag} {a b : Addr} {xs ys : List V} {n : Nat} (h1 : xs.length = n) (h2 : ys.length = n) : Walk (RZ.ItzT K a b) n (fun H => SqT K H a xs ∧ SqT K H b ys) (YPair (fun i => xs[i]?) (fun i => ys[i]?)) := by
  subst h1
  refine ⟨fun i H hi hq => ?_, fun H hq => ?_, fun i H v H' hi hq hy => ?_⟩
  · exact ⟨xs, ys, _, _, hq.1, hq.2, List.getElem?_eq_getElem hi, List.getElem?_eq_getElem (by omega)⟩
  · exact ⟨xs, ys, hq.1, hq.2, .inl (Nat.le_refl _)⟩
  · obtain ⟨T, x, y, rfl, nT, rfl, f1, f2⟩ := hy
    exact ⟨T, x, y, rfl, nT, rfl, f1 _ hq.1, f2 _ hq.2⟩
/-! ### x == y by x's own __eq__ -/
def rEqO (K : PySem.W.Frag) (C : Addr) (sp : Sp) (E : XK) : R2 := fun x y H Q => ∃ (a dx : Addr) (fs : List (Str × V)) (b : Addr) (t : Value), x = .ref a ∧ y = .ref b ∧ H a = some (.ins C dx fs) ∧ TyX K H y t ∧ PySem.W.notFirst K C t = true ∧ sp [x, y] H Q E
section
variable {X : Cx}
theorem op_eqOwn {CX : CXT} {C g : Addr} {fd : FuncData} {ps : List Str} {sp : Sp} {E : XK} {n : Nat} (F : FnOk X.prog X.w X.K X.mg X.base CX n g fd ps sp) (hs : PySem.W.findIn X.K (.ref C) "__eq__" = some (some (.ref g))) (hf : PySem.W.isFn X.K (.ref g) = true) (hb : Binds X.K fd ps [])
    (hr : Room n X.A) (hx : Passes CX X E) : OpR X (compareOp .Eq) (rEqO X.K C sp E) := by
  intro pins s σ H x y v u Q I rx ry h
  obtain ⟨a, dx, fs, b, t, rfl, rfl, ha, ty, hn, q⟩ := h
  cases (show v = Value.ref a from rx)
  cases (show u = Value.ref b from ry)
  obtain ⟨mA, J, _⟩ := ins_get I.hok ha
  obtain ⟨od, J, _⟩ := J.look
  obtain ⟨P, Z, hp, hne⟩ := kit_of I (show RelV (.ref b) (Value.ref b) from rfl) ty
  obtain ⟨m, hF⟩ := I.fr
  have hl := F.len _ _ _ _ q
  have r2 : Vals [V.ref a, V.ref b] [Value.ref a, Value.ref b] := .cons rfl (.cons rfl .nil)
  refine PySem.W.cmp_K (op := .Eq) (tb := t) hr.units0 hF I.ok.mod.kin J (Z.ty _ _ I.kIn hp) hn hs hf ?_
  refine wpAny_mono (wpAny_call (run_fnR (us := [.ref a, .ref b]) (vs := [.ref a, .ref b]) (F.raw hb .nil) hr hx I r2 q)) (fun w s' z => ?_) fun _ _ x => x
  obtain ⟨z', H', I', rz, qz⟩ := z
  exact SlX.cmpback rz ⟨z', H', I', rz, qz⟩
/-! ### isinstance(e, c), e the exception that the suite holds, with fields of its own -/
theorem call_isEd {a D d : Addr} {oe : Obj} {pn : List (Addr × Obj)} (C : ExcC X.K D) (hz : Zc (.ref D) (some d) oe) (hf : ∃ vs, oe.data = .fields vs) : CallR (X.suite a ((a, oe) :: pn)) (.builtin "isinstance") (fun xs H Q => ∃ (c : V) (cv : Value) (b : Bool) (fs : List (Str × V)), xs = [.ref a, c] ∧ (∀ u, RelV c u → u = cv) ∧ PySem.W.kitOne X.K (.ref D) cv = some b ∧ H d = some (.xd fs) ∧ Q (.bl b) H) := by
  intro pins s σ H xs us Q I r h
  obtain ⟨c, cv, b, fs, rfl, hcv, e, hd, q⟩ := h
  cases r with
  | cons rx rr =>
    cases rr with
    | cons rt rr =>
      cases rr
      cases rx
      have ec := hcv _ rt
      subst ec
      obtain ⟨hget, _⟩ := I.pin (a, oe) (List.mem_append.mpr (.inl List.mem_cons_self))
      obtain ⟨vs, hv⟩ := hf
      have hx : ObjOk X.prog X.w H s.heap d (.xd fs) := I.hok d _ hd
      obtain ⟨mA, hns, hrr⟩ := hx
      obtain ⟨od, ho, hl⟩ := lookIn_ns hns
      have J : PySem.W.InstAt s.heap a oe D (some od) := ⟨hget, hz.1, by unfold PySem.W.notCls; rw [hv] <;> rfl, by rw [hz.2]; exact ho⟩
      obtain ⟨cd, hcc, _⟩ := PySem.W.any_some C.hd
      exact PySem.W.kia_one (PySem.W.kitx_exc (gt := none) (by rw [hcc]; rfl) C.hg C.hk C.hs C.ha C.hn C.ht C.hm) I.kIn J e (fun z => nomatch z) fun tk => ⟨.bl b, H, I.kept (t' := tk) fun _ _ z => z, rfl, q⟩
end
end K7E
end
/-! ## E3 -/
section
namespace PySem
open PySem PySem.Spec PyProof.Rows
theorem k7_meets_enumerate_newT (l : Addr) (items : Array Value) (n : Nat) (dct : Option Addr) (sl : Array (Option Value)) :
    Meets (Builtin.«enumerate.__new__» ⟨[.type "enumerate", .ref l], []⟩) (fun _ R s => s.heap.get? l = some { cls := .type "tuple", dict := dct, data := .seq items n, slots := sl } ∧
      R (.ok (.ret (.ref (s.heap.push { cls := .type "tuple_iterator", data := .fields #[.ref l, .int 0 0] }).objs.size)))
        { s with heap := (s.heap.push { cls := .type "tuple_iterator", data := .fields #[.ref l, .int 0 0] }).push { cls := .type "enumerate", data := .fields #[.none, .bool false, .ref s.heap.objs.size, rawInt 0, .none, .none] } }) :=
  .of_wp fun prog w A R s h => by
    obtain ⟨hp, g, d, tk, os⟩ := s; obtain ⟨hl, h⟩ := h
    have hsub := sub_enumerate
    have hL : Heap.IsTuple (Shared.heap ⟨hp, g, d, tk, os⟩) l items := ⟨_, hl, rfl, n, rfl⟩
    wp_walk using AutoSeq1.wpAny_loadPart' hl
    refine wpAny_stack_any fun st => wpAny_pure ?_
    split
    · rename_i c _ _ _ _ _
      cases (c == Value.type "enumerate")
      · wp_walk using AutoSeq1.wpAny_loadPart' hl, wpAny_pyIter_tuple hL
        exact ⟨_, rfl, h⟩
      · wp_walk using AutoSeq1.wpAny_loadPart' hl, wpAny_pyIter_tuple hL
        exact ⟨_, rfl, h⟩
    · wp_walk using AutoSeq1.wpAny_loadPart' hl, wpAny_pyIter_tuple hL
      exact ⟨_, rfl, h⟩
theorem k7_call_enumerate_tuple {prog : Program} {w : World} {A : Around} {E : Value → Shared → Prop} {s : Shared} {l : Addr} {items : Array Value} {Q : Value → Shared → Prop} (hL : s.heap.IsTuple l items)
    (h : ∀ h', IsEnum h' (s.heap.objs.size + 1) s.heap.objs.size 0 .none → h'.IsTupleIter s.heap.objs.size l 0 → h'.objs.size = s.heap.objs.size + 2 →
      (∀ b o, s.heap.get? b = some o → h'.get? b = some o) → Q (.ref (s.heap.objs.size + 1)) { s with heap := h' }) :
    wpAny (model prog w) A (call (.type "enumerate") [.ref l]) Q E s := by
  obtain ⟨⟨c, dct, dt, sl⟩, hl, hc, n, hd⟩ := hL
  replace hc : c = .type "tuple" := hc
  replace hd : dt = .seq items n := hd
  subst hc hd
  refine callType_new F.called_enumerate (by decide) (F.typeCall_enumerate_1 _) (F.newCall_enumerate_1 _) (fun obj => F.args_object_init_2 obj _) F.entry_enumerate_new
    (k7_meets_enumerate_newT l items n dct sl) ⟨hl, ?_⟩
  have hz : (s.heap.push { cls := .type "tuple_iterator", data := .fields #[.ref l, .int 0 0] }).objs.size = s.heap.objs.size + 1 := Heap.size_push ..
  show _ ∧ _
  rw [hz]
  have he : IsEnum ((s.heap.push { cls := .type "tuple_iterator", data := .fields #[.ref l, .int 0 0] }).push
      { cls := .type "enumerate", data := .fields #[.none, .bool false, .ref s.heap.objs.size, rawInt 0, .none, .none] }) (s.heap.objs.size + 1) s.heap.objs.size 0 .none := by
    have := Heap.get?_push_size (s.heap.push { cls := .type "tuple_iterator", data := .fields #[.ref l, .int 0 0] })
      (o := { cls := .type "enumerate", data := .fields #[.none, .bool false, .ref s.heap.objs.size, rawInt 0, .none, .none] }) rfl
    rw [hz] at this; exact this
  refine ⟨⟨_, he, rfl⟩, h _ he ⟨_, Heap.get?_push_of_some _ (Heap.get?_push_size _ rfl), rfl, rfl⟩ (by rw [Heap.size_push, hz]) fun b o x => Heap.get?_push_of_some _ (Heap.get?_push_of_some _ x)⟩
end PySem
namespace K7E
open PySem PySem.Spec PyProof.Rows L2
/-- the tuple at a as it stands at each turn, each item in a new pair -/
def IteT (K : PySem.W.Frag) (a : Addr) : It :=
  ⟨fun i H => ∃ (xs : List V) (x : V), SqT K H a xs ∧ xs[i]? = some x, fun i H v H' => ∃ T x, v = .ref T ∧ H T = none ∧ H' = upd H T (.tup [.int (i : Nat), x]) ∧ ∀ xs, SqT K H a xs → xs[i]? = some x, fun i H => ∃ xs : List V, SqT K H a xs ∧ xs.length = i⟩
theorem tup_ne {h : Heap} {a it : Addr} {items : Array Value} {i : Nat} (p : h.IsTuple a items) (q : h.IsTupleIter it a i) : a ≠ it := by
  intro e
  subst e
  obtain ⟨o, ho, hc, _⟩ := p
  obtain ⟨o2, ho2, hc2, _⟩ := q
  rw [ho] at ho2
  cases ho2
  rw [hc] at hc2
  exact absurd (Value.type.inj hc2) (by decide)
theorem turn_enumT {P : Program} {w : World} {K : PySem.W.Frag} {elts : List Expr} {kk : Nat} {tpos : Pos} (a e it : Addr) :
    Turn P w K (.Tuple elts kk tpos) (IteT K a) [e, it] e (fun i h => (∃ old, IsEnum h e it ((i : Nat) : Int) old) ∧ h.IsTupleIter it a i ∧ e ≠ it) where
  mem := by simp
  obj := fun i h st b hb => by
    obtain ⟨⟨old, he⟩, ⟨o, ho, hc, hd⟩, _⟩ := st
    have e' : b = e ∨ b = it := by simpa using hb
    rcases e' with z | z
    · rw [z]; exact ⟨_, he, fun v q => nomatch q⟩
    · rw [z]; exact ⟨o, ho, fun v q => by rw [hd] at q; cases q⟩
  keep := fun i h h' st k => let ⟨⟨old, he⟩, hi, hne⟩ := st; ⟨⟨old, k e (by simp) _ he⟩, hi.at fun o q => k it (by simp) o q, hne⟩
  item := by
    intro X hP hw hK hc i pins s σ H E I hf st hg
    subst hP hw hK
    obtain ⟨⟨old, he⟩, hit, hne⟩ := st
    obtain ⟨xs, x, hq, hx⟩ := hg
    obtain ⟨its, rv, p, hz⟩ := I.tuple hq
    obtain ⟨u, hu, ru⟩ := rv.get hx
    have hel : e < s.heap.objs.size := Heap.lt_size he
    have hil : it < s.heap.objs.size := by obtain ⟨_, q, _⟩ := hit; exact Heap.lt_size q
    have hat : a ≠ it := tup_ne p hit
    have hae : e ≠ a := fun q => by
      subst q
      obtain ⟨o, ho, hc', _⟩ := p
      rw [show s.heap.get? e = _ from he] at ho
      cases ho
      exact absurd (Value.type.inj hc') (by decide)
    have hlt : i < its.toArray.size := by
      have := (List.getElem?_eq_some_iff.mp hu).1
      simpa using this
    refine wpAny_pyNext_enum_itemD (Draws.tuple (A := X.A.in1) (I.ok.hd hc) it a hat its.toArray) he ⟨hit, p⟩ hlt hne (by simp [hne, hae]) fun u' h' tk hP ho hit' hT hsz hk => ?_
    have eu : u' = u := by
      have h1 : its.toArray[i]? = some u := by simpa using hu
      exact Option.some.inj (hP.symm.trans h1)
    subst eu
    refine ⟨_, rfl, wpAny_letOwnedTupleGo_enum (s := { s with heap := h', toks := tk + 1 }) ho fun h'' he' sb => ?_⟩
    have hT2 : h''.get? s.heap.objs.size = some { cls := .type "tuple", data := .seq #[.int i tk, u'] } := (sb.2 _ (Nat.ne_of_gt hel)).trans hT
    have new : ObjOk X.prog X.w (upd H s.heap.objs.size (.tup [.int (i : Nat), x])) h'' s.heap.objs.size (.tup [.int (i : Nat), x]) :=
      ⟨by show 2 ≤ sizeLine; decide, [.int i tk, u'], .cons ⟨_, rfl⟩ (.cons ru .nil), ⟨_, hT2, rfl, _, rfl⟩⟩
    have I1 : Inv X pins σ (upd H s.heap.objs.size (.tup [.int (i : Nat), x])) { s with heap := h'', toks := tk + 1 } :=
      I.turnedNew (ch := [e, it]) (fun b ob hb q => (sb.2 b (fun z => hb (by simp [z]))).trans (hk b ob (fun z => hb (by simp [z])) (fun z => hb (by simp [z])) q)) hf (Nat.le_refl _) new
    refine ⟨.ref s.heap.objs.size, _, I1, rfl, ⟨_, x, rfl, I.hok.fresh (Nat.le_refl _), rfl, fun ys hy => by rw [I.tuple_inj hy hq]; exact hx⟩, ⟨⟨u', ?_⟩, hit'.1.at fun o q => (sb.2 it (Ne.symm hne)).trans q, hne⟩, fun b hb => ?_⟩
    · have e1 : ((i + 1 : Nat) : Int) = (i : Int) + 1 := by omega
      rw [e1]; exact he'
    · have hb' : b < s.heap.objs.size := by
        have e' : b = e ∨ b = it := by simpa using hb
        rcases e' with z | z
        · rw [z]; exact hel
        · rw [z]; exact hil
      rw [upd_ne (Nat.ne_of_lt hb')]
      exact (hf b hb).1
  done := by
    intro X hP hw hK hc i pins s σ H E I hf st hg
    subst hP hw hK
    obtain ⟨⟨old, he⟩, hit, hne⟩ := st
    obtain ⟨xs, hq, hx⟩ := hg
    obtain ⟨its, rv, p, hz⟩ := I.tuple hq
    obtain ⟨f0, f1, f2, f3, f4, f5⟩ := hf it (by simp)
    have hl := rv.length
    have hat : a ≠ it := tup_ne p hit
    have en : its.toArray.size = i := by simp; omega
    exact wpAny_pyNext_enum_endD (Draws.tuple (A := X.A.in1) (I.ok.hd hc) it a hat its.toArray) he ⟨by rw [en]; exact hit, p⟩ fun h' eb => ⟨rfl, I.turned (t' := s.toks) (fun b o hb q => eb b o hb q) f0 f1 f3 f4 f5⟩
  self := fun A i s Q E st h => let ⟨⟨_, he⟩, _⟩ := st; wpAny_pyIter_enum he h
def iEnumT (K : PySem.W.Frag) (ta : TA) : TI := fun σ H R => ta σ H fun vs H1 => ∃ a xs, vs = [.ref a] ∧ SqT K H1 a xs ∧ R (IteT K a) H1
theorem pi_enumT {X : Cx} {e : Expr} {ta : TA} {p pos tpos : Pos} {elts : List Expr} {kk : Nat} (hg : Gl X "enumerate") (hm : X.mg "enumerate" = none) (ha : PA X [e] ta) (hs : starEach [e] X.env = [(false, eval e X.env)] := by rfl) :
    PI X (.Tuple elts kk tpos) (.Call (.Name "enumerate" p) [e] [] pos) (iEnumT X.K ta) := by
  refine ⟨fun pins s σ H R I h => ?_⟩
  refine Call_ (ld_blt I hg hm boot_enumerate (PyProof.Rows.callWith_type1 (thn (ha.run pos pins s σ H _ I h) fun us s1 ⟨vs, H1, I1, r1, q1⟩ => ?_) hs rfl))
  obtain ⟨a, xs, ex, hq, q⟩ := q1
  subst ex
  cases r1 with
  | cons r rr =>
    cases rr
    cases r
    obtain ⟨its, rv, p', hz⟩ := I1.tuple hq
    refine k7_call_enumerate_tuple p' fun h' he hit hsz hk => wpAny_pyIter_enum he ?_
    have I2 : Inv X pins σ H1 { s1 with heap := h' } := I1.kept (t' := s1.toks) hk
    refine ⟨s1.heap.objs.size + 1, [s1.heap.objs.size + 1, s1.heap.objs.size], _, _, H1, rfl, I2, turn_enumT a (s1.heap.objs.size + 1) s1.heap.objs.size, ⟨⟨.none, he⟩, hit, Nat.succ_ne_self _⟩, fun b hb => ?_, q⟩
    have e' : b = s1.heap.objs.size + 1 ∨ b = s1.heap.objs.size := by simpa using hb
    have hle : s1.heap.objs.size ≤ b := by
      rcases e' with z | z
      · rw [z]; exact Nat.le_add_right _ _
      · rw [z]; exact Nat.le_refl _
    exact I1.fpOk hle (I1.hok.fresh hle)
theorem walk_enumT {K : PySem.W.Frag} {a : Addr} {xs : List V} : Walk (IteT K a) xs.length (fun H => SqT K H a xs) (YPair (fun i => some (.int (i : Nat))) (fun i => xs[i]?)) :=
  ⟨fun i H hi hq => ⟨xs, _, hq, List.getElem?_eq_getElem hi⟩, fun H hq => ⟨xs, hq, rfl⟩, fun i H v H' hi hq hy => by
    obtain ⟨T, x, rfl, nT, rfl, f⟩ := hy
    exact ⟨T, _, x, rfl, nT, rfl, rfl, f _ hq⟩⟩
end K7E
end
/-! ## E4 -/
section
namespace K7E
open PySem PySem.Spec PyProof.Rows L2 Builtin Builtin.ObjectAttr
theorem next_end {prog : Program} {w : World} {A : Around} {E : Value → Shared → Prop} {s : Shared} {it t : Addr} {i : Nat} {items : Array Value} {Q : Option Value → Shared → Prop} (hh : A.handled = none)
    (hit : s.heap.IsTupleIter it t i) (ht : s.heap.IsTuple t items) (hx : items[i]? = none)
    (hQ : ∀ h', Heap.ExtBut it s.heap h' → (∃ o, h'.get? it = some o) → Q none { s with heap := h' }) : wpAny (model prog w) A (pyNext (.ref it)) Q E s := by
  obtain ⟨o, ho, hc, hd⟩ := id hit
  obtain ⟨ol, hol, _, nl, hdl⟩ := ht
  unfold pyNext
  refine wpAny_bind (wpAny_attempt (wpAny_callSpecial?_slot (name := Str.ofString "__next__") hit.typeIs F.slot_tuple_iterator_next
    (wpAny_call_entry F.slot_tuple_iterator_next hit.typeIs F.entry_tuple_iterator_next ?_ (F.args_tuple_iterator_next_1 _))))
  show wpAny _ _ (field (.ref it) 0 >>= _) _ _ s
  refine wpAny_bind (wpAny_field ho hd (x := .ref t) rfl ?_)
  show wpAny _ _ (if (Value.ref t == Value.none) = true then _ else _) _ _ s
  rw [if_neg (show ¬ ((Value.ref t == Value.none) = true) from Bool.false_ne_true)]
  show wpAny _ _ (field (.ref it) 1 >>= _) _ _ s
  refine wpAny_bind (wpAny_field ho hd (x := .int i 0) rfl ?_)
  show wpAny _ _ (seqItems? (.ref t) >>= _) _ _ s
  refine wpAny_bind (wpAny_seqItems hol hdl ?_)
  simp only [Int.toNat_natCast, hx]
  refine wpAny_bind (wpAny_rule (wpAny_bind (wpAny_setField ho hd (by simp) ?_)))
  show wpAny _ _ (newExc (.type "StopIteration") [] >>= _) _ _ _
  refine wpAny_bind ?_
  simp only [newExc, newTuple]
  refine wpAny_bind (wpAny_newObj_type ?_ (by size_fits))
  refine wpAny_bind (m := firstArgMember _ _) (wpAny_of_eq (a := Value.none) (by first | rfl | (simp only [firstArgMember]; rfl)) ?_)
  refine wpAny_newObj_type ?_ (by size_fits)
  simp only [raiseNew]
  refine wpAny_bind (wpAny_handled ?_)
  first | rw [show A.in1.handled = none from hh] | rw [hh]
  refine wpAny_bind (wpAny_pure (wpAny_throw ?_))
  refine wpAny_bind (wpAny_isInstance (T := "StopIteration") (b := true) ⟨_, Heap.get?_push_size _ rfl, rfl⟩ isSubtype_stop ?_)
  exact wpAny_pure (hQ _ (((Heap.SameBut.update ..).extBut.push _).push _) ⟨_, Heap.get?_push_of_some _ (Heap.get?_push_of_some _ (Heap.get?_update_self _ ho (Obj.isFreed_of_fields (Obj.data_mapFields hd _))))⟩)

/-- at it an iterator over the tuple at t, the next place is i -/
def TupI (t it : Addr) (i : Nat) : HO := .ext fun h => h.IsTupleIter it t i
/-- .. of which nothing is known any more -/
def UsedI (it : Addr) : HO := .ext fun h => ∃ o, h.get? it = some o
section
variable {X : Cx} {pins : List (Addr × Obj)} {σ : L2.St} {H : Hp} {s : Shared} {t it q : Addr} {i : Nat}
theorem tupI_ok {P : Program} {w : World} {H : Hp} {h : Heap} (e : h.IsTupleIter it t i) : ObjOk P w H h it (TupI t it i) := ⟨e, let ⟨o, ho, _⟩ := e; ⟨o, ho⟩, fun h1 h2 q k => q.at k⟩
theorem usedI_ok {P : Program} {w : World} {H : Hp} {h : Heap} (e : ∃ o, h.get? it = some o) : ObjOk P w H h it (UsedI it) := ⟨e, e, fun h1 h2 ⟨o, q⟩ k => ⟨o, k _ q⟩⟩
theorem tupI_get (I : Inv X pins σ H s) (e : H it = some (TupI t it i)) : s.heap.IsTupleIter it t i := (I.hok it _ e).1
/-- iter(t), t a tuple -/
def rIterT (K : PySem.W.Frag) : List V → Hp → VK → Prop := fun xs H Q => ∃ (t : Addr) (zs : List V), xs = [.ref t] ∧ SqT K H t zs ∧ ∀ it, H it = none → Q (.ref it) (upd H it (TupI t it 0))
theorem call_iterT : CallR X (.builtin "iter") (rIterT X.K) := by
  intro pins s σ H xs us Q I r h
  obtain ⟨t, zs, rfl, hq, q⟩ := h
  obtain rfl := Vals.ref1 r
  obtain ⟨its, rv, pl, hz⟩ := I.tuple hq
  refine Calls.call_function_entry (by decide +kernel) (by decide +kernel) PySem.W.kdk_entry_iter (PySem.W.kdk_args_iter _) ?_
  unfold Builtin.«iter»
  refine wpAny_bind (m := someArgs "iter" 1 2 _) (wpAny_of_eq (a := [Value.ref t]) (by first | rfl | kernel_rfl!) ?_)
  show wpAny _ _ (pyIter (.ref t) >>= _) _ _ _
  refine wpAny_bind (wpAny_pyIter_tuple pl ?_)
  refine wpAny_pure ⟨_, rfl, ?_⟩
  exact ⟨.ref s.heap.objs.size, _, I.laid (t' := s.toks) (fun b u e => Heap.get?_push_of_some _ e) (Nat.le_refl _) (tupI_ok ⟨_, Heap.get?_push_size _ rfl, rfl, rfl⟩), rfl, q _ (I.hok.fresh (Nat.le_refl _))⟩

/-- an own class whose __iter__ gives an iterator, without __len__ and __length_hint__ -/
structure ItC2 (K : PySem.W.Frag) (C fi : Addr) : Prop where
  it : PySem.W.findIn K (.ref C) "__iter__" = some (some (.ref fi))
  itF : PySem.W.isFn K (.ref fi) = true
  nolen : PySem.W.findIn K (.ref C) "__len__" = some none
  nohint : PySem.W.findIn K (.ref C) "__length_hint__" = some none
variable {CI : CXT} {C fi a : Addr} {fdI : FuncData} {psI : List Str} {spI : Sp} {EI : XK} {n kI : Nat} {A1 : Around}
theorem own_hint2 {M : Model} {A : Around} {E : Value → Shared → Prop} {Q : Bool → Shared → Prop} {K : PySem.W.Frag} {ox : Obj} {od : Option Obj} (hc : ItC2 K C fi) (hK : K.In s.heap) (J : PySem.W.InstAt s.heap a ox C od) (h : Q true s) :
    wpAny M A (Builtin.List.listLengthHint (.ref a)) Q E s := by
  unfold Builtin.List.listLengthHint
  refine wpAny_bind (wpAny_bind (J.type.here ((PySem.W.looks_findIn hK hc.nolen).here ?_)))
  refine PySem.W.KFB.if_not rfl ?_
  refine PySem.W.KFB.if_not rfl ?_
  refine wpAny_bind (wpAny_bind (J.type.here ((PySem.W.looks_findIn hK hc.nohint).here ?_)))
  exact wpAny_pure h

/-- the walk over the tuple iterator at it that fills the list at q -/
theorem tup_loop {Rs : Result → Shared → Prop} {zs : List V} {H1 : Hp} (hh : A1.in1.handled = none) (hzl : zs.length < sizeLine)
    (hdone : ∀ H s, Inv X pins σ H s → H q = some (.lst zs) → (∀ b, b ≠ q → b ≠ it → H b = H1 b) → Rs (.ok (.ret .none)) s) :
    ∀ (m i : Nat) (H : Hp) (s : Shared), i + m = zs.length → Inv X pins σ H s → H q = some (.lst (zs.take i)) → H it = some (TupI t it i) → H t = some (.tup zs) → (∀ b, b ≠ q → b ≠ it → H b = H1 b) →
      codeAny (model X.prog X.w) A1 (.builtin "list.extend.loop" ⟨[.ref q, .ref it, .none], []⟩) Rs s := by
  intro m
  induction m with
  | zero =>
    intro i H s hi I hq hit ht hb
    refine codeAny_builtin PySem.F.entry_extend_loop ?_
    rw [Around.under_plainId PySem.F.plain_extend_loop _]
    show wpAny _ A1.in1 (pyNext (.ref it) >>= _) _ _ s
    obtain ⟨its, rv, pl, hz⟩ := I.tuple (.inl (.inl ht))
    have hl := rv.length
    have mu : Mut (H it) := by rw [hit]; exact True.intro
    refine wpAny_bind (next_end hh (tupI_get I hit) pl (by simp; omega) fun h' eb ho => ?_)
    refine wpAny_pure ?_
    have I2 : Inv X pins σ (upd H it (UsedI it)) { s with heap := h' } := I.write (x := it) (e := it) (t' := s.toks) mu (.inl rfl) (fun b o nb z => eb b o nb z) ho (usedI_ok ho)
    have hne : q ≠ it := ne_of hq hit (fun z => nomatch z)
    refine hdone _ _ I2 ?_ fun b h1 h2 => by rw [upd_ne h2]; exact hb b h1 h2
    rw [upd_ne hne, hq, List.take_of_length_le (by omega)]
  | succ m ih =>
    intro i H s hi I hq hit ht hb
    refine codeAny_builtin PySem.F.entry_extend_loop ?_
    rw [Around.under_plainId PySem.F.plain_extend_loop _]
    show wpAny _ A1.in1 (pyNext (.ref it) >>= _) _ _ s
    obtain ⟨its, rv, pl, hz⟩ := I.tuple (.inl (.inl ht))
    have hl := rv.length
    have mu : Mut (H it) := by rw [hit]; exact True.intro
    have hne : q ≠ it := ne_of hq hit (fun z => nomatch z)
    have hnt : t ≠ it := ne_of ht hit (fun z => nomatch z)
    have hnq : t ≠ q := ne_of ht hq (fun z => nomatch z)
    obtain ⟨x, hx⟩ : ∃ x, zs[i]? = some x := ⟨_, List.getElem?_eq_getElem (by omega)⟩
    obtain ⟨u, hu, ru⟩ := rv.get hx
    refine wpAny_bind (wpAny_pyNext_tuple_item (tupI_get I hit) pl (by rw [List.getElem?_toArray]; exact hu) fun h' e' sb => ?_)
    have I2 : Inv X pins σ (upd H it (TupI t it (i + 1))) { s with heap := h' } := I.write (x := it) (e := it) (t' := s.toks) mu (.inl rfl) (fun b o nb z => (sb.2 b nb).trans z) (let ⟨o, ho, _⟩ := e'; ⟨o, ho⟩) (tupI_ok e')
    have hq2 : upd H it (TupI t it (i + 1)) q = some (.lst (zs.take i)) := by rw [upd_ne hne]; exact hq
    show wpAny _ A1.in1 (updateSeq q (·.push u) >>= _) _ _ _
    obtain ⟨z, its', k, r2, hl2, e⟩ := I2.lstM hq2
    have htl : (zs.take i).length = i := by rw [List.length_take]; omega
    refine wpAny_bind (wpAny_updateSeq e rfl (wpAny_pure ⟨plainId_quiet PySem.F.plain_extend_loop _, ?_⟩) (by rw [List.size_toArray]; omega) (by show (its'.toArray.push u).size ≤ sizeLine + 1; rw [Array.size_push, List.size_toArray]; omega))
    have I3 := I2.lset (f := (·.push u)) (its' := its' ++ [u]) (t' := s.toks) hq2 e (by simp) (r2.append (.cons ru .nil)) (by rw [List.length_append, List.length_singleton]; omega)
    refine ih (i + 1) _ _ (by omega) I3 ?_ ?_ ?_ ?_
    · rw [upd_same, List.take_add_one, hx]; rfl
    · rw [upd_ne (Ne.symm hne), upd_same]
    · rw [upd_ne hnq, upd_ne hnt]; exact ht
    · intro b h1 h2
      rw [upd_ne h1, upd_ne h2]; exact hb b h1 h2

/-- what __iter__ must do, q the list that is filled -/
def IterDue (C a q : Addr) (R : Hp → Prop) : VK := fun v H1 => (∃ dx fs, H1 a = some (.ins C dx fs)) ∧ ∃ it t zs, v = .ref it ∧ H1 it = some (TupI t it 0) ∧ H1 t = some (.tup zs) ∧ H1 q = some (.lst []) ∧ zs.length < sizeLine ∧
    ∀ H', H' q = some (.lst zs) → (∀ b, b ≠ q → b ≠ it → H' b = H1 b) → R H'
theorem own_extendT {R : Hp → Prop} {Rs : Result → Shared → Prop} {dx : Addr} {fs : List (Str × V)} (hh : A1.in1.handled = none) (sb : Sub X n A1.in1) (hc : ItC2 X.K C fi)
    (FI : FnOk X.prog X.w X.K X.mg X.base CI n fi fdI psI spI) (bI : Binds X.K fdI psI []) (xI : Passes CI X EI)
    (hdone : ∀ H s, Inv X pins σ H s → R H → Rs (.ok (.ret .none)) s) (herr : ∀ e s, X.xe e s → Rs (.error e) s)
    (I : Inv X pins σ H s) (ha : H a = some (.ins C dx fs)) (hq : H q = some (.lst [])) (hsp : spI [.ref a] H (IterDue C a q R) EI) :
    wpAny (model X.prog X.w) A1.in1 (Builtin.List.listExtendWith (.ref q) (.ref a) .none)
      (fun fin s' => match fin with | .done f => Rs (.ok f) s' | .again c' => c'.quiet = true ∧ codeAny (model X.prog X.w) A1 c' Rs s') (fun e s' => Rs (.error e) s') s := by
  have hne : q ≠ a := ne_of hq ha (fun z => nomatch z)
  obtain ⟨mA, J, _⟩ := ins_get I.hok ha
  obtain ⟨od, J, _⟩ := J.look
  obtain ⟨m0, hF⟩ := I.fr
  unfold Builtin.List.listExtendWith
  refine wpAny_bind (J.type.here ?_)
  have h1 : Builtin.List.listSameRef (.ref q) (.ref a) = false := by simp [Builtin.List.listSameRef, hne]
  have h2 : (Value.ref C == Value.type "list") = false := rfl
  have h3 : (Value.ref C == Value.type "tuple") = false := rfl
  simp only [h1, h2, h3, Bool.or_false, Bool.false_eq_true, if_false]
  refine wpAny_bind (PySem.W.owit_iter hF I.ok.mod.kin J hc.it hc.itF ?_)
  have e0 : Env0 X.prog X.w X.K X.mg X.base A1.in1 X.stack s H := by
    have e := I.env0
    exact ⟨by rw [sb.fr]; exact e.frames, e.mod, e.bs, e.bsz, e.funs, e.frf, e.hok, e.bare⟩
  have hl := FI.len _ _ _ _ hsp
  have r2 : Vals [V.ref a] [Value.ref a] := .cons rfl .nil
  refine wpAny_call (codeAny_mono (FI.run A1.in1 X.stack s H ⟨[.ref a], []⟩ [.ref a] [.ref a] _ EI sb.room e0 (by
    have := bI s [.ref a] I.kIn (by simpa using hl)
    simpa using this) r2 hsp) fun r s' hq' => ?_)
  cases r with
  | error e => exact herr e s' (xI pins σ H s e s' I hq')
  | ok fl =>
    cases fl with
    | next => exact False.elim hq'
    | brk => exact False.elim hq'
    | cont => exact False.elim hq'
    | ret u =>
      obtain ⟨v, H1, I', rv', ⟨dx', fs', ha'⟩, it, t, zs, ev, hit, ht, hq1, hzl, hend⟩ := I.after hq'
      subst ev
      cases rv'
      have hT := (tupI_get I' hit).typeIs
      unfold PySem.W.OwitIt
      refine wpAny_specialOf hT F.slot_tuple_iterator_next.lookup ?_
      obtain ⟨mA', J', _⟩ := ins_get I'.hok ha'
      obtain ⟨od', J', _⟩ := J'.look
      refine wpAny_bind (wpAny_holding (own_hint2 hc I'.kIn J' ?_))
      obtain ⟨z, its, k, r3, hl3, e3⟩ := I'.lstM hq1
      cases r3
      have loop := fun (H2 : Hp) (s2 : Shared) (I2 : Inv X pins σ H2 s2) (g1 : H2 q = some (.lst [])) (g2 : H2 it = some (TupI t it 0)) (g3 : H2 t = some (.tup zs)) (g4 : ∀ b, b ≠ q → b ≠ it → H2 b = H1 b) =>
        tup_loop (A1 := A1) (Rs := Rs) (zs := zs) (H1 := H1) (q := q) (it := it) (t := t) hh hzl (fun H3 s3 I3 e1 e2 => hdone H3 s3 I3 (hend H3 e1 e2)) zs.length 0 H2 s2 (by omega) I2 (by rw [g1]; rfl) g2 g3 g4
      refine wpAny_ite_split (fun _ => ?_) (fun _ => wpAny_pure ⟨plainId_quiet PySem.F.plain_extend_loop _, loop H1 s' I' hq1 hit ht fun _ _ _ => rfl⟩)
      refine wpAny_bind (wpAny_rule ?_)
      refine wpAny_bind ?_
      show wpAny _ _ (updateSeq q (·.push .none) >>= fun _ => updateSeq q (·.pop)) _ _ _
      refine wpAny_bind (wpAny_updateSeq e3 rfl ?_)
      have I2 := I'.lset (f := (·.push Value.none)) (its' := [Value.none]) (ys := [.non]) (t' := s'.toks) hq1 e3 (by simp) (.cons rfl .nil) (by rw [List.length_singleton, sizeLine_eq]; decide)
      obtain ⟨z4, its4, k4, r4, hl4, e4⟩ := I2.lstM upd_same
      obtain ⟨u4, rfl, ru4⟩ := r4.one
      refine wpAny_updateSeq e4 rfl ?_ (by show 1 ≤ sizeLine; rw [sizeLine_eq]; decide) (by show 0 ≤ sizeLine + 1; exact Nat.zero_le _)
      have I3 := I2.lset (f := (·.pop)) (its := [u4]) (its' := []) (ys := []) (t' := s'.toks) upd_same e4 (by rfl) .nil (Nat.zero_le _)
      rw [upd_upd] at I3
      have hH : upd H1 q (.lst []) = H1 := by
        funext b
        by_cases hb : b = q
        · rw [hb, upd_same, hq1]
        · rw [upd_ne hb]
      rw [hH] at I3
      exact wpAny_pure ⟨plainId_quiet PySem.F.plain_extend_loop _, loop H1 _ I3 hq1 hit ht fun _ _ _ => rfl⟩

/-- list(o), o's own __iter__ gives an iterator over a tuple -/
def rOwnT (C : Addr) (spI : Sp) : List V → Hp → VK → Prop := fun xs H Q => ∃ p dx fs, xs = [.ref p] ∧ H p = some (.ins C dx fs) ∧
  ∀ q, H q = none → spI [.ref p] (upd H q (.lst [])) (IterDue C p q fun H' => Q (.ref q) H') (fun _ _ _ => False)
theorem call_listOwnT (hcalm : X.calm = true) (hc : ItC2 X.K C fi) (FI : FnOk X.prog X.w X.K X.mg X.base CI n fi fdI psI spI) (bI : Binds X.K fdI psI []) (xI : Passes CI X (fun _ _ _ => False)) (hr : Room (n + 2) X.A) : CallR X (.type "list") (rOwnT C spI) := by
  intro pins s σ H xs us Q I rv h
  obtain ⟨a, dx, fs, rfl, ha, hq⟩ := h
  obtain ⟨u, rfl, ru⟩ := rv.one
  cases ru
  have sb : Sub X n X.A.in1.in1 := (Sub.in1 (Sub.in1 (⟨hr, rfl⟩ : Sub X (n + 2) X.A)))
  refine callType_codes (Q₁ := fun obj s₁ => obj = .ref s.heap.objs.size ∧ s₁ = { s with heap := s.heap.push { cls := .type "list", data := .seq #[] } }) PySem.F.called_list (PySem.F.typeCall_list_1 _) PySem.F.entry_list_init
    (code_list_new _ ⟨rfl, rfl⟩) fun obj s₁ h₁ => ?_
  obtain ⟨rfl, rfl⟩ := h₁
  have hS : (s.heap.push { cls := .type "list", data := .seq #[] }).get? s.heap.objs.size = some { cls := .type "list", data := .seq #[] } := Heap.get?_push_size _ rfl
  refine ⟨⟨_, hS, rfl⟩, PySem.F.args_list_init_2 _ _, ?_⟩
  have fr : H s.heap.objs.size = none := I.hok.fresh (Nat.le_refl _)
  have I1 : Inv X pins σ (upd H s.heap.objs.size (.lst [])) { s with heap := s.heap.push { cls := .type "list", data := .seq #[] } } := I.lnew (its := []) (t' := s.toks) .nil (Nat.zero_le _)
  show wpAny _ _ (do let old ← Builtin.List.listItems (.ref s.heap.objs.size); Builtin.List.listUpdate (.ref s.heap.objs.size) (fun _ => #[]); letGo old.toList.reverse; Builtin.List.listExtendWith (.ref s.heap.objs.size) (.ref a) .none) _ _ _
  refine wpAny_bind ?_
  unfold Builtin.List.listItems
  refine wpAny_bind (wpAny_seqItems hS rfl (wpAny_pure ?_))
  show wpAny _ _ (updateSeq s.heap.objs.size (fun _ => #[]) >>= fun _ => letGo (#[] : Array Value).toList.reverse >>= fun _ => Builtin.List.listExtendWith (.ref s.heap.objs.size) (.ref a) .none) _ _ _
  refine wpAny_bind (wpAny_updateSeq hS rfl ?_)
  have I2 := I1.lset (f := fun _ => #[]) (its := []) (its' := []) (ys := []) (t' := s.toks) upd_same hS rfl .nil (Nat.zero_le _)
  rw [upd_upd] at I2
  refine wpAny_bind (wpAny_letGo ?_)
  have ha2 : upd H s.heap.objs.size (.lst []) a = some (.ins C dx fs) := by rw [upd_ne (ne_of_none ha fr)]; exact ha
  exact own_extendT (A1 := X.A.in1) (R := fun H' => Q (.ref s.heap.objs.size) H') (Rs := wants (fun r s₂ => r = .none ∧ EP X pins σ Q (.ref s.heap.objs.size) s₂) X.xe) (I.ok.hd hcalm) sb hc FI bI xI
    (fun H' s' I' hR => ⟨rfl, .ref s.heap.objs.size, H', I', rfl, hR⟩) (fun e s' he => he) I2 ha2 upd_same (hq _ fr)
end
end K7E
end
/-! ## E1 -/
section
namespace K7E
open PySem PySem.SeqAt PySem.MeetsSeq PySem.AutoSeq1
theorem dict_eq_declines_str (l : Addr) (es : Array DictEntry) (n : Nat) (dd : Option Addr) (sl : Array (Option Value)) (b : Str) (u : Tok) :
    Meets (Builtin.«dict.__eq__» ⟨[.ref l, .str b u], []⟩) (fun _ R s => s.heap.get? l = some { cls := .type "dict", dict := dd, data := .dict es n, slots := sl } ∧ R (.ok (.ret .notImplemented)) s) :=
  .of_wp fun prog w A R s h => by obtain ⟨hp, g, d, tk, os⟩ := s; obtain ⟨hl, h⟩ := h; have f1 := F.sub_str_dict; wp_walk using wpAny_loadPart' hl; exact ⟨_, rfl, h⟩
theorem str_eq_declines_dict (b : Str) (u : Tok) (l : Addr) (c : Value) (es : Array DictEntry) (n : Nat) (dd : Option Addr) (sl : Array (Option Value)) :
    Meets (Builtin.«str.__eq__» ⟨[.str b u, .ref l], []⟩) (fun _ R s => s.heap.get? l = some { cls := c, dict := dd, data := .dict es n, slots := sl } ∧ R (.ok (.ret .notImplemented)) s) :=
  .of_wp fun prog w A R s h => by obtain ⟨hp, g, d, tk, os⟩ := s; obtain ⟨hl, h⟩ := h; wp_walk using wpAny_loadPart' hl, wpAny_load hl; exact ⟨_, rfl, h⟩
theorem RcAt.str_dict {A : Around} {s : Shared} {l : Addr} {es : Array DictEntry} {n : Nat} {dd : Option Addr} {sl : Array (Option Value)} (b : Str) (u : Tok) (ho : s.heap.get? l = some { cls := .type "dict", dict := dd, data := .dict es n, slots := sl }) (hu : A.units < cLine) : RcAt A s (.str b u) (.ref l) false := fun prog w E Q h => by
  exact rc_eq_decline_or (k := false) (typeIs_str s b u) ⟨_, ho, rfl⟩ (by decide) F.sub_dict_str F.slot_str_eq F.slot_dict_eq_refl
    (fun _ hq => call_meets F.slot_str_eq (typeIs_str s b u) F.entry_str_eq (F.args_str_eq_2 _ _) (str_eq_declines_dict b u l (.type "dict") es n dd sl) ⟨ho, hq⟩)
    (fun _ hq => call_meets F.slot_dict_eq_refl ⟨_, ho, rfl⟩ F.entry_dict_eq (F.args_dict_eq_2 _ _) (dict_eq_declines_str l es n dd sl b u) ⟨ho, hq⟩)
    (fun _ hq => wpAny_of_eq (rfl : isSame (.str b u) (.ref l) = pure false) hq) (.inr hu) h
theorem EqAt.str_dict {A : Around} {s : Shared} {l : Addr} {es : Array DictEntry} {n : Nat} {dd : Option Addr} {sl : Array (Option Value)} (b : Str) (u : Tok) (ho : s.heap.get? l = some { cls := .type "dict", dict := dd, data := .dict es n, slots := sl }) (hu : A.units < cLine) : EqAt A s (.str b u) (.ref l) false := fun prog w E Q h => by
  unfold eqBool
  refine wpAny_holding ?_
  refine wpAny_ite_split (fun hab => absurd (eq_of_beq hab) nofun) (fun _ => ?_)
  exact wpAny_bind (RcAt.str_dict b u ho hu prog w E _ (wpAny_truthy_bool h))
end K7E
end
/-! ## P2 -/
section
open PySem PySem.Spec PyProof.Rows L2
namespace K7
abbrev N_is_whole : List Str := ["thing", "low", "high"]
abbrev s_is_whole : Stmt := topS 6
theorem sc_is_whole : FnScope ["thing", "low", "high"] ["thing", "low", "high"] (defScope s_is_whole) := ⟨rfl, rfl, rfl, by decide +kernel, rfl, by decide +kernel, by decide +kernel⟩

abbrev N__check_clause : List Str := ["clause"]
abbrev s__check_clause : Stmt := topS 11
theorem sc__check_clause : FnScope ["clause"] ["clause"] (defScope s__check_clause) := ⟨rfl, rfl, rfl, by decide +kernel, rfl, by decide +kernel, by decide +kernel⟩

abbrev N_words : List Str := ["clause"]
abbrev s_words : Stmt := topS 12
theorem sc_words : FnScope ["clause"] ["clause"] (defScope s_words) := ⟨rfl, rfl, rfl, by decide +kernel, rfl, by decide +kernel, by decide +kernel⟩

abbrev N_BadClause___init__ : List Str := ["self", "what"]
abbrev s_BadClause___init__ : Stmt := inClass (topS 3) 0
theorem sc_BadClause___init__ : FnScope ["self", "what"] ["self", "what"] (defScope s_BadClause___init__) := ⟨rfl, rfl, rfl, by decide +kernel, rfl, by decide +kernel, by decide +kernel⟩

abbrev N_BadCustom___init__ : List Str := ["self", "what"]
abbrev s_BadCustom___init__ : Stmt := inClass (topS 2) 0
theorem sc_BadCustom___init__ : FnScope ["self", "what"] ["self", "what"] (defScope s_BadCustom___init__) := ⟨rfl, rfl, rfl, by decide +kernel, rfl, by decide +kernel, by decide +kernel⟩

abbrev N_BadNumber___init__ : List Str := ["self", "number"]
abbrev s_BadNumber___init__ : Stmt := inClass (topS 4) 0
theorem sc_BadNumber___init__ : FnScope ["self", "number"] ["self", "number"] (defScope s_BadNumber___init__) := ⟨rfl, rfl, rfl, by decide +kernel, rfl, by decide +kernel, by decide +kernel⟩

/-! ### the words -/
def clauses : List Str := ["untold", "joined", "sold", "kept", "ends"]
def menus : List (List Str) := [["stay", "die", "needed stay"], ["die", "sleep"], ["none", "all", "beside", "need"], ["none", "all", "beside", "need"], ["never", "free"]]
def menuAt (i : Nat) : List Str := menus.getD i []
def clauseAt (i : Nat) : Str := clauses.getD i ""
theorem clause_get {i : Nat} (h : i < 5) : clauses[i]? = some (clauseAt i) := by
  match i, h with
  | 0, _ => rfl
  | 1, _ => rfl
  | 2, _ => rfl
  | 3, _ => rfl
  | 4, _ => rfl
/-- a tuple of the written part -/
def KTup (K : PySem.W.Frag) (a : Addr) (xs : List V) : Prop := ∃ (o : Obj) (its : Array Value) (n : Nat), K.lookup a = some o ∧ o.cls = .type "tuple" ∧ o.data = .seq its n ∧ its.size ≤ sizeLine ∧ Vals xs its.toList ∧ o.dict = none
theorem KTup.t {K : PySem.W.Frag} {a : Addr} {xs : List V} (h : KTup K a xs) (H : Hp) : SqT K H a xs := by
  obtain ⟨o, its, n, h1, h2, h3, h4, h5, _⟩ := h
  exact .inr ⟨o, its, n, h1, h2, h3, h4, h5⟩
theorem KTup.ty {K : PySem.W.Frag} {a : Addr} {xs : List V} (h : KTup K a xs) (H : Hp) : tyV K "tuple" (.ref a) H := by
  obtain ⟨o, its, n, h1, h2, h3, h4, h5, h6⟩ := h
  exact .inr (.inl ⟨rfl, o, h1, h2, h6⟩)
/-! ### x in a tuple of texts, x any thing -/
/-- a thing that is no text -/
inductive Odd (K : PySem.W.Frag) (H : Hp) : V → Prop where
  | non : Odd K H .non
  | bl (b : Bool) : Odd K H (.bl b)
  | int (i : Int) : Odd K H (.int i)
  | lst {a : Addr} {xs : List V} (h : H a = some (.lst xs)) : Odd K H (.ref a)
  | tup {a : Addr} {xs : List V} (h : H a = some (.tup xs)) : Odd K H (.ref a)
  | dct {a : Addr} {kvs : List (Key × V)} (h : H a = some (.dK kvs)) : Odd K H (.ref a)
theorem Odd.same {K : PySem.W.Frag} {H H' : Hp} {x : V} (o : Odd K H x) (e : Same H H') : Odd K H' x := by
  cases o with
  | non => exact .non
  | bl b => exact .bl b
  | int i => exact .int i
  | lst h => exact .lst (e _ _ h)
  | tup h => exact .tup (e _ _ h)
  | dct h => exact .dct (e _ _ h)
/-- whether x is one of the texts -/
inductive InW (K : PySem.W.Frag) (H : Hp) (ss : List Str) : V → Bool → Prop where
  | str (z : Str) : InW K H ss (.str z) (decide (z ∈ ss))
  | odd {x : V} (o : Odd K H x) : InW K H ss x false
def rInW (K : PySem.W.Frag) (neg : Bool) : R2 := fun x y H Q => ∃ p ss b, y = .ref p ∧ SqT K H p (ss.map V.str) ∧ InW K H ss x b ∧ Q (.bl (if neg then !b else b)) H
section
variable {X : Cx}
theorem vals_strs : ∀ {ss : List Str} {us : List Value}, Vals (ss.map V.str) us → ∀ u ∈ us, ∃ z t, u = .str z t ∧ z ∈ ss
  | [], _, r => fun u hu => by cases r; cases hu
  | z :: ss, _, r => fun u hu => by
    rw [List.map_cons] at r
    cases r with
    | cons h r =>
      obtain ⟨t, rfl⟩ := h
      rcases List.mem_cons.mp hu with rfl | hu
      · exact ⟨z, t, rfl, List.mem_cons_self⟩
      · obtain ⟨z', t', e, m⟩ := vals_strs r u hu
        exact ⟨z', t', e, List.mem_cons_of_mem _ m⟩
theorem any_strs (z : Str) : ∀ {ss : List Str} {us : List Value}, Vals (ss.map V.str) us → us.any (fun u => match u with | .str y _ => y == z | _ => false) = decide (z ∈ ss)
  | [], _, r => by cases r; rfl
  | y :: ss, _, r => by
    rw [List.map_cons] at r
    cases r with
    | cons h r =>
      obtain ⟨t, rfl⟩ := h
      rw [List.any_cons, any_strs z r]
      by_cases e : y = z
      · subst e
        simp
      · have e' : (y == z) = false := beq_eq_false_iff_ne.mpr e
        have e2 : ¬ z = y := fun q => e q.symm
        simp only [e', Bool.false_or, List.mem_cons, e2, false_or]
theorem odd_eq {A : Around} {pins : List (Addr × Obj)} {s : Shared} {σ : L2.St} {H : Hp} {x : V} {v : Value} (I : Inv X pins σ H s) (hu : A.units < cLine) (o : Odd X.K H x) (rx : RelV x v) (z : Str) (t : Tok) : SeqAt.EqAt A s (.str z t) v false := by
  cases o with
  | non => cases rx; exact SeqAt.EqAt.str_none z t
  | bl b => cases rx; exact SeqAt.EqAt.str_bool z t b
  | int i => obtain ⟨t', rfl⟩ := rx; exact SeqAt.EqAt.str_int z t i t'
  | @lst a xs h =>
    cases (show v = Value.ref a from rx)
    obtain ⟨_, its, n, _, h1⟩ := (show ObjOk X.prog X.w H s.heap a (.lst xs) from I.hok a _ h)
    exact SeqAt.EqAt.str_list z t ⟨_, h1, rfl, _, rfl⟩ hu
  | @tup a xs h =>
    cases (show v = Value.ref a from rx)
    obtain ⟨_, its, _, pl⟩ := (show ObjOk X.prog X.w H s.heap a (.tup xs) from I.hok a _ h)
    exact SeqAt.EqAt.str_tuple z t pl hu
  | @dct a kvs h =>
    cases (show v = Value.ref a from rx)
    obtain ⟨_, _, vs, _, o, es, ep, h1, h2, h3⟩ := (show ObjOk X.prog X.w H s.heap a (.dK kvs) from I.hok a _ h)
    obtain ⟨oc, od, oda, osl⟩ := o
    have e1 := h2.1
    simp only at e1 h3
    subst e1
    obtain ⟨h3, _⟩ := h3
    subst h3
    exact K7E.EqAt.str_dict z t h1 hu
theorem inW_core {A : Around} {pins : List (Addr × Obj)} {s : Shared} {σ : L2.St} {H : Hp} {x : V} {v : Value} {ss : List Str} {b : Bool} {its : List Value} (I : Inv X pins σ H s) (hu : A.units < cLine) (r : Vals (ss.map V.str) its) (rx : RelV x v) (h : InW X.K H ss x b) :
    ∃ f : Value → Bool, (∀ w ∈ its, SeqAt.EqAt A s w v (f w)) ∧ its.any f = b := by
  cases h with
  | str z =>
    obtain ⟨t', rfl⟩ := rx
    refine ⟨fun u => match u with | .str y _ => y == z | _ => false, fun w hw => ?_, any_strs z r⟩
    obtain ⟨y, t, rfl, _⟩ := vals_strs r w hw
    exact SeqAt.EqAt.str_str y t z t'
  | odd o =>
    refine ⟨fun _ => false, fun w hw => ?_, by simp⟩
    obtain ⟨y, t, rfl, _⟩ := vals_strs r w hw
    exact odd_eq I hu o rx y t
theorem op_inW (hu : X.A.units + 1 < cLine) : OpR X (compareOp .In) (rInW X.K false) := by
  intro pins s σ H x y v u Q I rx ry h
  obtain ⟨p, ss, b, rfl, hq, hi, q⟩ := h
  cases ry
  obtain ⟨its, r, pl, hz⟩ := I.tuple hq
  obtain ⟨f, hf, e⟩ := inW_core (A := X.A.in1) I hu r rx hi
  refine SeqAt.in_tupleAt f pl (fun w hw => hf w (by simpa using hw)) ⟨.bl _, H, I, rfl, ?_⟩
  rw [show its.toArray.any f = its.any f by simp, e]
  exact q
theorem op_notInW (hu : X.A.units + 1 < cLine) : OpR X (compareOp .NotIn) (rInW X.K true) := by
  intro pins s σ H x y v u Q I rx ry h
  obtain ⟨p, ss, b, rfl, hq, hi, q⟩ := h
  cases ry
  obtain ⟨its, r, pl, hz⟩ := I.tuple hq
  obtain ⟨f, hf, e⟩ := inW_core (A := X.A.in1) I hu r rx hi
  refine SeqAt.notIn_tupleAt f pl (fun w hw => hf w (by simpa using hw)) ⟨.bl _, H, I, rfl, ?_⟩
  rw [show its.toArray.any f = its.any f by simp, e]
  exact q
end
/-! ### what the top says -/
def fields : List Str := ["untold", "joined", "sold", "kept", "ends", "row", "number"]
structure Ad where
  (cl wd m0 m1 m2 m3 m4 C L U B N iU iB iN : Addr)
def Ad.menu (a : Ad) (i : Nat) : Addr := [a.m0, a.m1, a.m2, a.m3, a.m4].getD i a.m0
structure Tx (K : PySem.W.Frag) (w : World) (mg : Str → Option Value) (a : Ad) : Prop where
  gCl : mg "CLAUSES" = some (.ref a.cl)
  tCl : KTup K a.cl (clauses.map V.str)
  gWd : mg "_WORDS" = some (.ref a.wd)
  kWd : ∀ i < 5, KDct K w a.wd (clauseAt i) (.ref (a.menu i))
  tMn : ∀ i < 5, KTup K (a.menu i) ((menuAt i).map V.str)
  gU : mg "BadCustom" = some (.ref a.U)
  gB : mg "BadClause" = some (.ref a.B)
  gN : mg "BadNumber" = some (.ref a.N)
  oxU : OexC K a.U
  oxB : OexC K a.B
  oxN : OexC K a.N
  iCU : PySem.W.findIn K (.ref a.U) "__init__" = some (some (.ref a.iU))
  iCB : PySem.W.findIn K (.ref a.B) "__init__" = some (some (.ref a.iB))
  iCN : PySem.W.findIn K (.ref a.N) "__init__" = some (some (.ref a.iN))
  tIU : PySem.W.typeIn K (.ref a.iU) = some (.type "function")
  tIB : PySem.W.typeIn K (.ref a.iB) = some (.type "function")
  tIN : PySem.W.typeIn K (.ref a.iN) = some (.type "function")
  nU : PySem.W.findIn K (.ref a.U) "what" = some none
  nB : PySem.W.findIn K (.ref a.B) "what" = some none
  nN : PySem.W.findIn K (.ref a.N) "number" = some none
  gC : mg "Custom" = some (.ref a.C)
  cl : Cls K a.C
  nA : ∀ f ∈ fields, NoAttr K a.C f
/-- an error of the class C with one field is raised -/
def Flies (H : Hp) (C : Addr) (f : Str) (v : V) (E : XK) : Prop := ∀ H' d, Same H H' → H d = none → H' d = some (.xd [(f, v)]) → E (.ref C) (some d) H'
theorem Flies.later {H H1 : Hp} {C : Addr} {f : Str} {v : V} {E : XK} (h : Flies H C f v E) (e : Same H H1) : Flies H1 C f v E := fun H' d e' n q => h H' d (e.trans e') (e.free n) q
section
variable {P : Program} {w : World} {K : PySem.W.Frag} {mg : Str → Option Value} {base : Heap} {a : Ad}
/-! errors are made -/
def spX (C : Addr) (f : Str) : Sp := fun vs H Q _ => ∃ (e : Addr) (y : V), vs = [.ref e, y] ∧ H e = some (exo e C none) ∧ ∀ d, H d = none → d ≠ e → Q .non (upd (upd H d (exd d [(f, y)])) e (exo e C (some d)))
theorem ok_iB (T : Tx K w mg a) {f : Addr} {fd : FuncData} (F : Fun K "__init__" "BadClause.__init__" s_BadClause___init__ f fd) : FnOk P w K mg base (L2.CX P w) 1 f fd ["self", "what"] (spX a.B "what") := by
  refine F.okX sc_BadClause___init__ (fun vs H Q E h => ?_) (fun cdv A outer s H vs Q E hr h => ?_)
  · obtain ⟨e, y, rfl, _⟩ := h
    rfl
  · obtain ⟨e, y, rfl, he, q⟩ := h
    refine ⟨_, (pss_one (ps_ost (pv 0) (pv 1))), ?_⟩
    exact ⟨y, rfl, .ref e, rfl, e, a.B, rfl, T.oxB, T.nB, .inl ⟨he, fun d hd hn => q d hd hn⟩⟩
theorem ok_iU (T : Tx K w mg a) {f : Addr} {fd : FuncData} (F : Fun K "__init__" "BadCustom.__init__" s_BadCustom___init__ f fd) : FnOk P w K mg base (L2.CX P w) 1 f fd ["self", "what"] (spX a.U "what") := by
  refine F.okX sc_BadCustom___init__ (fun vs H Q E h => ?_) (fun cdv A outer s H vs Q E hr h => ?_)
  · obtain ⟨e, y, rfl, _⟩ := h
    rfl
  · obtain ⟨e, y, rfl, he, q⟩ := h
    refine ⟨_, (pss_one (ps_ost (pv 0) (pv 1))), ?_⟩
    exact ⟨y, rfl, .ref e, rfl, e, a.U, rfl, T.oxU, T.nU, .inl ⟨he, fun d hd hn => q d hd hn⟩⟩
theorem ok_iN (T : Tx K w mg a) {f : Addr} {fd : FuncData} (F : Fun K "__init__" "BadNumber.__init__" s_BadNumber___init__ f fd) : FnOk P w K mg base (L2.CX P w) 1 f fd ["self", "number"] (spX a.N "number") := by
  refine F.okX sc_BadNumber___init__ (fun vs H Q E h => ?_) (fun cdv A outer s H vs Q E hr h => ?_)
  · obtain ⟨e, y, rfl, _⟩ := h
    rfl
  · obtain ⟨e, y, rfl, he, q⟩ := h
    refine ⟨_, (pss_one (ps_ost (pv 0) (pv 1))), ?_⟩
    exact ⟨y, rfl, .ref e, rfl, e, a.N, rfl, T.oxN, T.nN, .inl ⟨he, fun d hd hn => q d hd hn⟩⟩
/-- the reading of «raise X(y)» -/
theorem flies_go {H : Hp} {C : Addr} {f : Str} {y : V} {E : XK} (h : Flies H C f y E) :
    ∀ e, H e = none → spX C f (.ref e :: ([y] ++ [])) (upd H e (exo e C none)) (fun v H2 => v = .non ∧ ∃ (d : Addr) (fs : List (Str × V)), H2 e = some (exo e C (some d)) ∧ H2 d = some (exd d fs) ∧ H d = none ∧ E (.ref C) (some d) (upd (del H2 e) d (.xd fs))) (fun _ _ _ => False) := by
  intro e he
  refine ⟨e, y, rfl, upd_same, fun d hd hne => ⟨rfl, d, _, upd_same, by rw [upd_ne hne, upd_same], ?_, ?_⟩⟩
  · rw [upd_ne hne] at hd
    exact hd
  · rw [upd_ne hne] at hd
    refine h _ d (fun b o hb => ?_) hd upd_same
    have h1 : b ≠ d := ne_of_none hb hd
    have h2 : b ≠ e := ne_of_none hb he
    rw [upd_ne h1, del_ne h2, upd_ne h2, upd_ne h1, upd_ne h2]
    exact hb
/-! is_whole -/
def wholeV (x : V) (lo hi : Int) : Bool := match x with
  | .int i => decide (lo ≤ i) && decide (i ≤ hi)
  | _ => false
theorem wholeV_int (i lo hi : Int) : wholeV (.int i) lo hi = (decide (lo ≤ i) && decide (i ≤ hi)) := rfl
inductive Flat4 : V → Prop where
  | non : Flat4 .non
  | bl (b : Bool) : Flat4 (.bl b)
  | int (i : Int) : Flat4 (.int i)
  | str (z : Str) : Flat4 (.str z)
def spWhole : Sp := fun vs H Q _ => ∃ (x : V) (lo hi : Int), vs = [x, .int lo, .int hi] ∧ Flat4 x ∧ Q (.bl (wholeV x lo hi)) H
theorem ok_whole {f : Addr} {fd : FuncData} (F : Fun K "is_whole" "is_whole" s_is_whole f fd) (m_isinstance : mg "isinstance" = none) (m_int : mg "int" = none) (m_bool : mg "bool" = none) : FnOk P w K mg base CX0 1 f fd ["thing", "low", "high"] spWhole := by
  refine F.ok sc_is_whole (fun vs H Q E h => ?_) (fun cdv A outer s H vs Q E hr h => ?_)
  · obtain ⟨x, lo, hi, rfl, _⟩ := h
    rfl
  · obtain ⟨x, lo, hi, rfl, hx, q⟩ := h
    refine ⟨_, (pss_one (ps_ret (pe_and (pe_callB call_isi (by rfl) m_isinstance boot_isinstance (pa_cons (pv 0) (pa_cons (pe_bltn (v := .ty "int") (by rfl) m_int boot_int rfl) pa_nil))) (pe_and (pe_not (pe_callB call_isi (by rfl) m_isinstance boot_isinstance (pa_cons (pv 0) (pa_cons (pe_bltn (v := .ty "bool") (by rfl) m_bool boot_bool rfl) pa_nil)))) (pe_one (pe_chain op_le op_le (pv 1) (pv 0) (pv 2))))))), ?_⟩
    cases hx with
    | non => exact ⟨_, rfl, _, _, _, _, _, rfl, .ty _, .base .non, kit_ty (r := false) (by decide +kernel), false, rfl, q⟩
    | bl b => 
      refine ⟨_, rfl, _, _, _, _, _, rfl, .ty _, .base (.bl b), kit_ty (r := true) (by decide +kernel), true, rfl, ?_⟩
      exact ⟨_, rfl, _, _, _, _, _, rfl, .ty _, .base (.bl b), kit_ty (r := true) (by decide +kernel), _, rfl, _, rfl, q⟩
    | str z => exact ⟨_, rfl, _, _, _, _, _, rfl, .ty _, .base (.str z), kit_ty (r := false) (by decide +kernel), false, rfl, q⟩
    | int i =>
      refine ⟨_, rfl, _, _, _, _, _, rfl, .ty _, .base (.int i), kit_ty (r := true) (by decide +kernel), true, rfl, ?_⟩
      refine ⟨_, rfl, _, _, _, _, _, rfl, .ty _, .base (.int i), kit_ty (r := false) (by decide +kernel), _, rfl, _, rfl, ?_⟩
      refine ⟨_, rfl, _, rfl, _, _, rfl, rfl, _, rfl, ite2 (fun e => ?_) (fun e => ?_)⟩
      · rw [wholeV_int, e, Bool.true_and] at q
        exact ⟨_, rfl, _, _, rfl, rfl, q⟩
      · rw [wholeV_int, Bool.eq_false_iff.mpr e, Bool.false_and] at q
        exact q
/-! _check_clause, words -/
def spCC (K : PySem.W.Frag) (a : Ad) : Sp := fun vs H Q E => ∃ (x : V) (b : Bool), vs = [x] ∧ InW K H clauses x b ∧ (b = true → Q .non H) ∧ (b = false → Flies H a.B "what" (.str "clause") E)
theorem ok_cc (T : Tx K w mg a) {f : Addr} {fd fdB : FuncData} (F : Fun K "_check_clause" "_check_clause" s__check_clause f fd) (FB0 : Fun K "__init__" "BadClause.__init__" s_BadClause___init__ a.iB fdB) (bB : Binds K fdB ["self", "what"] []) : FnOk P w K mg base (L2.CX P w) 3 f fd ["clause"] (spCC K a) := by
  have FB : FnOk P w K mg base (L2.CX P w) 1 a.iB fdB ["self", "what"] (spX a.B "what") := ok_iB T FB0
  refine F.okX sc__check_clause (fun vs H Q E h => ?_) (fun cdv A outer s H vs Q E hr h => ?_)
  · obtain ⟨x, b, rfl, _⟩ := h
    rfl
  · obtain ⟨x, b, rfl, hi, q1, q2⟩ := h
    have hu1 := hu_of hr
    have hrx : Room (1 + 1) _ := hr
    refine ⟨_, (pss_one (ps_if (pt_cmpR (op_notInW hu1) (pv 0) (pe_glob (v := .ref _) rfl T.gCl rfl) (by with_unfolding_all rfl))
  (pss_one (ps_raise rfl (takes_of rfl rfl rfl rfl) (pmk_oex T.oxB T.iCB T.tIB FB hrx bB .nil passL (by rfl) T.gB (pa_cons pe_str pa_nil))))
  pss_nil)), ?_⟩
    refine ⟨x, rfl, a.cl, clauses, b, rfl, T.tCl.t H, hi, _, rfl, ?_⟩
    cases b with
    | true => exact q1 rfl
    | false => exact ⟨by decide, flies_go (q2 rfl)⟩
def spWW (K : PySem.W.Frag) (a : Ad) : Sp := fun vs H Q E => ∃ x : V, vs = [x] ∧ ((∃ i, i < 5 ∧ x = .str (clauseAt i) ∧ Q (.ref (a.menu i)) H) ∨ (InW K H clauses x false ∧ Flies H a.B "what" (.str "clause") E))
theorem clause_in {i : Nat} (h : i < 5) : clauseAt i ∈ clauses := List.mem_of_getElem? (clause_get h)
theorem ok_words (T : Tx K w mg a) {f fC : Addr} {fd fdC : FuncData} (F : Fun K "words" "words" s_words f fd) (G_cc : FnOk P w K mg base (L2.CX P w) 3 fC fdC ["clause"] (spCC K a)) (g_cc : mg "_check_clause" = some (.ref fC)) (k_cc : PySem.W.keepIn K (.ref fC) = true) (b_cc : Binds K fdC ["clause"] []) : FnOk P w K mg base (L2.CX P w) 4 f fd ["clause"] (spWW K a) := by
  refine F.okX sc_words (fun vs H Q E h => ?_) (fun cdv A outer s H vs Q E hr h => ?_)
  · obtain ⟨x, rfl, _⟩ := h
    rfl
  · obtain ⟨x, rfl, q⟩ := h
    refine ⟨_, (pss_cons (ps_expr (pe_call G_cc hr (by rfl) g_cc k_cc b_cc .nil (passes_call (E := E) (takes_of rfl rfl rfl rfl) (fun _ _ _ _ h => h)) (pa_cons (pv 0) pa_nil)))
 (pss_one (ps_ret (pe_ix ix_kdict (pe_glob (v := .ref _) rfl T.gWd rfl) (pv 0) (fun _ _ => rfl))))), ?_⟩
    rcases q with ⟨i, hi, rfl, q⟩ | ⟨hi, q⟩
    · refine ⟨_, rfl, _, decide (clauseAt i ∈ clauses), rfl, .str _, fun _ => ?_, fun z => ?_⟩
      · exact ⟨_, rfl, _, _, _, rfl, rfl, T.kWd i hi, q⟩
      · rw [decide_eq_true (clause_in hi)] at z
        cases z
    · exact ⟨_, rfl, _, false, rfl, hi, fun z => (nomatch z), fun _ => q⟩
end
end K7
end
/-! ## P3 -/
section
open PySem PySem.Spec PyProof.Rows L2
namespace K7
abbrev N_Custom___init__ : List Str := ["self", "untold", "joined", "sold", "kept", "ends", "row", "number", "clause", "word"]
abbrev s_Custom___init__ : Stmt := inClass (topS 13) 0
theorem sc_Custom___init__ : FnScope ["self", "untold", "joined", "sold", "kept", "ends", "row", "number", "clause", "word"] ["self", "untold", "joined", "sold", "kept", "ends"] (defScope s_Custom___init__) := ⟨rfl, rfl, rfl, by decide +kernel, rfl, by decide +kernel, by decide +kernel⟩

/-! ### rows and numbers -/
def ixAt (n i : Nat) : Nat := [n / 64 % 3, n / 32 % 2, n / 8 % 4, n / 2 % 4, n % 2].getD i 0
def wAt (n i : Nat) : Str := (menuAt i).getD (ixAt n i) ""
def rowOf (n : Nat) : List Str := [wAt n 0, wAt n 1, wAt n 2, wAt n 3, wAt n 4]
def dv (i : Nat) : Nat := [192, 64, 32, 8, 2, 1].getD i 1
theorem row_get {n i : Nat} (h : i < 5) : (rowOf n)[i]? = some (wAt n i) := by
  match i, h with
  | 0, _ => rfl
  | 1, _ => rfl
  | 2, _ => rfl
  | 3, _ => rfl
  | 4, _ => rfl
theorem step_all : ∀ n : Fin 192, ∀ i : Fin 5, n.val / dv i.val * (menuAt i.val).length + (menuAt i.val).idxOf (wAt n.val i.val) = n.val / dv (i.val + 1) ∧ wAt n.val i.val ∈ menuAt i.val := by decide +kernel
theorem menu_nodup : ∀ i : Fin 5, (menuAt i.val).Nodup ∧ (menuAt i.val).length ≤ 4 := by decide +kernel
theorem menu_ix0 : ∀ i : Fin 5, ∀ s ∈ menuAt i.val, (menuAt i.val)[(menuAt i.val).idxOf s]? = some s ∧ (menuAt i.val).idxOf s < 4 ∧ ∀ m : Fin 4, m.val < (menuAt i.val).idxOf s → (menuAt i.val)[m.val]? ≠ some s := by decide +kernel
theorem menu_ix {i : Nat} (hi : i < 5) {s : Str} (h : s ∈ menuAt i) : (menuAt i)[(menuAt i).idxOf s]? = some s ∧ ∀ m, m < (menuAt i).idxOf s → (menuAt i)[m]? ≠ some s := by
  obtain ⟨h1, h2, h3⟩ := menu_ix0 ⟨i, hi⟩ s h
  exact ⟨h1, fun m hm => h3 ⟨m, Nat.lt_trans hm h2⟩ hm⟩
theorem num_dv : ∀ n : Fin 192, n.val / dv 0 = 0 := by decide +kernel
def custFs (w : List V) (t : Addr) (n : Int) : List (Str × V) :=
  putF "number" (.int n) (putF "row" (.ref t) (putF "ends" (w.getD 4 .non) (putF "kept" (w.getD 3 .non) (putF "sold" (w.getD 2 .non) (putF "joined" (w.getD 1 .non) (putF "untold" (w.getD 0 .non) []))))))
/-- a custom of the number n stands at p -/
def CustAt (C : Addr) (H : Hp) (p : Addr) (n : Nat) : Prop := n < 192 ∧ ∃ dx t, H p = some (.ins C dx (custFs ((rowOf n).map V.str) t n)) ∧ H t = some (.tup ((rowOf n).map V.str))
theorem CustAt.same {C : Addr} {H H' : Hp} {p : Addr} {n : Nat} (c : CustAt C H p n) (e : Same H H') : CustAt C H' p n := by
  obtain ⟨h, dx, t, h1, h2⟩ := c
  exact ⟨h, dx, t, e _ _ h1, e _ _ h2⟩
/-- a word that does not belong to a clause -/
def BadW (K : PySem.W.Frag) (H : Hp) (i : Nat) (x : V) : Prop := InW K H (menuAt i) x false
theorem InW.same {K : PySem.W.Frag} {H H' : Hp} {ss : List Str} {x : V} {b : Bool} (h : InW K H ss x b) (e : Same H H') : InW K H' ss x b := by
  cases h with
  | str z => exact .str z
  | odd o => exact .odd (o.same e)
theorem same_new {H H' : Hp} {p : Addr} {o : HO} (e : Same H H') (h : H' p = none) : Same H (upd H' p o) := fun b z hz => by
  have h2 := e _ _ hz
  rw [upd_ne (ne_of_none h2 h)]
  exact h2
/-- all but x is as it was -/
def But (x : Addr) (H H' : Hp) : Prop := ∀ b o, b ≠ x → H b = some o → H' b = some o
section
variable {P : Program} {w : World} {K : PySem.W.Frag} {mg : Str → Option Value} {base : Heap} {a : Ad}
def spInit (K : PySem.W.Frag) (a : Ad) : Sp := fun vs H Q E => ∃ (x dx : Addr) (w0 w1 w2 w3 w4 : V), vs = [.ref x, w0, w1, w2, w3, w4] ∧ H x = some (.ins a.C dx []) ∧
  ((∃ n, n < 192 ∧ [w0, w1, w2, w3, w4] = (rowOf n).map V.str ∧ ∀ H', But x H H' → CustAt a.C H' x n → Q .non H') ∨
   (∃ p, p < 5 ∧ (∀ i < p, ∃ z ∈ menuAt i, [w0, w1, w2, w3, w4][i]? = some (.str z)) ∧ (∃ z, [w0, w1, w2, w3, w4][p]? = some z ∧ BadW K H p z) ∧ Flies H a.U "what" (.str (clauseAt p)) E))
theorem ok_init (T : Tx K w mg a) {f : Addr} {fd fdU : FuncData} (F : Fun K "__init__" "Custom.__init__" s_Custom___init__ f fd) (FU0 : Fun K "__init__" "BadCustom.__init__" s_BadCustom___init__ a.iU fdU) (bU : Binds K fdU ["self", "what"] [])
    (m_zip : mg "zip" = none) (m_len : mg "len" = none) : FnOk P w K mg base (L2.CX P w) 3 f fd ["self", "untold", "joined", "sold", "kept", "ends"] (spInit K a) := by
  have FU : FnOk P w K mg base (L2.CX P w) 1 a.iU fdU ["self", "what"] (spX a.U "what") := ok_iU T FU0
  refine F.okX sc_Custom___init__ (fun vs H Q E h => ?_) (fun cdv A outer s H vs Q E hr h => ?_)
  · obtain ⟨x, dx, w0, w1, w2, w3, w4, rfl, _⟩ := h
    rfl
  · obtain ⟨x, dx, w0, w1, w2, w3, w4, rfl, hx, h⟩ := h
    have hu1 := hu_of hr
    have hrx : Room (1 + 1) _ := hr
    refine ⟨_, (pss_cons (ps_set (i := 6) sc_Custom___init__.nd rfl (by first | exact Or.inl rfl | exact Or.inr rfl) (pe_tup (pa_cons (pv 1) (pa_cons (pv 2) (pa_cons (pv 3) (pa_cons (pv 4) (pa_cons (pv 5) pa_nil)))))))
 (pss_cons (ps_set (i := 7) sc_Custom___init__.nd rfl (by first | exact Or.inl rfl | exact Or.inr rfl) pe_int)
 (pss_cons (ps_for (passes_of rfl) rfl (RZ.pi_zipA (by rfl) m_zip (pa_cons (pe_glob (v := .ref _) rfl T.gCl rfl) (pa_cons (pv 6) pa_nil))) (pg_tup rfl (pgs_cons (pg_name (i := 8) sc_Custom___init__.nd rfl (by first | exact Or.inl rfl | exact Or.inr rfl)) (pgs_cons (pg_name (i := 9) sc_Custom___init__.nd rfl (by first | exact Or.inl rfl | exact Or.inr rfl)) pgs_nil)))
  (pss_cons (ps_if (pt_cmpR (op_notInW hu1) (pv 9) (pe_ix ix_kdict (pe_glob (v := .ref _) rfl T.gWd rfl) (pv 8) (fun _ _ => rfl)) (by with_unfolding_all rfl))
  (pss_one (ps_raise rfl (takes_of rfl rfl rfl rfl) (pmk_oex T.oxU T.iCU T.tIU FU hrx bU .nil passL (by rfl) T.gU (pa_cons (pv 8) pa_nil))))
  pss_nil)
 (pss_one (ps_set (i := 7) sc_Custom___init__.nd rfl (by first | exact Or.inl rfl | exact Or.inr rfl) (pe_op op_add (pe_op op_mul (pv 7) (pe_callB call_len_seq (by rfl) m_len boot_len (pa_cons (pe_ix ix_kdict (pe_glob (v := .ref _) rfl T.gWd rfl) (pv 8) (fun _ _ => rfl)) pa_nil))) (pe_bm PySem.F.plainAttrs_tuple PySem.F.slot_tuple_index PySem.F.type_tuple_index mt_tup_index (pe_ix ix_kdict (pe_glob (v := .ref _) rfl T.gWd rfl) (pv 8) (fun _ _ => rfl)) (pa_cons (pv 9) pa_nil)))))))
 (pss_cons (ps_fld (pv 0) (pv 1) rfl)
 (pss_cons (ps_fld (pv 0) (pv 2) rfl)
 (pss_cons (ps_fld (pv 0) (pv 3) rfl)
 (pss_cons (ps_fld (pv 0) (pv 4) rfl)
 (pss_cons (ps_fld (pv 0) (pv 5) rfl)
 (pss_cons (ps_fld (pv 0) (pv 6) rfl)
 (pss_one (ps_fld (pv 0) (pv 7) rfl))))))))))), ?_⟩
    refine ⟨w0, rfl, w1, rfl, w2, rfl, w3, rfl, w4, rfl, by show 5 ≤ sizeLine; decide, fun t ht => ?_⟩
    have hxt : x ≠ t := ne_of_none hx ht
    have e0 : Same H (upd H t (.tup [w0, w1, w2, w3, w4])) := same_new (Same.refl H) ht
    refine ⟨.ref t, rfl, a.cl, t, _, _, rfl, .inr ⟨T.tCl.t _, .inl (.inl upd_same), RZ.for_zipT (xs := clauses.map V.str) (ys := [w0, w1, w2, w3, w4]) rfl (fun i σ H' => ∃ (z : Int) (y8 y9 : Option V), σ = [some (.ref x), some w0, some w1, some w2, some w3, some w4, some (.ref t), some (.int z), y8, y9] ∧ Same (upd H t (.tup [w0, w1, w2, w3, w4])) H' ∧
      ((∃ n, n < 192 ∧ [w0, w1, w2, w3, w4] = (rowOf n).map V.str ∧ z = ((n / dv i : Nat) : Int) ∧ ∀ H', But x H H' → CustAt a.C H' x n → Q .non H') ∨
       (∃ p, p < 5 ∧ i ≤ p ∧ (∀ i < p, ∃ z ∈ menuAt i, [w0, w1, w2, w3, w4][i]? = some (.str z)) ∧ (∃ z, [w0, w1, w2, w3, w4][p]? = some z ∧ BadW K H p z) ∧ Flies H a.U "what" (.str (clauseAt p)) E))) ?_ (fun i σ H' p => ?_) (fun i v y T' σ H' hv hy p nT => ?_) (fun σ H' p => ?_)⟩⟩
    · refine ⟨0, none, none, rfl, Same.refl _, ?_⟩
      rcases h with ⟨n, hn, e, q⟩ | ⟨p, hp, h1, h2, h3⟩
      · exact .inl ⟨n, hn, e, by rw [num_dv ⟨n, hn⟩]; rfl, q⟩
      · exact .inr ⟨p, hp, Nat.zero_le _, h1, h2, h3⟩
    · obtain ⟨z, y8, y9, rfl, e, _⟩ := p
      exact ⟨T.tCl.t _, .inl (.inl (e _ _ upd_same))⟩
    · obtain ⟨z, y8, y9, rfl, e, hm⟩ := p
      have hi : i < 5 := (List.getElem?_eq_some_iff.mp hy).1
      have hv' : v = .str (clauseAt i) := by
        rw [List.getElem?_map, clause_get hi] at hv
        exact (Option.some.inj hv).symm
      subst hv'
      refine ⟨T', _, rfl, .inl (.inl upd_same), rfl, _, _, rfl, _, _, rfl, rfl, ?_⟩
      have e1 : Same H (upd H' T' (.tup [.str (clauseAt i), y])) := same_new (e0.trans e) nT
      have e2 : Same (upd H t (.tup [w0, w1, w2, w3, w4])) (upd H' T' (.tup [.str (clauseAt i), y])) := same_new e nT
      have hlen : ((menuAt i).map V.str).length = (menuAt i).length := List.length_map ..
      have hl4 := (menu_nodup ⟨i, hi⟩).2
      have hl4' : (menuAt i).length ≤ 4 := hl4
      -- which words
      have cases_ : (∃ s ∈ menuAt i, y = .str s ∧ ((∃ n, n < 192 ∧ [w0, w1, w2, w3, w4] = (rowOf n).map V.str ∧ z * (((menuAt i).map V.str).length : Int) + ((menuAt i).idxOf s : Nat) = ((n / dv (i + 1) : Nat) : Int) ∧ ∀ H', But x H H' → CustAt a.C H' x n → Q .non H') ∨
          (∃ p, p < 5 ∧ i + 1 ≤ p ∧ (∀ i < p, ∃ z ∈ menuAt i, [w0, w1, w2, w3, w4][i]? = some (.str z)) ∧ (∃ z, [w0, w1, w2, w3, w4][p]? = some z ∧ BadW K H p z) ∧ Flies H a.U "what" (.str (clauseAt p)) E))) ∨
          (BadW K H i y ∧ Flies H a.U "what" (.str (clauseAt i)) E) := by
        rcases hm with ⟨n, hn, ew, ez, q⟩ | ⟨p, hp, hip, h1, h2, h3⟩
        · have ey : y = .str (wAt n i) := by
            rw [ew, List.getElem?_map, row_get hi] at hy
            exact (Option.some.inj hy).symm
          obtain ⟨st, sm⟩ := step_all ⟨n, hn⟩ ⟨i, hi⟩
          refine .inl ⟨_, sm, ey, .inl ⟨n, hn, ew, ?_, q⟩⟩
          have st' : n / dv i * (menuAt i).length + (menuAt i).idxOf (wAt n i) = n / dv (i + 1) := st
          rw [ez, hlen, ← st']
          simp
        · by_cases e3 : i < p
          · obtain ⟨s, sm, es⟩ := h1 i e3
            have ey : y = .str s := Option.some.inj (hy.symm.trans es)
            exact .inl ⟨s, sm, ey, .inr ⟨p, hp, e3, h1, h2, h3⟩⟩
          · have : i = p := by omega
            subst this
            obtain ⟨z', ez, hb⟩ := h2
            have ey : y = z' := Option.some.inj (hy.symm.trans ez)
            subst ey
            exact .inr ⟨hb, h3⟩
      rcases cases_ with ⟨s, sm, rfl, hgo⟩ | ⟨hb, hfl⟩
      · have hin : InW K (upd H' T' (.tup [.str (clauseAt i), .str s])) (menuAt i) (.str s) true := by
          rw [← decide_eq_true sm]
          exact .str s
        obtain ⟨i1, i2⟩ := menu_ix hi sm
        refine ⟨_, rfl, _, rfl, _, _, _, rfl, rfl, T.kWd i hi, _, menuAt i, true, rfl, (T.tMn i hi).t _, hin, _, rfl, ?_⟩
        refine ⟨_, rfl, _, rfl, _, _, _, rfl, rfl, T.kWd i hi, _, _, rfl, .inr ((T.tMn i hi).t _), _, _, rfl, rfl, .inr ⟨by omega, by omega⟩, _, rfl, _, _, _, rfl, rfl, T.kWd i hi, (T.tMn i hi).ty _, _, rfl, _, _, s, _, rfl, rfl, (T.tMn i hi).t _, i1, i2, _, _, rfl, rfl, ?_⟩
        exact ⟨_, _, _, rfl, e2, hgo⟩
      · refine ⟨_, rfl, _, rfl, _, _, _, rfl, rfl, T.kWd i hi, _, menuAt i, false, rfl, (T.tMn i hi).t _, InW.same hb e1, _, rfl, ?_⟩
        exact ⟨_, rfl, by show 1 ≤ 1000; decide, flies_go (hfl.later e1)⟩
    · obtain ⟨z, y8, y9, rfl, e, hm⟩ := p
      rcases hm with ⟨n, hn, ew, ez, q⟩ | ⟨p, hp, hip, _⟩
      · have ez' : z = (n : Int) := by rw [ez]; show ((n / 1 : Nat) : Int) = _; rw [Nat.div_one]
        subst ez'
        have ht2 : H' t = some (.tup ((rowOf n).map V.str)) := by rw [← ew]; exact e _ _ upd_same
        have hx2 : H' x = some (.ins a.C dx []) := e _ _ (by rw [upd_ne hxt]; exact hx)
        have hn' : ∀ f, f ∈ fields → NoAttr K a.C f := T.nA
        refine ⟨_, rfl, _, rfl, x, a.C, dx, _, rfl, hx2, T.cl, hn' _ (by decide), by show 0 < 1000; decide, ?_⟩
        refine ⟨_, rfl, _, rfl, x, a.C, dx, _, rfl, upd_same, T.cl, hn' _ (by decide), by show 1 < 1000; decide, ?_⟩
        refine ⟨_, rfl, _, rfl, x, a.C, dx, _, rfl, upd_same, T.cl, hn' _ (by decide), by show 2 < 1000; decide, ?_⟩
        refine ⟨_, rfl, _, rfl, x, a.C, dx, _, rfl, upd_same, T.cl, hn' _ (by decide), by show 3 < 1000; decide, ?_⟩
        refine ⟨_, rfl, _, rfl, x, a.C, dx, _, rfl, upd_same, T.cl, hn' _ (by decide), by show 4 < 1000; decide, ?_⟩
        refine ⟨_, rfl, _, rfl, x, a.C, dx, _, rfl, upd_same, T.cl, hn' _ (by decide), by show 5 < 1000; decide, ?_⟩
        refine ⟨_, rfl, _, rfl, x, a.C, dx, _, rfl, upd_same, T.cl, hn' _ (by decide), by show 6 < 1000; decide, ?_⟩
        rw [upd_upd, upd_upd, upd_upd, upd_upd, upd_upd, upd_upd]
        refine q _ (fun b o hb hz => by rw [upd_ne hb]; exact e _ _ (e0 _ _ hz)) ⟨hn, dx, t, ?_, by rw [upd_ne hxt.symm]; exact ht2⟩
        rw [upd_same, ← ew]
        rfl
      · exact absurd hip (by show ¬ (5 ≤ p); omega)
end
end K7
end
/-! ## P4 -/
section
open PySem PySem.Spec PyProof.Rows L2
namespace K7
abbrev N_Custom_word : List Str := ["self", "clause"]
abbrev s_Custom_word : Stmt := inClass (topS 13) 3
theorem sc_Custom_word : FnScope ["self", "clause"] ["self", "clause"] (defScope s_Custom_word) := ⟨rfl, rfl, rfl, by decide +kernel, rfl, by decide +kernel, by decide +kernel⟩

abbrev N_Custom___eq__ : List Str := ["self", "other"]
abbrev s_Custom___eq__ : Stmt := inClass (topS 13) 1
theorem sc_Custom___eq__ : FnScope ["self", "other"] ["self", "other"] (defScope s_Custom___eq__) := ⟨rfl, rfl, rfl, by decide +kernel, rfl, by decide +kernel, by decide +kernel⟩

abbrev N_Custom_changed : List Str := ["self", "clause", "word", "row", "name", "old"]
abbrev s_Custom_changed : Stmt := inClass (topS 13) 4
theorem sc_Custom_changed : FnScope ["self", "clause", "word", "row", "name", "old"] ["self", "clause", "word"] (defScope s_Custom_changed) := ⟨rfl, rfl, rfl, by decide +kernel, rfl, by decide +kernel, by decide +kernel⟩

abbrev N_Custom_uses : List Str := ["self", "word", "clause", "old"]
abbrev s_Custom_uses : Stmt := inClass (topS 13) 5
theorem sc_Custom_uses : FnScope ["self", "word", "clause", "old"] ["self", "word"] (defScope s_Custom_uses) := ⟨rfl, rfl, rfl, by decide +kernel, rfl, by decide +kernel, by decide +kernel⟩

abbrev N_custom_at : List Str := ["number", "row", "rest", "clause", "many"]
abbrev s_custom_at : Stmt := topS 14
theorem sc_custom_at : FnScope ["number", "row", "rest", "clause", "many"] ["number"] (defScope s_custom_at) := ⟨rfl, rfl, rfl, by decide +kernel, rfl, by decide +kernel, by decide +kernel⟩

abbrev N_differences : List Str := ["one", "other", "clause"]
abbrev s_differences : Stmt := topS 16
theorem sc_differences : FnScope ["one", "other", "clause"] ["one", "other"] (defScope s_differences) := ⟨rfl, rfl, rfl, by decide +kernel, rfl, by decide +kernel, by decide +kernel⟩

/-! ### lookups -/
theorem custFs_look (w : List V) (t : Addr) (n : Int) : (custFs w t n).lookup ("row" : Str) = some (.ref t) ∧ (custFs w t n).lookup ("number" : Str) = some (.int n) ∧
    (custFs w t n).lookup ("untold" : Str) = some (w.getD 0 .non) ∧ (custFs w t n).lookup ("joined" : Str) = some (w.getD 1 .non) ∧ (custFs w t n).lookup ("sold" : Str) = some (w.getD 2 .non) ∧ (custFs w t n).lookup ("kept" : Str) = some (w.getD 3 .non) ∧ (custFs w t n).lookup ("ends" : Str) = some (w.getD 4 .non) :=
  ⟨rfl, rfl, rfl, rfl, rfl, rfl, rfl⟩
theorem custFs_meth (w : List V) (t : Addr) (n : Int) : (custFs w t n).lookup ("word" : Str) = none ∧ (custFs w t n).lookup ("changed" : Str) = none ∧ (custFs w t n).lookup ("uses" : Str) = none := ⟨rfl, rfl, rfl⟩
theorem clause_ix0 : ∀ i : Fin 5, ∀ m : Fin 5, m.val < i.val → clauses[m.val]? ≠ some (clauseAt i.val) := by decide +kernel
theorem clause_ix {i : Nat} (hi : i < 5) : ∀ m, m < i → clauses[m]? ≠ some (clauseAt i) := fun m hm => clause_ix0 ⟨i, hi⟩ ⟨m, Nat.lt_trans hm hi⟩ hm
/-! ### texts in a row, compared -/
theorem dp_strs {K : PySem.W.Frag} {H : Hp} : ∀ ss : List Str, DpAll K H (ss.map V.str) (ss.map PyData.str)
  | [] => .nil
  | z :: ss => .cons (.str z) (dp_strs ss)
theorem eqv_strs : ∀ ss tt : List Str, PyData.eqvAll (ss.map PyData.str) (tt.map PyData.str) = decide (ss = tt)
  | [], [] => rfl
  | [], _ :: _ => by simp [PyData.eqvAll]
  | _ :: _, [] => by simp [PyData.eqvAll]
  | x :: ss, y :: tt => by
    rw [List.map_cons, List.map_cons, PyData.eqvAll, eqv_strs ss tt]
    by_cases e : x = y
    · subst e
      simp [PyData.eqv]
    · simp [PyData.eqv, e]
theorem shaped_strs (ss : List Str) (h : ∀ z ∈ ss, PyData.strOk z = true) : SeqAt.shaped (.tuple (ss.map PyData.str)) = true ∧ SeqAt.shaped (.list (ss.map PyData.str)) = true := by
  have h1 : ∀ ss : List Str, (∀ z ∈ ss, PyData.strOk z = true) → PyData.canLayAll0 (ss.map PyData.str) = true := fun ss => by
    induction ss with
    | nil => intro _; simp [PyData.canLayAll0]
    | cons x r ih => intro h; simp [PyData.canLayAll0, PyData.canLay0, ih fun z hz => h z (List.mem_cons_of_mem _ hz), h x List.mem_cons_self]
  have h2 : ∀ ss : List Str, PyData.depthAll (ss.map PyData.str) = 0 := fun ss => by
    induction ss with
    | nil => simp [PyData.depthAll]
    | cons x r ih => simp [PyData.depthAll, PyData.depth, ih]
  refine ⟨?_, ?_⟩
  · show ((PyData.canLay0 (.tuple (ss.map PyData.str))) && decide (PyData.depth (.tuple (ss.map PyData.str)) ≤ 64)) = true
    simp [PyData.canLay0, PyData.depth, h1 ss h, h2]
  · show ((PyData.canLay0 (.list (ss.map PyData.str))) && decide (PyData.depth (.list (ss.map PyData.str)) ≤ 64)) = true
    simp [PyData.canLay0, PyData.depth, h1 ss h, h2]
theorem row_ok0 : ∀ n : Fin 192, (rowOf n.val).all PyData.strOk = true := by decide +kernel
theorem row_ok {n : Nat} (h : n < 192) : ∀ z ∈ rowOf n, PyData.strOk z = true := List.all_eq_true.mp (row_ok0 ⟨n, h⟩)
def numOf (ss : List Str) : Nat := ((((menuAt 0).idxOf (ss.getD 0 "") * 2 + (menuAt 1).idxOf (ss.getD 1 "")) * 4 + (menuAt 2).idxOf (ss.getD 2 "")) * 4 + (menuAt 3).idxOf (ss.getD 3 "")) * 2 + (menuAt 4).idxOf (ss.getD 4 "")
theorem num_row : ∀ n : Fin 192, numOf (rowOf n.val) = n.val := by decide +kernel
theorem row_inj {n m : Nat} (hn : n < 192) (hm : m < 192) : rowOf n = rowOf m ↔ n = m :=
  ⟨fun e => by have h1 := num_row ⟨n, hn⟩; have h2 := num_row ⟨m, hm⟩; simp only at h1 h2; rw [← h1, ← h2, e], fun e => by rw [e]⟩
/-! ### what more the top says -/
structure Tc (K : PySem.W.Frag) (mg : Str → Option Value) (a : Ad) : Prop where
  ha : PySem.W.findIn K (.ref a.C) "__class__" = some (some (.builtin "object.__class__"))
  hn : PySem.W.specialIn K (.builtin "object.__class__") "__get__" = some (some (.builtin "getset_descriptor.__get__"))
  ht : PySem.W.takesIn K (.builtin "object.__class__") = some true
  hm : PySem.W.mroIn K a.C (.type "object") = some true
  own : PySem.W.kitOne K (.ref a.C) (.ref a.C) = some true
  tup : PySem.W.kitOne K (.type "tuple") (.ref a.C) = some false
section
variable {P : Program} {w : World} {K : PySem.W.Frag} {mg : Str → Option Value} {base : Heap} {a : Ad}
/-! Custom.word -/
def spWord (K : PySem.W.Frag) (a : Ad) : Sp := fun vs H Q E => ∃ (p : Addr) (n : Nat) (x : V), vs = [.ref p, x] ∧ CustAt a.C H p n ∧ ((∃ i, i < 5 ∧ x = .str (clauseAt i) ∧ Q (.str (wAt n i)) H) ∨ (InW K H clauses x false ∧ Flies H a.B "what" (.str "clause") E))
theorem ok_word (T : Tx K w mg a) {f fC : Addr} {fd fdC : FuncData} (F : Fun K "word" "Custom.word" s_Custom_word f fd) (G_cc : FnOk P w K mg base (L2.CX P w) 3 fC fdC ["clause"] (spCC K a)) (g_cc : mg "_check_clause" = some (.ref fC)) (k_cc : PySem.W.keepIn K (.ref fC) = true) (b_cc : Binds K fdC ["clause"] []) : FnOk P w K mg base (L2.CX P w) 4 f fd ["self", "clause"] (spWord K a) := by
  refine F.okX sc_Custom_word (fun vs H Q E h => ?_) (fun cdv A outer s H vs Q E hr h => ?_)
  · obtain ⟨p, n, x, rfl, _⟩ := h
    rfl
  · obtain ⟨p, n, x, rfl, ⟨hn, dx, t, hp, ht⟩, q⟩ := h
    refine ⟨_, (pss_cons (ps_expr (pe_call G_cc (hr.mono (by decide)) (by rfl) g_cc k_cc b_cc .nil (passes_call (E := E) (takes_of rfl rfl rfl rfl) (fun _ _ _ _ h => h)) (pa_cons (pv 1) pa_nil)))
 (pss_one (ps_ret (pe_ix ix_tup (pe_fld (pv 0) rfl) (pe_bm PySem.F.plainAttrs_tuple PySem.F.slot_tuple_index PySem.F.type_tuple_index mt_tup_index (pe_glob (v := .ref _) rfl T.gCl rfl) (pa_cons (pv 1) pa_nil)) (fun _ _ => rfl))))), ?_⟩
    rcases q with ⟨i, hi, rfl, q⟩ | ⟨hi, q⟩
    · refine ⟨_, rfl, _, decide (clauseAt i ∈ clauses), rfl, .str _, fun _ => ?_, fun z => ?_⟩
      · refine ⟨.ref p, rfl, p, a.C, dx, _, _, rfl, hp, T.cl, T.nA _ (by decide), (custFs_look _ _ _).1, T.tCl.ty _, _, rfl, _, clauses, _, i, rfl, rfl, T.tCl.t _, clause_get hi, clause_ix hi, ?_⟩
        refine ⟨t, _, _, _, rfl, rfl, .inl (.inl ht), atI_nat (v := .str (wAt n i)) ?_, q⟩
        rw [List.getElem?_map, row_get hi]
        rfl
      · rw [decide_eq_true (clause_in hi)] at z
        cases z
    · exact ⟨_, rfl, _, false, rfl, hi, fun z => (nomatch z), fun _ => q⟩
/-! Custom.__eq__ -/
def spEqC (K : PySem.W.Frag) (a : Ad) : Sp := fun vs H Q _ => ∃ (p q : Addr) (n : Nat), vs = [.ref p, .ref q] ∧ CustAt a.C H p n ∧ ((∃ m, CustAt a.C H q m ∧ Q (.bl (decide (n = m))) H) ∨ (∃ xs, H q = some (.tup xs) ∧ Q (.bl false) H))
theorem ok_eqC (T : Tx K w mg a) (T2 : Tc K mg a) {f : Addr} {fd : FuncData} (F : Fun K "__eq__" "Custom.__eq__" s_Custom___eq__ f fd) (m_isinstance : mg "isinstance" = none) : FnOk P w K mg base CX0 1 f fd ["self", "other"] (spEqC K a) := by
  refine F.ok sc_Custom___eq__ (fun vs H Q E h => ?_) (fun cdv A outer s H vs Q E hr h => ?_)
  · obtain ⟨p, q, n, rfl, _⟩ := h
    rfl
  · obtain ⟨p, q, n, rfl, ⟨hn, dx, t, hp, ht⟩, h⟩ := h
    have hu64 := hr.units
    refine ⟨_, (pss_one (ps_ret (pe_and (pe_callB call_isi (by rfl) m_isinstance boot_isinstance (pa_cons (pv 1) (pa_cons (pe_glob (v := .ref _) rfl T.gC rfl) pa_nil))) (pe_one (pe_cmpR (op_eqD hu64) (pe_fld (pv 0) rfl) (pe_fld (pv 1) rfl) (nomark _)))))), ?_⟩
    rcases h with ⟨m, ⟨hm, dy, u, hq, hu⟩, k⟩ | ⟨xs, hq, k⟩
    · refine ⟨_, rfl, _, _, _, _, _, rfl, .own _, .base (.ins hq T.cl T2.ha T2.hn T2.ht T2.hm), T2.own, true, rfl, ?_⟩
      refine ⟨.ref p, rfl, p, a.C, dx, _, _, rfl, hp, T.cl, T.nA _ (by decide), (custFs_look _ _ _).1, .ref q, rfl, q, a.C, dy, _, _, rfl, hq, T.cl, T.nA _ (by decide), (custFs_look _ _ _).1, _, _, .tup (.inl (.inl ht)) (dp_strs _), .tup (.inl (.inl hu)) (dp_strs _), (shaped_strs _ (row_ok hn)).1, (shaped_strs _ (row_ok hm)).1, ?_⟩
      have e : PyData.eqv (.tuple ((rowOf n).map PyData.str)) (.tuple ((rowOf m).map PyData.str)) = decide (n = m) := by
        rw [PyData.eqv, eqv_strs]
        exact decide_eq_decide.mpr (row_inj hn hm)
      rw [e]
      exact k
    · exact ⟨_, rfl, _, _, _, _, _, rfl, .own _, .base (.tup hq), T2.tup, false, rfl, k⟩
/-- a promise's end: a new custom -/
def NewC (a : Ad) (m : Nat) (H : Hp) (Q : VK) : Prop := ∀ H' q, Same H H' → H q = none → CustAt a.C H' q m → Q (.ref q) H'
theorem new_init {H H1 : Hp} {Q : VK} {E : XK} {m : Nat} {ws : List V} (e : Same H H1) (hm : m < 192) (hw : ws = (rowOf m).map V.str) (q : NewC a m H Q) :
    ∀ x dx, H1 x = none → H1 dx = none → dx ≠ x → spInit K a (.ref x :: (ws ++ [])) (upd (upd H1 dx (.own x)) x (.ins a.C dx [])) (fun v H2 => v = .non ∧ Q (.ref x) H2) E := by
  intro x dx hx hdx hne
  subst hw
  refine ⟨x, dx, .str (wAt m 0), .str (wAt m 1), .str (wAt m 2), .str (wAt m 3), .str (wAt m 4), rfl, upd_same, .inl ⟨m, hm, rfl, fun H' hb hc => ⟨rfl, q H' x (fun b o hz => ?_) (e.free hx) hc⟩⟩⟩
  have hz1 := e _ _ hz
  have n1 : b ≠ x := ne_of_none hz1 hx
  refine hb b o n1 ?_
  rw [upd_ne n1, upd_ne (ne_of_none hz1 hdx)]
  exact hz1
theorem clause_eq0 : ∀ i j : Fin 5, clauseAt i.val = clauseAt j.val → i = j := by decide +kernel
theorem clause_eq {i j : Nat} (hi : i < 5) (hj : j < 5) : clauseAt i = clauseAt j ↔ i = j := ⟨fun e => congrArg Fin.val (clause_eq0 ⟨i, hi⟩ ⟨j, hj⟩ e), fun e => by rw [e]⟩
theorem dec_str (x y : Str) : decide (V.str x = V.str y) = decide (x = y) := by
  by_cases e : x = y
  · subst e; simp
  · simp [e]
/-! Custom.changed -/
def spChanged (K : PySem.W.Frag) (a : Ad) : Sp := fun vs H Q E => ∃ (p : Addr) (n : Nat) (x y : V), vs = [.ref p, x, y] ∧ CustAt a.C H p n ∧
  ((∃ i s m, i < 5 ∧ x = .str (clauseAt i) ∧ y = .str s ∧ s ∈ menuAt i ∧ m < 192 ∧ rowOf m = (rowOf n).set i s ∧ NewC a m H Q) ∨
   (∃ i, i < 5 ∧ x = .str (clauseAt i) ∧ BadW K H i y ∧ Flies H a.B "what" (.str "word") E) ∨ (InW K H clauses x false ∧ Flies H a.B "what" (.str "clause") E))
theorem ok_changed (T : Tx K w mg a) {f fW fI : Addr} {fd fdW fdB fdI : FuncData} (F : Fun K "changed" "Custom.changed" s_Custom_changed f fd) (G_w : FnOk P w K mg base (L2.CX P w) 4 fW fdW ["clause"] (spWW K a)) (g_w : mg "words" = some (.ref fW)) (k_w : PySem.W.keepIn K (.ref fW) = true) (b_w : Binds K fdW ["clause"] [])
    (FB0 : Fun K "__init__" "BadClause.__init__" s_BadClause___init__ a.iB fdB) (bB : Binds K fdB ["self", "what"] []) (MC : Mk K a.C fI) (GI : FnOk P w K mg base (L2.CX P w) 3 fI fdI ["self", "untold", "joined", "sold", "kept", "ends"] (spInit K a)) (bI : Binds K fdI ["self", "untold", "joined", "sold", "kept", "ends"] []) (m_zip : mg "zip" = none) :
    FnOk P w K mg base (L2.CX P w) 5 f fd ["self", "clause", "word"] (spChanged K a) := by
  have FB : FnOk P w K mg base (L2.CX P w) 1 a.iB fdB ["self", "what"] (spX a.B "what") := ok_iB T FB0
  refine F.okX sc_Custom_changed (fun vs H Q E h => ?_) (fun cdv A outer s H vs Q E hr h => ?_)
  · obtain ⟨p, n, x, y, rfl, _⟩ := h
    rfl
  · obtain ⟨p, n, x, y, rfl, hc, h⟩ := h
    have hu1 := hu_of hr
    have hrx : Room (1 + 1) _ := hr.mono (by decide)
    refine ⟨_, (pss_cons (ps_if (pt_cmpR (op_notInW hu1) (pv 2) (pe_call G_w (hr.mono (by decide)) (by rfl) g_w k_w b_w .nil (passes_call (E := E) (takes_of rfl rfl rfl rfl) (fun _ _ _ _ h => h)) (pa_cons (pv 1) pa_nil)) (by with_unfolding_all rfl))
  (pss_one (ps_raise rfl (takes_of rfl rfl rfl rfl) (pmk_oex T.oxB T.iCB T.tIB FB hrx bB .nil passL (by rfl) T.gB (pa_cons pe_str pa_nil))))
  pss_nil)
 (pss_cons (ps_setLc (i := 3) (own := [("name", 4), ("old", 5)]) (g := gTup K 2 (gCons (gName 4) (gCons (gName 5) (gNil)))) (tt := tYes) rfl sc_Custom_changed.nd rfl rfl (sw_true rfl rfl rfl (by decide +kernel)) (RZ.pi_zipA (by rfl) m_zip (pa_cons (pe_glob (v := .ref _) rfl T.gCl rfl) (pa_cons (pe_fld (pv 0) rfl) pa_nil))) (blkOk_by (own := [("name", 4), ("old", 5)]) (N := N_Custom_changed) (sc := defScope s_Custom_changed) (by decide +kernel)) (fun _ _ _ _ _ => (pg_tup rfl (pgs_cons (pg_name (i := 4) sc_Custom_changed.nd rfl (by first | exact Or.inl rfl | exact Or.inr rfl)) (pgs_cons (pg_name (i := 5) sc_Custom_changed.nd rfl (by first | exact Or.inl rfl | exact Or.inr rfl)) pgs_nil)))) (fun _ _ _ _ _ => pts_nil) (fun _ _ _ _ _ => (pe_ifExp (pt_cmpR op_eq (pv 4) (pv 1) (nomark _)) (pv 2) (pv 5))))
 (pss_one (ps_ret (K7E.pe_makeS1 MC GI (hr.mono (by decide)) (by rfl) T.gC bI passL (pv 3)))))), ?_⟩
    rcases h with ⟨i, s, m, hi, rfl, rfl, sm, hm, er, q⟩ | ⟨i, hi, rfl, hb, q⟩ | ⟨hi, q⟩
    · obtain ⟨hn, dx, t, hp, ht⟩ := hc
      have hin : InW K H (menuAt i) (.str s) true := by
        rw [← decide_eq_true sm]
        exact .str s
      refine ⟨_, rfl, _, rfl, _, rfl, .inl ⟨i, hi, rfl, _, menuAt i, true, rfl, (T.tMn i hi).t _, hin, _, rfl, ?_⟩⟩
      refine ⟨.ref p, rfl, p, a.C, dx, _, _, rfl, hp, T.cl, T.nA _ (by decide), (custFs_look _ _ _).1, _, _, _, _, rfl, .inr ⟨T.tCl.t _, .inl (.inl ht), fun D hD => lc_it (K7E.walk_zipT (xs := clauses.map V.str) (ys := (rowOf n).map V.str) (n := 5) rfl rfl)
        (fun j H2 => Same H H2 ∧ H2 D = some (.lst ((((rowOf n).set i s).take j).map V.str))) ⟨same_new (Same.refl H) hD, upd_same⟩ (fun j H2 _ pv => ⟨T.tCl.t _, .inl (.inl (pv.1 _ _ ht))⟩) (fun j v H2 H3 hj pv hy => ?_) (fun H2 pv => ?_)⟩⟩
      · obtain ⟨e, hd⟩ := pv
        obtain ⟨Tt, c, o, rfl, nT, rfl, ec, eo⟩ := hy
        have ec' : (clauses.map V.str)[j]? = some c := ec
        have eo' : ((rowOf n).map V.str)[j]? = some o := eo
        rw [List.getElem?_map, clause_get hj] at ec'
        rw [List.getElem?_map, row_get hj] at eo'
        obtain rfl := Option.some.inj ec'
        obtain rfl := Option.some.inj eo'
        have e2 := same_new (o := .tup [.str (clauseAt j), .str (wAt n j)]) e nT
        have nD : D ≠ Tt := ne_of_none hd nT
        have hd2 : (upd H2 Tt (.tup [.str (clauseAt j), .str (wAt n j)])) D = some (.lst ((((rowOf n).set i s).take j).map V.str)) := by rw [upd_ne nD]; exact hd
        have fin : ∀ z : Str, ((rowOf n).set i s)[j]? = some z → ∃ acc, (upd H2 Tt (.tup [.str (clauseAt j), .str (wAt n j)])) D = some (.lst acc) ∧ acc.length < sizeLine ∧ (Same H (upd (upd H2 Tt (.tup [.str (clauseAt j), .str (wAt n j)])) D (.lst (acc ++ [.str z]))) ∧ (upd (upd H2 Tt (.tup [.str (clauseAt j), .str (wAt n j)])) D (.lst (acc ++ [.str z]))) D = some (.lst ((((rowOf n).set i s).take (j + 1)).map V.str))) := fun z hz => by
          refine ⟨_, hd2, ?_, fun b o hb => ?_, ?_⟩
          · rw [List.length_map, List.length_take]
            exact Nat.lt_of_le_of_lt (Nat.min_le_left _ _) (small1000 (by omega))
          · rw [upd_ne (ne_of_none hb hD)]
            exact e2 _ _ hb
          · rw [upd_same, List.take_add_one, hz, List.map_append]
            rfl
        refine ⟨Tt, _, rfl, .inl (.inl upd_same), rfl, _, _, rfl, _, _, rfl, rfl, rfl, ?_⟩
        refine ⟨_, rfl, _, rfl, rfl, _, rfl, ite2 (fun q1 => ?_) (fun q1 => ?_)⟩
        · rw [dec_str] at q1
          have ej : j = i := (clause_eq hj hi).mp (of_decide_eq_true q1)
          subst ej
          refine ⟨_, rfl, fin s ?_⟩
          rw [List.getElem?_set_self (by show j < 5; exact hj)]
        · rw [dec_str] at q1
          have ej : j ≠ i := fun z => q1 (decide_eq_true (by rw [z]))
          refine ⟨_, rfl, fin _ ?_⟩
          rw [List.getElem?_set_ne (fun z => ej z.symm), row_get hj]
      · obtain ⟨e, hd⟩ := pv
        refine ⟨_, rfl, _, _, rfl, .inr (.inl (.inl hd)), ?_⟩
        exact new_init e hm (by rw [er, List.take_of_length_le (by rw [List.length_set]; exact Nat.le_refl 5)]) q
    · refine ⟨_, rfl, _, rfl, _, rfl, .inl ⟨i, hi, rfl, _, menuAt i, false, rfl, (T.tMn i hi).t _, hb, _, rfl, ?_⟩⟩
      exact ⟨by show 1 ≤ 1000; decide, flies_go q⟩
    · exact ⟨_, rfl, _, rfl, _, rfl, .inr ⟨hi, q⟩⟩
/-! Custom.uses -/
def usesOf (n : Nat) (z : Str) : List V := Evl.given 5 (fun i => decide (wAt n i = z)) fun i => .str (clauseAt i)
def NewT (xs : List V) (H : Hp) (Q : VK) : Prop := ∀ H' q, Same H H' → H q = none → H' q = some (.tup xs) → Q (.ref q) H'
def spUses (a : Ad) : Sp := fun vs H Q _ => ∃ (p : Addr) (n : Nat) (z : Str), vs = [.ref p, .str z] ∧ CustAt a.C H p n ∧ NewT (usesOf n z) H Q
theorem ok_uses (T : Tx K w mg a) {f : Addr} {fd : FuncData} (F : Fun K "uses" "Custom.uses" s_Custom_uses f fd) (m_zip : mg "zip" = none) (m_tuple : mg "tuple" = none) : FnOk P w K mg base CX0 1 f fd ["self", "word"] (spUses a) := by
  refine F.ok sc_Custom_uses (fun vs H Q E h => ?_) (fun cdv A outer s H vs Q E hr h => ?_)
  · obtain ⟨p, n, z, rfl, _⟩ := h
    rfl
  · obtain ⟨p, n, z, rfl, ⟨hn, dx, t, hp, ht⟩, q⟩ := h
    refine ⟨_, (pss_one (ps_ret (pe_callTy call_tuple_of (by rfl) m_tuple boot_tuple (pa_cons (pe_lc (own := [("clause", 2), ("old", 3)]) (g := gTup K 2 (gCons (gName 2) (gCons (gName 3) (gNil)))) rfl sc_Custom_uses.nd (RZ.pi_zipA (by rfl) m_zip (pa_cons (pe_glob (v := .ref _) rfl T.gCl rfl) (pa_cons (pe_fld (pv 0) rfl) pa_nil))) (blkOk_by (own := [("clause", 2), ("old", 3)]) (N := N_Custom_uses) (sc := defScope s_Custom_uses) (by decide +kernel)) (fun _ _ _ _ _ => (pg_tup rfl (pgs_cons (pg_name (i := 2) sc_Custom_uses.nd rfl (by first | exact Or.inl rfl | exact Or.inr rfl)) (pgs_cons (pg_name (i := 3) sc_Custom_uses.nd rfl (by first | exact Or.inl rfl | exact Or.inr rfl)) pgs_nil)))) (fun _ _ _ _ _ => (pts_one (pt_cmpR op_eq (pv 3) (pv 1) (nomark _)))) (fun _ _ _ _ _ => (pv 2))) pa_nil)))), ?_⟩
    refine ⟨.ref p, rfl, p, a.C, dx, _, _, rfl, hp, T.cl, T.nA _ (by decide), (custFs_look _ _ _).1, _, _, _, _, rfl, .inr ⟨T.tCl.t _, .inl (.inl ht), fun D hD => lc_it (K7E.walk_zipT (xs := clauses.map V.str) (ys := (rowOf n).map V.str) (n := 5) rfl rfl)
      (fun j H2 => Same H H2 ∧ H2 D = some (.lst (Evl.given j (fun i => decide (wAt n i = z)) fun i => .str (clauseAt i)))) ⟨same_new (Same.refl H) hD, upd_same⟩ (fun j H2 _ pv => ⟨T.tCl.t _, .inl (.inl (pv.1 _ _ ht))⟩) (fun j v H2 H3 hj pv hy => ?_) (fun H2 pv => ?_)⟩⟩
    · obtain ⟨e, hd⟩ := pv
      obtain ⟨Tt, c, o, rfl, nT, rfl, ec, eo⟩ := hy
      have ec' : (clauses.map V.str)[j]? = some c := ec
      have eo' : ((rowOf n).map V.str)[j]? = some o := eo
      rw [List.getElem?_map, clause_get hj] at ec'
      rw [List.getElem?_map, row_get hj] at eo'
      obtain rfl := Option.some.inj ec'
      obtain rfl := Option.some.inj eo'
      have e2 := same_new (o := .tup [.str (clauseAt j), .str (wAt n j)]) e nT
      have nD : D ≠ Tt := ne_of_none hd nT
      refine ⟨Tt, _, rfl, .inl (.inl upd_same), rfl, _, _, rfl, _, _, rfl, rfl, rfl, ?_⟩
      refine ⟨_, rfl, _, rfl, rfl, _, rfl, ite2 (fun q1 => ?_) (fun q1 => ?_)⟩
      · rw [dec_str] at q1
        refine ⟨_, rfl, _, by rw [upd_ne nD]; exact hd, ?_, fun b o hb => ?_, ?_⟩
        · exact Nat.lt_of_le_of_lt (Evl.given_len _ _ _) (small1000 (by omega))
        · rw [upd_ne (ne_of_none hb hD)]
          exact e2 _ _ hb
        · rw [upd_same, Evl.given_yes (f := fun i => decide (wAt n i = z)) q1]
      · rw [dec_str] at q1
        refine ⟨e2, ?_⟩
        rw [upd_ne nD, Evl.given_no (f := fun i => decide (wAt n i = z)) (Bool.eq_false_iff.mpr q1)]
        exact hd
    · obtain ⟨e, hd⟩ := pv
      refine ⟨_, _, rfl, .inl ⟨.inl (.inl hd), fun l hl => q _ l (same_new e hl) (e.free hl) upd_same⟩⟩
/-! differences -/
def diffOf (n m : Nat) : List V := Evl.given 5 (fun i => !decide (wAt n i = wAt m i)) fun i => .str (clauseAt i)
def spDiff (a : Ad) : Sp := fun vs H Q _ => ∃ (p p2 : Addr) (n m : Nat), vs = [.ref p, .ref p2] ∧ CustAt a.C H p n ∧ CustAt a.C H p2 m ∧ NewT (diffOf n m) H Q
theorem ok_diff (T : Tx K w mg a) {f fW : Addr} {fd fdW : FuncData} (F : Fun K "differences" "differences" s_differences f fd) (mW : Meth K a.C "word" fW) (GW5 : FnOk P w K mg base (L2.CX P w) 4 fW fdW ["self", "clause"] (spWord K a)) (bW : Binds K fdW ["self", "clause"] []) (m_tuple : mg "tuple" = none) : FnOk P w K mg base (L2.CX P w) 6 f fd ["one", "other"] (spDiff a) := by
  refine F.okX sc_differences (fun vs H Q E h => ?_) (fun cdv A outer s H vs Q E hr h => ?_)
  · obtain ⟨p, p2, n, m, rfl, _⟩ := h
    rfl
  · obtain ⟨p, p2, n, m, rfl, c1, c2, q⟩ := h
    refine ⟨_, (pss_one (ps_ret (pe_callTy call_tuple_of (by rfl) m_tuple boot_tuple (pa_cons (pe_lc (own := [("clause", 2)]) (g := gName 2) rfl sc_differences.nd (pi_tup (pe_glob (v := .ref _) rfl T.gCl rfl)) (blkOk_by (own := [("clause", 2)]) (N := N_differences) (sc := defScope s_differences) (by decide +kernel)) (fun _ _ _ _ _ => (pg_name (i := 2) sc_differences.nd rfl (by first | exact Or.inl rfl | exact Or.inr rfl))) (fun _ _ _ _ _ => (pts_one (pt_cmpR op_ne (pe_meth (pv 0) T.cl mW GW5 (hr.mono (by decide)) bW .nil passL (pa_cons (pv 2) pa_nil)) (pe_meth (pv 1) T.cl mW GW5 (hr.mono (by decide)) bW .nil passL (pa_cons (pv 2) pa_nil)) (nomark _)))) (fun _ _ _ _ _ => (pv 2))) pa_nil)))), ?_⟩
    refine ⟨a.cl, rfl, ⟨_, T.tCl.t _⟩, fun D hD => lc_tup (xs := clauses.map V.str) (fun j H2 => Same H H2 ∧ H2 D = some (.lst (Evl.given j (fun i => !decide (wAt n i = wAt m i)) fun i => .str (clauseAt i)))) ⟨same_new (Same.refl H) hD, upd_same⟩ (fun j H2 _ pv => T.tCl.t _) (fun j v H2 hv pv => ?_) (fun H2 pv => ?_)⟩
    · obtain ⟨e, hd⟩ := pv
      have hj : j < 5 := (List.getElem?_eq_some_iff.mp hv).1
      rw [List.getElem?_map, clause_get hj] at hv
      obtain rfl := Option.some.inj hv
      obtain ⟨hn, dx, t, hp, ht⟩ := id (c1.same e)
      obtain ⟨hm, dy, u, hp2, hu⟩ := id (c2.same e)
      refine ⟨rfl, .ref p, rfl, p, dx, _, rfl, hp, (custFs_meth _ _ _).1, _, rfl, p, n, _, rfl, c1.same e, .inl ⟨j, hj, rfl, ?_⟩⟩
      refine ⟨.ref p2, rfl, p2, dy, _, rfl, hp2, (custFs_meth _ _ _).1, _, rfl, p2, m, _, rfl, c2.same e, .inl ⟨j, hj, rfl, rfl, _, rfl, ite2 (fun q1 => ?_) (fun q1 => ?_)⟩⟩
      · rw [dec_str] at q1
        refine ⟨_, rfl, _, hd, ?_, fun b o hb => ?_, ?_⟩
        · exact Nat.lt_of_le_of_lt (Evl.given_len _ _ _) (small1000 (by omega))
        · rw [upd_ne (ne_of_none hb hD)]
          exact e _ _ hb
        · rw [upd_same, Evl.given_yes (f := fun i => !decide (wAt n i = wAt m i)) q1]
      · rw [dec_str] at q1
        refine ⟨e, ?_⟩
        rw [Evl.given_no (f := fun i => !decide (wAt n i = wAt m i)) (Bool.eq_false_iff.mpr q1)]
        exact hd
    · obtain ⟨e, hd⟩ := pv
      refine ⟨_, _, rfl, .inl ⟨.inl (.inl hd), fun l hl => q _ l (same_new e hl) (e.free hl) upd_same⟩⟩
/-! custom_at -/
theorem back_all : ∀ n : Fin 192, ∀ i : Fin 5, n.val / dv (5 - i.val) % (menuAt (4 - i.val)).length = ixAt n.val (4 - i.val) ∧ n.val / dv (5 - i.val) / (menuAt (4 - i.val)).length = n.val / dv (4 - i.val) ∧ (menuAt (4 - i.val))[ixAt n.val (4 - i.val)]? = some (wAt n.val (4 - i.val)) ∧
    (rowOf n.val).drop (4 - i.val) = wAt n.val (4 - i.val) :: (rowOf n.val).drop (5 - i.val) ∧ 0 < (menuAt (4 - i.val)).length := by decide +kernel
def spCat (a : Ad) : Sp := fun vs H Q E => ∃ x : V, vs = [x] ∧ ((∃ n : Nat, n < 192 ∧ x = .int n ∧ NewC a n H Q) ∨ (Flat4 x ∧ wholeV x 0 191 = false ∧ Flies H a.N "number" x E))
theorem ok_cat (T : Tx K w mg a) {tM : Tok} (gM : mg "MOST_CUSTOMS" = some (.int 192 tM)) {f fW fI : Addr} {fd fdW fdN fdI : FuncData} (F : Fun K "custom_at" "custom_at" s_custom_at f fd) (GW : FnOk P w K mg base CX0 1 fW fdW ["thing", "low", "high"] spWhole) (gW : mg "is_whole" = some (.ref fW)) (kW : PySem.W.keepIn K (.ref fW) = true) (bW : Binds K fdW ["thing", "low", "high"] [])
    (FN0 : Fun K "__init__" "BadNumber.__init__" s_BadNumber___init__ a.iN fdN) (bN : Binds K fdN ["self", "number"] []) (MC : Mk K a.C fI) (GI : FnOk P w K mg base (L2.CX P w) 3 fI fdI ["self", "untold", "joined", "sold", "kept", "ends"] (spInit K a)) (bI : Binds K fdI ["self", "untold", "joined", "sold", "kept", "ends"] []) (m_reversed : mg "reversed" = none) (m_len : mg "len" = none) :
    FnOk P w K mg base (L2.CX P w) 5 f fd ["number"] (spCat a) := by
  have FN : FnOk P w K mg base (L2.CX P w) 1 a.iN fdN ["self", "number"] (spX a.N "number") := ok_iN T FN0
  refine F.okX sc_custom_at (fun vs H Q E h => ?_) (fun cdv A outer s H vs Q E hr h => ?_)
  · obtain ⟨x, rfl, _⟩ := h
    rfl
  · obtain ⟨x, rfl, h⟩ := h
    have hrx : Room (1 + 1) _ := hr.mono (by decide)
    refine ⟨_, (pss_cons (ps_if (pt_not (pt_val (pe_call GW (hr.mono (by decide)) (by rfl) gW kW bW .nil pass0 (pa_cons (pv 0) (pa_cons pe_int (pa_cons (pe_op op_sub (pe_glob (v := .int 192) rfl gM ⟨_, rfl⟩) pe_int) pa_nil))))))
  (pss_one (ps_raise rfl (takes_of rfl rfl rfl rfl) (pmk_oex T.oxN T.iCN T.tIN FN hrx bN .nil passL (by rfl) T.gN (pa_cons (pv 0) pa_nil))))
  pss_nil)
 (pss_cons (ps_set (i := 1) sc_custom_at.nd rfl (by first | exact Or.inl rfl | exact Or.inr rfl) (pe_lst pa_nil))
 (pss_cons (ps_set (i := 2) sc_custom_at.nd rfl (by first | exact Or.inl rfl | exact Or.inr rfl) (pv 0))
 (pss_cons (ps_for (passes_of rfl) rfl (RT.pi_revA (by rfl) m_reversed (pe_glob (v := .ref _) rfl T.gCl rfl)) (pg_name (i := 3) sc_custom_at.nd rfl (by first | exact Or.inl rfl | exact Or.inr rfl))
  (pss_cons (ps_set (i := 4) sc_custom_at.nd rfl (by first | exact Or.inl rfl | exact Or.inr rfl) (pe_callB call_len_seq (by rfl) m_len boot_len (pa_cons (pe_ix ix_kdict (pe_glob (v := .ref _) rfl T.gWd rfl) (pv 3) (fun _ _ => rfl)) pa_nil)))
 (pss_cons (ps_set (i := 1) sc_custom_at.nd rfl (by first | exact Or.inl rfl | exact Or.inr rfl) (pe_op op_cat (pe_lst (pa_cons (pe_ix ix_tup (pe_ix ix_kdict (pe_glob (v := .ref _) rfl T.gWd rfl) (pv 3) (fun _ _ => rfl)) (pe_op op_mod (pv 2) (pv 4)) (fun _ _ => rfl)) pa_nil)) (pv 1)))
 (pss_one (ps_set (i := 2) sc_custom_at.nd rfl (by first | exact Or.inl rfl | exact Or.inr rfl) (pe_op op_fdiv (pv 2) (pv 4)))))))
 (pss_one (ps_ret (K7E.pe_makeS1 MC GI (hr.mono (by decide)) (by rfl) T.gC bI passL (pv 1)))))))), ?_⟩
    rcases h with ⟨n, hn, rfl, q⟩ | ⟨hf, hw, q⟩
    · have ew : wholeV (.int n) 0 191 = true := by
        rw [wholeV_int]
        simp
        omega
      refine ⟨_, rfl, _, _, rfl, rfl, _, 0, 191, rfl, .int _, _, rfl, ?_⟩
      rw [ew]
      refine ⟨by show 0 ≤ sizeLine; decide, fun r hrn => ?_⟩
      refine ⟨_, rfl, a.cl, _, rfl, .inr ⟨T.tCl.t _, RT.for_ItvT (xs := clauses.map V.str) (fun i σ H' => ∃ r y3 y4, σ = [some (.int (n : Int)), some (.ref r), some (.int ((n / dv (5 - i) : Nat) : Int)), y3, y4] ∧ Same H H' ∧ H' r = some (.lst (((rowOf n).drop (5 - i)).map V.str))) ⟨r, none, none, ?_, same_new (Same.refl H) hrn, upd_same⟩ (fun i σ H' _ => T.tCl.t _) (fun i v σ H' hi hv pv => ?_) (fun σ H' pv => ?_)⟩⟩
      · show [some (V.int (n : Int)), some (.ref r), some (.int (n : Int)), none, none] = [some (V.int (n : Int)), some (.ref r), some (.int ((n / 1 : Nat) : Int)), none, none]
        rw [Nat.div_one]
      · obtain ⟨r', y3, y4, rfl, e, hr'⟩ := pv
        have hi5 : i < 5 := hi
        have h4 : 4 - i < 5 := by omega
        have hv' : v = .str (clauseAt (4 - i)) := by
          have hv2 : (clauses.map V.str)[4 - i]? = some v := hv
          rw [List.getElem?_map, clause_get h4] at hv2
          exact (Option.some.inj hv2).symm
        subst hv'
        obtain ⟨b1, b2, b3, b4, b5⟩ := back_all ⟨n, hn⟩ ⟨i, hi5⟩
        have b1' : n / dv (5 - i) % (menuAt (4 - i)).length = ixAt n (4 - i) := b1
        have b2' : n / dv (5 - i) / (menuAt (4 - i)).length = n / dv (4 - i) := b2
        have b3' : (menuAt (4 - i))[ixAt n (4 - i)]? = some (wAt n (4 - i)) := b3
        have b4' : (rowOf n).drop (4 - i) = wAt n (4 - i) :: (rowOf n).drop (5 - i) := b4
        have b5' : 0 < (menuAt (4 - i)).length := b5
        have hlen : ((menuAt (4 - i)).map V.str).length = (menuAt (4 - i)).length := List.length_map ..
        have hl4 : (menuAt (4 - i)).length ≤ 4 := (menu_nodup ⟨4 - i, h4⟩).2
        refine ⟨_, rfl, _, _, _, rfl, rfl, T.kWd _ h4, _, _, rfl, .inr ((T.tMn _ h4).t _), ?_⟩
        refine ⟨_, rfl, _, _, _, rfl, rfl, T.kWd _ h4, _, rfl, _, rfl, _, _, rfl, rfl, by omega, _, _, _, .str (wAt n (4 - i)), rfl, rfl, (T.tMn _ h4).t _, ?_, by show 1 ≤ sizeLine; decide, fun l hl => ?_⟩
        · rw [hlen, show ((n / dv (5 - i) : Nat) : Int) % ((menuAt (4 - i)).length : Int) = ((ixAt n (4 - i) : Nat) : Int) by rw [← b1']; simp]
          exact atI_nat (by rw [List.getElem?_map, b3']; rfl)
        · have nr : r' ≠ l := ne_of_none hr' hl
          refine ⟨_, rfl, _, _, _, _, rfl, rfl, upd_same, by rw [upd_ne nr]; exact hr', ?_, fun p2 np => ?_⟩
          · rw [List.length_map, List.length_drop]
            exact Nat.le_trans (show [V.str (wAt n (4 - i))].length + ((rowOf n).length - (5 - i)) ≤ 6 by show 1 + (5 - (5 - i)) ≤ 6; omega) (by decide)
          · refine ⟨_, rfl, _, rfl, _, _, rfl, rfl, ⟨by omega, by omega⟩, p2, some (.str (clauseAt (4 - i))), some (.int (((menuAt (4 - i)).map V.str).length : Nat)), ?_, same_new (same_new e hl) np, ?_⟩
            · have ed : ((n / dv (5 - i) : Nat) : Int) / (((menuAt (4 - i)).map V.str).length : Int) = ((n / dv (5 - (i + 1)) : Nat) : Int) := by
                rw [hlen, show 5 - (i + 1) = 4 - i by omega, ← b2']
                simp
              rw [← ed]
              rfl
            · rw [upd_same, show 5 - (i + 1) = 4 - i by omega, b4']
              rfl
      · obtain ⟨r', y3, y4, rfl, e, hr'⟩ := pv
        refine ⟨_, rfl, _, _, rfl, .inr (.inl (.inl hr')), ?_⟩
        exact new_init e hn rfl q
    · refine ⟨_, rfl, _, _, rfl, rfl, _, 0, 191, rfl, hf, _, rfl, ?_⟩
      rw [hw]
      exact ⟨_, rfl, by show 1 ≤ 1000; decide, flies_go q⟩
end
end K7
end
/-! ## E5 -/
section
namespace K7E
open PySem PySem.Spec PyProof.Rows L2
/-! a call under try: what it lets out is asked for where it stands -/
section
variable {X : Cx} {W : WX} {k : Nat} {f C : Addr} {fd : FuncData} {ps : List Str} {sp : Sp} {dvs : List V} {ds : List Value} {x m : Str} {p pos apos : Pos} {e o : Expr} {es : List Expr} {ta : TE} {t : TA}
theorem run_fnW {pins : List (Addr × Obj)} {σ : L2.St} {H : Hp} {s : Shared} {Q : VK} {us : List Value} {vs : List V} (F : FnOk X.prog X.w X.K X.mg X.base (L2.CX X.prog X.w) k f fd ps sp) (hr : Room k X.A) (hb : Binds X.K fd ps ds) (hd : Vals dvs ds) (tk : Takes X W)
    (I : Inv X pins σ H s) (r : Vals vs us) (h : sp (vs ++ dvs) H Q (fun cls d H' => W cls d σ H')) : wpAny (model X.prog X.w) X.A (call (.ref f) us) (EP X pins σ Q) X.xe s := by
  have r2 : Vals (vs ++ dvs) (us ++ ds) := r.append hd
  have hl : (us ++ ds).length = ps.length := by rw [← r2.length]; exact F.len _ _ _ _ h
  refine wpAny_call (codeAny_mono (F.run X.A X.stack s H ⟨us, []⟩ (us ++ ds) (vs ++ dvs) Q _ hr I.env0 (hb s us I.kIn hl) r2 h) fun r s' hq => ?_)
  cases r with
  | error e => exact tk e s' (XE.of_call (E := fun cls d H' => W cls d σ H') I (fun cls d H' h => h) hq)
  | ok fl =>
    cases fl with
    | ret u => exact I.after hq
    | next => exact False.elim hq
    | brk => exact False.elim hq
    | cont => exact False.elim hq
theorem pe_callW (F : FnOk X.prog X.w X.K X.mg X.base (L2.CX X.prog X.w) k f fd ps sp) (hr : Room k X.A) (hg : Gl X x) (hm : X.mg x = some (.ref f)) (hk : PySem.W.keepIn X.K (.ref f) = true) (hb : Binds X.K fd ps ds) (hd : Vals dvs ds) (tk : Takes X W)
    (ha : PA X (e :: es) t) (hdb : (x == ("__debug__" : Str)) = false := by decide) (he : starEach (e :: es) X.env = (false, eval e X.env) :: starEach es X.env := by rfl) (hpl : (backTo pos (starEach es X.env)).any (·.1) = false := by rfl) :
    PE X (.Call (.Name x p) (e :: es) [] pos) (fun σ H Q => t σ H fun vs H1 => sp (vs ++ dvs) H1 Q (fun cls d H' => W cls d σ H')) := by
  refine ⟨fun pins s σ H Q I h => ?_⟩
  refine wpAny_Call_Name_kw (ld_glob I hg hm ?_ hdb)
  refine PySem.W.callWith_K (h₀ := X.base) I.ok.mod.kin hk (thn (ha.run pos pins s σ H _ I h) fun us s1 ⟨vs, H1, I1, r, q⟩ => ⟨I1.kIn, ?_⟩) he hpl
  exact run_fnW F hr hb hd tk I1 r q
theorem pe_methW {pl : Sem Bool} (he : PE X o ta) (c : Cls X.K C) (hm : Meth X.K C m f) (F : FnOk X.prog X.w X.K X.mg X.base (L2.CX X.prog X.w) k f fd ps sp) (hr : Room k X.A) (hb : Binds X.K fd ps ds) (hd : Vals dvs ds) (tk : Takes X W) (ha : PA X (e :: es) t)
    (hst : starEach (e :: es) X.env = (false, eval e X.env) :: starEach es X.env := by rfl) (hpl : (backTo pos (starEach es X.env)).any (·.1) = false := by rfl)
    (ht : eval (.Call (.Attribute o m apos) (e :: es) [] pos) X.env = (do
      let ov ← eval o X.env
      standAt apos.atName
      let (f, first) ← holding [ov] (getMethod ov m pl)
      callWith pos f first (backTo pos (starEach (e :: es) X.env)) (backToKw pos (keywordEach [] X.env))) := by rfl) :
    PE X (.Call (.Attribute o m apos) (e :: es) [] pos) (fun σ H Q => ta σ H fun x H1 => ∃ a dx fs, x = .ref a ∧ H1 a = some (.ins C dx fs) ∧ fs.lookup m = none ∧
      t σ H1 fun vs H2 => sp (x :: (vs ++ dvs)) H2 Q (fun cls d H' => W cls d σ H')) := by
  refine ⟨fun pins s σ H Q I h => ?_⟩
  refine PySem.W.methodCall_KW (pl := pl) (thn (he.run pins s σ H _ I h) fun u s1 ⟨x, H1, I1, rx, a, dx, fs, ex, ea, l, q⟩ => ?_) ht
  subst ex
  obtain rfl : u = Value.ref a := rx
  refine getmeth_ok I1 ea c hm l ?_
  refine PySem.W.callWith_K (first := [.ref a]) (h₀ := X.base) I.ok.mod.kin hm.kp (thn (ha.run pos pins s1 σ H1 _ I1 q) fun us s2 ⟨vs, H2, I2, r, q2⟩ => ⟨I2.kIn, ?_⟩) hst hpl
  exact run_fnW (us := .ref a :: us) (vs := .ref a :: vs) F hr hb hd tk I2 (.cons rfl r) q2
end
/-! repr of a plain thing -/
def reprV : V → Str
  | .non => "None"
  | .bl b => if b then "True" else "False"
  | .int i => toString i
  | .str z => reprText z
  | _ => ""
def reprOk : V → Prop
  | .non => True
  | .bl b => True
  | .int i => i.natAbs.log2 < 1920
  | .str z => (reprText z).length ≤ sizeLine
  | _ => False
theorem call_reprF {X : Cx} : CallR X (.builtin "repr") (fun xs H Q => ∃ v, xs = [v] ∧ reprOk v ∧ Q (.str (reprV v)) H) := by
  intro pins s σ H xs us Q I r h
  obtain ⟨v, rfl, hz, q⟩ := h
  obtain ⟨u, rfl, ru⟩ := r.one
  cases v with
  | non => cases ru; exact PySem.P.repr_of_none ⟨.str _, H, I.tok _, ⟨_, rfl⟩, q⟩
  | bl b => cases ru; exact PySem.P.repr_of_bool ⟨.str _, H, I.tok _, ⟨_, rfl⟩, q⟩
  | int i => obtain ⟨t, rfl⟩ := ru; exact PySem.P.repr_of_int hz ⟨.str _, H, I.tok _, ⟨_, rfl⟩, q⟩
  | str z => obtain ⟨t, rfl⟩ := ru; exact PySem.P.repr_of_str ⟨.str _, H, I.tok _, ⟨_, rfl⟩, q⟩ hz
  | _ => exact hz.elim
end K7E
end
/-! ## P5 -/
section
open PySem PySem.Spec PyProof.Rows L2
namespace K7E
theorem call_isEdX {X : Cx} {a D : Addr} {cls : Value} {d : Option Addr} {oe : Obj} {pn : List (Addr × Obj)} (C : ExcC X.K D) (hz : Zc cls d oe) (hf : ∃ vs, oe.data = .fields vs) : CallR (X.suite a ((a, oe) :: pn)) (.builtin "isinstance") (fun xs H Q => cls = .ref D ∧ ∃ dd, d = some dd ∧ ∃ (c : V) (cv : Value) (b : Bool) (fs : List (Str × V)), xs = [.ref a, c] ∧ (∀ u, RelV c u → u = cv) ∧ PySem.W.kitOne X.K (.ref D) cv = some b ∧ H dd = some (.xd fs) ∧ Q (.bl b) H) := by
  intro pins s σ H xs us Q I r h
  obtain ⟨rfl, dd, rfl, h⟩ := h
  exact call_isEd C hz hf pins s σ H xs us Q I r h
end K7E
namespace K7
abbrev N__law_words : List Str := ["_law_side"]
abbrev s__law_words : Stmt := topS 22
theorem sc__law_words : FnScope ["_law_side"] [] (defScope s__law_words) := ⟨rfl, rfl, rfl, by decide +kernel, rfl, by decide +kernel, by decide +kernel⟩

abbrev N__law_row : List Str := ["_law_number_here", "_law_rest", "_law_row_here", "_law_menu"]
abbrev s__law_row : Stmt := topS 23
theorem sc__law_row : FnScope ["_law_number_here", "_law_rest", "_law_row_here", "_law_menu"] ["_law_number_here"] (defScope s__law_row) := ⟨rfl, rfl, rfl, by decide +kernel, rfl, by decide +kernel, by decide +kernel⟩

abbrev N__law_number : List Str := ["_law_row_here", "_law_total", "_law_place", "_law_menu"]
abbrev s__law_number : Stmt := topS 24
theorem sc__law_number : FnScope ["_law_row_here", "_law_total", "_law_place", "_law_menu"] ["_law_row_here"] (defScope s__law_number) := ⟨rfl, rfl, rfl, by decide +kernel, rfl, by decide +kernel, by decide +kernel⟩

abbrev N__law_custom_of : List Str := ["_law_row_here"]
abbrev s__law_custom_of : Stmt := topS 25
theorem sc__law_custom_of : FnScope ["_law_row_here"] ["_law_row_here"] (defScope s__law_custom_of) := ⟨rfl, rfl, rfl, by decide +kernel, rfl, by decide +kernel, by decide +kernel⟩

abbrev N__law_refused : List Str := ["_law_row_here", "_law_told", "_law_made", "e"]
abbrev s__law_refused : Stmt := topS 26
theorem sc__law_refused : FnScope ["_law_row_here", "_law_told", "_law_made", "e"] ["_law_row_here"] (defScope s__law_refused) := ⟨rfl, rfl, rfl, by decide +kernel, rfl, by decide +kernel, by decide +kernel⟩

abbrev N__law_clause_refused : List Str := ["_law_sort", "_law_custom", "_law_clause", "_law_word", "_law_told", "_law_answer", "e"]
abbrev s__law_clause_refused : Stmt := topS 27
theorem sc__law_clause_refused : FnScope ["_law_sort", "_law_custom", "_law_clause", "_law_word", "_law_told", "_law_answer", "e"] ["_law_sort", "_law_custom", "_law_clause", "_law_word"] (defScope s__law_clause_refused) := ⟨rfl, rfl, rfl, by decide +kernel, rfl, by decide +kernel, by decide +kernel⟩

abbrev N__law_number_refused : List Str := ["_law_number_here", "_law_told", "_law_made", "e"]
abbrev s__law_number_refused : Stmt := topS 28
theorem sc__law_number_refused : FnScope ["_law_number_here", "_law_told", "_law_made", "e"] ["_law_number_here"] (defScope s__law_number_refused) := ⟨rfl, rfl, rfl, by decide +kernel, rfl, by decide +kernel, by decide +kernel⟩

/-! ### the menus in a list -/
def MenusAt (H : Hp) (r : Addr) : Prop := ∃ ls : List Addr, ls.length = 5 ∧ H r = some (.lst (ls.map V.ref)) ∧ ∀ i < 5, ∃ l, ls[i]? = some l ∧ H l = some (.lst ((menuAt i).map V.str))
theorem MenusAt.same {H H' : Hp} {r : Addr} (h : MenusAt H r) (e : Same H H') : MenusAt H' r := by
  obtain ⟨ls, h1, h2, h3⟩ := h
  exact ⟨ls, h1, e _ _ h2, fun i hi => let ⟨l, e1, e2⟩ := h3 i hi; ⟨l, e1, e _ _ e2⟩⟩
section
variable {P : Program} {w : World} {K : PySem.W.Frag} {mg : Str → Option Value} {base : Heap} {a : Ad}
def spMenus : Sp := fun vs H Q _ => vs = [] ∧ ∀ H' r, Same H H' → H r = none → MenusAt H' r → Q (.ref r) H'
theorem ok_menus {f : Addr} {fd : FuncData} (F : Fun K "_law_words" "_law_words" s__law_words f fd) : FnOk P w K mg base CX0 1 f fd [] spMenus := by
  refine F.ok sc__law_words (fun vs H Q E h => ?_) (fun cdv A outer s H vs Q E hr h => ?_)
  · obtain ⟨rfl, _⟩ := h
    rfl
  · obtain ⟨rfl, q⟩ := h
    refine ⟨_, (pss_cons (ps_set (i := 0) sc__law_words.nd rfl (by first | exact Or.inl rfl | exact Or.inr rfl) (pe_lst (pa_cons pe_str (pa_cons pe_str (pa_cons pe_str (pa_cons pe_str pa_nil))))))
 (pss_one (ps_ret (pe_lst (pa_cons (pe_lst (pa_cons pe_str (pa_cons pe_str (pa_cons pe_str pa_nil)))) (pa_cons (pe_lst (pa_cons pe_str (pa_cons pe_str pa_nil))) (pa_cons (pv 0) (pa_cons (pv 0) (pa_cons (pe_lst (pa_cons pe_str (pa_cons pe_str pa_nil))) pa_nil))))))))), ?_⟩
    refine ⟨by show 4 ≤ sizeLine; decide, fun l2 n2 => ⟨by show 3 ≤ sizeLine; decide, fun l0 n0 => ⟨by show 2 ≤ sizeLine; decide, fun l1 n1 => ⟨_, rfl, _, rfl, by show 2 ≤ sizeLine; decide, fun l4 n4 => ⟨by show 5 ≤ sizeLine; decide, fun r nr => ?_⟩⟩⟩⟩⟩
    have e0 := same_new (Same.refl H) n2 (o := .lst [.str "none", .str "all", .str "beside", .str "need"])
    have e1 := same_new (Same.refl _) n0 (o := .lst [.str "stay", .str "die", .str "needed stay"])
    have e2 := same_new (Same.refl _) n1 (o := .lst [.str "die", .str "sleep"])
    have e3 := same_new (Same.refl _) n4 (o := .lst [.str "never", .str "free"])
    have e4 := same_new (Same.refl _) nr (o := .lst [.ref l0, .ref l1, .ref l2, .ref l2, .ref l4])
    have g4 := e4
    have g3 := e3.trans g4
    have g2 := e2.trans g3
    have g1 := e1.trans g2
    refine q _ r (e0.trans g1) ((e0.trans (e1.trans (e2.trans e3))).free nr) ⟨[l0, l1, l2, l2, l4], rfl, upd_same, fun i hi => ?_⟩
    match i, hi with
    | 0, _ => exact ⟨l0, rfl, g2 _ _ upd_same⟩
    | 1, _ => exact ⟨l1, rfl, g3 _ _ upd_same⟩
    | 2, _ => exact ⟨l2, rfl, g1 _ _ upd_same⟩
    | 3, _ => exact ⟨l2, rfl, g1 _ _ upd_same⟩
    | 4, _ => exact ⟨l4, rfl, g4 _ _ upd_same⟩
/-! a row -/
def NewL (xs : List V) (H : Hp) (Q : VK) : Prop := ∀ H' q, Same H H' → H q = none → H' q = some (.lst xs) → Q (.ref q) H'
def spRow : Sp := fun vs H Q _ => ∃ n : Nat, vs = [.int n] ∧ n < 192 ∧ NewL ((rowOf n).map V.str) H Q
theorem back_row : ∀ n : Fin 192, ∀ i : Fin 5, (rowOf n.val).reverse.take (i.val + 1) = (rowOf n.val).reverse.take i.val ++ [wAt n.val (4 - i.val)] := by decide +kernel
theorem ok_row {f fL : Addr} {fd fdL : FuncData} (F : Fun K "_law_row" "_law_row" s__law_row f fd) (G_lw : FnOk P w K mg base CX0 1 fL fdL [] spMenus) (g_lw : mg "_law_words" = some (.ref fL)) (k_lw : PySem.W.keepIn K (.ref fL) = true) (b_lw : Binds K fdL [] []) (m_reversed : mg "reversed" = none) (m_int : mg "int" = none) (m_len : mg "len" = none) :
    FnOk P w K mg base CX0 2 f fd ["_law_number_here"] spRow := by
  refine F.ok sc__law_row (fun vs H Q E h => ?_) (fun cdv A outer s H vs Q E hr h => ?_)
  · obtain ⟨n, rfl, _⟩ := h
    rfl
  · obtain ⟨n, rfl, hn, q⟩ := h
    refine ⟨_, (pss_cons (ps_set (i := 1) sc__law_row.nd rfl (by first | exact Or.inl rfl | exact Or.inr rfl) (pv 0))
 (pss_cons (ps_set (i := 2) sc__law_row.nd rfl (by first | exact Or.inl rfl | exact Or.inr rfl) (pe_lst pa_nil))
 (pss_cons (ps_for PassesOwn.never rfl (RT.pi_revA (by rfl) m_reversed (pe_call0 G_lw (hr.mono (by decide)) (by rfl) g_lw k_lw b_lw .nil pass0)) (pg_name (i := 3) sc__law_row.nd rfl (by first | exact Or.inl rfl | exact Or.inr rfl))
  (pss_cons (ps_expr (pe_bm PySem.F.plainAttrs_list PySem.F.slot_list_append PySem.F.type_list_append mt_append (pv 2) (pa_cons (pe_ix ix_list (pv 3) (pe_op op_mod (pe_callTy call_int1 (by rfl) m_int boot_int (pa_cons (pv 1) pa_nil)) (pe_callB call_len_seq (by rfl) m_len boot_len (pa_cons (pv 3) pa_nil))) (fun _ _ => rfl)) pa_nil)))
 (pss_one (ps_set (i := 1) sc__law_row.nd rfl (by first | exact Or.inl rfl | exact Or.inr rfl) (pe_op op_fdiv (pv 1) (pe_callB call_len_seq (by rfl) m_len boot_len (pa_cons (pv 3) pa_nil)))))))
 (pss_one (ps_ret (pe_revL (pv 2))))))), ?_⟩
    refine ⟨_, rfl, by show 0 ≤ sizeLine; decide, fun D hD => ?_⟩
    refine ⟨rfl, fun H1 r e1 nr hm => ⟨_, _, rfl, .inl ⟨.inl (.inl hm.choose_spec.2.1), ?_⟩⟩⟩
    obtain ⟨ls, hl5, hr5, hms⟩ := id hm
    have hms' : ∀ i < 5, ∃ l, hm.choose[i]? = some l ∧ H1 l = some (.lst ((menuAt i).map V.str)) := hm.choose_spec.2.2
    have hle : hm.choose.length = 5 := hm.choose_spec.1
    have hrr := hm.choose_spec.2.1
    generalize hm.choose = ls at hms' hle hrr ⊢
    have e0 : Same H H1 := (same_new (Same.refl H) hD).trans e1
    have hD1 : H1 D = some (.lst []) := e1 _ _ upd_same
    refine RT.for_Itv (xs := ls.map V.ref) (fun i σ H' => ∃ y3, σ = [some (.int (n : Int)), some (.int ((n / dv (5 - i) : Nat) : Int)), some (.ref D), y3] ∧ H' D = some (.lst (((rowOf n).reverse.take i).map V.str)) ∧ (∀ b, b ≠ D → H' b = H1 b)) ⟨none, ?_, hD1, fun _ _ => rfl⟩ (fun i σ H' pv => ?_) (fun i v σ H' hi hv pv => ?_) (fun σ H' pv => ?_)
    · show [some (V.int (n : Int)), some (.int (n : Int)), some (.ref D), none] = [some (V.int (n : Int)), some (.int ((n / 1 : Nat) : Int)), some (.ref D), none]
      rw [Nat.div_one]
    · obtain ⟨y3, rfl, hd, hb⟩ := pv
      have hrD : r ≠ D := fun z => by rw [z, hD1] at hrr; cases (List.map_eq_nil_iff.mp (by injection hrr with h; injection h with h; exact h.symm)); simp at hle
      exact .inl (.inl (by rw [hb r hrD]; exact hrr))
    · obtain ⟨y3, rfl, hd, hb⟩ := pv
      have hi5 : i < 5 := by rw [List.length_map, hle] at hi; exact hi
      have h4 : 4 - i < 5 := by omega
      obtain ⟨l, el, hl⟩ := hms' (4 - i) h4
      have hv' : v = .ref l := by
        rw [List.length_map, hle, List.getElem?_map, el] at hv
        exact (Option.some.inj hv).symm
      subst hv'
      have hlD : l ≠ D := fun z => by
        rw [z, hD1] at hl
        have hl2 : (menuAt (4 - i)).map V.str = [] := by injection hl with h; injection h with h; exact h.symm
        have b5 := (back_all ⟨n, hn⟩ ⟨i, hi5⟩).2.2.2.2
        have b5' : 0 < (menuAt (4 - i)).length := b5
        rw [List.map_eq_nil_iff.mp hl2] at b5'
        cases b5'
      have hl' : H' l = some (.lst ((menuAt (4 - i)).map V.str)) := by rw [hb l hlD]; exact hl
      obtain ⟨b1, b2, b3, b4, b5⟩ := back_all ⟨n, hn⟩ ⟨i, hi5⟩
      have b1' : n / dv (5 - i) % (menuAt (4 - i)).length = ixAt n (4 - i) := b1
      have b2' : n / dv (5 - i) / (menuAt (4 - i)).length = n / dv (4 - i) := b2
      have b3' : (menuAt (4 - i))[ixAt n (4 - i)]? = some (wAt n (4 - i)) := b3
      have b5' : 0 < (menuAt (4 - i)).length := b5
      have hlen : ((menuAt (4 - i)).map V.str).length = (menuAt (4 - i)).length := List.length_map ..
      have hl4 : (menuAt (4 - i)).length ≤ 4 := (menu_nodup ⟨4 - i, h4⟩).2
      have br : (rowOf n).reverse.take (i + 1) = (rowOf n).reverse.take i ++ [wAt n (4 - i)] := back_row ⟨n, hn⟩ ⟨i, hi5⟩
      refine ⟨_, rfl, .inl ⟨rfl, _, .inl (.inl hd)⟩, _, rfl, _, rfl, .inl ⟨_, rfl, _, rfl, _, _, rfl, .inl (.inl (.inl hl')), _, _, rfl, rfl, by omega, _, _, _, .str (wAt n (4 - i)), rfl, rfl, .inl (.inl hl'), ?_, D, _, _, rfl, rfl, hd, ?_, ?_⟩⟩
      · rw [hlen, show ((n / dv (5 - i) : Nat) : Int) % ((menuAt (4 - i)).length : Int) = ((ixAt n (4 - i) : Nat) : Int) by rw [← b1']; simp]
        exact atI_nat (by rw [List.getElem?_map, b3']; rfl)
      · rw [List.length_map, List.length_take]
        exact Nat.lt_of_le_of_lt (Nat.min_le_left _ _) (small1000 (by omega))
      · have hl2 : upd H' D (.lst (((rowOf n).reverse.take i).map V.str ++ [.str (wAt n (4 - i))])) l = some (.lst ((menuAt (4 - i)).map V.str)) := by rw [upd_ne hlD]; exact hl'
        refine ⟨_, rfl, _, rfl, _, _, rfl, .inl (.inl (.inl hl2)), _, _, rfl, rfl, ⟨by omega, by omega⟩, some (.ref l), ?_, ?_, fun b hbD => by rw [upd_ne hbD]; exact hb b hbD⟩
        · have ed : ((n / dv (5 - i) : Nat) : Int) / (((menuAt (4 - i)).map V.str).length : Int) = ((n / dv (5 - (i + 1)) : Nat) : Int) := by
            rw [hlen, show 5 - (i + 1) = 4 - i by omega, ← b2']
            simp
          rw [← ed]
          rfl
        · rw [upd_same, br, List.map_append]
          rfl
    · obtain ⟨y3, rfl, hd, hb⟩ := pv
      refine ⟨_, rfl, D, _, rfl, .inl (.inl hd), fun p np => ?_⟩
      have eH : Same H (upd H' p (.lst (((((rowOf n).reverse.take (ls.map V.ref).length).map V.str).reverse)))) := fun b o hz => by
        have h1 := e0 _ _ hz
        have h2 : b ≠ D := ne_of_none hz hD
        have h3 : H' b = some o := by rw [hb b h2]; exact h1
        rw [upd_ne (ne_of_none h3 np)]
        exact h3
      have np0 : H p = none := by
        cases e : H p with
        | none => rfl
        | some o =>
          have h1 := e0 _ _ e
          have h2 : p ≠ D := ne_of_none e hD
          rw [hb p h2, h1] at np
          cases np
      refine q _ p eH np0 ?_
      rw [upd_same, List.length_map, hle, List.take_of_length_le (by rw [List.length_reverse]; show 5 ≤ 5; decide), List.map_reverse, List.reverse_reverse]
end
end K7
end
/-! ## P6 -/
section
open PySem PySem.Spec PyProof.Rows L2
namespace K7
/-! ### what the law asks of the errors -/
structure Te (K : PySem.W.Frag) (mg : Str → Option Value) (a : Ad) (L : Addr) : Prop where
  gL : mg "LandError" = some (.ref L)
  exU : ExcC K a.U
  exB : ExcC K a.B
  exN : ExcC K a.N
  xfU : XfC K a.U
  xfB : XfC K a.B
  xfN : XfC K a.N
  mU : PySem.W.exmOne K (.ref a.U) (.ref L) = some true
  mB : PySem.W.exmOne K (.ref a.B) (.ref L) = some true
  mN : PySem.W.exmOne K (.ref a.N) (.ref L) = some true
  kU : PySem.W.kitOne K (.ref a.U) (.ref a.U) = some true
  kB : PySem.W.kitOne K (.ref a.B) (.ref a.B) = some true
  kN : PySem.W.kitOne K (.ref a.N) (.ref a.N) = some true
/-! ### the number of a row -/
def numP (ss : List Str) : Nat → Nat
  | 0 => 0
  | i + 1 => numP ss i * (menuAt i).length + (menuAt i).idxOf (ss.getD i "")
theorem numP_all (ss : List Str) : numP ss 5 = numOf ss := by
  show ((((0 * 3 + _) * 2 + _) * 4 + _) * 4 + _) * 2 + _ = _
  rw [Nat.zero_mul, Nat.zero_add]
  rfl
def InMenus (ss : List Str) : Prop := ss.length = 5 ∧ ∀ i < 5, ss.getD i "" ∈ menuAt i
theorem InMenus.get {ss : List Str} (h : InMenus ss) {i : Nat} (hi : i < 5) : ss[i]? = some (ss.getD i "") := by
  rw [List.getElem?_eq_getElem (by rw [h.1]; exact hi), List.getD_eq_getElem?_getD, List.getElem?_eq_getElem (by rw [h.1]; exact hi)]
  rfl
section
variable {P : Program} {w : World} {K : PySem.W.Frag} {mg : Str → Option Value} {base : Heap} {a : Ad} {L : Addr}
def spNum : Sp := fun vs H Q _ => ∃ (r : Addr) (ss : List Str), vs = [.ref r] ∧ H r = some (.lst (ss.map V.str)) ∧ InMenus ss ∧ ∀ H', Same H H' → Q (.int (numOf ss : Nat)) H'
theorem all_flat (ss : List Str) : (ss.map V.str).all flatV = true := by
  induction ss with
  | nil => rfl
  | cons x r ih => rw [List.map_cons, List.all_cons, ih]; rfl
theorem ok_number {f fL : Addr} {fd fdL : FuncData} (F : Fun K "_law_number" "_law_number" s__law_number f fd) (G_lw : FnOk P w K mg base CX0 1 fL fdL [] spMenus) (g_lw : mg "_law_words" = some (.ref fL)) (k_lw : PySem.W.keepIn K (.ref fL) = true) (b_lw : Binds K fdL [] []) (m_enumerate : mg "enumerate" = none) (m_len : mg "len" = none) :
    FnOk P w K mg base CX0 2 f fd ["_law_row_here"] spNum := by
  refine F.ok sc__law_number (fun vs H Q E h => ?_) (fun cdv A outer s H vs Q E hr h => ?_)
  · obtain ⟨r, ss, rfl, _⟩ := h
    rfl
  · obtain ⟨r, ss, rfl, hrs, hss, q⟩ := h
    refine ⟨_, (pss_cons (ps_set (i := 1) sc__law_number.nd rfl (by first | exact Or.inl rfl | exact Or.inr rfl) pe_int)
 (pss_cons (ps_for PassesOwn.never rfl (pi_enum (by rfl) m_enumerate (pa_cons (pe_call0 G_lw (hr.mono (by decide)) (by rfl) g_lw k_lw b_lw .nil pass0) pa_nil)) (pg_tup rfl (pgs_cons (pg_name (i := 2) sc__law_number.nd rfl (by first | exact Or.inl rfl | exact Or.inr rfl)) (pgs_cons (pg_name (i := 3) sc__law_number.nd rfl (by first | exact Or.inl rfl | exact Or.inr rfl)) pgs_nil)))
  (pss_one (ps_set (i := 1) sc__law_number.nd rfl (by first | exact Or.inl rfl | exact Or.inr rfl) (pe_op op_add (pe_op op_mul (pv 1) (pe_callB call_len_seq (by rfl) m_len boot_len (pa_cons (pv 3) pa_nil))) (pe_bm PySem.F.plainAttrs_list PySem.F.slot_list_index PySem.F.type_list_index mt_index (pv 3) (pa_cons (pe_ix ix_list (pv 0) (pv 2) (fun _ _ => rfl)) pa_nil))))))
 (pss_one (ps_ret (pv 1))))), ?_⟩
    refine ⟨rfl, fun H1 m e1 nm hm => ?_⟩
    obtain ⟨ls, hl5, hr5, hms⟩ := hm
    have hl5' : (ls.map V.ref).length = 5 := by rw [List.length_map]; exact hl5
    refine ⟨m, _, rfl, .inl (.inl hr5), for_it (walk_enum (xs := ls.map V.ref)) (fun i σ H' => ∃ y2 y3, σ = [some (.ref r), some (.int (numP ss i : Nat)), y2, y3] ∧ Same H1 H') ⟨none, none, rfl, Same.refl H1⟩ (fun i σ H' _ p => ?_) (fun i v σ H' H'' hi p y => ?_) (fun σ H' p => ?_)⟩
    · obtain ⟨y2, y3, rfl, e⟩ := p
      exact .inl (.inl (e _ _ hr5))
    · obtain ⟨y2, y3, rfl, e⟩ := p
      obtain ⟨T, x, y, rfl, nT, rfl, ex, ey⟩ := y
      rw [hl5'] at hi
      obtain rfl : .int (i : Nat) = x := Option.some.inj ex
      obtain ⟨l, el, hl⟩ := hms i hi
      have ey' : (ls.map V.ref)[i]? = some y := ey
      rw [List.getElem?_map, el] at ey'
      obtain rfl := Option.some.inj ey'
      have e2 : Same H1 (upd H' T (.tup [.int (i : Nat), .ref l])) := same_new e nT
      have hl2 := e2 _ _ hl
      have hr2 := e2 _ _ (e1 _ _ hrs)
      obtain ⟨i1, i2⟩ := menu_ix hi (hss.2 i hi)
      have hlen : ((menuAt i).map V.str).length = (menuAt i).length := List.length_map ..
      have hl4 : (menuAt i).length ≤ 4 := (menu_nodup ⟨i, hi⟩).2
      refine ⟨T, _, rfl, .inl (.inl upd_same), rfl, _, _, rfl, _, _, rfl, rfl, ?_⟩
      refine ⟨_, rfl, _, rfl, _, _, rfl, .inl (.inl (.inl hl2)), _, _, rfl, rfl, .inr ⟨by omega, by omega⟩, ?_⟩
      refine ⟨_, rfl, .inl ⟨rfl, _, .inl (.inl hl2)⟩, _, rfl, _, rfl, r, _, _, .str (ss.getD i ""), rfl, rfl, .inl (.inl hr2), atI_nat (by rw [List.getElem?_map, hss.get hi]; rfl), ?_⟩
      refine ⟨l, _, _, _, .str (ss.getD i ""), rfl, rfl, .inl (.inl hl2), rfl, all_flat _, by rw [List.getElem?_map, i1]; rfl, ?_, fun m' z' hm' hz' => ?_, ?_⟩
      · simp [eqV]
      · rw [List.getElem?_map] at hz'
        obtain ⟨z, ez, rfl⟩ := Option.map_eq_some_iff.mp hz'
        have hne : z ≠ ss.getD i "" := fun q => i2 m' hm' (by rw [ez, q])
        exact beq_eq_false_iff_ne.mpr hne
      · refine ⟨_, _, rfl, rfl, some (.int (i : Nat)), some (.ref l), ?_, e2⟩
        have et : ((numP ss i : Nat) : Int) * (((menuAt i).map V.str).length : Int) + (((menuAt i).idxOf (ss.getD i "") : Nat) : Int) = ((numP ss (i + 1) : Nat) : Int) := by
          rw [hlen]
          show _ = ((numP ss i * (menuAt i).length + (menuAt i).idxOf (ss.getD i "") : Nat) : Int)
          simp
        rw [← et]
        rfl
    · obtain ⟨y2, y3, rfl, e⟩ := p
      rw [hl5']
      exact ⟨_, rfl, by rw [numP_all]; exact q H' (e1.trans e)⟩
/-! a custom of a row -/
def GoodR (ws : List V) (n : Nat) : Prop := n < 192 ∧ ws = (rowOf n).map V.str
def BadR (K : PySem.W.Frag) (H : Hp) (ws : List V) (p : Nat) : Prop := p < 5 ∧ (∀ i < p, ∃ z ∈ menuAt i, ws[i]? = some (.str z)) ∧ ∃ z, ws[p]? = some z ∧ BadW K H p z
def spCo (K : PySem.W.Frag) (a : Ad) : Sp := fun vs H Q E => ∃ (r : Addr) (w0 w1 w2 w3 w4 : V), vs = [.ref r] ∧ H r = some (.lst [w0, w1, w2, w3, w4]) ∧ ((∃ n, GoodR [w0, w1, w2, w3, w4] n ∧ NewC a n H Q) ∨ (∃ p, BadR K H [w0, w1, w2, w3, w4] p ∧ Flies H a.U "what" (.str (clauseAt p)) E))
theorem ok_co (T : Tx K w mg a) {f fI : Addr} {fd fdI : FuncData} (F : Fun K "_law_custom_of" "_law_custom_of" s__law_custom_of f fd) (MC : Mk K a.C fI) (GI : FnOk P w K mg base (L2.CX P w) 3 fI fdI ["self", "untold", "joined", "sold", "kept", "ends"] (spInit K a)) (bI : Binds K fdI ["self", "untold", "joined", "sold", "kept", "ends"] []) :
    FnOk P w K mg base (L2.CX P w) 5 f fd ["_law_row_here"] (spCo K a) := by
  refine F.okX sc__law_custom_of (fun vs H Q E h => ?_) (fun cdv A outer s H vs Q E hr h => ?_)
  · obtain ⟨r, w0, w1, w2, w3, w4, rfl, _⟩ := h
    rfl
  · obtain ⟨r, w0, w1, w2, w3, w4, rfl, hR, h⟩ := h
    refine ⟨_, (pss_one (ps_ret (pe_make MC GI (hr.mono (by decide)) (by rfl) T.gC bI .nil (passes_call (E := E) (takes_of rfl rfl rfl rfl) (fun _ _ _ _ h => h)) (pa_cons (pe_ix ix_list (pv 0) pe_int (fun _ _ => rfl)) (pa_cons (pe_ix ix_list (pv 0) pe_int (fun _ _ => rfl)) (pa_cons (pe_ix ix_list (pv 0) pe_int (fun _ _ => rfl)) (pa_cons (pe_ix ix_list (pv 0) pe_int (fun _ _ => rfl)) (pa_cons (pe_ix ix_list (pv 0) pe_int (fun _ _ => rfl)) pa_nil)))))))), ?_⟩
    have hS : SqL K H r [w0, w1, w2, w3, w4] := .inl (.inl hR)
    refine ⟨_, rfl, r, _, _, _, rfl, rfl, hS, rfl, _, rfl, r, _, _, _, rfl, rfl, hS, rfl, _, rfl, r, _, _, _, rfl, rfl, hS, rfl, _, rfl, r, _, _, _, rfl, rfl, hS, rfl, _, rfl, r, _, _, _, rfl, rfl, hS, rfl, ?_⟩
    rcases h with ⟨n, ⟨hn, ew⟩, q⟩ | ⟨p, ⟨hp, h1, z, hz, hb⟩, q⟩
    · exact new_init (ws := [w0, w1, w2, w3, w4]) (Same.refl H) hn ew q
    · intro x dx hx hdx hne
      have e : Same H (upd (upd H dx (.own x)) x (.ins a.C dx [])) := same_new (same_new (Same.refl H) hdx) (by rw [upd_ne hne.symm]; exact hx)
      exact ⟨x, dx, w0, w1, w2, w3, w4, rfl, upd_same, .inr ⟨p, hp, h1, ⟨z, hz, InW.same hb e⟩, q.later e⟩⟩
def spRef (K : PySem.W.Frag) : Sp := fun vs H Q _ => ∃ (r : Addr) (w0 w1 w2 w3 w4 : V), vs = [.ref r] ∧ H r = some (.lst [w0, w1, w2, w3, w4]) ∧ ((∃ n, GoodR [w0, w1, w2, w3, w4] n ∧ ∀ H', Same H H' → Q .non H') ∨ (∃ p, BadR K H [w0, w1, w2, w3, w4] p ∧ NewT [.bl true, .str (clauseAt p)] H Q))
theorem ok_refused (T : Tx K w mg a) (T3 : Te K mg a L) {f fc : Addr} {fd fdc : FuncData} (F : Fun K "_law_refused" "_law_refused" s__law_refused f fd) (Gco : FnOk P w K mg base (L2.CX P w) 5 fc fdc ["_law_row_here"] (spCo K a)) (gco : mg "_law_custom_of" = some (.ref fc)) (kco : PySem.W.keepIn K (.ref fc) = true) (bco : Binds K fdc ["_law_row_here"] []) (m_isinstance : mg "isinstance" = none) :
    FnOk P w K mg base CX0 6 f fd ["_law_row_here"] (spRef K) := by
  refine F.ok sc__law_refused (fun vs H Q E h => ?_) (fun cdv A outer s H vs Q E hr h => ?_)
  · obtain ⟨r, w0, w1, w2, w3, w4, rfl, _⟩ := h
    rfl
  · obtain ⟨r, w0, w1, w2, w3, w4, rfl, hR, h⟩ := h
    refine ⟨_, (pss_cons (ps_set (i := 1) sc__law_refused.nd rfl (by first | exact Or.inl rfl | exact Or.inr rfl) pe_non)
 (pss_cons (ps_try_as (i := 3) rfl rfl sc__law_refused.nd rfl rfl ⟨rfl, by decide, .inl T3.gL⟩ takes0 (fun W pn xe tk _ => (pss_one (ps_set (i := 2) sc__law_refused.nd rfl (by first | exact Or.inl rfl | exact Or.inr rfl) (K7E.pe_callW Gco (hr.mono (by decide)) (by rfl) gco kco bco .nil tk (pa_cons (pv 0) pa_nil))))) (fun b oe cls d pn hz hf => (pss_one (ps_set (i := 1) sc__law_refused.nd rfl (by first | exact Or.inl rfl | exact Or.inr rfl) (pe_tup (pa_cons (pe_callB (K7E.call_isEdX T3.exU hz hf) (by rfl) m_isinstance boot_isinstance (pa_cons (pv 3) (pa_cons (pe_glob (v := .ref _) rfl T.gU rfl) pa_nil))) (pa_cons (pe_xf T3.xfU T.nU hz hf (pv 3)) pa_nil)))))))
 (pss_one (ps_ret (pv 1))))), ?_⟩
    rcases h with ⟨n, hg, q⟩ | ⟨p, hb, q⟩
    · refine ⟨_, rfl, r, w0, w1, w2, w3, w4, rfl, hR, .inl ⟨n, hg, fun H' q' e nq hc => ?_⟩⟩
      exact ⟨_, rfl, q H' e⟩
    · refine ⟨_, rfl, r, w0, w1, w2, w3, w4, rfl, hR, .inr ⟨p, hb, fun H' d e nd hd => ?_⟩⟩
      refine ⟨true, T3.mU, fun _ b hb' => ?_, fun z => nomatch z⟩
      refine ⟨_, rfl, rfl, d, rfl, .ref a.U, .ref a.U, true, _, rfl, fun u h => h, T3.kU, hd, ?_⟩
      refine ⟨_, rfl, rfl, rfl, d, _, _, rfl, hd, rfl, by show 2 ≤ sizeLine; decide, fun t nt => ?_⟩
      exact ⟨_, rfl, q _ t (same_new e nt) (e.free nt) upd_same⟩
def spCRef (K : PySem.W.Frag) (a : Ad) : Sp := fun vs H Q _ => ∃ (k : Int) (p : Addr) (n : Nat) (x y : V), vs = [.int k, .ref p, x, y] ∧ CustAt a.C H p n ∧
  ((InW K H clauses x false ∧ NewT [.bl true, .str "clause"] H Q) ∨ (k = 0 ∧ ∃ i, i < 5 ∧ x = .str (clauseAt i) ∧ BadW K H i y ∧ NewT [.bl true, .str "word"] H Q))
theorem ok_crefused (T : Tx K w mg a) (T3 : Te K mg a L) {f fCh fW fw : Addr} {fd fdCh fdW fdw : FuncData} (F : Fun K "_law_clause_refused" "_law_clause_refused" s__law_clause_refused f fd)
    (mCh : Meth K a.C "changed" fCh) (GCh : FnOk P w K mg base (L2.CX P w) 5 fCh fdCh ["self", "clause", "word"] (spChanged K a)) (bCh : Binds K fdCh ["self", "clause", "word"] [])
    (mW : Meth K a.C "word" fW) (GW5 : FnOk P w K mg base (L2.CX P w) 4 fW fdW ["self", "clause"] (spWord K a)) (bW : Binds K fdW ["self", "clause"] [])
    (G_w : FnOk P w K mg base (L2.CX P w) 4 fw fdw ["clause"] (spWW K a)) (g_w : mg "words" = some (.ref fw)) (k_w : PySem.W.keepIn K (.ref fw) = true) (b_w : Binds K fdw ["clause"] []) (m_isinstance : mg "isinstance" = none) :
    FnOk P w K mg base CX0 6 f fd ["_law_sort", "_law_custom", "_law_clause", "_law_word"] (spCRef K a) := by
  refine F.ok sc__law_clause_refused (fun vs H Q E h => ?_) (fun cdv A outer s H vs Q E hr h => ?_)
  · obtain ⟨k, p, n, x, y, rfl, _⟩ := h
    rfl
  · obtain ⟨k, p, n, x, y, rfl, hc, h⟩ := h
    obtain ⟨hn, dx, t0, hp, ht⟩ := id hc
    refine ⟨_, (pss_cons (ps_set (i := 4) sc__law_clause_refused.nd rfl (by first | exact Or.inl rfl | exact Or.inr rfl) pe_non)
 (pss_cons (ps_try_as (i := 6) rfl rfl sc__law_clause_refused.nd rfl rfl ⟨rfl, by decide, .inl T3.gL⟩ takes0 (fun W pn xe tk _ => (pss_one (ps_if (pt_cmpR op_eq (pv 0) pe_int (nomark _))
  (pss_one (ps_set (i := 5) sc__law_clause_refused.nd rfl (by first | exact Or.inl rfl | exact Or.inr rfl) (K7E.pe_methW (pv 1) T.cl mCh GCh (hr.mono (by decide)) bCh .nil tk (pa_cons (pv 2) (pa_cons (pv 3) pa_nil)))))
  (pss_one (ps_if (pt_cmpR op_eq (pv 0) pe_int (nomark _))
  (pss_one (ps_set (i := 5) sc__law_clause_refused.nd rfl (by first | exact Or.inl rfl | exact Or.inr rfl) (K7E.pe_methW (pv 1) T.cl mW GW5 (hr.mono (by decide)) bW .nil tk (pa_cons (pv 2) pa_nil))))
  (pss_one (ps_set (i := 5) sc__law_clause_refused.nd rfl (by first | exact Or.inl rfl | exact Or.inr rfl) (K7E.pe_callW G_w (hr.mono (by decide)) (by rfl) g_w k_w b_w .nil tk (pa_cons (pv 2) pa_nil))))))))) (fun b oe cls d pn hz hf => (pss_one (ps_set (i := 4) sc__law_clause_refused.nd rfl (by first | exact Or.inl rfl | exact Or.inr rfl) (pe_tup (pa_cons (pe_callB (K7E.call_isEdX T3.exB hz hf) (by rfl) m_isinstance boot_isinstance (pa_cons (pv 6) (pa_cons (pe_glob (v := .ref _) rfl T.gB rfl) pa_nil))) (pa_cons (pe_xf T3.xfB T.nB hz hf (pv 6)) pa_nil)))))))
 (pss_one (ps_ret (pv 4))))), ?_⟩
    have ends : ∀ (wd : Str) (y5 : Option V), NewT [.bl true, .str wd] H Q → Flies H a.B "what" (.str wd) (fun cls d H' => ∀ σ, σ = [some (.int k), some (.ref p), some x, some y, some .non, none, none] → ∃ b, PySem.W.exmOne K cls (.ref L) = some b ∧ (b = true → ∃ dd, cls = .ref a.B ∧ d = some dd ∧ H' dd = some (.xd [("what", .str wd)]) ∧ Same H H') ∧ (b = false → False)) := fun wd y5 _ H' d e nd hd σ hσ => ⟨true, T3.mB, fun _ => ⟨d, rfl, rfl, hd, e⟩, fun z => nomatch z⟩
    have out : ∀ (wd : Str), NewT [.bl true, .str wd] H Q → ∀ H' d, Same H H' → H' d = some (.xd [("what", .str wd)]) → ∀ t, H' t = none → Q (.ref t) (upd H' t (.tup [.bl true, .str wd])) := fun wd q H' d e hd t nt => q _ t (same_new e nt) (e.free nt) upd_same
    rcases h with ⟨hi, q⟩ | ⟨rfl, i, hi, rfl, hb, q⟩
    · refine ⟨_, rfl, rfl, _, rfl, ite2 (fun _ => ?_) (fun _ => ?_)⟩
      · refine ⟨_, rfl, p, dx, _, rfl, hp, (custFs_meth _ _ _).2.1, _, rfl, _, rfl, p, n, x, y, rfl, hc, .inr (.inr ⟨hi, fun H' d e nd hd => ?_⟩)⟩
        refine ⟨true, T3.mB, fun _ b hb' => ?_, fun z => nomatch z⟩
        refine ⟨_, rfl, rfl, d, rfl, .ref a.B, .ref a.B, true, _, rfl, fun u h => h, T3.kB, hd, ?_⟩
        refine ⟨_, rfl, rfl, rfl, d, _, _, rfl, hd, rfl, by show 2 ≤ sizeLine; decide, fun t nt => ?_⟩
        exact ⟨_, rfl, out _ q H' d e hd t nt⟩
      · refine ⟨_, rfl, rfl, _, rfl, ite2 (fun _ => ?_) (fun _ => ?_)⟩
        · refine ⟨_, rfl, p, dx, _, rfl, hp, (custFs_meth _ _ _).1, _, rfl, p, n, x, rfl, hc, .inr ⟨hi, fun H' d e nd hd => ?_⟩⟩
          refine ⟨true, T3.mB, fun _ b hb' => ?_, fun z => nomatch z⟩
          refine ⟨_, rfl, rfl, d, rfl, .ref a.B, .ref a.B, true, _, rfl, fun u h => h, T3.kB, hd, ?_⟩
          refine ⟨_, rfl, rfl, rfl, d, _, _, rfl, hd, rfl, by show 2 ≤ sizeLine; decide, fun t nt => ?_⟩
          exact ⟨_, rfl, out _ q H' d e hd t nt⟩
        · refine ⟨_, rfl, x, rfl, .inr ⟨hi, fun H' d e nd hd => ?_⟩⟩
          refine ⟨true, T3.mB, fun _ b hb' => ?_, fun z => nomatch z⟩
          refine ⟨_, rfl, rfl, d, rfl, .ref a.B, .ref a.B, true, _, rfl, fun u h => h, T3.kB, hd, ?_⟩
          refine ⟨_, rfl, rfl, rfl, d, _, _, rfl, hd, rfl, by show 2 ≤ sizeLine; decide, fun t nt => ?_⟩
          exact ⟨_, rfl, out _ q H' d e hd t nt⟩
    · refine ⟨_, rfl, rfl, _, rfl, ite2 (fun _ => ?_) (fun z => absurd rfl z)⟩
      refine ⟨_, rfl, p, dx, _, rfl, hp, (custFs_meth _ _ _).2.1, _, rfl, _, rfl, p, n, _, y, rfl, hc, .inr (.inl ⟨i, hi, rfl, hb, fun H' d e nd hd => ?_⟩)⟩
      refine ⟨true, T3.mB, fun _ b hb' => ?_, fun z => nomatch z⟩
      refine ⟨_, rfl, rfl, d, rfl, .ref a.B, .ref a.B, true, _, rfl, fun u h => h, T3.kB, hd, ?_⟩
      refine ⟨_, rfl, rfl, rfl, d, _, _, rfl, hd, rfl, by show 2 ≤ sizeLine; decide, fun t nt => ?_⟩
      exact ⟨_, rfl, out _ q H' d e hd t nt⟩
def spNRef (K : PySem.W.Frag) : Sp := fun vs H Q _ => ∃ x : V, vs = [x] ∧ ((∃ n : Nat, n < 192 ∧ x = .int n ∧ ∀ H', Same H H' → Q .non H') ∨ (Flat4 x ∧ wholeV x 0 191 = false ∧ K7E.reprOk x ∧ NewT [.bl true, .str (K7E.reprV x)] H Q))
theorem ok_nrefused (T : Tx K w mg a) (T3 : Te K mg a L) {f fc : Addr} {fd fdc : FuncData} (F : Fun K "_law_number_refused" "_law_number_refused" s__law_number_refused f fd) (Gat : FnOk P w K mg base (L2.CX P w) 5 fc fdc ["number"] (spCat a)) (gat : mg "custom_at" = some (.ref fc)) (kat : PySem.W.keepIn K (.ref fc) = true) (bat : Binds K fdc ["number"] []) (m_isinstance : mg "isinstance" = none) (m_repr : mg "repr" = none) :
    FnOk P w K mg base CX0 6 f fd ["_law_number_here"] (spNRef K) := by
  refine F.ok sc__law_number_refused (fun vs H Q E h => ?_) (fun cdv A outer s H vs Q E hr h => ?_)
  · obtain ⟨x, rfl, _⟩ := h
    rfl
  · obtain ⟨x, rfl, h⟩ := h
    refine ⟨_, (pss_cons (ps_set (i := 1) sc__law_number_refused.nd rfl (by first | exact Or.inl rfl | exact Or.inr rfl) pe_non)
 (pss_cons (ps_try_as (i := 3) rfl rfl sc__law_number_refused.nd rfl rfl ⟨rfl, by decide, .inl T3.gL⟩ takes0 (fun W pn xe tk _ => (pss_one (ps_set (i := 2) sc__law_number_refused.nd rfl (by first | exact Or.inl rfl | exact Or.inr rfl) (K7E.pe_callW Gat (hr.mono (by decide)) (by rfl) gat kat bat .nil tk (pa_cons (pv 0) pa_nil))))) (fun b oe cls d pn hz hf => (pss_one (ps_set (i := 1) sc__law_number_refused.nd rfl (by first | exact Or.inl rfl | exact Or.inr rfl) (pe_tup (pa_cons (pe_callB (K7E.call_isEdX T3.exN hz hf) (by rfl) m_isinstance boot_isinstance (pa_cons (pv 3) (pa_cons (pe_glob (v := .ref _) rfl T.gN rfl) pa_nil))) (pa_cons (pe_callB K7E.call_reprF (by rfl) m_repr boot_repr (pa_cons (pe_xf T3.xfN T.nN hz hf (pv 3)) pa_nil)) pa_nil)))))))
 (pss_one (ps_ret (pv 1))))), ?_⟩
    rcases h with ⟨n, hn, rfl, q⟩ | ⟨hf, hw, hz, q⟩
    · refine ⟨_, rfl, _, rfl, .inl ⟨n, hn, rfl, fun H' q' e nq hc => ?_⟩⟩
      exact ⟨_, rfl, q H' e⟩
    · refine ⟨_, rfl, x, rfl, .inr ⟨hf, hw, fun H' d e nd hd => ?_⟩⟩
      refine ⟨true, T3.mN, fun _ b hb' => ?_, fun z => nomatch z⟩
      refine ⟨_, rfl, rfl, d, rfl, .ref a.N, .ref a.N, true, _, rfl, fun u h => h, T3.kN, hd, ?_⟩
      refine ⟨_, rfl, rfl, rfl, d, _, _, rfl, hd, rfl, x, rfl, hz, by show 2 ≤ sizeLine; decide, fun t nt => ?_⟩
      exact ⟨_, rfl, q _ t (same_new e nt) (e.free nt) upd_same⟩
end
end K7
end
/-! ## P7 -/
section
open PySem PySem.Spec PyProof.Rows L2
namespace K7
abbrev N_Custom___iter__ : List Str := ["self"]
abbrev s_Custom___iter__ : Stmt := inClass (topS 13) 2
theorem sc_Custom___iter__ : FnScope ["self"] ["self"] (defScope s_Custom___iter__) := ⟨rfl, rfl, rfl, by decide +kernel, rfl, by decide +kernel, by decide +kernel⟩

abbrev N__law_is : List Str := ["_law_custom", "_law_number_here", "_law_row_here", "_law_told", "_law_place", "_law_clause", "_law_word", "_law_due"]
abbrev s__law_is : Stmt := topS 29
theorem sc__law_is : FnScope ["_law_custom", "_law_number_here", "_law_row_here", "_law_told", "_law_place", "_law_clause", "_law_word", "_law_due"] ["_law_custom", "_law_number_here"] (defScope s__law_is) := ⟨rfl, rfl, rfl, by decide +kernel, rfl, by decide +kernel, by decide +kernel⟩

structure Tf (K : PySem.W.Frag) (a : Ad) (fIt fE : Addr) : Prop where
  it : K7E.ItC2 K a.C fIt
  eq : PySem.W.findIn K (.ref a.C) "__eq__" = some (some (.ref fE))
  eqF : PySem.W.isFn K (.ref fE) = true
  ntup : PySem.W.notFirst K a.C (.type "tuple") = true
theorem nfC (K : PySem.W.Frag) (C : Addr) : PySem.W.notFirst K C (.ref C) = true := by simp [PySem.W.notFirst]
/-! texts in the list of the clauses that answer -/
theorem clause_ok : ∀ i : Fin 5, PyData.strOk (clauseAt i.val) = true := by decide +kernel
theorem given_strs (f : Nat → Bool) : ∀ k : Nat, k ≤ 5 → ∃ ss : List Str, Evl.given k f (fun i => V.str (clauseAt i)) = ss.map V.str ∧ ∀ z ∈ ss, PyData.strOk z = true
  | 0, _ => ⟨[], rfl, fun _ h => nomatch h⟩
  | k + 1, hk => by
    obtain ⟨ss, e, h⟩ := given_strs f k (by omega)
    cases q : f k with
    | true =>
      refine ⟨ss ++ [clauseAt k], by rw [Evl.given_yes q, e, List.map_append]; rfl, fun z hz => ?_⟩
      rcases List.mem_append.mp hz with m | m
      · exact h z m
      · rw [List.mem_singleton.mp m]; exact clause_ok ⟨k, hk⟩
    | false => exact ⟨ss, by rw [Evl.given_no q, e], h⟩
theorem eqv_same (ss : List Str) : PyData.eqv (.tuple (ss.map PyData.str)) (.tuple (ss.map PyData.str)) = true ∧ PyData.eqv (.list (ss.map PyData.str)) (.list (ss.map PyData.str)) = true := by
  constructor
  · rw [PyData.eqv, eqv_strs]; simp
  · rw [PyData.eqv, eqv_strs]; simp
section
variable {P : Program} {w : World} {K : PySem.W.Frag} {mg : Str → Option Value} {base : Heap} {a : Ad} {L fIt fE : Addr}
def spIter (a : Ad) : Sp := fun vs H Q _ => ∃ (p : Addr) (n : Nat), vs = [.ref p] ∧ CustAt a.C H p n ∧ ∀ it t, H it = none → H t = some (.tup ((rowOf n).map V.str)) → Q (.ref it) (upd H it (K7E.TupI t it 0))
theorem ok_iter (T : Tx K w mg a) {fd : FuncData} (F : Fun K "__iter__" "Custom.__iter__" s_Custom___iter__ fIt fd) (m_iter : mg "iter" = none) : FnOk P w K mg base CX0 1 fIt fd ["self"] (spIter a) := by
  refine F.ok sc_Custom___iter__ (fun vs H Q E h => ?_) (fun cdv A outer s H vs Q E hr h => ?_)
  · obtain ⟨p, n, rfl, _⟩ := h
    rfl
  · obtain ⟨p, n, rfl, ⟨hn, dx, t, hp, ht⟩, q⟩ := h
    refine ⟨_, (pss_one (ps_ret (pe_callB K7E.call_iterT (by rfl) m_iter boot_iter (pa_cons (pe_fld (pv 0) rfl) pa_nil)))), ?_⟩
    exact ⟨.ref p, rfl, p, a.C, dx, _, _, rfl, hp, T.cl, T.nA _ (by decide), (custFs_look _ _ _).1, t, _, rfl, .inl (.inl ht), fun it hit => q it t hit ht⟩
def elevens : List Str := ["stay", "die", "needed stay", "sleep", "none", "all", "beside", "need", "never", "free", "x"]
def spIs (a : Ad) : Sp := fun vs H Q _ => ∃ (p : Addr) (n : Nat), vs = [.ref p, .int n] ∧ CustAt a.C H p n ∧ ∀ H', Same H H' → Q (.bl true) H'
theorem ok_is (T : Tx K w mg a) (T2 : Tc K mg a) (T4 : Tf K a fIt fE) {f fro fco fW fU : Addr} {fd fdro fdco fdW fdU fdIt fdE : FuncData} (F : Fun K "_law_is" "_law_is" s__law_is f fd)
    (Gro : FnOk P w K mg base CX0 2 fro fdro ["_law_number_here"] spRow) (gro : mg "_law_row" = some (.ref fro)) (kro : PySem.W.keepIn K (.ref fro) = true) (bro : Binds K fdro ["_law_number_here"] [])
    (Gco : FnOk P w K mg base (L2.CX P w) 5 fco fdco ["_law_row_here"] (spCo K a)) (gco : mg "_law_custom_of" = some (.ref fco)) (kco : PySem.W.keepIn K (.ref fco) = true) (bco : Binds K fdco ["_law_row_here"] [])
    (mW : Meth K a.C "word" fW) (GW5 : FnOk P w K mg base (L2.CX P w) 4 fW fdW ["self", "clause"] (spWord K a)) (bW : Binds K fdW ["self", "clause"] [])
    (mU : Meth K a.C "uses" fU) (GU : FnOk P w K mg base CX0 1 fU fdU ["self", "word"] (spUses a)) (bU : Binds K fdU ["self", "word"] [])
    (GIt : FnOk P w K mg base CX0 1 fIt fdIt ["self"] (spIter a)) (bIt : Binds K fdIt ["self"] [])
    (GE : FnOk P w K mg base CX0 1 fE fdE ["self", "other"] (spEqC K a)) (bE : Binds K fdE ["self", "other"] [])
    (m_isinstance : mg "isinstance" = none) (m_int : mg "int" = none) (m_bool : mg "bool" = none) (m_tuple : mg "tuple" = none) (m_list : mg "list" = none) (m_enumerate : mg "enumerate" = none) :
    FnOk P w K mg base CX0 6 f fd ["_law_custom", "_law_number_here"] (spIs a) := by
  refine F.ok sc__law_is (fun vs H Q E h => ?_) (fun cdv A outer s H vs Q E hr h => ?_)
  · obtain ⟨p, n, rfl, _⟩ := h
    rfl
  · obtain ⟨p, n, rfl, hc, q⟩ := h
    obtain ⟨hn, dx, t, hp, ht⟩ := id hc
    refine ⟨_, (pss_cons (ps_set (i := 2) sc__law_is.nd rfl (by first | exact Or.inl rfl | exact Or.inr rfl) (pe_call Gro (hr.mono (by decide)) (by rfl) gro kro bro .nil pass0 (pa_cons (pv 1) pa_nil)))
 (pss_cons (ps_set (i := 3) sc__law_is.nd rfl (by first | exact Or.inl rfl | exact Or.inr rfl) (pe_fld (pv 0) rfl))
 (pss_cons (ps_if (pw_or (pt_not (pt_val (pe_callB call_isi (by rfl) m_isinstance boot_isinstance (pa_cons (pv 3) (pa_cons (pe_bltn (v := .ty "int") (by rfl) m_int boot_int rfl) pa_nil))))) (pw_or (pt_val (pe_callB call_isi (by rfl) m_isinstance boot_isinstance (pa_cons (pv 3) (pa_cons (pe_bltn (v := .ty "bool") (by rfl) m_bool boot_bool rfl) pa_nil)))) (pw_or1 (pt_cmpR op_ne (pv 3) (pv 1) (nomark _))))).pt
  (pss_one (ps_ret pe_bl))
  pss_nil)
 (pss_cons (ps_if (pw_or (pt_not (pt_val (pe_callB call_isi (by rfl) m_isinstance boot_isinstance (pa_cons (pe_fld (pv 0) rfl) (pa_cons (pe_bltn (v := .ty "tuple") (by rfl) m_tuple boot_tuple rfl) pa_nil))))) (pw_or (pt_cmpR (op_neD hr.units) (pe_fld (pv 0) rfl) (pe_callTy call_tuple_of (by rfl) m_tuple boot_tuple (pa_cons (pv 2) pa_nil)) (nomark _)) (pw_or1 (pt_cmpR (op_neD hr.units) (pe_callTy (K7E.call_listOwnT rfl T4.it GIt bIt pass0 (hr.mono (by decide))) (by rfl) m_list boot_list (pa_cons (pv 0) pa_nil)) (pv 2) (nomark _))))).pt
  (pss_one (ps_ret pe_bl))
  pss_nil)
 (pss_cons (ps_if (pt_cmpR (op_neD hr.units) (pe_lst (pa_cons (pe_fld (pv 0) rfl) (pa_cons (pe_fld (pv 0) rfl) (pa_cons (pe_fld (pv 0) rfl) (pa_cons (pe_fld (pv 0) rfl) (pa_cons (pe_fld (pv 0) rfl) pa_nil)))))) (pv 2) (nomark _))
  (pss_one (ps_ret pe_bl))
  pss_nil)
 (pss_cons (ps_for PassesOwn.never rfl (K7E.pi_enumT (by rfl) m_enumerate (pa_cons (pe_glob (v := .ref _) rfl T.gCl rfl) pa_nil)) (pg_tup rfl (pgs_cons (pg_name (i := 4) sc__law_is.nd rfl (by first | exact Or.inl rfl | exact Or.inr rfl)) (pgs_cons (pg_name (i := 5) sc__law_is.nd rfl (by first | exact Or.inl rfl | exact Or.inr rfl)) pgs_nil)))
  (pss_one (ps_if (pt_cmpR op_ne (pe_meth (pv 0) T.cl mW GW5 (hr.mono (by decide)) bW .nil passL (pa_cons (pv 5) pa_nil)) (pe_ix (show IxR _ (rIxL K) from ix_list) (pv 2) (pv 4) (fun _ _ => rfl)) (nomark _))
  (pss_one (ps_ret pe_bl))
  pss_nil)))
 (pss_cons (ps_for PassesOwn.never rfl (pi_tup (pe_tup (pa_cons pe_str (pa_cons pe_str (pa_cons pe_str (pa_cons pe_str (pa_cons pe_str (pa_cons pe_str (pa_cons pe_str (pa_cons pe_str (pa_cons pe_str (pa_cons pe_str (pa_cons pe_str pa_nil))))))))))))) (pg_name (i := 6) sc__law_is.nd rfl (by first | exact Or.inl rfl | exact Or.inr rfl))
  (pss_cons (ps_setLc (i := 7) (own := [("_law_place", 4), ("_law_clause", 5)]) (g := gTup K 2 (gCons (gName 4) (gCons (gName 5) (gNil)))) rfl sc__law_is.nd rfl rfl (sw_true rfl rfl rfl (by decide +kernel)) (K7E.pi_enumT (by rfl) m_enumerate (pa_cons (pe_glob (v := .ref _) rfl T.gCl rfl) pa_nil)) (blkOk_by (own := [("_law_place", 4), ("_law_clause", 5)]) (N := N__law_is) (sc := defScope s__law_is) (by decide +kernel)) (fun _ _ _ _ _ => (pg_tup rfl (pgs_cons (pg_name (i := 4) sc__law_is.nd rfl (by first | exact Or.inl rfl | exact Or.inr rfl)) (pgs_cons (pg_name (i := 5) sc__law_is.nd rfl (by first | exact Or.inl rfl | exact Or.inr rfl)) pgs_nil)))) (fun _ _ _ _ _ => (pts_one (pt_cmpR op_eq (pe_ix (show IxR _ (rIxL K) from ix_list) (pv 2) (pv 4) (fun _ _ => rfl)) (pv 6) (nomark _)))) (fun _ _ _ _ _ => (pv 5)))
 (pss_one (ps_if (pt_cmpR (op_neD hr.units) (pe_meth (pv 0) T.cl mU GU (hr.mono (by decide)) bU .nil pass0 (pa_cons (pv 6) pa_nil)) (pe_callTy call_tuple_of (by rfl) m_tuple boot_tuple (pa_cons (pv 7) pa_nil)) (nomark _))
  (pss_one (ps_ret pe_bl))
  pss_nil))))
 (pss_one (ps_ret (pe_cmpR (K7E.op_eqOwn GE T4.eq T4.eqF bE (hr.mono (by decide)) pass0) (pv 0) (pe_call Gco (hr.mono (by decide)) (by rfl) gco kco bco .nil passL (pa_cons (pv 2) pa_nil)) (nomark _))))))))))), ?_⟩
    refine ⟨_, rfl, n, rfl, hn, fun H1 r e1 nr hr1 => ?_⟩
    have hp1 := e1 _ _ hp
    have ht1 := e1 _ _ ht
    refine ⟨.ref p, rfl, p, a.C, dx, _, _, rfl, hp1, T.cl, T.nA _ (by decide), (custFs_look _ _ _).2.1, ?_⟩
    refine ⟨_, rfl, _, _, _, _, _, rfl, .ty _, .base (.int _), kit_ty (r := true) (by decide +kernel), true, rfl, ?_⟩
    refine ⟨_, rfl, _, _, _, _, _, rfl, .ty _, .base (.int _), kit_ty (r := false) (by decide +kernel), false, rfl, ?_⟩
    refine ⟨_, rfl, _, rfl, rfl, _, rfl, iteNS (by simp) ?_⟩
    -- the row
    have e2 := e1
    refine ⟨.ref p, rfl, p, a.C, dx, _, _, rfl, hp1, T.cl, T.nA _ (by decide), (custFs_look _ _ _).1, ?_⟩
    refine ⟨_, _, _, _, _, rfl, .ty _, .base (.tup ht1), kit_ty (r := true) (by decide +kernel), true, rfl, ?_⟩
    refine ⟨.ref p, rfl, p, a.C, dx, _, _, rfl, hp1, T.cl, T.nA _ (by decide), (custFs_look _ _ _).1, ?_⟩
    refine ⟨_, rfl, _, _, rfl, .inl ⟨.inl (.inl hr1), fun t1 nt1 => ?_⟩⟩
    have s1 := same_new (o := .tup ((rowOf n).map V.str)) (Same.refl H1) nt1
    refine ⟨_, _, .tup (.inl (.inl (s1 _ _ ht1))) (dp_strs _), .tup (.inl (.inl upd_same)) (dp_strs _), (shaped_strs _ (row_ok hn)).1, (shaped_strs _ (row_ok hn)).1, ?_⟩
    rw [(eqv_same _).1]
    refine ⟨false, rfl, ?_⟩
    -- list(custom)
    refine ⟨_, rfl, p, dx, _, rfl, s1 _ _ hp1, fun l nl => ?_⟩
    have hc2 : CustAt a.C H1 p n := hc.same e1
    have s2 := s1.trans (same_new (o := .lst []) (Same.refl _) nl)
    refine ⟨p, n, rfl, hc2.same s2, fun it t2 nit ht2 => ⟨⟨dx, _, same_new (o := K7E.TupI t2 it 0) s2 nit _ _ hp1⟩, it, t2, (rowOf n).map V.str, rfl, upd_same, ?_, ?_, ?_, fun H3 hl3 hb3 => ?_⟩⟩
    · rw [upd_ne (ne_of_none ht2 nit)]
      exact ht2
    · rw [upd_ne (ne_of_none (show upd _ l (.lst []) l = some (.lst []) from upd_same) nit)]
      exact upd_same
    · rw [List.length_map]
      exact small1000 (show 5 ≤ 1000 by decide)
    have s3 : Same H1 H3 := fun b o hb => by
      have h1 := s1 _ _ hb
      have h2 := s2 _ _ hb
      rw [hb3 b (ne_of_none h1 nl) (ne_of_none h2 nit), upd_ne (ne_of_none h2 nit)]
      exact h2
    have hp3 := s3 _ _ hp1
    have hr3 := s3 _ _ hr1
    refine ⟨_, rfl, _, _, .lst (.inl (.inl hl3)) (dp_strs _), .lst (.inl (.inl hr3)) (dp_strs _), (shaped_strs _ (row_ok hn)).2, (shaped_strs _ (row_ok hn)).2, ?_⟩
    rw [(eqv_same _).2]
    refine ⟨false, rfl, ?_⟩
    -- the fields
    refine ⟨.ref p, rfl, p, a.C, dx, _, _, rfl, hp3, T.cl, T.nA _ (by decide), (custFs_look _ _ _).2.2.1, ?_⟩
    refine ⟨.ref p, rfl, p, a.C, dx, _, _, rfl, hp3, T.cl, T.nA _ (by decide), (custFs_look _ _ _).2.2.2.1, ?_⟩
    refine ⟨.ref p, rfl, p, a.C, dx, _, _, rfl, hp3, T.cl, T.nA _ (by decide), (custFs_look _ _ _).2.2.2.2.1, ?_⟩
    refine ⟨.ref p, rfl, p, a.C, dx, _, _, rfl, hp3, T.cl, T.nA _ (by decide), (custFs_look _ _ _).2.2.2.2.2.1, ?_⟩
    refine ⟨.ref p, rfl, p, a.C, dx, _, _, rfl, hp3, T.cl, T.nA _ (by decide), (custFs_look _ _ _).2.2.2.2.2.2, ?_⟩
    refine ⟨by show 5 ≤ sizeLine; decide, fun l5 nl5 => ?_⟩
    have s4 := s3.trans (same_new (o := .lst ((rowOf n).map V.str)) (Same.refl H3) nl5)
    refine ⟨_, rfl, _, _, .lst (xs := (rowOf n).map V.str) (.inl (.inl upd_same)) (dp_strs _), .lst (.inl (.inl (s4 _ _ hr1))) (dp_strs _), (shaped_strs _ (row_ok hn)).2, (shaped_strs _ (row_ok hn)).2, ?_⟩
    rw [(eqv_same _).2]
    refine ⟨false, rfl, ?_⟩
    -- the words one by one
    refine ⟨a.cl, _, rfl, T.tCl.t _, for_it (K7E.walk_enumT (xs := clauses.map V.str)) (fun i σ H' => ∃ y4 y5, σ = [some (.ref p), some (.int (n : Nat)), some (.ref r), some (.int (n : Nat)), y4, y5, none, none] ∧ Same H1 H') ⟨none, none, rfl, s4⟩ (fun i σ H' _ pv => T.tCl.t _) (fun i v σ H' H'' hi pv hy => ?_) (fun σ H' pv => ?_)⟩
    · obtain ⟨y4, y5, rfl, e⟩ := pv
      obtain ⟨Tt, x, y, rfl, nT, rfl, ex, ey⟩ := hy
      have hi5 : i < 5 := hi
      obtain rfl : .int (i : Nat) = x := Option.some.inj ex
      have ey' : (clauses.map V.str)[i]? = some y := ey
      rw [List.getElem?_map, clause_get hi5] at ey'
      obtain rfl := Option.some.inj ey'
      have e' := e.trans (same_new (o := .tup [.int (i : Nat), .str (clauseAt i)]) (Same.refl H') nT)
      refine ⟨Tt, _, rfl, .inl (.inl upd_same), rfl, _, _, rfl, _, _, rfl, rfl, ?_⟩
      refine ⟨.ref p, rfl, p, dx, _, rfl, e' _ _ hp1, (custFs_meth _ _ _).1, _, rfl, p, n, _, rfl, hc.same (e1.trans e'), .inl ⟨i, hi5, rfl, ?_⟩⟩
      refine ⟨_, rfl, _, rfl, r, _, _, .str (wAt n i), rfl, rfl, .inl (.inl (e' _ _ hr1)), atI_nat (by rw [List.getElem?_map, row_get hi5]; rfl), rfl, _, rfl, iteNS (by simp) ?_⟩
      exact ⟨_, _, rfl, e'⟩
    · obtain ⟨y4, y5, rfl, e⟩ := pv
      refine ⟨by show 11 ≤ sizeLine; decide, fun tw ntw => ⟨tw, rfl, ⟨_, .inl (.inl upd_same)⟩, for_tup (xs := elevens.map V.str) (fun i σ H'' => ∃ y4 y5 y6 y7, σ = [some (.ref p), some (.int (n : Nat)), some (.ref r), some (.int (n : Nat)), y4, y5, y6, y7] ∧ Same H1 H'' ∧ H'' tw = some (.tup (elevens.map V.str))) ⟨y4, y5, none, none, rfl, e.trans (same_new (Same.refl H') ntw), upd_same⟩ (fun i σ H'' _ pv => ?_) (fun i v σ H'' hv pv => ?_) (fun σ H'' pv => ?_)⟩⟩
      · obtain ⟨_, _, _, _, _, _, h⟩ := pv
        exact .inl (.inl h)
      · obtain ⟨y4, y5, y6, y7, rfl, e, htw⟩ := pv
        rw [List.getElem?_map] at hv
        obtain ⟨z, _, rfl⟩ := Option.map_eq_some_iff.mp hv
        refine ⟨a.cl, _, rfl, T.tCl.t _, fun D hD => lc_it (K7E.walk_enumT (xs := clauses.map V.str)) (fun j H2 => Same H'' H2 ∧ H2 D = some (.lst (Evl.given j (fun i => decide (wAt n i = z)) fun i => .str (clauseAt i)))) ⟨same_new (Same.refl H'') hD, upd_same⟩ (fun j H2 _ pv => T.tCl.t _) (fun j v H2 H3 hj pv hy => ?_) (fun H2 pv => ?_)⟩
        · obtain ⟨e3, hd⟩ := pv
          obtain ⟨Tt, x, y, rfl, nT, rfl, ex, ey⟩ := hy
          have hj5 : j < 5 := hj
          obtain rfl : .int (j : Nat) = x := Option.some.inj ex
          have ey' : (clauses.map V.str)[j]? = some y := ey
          rw [List.getElem?_map, clause_get hj5] at ey'
          obtain rfl := Option.some.inj ey'
          have nD : D ≠ Tt := ne_of_none hd nT
          have e4 : Same H'' (upd H2 Tt (.tup [.int (j : Nat), .str (clauseAt j)])) := same_new e3 nT
          have hd4 : (upd H2 Tt (.tup [.int (j : Nat), .str (clauseAt j)])) D = some (.lst (Evl.given j (fun i => decide (wAt n i = z)) fun i => .str (clauseAt i))) := by rw [upd_ne nD]; exact hd
          refine ⟨Tt, _, rfl, .inl (.inl upd_same), rfl, _, _, rfl, _, _, rfl, rfl, rfl, ?_⟩
          refine ⟨_, rfl, _, rfl, r, _, _, .str (wAt n j), rfl, rfl, .inl (.inl (e4 _ _ (e _ _ hr1))), atI_nat (by rw [List.getElem?_map, row_get hj5]; rfl), _, rfl, rfl, _, rfl, ite2 (fun q1 => ?_) (fun q1 => ?_)⟩
          · rw [dec_str] at q1
            refine ⟨_, rfl, _, hd4, ?_, fun b o hb => ?_, ?_⟩
            · exact Nat.lt_of_le_of_lt (Evl.given_len _ _ _) (small1000 (by omega))
            · rw [upd_ne (ne_of_none hb hD)]
              exact e4 _ _ hb
            · rw [upd_same, Evl.given_yes (f := fun i => decide (wAt n i = z)) q1]
          · rw [dec_str] at q1
            refine ⟨e4, ?_⟩
            rw [Evl.given_no (f := fun i => decide (wAt n i = z)) (Bool.eq_false_iff.mpr q1)]
            exact hd4
        · obtain ⟨e3, hd⟩ := pv
          have e5 := e.trans e3
          obtain ⟨ss, es, hok⟩ := given_strs (fun i => decide (wAt n i = z)) 5 (by omega)
          have hd5 : H2 D = some (.lst (ss.map V.str)) := by rw [← es]; exact hd
          refine ⟨.ref p, rfl, p, dx, _, rfl, e5 _ _ hp1, (custFs_meth _ _ _).2.2, _, rfl, p, n, z, rfl, hc.same (e1.trans e5), fun H6 u e6 nu hu => ?_⟩
          have hu' : H6 u = some (.tup (ss.map V.str)) := by rw [← es]; exact hu
          refine ⟨_, rfl, _, _, rfl, .inl ⟨.inl (.inl (e6 _ _ hd5)), fun tt ntt => ?_⟩⟩
          have s7 := same_new (o := .tup (ss.map V.str)) (Same.refl H6) ntt
          refine ⟨_, _, .tup (.inl (.inl (s7 _ _ hu'))) (dp_strs _), .tup (.inl (.inl upd_same)) (dp_strs _), (shaped_strs _ hok).1, (shaped_strs _ hok).1, ?_⟩
          rw [(eqv_same _).1]
          refine ⟨false, rfl, ?_⟩
          have s8 := (e3.trans e6).trans s7
          exact ⟨_, _, _, _, rfl, e.trans s8, s8 _ _ htw⟩
      · obtain ⟨y4, y5, y6, y7, rfl, e, htw⟩ := pv
        refine ⟨_, rfl, _, rfl, r, .str (wAt n 0), .str (wAt n 1), .str (wAt n 2), .str (wAt n 3), .str (wAt n 4), rfl, e _ _ hr1, .inl ⟨n, ⟨hn, rfl⟩, fun H6 q6 e6 nq6 hc6 => ?_⟩⟩
        have e7 := e.trans e6
        obtain ⟨hn6, dx6, t6, hp6, ht6⟩ := id hc6
        refine ⟨p, dx, _, q6, .ref a.C, rfl, rfl, e7 _ _ hp1, .base (.ins hp6 T.cl T2.ha T2.hn T2.ht T2.hm), nfC K a.C, p, q6, n, rfl, hc.same (e1.trans e7), .inl ⟨n, hc6, ?_⟩⟩
        rw [decide_eq_true rfl]
        exact q _ (e1.trans e7)
end
end K7
end
/-! ## E6 -/
section
namespace K7E
open PySem PySem.Spec PyProof.Rows L2
theorem cr_range1 {X : Cx} : CallR X (.type "range") (fun vs H Q => ∃ j, vs = [V.int j] ∧ ∀ p, H p = none → Q (.ref p) (upd H p (.rng 0 j))) := by
  intro pins s σ H vs us Q I r h
  obtain ⟨j, rfl, q⟩ := h
  obtain ⟨u1, rfl, t, rfl⟩ := r.one
  refine call_range_1 ⟨.ref s.heap.objs.size, upd H s.heap.objs.size (.rng 0 j), I.laid (t' := s.toks + 1 + 1) (fun b o e => Heap.get?_push_of_some _ e) (Nat.le_refl _) ?_, rfl, q _ (I.hok.fresh (Nat.le_refl _))⟩
  exact ⟨s.toks, t, s.toks + 1, Heap.get?_push_size _ rfl⟩
def upTo (n : Nat) : List V := (List.range n).map fun i => .int (i : Nat)
theorem vals_upTo : ∀ (n : Nat) (us : List Value), us.length = n → (∀ (j : Nat) v, us[j]? = some v → ∃ t, v = .int (j : Nat) t) → Vals (upTo n) us := by
  intro n
  induction n with
  | zero => intro us h _; cases us with | nil => exact .nil | cons => cases h
  | succ n ih =>
    intro us h hv
    have e : us = us.take n ++ [us[n]'(by omega)] := by
      have := List.take_append_getElem (l := us) (i := n) (by omega)
      rw [this, List.take_of_length_le (by omega)]
    have e2 : upTo (n + 1) = upTo n ++ [.int (n : Nat)] := by
      unfold upTo
      rw [List.range_succ, List.map_append]
      rfl
    rw [e, e2]
    refine (ih _ (by rw [List.length_take]; omega) fun j v hj => ?_).append (.cons ?_ .nil)
    · rw [List.getElem?_take] at hj
      split at hj
      · exact hv j v hj
      · cases hj
    · exact hv n _ (List.getElem?_eq_getElem (by omega))
theorem small_all : ∀ k : Fin 1001, Builtin.Range.small 0 (k.val : Int) 1 = true := by decide +kernel
theorem cr_list_rng {X : Cx} (hc : X.calm = true) : CallR X (.type "list") (fun vs H Q => ∃ (r : Addr) (n : Nat), vs = [V.ref r] ∧ H r = some (.rng 0 n) ∧ n ≤ 1000 ∧ ∀ l, H l = none → Q (.ref l) (upd H l (.lst (upTo n)))) := by
  intro pins s σ H vs us Q I rv h
  obtain ⟨r, n, rfl, hr, hn, q⟩ := h
  obtain ⟨u, rfl, ru⟩ := rv.one
  cases ru
  obtain ⟨t, u, v, hg⟩ := I.hok r _ hr
  refine call_list_range (n := n) (I.ok.hd hc) (show IsRange s.heap r 0 n 1 t u v from hg) ?_ ?_ ?_ fun h' tk acc' c' hk hl hi => ?_
  · have h1 : (0 : Int) ≤ n := by omega
    have h2 : (n : Int) ≤ 1000 := by omega
    exact small_all ⟨n, by omega⟩
  · show (if (0 : Int) < (n : Int) then ((n : Int) - 0 - 1) / 1 + 1 else 0) = (n : Int)
    split <;> omega
  · exact Nat.le_trans hn (by decide)
  · refine ⟨.ref s.heap.objs.size, upd H s.heap.objs.size (.lst (upTo n)), I.laid (t' := tk) hk (Nat.le_refl _) ⟨?_, acc'.toList, c', vals_upTo n _ ?_ fun j w hj => ?_, ?_⟩, rfl, q _ (I.hok.fresh (Nat.le_refl _))⟩
    · unfold upTo; rw [List.length_map, List.length_range]; exact Nat.le_trans hn (by decide)
    · simpa using hi.1
    · obtain ⟨t', e⟩ := hi.2 j w (by simpa using hj)
      exact ⟨t', by rw [e]; simp⟩
    · simpa using hl
section
variable {K : PySem.W.Frag}
theorem fun_kbinds {x qual : Str} {st : Stmt} {f : Addr} {fd : FuncData} {ps : List Str} (F : Fun K x qual st f fd) (n : Nat) (ks : List Str) (g : {α : Type} → List α → List α → List α)
    (hrel : ∀ {vs zs : List V} {us ws : List Value}, Vals vs us → Vals zs ws → Vals (g vs zs) (g us ws))
    (h : ∀ (kV doc pm : Value) (an : Option Addr) (cdv ct : Value) (us ws : List Value), us.length = n → ws.length = ks.length → bindArgs (PySem.W.fnOf x qual (defArgs st) (defBody st) (defScope st) .none kV doc pm an cdv ct) ⟨us, ks.zip ws⟩ = pure (ps.zip (g us ws))) : KBn K fd ps n ks (fun us ws => g us ws) (fun vs zs => g vs zs) := by
  obtain ⟨oc, od, kV, doc, pm, an, cdv, ct, osl, rfl, lk, hcd⟩ := F.ex
  exact ⟨fun s us ws X l1 l2 => BindsTo.of_looks fun M => .of_pure (h kV doc pm an cdv ct us ws l1 l2), fun r1 r2 => hrel r1 r2⟩
end
end K7E
namespace K7
open PySem PySem.Spec PyProof.Rows L2
/-- the five words by their names, the last first -/
def five {α : Type} : List α → List α → List α
  | [x], [e, k, s, j, u] => [x, u, j, s, k, e]
  | _, _ => []
theorem five_rel {vs zs : List V} {us ws : List Value} (r1 : Vals vs us) (r2 : Vals zs ws) : Vals (five vs zs) (five us ws) := by
  cases r1 with
  | nil => cases r2 <;> exact .nil
  | cons a r1 =>
    cases r1 with
    | nil =>
      cases r2 with
      | nil => exact .nil
      | cons b r2 => cases r2 with
        | nil => exact .nil
        | cons c r2 => cases r2 with
          | nil => exact .nil
          | cons d r2 => cases r2 with
            | nil => exact .nil
            | cons e r2 => cases r2 with
              | nil => exact .nil
              | cons f r2 => cases r2 with
                | nil => exact .cons a (.cons f (.cons e (.cons d (.cons c (.cons b .nil)))))
                | cons g r2 => exact .nil
    | cons b r1 => exact .nil
theorem init_kb {K : PySem.W.Frag} {f : Addr} {fd : FuncData} (F : Fun K "__init__" "Custom.__init__" s_Custom___init__ f fd) : KBn K fd ["self", "untold", "joined", "sold", "kept", "ends"] 1 ["ends", "kept", "sold", "joined", "untold"] (fun us ws => five us ws) (fun vs zs => five vs zs) :=
  K7E.fun_kbinds F 1 _ five (fun r1 r2 => five_rel r1 r2) (fun _ _ _ _ _ _ us ws h1 h2 => match us, ws, h1, h2 with | [_], [_, _, _, _, _], _, _ => rfl)
end K7
end
/-! ## P8a -/
section
open PySem PySem.Spec PyProof.Rows L2
namespace K7

/-! ### what stays -/
def notHand : List V → Bool
  | [.ref _, .int _, .int _, .int _] => false
  | _ => true
theorem notHand_strs : ∀ ss : List Str, notHand (ss.map V.str) = true
  | [] => rfl
  | [_] => rfl
  | [_, _] => rfl
  | [_, _, _] => rfl
  | [_, _, _, _] => rfl
  | _ :: _ :: _ :: _ :: _ :: _ => rfl
theorem notHand_len : ∀ xs : List V, xs.length ≠ 4 → notHand xs = true
  | [], _ => rfl
  | [_], _ => by unfold notHand; split <;> first | rfl | (rename_i h; cases h)
  | [_, _], _ => by unfold notHand; split <;> first | rfl | (rename_i h; cases h)
  | [_, _, _], _ => by unfold notHand; split <;> first | rfl | (rename_i h; cases h)
  | [_, _, _, _], h => absurd rfl h
  | _ :: _ :: _ :: _ :: _ :: _, _ => by unfold notHand; split <;> first | rfl | (rename_i h; cases h)
/-- all but the hand at h is as it was, and the hand is a hand -/
structure Stay (h c : Addr) (H H' : Hp) : Prop where
  but : But h H H'
  hand0 : Hand H h c
  hand : Hand H' h c
theorem Stay.of_same {h c : Addr} {H H' : Hp} (hh : Hand H h c) (e : Same H H') : Stay h c H H' := ⟨fun b o _ z => e b o z, hh, hh.same e⟩
theorem Stay.of_drawn {h c : Addr} {H H' : Hp} (hh : Hand H h c) (d : Drawn H H' h c) : Stay h c H H' := ⟨fun b o nb z => by rw [d.but b nb]; exact z, hh, d.hand⟩
theorem Stay.trans {h c : Addr} {H H' H'' : Hp} (x : Stay h c H H') (y : Stay h c H' H'') : Stay h c H H'' := ⟨fun b o nb z => y.but b o nb (x.but b o nb z), x.hand0, y.hand⟩
theorem Stay.same {h c : Addr} {H H' H'' : Hp} (x : Stay h c H H') (e : Same H' H'') : Stay h c H H'' := x.trans (.of_same x.hand e)
theorem Stay.drawn {h c : Addr} {H H' H'' : Hp} (x : Stay h c H H') (e : Drawn H' H'' h c) : Stay h c H H'' := x.trans (.of_drawn x.hand e)
theorem Hand.nel {h c b : Addr} {H : Hp} {xs : List V} (hh : Hand H h c) (hb : H b = some (.lst xs)) (hx : notHand xs = true) : b ≠ h := by
  intro e
  subst e
  obtain ⟨ns, i, x, t, h1, _, _⟩ := hh
  rw [hb] at h1
  injection h1 with h1
  unfold HandO at h1
  injection h1 with h1
  subst h1
  cases hx
theorem Hand.nei {h c b C dx : Addr} {H : Hp} {fs : List (Str × V)} (hh : Hand H h c) (hb : H b = some (.ins C dx fs)) : b ≠ h := by
  intro e
  subst e
  obtain ⟨ns, i, x, t, h1, _, _⟩ := hh
  rw [hb] at h1
  cases h1
theorem Hand.net {h c b : Addr} {H : Hp} {xs : List V} (hh : Hand H h c) (hb : H b = some (.tup xs)) : b ≠ h := by
  intro e
  subst e
  obtain ⟨ns, i, x, t, h1, _, _⟩ := hh
  rw [hb] at h1
  cases h1
theorem Hand.ned {h c b : Addr} {H : Hp} {kvs : List (Key × V)} (hh : Hand H h c) (hb : H b = some (.dK kvs)) : b ≠ h := by
  intro e
  subst e
  obtain ⟨ns, i, x, t, h1, _, _⟩ := hh
  rw [hb] at h1
  cases h1
section
variable {h c : Addr} {H H' : Hp}
theorem Stay.lst {b : Addr} {xs : List V} (x : Stay h c H H') (hb : H b = some (.lst xs)) (hx : notHand xs = true) : H' b = some (.lst xs) := x.but b _ (x.hand0.nel hb hx) hb
theorem Stay.row {b : Addr} {ss : List Str} (x : Stay h c H H') (hb : H b = some (.lst (ss.map V.str))) : H' b = some (.lst (ss.map V.str)) := x.lst hb (notHand_strs ss)
theorem Stay.cust {C p : Addr} {n : Nat} (x : Stay h c H H') (k : CustAt C H p n) : CustAt C H' p n := by
  obtain ⟨hn, dx, t, h1, h2⟩ := k
  exact ⟨hn, dx, t, x.but p _ (x.hand0.nei h1) h1, x.but t _ (x.hand0.net h2) h2⟩
theorem Stay.menus {m : Addr} (x : Stay h c H H') (k : MenusAt H m) : MenusAt H' m := by
  obtain ⟨ls, h1, h2, h3⟩ := k
  exact ⟨ls, h1, x.lst h2 (notHand_len _ (by rw [List.length_map, h1]; decide)), fun i hi => let ⟨l, e1, e2⟩ := h3 i hi; ⟨l, e1, x.row e2⟩⟩
end
/-! ### the menus as data -/
def menuData : PyData := .list (menus.map fun ss => .list (ss.map PyData.str))
theorem menu_data : SeqAt.shaped menuData = true ∧ PyData.eqv menuData menuData = true := by decide +kernel
theorem dp_menus {K : PySem.W.Frag} {H : Hp} {r : Addr} : ∀ {ls : List Addr}, ls.length = 5 → H r = some (.lst (ls.map V.ref)) → (∀ i < 5, ∃ l, ls[i]? = some l ∧ H l = some (.lst ((menuAt i).map V.str))) → Dp K H (.ref r) menuData := by
  intro ls h1 h2 h3
  match ls, h1 with
  | [l0, l1, l2, l3, l4], _ =>
    obtain ⟨_, e0, g0⟩ := h3 0 (by decide)
    obtain ⟨_, e1, g1⟩ := h3 1 (by decide)
    obtain ⟨_, e2, g2⟩ := h3 2 (by decide)
    obtain ⟨_, e3, g3⟩ := h3 3 (by decide)
    obtain ⟨_, e4, g4⟩ := h3 4 (by decide)
    cases e0; cases e1; cases e2; cases e3; cases e4
    exact .lst (.inl (.inl h2)) (.cons (.lst (.inl (.inl g0)) (dp_strs _)) (.cons (.lst (.inl (.inl g1)) (dp_strs _)) (.cons (.lst (.inl (.inl g2)) (dp_strs _)) (.cons (.lst (.inl (.inl g3)) (dp_strs _)) (.cons (.lst (.inl (.inl g4)) (dp_strs _)) .nil)))))
/-! ### rows and numbers -/
theorem set_all : ∀ n : Fin 192, ∀ i : Fin 5, ∀ s ∈ menuAt i.val, numOf ((rowOf n.val).set i.val s) < 192 ∧ rowOf (numOf ((rowOf n.val).set i.val s)) = (rowOf n.val).set i.val s := by decide +kernel
theorem rows_in {n : Nat} (h : n < 192) : InMenus (rowOf n) := ⟨rfl, fun i hi => by
  have e := (step_all ⟨n, h⟩ ⟨i, hi⟩).2
  have g : (rowOf n).getD i "" = wAt n i := by rw [List.getD_eq_getElem?_getD, row_get hi]; rfl
  rw [g]; exact e⟩
theorem set_in {n i : Nat} {s : Str} (h : n < 192) (hi : i < 5) (hs : s ∈ menuAt i) : InMenus ((rowOf n).set i s) := by
  obtain ⟨h1, h2⟩ := set_all ⟨n, h⟩ ⟨i, hi⟩ s hs
  have h1' : numOf ((rowOf n).set i s) < 192 := h1
  have h2' : rowOf (numOf ((rowOf n).set i s)) = (rowOf n).set i s := h2
  rw [← h2']
  exact rows_in h1'
theorem ofString_ok (x : String) : PyData.strOk (Str.ofString x) = true := by
  unfold PyData.strOk
  rw [Str.ofString_eq_toList]
  simp
  intro a _
  have hv : a.toNat < 0xd800 ∨ (0xdfff < a.toNat ∧ a.toNat < 0x110000) := a.valid
  omega
end K7
end
/-! ## P8b -/
section
open PySem PySem.Spec PyProof.Rows L2
namespace K7
theorem ixN_nat {n i : Nat} (h : i < n) : ixN n (i : Int) = some i := by
  have e : (List.range n)[i]? = some i := by rw [List.getElem?_range h]
  have := atI_nat e
  unfold atI at this
  rw [List.length_range] at this
  cases q : ixN n (i : Int) with
  | none => rw [q] at this; cases this
  | some j =>
    rw [q] at this
    have h2 : (List.range n)[j]? = some i := this
    rw [List.getElem?_eq_some_iff] at h2
    obtain ⟨h3, h4⟩ := h2
    rw [List.getElem_range] at h4
    rw [h4]
def intData (n : Nat) : PyData := .list ((List.range n).map fun i => .int (i : Nat))
theorem int_data : SeqAt.shaped (intData 192) = true ∧ PyData.eqv (intData 192) (intData 192) = true := by decide +kernel
theorem dp_all_map {K : PySem.W.Frag} {H : Hp} : ∀ xs : List Nat, DpAll K H (xs.map fun i => V.int (i : Nat)) (xs.map fun i => PyData.int (i : Nat))
  | [] => .nil
  | x :: xs => .cons (.int _) (dp_all_map xs)
theorem two_data {z : Str} (h : PyData.strOk z = true) : SeqAt.shaped (.tuple [.bool true, .str z]) = true ∧ PyData.eqv (.tuple [.bool true, .str z]) (.tuple [.bool true, .str z]) = true := by
  refine ⟨?_, ?_⟩
  · show ((PyData.canLay0 (.tuple [.bool true, .str z])) && decide (PyData.depth (.tuple [.bool true, .str z]) ≤ 64)) = true
    simp [PyData.canLay0, PyData.canLayAll0, PyData.depth, PyData.depthAll, h]
  · simp [PyData.eqv, PyData.eqvAll]
theorem dp_two {K : PySem.W.Frag} {H : Hp} (z : Str) : DpAll K H [.bl true, .str z] [.bool true, .str z] := .cons (.bl true) (.cons (.str z) .nil)
theorem inV_strs (z : Str) : ∀ ss : List Str, inV (.str z) (ss.map V.str) = decide (z ∈ ss)
  | [] => rfl
  | y :: ss => by
    show (eqV (.str y) (.str z) || inV (.str z) (ss.map V.str)) = _
    rw [inV_strs z ss]
    by_cases e : y = z
    · subst e; simp [eqV]
    · have e2 : ¬ z = y := fun q => e q.symm
      simp [eqV, e, e2]
theorem badW_str {K : PySem.W.Frag} {H : Hp} {i : Nat} {z : Str} (h : z ∉ menuAt i) : BadW K H i (.str z) := by
  have := InW.str (K := K) (H := H) (ss := menuAt i) z
  rw [decide_eq_false h] at this
  exact this
theorem bad_words : ∀ i : Fin 5, ("" : Str) ∉ menuAt i.val ∧ ("x" : Str) ∉ menuAt i.val ∧ ("die " : Str) ∉ menuAt i.val ∧ ("Stay" : Str) ∉ menuAt i.val := by decide +kernel
theorem strange_words : ("" : Str) ∉ clauses ∧ ("ended" : Str) ∉ clauses ∧ ("Sold" : Str) ∉ clauses ∧ ("stay" : Str) ∉ clauses := by decide +kernel
theorem inW_no {K : PySem.W.Frag} {H : Hp} {ss : List Str} {z : Str} (h : z ∉ ss) : InW K H ss (.str z) false := by
  have := InW.str (K := K) (H := H) (ss := ss) z
  rw [decide_eq_false h] at this
  exact this
theorem five_of {α : Type} : ∀ {xs : List α}, xs.length = 5 → ∃ w0 w1 w2 w3 w4, xs = [w0, w1, w2, w3, w4]
  | [a, b, c, d, e], _ => ⟨a, b, c, d, e, rfl⟩
theorem menu_len : ∀ i : Fin 5, 0 < (menuAt i.val).length ∧ (menuAt i.val).length ≤ 4 := by decide +kernel
/-- a row in which one word is spoilt -/
theorem bad_set {K : PySem.W.Frag} {H : Hp} {n i : Nat} {v : V} (hn : n < 192) (hi : i < 5) (hb : BadW K H i v) : BadR K H (((rowOf n).map V.str).set i v) i := by
  refine ⟨hi, fun k hk => ⟨wAt n k, (step_all ⟨n, hn⟩ ⟨k, Nat.lt_trans hk hi⟩).2, ?_⟩, v, ?_, hb⟩
  · rw [List.getElem?_set_ne (by omega), List.getElem?_map, row_get (Nat.lt_trans hk hi)]
    rfl
  · rw [List.getElem?_set_self (by show i < 5; exact hi)]
theorem bad_none {K : PySem.W.Frag} {H : Hp} {n i : Nat} {v : V} {w0 w1 w2 w3 w4 : V} (hn : n < 192) (hi : i < 5) (hb : BadW K H i v) (e : ((rowOf n).map V.str).set i v = [w0, w1, w2, w3, w4]) : BadR K H [w0, w1, .non, w3, w4] (min i 2) := by
  have hrow : [V.str (wAt n 0), .str (wAt n 1), .str (wAt n 2), .str (wAt n 3), .str (wAt n 4)].set i v = [w0, w1, w2, w3, w4] := e
  have s0 := (step_all ⟨n, hn⟩ ⟨0, by decide⟩).2
  have s1 := (step_all ⟨n, hn⟩ ⟨1, by decide⟩).2
  match i, hi, hb, hrow with
  | 0, _, hb, hrow =>
    cases hrow
    exact ⟨by decide, fun k hk => absurd hk (Nat.not_lt_zero k), v, rfl, hb⟩
  | 1, _, hb, hrow =>
    cases hrow
    refine ⟨by decide, fun k hk => ?_, v, rfl, hb⟩
    have : k = 0 := by
      have : k < 1 := hk
      omega
    subst this
    exact ⟨_, s0, rfl⟩
  | i + 2, hi, hb, hrow =>
    have h0 : w0 = .str (wAt n 0) := by injection hrow with a b; exact a.symm
    have h1 : w1 = .str (wAt n 1) := by injection hrow with a b; injection b with a b; exact a.symm
    subst h0 h1
    refine ⟨by show min (i + 2) 2 < 5; omega, fun k hk => ?_, .non, ?_, .odd .non⟩
    · have : k < 2 := by omega
      match k, this with
      | 0, _ => exact ⟨_, s0, rfl⟩
      | 1, _ => exact ⟨_, s1, rfl⟩
    · rw [show min (i + 2) 2 = 2 by omega]
      rfl
end K7
end
/-! ## P8c -/
section
open PySem PySem.Spec PyProof.Rows L2
namespace K7
theorem Odd.stay {K : PySem.W.Frag} {h c : Addr} {H H' : Hp} {x : V} (o : Odd K H x) (y : Stay h c H H') : Odd K H' x := by
  cases o with
  | non => exact .non
  | bl b => exact .bl b
  | int i => exact .int i
  | @lst l xs hl =>
    by_cases e : l = h
    · subst e
      obtain ⟨ns, i, x, t, h1, _, _⟩ := y.hand
      exact .lst h1
    · exact .lst (y.but l _ e hl)
  | tup hl => exact .tup (y.but _ _ (y.hand0.net hl) hl)
  | dct hl => exact .dct (y.but _ _ (y.hand0.ned hl) hl)
theorem InW.stay {K : PySem.W.Frag} {h c : Addr} {H H' : Hp} {ss : List Str} {x : V} {b : Bool} (o : InW K H ss x b) (y : Stay h c H H') : InW K H' ss x b := by
  cases o with
  | str z => exact .str z
  | odd o => exact .odd (o.stay y)
theorem min_at {i : Nat} : atI (clauses.map V.str) (if (2 : Int) < (i : Int) then (2 : Int) else (i : Int)) = some (.str (clauseAt (min i 2))) := by
  have e : (if (2 : Int) < (i : Int) then (2 : Int) else (i : Int)) = ((min i 2 : Nat) : Int) := by split <;> omega
  rw [e]
  exact atI_nat (by rw [List.getElem?_map, clause_get (by omega)]; rfl)
theorem clause_strOk {i : Nat} (h : i < 5) : PyData.strOk (clauseAt i) = true := clause_ok ⟨i, h⟩
theorem repr_ok : K7E.reprOk (.str "0") ∧ PyData.strOk (K7E.reprV (.str "0")) = true ∧ PyData.strOk (K7E.reprV .non) = true ∧ ∀ b, PyData.strOk (K7E.reprV (.bl b)) = true := by
  refine ⟨?_, by decide +kernel, by decide +kernel, by decide +kernel⟩
  show (reprText "0").length ≤ sizeLine
  decide +kernel
theorem repr_int (i : Int) : PyData.strOk (K7E.reprV (.int i)) = true := ofString_ok _
theorem log_ok {i : Int} (h : i.natAbs < 2 ^ 200) : i.natAbs.log2 < 1920 := by
  by_cases e : i.natAbs = 0
  · rw [e]; decide
  · rw [Nat.log2_lt e]
    exact Nat.lt_trans h (Nat.pow_lt_pow_right (by decide) (by decide))
end K7
end
/-! ## E7 -/
section
namespace K7G
open PySem PySem.Spec PyProof.Rows L2 GenW
/-! ### «for .. in ..» in a generator: the loop -/
section
variable {M : Model} {A : Around} {R : GenEnd} {Y : Protocol} {n : Nat} {s₀ : Shared} {c : Code} {fs : List Frame} {s : Shared} {env : Env}
  {K : Flow → Sem PySem.Fin} {J : Value → Sem PySem.Fin} {gd : Bool → Bool} {lv : List Value → List Value}
/-- what follows the loop's code -/
def afterLoop (env : Env) (K : Flow → Sem PySem.Fin) (J : Value → Sem PySem.Fin) (gd : Bool → Bool) (lv : List Value → List Value) : Result → Sem PySem.Fin := fun r =>
  ((match r with | .ok f => (.pure f : Sem Flow) | .error e => .raise e).onRaise fun (x : Value) => do
    if (← field x 1) == Value.none then unsupported "frame.own-activation:exception-without-traceback"
    setFlight x env.frame).wrap K J gd lv
theorem seg_forStmt {tg iter : Expr} {body : List Stmt} {pos : Pos} (hs : ∀ x, foldedSetIterable iter env x = pure x)
    (h : wpAny M (A.over c fs) (eval iter env) (fun x s₁ => wpAny M (A.over c fs) (pyIter x) (fun it s₂ => ∀ p, Seg M A R Y n s₀ (.forLoop tg it body [] env) (M.den (.forLoop tg it body [] env)) (.ret (afterLoop env K J gd lv) none (gd false) (lv []) c p [] :: fs) s₂) (fun _ _ => False) s₁) (fun _ _ => False) s) :
    Seg M A R Y n s₀ c ((exec (.For tg iter body [] pos) env).wrap K J gd lv) fs s := by
  rw [exec_For]
  refine seg_bind_wrap (wpAny_standAt ?_)
  refine seg_bind_wrap (wpAny_mono h (fun x s₁ h₁ => ?_) fun _ _ z => z.elim)
  refine seg_bind_wrap (wpAny_of_eq (hs x) ?_)
  refine seg_bind_wrap (wpAny_standAt ?_)
  refine seg_bind_wrap (wpAny_holding (wpAny_mono h₁ (fun it s₂ h₂ => ?_) fun _ _ z => z.elim))
  exact seg_call h₂
end
section
variable {prog : Program} {w : World} {A : Around} {R : GenEnd} {Y : Protocol} {n : Nat} {s₀ : Shared} {fs : List Frame} {s : Shared} {env : Env}
theorem seg_forTurn {tg e : Expr} {it : Value} {yp ep : Pos}
    (h : wpAny (model prog w) (A.over (.forLoop tg it [.Expr (.Yield (some e) yp) ep] [] env) fs) (pyNext it) (fun r s₁ => match r with
      | none => Seg (model prog w) A R Y n s₀ (.block [] env) (.pure (.done .next)) fs s₁
      | some v => ∃ m, n = m + 1 ∧ wpAny (model prog w) (A.over (.forLoop tg it [.Expr (.Yield (some e) yp) ep] [] env) fs) (letOwnedTupleGo tg it v) (fun _ s₂ =>
          wpAny (model prog w) (A.over (.forLoop tg it [.Expr (.Yield (some e) yp) ep] [] env) fs) (assign tg env v) (fun _ s₃ =>
            wpAny (model prog w) (A.over (.forLoop tg it [.Expr (.Yield (some e) yp) ep] [] env) fs) (eval e env) (fun u s₄ => ∀ kap : Resume → Shared → Prop,
              (∀ x s'', (match x with | .ref _ => False | _ => Seg (model prog w) A R Y m s'' (.forLoop tg it [.Expr (.Yield (some e) yp) ep] [] env) ((model prog w).den (.forLoop tg it [.Expr (.Yield (some e) yp) ep] [] env)) fs s'') → kap (.send x) s'') → Y m s₀ u s₄ kap)
              (fun _ _ => False) s₃) (fun _ _ => False) s₂) (fun _ _ => False) s₁) (fun _ _ => False) s)
    (hfs : splitAtGen fs = none) (hfg : fs.any Frame.guarded = false) (hco : env.scope.isCoroutine = false) (hi : interactive env = false) :
    Seg (model prog w) A R Y n s₀ (.forLoop tg it [.Expr (.Yield (some e) yp) ep] [] env) ((model prog w).den (.forLoop tg it [.Expr (.Yield (some e) yp) ep] [] env)) fs s := by
  show Seg _ A R Y n s₀ _ ((forTurn tg it [.Expr (.Yield (some e) yp) ep] [] env).onRaise (fun x => do noteFrame x env; theTreesLotGoes x)) fs s
  unfold forTurn
  rw [Sem.onRaise_eq_wrap]
  refine seg_bind_wrap (wpAny_standAt ?_)
  refine seg_bind_wrap (wpAny_onRaise (wpAny_mono h (fun r s₁ h₁ => ?_) fun _ _ z => z.elim))
  cases r with
  | none => 
    refine seg_again rfl ?_
    exact h₁
  | some v =>
    obtain ⟨m, rfl, h₁⟩ := h₁
    refine seg_bind_wrap (wpAny_mono h₁ (fun _ s₂ h₂ => ?_) fun _ _ z => z.elim)
    refine seg_bind_wrap (wpAny_mono h₂ (fun _ s₃ h₃ => ?_) fun _ _ z => z.elim)
    rw [Sem.bind_eq_wrap', Sem.wrap_wrap]
    refine seg_execs_cons ?_
    refine seg_Expr_Yield hfs rfl hfg ?_ hco hi
    refine wpAny_mono h₃ (fun u s₄ h₄ => ?_) fun _ _ z => z.elim
    intro kap hk
    refine h₄ kap fun x s'' hx => hk x s'' ?_
    cases x <;> first | exact seg_again rfl hx | exact hx.elim
end
/-! ### the consumer's two objects -/
/-- between two turns the consumer changes its own objects at S and L -/
structure Naps (S L : Addr) (s s' : Shared) : Prop where
  os : s'.os = s.os
  bare : AllBare s'.gens
  keep : ∀ b o, b ≠ S → b ≠ L → s.heap.get? b = some o → s'.heap.get? b = some o
  oS : ∃ o, s'.heap.get? S = some o ∧ ∀ v, o.data ≠ .cell v
  oL : ∃ o, s'.heap.get? L = some o ∧ ∀ v, o.data ≠ .cell v
def Far (X : Cx) (S : Addr) : Prop := X.s_0.heap.objs.size ≤ S ∧ S ≠ X.env.locals ∧ ∀ x c, X.env.cells.lookup x = some c → c ≠ S
theorem wakes {X : Cx} {S L : Addr} {oS oL : Obj} {ip : List (Addr × Obj)} {σ : L2.St} {H : Hp} {s s' : Shared} (hpn : ∀ p ∈ X.pn, p.1 ≠ S ∧ p.1 ≠ L) (hip : ∀ p ∈ ip, p.1 ≠ S ∧ p.1 ≠ L) (hS : Far X S) (hL : Far X L)
    (I : Inv X ((S, oS) :: (L, oL) :: ip) σ H s) (z : Naps S L s s') : ∃ oS' oL', s'.heap.get? S = some oS' ∧ s'.heap.get? L = some oL' ∧ Inv X ((S, oS') :: (L, oL') :: ip) σ H s' := by
  have mS : (S, oS) ∈ X.pn ++ (S, oS) :: (L, oL) :: ip := List.mem_append_right _ List.mem_cons_self
  have mL : (L, oL) ∈ X.pn ++ (S, oS) :: (L, oL) :: ip := List.mem_append_right _ (List.mem_cons_of_mem _ List.mem_cons_self)
  obtain ⟨_, hS0, hSL, hSf, _⟩ := I.pin _ mS
  obtain ⟨_, hL0, hLL, hLf, _⟩ := I.pin _ mL
  have I0 : Inv X ip σ H s := I.pins_of fun p hp => I.pin p (List.mem_append_right _ (List.mem_cons_of_mem _ (List.mem_cons_of_mem _ hp)))
  have nS : ∀ b u, H b = some u → b ≠ S := fun b u q hb => by rw [hb, hS0] at q; cases q
  have nL : ∀ b u, H b = some u → b ≠ L := fun b u q hb => by rw [hb, hL0] at q; cases q
  obtain ⟨z1, z2, z3, ⟨o1, g1, c1⟩, ⟨o2, g2, c2⟩⟩ := z
  obtain ⟨hh, g, d, t, o⟩ := s'
  have ho : o = s.os := z1
  subst ho
  have out : ∀ b, b ∉ [S, L] → b ≠ S ∧ b ≠ L := fun b hb => ⟨fun e => hb (by simp [e]), fun e => hb (by simp [e])⟩
  have k3 : ∀ b ob, b ∉ [S, L] → s.heap.get? b = some ob → hh.get? b = some ob := fun b ob hc q => z3 b ob (out b hc).1 (out b hc).2 q
  have J : Inv X ip σ H { s with heap := hh, gens := g, drawn := d, toks := t } := by
    refine I0.step (g' := g) (t' := t) (d' := d) (ch := [S, L]) (fun b hb => ?_) (fun b ob _ _ hc q _ => k3 b ob hc q) (fun b ob _ _ hc q _ => ⟨ob.slots, k3 b ob hc q⟩) (fun _ _ _ _ n => n) (fun b ob hc q => ⟨ob, k3 b ob hc q⟩)
      (fun _ _ q => q) (fun _ _ _ q => q) (fun b ps q => ⟨#[], by rw [q]; simp⟩) (fun m hm => ?_) (fun b u q => ?_) z2
    · have e' : b = S ∨ b = L := by simpa using hb
      rcases e' with q | q
      · rw [q]
        exact ⟨.inr hS.1, hS.2.1, hS.2.2, fun p hp => (List.mem_append.mp hp).elim (fun w => (hpn p w).1) fun w => (hip p w).1⟩
      · rw [q]
        exact ⟨.inr hL.1, hL.2.1, hL.2.2, fun p hp => (List.mem_append.mp hp).elim (fun w => (hpn p w).2) fun w => (hip p w).2⟩
    · obtain ⟨ob, es, ep, hob, r⟩ := hm
      exact ⟨ob, es, ep, z3 _ ob (Ne.symm hSL) (Ne.symm hLL) hob, r⟩
    · refine (I0.hok b u q).stay (fun c v hc y => ?_) (fun _ y => y) fun _ _ y => y
      rcases hc with w | w
      · rw [w] at y ⊢; exact z3 b v (nS b u q) (nL b u q) y
      · exact z3 c v (nS c _ w) (nL c _ w) y
  refine ⟨o1, o2, g1, g2, J.pins_of fun p hp => ?_⟩
  rcases List.mem_cons.mp hp with hp | hp
  · rw [hp]; exact ⟨g1, hS0, hSL, hSf, c1⟩
  · rcases List.mem_cons.mp hp with hp | hp
    · rw [hp]; exact ⟨g2, hL0, hLL, hLf, c2⟩
    · exact J.pin p (List.mem_append_right _ hp)
/-! ### what is handed out, and the end -/
def YP (X : Cx) (S L : Addr) (T : Nat) (Yd : Nat → V → Hp → Prop) : Protocol := fun n s₀ v s kap =>
  ∃ x ip σ H oS oL i, n + 1 + i = T ∧ RelV x v ∧ Yd i x H ∧ s₀.heap.get? S = some oS ∧ s₀.heap.get? L = some oL ∧ Inv X ((S, oS) :: (L, oL) :: ip) σ H s ∧ ∀ s', Naps S L s s' → kap (.send .none) s'
section
variable {X : Cx} {tg e : Expr} {yp ep : Pos} {J : It} {fp : List Addr} {it S L : Addr} {tn : Nat → Heap → Prop} {g : TG} {te : TE} {T : Nat} {Yd : Nat → V → Hp → Prop} {Qd : Hp → Prop} {Pv : Nat → L2.St → Hp → Prop}
  {A : Around} {R : GenEnd} {c : Code} {fs : List Frame} {kk : Result → Sem PySem.Fin} {l kp : List Value} {p : Pos}
theorem gen_loop (hx : ∀ e s, ¬ X.xe e s) (hc : X.calm = true) (Tn : Turn X.prog X.w X.K tg J fp it tn) (hg : PG X tg g) (he : PE X e te) (hco : X.env.scope.isCoroutine = false) (hi : interactive X.env = false)
    (hpn : ∀ p ∈ X.pn, p.1 ≠ S ∧ p.1 ≠ L) (hS : Far X S) (hL : Far X L) (hfp : ∀ b ∈ fp, b ≠ S ∧ b ≠ L ∧ ∀ H oS oL, H b = none → FpOk X [(S, oS), (L, oL)] H b)
    (go : ∀ i σ H, i < T → Pv i σ H → J.go i H ∧ ∀ x H', J.yld i H x H' → g x σ H' fun σ2 H2 => te σ2 H2 fun y H3 => Yd i y H3 ∧ Pv (i + 1) σ2 H3)
    (stop : ∀ σ H, Pv T σ H → J.stop T H ∧ Qd H)
    (over : A.over (.forLoop tg (.ref it) [.Expr (.Yield (some e) yp) ep] [] X.env) (.ret kk none false l c p kp :: fs) = X.A) (split : splitAtGen (.ret kk none false l c p kp :: fs) = none) (guard : (Frame.ret kk none false l c p kp :: fs).any Frame.guarded = false)
    (fin : ∀ s₀ s σ H oS oL, s₀.heap.get? S = some oS → s₀.heap.get? L = some oL → Inv X [(S, oS), (L, oL)] σ H s → Qd H → Seg (model X.prog X.w) A R (YP X S L T Yd) 0 s₀ c (kk (.ok .next)) fs s) :
    ∀ (n i : Nat) (s₀ s : Shared) (σ : L2.St) (H : Hp) (oS oL : Obj), n + i = T → s₀.heap.get? S = some oS → s₀.heap.get? L = some oL → Inv X [(S, oS), (L, oL)] σ H s → tn i s.heap → (∀ b ∈ fp, H b = none) → Pv i σ H →
      Seg (model X.prog X.w) A R (YP X S L T Yd) n s₀ (.forLoop tg (.ref it) [.Expr (.Yield (some e) yp) ep] [] X.env) ((model X.prog X.w).den (.forLoop tg (.ref it) [.Expr (.Yield (some e) yp) ep] [] X.env)) (.ret kk none false l c p kp :: fs) s := by
  intro n
  induction n with
  | zero =>
    intro i s₀ s σ H oS oL hn e1 e2 I st hf hP
    have hi' : i = T := by omega
    subst hi'
    refine seg_forTurn ?_ split guard hco hi
    rw [over]
    obtain ⟨sp, hq⟩ := stop σ H hP
    refine wpAny_mono (Tn.done X rfl rfl rfl hc i _ s σ H (fun _ _ => False) I (fun b hb => (hfp b hb).2.2 H oS oL (hf b hb)) st sp) (fun r s1 hr => ?_) fun _ _ z => z
    obtain ⟨rfl, I1⟩ := hr
    exact seg_leaf (.ok .next) (fin s₀ s1 σ H oS oL e1 e2 I1 hq)
  | succ n ih =>
    intro i s₀ s σ H oS oL hn e1 e2 I st hf hP
    refine seg_forTurn ?_ split guard hco hi
    rw [over]
    obtain ⟨gi, step⟩ := go i σ H (by omega) hP
    refine wpAny_mono (Tn.item X rfl rfl rfl hc i _ s σ H (fun _ _ => False) I (fun b hb => (hfp b hb).2.2 H oS oL (hf b hb)) st gi) (fun r s1 hr => ?_) fun _ _ z => z
    obtain ⟨u, rfl, h1⟩ := hr
    refine ⟨n, rfl, wpAny_mono h1 (fun _ s2 h2 => ?_) fun _ _ z => z⟩
    obtain ⟨x, H2, I2, r2, y2, st2, f2⟩ := h2
    have I3 := I2.pinned (fun b hb => (hfp b hb).2.2 H2 oS oL (f2 b hb)) (Tn.obj _ _ st2)
    refine wpAny_mono (hg.run _ s2 σ H2 x u _ I3 r2 (step x H2 y2)) (fun _ s3 h3 => ?_) fun e s z => hx e s z
    obtain ⟨σ3, H3, I4, q3⟩ := h3
    refine wpAny_mono (he.run _ s3 σ3 H3 _ I4 q3) (fun w s4 h4 => ?_) fun e s z => hx e s z
    obtain ⟨y, H4, I5, r5, yd, hP'⟩ := h4
    intro kap hk
    refine ⟨y, pinsAt fp s2.heap, σ3, H4, oS, oL, i, by omega, r5, yd, e1, e2, I5, fun s'' nap => hk .none s'' ?_⟩
    obtain ⟨oS', oL', g1, g2, I6⟩ := wakes (ip := pinsAt fp s2.heap) hpn (fun p hp => ⟨(hfp _ (of_pinsAt hp).1).1, (hfp _ (of_pinsAt hp).1).2.1⟩) hS hL I5 nap
    have pin : ∀ b ∈ fp, ∀ o, s2.heap.get? b = some o → s''.heap.get? b = some o ∧ H4 b = none := fun b hb o eo =>
      let z := I6.pin (b, o) (List.mem_append_right _ (List.mem_cons_of_mem _ (List.mem_cons_of_mem _ (mem_pinsAt hb eo))))
      ⟨z.1, z.2.1⟩
    refine ih (i + 1) s'' s'' σ3 H4 oS' oL' (by omega) g1 g2 (Inv.unpinned (pins := [(S, oS'), (L, oL')]) (pl := pinsAt fp s2.heap) I6) (Tn.keep _ _ _ st2 fun b hb o eo => (pin b hb o eo).1) (fun b hb => ?_) hP'
    obtain ⟨o, eo, _⟩ := Tn.obj _ _ st2 b hb
    exact (pin b hb o eo).2
end
end K7G
end
/-! ## E8 -/
section
namespace K7G
open PySem PySem.Spec PyProof.Rows L2 GenW
/-- the whole body: one loop that hands out -/
theorem gen_body {X : Cx} {tg iter e : Expr} {yp ep pos : Pos} {S L : Addr} {T : Nat} {Yd : Nat → V → Hp → Prop} {Qd : Hp → Prop} {wi : TI} {g : TG} {te : TE} {A : Around} {R : GenEnd} {s₀ s : Shared} {σ : L2.St} {H : Hp} {oS oL : Obj}
    (hx : ∀ e s, ¬ X.xe e s) (hc : X.calm = true) (hi : PI X tg iter wi) (hg : PG X tg g) (he : PE X e te) (hco : X.env.scope.isCoroutine = false) (hint : interactive X.env = false) (hs : ∀ x, foldedSetIterable iter X.env x = pure x)
    (hpn : ∀ p ∈ X.pn, p.1 ≠ S ∧ p.1 ≠ L) (hS : Far X S) (hL : Far X L) (over : A.over (.func [.For tg iter [.Expr (.Yield (some e) yp) ep] [] pos] X.env) [] = X.A)
    (hq : wi σ H fun J H1 => ∃ Pv : Nat → L2.St → Hp → Prop, Pv 0 σ H1 ∧ (∀ i σ H, i < T → Pv i σ H → J.go i H ∧ ∀ x H', J.yld i H x H' → g x σ H' fun σ2 H2 => te σ2 H2 fun y H3 => Yd i y H3 ∧ Pv (i + 1) σ2 H3) ∧ ∀ σ H, Pv T σ H → J.stop T H ∧ Qd H)
    (e1 : s₀.heap.get? S = some oS) (e2 : s₀.heap.get? L = some oL) (I : Inv X [(S, oS), (L, oL)] σ H s)
    (fin : ∀ s₀ s σ H oS oL, s₀.heap.get? S = some oS → s₀.heap.get? L = some oL → Inv X [(S, oS), (L, oL)] σ H s → Qd H → R 0 s₀ (.ok (.ret .none)) s) :
    Seg (model X.prog X.w) A R (YP X S L T Yd) T s₀ (.func [.For tg iter [.Expr (.Yield (some e) yp) ep] [] pos] X.env) ((model X.prog X.w).den (.func [.For tg iter [.Expr (.Yield (some e) yp) ep] [] pos] X.env)) [] s := by
  refine seg_func ?_
  refine seg_execs_cons ?_
  refine seg_forStmt hs ?_
  rw [over]
  refine wpAny_mono (hi.run _ s σ H _ I hq) (fun v s1 h1 => wpAny_mono h1 (fun itv s2 h2 => ?_) fun e s z => hx e s z) fun e s z => hx e s z
  obtain ⟨it, fp, tn, J, H2, rfl, I2, Tn, st2, f2, Pv, p0, go, stop⟩ := h2
  intro p
  have hfp : ∀ b ∈ fp, b ≠ S ∧ b ≠ L ∧ ∀ H oS oL, H b = none → FpOk X [(S, oS), (L, oL)] H b := fun b hb => by
    obtain ⟨_, f1, f2', f3, f4, f5⟩ := f2 b hb
    have n1 : S ≠ b := f5 (S, oS) (List.mem_append_right _ List.mem_cons_self)
    have n2 : L ≠ b := f5 (L, oL) (List.mem_append_right _ (List.mem_cons_of_mem _ List.mem_cons_self))
    refine ⟨Ne.symm n1, Ne.symm n2, fun H' o1 o2 hn => ⟨hn, f1, f2', f3, f4, fun q hq => ?_⟩⟩
    rcases List.mem_append.mp hq with z | z
    · exact f5 q (List.mem_append_left _ z)
    · rcases List.mem_cons.mp z with z | z
      · rw [z]; exact n1
      · rw [List.mem_singleton.mp z]; exact n2
  refine gen_loop hx hc Tn hg he hco hint hpn hS hL hfp go stop ((over_loop rfl rfl).trans over) rfl rfl (fun s₀ s σ H oS oL g1 g2 I3 hq3 => ?_) T 0 s₀ s2 σ H2 oS oL (Nat.add_zero _) e1 e2 I2 st2 (fun b hb => (f2 b hb).1) p0
  exact seg_end (.ok (.ret .none)) (fin s₀ s σ H oS oL g1 g2 I3 hq3)

/-- an item is out -/
def YE (P : Program) (w : World) (K : PySem.W.Frag) (outer : List Env) (H : Hp) (s : Shared) (S L a : Addr) (g T : Nat) (Yd : Nat → V → Hp → Prop) : Protocol := fun n s₀ v s1 kap =>
  ∃ x H' i, n + 1 + i = T ∧ RelV x v ∧ Yd i x H' ∧ s1.os = s.os ∧ AllBare s1.gens ∧ s1.heap.NoLimit ∧ s1.heap.IsGen a g ∧ K.In s1.heap ∧ HOk P w H' s1.heap ∧ H' S = none ∧ H' L = none ∧ s1.heap.get? S = s₀.heap.get? S ∧ s1.heap.get? L = s₀.heap.get? L ∧
    ∀ s', Naps S L s1 s' → kap (.send .none) s'
/-- the end -/
def FE (P : Program) (w : World) (outer : List Env) (H : Hp) (s : Shared) (S L : Addr) (Qd : Hp → Prop)   : Nat → Shared → Shared → Prop := fun n s₀ s1 =>
  n = 0 ∧ ∃ H', s1.os = s.os ∧ AllBare s1.gens ∧ Un (frs outer) [] H H' s.heap s1.heap ∧ HOk P w H' s1.heap ∧ H' S = none ∧ H' L = none ∧ s1.heap.get? S = s₀.heap.get? S ∧ s1.heap.get? L = s₀.heap.get? L ∧ Qd H'
def RE (P : Program) (w : World) (outer : List Env) (H : Hp) (s : Shared) (S L a : Addr) (g : Nat) (Qd : Hp → Prop) : GenEnd := fun n s₀ r s1 =>
  ((r = .ok (.ret .none) ∨ r = .ok .next) ∧ FE P w outer H s S L Qd n s₀ s1) ∨ ∃ e, r = .error e ∧ (fun (_ : Value) (_ : Shared) => False) e s1
/-- a generator that has not begun -/
def Made (P : Program) (w : World) (K : PySem.W.Frag) (k : Nat) (outer : List Env) (H : Hp) (s : Shared) (T : Nat) (Yd : Nat → V → Hp → Prop) (Qd : Hp → Prop) (u : Value) (s' : Shared) : Prop :=
  ∃ (a : Addr) (g : Nat) (c : Code), u = .ref a ∧ s.heap.objs.size ≤ a ∧ a < s'.heap.objs.size ∧ s'.heap.IsGen a g ∧ s'.gens[g]? = some (.fresh c) ∧ s'.os = s.os ∧ AllBare s'.gens ∧ s'.heap.NoLimit ∧ (∀ b o, s.heap.get? b = some o → s'.heap.get? b = some o) ∧
    ∀ (A : Around) (S L : Addr) (s2 : Shared), Room k A → A.frames = some outer → s'.heap.objs.size ≤ S → s'.heap.objs.size ≤ L → (∀ b o, s'.heap.get? b = some o → s2.heap.get? b = some o) → (∃ o, s2.heap.get? S = some o ∧ ∀ v, o.data ≠ .cell v) → (∃ o, s2.heap.get? L = some o ∧ ∀ v, o.data ≠ .cell v) → s2.os = s.os → AllBare s2.gens →
      Seg (model P w) A (RE P w outer H s S L a g Qd) (YE P w K outer H s S L a g T Yd) T s2 c ((model P w).den c) [] s2

theorem made_of {P : Program} {w : World} {K : PySem.W.Frag} {mg : Str → Option Value} {base : Heap} {k : Nat} {f : Addr} {name qual : Str} {params : Arguments} {tg iter e : Expr} {yp ep pos : Pos} {scope : Scope} {kV doc pm cdv ct oc : Value} {an od : Option Addr}
    {osl : Array (Option Value)} {N : List Str} {T : Nat} {Yd : Nat → V → Hp → Prop} {Qd : Hp → Hp → Prop}
    (lk : K.lookup f = some ⟨oc, od, .func (PySem.W.fnOf name qual params [.For tg iter [.Expr (.Yield (some e) yp) ep] [] pos] scope .none kV doc pm an cdv ct), osl⟩) (hcd : PySem.W.codeIn K cdv qual = true) (Sc : GScope N [] scope)
    (hint : ∀ n, interactive (envOfC qual scope n f cdv) = false) (hs : ∀ (env : Env) x, foldedSetIterable iter env x = pure x)
    (hbody : ∀ (A : Around) (outer : List Env) (s : Shared) (H : Hp) (pn : List (Addr × Obj)), Room k (A.deeper (envOfC qual scope s.heap.objs.size f cdv)) →
      ∃ (wi : TI) (g : TG) (te : TE), PI (gcxOf P w K mg base N qual scope f cdv A outer s H E0 pn).nox tg iter wi ∧ PG (gcxOf P w K mg base N qual scope f cdv A outer s H E0 pn).nox tg g ∧ PE (gcxOf P w K mg base N qual scope f cdv A outer s H E0 pn).nox e te ∧
        wi (start N []) H fun J H1 => ∃ Pv : Nat → L2.St → Hp → Prop, Pv 0 (start N []) H1 ∧ (∀ i σ H, i < T → Pv i σ H → J.go i H ∧ ∀ x H', J.yld i H x H' → g x σ H' fun σ2 H2 => te σ2 H2 fun y H3 => Yd i y H3 ∧ Pv (i + 1) σ2 H3) ∧ ∀ σ H', Pv T σ H' → J.stop T H' ∧ Qd H H')
    (hb : Binds K (PySem.W.fnOf name qual params [.For tg iter [.Expr (.Yield (some e) yp) ep] [] pos] scope .none kV doc pm an cdv ct) [] []) :
    ∀ (A : Around) (outer : List Env) (s : Shared) (H : Hp), Room (k + 1) A → Env0 P w K mg base A outer s H →
      codeAny (model P w) A (.call (.ref f) ⟨[], []⟩) (fun r s' => match r with | .ok (.ret u) => Made P w K (k + 1) outer H s T Yd (Qd H) u s' | _ => False) s := by
  intro A outer s H hr e0
  have KX : K.In s.heap := e0.mod.kin.keeps fun b o e => (e0.bs b o e).1
  have lim : s.heap.NoLimit := e0.mod.nolimit.keeps fun b o e => (e0.bs b o e).1
  have hbb := hb s [] KX rfl
  refine codeAny_call_generator hr.depth (KX _ _ lk) rfl Sc.co Sc.gen rfl (PySem.W.codeRec_of KX hcd) (hbb _ _ _ _ ?_)
  refine wpAny_newFunctionEnv_cells (binds := ([] : List Str).zip []) Sc.kind (fun y hy => nomatch hy) fun env he s1 x => ?_
  subst he
  have lim1 : s1.heap.NoLimit := lim.keeps x.toInCall.keep
  refine ⟨lim1, ?_⟩
  obtain ⟨h1, tk, es1, hk1⟩ := x.done
  have o1 : s1.os = s.os := by rw [es1]
  have gn1 : s1.gens = s.gens := by rw [es1]
  have lt1 : s.heap.objs.size < s1.heap.objs.size := x.toInCall.ns.lt
  have sz1 := Nat.le_of_lt lt1
  have kp1 := x.toInCall.keep
  have main : ∀ (go : Obj) (nm qn : Value) (tk2 : Nat), go.cls = .type "generator" → go.data = .fields #[.int s1.gens.size 0, nm, qn] → go.slots = #[] → (∀ h : Heap, (h.push go).get? h.objs.size = some go) →
      Made P w K (k + 1) outer H s T Yd (Qd H) (.ref s1.heap.objs.size) { s1 with gens := s1.gens.push (.fresh (.func [.For tg iter [.Expr (.Yield (some e) yp) ep] [] pos] (envOfC qual scope s.heap.objs.size f cdv))), toks := tk2, heap := s1.heap.push go } := by
    intro go nm qn tk2 g1 g2 g3 g4
    have isg : ∀ h : Heap, h.get? s1.heap.objs.size = some go → h.IsGen s1.heap.objs.size s1.gens.size := fun h q => ⟨go, nm, qn, q, g1, g2, g3⟩
    have at0 : (s1.heap.push go).get? s1.heap.objs.size = some go := g4 _
    have nocell : ∀ v, go.data ≠ .cell v := fun v q => by rw [g2] at q; cases q
    refine ⟨_, s1.gens.size, _, rfl, sz1, by show _ < (s1.heap.push _).objs.size; rw [Heap.size_push]; exact Nat.lt_succ_self _, isg _ at0, Array.getElem?_push_size .., o1, AllBare.push (by rw [gn1]; exact e0.bare) rfl, lim1.keeps fun b o q => Heap.get?_push_of_some _ q, fun b o q => Heap.get?_push_of_some _ (kp1 b o q), ?_⟩
    intro B S L s2 hrB hfr hS hL hk2 hoS hoL hos hba
    have eB : Env0 P w K mg base B outer s H := ⟨hfr, e0.mod, e0.bs, e0.bsz, e0.funs, e0.frf, e0.hok, e0.bare⟩
    obtain ⟨wi, tgt, te, pi, pg, pe, hq⟩ := hbody B outer s H [(s1.heap.objs.size, go)] (hrB.deeper _)
    have I1 : Inv (gcxOf P w K mg base N qual scope f cdv B outer s H E0 []) [] (start N []) H s1 := inv_startG Sc hrB.hd eB rfl .nil x
    have kp2 : ∀ b o, s1.heap.get? b = some o → s2.heap.get? b = some o := fun b o q => hk2 b o (Heap.get?_push_of_some _ q)
    have I2 := I1.call' (ch := []) (hos.trans o1.symm) (Un.kept kp2) (I1.hok.kept kp2) hba fun b z => by simp at z
    have hSz : s1.heap.objs.size < S := by
      have q : (s1.heap.push go).objs.size ≤ S := hS
      rw [Heap.size_push] at q
      exact q
    have hLz : s1.heap.objs.size < L := by
      have q : (s1.heap.push go).objs.size ≤ L := hL
      rw [Heap.size_push] at q
      exact q
    have young : ∀ b, s1.heap.objs.size ≤ b → H b = none ∧ b ≠ s.heap.objs.size ∧ b ∉ frs outer ∧ s.heap.objs.size ≤ b ∧ ∀ y c, (cellsFrom (s.heap.objs.size + 1) scope.names []).lookup y = some c → c ≠ b := fun b hb => by
      refine ⟨I1.hok.fresh hb, fun z => absurd lt1 (by omega), I1.nofs hb, Nat.le_trans sz1 hb, fun y c q z => ?_⟩
      obtain ⟨v, ob, ho, _⟩ := I1.cell y c q
      have h5 := Heap.lt_size ho
      rw [z] at h5
      exact absurd (Nat.lt_of_lt_of_le h5 hb) (Nat.lt_irrefl _)
    have far : ∀ b, s1.heap.objs.size ≤ b → Far (gcxOf P w K mg base N qual scope f cdv B outer s H E0 [(s1.heap.objs.size, go)]).nox b := fun b hb => by
      obtain ⟨_, y2, _, y4, y5⟩ := young b hb
      exact ⟨y4, y2, y5⟩
    obtain ⟨oS, eS, cS⟩ := hoS
    obtain ⟨oL, eL, cL⟩ := hoL
    have I3 : Inv (gcxOf P w K mg base N qual scope f cdv B outer s H E0 [(s1.heap.objs.size, go)]) [(S, oS), (L, oL)] (start N []) H s2 := Inv.pinnedG I2 fun p hp => by
      have e3 : p = (s1.heap.objs.size, go) ∨ p = (S, oS) ∨ p = (L, oL) := by simpa using hp
      rcases e3 with q | q | q
      · rw [q]
        obtain ⟨y1, y2, y3, _, _⟩ := young s1.heap.objs.size (Nat.le_refl _)
        exact ⟨hk2 _ _ at0, y1, y2, y3, nocell⟩
      · rw [q]
        obtain ⟨y1, y2, y3, _, _⟩ := young S (Nat.le_of_lt hSz)
        exact ⟨eS, y1, y2, y3, cS⟩
      · rw [q]
        obtain ⟨y1, y2, y3, _, _⟩ := young L (Nat.le_of_lt hLz)
        exact ⟨eL, y1, y2, y3, cL⟩
    have I4 := I3.wish fun _ _ => False
    have seg := gen_body (X := (gcxOf P w K mg base N qual scope f cdv B outer s H E0 [(s1.heap.objs.size, go)]).nox) (S := S) (L := L) (T := T) (Yd := Yd) (Qd := Qd H) (A := B) (s₀ := s2) (R := RE P w outer H s S L s1.heap.objs.size s1.gens.size (Qd H))
      (yp := yp) (ep := ep) (pos := pos) (fun _ _ z => z) rfl pi pg pe Sc.co (hint _) (hs _) (fun p hp => by rw [List.mem_singleton.mp hp]; exact ⟨Nat.ne_of_lt hSz, Nat.ne_of_lt hLz⟩) (far S (Nat.le_of_lt hSz)) (far L (Nat.le_of_lt hLz)) over_func hq eS eL I4
      (fun s₀ s' σ' H' o1' o2' q1 q2 J qd => by
        have pS := J.pin (S, o1') (List.mem_append_right _ List.mem_cons_self)
        have pL := J.pin (L, o2') (List.mem_append_right _ (List.mem_cons_of_mem _ List.mem_cons_self))
        exact .inl ⟨.inl rfl, rfl, H', J.os, J.bare, J.base, J.hok, pS.2.1, pL.2.1, pS.1.trans q1.symm, pL.1.trans q2.symm, qd⟩)
    refine seg_imp (fun _ _ _ _ q => q) (fun n s₀ v s' kap kap' hkk hY => ?_) T seg
    obtain ⟨y, ip, σ', H', o1', o2', i, hn, rv, yd, q1, q2, J, nap⟩ := hY
    have pG := J.pin (s1.heap.objs.size, go) (List.mem_append_left _ (List.mem_singleton.mpr rfl))
    have pS := J.pin (S, o1') (List.mem_append_right _ List.mem_cons_self)
    have pL := J.pin (L, o2') (List.mem_append_right _ (List.mem_cons_of_mem _ List.mem_cons_self))
    exact ⟨y, H', i, hn, rv, yd, J.os, J.bare, J.nolimit, isg _ pG.1, J.kIn, J.hok, pS.2.1, pL.2.1, pS.1.trans q1.symm, pL.1.trans q2.symm, fun s' z => hkk _ _ (nap s' z)⟩
  exact main _ _ _ _ rfl rfl rfl fun h => Heap.get?_push_size _ rfl
end K7G
end
/-! ## E9 -/
section
namespace K7G
open PySem PySem.Spec PyProof.Rows L2 GenW
theorem upTo_succ (i : Nat) : K7E.upTo (i + 1) = K7E.upTo i ++ [.int (i : Nat)] := by
  unfold K7E.upTo
  rw [List.range_succ, List.map_append]
  rfl
theorem upTo_len (i : Nat) : (K7E.upTo i).length = i := by
  unfold K7E.upTo
  rw [List.length_map, List.length_range]
/-- [y.fld for y in fn()], fn a generator def that hands out objects whose fld is their place -/
theorem pe_lcGen {X : Cx} {y fld fn : Str} {p1 p2 p3 p4 p5 p6 : Pos} {scope : Scope} {own : List (Str × Nat)} {k T : Nat} {f C : Addr} {Yd : Nat → V → Hp → Prop} {Qd : Hp → Hp → Prop} (hc : X.calm = true) (hN : X.N.Nodup) (ok : BlkOk X.N X.env.scope scope own)
    (G : ∀ (s : Shared) (H : Hp), Env0 X.prog X.w X.K X.mg X.base X.A X.stack s H → codeAny (model X.prog X.w) X.A (.call (.ref f) ⟨[], []⟩) (fun r s' => match r with | .ok (.ret u) => Made X.prog X.w X.K k X.stack H s T Yd (Qd H) u s' | _ => False) s)
    (hr1 : Room k X.A.in1) (hd : X.A.depth < recursionLimit) (hg : Gl X fn) (hm : X.mg fn = some (.ref f)) (hk : PySem.W.keepIn X.K (.ref f) = true)
    (hyd : ∀ i x H', Yd i x H' → ∃ p dx fs, x = .ref p ∧ H' p = some (.ins C dx fs) ∧ fs.lookup fld = some (.int (i : Nat))) (cl : Cls X.K C) (nA : NoAttr X.K C fld) (hT : T ≤ 1000)
    (hyl : ∀ cl L, (compEnvC scope cl L X.env).kindOf y = some .local) (hyk : ∀ cl L, (compEnvC scope cl L X.env).scope.kind = .function) (hdb : (y == ("__debug__" : Str)) = false) (hdf : (fn == ("__debug__" : Str)) = false)
    (hab : ∀ cl L, attributeBase (.Name y p1) fld (compEnvC scope cl L X.env) (eval (.Name y p1) (compEnvC scope cl L X.env)) = eval (.Name y p1) (compEnvC scope cl L X.env)) (hs : ∀ x, foldedSetIterable (.Call (.Name fn p4) [] [] p5) X.env x = pure x) :
    PE X (.ListComp (.Attribute (.Name y p1) fld p2) [⟨.Name y p3, .Call (.Name fn p4) [] [] p5, [], 0⟩] scope p6) (fun σ H Q => ∀ H' D, Qd H H' → H D = none → H' D = none → Q (.ref D) (upd H' D (.lst (K7E.upTo T)))) := by
  refine ⟨fun pins s σ H Q I h => ?_⟩
  rw [eval_ListComp]
  have hfree : ∀ y ∈ scope.names, y.2 = .free → ∃ c, X.env.cells.lookup y.1 = some c := fun y hy e => by
    rcases ok.free y hy e with q | q
    · exact I.ok.has _ (.inl q)
    · exact I.ok.has _ (.inr q)
  refine wpAny_comprehension_free (use := none) rfl hs (closure_ok hfree) ok.kind (fun y hy e => by rw [ok.uniq y hy, e]) ?_
  refine wpAny_Call_Name_kw (ld_glob I hg hm ?_ hdf)
  refine PySem.W.callWith_K0 I.kIn hk (wpAny_call (codeAny_mono (G s H I.env0) fun r s1 hr => ?_))
  cases r with
  | error e => exact hr.elim
  | ok fl =>
    cases fl with
    | next => exact hr.elim
    | brk => exact hr.elim
    | cont => exact hr.elim
    | ret u =>
      obtain ⟨a, g, c, rfl, ha1, ha2, hgen, hgs, hos, hba, hlim, hkp, wake⟩ := hr
      refine wpAny_pyIter_gen hgen ?_
      refine wpAny_newObj_type (newEnv_comp ?_) (by show 0 ≤ sizeLine; decide)
      -- the state before the loop
      have I1 : Inv X pins σ H s1 := I.call' (ch := []) hos (Un.kept hkp) (I.hok.kept hkp) hba fun b z => by simp at z
      generalize hs3 : ({ s1 with heap := s1.heap.push { cls := .type "list", data := .seq ([] : List Value).toArray } } : Shared) = s3
      have h3 : s3.heap = s1.heap.push { cls := .type "list", data := .seq ([] : List Value).toArray } := by rw [← hs3]
      have hD1 : H s1.heap.objs.size = none := I1.hok.fresh (Nat.le_refl _)
      have I3 : Inv X pins σ (upd H s1.heap.objs.size (.lst [])) s3 := by
        rw [← hs3]
        exact I1.laid (t' := s1.toks) (fun b o e => Heap.get?_push_of_some _ e) (Nat.le_refl _) ⟨Nat.zero_le _, [], 0, .nil, Heap.get?_push_size _ rfl⟩
      have I4 := block_start (fp := []) I3 ok hN fun b hb => by simp at hb
      show codeAny _ _ (.compStart (.ListComp (.Attribute (.Name y p1) fld p2) [⟨.Name y p3, .Call (.Name fn p4) [] [] p5, [], 0⟩] scope p6) 0 (.ref a) (.ref s1.heap.objs.size) (compEnvC scope (cellsFrom (s3.heap.objs.size + 1) scope.names (cloFrom X.env.cells scope.names [])) s3.heap.objs.size X.env)) (compPost (model X.prog X.w) X.A X.xe none _ (.ref s1.heap.objs.size) s3.heap.objs.size) { s3 with heap := pushCells (s3.heap.push { cls := .type "dict", data := .dict #[] }) scope.names }
      have yl := hyl (cellsFrom (s3.heap.objs.size + 1) scope.names (cloFrom X.env.cells scope.names [])) s3.heap.objs.size
      have yk := hyk (cellsFrom (s3.heap.objs.size + 1) scope.names (cloFrom X.env.cells scope.names [])) s3.heap.objs.size
      have ab := hab (cellsFrom (s3.heap.objs.size + 1) scope.names (cloFrom X.env.cells scope.names [])) s3.heap.objs.size
      have hL3 : s3.heap.objs.size = s1.heap.objs.size + 1 := by rw [h3, Heap.size_push]
      generalize hce : compEnvC scope (cellsFrom (s3.heap.objs.size + 1) scope.names (cloFrom X.env.cells scope.names [])) s3.heap.objs.size X.env = ce at I4 yl yk ab ⊢
      have cL : ce.locals = s3.heap.objs.size := by subst hce; rfl
      have k34 : ∀ b o, s3.heap.get? b = some o → (pushCells (s3.heap.push { cls := .type "dict", data := .dict #[] }) scope.names).get? b = some o := fun b o e => pushCells_keeps _ _ _ _ (Heap.get?_push_of_some _ e)
      have k14 : ∀ b o, s1.heap.get? b = some o → (pushCells (s3.heap.push { cls := .type "dict", data := .dict #[] }) scope.names).get? b = some o := fun b o e => k34 b o (by rw [h3]; exact Heap.get?_push_of_some _ e)
      have hD4 : (pushCells (s3.heap.push { cls := .type "dict", data := .dict #[] }) scope.names).get? s1.heap.objs.size = some (lstObj #[] 0) := k34 _ _ (by rw [h3]; exact Heap.get?_push_size _ rfl)
      obtain ⟨m4, hns4, _⟩ := I4.loc
      have hns4 : ({ s3 with heap := pushCells (s3.heap.push { cls := .type "dict", data := .dict #[] }) scope.names } : Shared).heap.Ns ce.locals m4 := hns4
      rw [cL] at hns4
      generalize hs4 : ({ s3 with heap := pushCells (s3.heap.push { cls := .type "dict", data := .dict #[] }) scope.names } : Shared) = s4 at hns4 ⊢
      have h4 : s4.heap = pushCells (s3.heap.push { cls := .type "dict", data := .dict #[] }) scope.names := by rw [← hs4]
      rw [← h4] at k34 k14 hD4
      have os4 : s4.os = s.os := by rw [← hs4, ← hs3]; exact hos
      have gn4 : s4.gens = s1.gens := by rw [← hs4, ← hs3]
      generalize hDD : s1.heap.objs.size = D at *
      generalize hLL : s3.heap.objs.size = L at *
      have aD : a ≠ D := Nat.ne_of_lt ha2
      have ltDL : D < L := by rw [hL3]; exact Nat.lt_succ_self D
      have aL : a ≠ L := Nat.ne_of_lt (Nat.lt_trans ha2 ltDL)
      have DL : D ≠ L := Nat.ne_of_lt ltDL
      have sD : s.heap.objs.size ≤ D := Nat.le_trans ha1 (Nat.le_of_lt ha2)
      have loop : codeAny (model X.prog X.w) X.A (.compLoop (.ListComp (.Attribute (.Name y p1) fld p2) [⟨.Name y p3, .Call (.Name fn p4) [] [] p5, [], 0⟩] scope p6) 0 (.ref a) (.ref D) ce) (compPost (model X.prog X.w) X.A X.xe none (EP X pins σ Q) (.ref D) L) s4 := by
        refine compLoop_any (fun n s' => ∃ i gs acc cnt m, n + i = T ∧ s'.heap.IsGen a g ∧ s'.heap.NoLimit ∧ s'.gens[g]? = some gs ∧ gs.Goes (model X.prog X.w) X.A.in1 (RE X.prog X.w X.stack H s D L a g (Qd H)) (YE X.prog X.w X.K X.stack H s D L a g T Yd) n (.send .none) (s'.setGen g .running) ∧
          s'.heap.get? D = some (lstObj acc cnt) ∧ Vals (K7E.upTo i) acc.toList ∧ s'.heap.Ns L m) ?_ T ⟨0, .fresh c, #[], 0, m4, Nat.add_zero _, hgen.keeps k14, hlim.keeps k14, by rw [gn4]; exact hgs, ⟨rfl, ?_⟩, hD4, .nil, hns4⟩
        · rintro n s5 ⟨i, gs, acc, cnt, m, hn, hgen5, hlim5, hgs5, hgo, hD5, hv5, hL5⟩
          have hgl : g < s5.gens.size := (Array.getElem?_eq_some_iff.mp hgs5).1
          obtain ⟨obL, esL, epL, eL1, eL2, eL3, eL4⟩ := id hL5
          have asz : acc.size = i := by
            have := hv5.length
            rw [upTo_len] at this
            simpa using this.symm
          refine wpAny_gsz (n := g + 1) hgl (next_genG (A := X.A) (I.ok.hd hc) hlim5 hd hgen5 hgs5 hgo (fun v s6 gs' hbr hv => ?_) (fun s6 hF h' hk' => ?_) fun e s6 he => he.elim)
          · intro hsz
            obtain ⟨x, H', j, hj, rx, yd, os6, ba6, lim6, gen6, kin6, hok6, hD6, hL6, eD, eL, kap⟩ := hv
            have hD7 : s6.heap.get? D = some (lstObj acc cnt) := eD.trans hD5
            have hL7 : s6.heap.get? L = some obL := eL.trans eL1
            cases n with
            | zero => exact (kap s6 ⟨rfl, ba6, fun _ _ _ _ q => q, ⟨_, hD7, fun v q => by cases q⟩, ⟨_, hL7, fun v q => by rw [eL2] at q; cases q⟩⟩).elim
            | succ n =>
              have ji : j = i := by omega
              subst ji
              obtain ⟨p, dx, fs, rfl, hp, hl⟩ := hyd j x H' yd
              obtain rfl : v = Value.ref p := rx
              have hgsz : g < s6.gens.size := by
                have q : (s6.setGen g gs').gens.size = s6.gens.size := setGen_size _ _ _
                have q2 : g + 1 ≤ (s6.setGen g gs').gens.size := hsz
                omega
              refine wpAny_pure ?_
              refine wpAny_assign_Name (wpAny_storeName_local (m := m) yl (by rw [cL]; exact ⟨obL, esL, epL, hL7, eL2, eL3, eL4⟩) (fun h8 hn8 sb8 => ?_) ?_)
              · rw [cL] at hn8 sb8
                refine wpAny_tests_nil ?_
                rw [if_pos rfl]
                have nL : ∀ b u, H' b = some u → b ≠ L := fun b u q z => by rw [z, hL6] at q; cases q
                have hok8 : HOk X.prog X.w H' h8 := fun b u q => (hok6 b u q).stay (fun b' v' hb' y' => by
                  rcases hb' with w | w
                  · rw [w] at y' ⊢; exact (sb8.2 b (nL b u q)).trans y'
                  · exact (sb8.2 b' (nL b' _ w)).trans y') (fun _ z => z) fun _ _ z => z
                have old : ∀ b o, s.heap.get? b = some o → b ≠ D ∧ b ≠ L := fun b o e => by
                  have h0 := Nat.lt_of_lt_of_le (Heap.lt_size e) sD
                  exact ⟨Nat.ne_of_lt h0, Nat.ne_of_lt (Nat.lt_trans h0 ltDL)⟩
                have kin8 : X.K.In h8 := fun b o e => (sb8.2 b (old b o (I.bk b o (I.mod.kin b o e))).2).trans (kin6 b o e)
                obtain ⟨mA, O, rr, _, _, _⟩ := ins_get hok8 hp
                obtain ⟨u, hu, ru⟩ := RelO.some_of (v := .int (j : Nat)) (o := mA fld) (by rw [← hl]; exact rr fld)
                refine attr_of ab (wpAny_Name (wpAny_loadName_local (v := Value.ref p) yk yl (by rw [cL]; exact hn8) (by simp) ?_) hdb)
                refine get_map kin8 O (cl.get fld) cl.hd nA hu (handed_of ru) ?_
                refine append_at (n := cnt) (its := acc) ((sb8.2 D DL).trans hD7) (fun h9 sb9 hD10 => ?_) (Nat.le_trans (by omega : acc.size ≤ 1000) (by decide))
                obtain ⟨og, nm, qn, hog, rg⟩ := gen6
                obtain ⟨mc, hmc, hnn⟩ := lim6
                obtain ⟨_, hst, _⟩ := I.nolimit
                obtain ⟨os0, _, _, hst0, _⟩ := hst
                obtain ⟨cD, cL'⟩ := old _ _ hst0
                refine ⟨n, Nat.lt_succ_self n, j + 1, gs', acc.push u, cnt + 1, _, by omega, ⟨og, nm, qn, (sb9.2 a aD).trans ((sb8.2 a aL).trans hog), rg⟩, ⟨mc, hmc.at' fun o e => (sb9.2 _ cD).trans ((sb8.2 _ cL').trans e), hnn⟩, setGen_at hgsz, ?_, hD10, ?_, hn8.at' fun o e => (sb9.2 _ DL.symm).trans e⟩
                · refine kap _ ⟨rfl, allBare_setGen (allBare_setGen ba6 hbr) rfl, fun b o b1 b2 e => (sb9.2 b b1).trans ((sb8.2 b b2).trans e), ⟨_, hD10, fun v q => by cases q⟩, ?_⟩
                  obtain ⟨o8, _, _, g8, d8, _⟩ := hn8
                  exact ⟨o8, (sb9.2 _ DL.symm).trans g8, fun v q => by rw [d8] at q; cases q⟩
                · rw [Array.toList_push, upTo_succ]
                  exact hv5.append (.cons ru .nil)
              · rw [yk]; rfl
          · intro hsz
            obtain ⟨n0, H', os6, ba6, un, hok6, hD6, hL6, eD, eL, qd⟩ := hF
            have iT : i = T := by omega
            rw [iT] at hv5
            have I7 := I.drained (s' := { s6.setGen g .finished with heap := h' }) sD (by rw [upTo_len]; exact Nat.le_trans hT (by decide)) (hk' _ _ (eD.trans hD5)) hv5 ExOk.nil os6 (allBare_setGen ba6 rfl) (un.trans (Un.kept hk')) (hok6.kept hk') hD6
            refine ⟨m, ⟨obL, esL, epL, hk' _ _ (eL.trans eL1), eL2, eL3, eL4⟩, fun h9 sb9 => ?_⟩
            obtain ⟨f0, f1, f2, f3, f4, f5⟩ := I.fpOk (H' := upd H' D (.lst (K7E.upTo T))) (b := L) (Nat.le_trans sD (Nat.le_of_lt ltDL)) (by rw [upd_ne DL.symm]; exact hL6)
            exact ⟨.ref D, _, I7.turned (t' := s6.toks) (fun b o hb e => (sb9.2 b hb).trans e) f0 f1 f3 f4 f5, rfl, h H' D qd (I.hok.fresh sD) hD6⟩
        · refine wake X.A.in1 D L (s4.setGen g .running) hr1 I.ok.frames (Nat.le_refl _) (Nat.le_of_lt ltDL) k14 ⟨_, hD4, fun v q => by cases q⟩ ?_ os4 (allBare_setGen (by rw [gn4]; exact hba) rfl)
          obtain ⟨ob, es, ep, e1, e2, _⟩ := hns4
          exact ⟨ob, e1, fun v q => by rw [e2] at q; cases q⟩
      exact codeAny_compStart_list loop (wpAny_pyIter_gen (hgen.keeps k14) loop)
end K7G
end
/-! ## P7g -/
section
open PySem PySem.Spec PyProof.Rows L2
namespace K7
abbrev N_customs : List Str := ["number"]
abbrev s_customs : Stmt := topS 15
theorem sc_customs : GScope N_customs [] (defScope s_customs) := ⟨rfl, rfl, rfl, by decide +kernel, rfl, fun _ h => (nomatch h), by decide +kernel⟩
def YdC (a : Ad) : Nat → V → Hp → Prop := fun i x H' => ∃ p, x = .ref p ∧ CustAt a.C H' p i
theorem YdC.fld {a : Ad} : ∀ i x H', YdC a i x H' → ∃ p dx fs, x = .ref p ∧ H' p = some (.ins a.C dx fs) ∧ fs.lookup ("number" : Str) = some (.int (i : Nat)) := fun i x H' ⟨p, e, _, dx, t, h1, _⟩ => ⟨p, dx, _, e, h1, rfl⟩
section
variable {P : Program} {w : World} {K : PySem.W.Frag} {mg : Str → Option Value} {base : Heap} {a : Ad}
theorem made_customs {tM : Tok} (gM : mg "MOST_CUSTOMS" = some (.int 192 tM)) {f fat : Addr} {fd fdat : FuncData} (F : Fun K "customs" "customs" s_customs f fd) (Gat : FnOk P w K mg base (L2.CX P w) 5 fat fdat ["number"] (spCat a)) (gat : mg "custom_at" = some (.ref fat)) (kat : PySem.W.keepIn K (.ref fat) = true) (bat : Binds K fdat ["number"] [])
    (bcu : Binds K fd [] []) (m_range : mg "range" = none) :
    ∀ (A : Around) (outer : List Env) (s : Shared) (H : Hp), Room 6 A → Env0 P w K mg base A outer s H →
      codeAny (model P w) A (.call (.ref f) ⟨[], []⟩) (fun r s' => match r with | .ok (.ret u) => K7G.Made P w K 6 outer H s 192 (YdC a) (Same H) u s' | _ => False) s := by
  obtain ⟨oc, od, kV, doc, pm, an, cdv, ct, osl, rfl, lk, hcd⟩ := F.ex
  refine K7G.made_of (Qd := Same) (N := N_customs) lk hcd sc_customs (fun _ => rfl) (fun _ _ => rfl) (fun A outer s H pn hr => ?_) bcu
  refine ⟨_, _, _, pi_range1 (by rfl) m_range (pa_cons (pe_glob (v := .int 192) (by rfl) gM ⟨_, rfl⟩) pa_nil), pg_name (i := 0) sc_customs.nd rfl (by first | exact Or.inl rfl | exact Or.inr rfl), pe_call Gat (hr.mono (by decide)) (by rfl) gat kat bat .nil passL (pa_cons (pv 0) pa_nil), ?_⟩
  refine ⟨192, rfl, by decide, by decide, fun i σ H' => Same H H' ∧ ∃ y0, σ = [y0], ⟨Same.refl H, none, rfl⟩, fun i σ H' hi pv => ?_, fun σ H' pv => ?_⟩
  · obtain ⟨e, y0, rfl⟩ := pv
    refine ⟨hi, fun x H2 hy => ?_⟩
    obtain ⟨rfl, rfl⟩ := hy
    exact ⟨_, rfl, _, rfl, .inl ⟨i, hi, by rw [Int.zero_add], fun H3 q e3 nq c => ⟨⟨q, rfl, c⟩, e.trans e3, _, rfl⟩⟩⟩
  · exact ⟨Nat.le_refl 192, pv.1⟩
end
end K7
end
/-! ## P8 -/
section
open PySem PySem.Spec PyProof.Rows L2
namespace K7
abbrev N_law : List Str := ["_law_script", "_law_hand_here", "_law_menus", "_law_each", "_law_number_here", "_law_second", "_law_custom", "_law_other", "_law_row_here", "_law_rival", "_law_named", "_law_due", "_law_place", "_law_clause", "_law_changed", "_law_bads", "_law_bad", "_law_spoilt", "_law_strange", "_law_sort", "_law_beyond"]
abbrev s_law : Stmt := topS 30
theorem sc_law : FnScope ["_law_script", "_law_hand_here", "_law_menus", "_law_each", "_law_number_here", "_law_second", "_law_custom", "_law_other", "_law_row_here", "_law_rival", "_law_named", "_law_due", "_law_place", "_law_clause", "_law_changed", "_law_bads", "_law_bad", "_law_spoilt", "_law_strange", "_law_sort", "_law_beyond"] ["_law_script"] (defScope s_law) := ⟨rfl, rfl, rfl, by decide +kernel, rfl, by decide +kernel, by decide +kernel⟩

def rLof (K : PySem.W.Frag) : List V → Hp → VK → Prop := fun xs H Q => ∃ p ys, xs = [.ref p] ∧ (SqL K H p ys ∨ SqT K H p ys) ∧ ∀ l, H l = none → Q (.ref l) (upd H l (.lst ys))
def sg (l : List (Option V)) : L2.St := l ++ List.replicate (21 - l.length) none
section
variable {P : Program} {w : World} {K : PySem.W.Frag} {mg : Str → Option Value} {base : Heap} {a : Ad} {L fIt fE : Addr}
def spLaw (K : PySem.W.Frag) : Sp := fun vs H Q _ => ∃ (s : Addr) (ns : List Int), vs = [.ref s] ∧ SqL K H s (ns.map V.int) ∧ ns.length ≤ 63 ∧ ∀ H', Q (.bl true) H'
theorem ok_law (T : Tx K w mg a) (T2 : Tc K mg a) (T3 : Te K mg a L) (T4 : Tf K a fIt fE) {f fcu : Addr} (gcu : mg "customs" = some (.ref fcu)) (kcu : PySem.W.keepIn K (.ref fcu) = true)
    (TG : ∀ (A : Around) (outer : List Env) (s : Shared) (H : Hp), Room 6 A → Env0 P w K mg base A outer s H → codeAny (model P w) A (.call (.ref fcu) ⟨[], []⟩) (fun r s' => match r with | .ok (.ret u) => K7G.Made P w K 6 outer H s 192 (YdC a) (Same H) u s' | _ => False) s) {fd : FuncData} (F : Fun K "law" "law" s_law f fd)
    {fha flw fdr fpk fww fat fis fro fnu fdf frf fcr fnr fCh fI : Addr} {fdha fdlw fddr fdpk fdww fdat fdis fdro fdnu fddf fdrf fdcr fdnr fdCh fdI fdE : FuncData}
    (Gha : FnOk P w K mg base CX0 1 fha fdha ["_law_script"] (spHand K)) (gha : mg "_law_hand" = some (.ref fha)) (kha : PySem.W.keepIn K (.ref fha) = true) (bha : Binds K fdha ["_law_script"] [])
    (Glw : FnOk P w K mg base CX0 1 flw fdlw [] spMenus) (glw : mg "_law_words" = some (.ref flw)) (klw : PySem.W.keepIn K (.ref flw) = true) (blw : Binds K fdlw [] [])
    (Gdr : FnOk P w K mg base CX0 2 fdr fddr ["_law_hand_here", "_law_many"] spDraw) (gdr : mg "_law_draw" = some (.ref fdr)) (kdr : PySem.W.keepIn K (.ref fdr) = true) (bdr : Binds K fddr ["_law_hand_here", "_law_many"] [])
    (Gpk : FnOk P w K mg base CX0 3 fpk fdpk ["_law_hand_here", "_law_things"] spPick) (gpk : mg "_law_pick" = some (.ref fpk)) (kpk : PySem.W.keepIn K (.ref fpk) = true) (bpk : Binds K fdpk ["_law_hand_here", "_law_things"] [])
    (Gww : FnOk P w K mg base (L2.CX P w) 4 fww fdww ["clause"] (spWW K a)) (gww : mg "words" = some (.ref fww)) (kww : PySem.W.keepIn K (.ref fww) = true) (bww : Binds K fdww ["clause"] [])
    (Gat : FnOk P w K mg base (L2.CX P w) 5 fat fdat ["number"] (spCat a)) (gat : mg "custom_at" = some (.ref fat)) (kat : PySem.W.keepIn K (.ref fat) = true) (bat : Binds K fdat ["number"] [])
    (Gis : FnOk P w K mg base CX0 6 fis fdis ["_law_custom", "_law_number_here"] (spIs a)) (gis : mg "_law_is" = some (.ref fis)) (kis : PySem.W.keepIn K (.ref fis) = true) (bis : Binds K fdis ["_law_custom", "_law_number_here"] [])
    (Gro : FnOk P w K mg base CX0 2 fro fdro ["_law_number_here"] spRow) (gro : mg "_law_row" = some (.ref fro)) (kro : PySem.W.keepIn K (.ref fro) = true) (bro : Binds K fdro ["_law_number_here"] [])
    (Gnu : FnOk P w K mg base CX0 2 fnu fdnu ["_law_row_here"] spNum) (gnu : mg "_law_number" = some (.ref fnu)) (knu : PySem.W.keepIn K (.ref fnu) = true) (bnu : Binds K fdnu ["_law_row_here"] [])
    (Gdf : FnOk P w K mg base (L2.CX P w) 6 fdf fddf ["one", "other"] (spDiff a)) (gdf : mg "differences" = some (.ref fdf)) (kdf : PySem.W.keepIn K (.ref fdf) = true) (bdf : Binds K fddf ["one", "other"] [])
    (Grf : FnOk P w K mg base CX0 6 frf fdrf ["_law_row_here"] (spRef K)) (grf : mg "_law_refused" = some (.ref frf)) (krf : PySem.W.keepIn K (.ref frf) = true) (brf : Binds K fdrf ["_law_row_here"] [])
    (Gcr : FnOk P w K mg base CX0 6 fcr fdcr ["_law_sort", "_law_custom", "_law_clause", "_law_word"] (spCRef K a)) (gcr : mg "_law_clause_refused" = some (.ref fcr)) (kcr : PySem.W.keepIn K (.ref fcr) = true) (bcr : Binds K fdcr ["_law_sort", "_law_custom", "_law_clause", "_law_word"] [])
    (Gnr : FnOk P w K mg base CX0 6 fnr fdnr ["_law_number_here"] (spNRef K)) (gnr : mg "_law_number_refused" = some (.ref fnr)) (knr : PySem.W.keepIn K (.ref fnr) = true) (bnr : Binds K fdnr ["_law_number_here"] [])
    (mCh : Meth K a.C "changed" fCh) (GCh : FnOk P w K mg base (L2.CX P w) 5 fCh fdCh ["self", "clause", "word"] (spChanged K a)) (bCh : Binds K fdCh ["self", "clause", "word"] [])
    (GE : FnOk P w K mg base CX0 1 fE fdE ["self", "other"] (spEqC K a)) (bE : Binds K fdE ["self", "other"] [])
    (MC : Mk K a.C fI) (GI : FnOk P w K mg base (L2.CX P w) 3 fI fdI ["self", "untold", "joined", "sold", "kept", "ends"] (spInit K a)) (kbI : KBn K fdI ["self", "untold", "joined", "sold", "kept", "ends"] 1 ["ends", "kept", "sold", "joined", "untold"] (fun us ws => five us ws) (fun vs zs => five vs zs))
    (m_int : mg "int" = none) (m_tuple : mg "tuple" = none) (m_list : mg "list" = none) (m_range : mg "range" = none) (m_enumerate : mg "enumerate" = none) (m_min : mg "min" = none) (m_repr : mg "repr" = none) :
    FnOk P w K mg base CX0 8 f fd ["_law_script"] (spLaw K) := by
  refine F.ok sc_law (fun vs H Q E h => ?_) (fun cdv A outer s H vs Q E hr h => ?_)
  · obtain ⟨s, ns, rfl, _⟩ := h
    rfl
  · obtain ⟨s0, ns, rfl, hS, hlen, q⟩ := h
    refine ⟨_, (pss_cons (ps_set (i := 1) sc_law.nd rfl (by first | exact Or.inl rfl | exact Or.inr rfl) (pe_call Gha (hr.mono (by decide)) (by rfl) gha kha bha .nil pass0 (pa_cons (pv 0) pa_nil)))
 (pss_cons (ps_set (i := 2) sc_law.nd rfl (by first | exact Or.inl rfl | exact Or.inr rfl) (pe_call0 Glw (hr.mono (by decide)) (by rfl) glw klw blw .nil pass0))
 (Evl.pss_cut (ps_if (pw_or (pt_cmpR (op_neD hr.units) (pe_glob (v := .ref _) (by rfl) T.gCl rfl) (pe_tup (pa_cons pe_str (pa_cons pe_str (pa_cons pe_str (pa_cons pe_str (pa_cons pe_str pa_nil)))))) (nomark _)) (pw_or1 (pt_cmpR (op_neD hr.units) (pe_lc (own := [("_law_each", 3)]) (g := gName 3) (tt := tYes) rfl sc_law.nd (pi_tup (pe_glob (v := .ref _) (by rfl) T.gCl rfl)) (blkOk_by (own := [("_law_each", 3)]) (N := N_law) (sc := defScope s_law) (by decide +kernel)) (fun _ _ _ _ _ => (pg_name (i := 3) sc_law.nd rfl (by first | exact Or.inl rfl | exact Or.inr rfl))) (fun _ _ _ _ _ => pts_nil) (fun _ _ _ _ _ => (pe_callTy (show CallR _ (.type "list") (rLof K) from call_list_of) (by rfl) m_list boot_list (pa_cons (pe_call Gww (hr.mono (by decide)) (by rfl) gww kww bww .nil passL (pa_cons (pv 3) pa_nil)) pa_nil)))) (pv 2) (nomark _)))).pt
  (pss_one (ps_ret pe_bl))
  pss_nil)
 (pss_cons (ps_par (by rfl) sc_law.nd (i := 4) (j := 5) rfl rfl (by decide) rfl rfl (pa_cons (pe_call Gdr (hr.mono (by decide)) (by rfl) gdr kdr bdr .nil pass0 (pa_cons (pv 1) (pa_cons pe_int pa_nil))) (pa_cons (pe_call Gdr (hr.mono (by decide)) (by rfl) gdr kdr bdr .nil pass0 (pa_cons (pv 1) (pa_cons pe_int pa_nil))) pa_nil)) (by rfl))
 (pss_cons (ps_par (by rfl) sc_law.nd (i := 6) (j := 7) rfl rfl (by decide) rfl rfl (pa_cons (pe_call Gat (hr.mono (by decide)) (by rfl) gat kat bat .nil passL (pa_cons (pv 4) pa_nil)) (pa_cons (pe_call Gat (hr.mono (by decide)) (by rfl) gat kat bat .nil passL (pa_cons (pv 5) pa_nil)) pa_nil)) (by rfl))
 (Evl.pss_cut (ps_if (pw_or (pt_not (pt_val (pe_call Gis (hr.mono (by decide)) (by rfl) gis kis bis .nil pass0 (pa_cons (pv 6) (pa_cons (pv 4) pa_nil))))) (pw_or (pt_not (pt_val (pe_call Gis (hr.mono (by decide)) (by rfl) gis kis bis .nil pass0 (pa_cons (pv 7) (pa_cons (pv 5) pa_nil))))) (pw_or1 (pt_cmpR op_ne (pe_cmpR (K7E.op_eqOwn GE T4.eq T4.eqF bE (hr.mono (by decide)) pass0) (pv 6) (pv 7) (nomark _)) (pe_cmpR op_eq (pv 4) (pv 5) (nomark _)) (nomark _))))).pt
  (pss_one (ps_ret pe_bl))
  pss_nil)
 (pss_cons (ps_asg (pe_tup (pa_cons (pe_call Gro (hr.mono (by decide)) (by rfl) gro kro bro .nil pass0 (pa_cons (pv 4) pa_nil)) (pa_cons (pe_call Gro (hr.mono (by decide)) (by rfl) gro kro bro .nil pass0 (pa_cons (pv 5) pa_nil)) pa_nil))) (pg_tup rfl (pgs_cons (pg_name (i := 8) sc_law.nd rfl (by first | exact Or.inl rfl | exact Or.inr rfl)) (pgs_cons (pg_name (i := 9) sc_law.nd rfl (by first | exact Or.inl rfl | exact Or.inr rfl)) pgs_nil))))
 (pss_cons (ps_set (i := 10) sc_law.nd rfl (by first | exact Or.inl rfl | exact Or.inr rfl) (pe_makeK0 MC GI (hr.mono (by decide)) (by rfl) T.gC kbI passL (pk_cons (pe_ix ix_list (pv 8) pe_int (fun _ _ => rfl)) (pk_cons (pe_ix ix_list (pv 8) pe_int (fun _ _ => rfl)) (pk_cons (pe_ix ix_list (pv 8) pe_int (fun _ _ => rfl)) (pk_cons (pe_ix ix_list (pv 8) pe_int (fun _ _ => rfl)) (pk_cons (pe_ix ix_list (pv 8) pe_int (fun _ _ => rfl)) pk_nil)))))))
 (Evl.pss_cut (ps_if (pw_or (pt_not (pt_val (pe_call Gis (hr.mono (by decide)) (by rfl) gis kis bis .nil pass0 (pa_cons (pv 10) (pa_cons (pe_call Gnu (hr.mono (by decide)) (by rfl) gnu knu bnu .nil pass0 (pa_cons (pv 8) pa_nil)) pa_nil))))) (pw_or1 (pt_cmpR (K7E.op_eqOwn GE T4.eq T4.eqF bE (hr.mono (by decide)) pass0) (pv 6) (pe_callTy call_tuple_of (by rfl) m_tuple boot_tuple (pa_cons (pv 8) pa_nil)) (nomark _)))).pt
  (pss_one (ps_ret pe_bl))
  pss_nil)
 (pss_cons (ps_setLc (i := 11) (own := [("_law_place", 12), ("_law_clause", 13)]) (g := gTup K 2 (gCons (gName 12) (gCons (gName 13) (gNil)))) rfl sc_law.nd rfl rfl (sw_true rfl rfl rfl (by decide +kernel)) (K7E.pi_enumT (by rfl) m_enumerate (pa_cons (pe_glob (v := .ref _) (by rfl) T.gCl rfl) pa_nil)) (blkOk_by (own := [("_law_place", 12), ("_law_clause", 13)]) (N := N_law) (sc := defScope s_law) (by decide +kernel)) (fun _ _ _ _ _ => (pg_tup rfl (pgs_cons (pg_name (i := 12) sc_law.nd rfl (by first | exact Or.inl rfl | exact Or.inr rfl)) (pgs_cons (pg_name (i := 13) sc_law.nd rfl (by first | exact Or.inl rfl | exact Or.inr rfl)) pgs_nil)))) (fun _ _ _ _ _ => (pts_one (pt_cmpR op_ne (pe_ix (show IxR _ (rIxL K) from ix_list) (pv 8) (pv 12) (fun _ _ => rfl)) (pe_ix (show IxR _ (rIxL K) from ix_list) (pv 9) (pv 12) (fun _ _ => rfl)) (nomark _)))) (fun _ _ _ _ _ => (pv 13)))
 (Evl.pss_cut (ps_if (pw_or (pt_cmpR (op_neD hr.units) (pe_call Gdf (hr.mono (by decide)) (by rfl) gdf kdf bdf .nil passL (pa_cons (pv 6) (pa_cons (pv 7) pa_nil))) (pe_callTy call_tuple_of (by rfl) m_tuple boot_tuple (pa_cons (pv 11) pa_nil)) (nomark _)) (pw_or1 (pt_cmpR (op_neD hr.units) (pe_call Gdf (hr.mono (by decide)) (by rfl) gdf kdf bdf .nil passL (pa_cons (pv 7) (pa_cons (pv 6) pa_nil))) (pe_callTy call_tuple_of (by rfl) m_tuple boot_tuple (pa_cons (pv 11) pa_nil)) (nomark _)))).pt
  (pss_one (ps_ret pe_bl))
  pss_nil)
 (pss_cons (ps_set (i := 12) sc_law.nd rfl (by first | exact Or.inl rfl | exact Or.inr rfl) (pe_call Gdr (hr.mono (by decide)) (by rfl) gdr kdr bdr .nil pass0 (pa_cons (pv 1) (pa_cons pe_int pa_nil))))
 (pss_cons (ps_set (i := 14) sc_law.nd rfl (by first | exact Or.inl rfl | exact Or.inr rfl) (pe_callTy call_list_of (by rfl) m_list boot_list (pa_cons (pv 8) pa_nil)))
 (pss_cons (ps_asg (pe_call Gpk (hr.mono (by decide)) (by rfl) gpk kpk bpk .nil pass0 (pa_cons (pv 1) (pa_cons (pe_ix (show IxR _ (rIxL K) from ix_list) (pv 2) (pv 12) (fun _ _ => rfl)) pa_nil))) (pg_sub (pv 14) (pv 12) set_list))
 (Evl.pss_cut (ps_if (pw_or (pt_not (pt_val (pe_call Gis (hr.mono (by decide)) (by rfl) gis kis bis .nil pass0 (pa_cons (pe_meth (pv 6) T.cl mCh GCh (hr.mono (by decide)) bCh .nil passL (pa_cons (pe_ix ix_tup (pe_glob (v := .ref _) (by rfl) T.gCl rfl) (pv 12) (fun _ _ => rfl)) (pa_cons (pe_ix ix_list (pv 14) (pv 12) (fun _ _ => rfl)) pa_nil))) (pa_cons (pe_call Gnu (hr.mono (by decide)) (by rfl) gnu knu bnu .nil pass0 (pa_cons (pv 14) pa_nil)) pa_nil))))) (pw_or1 (pt_not (pt_val (pe_call Gis (hr.mono (by decide)) (by rfl) gis kis bis .nil pass0 (pa_cons (pv 6) (pa_cons (pv 4) pa_nil))))))).pt
  (pss_one (ps_ret pe_bl))
  pss_nil)
 (Evl.pss_cut (ps_if (pt_cmpR (op_neD hr.units) (K7G.pe_lcGen (k := 6) (T := 192) (own := [("_law_each", 3)]) rfl sc_law.nd (blkOk_by (own := [("_law_each", 3)]) (N := N_law) (sc := defScope s_law) (by decide +kernel)) (fun s H e0 => TG _ _ s H (hr.mono (by decide)) e0) hr.in1 hr.depth (by rfl) gcu kcu YdC.fld T.cl (T.nA _ (by decide)) (by decide) (fun _ _ => rfl) (fun _ _ => rfl) (by decide) (by decide) (fun _ _ => rfl) (fun _ => rfl)) (pe_callTy (K7E.cr_list_rng rfl) (by rfl) m_list boot_list (pa_cons (pe_callTy K7E.cr_range1 (by rfl) m_range boot_range (pa_cons pe_int pa_nil)) pa_nil)) (nomark _))
  (pss_one (ps_ret pe_bl))
  pss_nil)
 (pss_cons (ps_set (i := 15) sc_law.nd rfl (by first | exact Or.inl rfl | exact Or.inr rfl) (pe_lst (pa_cons pe_str (pa_cons pe_str (pa_cons pe_non (pa_cons pe_bl (pa_cons pe_int (pa_cons pe_str (pa_cons pe_str (pa_cons (pe_tup (pa_cons pe_str pa_nil)) (pa_cons (pe_lst (pa_cons pe_str pa_nil)) (pa_cons pe_dnewK (pa_cons (pe_lst (pa_cons pe_str (pa_cons pe_str pa_nil))) pa_nil)))))))))))))
 (pss_cons (ps_set (i := 16) sc_law.nd rfl (by first | exact Or.inl rfl | exact Or.inr rfl) (pe_call Gpk (hr.mono (by decide)) (by rfl) gpk kpk bpk .nil pass0 (pa_cons (pv 1) (pa_cons (pe_op op_cat (pv 15) (pe_lc (own := [("_law_each", 3)]) (g := gName 3) rfl sc_law.nd (pi_list (pe_ix ix_list (pv 2) (pe_op op_mod (pe_callTy call_int1 (by rfl) m_int boot_int (pa_cons (pe_op op_add (pv 12) pe_int) pa_nil)) pe_int) (fun _ _ => rfl))) (blkOk_by (own := [("_law_each", 3)]) (N := N_law) (sc := defScope s_law) (by decide +kernel)) (fun _ _ _ _ _ => (pg_name (i := 3) sc_law.nd rfl (by first | exact Or.inl rfl | exact Or.inr rfl))) (fun _ _ _ _ _ => (pts_one (pt_cmpR (show OpR _ _ (rIn K true) from op_notIn_seq) (pv 3) (pe_ix (show IxR _ (rIxL K) from ix_list) (pv 2) (pv 12) (fun _ _ => rfl)) (by with_unfolding_all rfl)))) (fun _ _ _ _ _ => (pv 3)))) pa_nil))))
 (pss_cons (ps_set (i := 17) sc_law.nd rfl (by first | exact Or.inl rfl | exact Or.inr rfl) (pe_callTy call_list_of (by rfl) m_list boot_list (pa_cons (pv 8) pa_nil)))
 (pss_cons (ps_asg (pv 16) (pg_sub (pv 17) (pv 12) set_list))
 (Evl.pss_cut (ps_if (pw_or (pt_cmpR (op_neD hr.units) (pe_call Grf (hr.mono (by decide)) (by rfl) grf krf brf .nil pass0 (pa_cons (pv 17) pa_nil)) (pe_tup (pa_cons pe_bl (pa_cons (pe_ix ix_tup (pe_glob (v := .ref _) (by rfl) T.gCl rfl) (pv 12) (fun _ _ => rfl)) pa_nil))) (nomark _)) (pw_or1 (pt_cmpR op_notN (pe_call Grf (hr.mono (by decide)) (by rfl) grf krf brf .nil pass0 (pa_cons (pv 8) pa_nil)) pe_non (nomark _)))).pt
  (pss_one (ps_ret pe_bl))
  pss_nil)
 (Evl.pss_cut (ps_if (pt_cmpR (op_neD hr.units) (pe_call Grf (hr.mono (by decide)) (by rfl) grf krf brf .nil pass0 (pa_cons (pe_op op_cat (pe_op op_cat (pe_slice sl_list (pv 17) po_none (po_some pe_int)) (pe_lst (pa_cons pe_non pa_nil))) (pe_slice sl_list (pv 17) (po_some pe_int) po_none)) pa_nil)) (pe_tup (pa_cons pe_bl (pa_cons (pe_ix ix_tup (pe_glob (v := .ref _) (by rfl) T.gCl rfl) (pe_callB (call_min2 rfl) (by rfl) m_min boot_min (pa_cons (pv 12) (pa_cons pe_int pa_nil))) (fun _ _ => rfl)) pa_nil))) (nomark _))
  (pss_one (ps_ret pe_bl))
  pss_nil)
 (Evl.pss_cut (ps_if (pt_cmpR (op_neD hr.units) (pe_call Gcr (hr.mono (by decide)) (by rfl) gcr kcr bcr .nil pass0 (pa_cons pe_int (pa_cons (pv 6) (pa_cons (pe_ix ix_tup (pe_glob (v := .ref _) (by rfl) T.gCl rfl) (pv 12) (fun _ _ => rfl)) (pa_cons (pv 16) pa_nil))))) (pe_tup (pa_cons pe_bl (pa_cons pe_str pa_nil))) (nomark _))
  (pss_one (ps_ret pe_bl))
  pss_nil)
 (pss_cons (ps_set (i := 18) sc_law.nd rfl (by first | exact Or.inl rfl | exact Or.inr rfl) (pe_call Gpk (hr.mono (by decide)) (by rfl) gpk kpk bpk .nil pass0 (pa_cons (pv 1) (pa_cons (pe_lst (pa_cons pe_str (pa_cons pe_str (pa_cons pe_str (pa_cons pe_non (pa_cons pe_int (pa_cons pe_bl (pa_cons (pe_tup (pa_cons pe_str pa_nil)) (pa_cons (pe_lst (pa_cons pe_str pa_nil)) (pa_cons pe_str pa_nil)))))))))) pa_nil))))
 (Evl.pss_cut (ps_for PassesOwn.never rfl (pi_range1 rfl m_range (pa_cons pe_int pa_nil)) (pg_name (i := 19) sc_law.nd rfl (by first | exact Or.inl rfl | exact Or.inr rfl))
  (pss_one (ps_if (pt_cmpR (op_neD hr.units) (pe_call Gcr (hr.mono (by decide)) (by rfl) gcr kcr bcr .nil pass0 (pa_cons (pv 19) (pa_cons (pv 6) (pa_cons (pv 18) (pa_cons (pv 16) pa_nil))))) (pe_tup (pa_cons pe_bl (pa_cons pe_str pa_nil))) (nomark _))
  (pss_one (ps_ret pe_bl))
  pss_nil)))
 (pss_cons (ps_set (i := 20) sc_law.nd rfl (by first | exact Or.inl rfl | exact Or.inr rfl) (pe_call Gpk (hr.mono (by decide)) (by rfl) gpk kpk bpk .nil pass0 (pa_cons (pv 1) (pa_cons (pe_lst (pa_cons pe_int (pa_cons (pe_un un_neg pe_int) (pa_cons pe_bl (pa_cons pe_non (pa_cons pe_str (pa_cons (pe_op op_add pe_int (pe_call Gdr (hr.mono (by decide)) (by rfl) gdr kdr bdr .nil pass0 (pa_cons (pv 1) (pa_cons (pe_op op_pow pe_int pe_int) pa_nil)))) pa_nil))))))) pa_nil))))
 (pss_one (ps_ret (pe_and (pe_cmpR (op_eqD hr.units) (pe_call Gnr (hr.mono (by decide)) (by rfl) gnr knr bnr .nil pass0 (pa_cons (pv 20) pa_nil)) (pe_tup (pa_cons pe_bl (pa_cons (pe_callB K7E.call_reprF (by rfl) m_repr boot_repr (pa_cons (pv 20) pa_nil)) pa_nil))) (nomark _)) (pe_one (pe_cmpR op_isN (pe_call Gnr (hr.mono (by decide)) (by rfl) gnr knr bnr .nil pass0 (pa_cons (pv 4) pa_nil)) pe_non (nomark _)))))))))))))))))))))))))))))))), ?_⟩
    refine ⟨_, rfl, s0, ns, rfl, hS, hlen, fun H1 h c e1 nh nc hh => ?_⟩
    refine ⟨rfl, fun H2 m e2 nm hm => ?_⟩
    have hh2 := hh.same e2
    refine ⟨fun σ' H' => σ' = sg [some (.ref s0), some (.ref h), some (.ref m)] ∧ Same H2 H', ?_, ?_⟩
    · refine ⟨by show 5 ≤ sizeLine; decide, fun t nt => ?_⟩
      refine ⟨_, _, .tup (T.tCl.t _) (dp_strs clauses), .tup (xs := clauses.map V.str) (.inl (.inl upd_same)) (dp_strs clauses), (shaped_strs clauses (by decide +kernel)).1, (shaped_strs clauses (by decide +kernel)).1, ?_⟩
      rw [(eqv_same _).1]
      refine ⟨false, rfl, ?_⟩
      -- the words of every clause
      have z3 : Same H2 (upd H2 t (.tup [.str "untold", .str "joined", .str "sold", .str "kept", .str "ends"])) := same_new (Same.refl H2) nt
      generalize upd H2 t (.tup [.str "untold", .str "joined", .str "sold", .str "kept", .str "ends"]) = H3 at z3 ⊢
      refine ⟨a.cl, rfl, ⟨_, T.tCl.t _⟩, fun D hD => lc_tup (xs := clauses.map V.str) (fun j H' => ∃ ls : List Addr, ls.length = j ∧ H' D = some (.lst (ls.map V.ref)) ∧ Same H3 H' ∧ (∀ i < j, ∃ l, ls[i]? = some l ∧ H' l = some (.lst ((menuAt i).map V.str)))) ⟨[], rfl, upd_same, same_new (Same.refl H3) hD, fun i hi => absurd hi (Nat.not_lt_zero i)⟩ (fun j H' _ pv => T.tCl.t _) (fun j v H' hv pv => ?_) (fun H4 pv => ?_)⟩
      · obtain ⟨ls, hl, hd, e, hls⟩ := pv
        have hj : j < 5 := (List.getElem?_eq_some_iff.mp hv).1
        rw [List.getElem?_map, clause_get hj] at hv
        obtain rfl := Option.some.inj hv
        refine ⟨rfl, _, rfl, _, rfl, .inl ⟨j, hj, rfl, _, _, rfl, .inr ((T.tMn j hj).t _), fun l nl => ?_⟩⟩
        have nD : D ≠ l := ne_of_none hd nl
        refine ⟨_, by rw [upd_ne nD]; exact hd, ?_, ls ++ [l], ?_, ?_, fun b o hb => ?_, fun i hi => ?_⟩
        · rw [List.length_map, hl]; exact small1000 (by omega)
        · rw [List.length_append, hl]; rfl
        · rw [upd_same, List.map_append]; rfl
        · have h1 := e _ _ hb
          rw [upd_ne (ne_of_none hb hD), upd_ne (ne_of_none h1 nl)]
          exact h1
        · by_cases q1 : i < j
          · obtain ⟨l2, e1, e2⟩ := hls i q1
            refine ⟨l2, ?_, ?_⟩
            · rw [List.getElem?_append_left (by omega)]; exact e1
            · have n2 : l2 ≠ D := fun z => by
                rw [z, hd] at e2
                injection e2 with e2
                injection e2 with e2
                have h4 : 1 ≤ ls.length := by omega
                cases ls with
                | nil => cases h4
                | cons x r =>
                  rw [List.map_cons] at e2
                  cases e3 : menuAt i with
                  | nil => rw [e3] at e2; cases e2
                  | cons y r2 => rw [e3, List.map_cons] at e2; injection e2 with e4; cases e4
              rw [upd_ne n2, upd_ne (ne_of_none e2 nl)]
              exact e2
          · have : i = j := by omega
            subst this
            refine ⟨l, ?_, ?_⟩
            · rw [List.getElem?_append_right (by omega), hl, Nat.sub_self]; rfl
            · rw [upd_ne nD.symm, upd_same]
      obtain ⟨ls, hl, hd, e4, hls⟩ := pv
      have z4 := z3.trans e4
      obtain ⟨ms, hm5, hmm, hms⟩ := hm.same z4
      refine ⟨_, rfl, _, _, dp_menus hl hd hls, dp_menus hm5 hmm hms, menu_data.1, menu_data.1, ?_⟩
      rw [menu_data.2]
      exact ⟨false, rfl, rfl, z4⟩
    rintro _ H4 ⟨rfl, e4⟩
    have z4 : Stay h c H4 H4 := .of_same (hh2.same e4) (Same.refl H4)
    have hm := hm.same e4
    -- the two numbers
    refine ⟨_, rfl, h, c, _, rfl, z4.hand, by decide, by decide, fun H5 x1 d5 a0 a1 => ?_⟩
    refine ⟨_, rfl, h, c, _, rfl, d5.hand, by decide, by decide, fun H6 x2 d6 b0 b1 => ?_⟩
    have z6 := (z4.drawn d5).drawn d6
    obtain ⟨n, rfl⟩ : ∃ n : Nat, x1 = (n : Int) := ⟨x1.toNat, by omega⟩
    obtain ⟨n2, rfl⟩ : ∃ n : Nat, x2 = (n : Int) := ⟨x2.toNat, by omega⟩
    have hn : n < 192 := by omega
    have hn2 : n2 < 192 := by omega
    refine ⟨_, _, rfl, ?_⟩
    -- the two customs
    refine ⟨_, rfl, _, rfl, .inl ⟨n, hn, rfl, fun H7 p e7 np c1 => ?_⟩⟩
    refine ⟨_, rfl, _, rfl, .inl ⟨n2, hn2, rfl, fun H8 p2 e8 np2 c2 => ?_⟩⟩
    have z8 := (z6.same e7).same e8
    have hm := z8.menus hm
    have hh8 := z8.hand
    have c1 := c1.same e8
    refine ⟨_, _, rfl, ?_⟩
    refine ⟨fun σ' H' => σ' = sg [some (.ref s0), some (.ref h), some (.ref m), none, some (.int n), some (.int n2), some (.ref p), some (.ref p2)] ∧ Same H8 H', ?_, ?_⟩
    · refine ⟨_, rfl, _, rfl, p, n, rfl, c1, fun H9 e9 => ?_⟩
      refine ⟨_, rfl, ?_⟩
      refine ⟨_, rfl, _, rfl, p2, n2, rfl, c2.same e9, fun H10 e10 => ?_⟩
      refine ⟨_, rfl, ?_⟩
      have c1 := (c1.same e9).same e10
      have c2 := (c2.same e9).same e10
      obtain ⟨_, dx, t1, hp, ht⟩ := id c1
      obtain ⟨_, dx2, t2, hp2, ht2⟩ := id c2
      refine ⟨_, rfl, _, rfl, p, dx, _, p2, .ref a.C, rfl, rfl, hp, .base (.ins hp2 T.cl T2.ha T2.hn T2.ht T2.hm), nfC K a.C, p, p2, n, rfl, c1, .inl ⟨n2, c2, ?_⟩⟩
      refine ⟨_, rfl, _, rfl, rfl, rfl, _, rfl, iteNS (by simp; omega) ?_⟩
      exact ⟨rfl, e9.trans e10⟩
    rintro _ H10 ⟨rfl, e10⟩
    have hh10 := hh8.same e10
    have hm := hm.same e10
    have c1 := c1.same e10
    have c2 := c2.same e10
    -- the rows
    refine ⟨_, rfl, n, rfl, hn, fun H11 r e11 nr hr1 => ?_⟩
    refine ⟨_, rfl, n2, rfl, hn2, fun H12 r2 e12 nr2 hr2 => ?_⟩
    refine ⟨by show 2 ≤ sizeLine; decide, fun tp ntp => ?_⟩
    refine ⟨tp, _, rfl, .inl (.inl upd_same), rfl, _, _, rfl, _, _, rfl, rfl, ?_⟩
    have e13 := (e11.trans e12).trans (same_new (o := .tup [.ref r, .ref r2]) (Same.refl H12) ntp)
    have hr1 := same_new (o := .tup [.ref r, .ref r2]) e12 ntp _ _ hr1
    have hr2 := same_new (o := .tup [.ref r, .ref r2]) (Same.refl H12) ntp _ _ hr2
    have hh13 := hh10.same e13
    have hm := hm.same e13
    have c1 := c1.same e13
    have c2 := c2.same e13
    generalize upd H12 tp (.tup [.ref r, .ref r2]) = H13 at e13 hr1 hr2 hh13 hm c1 c2 ⊢
    -- by their names
    have hS1 : SqL K H13 r ((rowOf n).map V.str) := .inl (.inl hr1)
    refine ⟨_, rfl, r, _, _, _, rfl, rfl, hS1, rfl, _, rfl, r, _, _, _, rfl, rfl, hS1, rfl, _, rfl, r, _, _, _, rfl, rfl, hS1, rfl, _, rfl, r, _, _, _, rfl, rfl, hS1, rfl, _, rfl, r, _, _, _, rfl, rfl, hS1, rfl, ?_⟩
    refine ⟨rfl, rfl, ?_⟩
    intro p3 dx3 np3 ndx3 hnd3
    refine ⟨p3, dx3, .str (wAt n 0), .str (wAt n 1), .str (wAt n 2), .str (wAt n 3), .str (wAt n 4), rfl, upd_same, .inl ⟨n, hn, rfl, fun H14 hb14 c3 => ⟨rfl, ?_⟩⟩⟩
    have e14 : Same H13 H14 := fun b o hz => by
      have n1 : b ≠ p3 := ne_of_none hz np3
      refine hb14 b o n1 ?_
      rw [upd_ne n1, upd_ne (ne_of_none hz ndx3)]
      exact hz
    have en : numOf (rowOf n) = n := num_row ⟨n, hn⟩
    have hh14 := hh13.same e14
    have hm := hm.same e14
    have c1 := c1.same e14
    have c2 := c2.same e14
    have hr1 := e14 _ _ hr1
    have hr2 := e14 _ _ hr2
    refine ⟨fun σ' H' => σ' = sg [some (.ref s0), some (.ref h), some (.ref m), none, some (.int n), some (.int n2), some (.ref p), some (.ref p2), some (.ref r), some (.ref r2), some (.ref p3)] ∧ Same H14 H', ?_, ?_⟩
    · refine ⟨_, rfl, _, rfl, r, rowOf n, rfl, hr1, rows_in hn, fun H15 e15 => ?_⟩
      refine ⟨p3, n, by rw [en]; rfl, c3.same e15, fun H16 e16 => ?_⟩
      refine ⟨_, rfl, ?_⟩
      have e17 := e15.trans e16
      have c1 := c1.same e17
      have hr1 := e17 _ _ hr1
      obtain ⟨_, dx, t1, hp, ht⟩ := id c1
      refine ⟨_, rfl, _, rfl, _, _, rfl, .inl ⟨.inl (.inl hr1), fun tt ntt => ?_⟩⟩
      have s17 := same_new (o := .tup ((rowOf n).map V.str)) (Same.refl H16) ntt
      refine ⟨p, dx, _, tt, .type "tuple", rfl, rfl, s17 _ _ hp, .base (.tup upd_same), T4.ntup, p, tt, n, rfl, c1.same s17, .inr ⟨_, upd_same, ?_⟩⟩
      exact ⟨_, rfl, rfl, e17.trans s17⟩
    rintro _ H17 ⟨rfl, e17⟩
    have hh17 := hh14.same e17
    have hm := hm.same e17
    have c1 := c1.same e17
    have c2 := c2.same e17
    have hr1 := e17 _ _ hr1
    have hr2 := e17 _ _ hr2
    -- where they differ
    refine ⟨a.cl, _, rfl, T.tCl.t _, fun D hD => lc_it (K7E.walk_enumT (xs := clauses.map V.str)) (fun j H2 => Same H17 H2 ∧ H2 D = some (.lst (Evl.given j (fun i => !decide (wAt n i = wAt n2 i)) fun i => .str (clauseAt i)))) ⟨same_new (Same.refl H17) hD, upd_same⟩ (fun j H2 _ pv => T.tCl.t _) (fun j v H2 H3 hj pv hy => ?_) (fun H18 pv => ?_)⟩
    · obtain ⟨e3, hd⟩ := pv
      obtain ⟨Tt, x, y, rfl, nT, rfl, ex, ey⟩ := hy
      have hj5 : j < 5 := hj
      obtain rfl : .int (j : Nat) = x := Option.some.inj ex
      have ey' : (clauses.map V.str)[j]? = some y := ey
      rw [List.getElem?_map, clause_get hj5] at ey'
      obtain rfl := Option.some.inj ey'
      have nD : D ≠ Tt := ne_of_none hd nT
      have e4 : Same H17 (upd H2 Tt (.tup [.int (j : Nat), .str (clauseAt j)])) := same_new e3 nT
      have hd4 : (upd H2 Tt (.tup [.int (j : Nat), .str (clauseAt j)])) D = some (.lst (Evl.given j (fun i => !decide (wAt n i = wAt n2 i)) fun i => .str (clauseAt i))) := by rw [upd_ne nD]; exact hd
      refine ⟨Tt, _, rfl, .inl (.inl upd_same), rfl, _, _, rfl, _, _, rfl, rfl, rfl, ?_⟩
      refine ⟨_, rfl, _, rfl, r, _, _, .str (wAt n j), rfl, rfl, .inl (.inl (e4 _ _ hr1)), atI_nat (by rw [List.getElem?_map, row_get hj5]; rfl), ?_⟩
      refine ⟨_, rfl, _, rfl, r2, _, _, .str (wAt n2 j), rfl, rfl, .inl (.inl (e4 _ _ hr2)), atI_nat (by rw [List.getElem?_map, row_get hj5]; rfl), rfl, _, rfl, ite2 (fun q1 => ?_) (fun q1 => ?_)⟩
      · rw [dec_str] at q1
        refine ⟨_, rfl, _, hd4, ?_, fun b o hb => ?_, ?_⟩
        · exact Nat.lt_of_le_of_lt (Evl.given_len _ _ _) (small1000 (by omega))
        · rw [upd_ne (ne_of_none hb hD)]
          exact e4 _ _ hb
        · rw [upd_same, Evl.given_yes (f := fun i => !decide (wAt n i = wAt n2 i)) q1]
      · rw [dec_str] at q1
        refine ⟨e4, ?_⟩
        rw [Evl.given_no (f := fun i => !decide (wAt n i = wAt n2 i)) (Bool.eq_false_iff.mpr q1)]
        exact hd4
    obtain ⟨e18, hd⟩ := pv
    obtain ⟨ss, es, hok⟩ := given_strs (fun i => !decide (wAt n i = wAt n2 i)) 5 (by omega)
    have hd : H18 D = some (.lst (ss.map V.str)) := by rw [← es]; exact hd
    have ed1 : diffOf n n2 = ss.map V.str := es
    have ed2 : diffOf n2 n = ss.map V.str := by
      rw [← ed1]
      unfold diffOf
      congr 1
      funext i
      exact congrArg (!·) (decide_eq_decide.mpr ⟨Eq.symm, Eq.symm⟩)
    have hh18 := hh17.same e18
    have hm := hm.same e18
    have c1 := c1.same e18
    have c2 := c2.same e18
    have hr1 := e18 _ _ hr1
    refine ⟨fun σ' H' => σ' = sg [some (.ref s0), some (.ref h), some (.ref m), none, some (.int n), some (.int n2), some (.ref p), some (.ref p2), some (.ref r), some (.ref r2), some (.ref p3), some (.ref D)] ∧ Same H18 H', ?_, ?_⟩
    · refine ⟨_, rfl, _, rfl, p, p2, n, n2, rfl, c1, c2, fun H19 u e19 nu hu => ?_⟩
      rw [ed1] at hu
      refine ⟨_, rfl, _, _, rfl, .inl ⟨.inl (.inl (e19 _ _ hd)), fun t5 nt5 => ?_⟩⟩
      have s20 := same_new (o := .tup (ss.map V.str)) (Same.refl H19) nt5
      refine ⟨_, _, .tup (.inl (.inl (s20 _ _ hu))) (dp_strs _), .tup (.inl (.inl upd_same)) (dp_strs _), (shaped_strs _ hok).1, (shaped_strs _ hok).1, ?_⟩
      rw [(eqv_same _).1]
      refine ⟨false, rfl, ?_⟩
      have e20 := e19.trans s20
      refine ⟨_, rfl, _, rfl, p2, p, n2, n, rfl, c2.same e20, c1.same e20, fun H21 u2 e21 nu2 hu2 => ?_⟩
      rw [ed2] at hu2
      refine ⟨_, rfl, _, _, rfl, .inl ⟨.inl (.inl ((e20.trans e21) _ _ hd)), fun t6 nt6 => ?_⟩⟩
      have s22 := same_new (o := .tup (ss.map V.str)) (Same.refl H21) nt6
      refine ⟨_, _, .tup (.inl (.inl (s22 _ _ hu2))) (dp_strs _), .tup (.inl (.inl upd_same)) (dp_strs _), (shaped_strs _ hok).1, (shaped_strs _ hok).1, ?_⟩
      rw [(eqv_same _).1]
      exact ⟨false, rfl, rfl, (e20.trans e21).trans s22⟩
    rintro _ H22 ⟨rfl, e22⟩
    have hh22 := hh18.same e22
    have hm := hm.same e22
    have c1 := c1.same e22
    have hr1 := e22 _ _ hr1
    -- the place
    refine ⟨_, rfl, h, c, _, rfl, hh22, by decide, by decide, fun H23 x3 d23 g0 g1 => ?_⟩
    obtain ⟨i, rfl⟩ : ∃ i : Nat, x3 = (i : Int) := ⟨x3.toNat, by omega⟩
    have hi : i < 5 := by omega
    have y23 := Stay.of_drawn hh22 d23
    have c1 := y23.cust c1
    have hr1 := y23.row hr1
    have hm := y23.menus hm
    have c23 := c1
    have r23 := hr1
    have m23 := hm
    -- one word changed
    refine ⟨_, rfl, r, _, rfl, .inl (.inl (.inl hr1)), fun l1 nl1 => ?_⟩
    have s24 := same_new (o := .lst ((rowOf n).map V.str)) (Same.refl H23) nl1
    have hl1 : upd H23 l1 (.lst ((rowOf n).map V.str)) l1 = some (.lst ((rowOf n).map V.str)) := upd_same
    have nr1 : r ≠ l1 := ne_of_none hr1 nl1
    have hh24 := y23.hand.same s24
    have c1 := c1.same s24
    have hr1 := s24 _ _ hr1
    have hm := hm.same s24
    obtain ⟨ms, hm5, hmm, hms⟩ := id hm
    obtain ⟨lw, elw, hlw⟩ := hms i hi
    obtain ⟨mp, ml⟩ := menu_len ⟨i, hi⟩
    have mp : 0 < (menuAt i).length := mp
    have ml : (menuAt i).length ≤ 4 := ml
    refine ⟨_, rfl, _, rfl, _, rfl, m, _, _, .ref lw, rfl, rfl, .inl (.inl hmm), atI_nat (by rw [List.getElem?_map, elw]; rfl), ?_⟩
    refine ⟨h, c, lw, _, rfl, hh24, hh24.nel hlw (notHand_strs _), hlw, by rw [List.length_map]; exact mp, by rw [List.length_map]; omega, fun H25 j v d25 ej => ?_⟩
    obtain ⟨s, sm, rfl⟩ : ∃ s ∈ menuAt i, v = .str s := by
      rw [List.getElem?_map] at ej
      obtain ⟨s, es, rfl⟩ := Option.map_eq_some_iff.mp ej
      exact ⟨s, List.mem_of_getElem? es, rfl⟩
    have y25 := Stay.of_drawn hh24 d25
    have hl1 := y25.row hl1
    have c1 := y25.cust c1
    have hr1 := y25.row hr1
    have hm := y25.menus hm
    refine ⟨_, rfl, _, rfl, l1, _, _, i, rfl, rfl, hl1, ixN_nat (show i < 5 from hi), ?_⟩
    obtain ⟨q1, q2⟩ := y23.hand.ne nl1
    have y26 : Stay h c H23 (upd H25 l1 (.lst (((rowOf n).map V.str).set i (.str s)))) := ⟨fun b o nb hb => by rw [upd_ne (ne_of_none hb nl1)]; exact y25.but b o nb (s24 _ _ hb), y23.hand, y25.hand.upd q1 q2⟩
    have hl1 : upd H25 l1 (.lst (((rowOf n).map V.str).set i (.str s))) l1 = some (.lst (((rowOf n).set i s).map V.str)) := by rw [upd_same, List.map_set]
    have c1 := y26.cust c23
    have hr1 := y26.row r23
    have hm := y26.menus m23
    have hh26 := y26.hand
    generalize upd H25 l1 (.lst (((rowOf n).map V.str).set i (.str s))) = H26 at hl1 c1 hr1 hm hh26 y26 ⊢
    obtain ⟨sn, srow⟩ := set_all ⟨n, hn⟩ ⟨i, hi⟩ s sm
    have sn : numOf ((rowOf n).set i s) < 192 := sn
    have srow : rowOf (numOf ((rowOf n).set i s)) = (rowOf n).set i s := srow
    refine ⟨fun σ' H' => σ' = sg [some (.ref s0), some (.ref h), some (.ref m), none, some (.int n), some (.int n2), some (.ref p), some (.ref p2), some (.ref r), some (.ref r2), some (.ref p3), some (.ref D), some (.int i), none, some (.ref l1)] ∧ Same H26 H', ?_, ?_⟩
    · obtain ⟨_, dx, t1, hp, ht⟩ := id c1
      refine ⟨_, rfl, p, dx, _, rfl, hp, (custFs_meth _ _ _).2.1, ?_⟩
      refine ⟨_, rfl, a.cl, _, _, .str (clauseAt i), rfl, rfl, T.tCl.t _, atI_nat (by rw [List.getElem?_map, clause_get hi]; rfl), ?_⟩
      refine ⟨_, rfl, _, rfl, l1, _, _, .str s, rfl, rfl, .inl (.inl hl1), atI_nat (by rw [List.getElem?_map, List.getElem?_set_self (by show i < 5; exact hi)]; rfl), ?_⟩
      refine ⟨p, n, _, _, rfl, c1, .inl ⟨i, s, _, hi, rfl, rfl, sm, sn, srow, fun H27 p4 e27 np4 c4 => ?_⟩⟩
      refine ⟨_, rfl, l1, _, rfl, e27 _ _ hl1, set_in hn hi sm, fun H28 e28 => ?_⟩
      refine ⟨p4, _, rfl, c4.same e28, fun H29 e29 => ?_⟩
      refine ⟨_, rfl, ?_⟩
      have e30 := (e27.trans e28).trans e29
      refine ⟨_, rfl, _, rfl, p, n, rfl, c1.same e30, fun H30 e31 => ?_⟩
      exact ⟨_, rfl, rfl, e30.trans e31⟩
    rintro _ H30 ⟨rfl, e30⟩
    have hh30 := hh26.same e30
    have hm := hm.same e30
    have c1 := c1.same e30
    have hr1 := e30 _ _ hr1
    -- all customs
    refine ⟨fun σ' H' => σ' = sg [some (.ref s0), some (.ref h), some (.ref m), none, some (.int n), some (.int n2), some (.ref p), some (.ref p2), some (.ref r), some (.ref r2), some (.ref p3), some (.ref D), some (.int i), none, some (.ref l1)] ∧ Same H30 H', ?_, ?_⟩
    · intro H31' la e31' nla0 nla'
      have nla : H30 la = none := nla0
      have e31 := same_new (o := .lst (K7E.upTo 192)) e31' nla'
      have hla : upd H31' la (.lst (K7E.upTo 192)) la = some (.lst (K7E.upTo 192)) := upd_same
      generalize upd H31' la (.lst (K7E.upTo 192)) = H31 at e31 hla ⊢
      refine ⟨192, rfl, fun rg nrg => ?_⟩
      refine ⟨rg, 192, rfl, upd_same, by decide, fun lb nlb => ?_⟩
      have s1 := same_new (o := .rng 0 192) (Same.refl H31) nrg
      have s2 := same_new (o := .lst (K7E.upTo 192)) s1 nlb
      refine ⟨_, _, .lst (.inl (.inl (s2 _ _ hla))) (dp_all_map (List.range 192)), .lst (.inl (.inl upd_same)) (dp_all_map (List.range 192)), int_data.1, int_data.1, ?_⟩
      rw [show PyData.eqv (.list ((List.range 192).map fun i => PyData.int (i : Nat))) (.list ((List.range 192).map fun i => PyData.int (i : Nat))) = true from int_data.2]
      exact ⟨false, rfl, rfl, e31.trans s2⟩
    rintro _ H31 ⟨rfl, e31⟩
    have hh31 := hh30.same e31
    have hm := hm.same e31
    have c1 := c1.same e31
    have hr1 := e31 _ _ hr1
    -- bad words
    refine ⟨by show 1 ≤ sizeLine; decide, fun tA ntA => ⟨by show 1 ≤ sizeLine; decide, fun lA nlA => ?_⟩⟩
    refine fun dA ndA => ⟨by show 2 ≤ sizeLine; decide, fun lB nlB => ⟨by show 11 ≤ sizeLine; decide, fun lC nlC => ?_⟩⟩
    have u1 := same_new (o := .tup [.str "stay"]) (Same.refl H31) ntA
    have u2 := same_new (o := .lst [.str "die"]) (Same.refl _) nlA
    have u3 := same_new (o := .dK []) (Same.refl _) ndA
    have u4 := same_new (o := .lst [.str "none", .str "all"]) (Same.refl _) nlB
    have u5 := same_new (o := .lst [.str "", .str "x", .non, .bl true, .int 0, .str "die ", .str "Stay", .ref tA, .ref lA, .ref dA, .ref lB]) (Same.refl _) nlC
    have v4 := u5
    have v3 := u4.trans v4
    have v2 := u3.trans v3
    have v1 := u2.trans v2
    have e36 := u1.trans v1
    have htA := v1 _ _ upd_same
    have hlA := v2 _ _ upd_same
    have hdA := v3 _ _ upd_same
    have hlB := v4 _ _ upd_same
    have hlC : upd (upd (upd (upd (upd H31 tA (.tup [.str "stay"])) lA (.lst [.str "die"])) dA (.dK [])) lB (.lst [.str "none", .str "all"])) lC (.lst [.str "", .str "x", .non, .bl true, .int 0, .str "die ", .str "Stay", .ref tA, .ref lA, .ref dA, .ref lB]) lC = some (.lst [.str "", .str "x", .non, .bl true, .int 0, .str "die ", .str "Stay", .ref tA, .ref lA, .ref dA, .ref lB]) := upd_same
    have hh36 := hh31.same e36
    have hm := hm.same e36
    have c1 := c1.same e36
    have hr1 := e36 _ _ hr1
    generalize upd (upd (upd (upd (upd H31 tA (.tup [.str "stay"])) lA (.lst [.str "die"])) dA (.dK [])) lB (.lst [.str "none", .str "all"])) lC (.lst [.str "", .str "x", .non, .bl true, .int 0, .str "die ", .str "Stay", .ref tA, .ref lA, .ref dA, .ref lB]) = H36 at u5 v4 v3 v2 v1 e36 htA hlA hdA hlB hlC hh36 hm c1 hr1 ⊢
    obtain ⟨w1, w2, w3, w4⟩ := bad_words ⟨i, hi⟩
    have hbads : ∀ y ∈ [V.str "", .str "x", .non, .bl true, .int 0, .str "die ", .str "Stay", .ref tA, .ref lA, .ref dA, .ref lB], BadW K H36 i y := by
      intro y hy
      simp only [List.mem_cons, List.not_mem_nil, or_false] at hy
      rcases hy with rfl | rfl | rfl | rfl | rfl | rfl | rfl | rfl | rfl | rfl | rfl
      · exact badW_str w1
      · exact badW_str w2
      · exact .odd .non
      · exact .odd (.bl true)
      · exact .odd (.int 0)
      · exact badW_str w3
      · exact badW_str w4
      · exact .odd (.tup htA)
      · exact .odd (.lst hlA)
      · exact .odd (.dct hdA)
      · exact .odd (.lst hlB)
    obtain ⟨ms, hm5, hmm, hms⟩ := id hm
    have hk : (i + 2) % 5 < 5 := Nat.mod_lt _ (by decide)
    obtain ⟨lx, elx, hlx⟩ := hms _ hk
    obtain ⟨lw, elw, hlw⟩ := hms i hi
    have mlk : (menuAt ((i + 2) % 5)).length ≤ 4 := (menu_len ⟨(i + 2) % 5, hk⟩).2
    refine ⟨_, rfl, _, rfl, _, rfl, _, rfl, _, _, rfl, rfl, .inl ⟨_, rfl, _, _, rfl, rfl, show (0 : Int) < 5 by decide, m, _, _, .ref lx, rfl, rfl, .inl (.inl hmm), ?_, lx, rfl, ⟨_, .inl (.inl hlx)⟩, fun D2 hD2 => lc_list (xs := (menuAt ((i + 2) % 5)).map V.str) (fun j H2 => ∃ tt : List Str, H2 D2 = some (.lst (tt.map V.str)) ∧ tt.length ≤ j ∧ Same H36 H2 ∧ ∀ z ∈ tt, z ∉ menuAt i) ⟨[], upd_same, Nat.le_refl _, same_new (Same.refl H36) hD2, fun z hz => nomatch hz⟩ (fun j H2 _ pv => ?_) (fun j x H2 hx pv => ?_) (fun H37 pv => ?_)⟩⟩
    · rw [show ((i : Int) + 2) % 5 = (((i + 2) % 5 : Nat) : Int) by omega]
      exact atI_nat (by rw [List.getElem?_map, elx]; rfl)
    · obtain ⟨tt, hd, hl, e, hn⟩ := pv
      exact .inl (.inl (e _ _ hlx))
    · obtain ⟨tt, hd, hl, e, hno⟩ := pv
      have hjl : j < 4 := by
        have := (List.getElem?_eq_some_iff.mp hx).1
        rw [List.length_map] at this
        omega
      rw [List.getElem?_map] at hx
      obtain ⟨z, hz, rfl⟩ := Option.map_eq_some_iff.mp hx
      refine ⟨rfl, _, rfl, _, rfl, _, rfl, m, _, _, .ref lw, rfl, rfl, .inl (.inl (e _ _ hmm)), atI_nat (by rw [List.getElem?_map, elw]; rfl), ?_⟩
      refine ⟨lw, _, rfl, .inl (.inl (.inl (e _ _ hlw))), rfl, all_flat _, _, rfl, ite2 (fun q1 => ?_) (fun q1 => ?_)⟩
      · have hzn : z ∉ menuAt i := by
          have q2 : (!inV (.str z) ((menuAt i).map V.str)) = true := q1
          rw [inV_strs] at q2
          intro hin
          rw [decide_eq_true hin] at q2
          cases q2
        refine ⟨_, rfl, _, hd, ?_, tt ++ [z], ?_, ?_, fun b o hb => ?_, fun y hy => ?_⟩
        · rw [List.length_map]; exact small1000 (by omega)
        · rw [upd_same, List.map_append]; rfl
        · rw [List.length_append, List.length_singleton]; omega
        · rw [upd_ne (ne_of_none hb hD2)]; exact e _ _ hb
        · rcases List.mem_append.mp hy with q | q
          · exact hno y q
          · rw [List.mem_singleton.mp q]; exact hzn
      · exact ⟨tt, hd, by omega, e, hno⟩
    obtain ⟨tt, hd, hl, e37, hno⟩ := pv
    rw [List.length_map] at hl
    have hle : ([V.str "", .str "x", .non, .bl true, .int 0, .str "die ", .str "Stay", .ref tA, .ref lA, .ref dA, .ref lB]).length + (tt.map V.str).length ≤ 1000 := by
      rw [List.length_map]
      show 11 + tt.length ≤ 1000
      omega
    refine ⟨lC, D2, _, _, rfl, rfl, e37 _ _ hlC, hd, Nat.le_trans hle (by decide), fun lE nlE => ?_⟩
    have s38 := same_new (o := .lst ([.str "", .str "x", .non, .bl true, .int 0, .str "die ", .str "Stay", .ref tA, .ref lA, .ref dA, .ref lB] ++ tt.map V.str)) e37 nlE
    have hh38 := hh36.same s38
    refine ⟨h, c, lE, _, rfl, hh38, hh38.nel upd_same (notHand_len _ (by rw [List.length_append]; show 11 + _ ≠ 4; omega)), upd_same, by rw [List.length_append]; show 0 < 11 + _; omega, by rw [List.length_append]; exact hle, fun H39 j v d39 ej => ?_⟩
    have y39 := Stay.of_drawn hh38 d39
    have hbv : BadW K H39 i v := by
      rcases List.mem_append.mp (List.mem_of_getElem? ej) with q | q
      · exact ((hbads v q).same s38).stay y39
      · obtain ⟨z, hz, rfl⟩ := List.mem_map.mp q
        exact badW_str (hno z hz)
    have hm := y39.menus (hm.same s38)
    have c1 := y39.cust (c1.same s38)
    have hr1 := y39.row (s38 _ _ hr1)
    have hh39 := y39.hand
    -- a row spoilt
    refine ⟨_, rfl, r, _, rfl, .inl (.inl (.inl hr1)), fun lS nlS => ?_⟩
    obtain ⟨w0, w1, w2, w3, w4, ew⟩ := five_of (xs := ((rowOf n).map V.str).set i v) (by rw [List.length_set]; rfl)
    refine ⟨_, rfl, _, rfl, _, rfl, lS, _, _, i, rfl, rfl, upd_same, ixN_nat (show i < 5 from hi), ?_⟩
    have e40 : Same H39 (upd (upd H39 lS (.lst ((rowOf n).map V.str))) lS (.lst (((rowOf n).map V.str).set i v))) := fun b o hb => by
      rw [upd_ne (ne_of_none hb nlS), upd_ne (ne_of_none hb nlS)]; exact hb
    have hlS : upd (upd H39 lS (.lst ((rowOf n).map V.str))) lS (.lst (((rowOf n).map V.str).set i v)) lS = some (.lst [w0, w1, w2, w3, w4]) := by rw [upd_same, ew]
    have hbv := hbv.same e40
    have hm := hm.same e40
    have c1 := c1.same e40
    have hr1 := e40 _ _ hr1
    have hh40 := hh39.same e40
    generalize upd (upd H39 lS (.lst ((rowOf n).map V.str))) lS (.lst (((rowOf n).map V.str).set i v)) = H40 at e40 hlS hbv hm c1 hr1 hh40 ⊢
    refine ⟨fun σ' H' => σ' = sg [some (.ref s0), some (.ref h), some (.ref m), none, some (.int n), some (.int n2), some (.ref p), some (.ref p2), some (.ref r), some (.ref r2), some (.ref p3), some (.ref D), some (.int i), none, some (.ref l1), some (.ref lC), some v, some (.ref lS)] ∧ Same H40 H', ?_, ?_⟩
    · have hbr : BadR K H40 [w0, w1, w2, w3, w4] i := by rw [← ew]; exact bad_set hn hi hbv
      refine ⟨_, rfl, lS, w0, w1, w2, w3, w4, rfl, hlS, .inr ⟨i, hbr, fun H41 t e41 nt ht => ?_⟩⟩
      refine ⟨_, rfl, a.cl, _, _, .str (clauseAt i), rfl, rfl, T.tCl.t _, atI_nat (by rw [List.getElem?_map, clause_get hi]; rfl), by show 2 ≤ sizeLine; decide, fun t2 nt2 => ?_⟩
      have s2 := same_new (o := .tup [.bl true, .str (clauseAt i)]) (Same.refl H41) nt2
      refine ⟨_, _, .tup (.inl (.inl (s2 _ _ ht))) (dp_two _), .tup (.inl (.inl upd_same)) (dp_two _), (two_data (clause_strOk hi)).1, (two_data (clause_strOk hi)).1, ?_⟩
      rw [(two_data (clause_strOk hi)).2]
      refine ⟨false, rfl, ?_⟩
      have e42 := e41.trans s2
      refine ⟨_, rfl, r, .str (wAt n 0), .str (wAt n 1), .str (wAt n 2), .str (wAt n 3), .str (wAt n 4), rfl, e42 _ _ hr1, .inl ⟨n, ⟨hn, rfl⟩, fun H43 e43 => ?_⟩⟩
      exact ⟨rfl, _, rfl, rfl, e42.trans e43⟩
    rintro _ H43 ⟨rfl, e43⟩
    have hbv := hbv.same e43
    have hm := hm.same e43
    have c1 := c1.same e43
    have hlS := e43 _ _ hlS
    have hh43 := hh40.same e43
    refine ⟨fun σ' H' => σ' = sg [some (.ref s0), some (.ref h), some (.ref m), none, some (.int n), some (.int n2), some (.ref p), some (.ref p2), some (.ref r), some (.ref r2), some (.ref p3), some (.ref D), some (.int i), none, some (.ref l1), some (.ref lC), some v, some (.ref lS)] ∧ Same H43 H', ?_, ?_⟩
    · refine ⟨_, rfl, _, rfl, lS, _, rfl, .inl (.inl hlS), fun b1 nb1 => ⟨by show 1 ≤ sizeLine; decide, fun b2 nb2 => ?_⟩⟩
      have t1 := same_new (o := .lst [w0, w1]) (Same.refl H43) nb1
      have t2 := same_new (o := .lst [.non]) (Same.refl _) nb2
      refine ⟨_, _, [w0, w1], [.non], rfl, rfl, t2 _ _ upd_same, upd_same, by show 3 ≤ sizeLine; decide, fun b3 nb3 => ?_⟩
      have t3 := same_new (o := .lst [w0, w1, .non]) (Same.refl _) nb3
      refine ⟨_, rfl, _, rfl, lS, [w0, w1, w2, w3, w4], rfl, .inl (.inl ((t1.trans (t2.trans t3)) _ _ hlS)), fun b4 nb4 => ?_⟩
      have t4 := same_new (o := .lst [w3, w4]) (Same.refl _) nb4
      refine ⟨_, _, [w0, w1, .non], [w3, w4], rfl, rfl, t4 _ _ upd_same, upd_same, by show 5 ≤ sizeLine; decide, fun b5 nb5 => ?_⟩
      have t5 := same_new (o := .lst [w0, w1, .non, w3, w4]) (Same.refl _) nb5
      have e44 := t1.trans (t2.trans (t3.trans (t4.trans t5)))
      refine ⟨b5, w0, w1, .non, w3, w4, rfl, upd_same, .inr ⟨min i 2, bad_none hn hi (hbv.same e44) ew, fun H45 t e45 nt ht => ?_⟩⟩
      refine ⟨_, rfl, _, _, rfl, a.cl, _, _, .str (clauseAt (min i 2)), rfl, rfl, T.tCl.t _, min_at, by show 2 ≤ sizeLine; decide, fun t2 nt2 => ?_⟩
      have s2 := same_new (o := .tup [.bl true, .str (clauseAt (min i 2))]) (Same.refl H45) nt2
      have hmi : min i 2 < 5 := by omega
      refine ⟨_, _, .tup (.inl (.inl (s2 _ _ ht))) (dp_two _), .tup (.inl (.inl upd_same)) (dp_two _), (two_data (clause_strOk hmi)).1, (two_data (clause_strOk hmi)).1, ?_⟩
      rw [(two_data (clause_strOk hmi)).2]
      exact ⟨false, rfl, rfl, (e44.trans e45).trans s2⟩
    rintro _ H46 ⟨rfl, e46⟩
    have hbv := hbv.same e46
    have hm := hm.same e46
    have c1 := c1.same e46
    have hh46 := hh43.same e46
    refine ⟨fun σ' H' => σ' = sg [some (.ref s0), some (.ref h), some (.ref m), none, some (.int n), some (.int n2), some (.ref p), some (.ref p2), some (.ref r), some (.ref r2), some (.ref p3), some (.ref D), some (.int i), none, some (.ref l1), some (.ref lC), some v, some (.ref lS)] ∧ Same H46 H', ?_, ?_⟩
    · refine ⟨_, rfl, _, rfl, a.cl, _, _, .str (clauseAt i), rfl, rfl, T.tCl.t _, atI_nat (by rw [List.getElem?_map, clause_get hi]; rfl), _, rfl, ?_⟩
      refine ⟨0, p, n, _, v, rfl, c1, .inr ⟨rfl, i, hi, rfl, hbv, fun H47 t e47 nt ht => ?_⟩⟩
      refine ⟨by show 2 ≤ sizeLine; decide, fun t2 nt2 => ?_⟩
      have s2 := same_new (o := .tup [.bl true, .str "word"]) (Same.refl H47) nt2
      have okw : PyData.strOk "word" = true := by decide +kernel
      refine ⟨_, _, .tup (.inl (.inl (s2 _ _ ht))) (dp_two _), .tup (.inl (.inl upd_same)) (dp_two _), (two_data okw).1, (two_data okw).1, ?_⟩
      rw [(two_data okw).2]
      exact ⟨false, rfl, rfl, e47.trans s2⟩
    rintro _ H48 ⟨rfl, e48⟩
    have hm := hm.same e48
    have c1 := c1.same e48
    have hh48 := hh46.same e48
    have hbv := hbv.same e48
    -- strange words
    refine ⟨_, rfl, by show 1 ≤ sizeLine; decide, fun tB ntB => ⟨by show 1 ≤ sizeLine; decide, fun lD nlD => ⟨by show 9 ≤ sizeLine; decide, fun lF nlF => ?_⟩⟩⟩
    have x1 := same_new (o := .tup [.str "sold"]) (Same.refl H48) ntB
    have x2 := same_new (o := .lst [.str "sold"]) (Same.refl _) nlD
    have x3 := same_new (o := .lst [.str "", .str "ended", .str "Sold", .non, .int 0, .bl true, .ref tB, .ref lD, .str "stay"]) (Same.refl _) nlF
    have y2 := x2.trans x3
    have e49 := x1.trans y2
    have htB := y2 _ _ upd_same
    have hlD := x3 _ _ upd_same
    have hh49 := hh48.same e49
    refine ⟨h, c, lF, _, rfl, hh49, hh49.nel upd_same (notHand_len _ (by show 9 ≠ 4; decide)), upd_same, by show 0 < 9; decide, by show 9 ≤ 1000; decide, fun H50 j2 v2 d50 ej2 => ?_⟩
    have y50 := Stay.of_drawn hh49 d50
    obtain ⟨k1, k2, k3, k4⟩ := strange_words
    have hsv : InW K H50 clauses v2 false := by
      have hy := List.mem_of_getElem? ej2
      simp only [List.mem_cons, List.not_mem_nil, or_false] at hy
      rcases hy with rfl | rfl | rfl | rfl | rfl | rfl | rfl | rfl | rfl
      · exact inW_no k1
      · exact inW_no k2
      · exact inW_no k3
      · exact .odd .non
      · exact .odd (.int 0)
      · exact .odd (.bl true)
      · exact (InW.odd (.tup htB)).stay y50
      · exact (InW.odd (.lst hlD)).stay y50
      · exact inW_no k4
    have c1 := y50.cust (c1.same e49)
    have hh50 := y50.hand
    refine ⟨fun σ' H' => ∃ y19, σ' = sg [some (.ref s0), some (.ref h), some (.ref m), none, some (.int n), some (.int n2), some (.ref p), some (.ref p2), some (.ref r), some (.ref r2), some (.ref p3), some (.ref D), some (.int i), none, some (.ref l1), some (.ref lC), some v, some (.ref lS), some v2, y19] ∧ Same H50 H', ?_, ?_⟩
    · refine ⟨3, rfl, by decide, by decide, for_range (n := 3) (fun k σ' H' => ∃ y19, σ' = sg [some (.ref s0), some (.ref h), some (.ref m), none, some (.int n), some (.int n2), some (.ref p), some (.ref p2), some (.ref r), some (.ref r2), some (.ref p3), some (.ref D), some (.int i), none, some (.ref l1), some (.ref lC), some v, some (.ref lS), some v2, y19] ∧ Same H50 H') ⟨none, rfl, Same.refl H50⟩ (fun k σ' H' hk pv => ?_) (fun σ' H' pv => pv)⟩
      obtain ⟨y19, rfl, e⟩ := pv
      refine ⟨_, rfl, _, rfl, _, rfl, _, rfl, ?_⟩
      refine ⟨_, p, n, v2, v, rfl, c1.same e, .inl ⟨hsv.same e, fun H51 t e51 nt ht => ?_⟩⟩
      refine ⟨by show 2 ≤ sizeLine; decide, fun t2 nt2 => ?_⟩
      have s2 := same_new (o := .tup [.bl true, .str "clause"]) (Same.refl H51) nt2
      have okw : PyData.strOk "clause" = true := by decide +kernel
      refine ⟨_, _, .tup (.inl (.inl (s2 _ _ ht))) (dp_two _), .tup (.inl (.inl upd_same)) (dp_two _), (two_data okw).1, (two_data okw).1, ?_⟩
      rw [(two_data okw).2]
      exact ⟨false, rfl, _, rfl, (e.trans e51).trans s2⟩
    rintro _ H52 ⟨y19, rfl, e52⟩
    have hh52 := hh50.same e52
    -- beyond
    have big : (10 : Int) ^ 30 < 2 ^ 200 := by decide
    refine ⟨_, rfl, _, rfl, _, rfl, _, _, rfl, rfl, ⟨by decide, by decide, by decide⟩, ?_⟩
    refine ⟨h, c, _, rfl, hh52, by decide, by decide, fun H53 x5 d53 k0 k1 => ?_⟩
    have k2 : x5 < (10 : Int) ^ 30 := k1
    have k3 : x5 < 2 ^ 150 := Int.lt_trans k2 (by decide)
    refine ⟨_, _, rfl, rfl, by show 6 ≤ sizeLine; decide, fun lG nlG => ?_⟩
    have s54 := same_new (o := .lst [.int 192, .int (-1), .bl true, .non, .str "0", .int (192 + x5)]) (Same.refl H53) nlG
    have hh54 := d53.hand.same s54
    refine ⟨h, c, lG, _, rfl, hh54, hh54.nel upd_same (notHand_len _ (by show 6 ≠ 4; decide)), upd_same, by show 0 < 6; decide, by show 6 ≤ 1000; decide, fun H55 j3 v3 d55 ej3 => ?_⟩
    have hv3 : Flat4 v3 ∧ wholeV v3 0 191 = false ∧ K7E.reprOk v3 ∧ PyData.strOk (K7E.reprV v3) = true := by
      have hy := List.mem_of_getElem? ej3
      simp only [List.mem_cons, List.not_mem_nil, or_false] at hy
      rcases hy with rfl | rfl | rfl | rfl | rfl | rfl
      · exact ⟨.int _, by decide, log_ok (by decide), repr_int _⟩
      · exact ⟨.int _, by decide, log_ok (by decide), repr_int _⟩
      · exact ⟨.bl _, rfl, trivial, repr_ok.2.2.2 true⟩
      · exact ⟨.non, rfl, trivial, repr_ok.2.2.1⟩
      · exact ⟨.str _, rfl, repr_ok.1, repr_ok.2.1⟩
      · refine ⟨.int _, ?_, log_ok (by omega), repr_int _⟩
        rw [wholeV_int]
        have : ¬ (192 + x5 ≤ 191) := by omega
        simp [this]
    obtain ⟨f1, f2, f3, f4⟩ := hv3
    refine ⟨_, rfl, v3, rfl, .inr ⟨f1, f2, f3, fun H56 t e56 nt ht => ?_⟩⟩
    refine ⟨_, rfl, v3, rfl, f3, by show 2 ≤ sizeLine; decide, fun t2 nt2 => ?_⟩
    have s2 := same_new (o := .tup [.bl true, .str (K7E.reprV v3)]) (Same.refl H56) nt2
    refine ⟨_, _, .tup (.inl (.inl (s2 _ _ ht))) (dp_two _), .tup (.inl (.inl upd_same)) (dp_two _), (two_data f4).1, (two_data f4).1, ?_⟩
    rw [(two_data f4).2]
    refine ⟨true, rfl, ?_⟩
    refine ⟨_, rfl, _, rfl, .inl ⟨n, hn, rfl, fun H57 e57 => ?_⟩⟩
    exact ⟨rfl, q _⟩
end
end K7
end
/-! ## P9 -/
section
open PySem PySem.Spec PyProof.Rows L2
namespace K7
theorem all_mk {P : Program} {w : World} {K : PySem.W.Frag} {h : Heap} {mg : Str → Option Value} {fa : Addr} (X : K.In h) (G : h.Ns mainGlobals mg) (hfa : mg "law" = some (.ref fa))
  {f_isw : Addr}
  (a_isw : PySem.W.nsIn K mainGlobals "is_whole" = some (some (.ref f_isw)))
  {od_isw an_isw : Option Addr}
  {sl_isw : Array (Option Value)}
  {oc_isw kV_isw dc_isw pm_isw cd_isw ct_isw : Value}
  (l_isw : K.lookup f_isw = some ⟨oc_isw, od_isw, .func (PySem.W.fnOf "is_whole" "is_whole" (defArgs s_is_whole) (defBody s_is_whole) (defScope s_is_whole) .none kV_isw dc_isw pm_isw an_isw cd_isw ct_isw), sl_isw⟩)
  (c_isw : PySem.W.codeIn K cd_isw "is_whole" = true)
  (k_isw : PySem.W.keepIn K (.ref f_isw) = true)
  {f_cc : Addr}
  (a_cc : PySem.W.nsIn K mainGlobals "_check_clause" = some (some (.ref f_cc)))
  {od_cc an_cc : Option Addr}
  {sl_cc : Array (Option Value)}
  {oc_cc kV_cc dc_cc pm_cc cd_cc ct_cc : Value}
  (l_cc : K.lookup f_cc = some ⟨oc_cc, od_cc, .func (PySem.W.fnOf "_check_clause" "_check_clause" (defArgs s__check_clause) (defBody s__check_clause) (defScope s__check_clause) .none kV_cc dc_cc pm_cc an_cc cd_cc ct_cc), sl_cc⟩)
  (c_cc : PySem.W.codeIn K cd_cc "_check_clause" = true)
  (k_cc : PySem.W.keepIn K (.ref f_cc) = true)
  {f_ww : Addr}
  (a_ww : PySem.W.nsIn K mainGlobals "words" = some (some (.ref f_ww)))
  {od_ww an_ww : Option Addr}
  {sl_ww : Array (Option Value)}
  {oc_ww kV_ww dc_ww pm_ww cd_ww ct_ww : Value}
  (l_ww : K.lookup f_ww = some ⟨oc_ww, od_ww, .func (PySem.W.fnOf "words" "words" (defArgs s_words) (defBody s_words) (defScope s_words) .none kV_ww dc_ww pm_ww an_ww cd_ww ct_ww), sl_ww⟩)
  (c_ww : PySem.W.codeIn K cd_ww "words" = true)
  (k_ww : PySem.W.keepIn K (.ref f_ww) = true)
  {f_at : Addr}
  (a_at : PySem.W.nsIn K mainGlobals "custom_at" = some (some (.ref f_at)))
  {od_at an_at : Option Addr}
  {sl_at : Array (Option Value)}
  {oc_at kV_at dc_at pm_at cd_at ct_at : Value}
  (l_at : K.lookup f_at = some ⟨oc_at, od_at, .func (PySem.W.fnOf "custom_at" "custom_at" (defArgs s_custom_at) (defBody s_custom_at) (defScope s_custom_at) .none kV_at dc_at pm_at an_at cd_at ct_at), sl_at⟩)
  (c_at : PySem.W.codeIn K cd_at "custom_at" = true)
  (k_at : PySem.W.keepIn K (.ref f_at) = true)
  {f_cu : Addr}
  (a_cu : PySem.W.nsIn K mainGlobals "customs" = some (some (.ref f_cu)))
  {od_cu an_cu : Option Addr}
  {sl_cu : Array (Option Value)}
  {oc_cu kV_cu dc_cu pm_cu cd_cu ct_cu : Value}
  (l_cu : K.lookup f_cu = some ⟨oc_cu, od_cu, .func (PySem.W.fnOf "customs" "customs" (defArgs s_customs) (defBody s_customs) (defScope s_customs) .none kV_cu dc_cu pm_cu an_cu cd_cu ct_cu), sl_cu⟩)
  (c_cu : PySem.W.codeIn K cd_cu "customs" = true)
  (k_cu : PySem.W.keepIn K (.ref f_cu) = true)
  {f_df : Addr}
  (a_df : PySem.W.nsIn K mainGlobals "differences" = some (some (.ref f_df)))
  {od_df an_df : Option Addr}
  {sl_df : Array (Option Value)}
  {oc_df kV_df dc_df pm_df cd_df ct_df : Value}
  (l_df : K.lookup f_df = some ⟨oc_df, od_df, .func (PySem.W.fnOf "differences" "differences" (defArgs s_differences) (defBody s_differences) (defScope s_differences) .none kV_df dc_df pm_df an_df cd_df ct_df), sl_df⟩)
  (c_df : PySem.W.codeIn K cd_df "differences" = true)
  (k_df : PySem.W.keepIn K (.ref f_df) = true)
  {f_mi : Addr}
  (a_mi : PySem.W.nsIn K mainGlobals "_law_mix" = some (some (.ref f_mi)))
  {od_mi an_mi : Option Addr}
  {sl_mi : Array (Option Value)}
  {oc_mi kV_mi dc_mi pm_mi cd_mi ct_mi : Value}
  (l_mi : K.lookup f_mi = some ⟨oc_mi, od_mi, .func (PySem.W.fnOf "_law_mix" "_law_mix" (defArgs s__law_mix) (defBody s__law_mix) (defScope s__law_mix) .none kV_mi dc_mi pm_mi an_mi cd_mi ct_mi), sl_mi⟩)
  (c_mi : PySem.W.codeIn K cd_mi "_law_mix" = true)
  (k_mi : PySem.W.keepIn K (.ref f_mi) = true)
  {f_ha : Addr}
  (a_ha : PySem.W.nsIn K mainGlobals "_law_hand" = some (some (.ref f_ha)))
  {od_ha an_ha : Option Addr}
  {sl_ha : Array (Option Value)}
  {oc_ha kV_ha dc_ha pm_ha cd_ha ct_ha : Value}
  (l_ha : K.lookup f_ha = some ⟨oc_ha, od_ha, .func (PySem.W.fnOf "_law_hand" "_law_hand" (defArgs s__law_hand) (defBody s__law_hand) (defScope s__law_hand) .none kV_ha dc_ha pm_ha an_ha cd_ha ct_ha), sl_ha⟩)
  (c_ha : PySem.W.codeIn K cd_ha "_law_hand" = true)
  (k_ha : PySem.W.keepIn K (.ref f_ha) = true)
  {f_dr : Addr}
  (a_dr : PySem.W.nsIn K mainGlobals "_law_draw" = some (some (.ref f_dr)))
  {od_dr an_dr : Option Addr}
  {sl_dr : Array (Option Value)}
  {oc_dr kV_dr dc_dr pm_dr cd_dr ct_dr : Value}
  (l_dr : K.lookup f_dr = some ⟨oc_dr, od_dr, .func (PySem.W.fnOf "_law_draw" "_law_draw" (defArgs s__law_draw) (defBody s__law_draw) (defScope s__law_draw) .none kV_dr dc_dr pm_dr an_dr cd_dr ct_dr), sl_dr⟩)
  (c_dr : PySem.W.codeIn K cd_dr "_law_draw" = true)
  (k_dr : PySem.W.keepIn K (.ref f_dr) = true)
  {f_pk : Addr}
  (a_pk : PySem.W.nsIn K mainGlobals "_law_pick" = some (some (.ref f_pk)))
  {od_pk an_pk : Option Addr}
  {sl_pk : Array (Option Value)}
  {oc_pk kV_pk dc_pk pm_pk cd_pk ct_pk : Value}
  (l_pk : K.lookup f_pk = some ⟨oc_pk, od_pk, .func (PySem.W.fnOf "_law_pick" "_law_pick" (defArgs s__law_pick) (defBody s__law_pick) (defScope s__law_pick) .none kV_pk dc_pk pm_pk an_pk cd_pk ct_pk), sl_pk⟩)
  (c_pk : PySem.W.codeIn K cd_pk "_law_pick" = true)
  (k_pk : PySem.W.keepIn K (.ref f_pk) = true)
  {f_lw : Addr}
  (a_lw : PySem.W.nsIn K mainGlobals "_law_words" = some (some (.ref f_lw)))
  {od_lw an_lw : Option Addr}
  {sl_lw : Array (Option Value)}
  {oc_lw kV_lw dc_lw pm_lw cd_lw ct_lw : Value}
  (l_lw : K.lookup f_lw = some ⟨oc_lw, od_lw, .func (PySem.W.fnOf "_law_words" "_law_words" (defArgs s__law_words) (defBody s__law_words) (defScope s__law_words) .none kV_lw dc_lw pm_lw an_lw cd_lw ct_lw), sl_lw⟩)
  (c_lw : PySem.W.codeIn K cd_lw "_law_words" = true)
  (k_lw : PySem.W.keepIn K (.ref f_lw) = true)
  {f_ro : Addr}
  (a_ro : PySem.W.nsIn K mainGlobals "_law_row" = some (some (.ref f_ro)))
  {od_ro an_ro : Option Addr}
  {sl_ro : Array (Option Value)}
  {oc_ro kV_ro dc_ro pm_ro cd_ro ct_ro : Value}
  (l_ro : K.lookup f_ro = some ⟨oc_ro, od_ro, .func (PySem.W.fnOf "_law_row" "_law_row" (defArgs s__law_row) (defBody s__law_row) (defScope s__law_row) .none kV_ro dc_ro pm_ro an_ro cd_ro ct_ro), sl_ro⟩)
  (c_ro : PySem.W.codeIn K cd_ro "_law_row" = true)
  (k_ro : PySem.W.keepIn K (.ref f_ro) = true)
  {f_nu : Addr}
  (a_nu : PySem.W.nsIn K mainGlobals "_law_number" = some (some (.ref f_nu)))
  {od_nu an_nu : Option Addr}
  {sl_nu : Array (Option Value)}
  {oc_nu kV_nu dc_nu pm_nu cd_nu ct_nu : Value}
  (l_nu : K.lookup f_nu = some ⟨oc_nu, od_nu, .func (PySem.W.fnOf "_law_number" "_law_number" (defArgs s__law_number) (defBody s__law_number) (defScope s__law_number) .none kV_nu dc_nu pm_nu an_nu cd_nu ct_nu), sl_nu⟩)
  (c_nu : PySem.W.codeIn K cd_nu "_law_number" = true)
  (k_nu : PySem.W.keepIn K (.ref f_nu) = true)
  {f_co : Addr}
  (a_co : PySem.W.nsIn K mainGlobals "_law_custom_of" = some (some (.ref f_co)))
  {od_co an_co : Option Addr}
  {sl_co : Array (Option Value)}
  {oc_co kV_co dc_co pm_co cd_co ct_co : Value}
  (l_co : K.lookup f_co = some ⟨oc_co, od_co, .func (PySem.W.fnOf "_law_custom_of" "_law_custom_of" (defArgs s__law_custom_of) (defBody s__law_custom_of) (defScope s__law_custom_of) .none kV_co dc_co pm_co an_co cd_co ct_co), sl_co⟩)
  (c_co : PySem.W.codeIn K cd_co "_law_custom_of" = true)
  (k_co : PySem.W.keepIn K (.ref f_co) = true)
  {f_rf : Addr}
  (a_rf : PySem.W.nsIn K mainGlobals "_law_refused" = some (some (.ref f_rf)))
  {od_rf an_rf : Option Addr}
  {sl_rf : Array (Option Value)}
  {oc_rf kV_rf dc_rf pm_rf cd_rf ct_rf : Value}
  (l_rf : K.lookup f_rf = some ⟨oc_rf, od_rf, .func (PySem.W.fnOf "_law_refused" "_law_refused" (defArgs s__law_refused) (defBody s__law_refused) (defScope s__law_refused) .none kV_rf dc_rf pm_rf an_rf cd_rf ct_rf), sl_rf⟩)
  (c_rf : PySem.W.codeIn K cd_rf "_law_refused" = true)
  (k_rf : PySem.W.keepIn K (.ref f_rf) = true)
  {f_cr : Addr}
  (a_cr : PySem.W.nsIn K mainGlobals "_law_clause_refused" = some (some (.ref f_cr)))
  {od_cr an_cr : Option Addr}
  {sl_cr : Array (Option Value)}
  {oc_cr kV_cr dc_cr pm_cr cd_cr ct_cr : Value}
  (l_cr : K.lookup f_cr = some ⟨oc_cr, od_cr, .func (PySem.W.fnOf "_law_clause_refused" "_law_clause_refused" (defArgs s__law_clause_refused) (defBody s__law_clause_refused) (defScope s__law_clause_refused) .none kV_cr dc_cr pm_cr an_cr cd_cr ct_cr), sl_cr⟩)
  (c_cr : PySem.W.codeIn K cd_cr "_law_clause_refused" = true)
  (k_cr : PySem.W.keepIn K (.ref f_cr) = true)
  {f_nr : Addr}
  (a_nr : PySem.W.nsIn K mainGlobals "_law_number_refused" = some (some (.ref f_nr)))
  {od_nr an_nr : Option Addr}
  {sl_nr : Array (Option Value)}
  {oc_nr kV_nr dc_nr pm_nr cd_nr ct_nr : Value}
  (l_nr : K.lookup f_nr = some ⟨oc_nr, od_nr, .func (PySem.W.fnOf "_law_number_refused" "_law_number_refused" (defArgs s__law_number_refused) (defBody s__law_number_refused) (defScope s__law_number_refused) .none kV_nr dc_nr pm_nr an_nr cd_nr ct_nr), sl_nr⟩)
  (c_nr : PySem.W.codeIn K cd_nr "_law_number_refused" = true)
  (k_nr : PySem.W.keepIn K (.ref f_nr) = true)
  {f_is : Addr}
  (a_is : PySem.W.nsIn K mainGlobals "_law_is" = some (some (.ref f_is)))
  {od_is an_is : Option Addr}
  {sl_is : Array (Option Value)}
  {oc_is kV_is dc_is pm_is cd_is ct_is : Value}
  (l_is : K.lookup f_is = some ⟨oc_is, od_is, .func (PySem.W.fnOf "_law_is" "_law_is" (defArgs s__law_is) (defBody s__law_is) (defScope s__law_is) .none kV_is dc_is pm_is an_is cd_is ct_is), sl_is⟩)
  (c_is : PySem.W.codeIn K cd_is "_law_is" = true)
  (k_is : PySem.W.keepIn K (.ref f_is) = true)
  {f_la : Addr}
  (a_la : PySem.W.nsIn K mainGlobals "law" = some (some (.ref f_la)))
  {od_la an_la : Option Addr}
  {sl_la : Array (Option Value)}
  {oc_la kV_la dc_la pm_la cd_la ct_la : Value}
  (l_la : K.lookup f_la = some ⟨oc_la, od_la, .func (PySem.W.fnOf "law" "law" (defArgs s_law) (defBody s_law) (defScope s_law) .none kV_la dc_la pm_la an_la cd_la ct_la), sl_la⟩)
  (c_la : PySem.W.codeIn K cd_la "law" = true)
  (k_la : PySem.W.keepIn K (.ref f_la) = true)
  {C : Addr}
  (aC : PySem.W.nsIn K mainGlobals "Custom" = some (some (.ref C)))
  (pg : PySem.W.plainGet K C Str.empty = true)
  (hdC : PySem.W.hasDictIn K C = true)
  (po : PySem.W.plainOver K C = true)
  (saC : PySem.W.findIn K (.ref C) "__setattr__" = some (some (.builtin "object.__setattr__")))
  (mk : PySem.W.makesIn K C = true)
  (kc : PySem.W.keepIn K (.ref C) = true)
  (haC : PySem.W.findIn K (.ref C) "__class__" = some (some (.builtin "object.__class__")))
  (hnC : PySem.W.specialIn K (.builtin "object.__class__") "__get__" = some (some (.builtin "getset_descriptor.__get__")))
  (htC : PySem.W.takesIn K (.builtin "object.__class__") = some true)
  (hmC : PySem.W.mroIn K C (.type "object") = some true)
  (tyC : PySem.W.typeIn K (.ref C) = some (.type "type"))
  (icC : PySem.W.isClsIn K C = true)
  (stC : PySem.W.subIn K (.type "tuple") (.ref C) = some false)
  (nolen : PySem.W.findIn K (.ref C) "__len__" = some none)
  (nohint : PySem.W.findIn K (.ref C) "__length_hint__" = some none)
  (ntupC : PySem.W.notFirst K C (.type "tuple") = true)
  (n_untold : PySem.W.findIn K (.ref C) "untold" = some none)
  (n_joined : PySem.W.findIn K (.ref C) "joined" = some none)
  (n_sold : PySem.W.findIn K (.ref C) "sold" = some none)
  (n_kept : PySem.W.findIn K (.ref C) "kept" = some none)
  (n_ends : PySem.W.findIn K (.ref C) "ends" = some none)
  (n_row : PySem.W.findIn K (.ref C) "row" = some none)
  (n_number : PySem.W.findIn K (.ref C) "number" = some none)
  {f_cI : Addr}
  (a_cI : PySem.W.findIn K (.ref C) "__init__" = some (some (.ref f_cI)))
  (i_cI : PySem.W.isFn K (.ref f_cI) = true)
  {od_cI an_cI : Option Addr}
  {sl_cI : Array (Option Value)}
  {oc_cI kV_cI dc_cI pm_cI cd_cI ct_cI : Value}
  (l_cI : K.lookup f_cI = some ⟨oc_cI, od_cI, .func (PySem.W.fnOf "__init__" "Custom.__init__" (defArgs s_Custom___init__) (defBody s_Custom___init__) (defScope s_Custom___init__) .none kV_cI dc_cI pm_cI an_cI cd_cI ct_cI), sl_cI⟩)
  (c_cI : PySem.W.codeIn K cd_cI "Custom.__init__" = true)
  (k_cI : PySem.W.keepIn K (.ref f_cI) = true)
  {f_cE : Addr}
  (a_cE : PySem.W.findIn K (.ref C) "__eq__" = some (some (.ref f_cE)))
  (i_cE : PySem.W.isFn K (.ref f_cE) = true)
  {od_cE an_cE : Option Addr}
  {sl_cE : Array (Option Value)}
  {oc_cE kV_cE dc_cE pm_cE cd_cE ct_cE : Value}
  (l_cE : K.lookup f_cE = some ⟨oc_cE, od_cE, .func (PySem.W.fnOf "__eq__" "Custom.__eq__" (defArgs s_Custom___eq__) (defBody s_Custom___eq__) (defScope s_Custom___eq__) .none kV_cE dc_cE pm_cE an_cE cd_cE ct_cE), sl_cE⟩)
  (c_cE : PySem.W.codeIn K cd_cE "Custom.__eq__" = true)
  (k_cE : PySem.W.keepIn K (.ref f_cE) = true)
  {f_cT : Addr}
  (a_cT : PySem.W.findIn K (.ref C) "__iter__" = some (some (.ref f_cT)))
  (i_cT : PySem.W.isFn K (.ref f_cT) = true)
  {od_cT an_cT : Option Addr}
  {sl_cT : Array (Option Value)}
  {oc_cT kV_cT dc_cT pm_cT cd_cT ct_cT : Value}
  (l_cT : K.lookup f_cT = some ⟨oc_cT, od_cT, .func (PySem.W.fnOf "__iter__" "Custom.__iter__" (defArgs s_Custom___iter__) (defBody s_Custom___iter__) (defScope s_Custom___iter__) .none kV_cT dc_cT pm_cT an_cT cd_cT ct_cT), sl_cT⟩)
  (c_cT : PySem.W.codeIn K cd_cT "Custom.__iter__" = true)
  (k_cT : PySem.W.keepIn K (.ref f_cT) = true)
  {f_cW : Addr}
  (a_cW : PySem.W.findIn K (.ref C) "word" = some (some (.ref f_cW)))
  (i_cW : PySem.W.isFn K (.ref f_cW) = true)
  {od_cW an_cW : Option Addr}
  {sl_cW : Array (Option Value)}
  {oc_cW kV_cW dc_cW pm_cW cd_cW ct_cW : Value}
  (l_cW : K.lookup f_cW = some ⟨oc_cW, od_cW, .func (PySem.W.fnOf "word" "Custom.word" (defArgs s_Custom_word) (defBody s_Custom_word) (defScope s_Custom_word) .none kV_cW dc_cW pm_cW an_cW cd_cW ct_cW), sl_cW⟩)
  (c_cW : PySem.W.codeIn K cd_cW "Custom.word" = true)
  (k_cW : PySem.W.keepIn K (.ref f_cW) = true)
  {f_cH : Addr}
  (a_cH : PySem.W.findIn K (.ref C) "changed" = some (some (.ref f_cH)))
  (i_cH : PySem.W.isFn K (.ref f_cH) = true)
  {od_cH an_cH : Option Addr}
  {sl_cH : Array (Option Value)}
  {oc_cH kV_cH dc_cH pm_cH cd_cH ct_cH : Value}
  (l_cH : K.lookup f_cH = some ⟨oc_cH, od_cH, .func (PySem.W.fnOf "changed" "Custom.changed" (defArgs s_Custom_changed) (defBody s_Custom_changed) (defScope s_Custom_changed) .none kV_cH dc_cH pm_cH an_cH cd_cH ct_cH), sl_cH⟩)
  (c_cH : PySem.W.codeIn K cd_cH "Custom.changed" = true)
  (k_cH : PySem.W.keepIn K (.ref f_cH) = true)
  {f_cS : Addr}
  (a_cS : PySem.W.findIn K (.ref C) "uses" = some (some (.ref f_cS)))
  (i_cS : PySem.W.isFn K (.ref f_cS) = true)
  {od_cS an_cS : Option Addr}
  {sl_cS : Array (Option Value)}
  {oc_cS kV_cS dc_cS pm_cS cd_cS ct_cS : Value}
  (l_cS : K.lookup f_cS = some ⟨oc_cS, od_cS, .func (PySem.W.fnOf "uses" "Custom.uses" (defArgs s_Custom_uses) (defBody s_Custom_uses) (defScope s_Custom_uses) .none kV_cS dc_cS pm_cS an_cS cd_cS ct_cS), sl_cS⟩)
  (c_cS : PySem.W.codeIn K cd_cS "Custom.uses" = true)
  (k_cS : PySem.W.keepIn K (.ref f_cS) = true)
  {L : Addr}
  (aL : PySem.W.nsIn K mainGlobals "LandError" = some (some (.ref L)))
  (eL : PySem.W.subIn K (.ref L) (.type "BaseException") = some true)
  (dL : PySem.W.hasDictIn K L = true)
  (tL : PySem.W.typeIn K (.ref L) = some (.type "type"))
  {U : Addr}
  (aU : PySem.W.nsIn K mainGlobals "BadCustom" = some (some (.ref U)))
  {nmU qU : Str}
  {NU : Addr}
  {bsU bmU subU : List Value}
  {snU : List Str}
  {abU : Bool}
  {colU : Option Bool}
  {ddU : Option Addr}
  {m0U m1U m2U m3U m5U : Option Value}
  (xU : K.lookup U = some (excClassObj nmU qU U NU bsU bmU true snU subU abU colU ddU m0U m1U m2U m3U m5U "ValueError.__new__"))
  (rU : PySem.HandSPX.refsVE bmU = true)
  (saU : PySem.W.findIn K (.ref U) "__setattr__" = some (some (.builtin "object.__setattr__")))
  (exU : PySem.W.subIn K (.ref U) (.type "BaseException") = some true)
  (tyU : PySem.W.typeIn K (.ref U) = some (.type "type"))
  (kpU : PySem.W.keepIn K (.ref U) = true)
  (noU : PySem.W.findIn K (.ref U) "what" = some none)
  (hgU : PySem.W.findIn K (.ref U) "__getattribute__" = some (some (.builtin "BaseException.__getattribute__")))
  (hkU : PySem.W.findIn K (.ref U) "__getattr__" = some none)
  (hdU : PySem.W.hasDictIn K U = true)
  (haU : PySem.W.findIn K (.ref U) "__class__" = some (some (.builtin "object.__class__")))
  (hmU : PySem.W.mroIn K U (.type "object") = some true)
  (suU : PySem.W.subIn K (.ref U) (.ref L) = some true)
  {f_iU : Addr}
  (a_iU : PySem.W.findIn K (.ref U) "__init__" = some (some (.ref f_iU)))
  (t_iU : PySem.W.typeIn K (.ref f_iU) = some (.type "function"))
  {od_iU an_iU : Option Addr}
  {sl_iU : Array (Option Value)}
  {oc_iU kV_iU dc_iU pm_iU cd_iU ct_iU : Value}
  (l_iU : K.lookup f_iU = some ⟨oc_iU, od_iU, .func (PySem.W.fnOf "__init__" "BadCustom.__init__" (defArgs s_BadCustom___init__) (defBody s_BadCustom___init__) (defScope s_BadCustom___init__) .none kV_iU dc_iU pm_iU an_iU cd_iU ct_iU), sl_iU⟩)
  (c_iU : PySem.W.codeIn K cd_iU "BadCustom.__init__" = true)
  (k_iU : PySem.W.keepIn K (.ref f_iU) = true)
  {B : Addr}
  (aB : PySem.W.nsIn K mainGlobals "BadClause" = some (some (.ref B)))
  {nmB qB : Str}
  {NB : Addr}
  {bsB bmB subB : List Value}
  {snB : List Str}
  {abB : Bool}
  {colB : Option Bool}
  {ddB : Option Addr}
  {m0B m1B m2B m3B m5B : Option Value}
  (xB : K.lookup B = some (excClassObj nmB qB B NB bsB bmB true snB subB abB colB ddB m0B m1B m2B m3B m5B "ValueError.__new__"))
  (rB : PySem.HandSPX.refsVE bmB = true)
  (saB : PySem.W.findIn K (.ref B) "__setattr__" = some (some (.builtin "object.__setattr__")))
  (exB : PySem.W.subIn K (.ref B) (.type "BaseException") = some true)
  (tyB : PySem.W.typeIn K (.ref B) = some (.type "type"))
  (kpB : PySem.W.keepIn K (.ref B) = true)
  (noB : PySem.W.findIn K (.ref B) "what" = some none)
  (hgB : PySem.W.findIn K (.ref B) "__getattribute__" = some (some (.builtin "BaseException.__getattribute__")))
  (hkB : PySem.W.findIn K (.ref B) "__getattr__" = some none)
  (hdB : PySem.W.hasDictIn K B = true)
  (haB : PySem.W.findIn K (.ref B) "__class__" = some (some (.builtin "object.__class__")))
  (hmB : PySem.W.mroIn K B (.type "object") = some true)
  (suB : PySem.W.subIn K (.ref B) (.ref L) = some true)
  {f_iB : Addr}
  (a_iB : PySem.W.findIn K (.ref B) "__init__" = some (some (.ref f_iB)))
  (t_iB : PySem.W.typeIn K (.ref f_iB) = some (.type "function"))
  {od_iB an_iB : Option Addr}
  {sl_iB : Array (Option Value)}
  {oc_iB kV_iB dc_iB pm_iB cd_iB ct_iB : Value}
  (l_iB : K.lookup f_iB = some ⟨oc_iB, od_iB, .func (PySem.W.fnOf "__init__" "BadClause.__init__" (defArgs s_BadClause___init__) (defBody s_BadClause___init__) (defScope s_BadClause___init__) .none kV_iB dc_iB pm_iB an_iB cd_iB ct_iB), sl_iB⟩)
  (c_iB : PySem.W.codeIn K cd_iB "BadClause.__init__" = true)
  (k_iB : PySem.W.keepIn K (.ref f_iB) = true)
  {N : Addr}
  (aN : PySem.W.nsIn K mainGlobals "BadNumber" = some (some (.ref N)))
  {nmN qN : Str}
  {NN : Addr}
  {bsN bmN subN : List Value}
  {snN : List Str}
  {abN : Bool}
  {colN : Option Bool}
  {ddN : Option Addr}
  {m0N m1N m2N m3N m5N : Option Value}
  (xN : K.lookup N = some (excClassObj nmN qN N NN bsN bmN true snN subN abN colN ddN m0N m1N m2N m3N m5N "ValueError.__new__"))
  (rN : PySem.HandSPX.refsVE bmN = true)
  (saN : PySem.W.findIn K (.ref N) "__setattr__" = some (some (.builtin "object.__setattr__")))
  (exN : PySem.W.subIn K (.ref N) (.type "BaseException") = some true)
  (tyN : PySem.W.typeIn K (.ref N) = some (.type "type"))
  (kpN : PySem.W.keepIn K (.ref N) = true)
  (noN : PySem.W.findIn K (.ref N) "number" = some none)
  (hgN : PySem.W.findIn K (.ref N) "__getattribute__" = some (some (.builtin "BaseException.__getattribute__")))
  (hkN : PySem.W.findIn K (.ref N) "__getattr__" = some none)
  (hdN : PySem.W.hasDictIn K N = true)
  (haN : PySem.W.findIn K (.ref N) "__class__" = some (some (.builtin "object.__class__")))
  (hmN : PySem.W.mroIn K N (.type "object") = some true)
  (suN : PySem.W.subIn K (.ref N) (.ref L) = some true)
  {f_iN : Addr}
  (a_iN : PySem.W.findIn K (.ref N) "__init__" = some (some (.ref f_iN)))
  (t_iN : PySem.W.typeIn K (.ref f_iN) = some (.type "function"))
  {od_iN an_iN : Option Addr}
  {sl_iN : Array (Option Value)}
  {oc_iN kV_iN dc_iN pm_iN cd_iN ct_iN : Value}
  (l_iN : K.lookup f_iN = some ⟨oc_iN, od_iN, .func (PySem.W.fnOf "__init__" "BadNumber.__init__" (defArgs s_BadNumber___init__) (defBody s_BadNumber___init__) (defScope s_BadNumber___init__) .none kV_iN dc_iN pm_iN an_iN cd_iN ct_iN), sl_iN⟩)
  (c_iN : PySem.W.codeIn K cd_iN "BadNumber.__init__" = true)
  (k_iN : PySem.W.keepIn K (.ref f_iN) = true)
  {cl : Addr}
  (a_cl : PySem.W.nsIn K mainGlobals "CLAUSES" = some (some (.ref cl)))
  {o_cl : Array Value}
  {z_cl : Nat}
  {s_cl : Array (Option Value)}
  (l_cl : K.lookup cl = some ⟨.type "tuple", none, .seq o_cl z_cl, s_cl⟩)
  (v_cl : Vals (clauses.map V.str) o_cl.toList)
  (w_cl : o_cl.size ≤ sizeLine)
  {wd : Addr}
  (a_wd : PySem.W.nsIn K mainGlobals "_WORDS" = some (some (.ref wd)))
  {es_wd : Array DictEntry}
  {n_wd : Nat}
  (l_wd : K.lookup wd = some ⟨.type "dict", none, .dict es_wd n_wd, #[]⟩)
  (v_wd : PySem.W.KeysLit w.params es_wd.toList)
  {m0 : Addr}
  (a_m0 : PySem.W.nsIn K wd "untold" = some (some (.ref m0)))
  {o_m0 : Array Value}
  {z_m0 : Nat}
  {s_m0 : Array (Option Value)}
  (l_m0 : K.lookup m0 = some ⟨.type "tuple", none, .seq o_m0 z_m0, s_m0⟩)
  (v_m0 : Vals ((menuAt 0).map V.str) o_m0.toList)
  (w_m0 : o_m0.size ≤ sizeLine)
  {m1 : Addr}
  (a_m1 : PySem.W.nsIn K wd "joined" = some (some (.ref m1)))
  {o_m1 : Array Value}
  {z_m1 : Nat}
  {s_m1 : Array (Option Value)}
  (l_m1 : K.lookup m1 = some ⟨.type "tuple", none, .seq o_m1 z_m1, s_m1⟩)
  (v_m1 : Vals ((menuAt 1).map V.str) o_m1.toList)
  (w_m1 : o_m1.size ≤ sizeLine)
  {m2 : Addr}
  (a_m2 : PySem.W.nsIn K wd "sold" = some (some (.ref m2)))
  {o_m2 : Array Value}
  {z_m2 : Nat}
  {s_m2 : Array (Option Value)}
  (l_m2 : K.lookup m2 = some ⟨.type "tuple", none, .seq o_m2 z_m2, s_m2⟩)
  (v_m2 : Vals ((menuAt 2).map V.str) o_m2.toList)
  (w_m2 : o_m2.size ≤ sizeLine)
  {m3 : Addr}
  (a_m3 : PySem.W.nsIn K wd "kept" = some (some (.ref m3)))
  {o_m3 : Array Value}
  {z_m3 : Nat}
  {s_m3 : Array (Option Value)}
  (l_m3 : K.lookup m3 = some ⟨.type "tuple", none, .seq o_m3 z_m3, s_m3⟩)
  (v_m3 : Vals ((menuAt 3).map V.str) o_m3.toList)
  (w_m3 : o_m3.size ≤ sizeLine)
  {m4 : Addr}
  (a_m4 : PySem.W.nsIn K wd "ends" = some (some (.ref m4)))
  {o_m4 : Array Value}
  {z_m4 : Nat}
  {s_m4 : Array (Option Value)}
  (l_m4 : K.lookup m4 = some ⟨.type "tuple", none, .seq o_m4 z_m4, s_m4⟩)
  (v_m4 : Vals ((menuAt 4).map V.str) o_m4.toList)
  (w_m4 : o_m4.size ≤ sizeLine)
  {tM : Tok}
  (a_M : PySem.W.nsIn K mainGlobals "MOST_CUSTOMS" = some (some (.int 192 tM)))
  (z_isinstance : PySem.W.nsIn K mainGlobals "isinstance" = some none)
  (z_int : PySem.W.nsIn K mainGlobals "int" = some none)
  (z_bool : PySem.W.nsIn K mainGlobals "bool" = some none)
  (z_tuple : PySem.W.nsIn K mainGlobals "tuple" = some none)
  (z_list : PySem.W.nsIn K mainGlobals "list" = some none)
  (z_enumerate : PySem.W.nsIn K mainGlobals "enumerate" = some none)
  (z_zip : PySem.W.nsIn K mainGlobals "zip" = some none)
  (z_len : PySem.W.nsIn K mainGlobals "len" = some none)
  (z_abs : PySem.W.nsIn K mainGlobals "abs" = some none)
  (z_reversed : PySem.W.nsIn K mainGlobals "reversed" = some none)
  (z_range : PySem.W.nsIn K mainGlobals "range" = some none)
  (z_min : PySem.W.nsIn K mainGlobals "min" = some none)
  (z_repr : PySem.W.nsIn K mainGlobals "repr" = some none)
  (z_iter : PySem.W.nsIn K mainGlobals "iter" = some none) :
    ∃ fd : FuncData, (∀ (s : Shared) (u : Value), BindsTo s fd ⟨[u], []⟩ [("_law_script", u)]) ∧ ∀ base : Heap, K.In base → base.Ns mainGlobals mg → FnOk P w K mg base CX0 8 fa fd ["_law_script"] (spLaw K) := by
  have e := hfa.symm.trans (PySem.W.mg_of X G a_la)
  cases e
  have F_isw := fun_mk (st := s_is_whole) l_isw c_isw k_isw
  have b_isw := F_isw.binds (ps := ["thing", "low", "high"]) fun _ _ _ _ _ _ us hl => match us, hl with | [_, _, _], _ => rfl
  have F_cc := fun_mk (st := s__check_clause) l_cc c_cc k_cc
  have b_cc := F_cc.binds (ps := ["clause"]) fun _ _ _ _ _ _ us hl => match us, hl with | [_], _ => rfl
  have F_ww := fun_mk (st := s_words) l_ww c_ww k_ww
  have b_ww := F_ww.binds (ps := ["clause"]) fun _ _ _ _ _ _ us hl => match us, hl with | [_], _ => rfl
  have F_at := fun_mk (st := s_custom_at) l_at c_at k_at
  have b_at := F_at.binds (ps := ["number"]) fun _ _ _ _ _ _ us hl => match us, hl with | [_], _ => rfl
  have F_cu := fun_mk (st := s_customs) l_cu c_cu k_cu
  have b_cu := F_cu.binds (ps := []) fun _ _ _ _ _ _ us hl => match us, hl with | [], _ => rfl
  have F_df := fun_mk (st := s_differences) l_df c_df k_df
  have b_df := F_df.binds (ps := ["one", "other"]) fun _ _ _ _ _ _ us hl => match us, hl with | [_, _], _ => rfl
  have F_mi := fun_mk (st := s__law_mix) l_mi c_mi k_mi
  have b_mi := F_mi.binds (ps := ["_law_number_here", "_law_turn"]) fun _ _ _ _ _ _ us hl => match us, hl with | [_, _], _ => rfl
  have F_ha := fun_mk (st := s__law_hand) l_ha c_ha k_ha
  have b_ha := F_ha.binds (ps := ["_law_script"]) fun _ _ _ _ _ _ us hl => match us, hl with | [_], _ => rfl
  have F_dr := fun_mk (st := s__law_draw) l_dr c_dr k_dr
  have b_dr := F_dr.binds (ps := ["_law_hand_here", "_law_many"]) fun _ _ _ _ _ _ us hl => match us, hl with | [_, _], _ => rfl
  have F_pk := fun_mk (st := s__law_pick) l_pk c_pk k_pk
  have b_pk := F_pk.binds (ps := ["_law_hand_here", "_law_things"]) fun _ _ _ _ _ _ us hl => match us, hl with | [_, _], _ => rfl
  have F_lw := fun_mk (st := s__law_words) l_lw c_lw k_lw
  have b_lw := F_lw.binds (ps := []) fun _ _ _ _ _ _ us hl => match us, hl with | [], _ => rfl
  have F_ro := fun_mk (st := s__law_row) l_ro c_ro k_ro
  have b_ro := F_ro.binds (ps := ["_law_number_here"]) fun _ _ _ _ _ _ us hl => match us, hl with | [_], _ => rfl
  have F_nu := fun_mk (st := s__law_number) l_nu c_nu k_nu
  have b_nu := F_nu.binds (ps := ["_law_row_here"]) fun _ _ _ _ _ _ us hl => match us, hl with | [_], _ => rfl
  have F_co := fun_mk (st := s__law_custom_of) l_co c_co k_co
  have b_co := F_co.binds (ps := ["_law_row_here"]) fun _ _ _ _ _ _ us hl => match us, hl with | [_], _ => rfl
  have F_rf := fun_mk (st := s__law_refused) l_rf c_rf k_rf
  have b_rf := F_rf.binds (ps := ["_law_row_here"]) fun _ _ _ _ _ _ us hl => match us, hl with | [_], _ => rfl
  have F_cr := fun_mk (st := s__law_clause_refused) l_cr c_cr k_cr
  have b_cr := F_cr.binds (ps := ["_law_sort", "_law_custom", "_law_clause", "_law_word"]) fun _ _ _ _ _ _ us hl => match us, hl with | [_, _, _, _], _ => rfl
  have F_nr := fun_mk (st := s__law_number_refused) l_nr c_nr k_nr
  have b_nr := F_nr.binds (ps := ["_law_number_here"]) fun _ _ _ _ _ _ us hl => match us, hl with | [_], _ => rfl
  have F_is := fun_mk (st := s__law_is) l_is c_is k_is
  have b_is := F_is.binds (ps := ["_law_custom", "_law_number_here"]) fun _ _ _ _ _ _ us hl => match us, hl with | [_, _], _ => rfl
  have F_la := fun_mk (st := s_law) l_la c_la k_la
  have b_la := F_la.binds (ps := ["_law_script"]) fun _ _ _ _ _ _ us hl => match us, hl with | [_], _ => rfl
  have F_cI := fun_mk (st := s_Custom___init__) l_cI c_cI k_cI
  have b_cI := F_cI.binds (ps := ["self", "untold", "joined", "sold", "kept", "ends"]) fun _ _ _ _ _ _ us hl => match us, hl with | [_, _, _, _, _, _], _ => rfl
  have F_cE := fun_mk (st := s_Custom___eq__) l_cE c_cE k_cE
  have b_cE := F_cE.binds (ps := ["self", "other"]) fun _ _ _ _ _ _ us hl => match us, hl with | [_, _], _ => rfl
  have F_cT := fun_mk (st := s_Custom___iter__) l_cT c_cT k_cT
  have b_cT := F_cT.binds (ps := ["self"]) fun _ _ _ _ _ _ us hl => match us, hl with | [_], _ => rfl
  have F_cW := fun_mk (st := s_Custom_word) l_cW c_cW k_cW
  have b_cW := F_cW.binds (ps := ["self", "clause"]) fun _ _ _ _ _ _ us hl => match us, hl with | [_, _], _ => rfl
  have F_cH := fun_mk (st := s_Custom_changed) l_cH c_cH k_cH
  have b_cH := F_cH.binds (ps := ["self", "clause", "word"]) fun _ _ _ _ _ _ us hl => match us, hl with | [_, _, _], _ => rfl
  have F_cS := fun_mk (st := s_Custom_uses) l_cS c_cS k_cS
  have b_cS := F_cS.binds (ps := ["self", "word"]) fun _ _ _ _ _ _ us hl => match us, hl with | [_, _], _ => rfl
  have F_iU := fun_mk (st := s_BadCustom___init__) l_iU c_iU k_iU
  have b_iU := F_iU.binds (ps := ["self", "what"]) fun _ _ _ _ _ _ us hl => match us, hl with | [_, _], _ => rfl
  have F_iB := fun_mk (st := s_BadClause___init__) l_iB c_iB k_iB
  have b_iB := F_iB.binds (ps := ["self", "what"]) fun _ _ _ _ _ _ us hl => match us, hl with | [_, _], _ => rfl
  have F_iN := fun_mk (st := s_BadNumber___init__) l_iN c_iN k_iN
  have b_iN := F_iN.binds (ps := ["self", "number"]) fun _ _ _ _ _ _ us hl => match us, hl with | [_, _], _ => rfl
  have g_isw := PySem.W.mg_of X G a_isw
  have g_cc := PySem.W.mg_of X G a_cc
  have g_ww := PySem.W.mg_of X G a_ww
  have g_at := PySem.W.mg_of X G a_at
  have g_cu := PySem.W.mg_of X G a_cu
  have g_df := PySem.W.mg_of X G a_df
  have g_mi := PySem.W.mg_of X G a_mi
  have g_ha := PySem.W.mg_of X G a_ha
  have g_dr := PySem.W.mg_of X G a_dr
  have g_pk := PySem.W.mg_of X G a_pk
  have g_lw := PySem.W.mg_of X G a_lw
  have g_ro := PySem.W.mg_of X G a_ro
  have g_nu := PySem.W.mg_of X G a_nu
  have g_co := PySem.W.mg_of X G a_co
  have g_rf := PySem.W.mg_of X G a_rf
  have g_cr := PySem.W.mg_of X G a_cr
  have g_nr := PySem.W.mg_of X G a_nr
  have g_is := PySem.W.mg_of X G a_is
  have g_la := PySem.W.mg_of X G a_la
  have m_isinstance := PySem.W.mg_none_of X G z_isinstance
  have m_int := PySem.W.mg_none_of X G z_int
  have m_bool := PySem.W.mg_none_of X G z_bool
  have m_tuple := PySem.W.mg_none_of X G z_tuple
  have m_list := PySem.W.mg_none_of X G z_list
  have m_enumerate := PySem.W.mg_none_of X G z_enumerate
  have m_zip := PySem.W.mg_none_of X G z_zip
  have m_len := PySem.W.mg_none_of X G z_len
  have m_abs := PySem.W.mg_none_of X G z_abs
  have m_reversed := PySem.W.mg_none_of X G z_reversed
  have m_range := PySem.W.mg_none_of X G z_range
  have m_min := PySem.W.mg_none_of X G z_min
  have m_repr := PySem.W.mg_none_of X G z_repr
  have m_iter := PySem.W.mg_none_of X G z_iter
  have gM := PySem.W.mg_of X G a_M
  have cls : Cls K C := ⟨pg, hdC, po, saC⟩
  have T : Tx K w mg ⟨cl, wd, m0, m1, m2, m3, m4, C, L, U, B, N, f_iU, f_iB, f_iN⟩ :=
    { gCl := PySem.W.mg_of X G a_cl, tCl := ⟨_, o_cl, z_cl, l_cl, rfl, rfl, w_cl, v_cl, rfl⟩, gWd := PySem.W.mg_of X G a_wd, kWd := fun i hi => match i, hi with | 0, _ => ⟨_, _, _, l_wd, v_wd, a_m0, rfl⟩ | 1, _ => ⟨_, _, _, l_wd, v_wd, a_m1, rfl⟩ | 2, _ => ⟨_, _, _, l_wd, v_wd, a_m2, rfl⟩ | 3, _ => ⟨_, _, _, l_wd, v_wd, a_m3, rfl⟩ | 4, _ => ⟨_, _, _, l_wd, v_wd, a_m4, rfl⟩, tMn := fun i hi => match i, hi with | 0, _ => ⟨_, o_m0, z_m0, l_m0, rfl, rfl, w_m0, v_m0, rfl⟩ | 1, _ => ⟨_, o_m1, z_m1, l_m1, rfl, rfl, w_m1, v_m1, rfl⟩ | 2, _ => ⟨_, o_m2, z_m2, l_m2, rfl, rfl, w_m2, v_m2, rfl⟩ | 3, _ => ⟨_, o_m3, z_m3, l_m3, rfl, rfl, w_m3, v_m3, rfl⟩ | 4, _ => ⟨_, o_m4, z_m4, l_m4, rfl, rfl, w_m4, v_m4, rfl⟩,
      gU := PySem.W.mg_of X G aU, gB := PySem.W.mg_of X G aB, gN := PySem.W.mg_of X G aN, oxU := ⟨⟨_, _, _, _, _, _, _, _, _, _, _, _, _, _, _, xU, rU⟩, saU, exU, tyU, kpU⟩, oxB := ⟨⟨_, _, _, _, _, _, _, _, _, _, _, _, _, _, _, xB, rB⟩, saB, exB, tyB, kpB⟩, oxN := ⟨⟨_, _, _, _, _, _, _, _, _, _, _, _, _, _, _, xN, rN⟩, saN, exN, tyN, kpN⟩,
      iCU := a_iU, iCB := a_iB, iCN := a_iN, tIU := t_iU, tIB := t_iB, tIN := t_iN, nU := noU, nB := noB, nN := noN, gC := PySem.W.mg_of X G aC, cl := cls,
      nA := fun f hf => by
        simp only [fields, List.mem_cons, List.not_mem_nil, or_false] at hf
        rcases hf with rfl | rfl | rfl | rfl | rfl | rfl | rfl
        · exact n_untold
        · exact n_joined
        · exact n_sold
        · exact n_kept
        · exact n_ends
        · exact n_row
        · exact n_number }
  have self : ∀ c : Addr, PySem.W.kitOne K (.ref c) (.ref c) = some true := fun c => by simp [PySem.W.kitOne]
  have ktC : PySem.W.kitOne K (.type "tuple") (.ref C) = some false := by
    have e1 : ((PySem.W.clsIn K C).isSome && PySem.W.typeIn K (.ref C) == some (.type "type")) = true := by rw [show (PySem.W.clsIn K C).isSome = true from icC, tyC] <;> rfl
    show (if ((PySem.W.clsIn K C).isSome && PySem.W.typeIn K (.ref C) == some (.type "type")) = true then PySem.W.subIn K (.type "tuple") (.ref C) else none) = some false
    rw [if_pos e1]
    exact stC
  have T2 : Tc K mg ⟨cl, wd, m0, m1, m2, m3, m4, C, L, U, B, N, f_iU, f_iB, f_iN⟩ := ⟨haC, hnC, htC, hmC, self C, ktC⟩
  have T3 : Te K mg ⟨cl, wd, m0, m1, m2, m3, m4, C, L, U, B, N, f_iU, f_iB, f_iN⟩ L := ⟨PySem.W.mg_of X G aL, ⟨hgU, hkU, exU, hdU, haU, hnC, htC, hmU⟩, ⟨hgB, hkB, exB, hdB, haB, hnC, htC, hmB⟩, ⟨hgN, hkN, exN, hdN, haN, hnC, htC, hmN⟩, ⟨hgU, hkU, exU, hdU⟩, ⟨hgB, hkB, exB, hdB⟩, ⟨hgN, hkN, exN, hdN⟩, PySem.W.exm_ref eL dL tL suU, PySem.W.exm_ref eL dL tL suB, PySem.W.exm_ref eL dL tL suN, self U, self B, self N⟩
  have T4 : Tf K ⟨cl, wd, m0, m1, m2, m3, m4, C, L, U, B, N, f_iU, f_iB, f_iN⟩ f_cT f_cE := ⟨⟨a_cT, i_cT, nolen, nohint⟩, a_cE, i_cE, ntupC⟩
  have MC : Mk K C f_cI := ⟨mk, a_cI, i_cI, kc⟩
  have mW : Meth K C "word" f_cW := ⟨a_cW, i_cW, k_cW⟩
  have mU : Meth K C "uses" f_cS := ⟨a_cS, i_cS, k_cS⟩
  have mH : Meth K C "changed" f_cH := ⟨a_cH, i_cH, k_cH⟩
  have kbI := init_kb F_cI
  refine ⟨PySem.W.fnOf "law" "law" (defArgs s_law) (defBody s_law) (defScope s_law) .none kV_la dc_la pm_la an_la cd_la ct_la, fun s u => .of_eq rfl, fun base _ _ => ?_⟩
  have Gmi := ok_mix (P := P) (w := w) (base := base) F_mi m_int
  have Gha := ok_hand (P := P) (w := w) (base := base) F_ha m_int m_abs m_enumerate
  have Gdr := ok_draw (P := P) (w := w) (base := base) F_dr F_mi g_mi b_mi m_int m_len
  have Gpk := ok_pick (P := P) (w := w) (base := base) F_pk k_dr Gdr g_dr b_dr m_len
  have Gisw := ok_whole (P := P) (w := w) (base := base) F_isw m_isinstance m_int m_bool
  have Gcc := ok_cc (P := P) (base := base) T F_cc F_iB b_iB
  have Gww := ok_words T F_ww Gcc g_cc k_cc b_cc
  have GI := ok_init (P := P) (base := base) T F_cI F_iU b_iU m_zip m_len
  have GW := ok_word T F_cW Gcc g_cc k_cc b_cc
  have GE := ok_eqC (P := P) (w := w) (base := base) T T2 F_cE m_isinstance
  have GH := ok_changed T F_cH Gww g_ww k_ww b_ww F_iB b_iB MC GI b_cI m_zip
  have GS := ok_uses (P := P) (base := base) T F_cS m_zip m_tuple
  have Gdf := ok_diff T F_df mW GW b_cW m_tuple
  have Gat := ok_cat T gM F_at Gisw g_isw k_isw b_isw F_iN b_iN MC GI b_cI m_reversed m_len
  have Glw := ok_menus (P := P) (w := w) (mg := mg) (base := base) F_lw
  have Gro := ok_row F_ro Glw g_lw k_lw b_lw m_reversed m_int m_len
  have Gnu := ok_number F_nu Glw g_lw k_lw b_lw m_enumerate m_len
  have Gco := ok_co T F_co MC GI b_cI
  have Grf := ok_refused T T3 F_rf Gco g_co k_co b_co m_isinstance
  have Gcr := ok_crefused T T3 F_cr mH GH b_cH mW GW b_cW Gww g_ww k_ww b_ww m_isinstance
  have Gnr := ok_nrefused T T3 F_nr Gat g_at k_at b_at m_isinstance m_repr
  have GT := ok_iter (P := P) (base := base) T F_cT m_iter
  have Gis := ok_is T T2 T4 F_is Gro g_ro k_ro b_ro Gco g_co k_co b_co mW GW b_cW mU GS b_cS GT b_cT GE b_cE m_isinstance m_int m_bool m_tuple m_list m_enumerate
  exact ok_law T T2 T3 T4 g_cu k_cu (made_customs gM F_cu Gat g_at k_at b_at b_cu m_range) F_la Gha g_ha k_ha b_ha Glw g_lw k_lw b_lw Gdr g_dr k_dr b_dr Gpk g_pk k_pk b_pk Gww g_ww k_ww b_ww Gat g_at k_at b_at Gis g_is k_is b_is Gro g_ro k_ro b_ro Gnu g_nu k_nu b_nu Gdf g_df k_df b_df Grf g_rf k_rf b_rf Gcr g_cr k_cr b_cr Gnr g_nr k_nr b_nr mH GH b_cH GE b_cE MC GI kbI m_int m_tuple m_list m_range m_enumerate m_min m_repr
end K7
end
open PySem PySem.W PyProof.Rows
set_option maxHeartbeats 0 in
theorem PySem.Challenge.cw_landways_k07_customs_numbers_and_words_holds : PySem.Challenge.rw_landways_k07_customs_numbers_and_words.Holds := by
  w_on; o_law; k_head; (case hw => w_witness2)
  k_fill
  refine L2.walk_ofB (l := PySem.Challenge.rw_landways_k07_customs_numbers_and_words) (n := 63) (k := 8) (x := "_law_script") (CX := fun _ => L2.CX0) (sp := fun w => K7.spLaw _) rfl (by decide) rfl ⟨rfl, by decide, by decide⟩ (fun w h Y => PySem.W.kIn_of Y) ?F (fun _ _ a ns hl _ _ hS => ⟨a, ns, rfl, hS, hl, fun _ => rfl⟩) (fun _ _ _ _ _ h => h)
  case F =>
    intro w mg fa h KX G hmg
    refine' K7.all_mk KX G hmg ?a_isw ?l_isw ?c_isw ?k_isw ?a_cc ?l_cc ?c_cc ?k_cc ?a_ww ?l_ww ?c_ww ?k_ww ?a_at ?l_at ?c_at ?k_at ?a_cu ?l_cu ?c_cu ?k_cu ?a_df ?l_df ?c_df ?k_df ?a_mi ?l_mi ?c_mi ?k_mi ?a_ha ?l_ha ?c_ha ?k_ha ?a_dr ?l_dr ?c_dr ?k_dr ?a_pk ?l_pk ?c_pk ?k_pk ?a_lw ?l_lw ?c_lw ?k_lw ?a_ro ?l_ro ?c_ro ?k_ro ?a_nu ?l_nu ?c_nu ?k_nu ?a_co ?l_co ?c_co ?k_co ?a_rf ?l_rf ?c_rf ?k_rf ?a_cr ?l_cr ?c_cr ?k_cr ?a_nr ?l_nr ?c_nr ?k_nr ?a_is ?l_is ?c_is ?k_is ?a_la ?l_la ?c_la ?k_la ?aC ?pg ?hdC ?po ?saC ?mk ?kc ?haC ?hnC ?htC ?hmC ?tyC ?icC ?stC ?nolen ?nohint ?ntupC ?n_untold ?n_joined ?n_sold ?n_kept ?n_ends ?n_row ?n_number ?a_cI ?i_cI ?l_cI ?c_cI ?k_cI ?a_cE ?i_cE ?l_cE ?c_cE ?k_cE ?a_cT ?i_cT ?l_cT ?c_cT ?k_cT ?a_cW ?i_cW ?l_cW ?c_cW ?k_cW ?a_cH ?i_cH ?l_cH ?c_cH ?k_cH ?a_cS ?i_cS ?l_cS ?c_cS ?k_cS ?aL ?eL ?dL ?tL ?aU ?xU ?rU ?saU ?exU ?tyU ?kpU ?noU ?hgU ?hkU ?hdU ?haU ?hmU ?suU ?a_iU ?t_iU ?l_iU ?c_iU ?k_iU ?aB ?xB ?rB ?saB ?exB ?tyB ?kpB ?noB ?hgB ?hkB ?hdB ?haB ?hmB ?suB ?a_iB ?t_iB ?l_iB ?c_iB ?k_iB ?aN ?xN ?rN ?saN ?exN ?tyN ?kpN ?noN ?hgN ?hkN ?hdN ?haN ?hmN ?suN ?a_iN ?t_iN ?l_iN ?c_iN ?k_iN ?a_cl ?l_cl ?v_cl ?w_cl ?a_wd ?l_wd ?v_wd ?a_m0 ?l_m0 ?v_m0 ?w_m0 ?a_m1 ?l_m1 ?v_m1 ?w_m1 ?a_m2 ?l_m2 ?v_m2 ?w_m2 ?a_m3 ?l_m3 ?v_m3 ?w_m3 ?a_m4 ?l_m4 ?v_m4 ?w_m4 ?a_M ?z_isinstance ?z_int ?z_bool ?z_tuple ?z_list ?z_enumerate ?z_zip ?z_len ?z_abs ?z_reversed ?z_range ?z_min ?z_repr ?z_iter
    (case a_isw => k_is)
    (case l_isw => k_is)
    (case c_isw => k_is)
    (case k_isw => k_is)
    (case a_cc => k_is)
    (case l_cc => k_is)
    (case c_cc => k_is)
    (case k_cc => k_is)
    (case a_ww => k_is)
    (case l_ww => k_is)
    (case c_ww => k_is)
    (case k_ww => k_is)
    (case a_at => k_is)
    (case l_at => k_is)
    (case c_at => k_is)
    (case k_at => k_is)
    (case a_cu => k_is)
    (case l_cu => k_is)
    (case c_cu => k_is)
    (case k_cu => k_is)
    (case a_df => k_is)
    (case l_df => k_is)
    (case c_df => k_is)
    (case k_df => k_is)
    (case a_mi => k_is)
    (case l_mi => k_is)
    (case c_mi => k_is)
    (case k_mi => k_is)
    (case a_ha => k_is)
    (case l_ha => k_is)
    (case c_ha => k_is)
    (case k_ha => k_is)
    (case a_dr => k_is)
    (case l_dr => k_is)
    (case c_dr => k_is)
    (case k_dr => k_is)
    (case a_pk => k_is)
    (case l_pk => k_is)
    (case c_pk => k_is)
    (case k_pk => k_is)
    (case a_lw => k_is)
    (case l_lw => k_is)
    (case c_lw => k_is)
    (case k_lw => k_is)
    (case a_ro => k_is)
    (case l_ro => k_is)
    (case c_ro => k_is)
    (case k_ro => k_is)
    (case a_nu => k_is)
    (case l_nu => k_is)
    (case c_nu => k_is)
    (case k_nu => k_is)
    (case a_co => k_is)
    (case l_co => k_is)
    (case c_co => k_is)
    (case k_co => k_is)
    (case a_rf => k_is)
    (case l_rf => k_is)
    (case c_rf => k_is)
    (case k_rf => k_is)
    (case a_cr => k_is)
    (case l_cr => k_is)
    (case c_cr => k_is)
    (case k_cr => k_is)
    (case a_nr => k_is)
    (case l_nr => k_is)
    (case c_nr => k_is)
    (case k_nr => k_is)
    (case a_is => k_is)
    (case l_is => k_is)
    (case c_is => k_is)
    (case k_is => k_is)
    (case a_la => k_is)
    (case l_la => k_is)
    (case c_la => k_is)
    (case k_la => k_is)
    (case aC => k_is)
    (case pg => k_is)
    (case hdC => k_is)
    (case po => k_is)
    (case saC => k_is)
    (case mk => k_is)
    (case kc => k_is)
    (case haC => k_is)
    (case hnC => k_is)
    (case htC => k_is)
    (case hmC => k_is)
    (case tyC => k_is)
    (case icC => k_is)
    (case stC => k_is)
    (case nolen => k_is)
    (case nohint => k_is)
    (case ntupC => k_is)
    (case n_untold => k_is)
    (case n_joined => k_is)
    (case n_sold => k_is)
    (case n_kept => k_is)
    (case n_ends => k_is)
    (case n_row => k_is)
    (case n_number => k_is)
    (case a_cI => k_is)
    (case i_cI => k_is)
    (case l_cI => k_is)
    (case c_cI => k_is)
    (case k_cI => k_is)
    (case a_cE => k_is)
    (case i_cE => k_is)
    (case l_cE => k_is)
    (case c_cE => k_is)
    (case k_cE => k_is)
    (case a_cT => k_is)
    (case i_cT => k_is)
    (case l_cT => k_is)
    (case c_cT => k_is)
    (case k_cT => k_is)
    (case a_cW => k_is)
    (case i_cW => k_is)
    (case l_cW => k_is)
    (case c_cW => k_is)
    (case k_cW => k_is)
    (case a_cH => k_is)
    (case i_cH => k_is)
    (case l_cH => k_is)
    (case c_cH => k_is)
    (case k_cH => k_is)
    (case a_cS => k_is)
    (case i_cS => k_is)
    (case l_cS => k_is)
    (case c_cS => k_is)
    (case k_cS => k_is)
    (case aL => k_is)
    (case eL => k_is)
    (case dL => k_is)
    (case tL => k_is)
    (case aU => k_is)
    (case xU => k_is)
    (case rU => decide +kernel)
    (case saU => k_is)
    (case exU => k_is)
    (case tyU => k_is)
    (case kpU => k_is)
    (case noU => k_is)
    (case hgU => k_is)
    (case hkU => k_is)
    (case hdU => k_is)
    (case haU => k_is)
    (case hmU => k_is)
    (case suU => k_is)
    (case a_iU => k_is)
    (case t_iU => k_is)
    (case l_iU => k_is)
    (case c_iU => k_is)
    (case k_iU => k_is)
    (case aB => k_is)
    (case xB => k_is)
    (case rB => decide +kernel)
    (case saB => k_is)
    (case exB => k_is)
    (case tyB => k_is)
    (case kpB => k_is)
    (case noB => k_is)
    (case hgB => k_is)
    (case hkB => k_is)
    (case hdB => k_is)
    (case haB => k_is)
    (case hmB => k_is)
    (case suB => k_is)
    (case a_iB => k_is)
    (case t_iB => k_is)
    (case l_iB => k_is)
    (case c_iB => k_is)
    (case k_iB => k_is)
    (case aN => k_is)
    (case xN => k_is)
    (case rN => decide +kernel)
    (case saN => k_is)
    (case exN => k_is)
    (case tyN => k_is)
    (case kpN => k_is)
    (case noN => k_is)
    (case hgN => k_is)
    (case hkN => k_is)
    (case hdN => k_is)
    (case haN => k_is)
    (case hmN => k_is)
    (case suN => k_is)
    (case a_iN => k_is)
    (case t_iN => k_is)
    (case l_iN => k_is)
    (case c_iN => k_is)
    (case k_iN => k_is)
    (case a_cl => k_is)
    (case l_cl => k_is)
    (case v_cl => exact (.cons ⟨_, rfl⟩ (.cons ⟨_, rfl⟩ (.cons ⟨_, rfl⟩ (.cons ⟨_, rfl⟩ (.cons ⟨_, rfl⟩ .nil))))))
    (case w_cl => decide)
    (case a_wd => k_is)
    (case l_wd => k_is)
    (case v_wd => exact ⟨⟨_, _, rfl, rfl⟩, ⟨_, _, rfl, rfl⟩, ⟨_, _, rfl, rfl⟩, ⟨_, _, rfl, rfl⟩, ⟨_, _, rfl, rfl⟩, trivial⟩)
    (case a_m0 => k_is)
    (case l_m0 => k_is)
    (case v_m0 => exact (.cons ⟨_, rfl⟩ (.cons ⟨_, rfl⟩ (.cons ⟨_, rfl⟩ .nil))))
    (case w_m0 => decide)
    (case a_m1 => k_is)
    (case l_m1 => k_is)
    (case v_m1 => exact (.cons ⟨_, rfl⟩ (.cons ⟨_, rfl⟩ .nil)))
    (case w_m1 => decide)
    (case a_m2 => k_is)
    (case l_m2 => k_is)
    (case v_m2 => exact (.cons ⟨_, rfl⟩ (.cons ⟨_, rfl⟩ (.cons ⟨_, rfl⟩ (.cons ⟨_, rfl⟩ .nil)))))
    (case w_m2 => decide)
    (case a_m3 => k_is)
    (case l_m3 => k_is)
    (case v_m3 => exact (.cons ⟨_, rfl⟩ (.cons ⟨_, rfl⟩ (.cons ⟨_, rfl⟩ (.cons ⟨_, rfl⟩ .nil)))))
    (case w_m3 => decide)
    (case a_m4 => k_is)
    (case l_m4 => k_is)
    (case v_m4 => exact (.cons ⟨_, rfl⟩ (.cons ⟨_, rfl⟩ .nil)))
    (case w_m4 => decide)
    (case a_M => k_is)
    (case z_isinstance => k_is)
    (case z_int => k_is)
    (case z_bool => k_is)
    (case z_tuple => k_is)
    (case z_list => k_is)
    (case z_enumerate => k_is)
    (case z_zip => k_is)
    (case z_len => k_is)
    (case z_abs => k_is)
    (case z_reversed => k_is)
    (case z_range => k_is)
    (case z_min => k_is)
    (case z_repr => k_is)
    (case z_iter => k_is)

