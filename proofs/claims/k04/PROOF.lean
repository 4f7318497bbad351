import PyProof.Rows.All
import Wide.All
import OpenK.AllK
import Wide.FinOn
import PySem.Challenge.RW_landways_k04_renumbered_lands_and_likene
import HandS.ForMost
import HandS.Wide
import HandS.Evl
import HandS.Walk
import HandS.Zip
import HandS.TupAny
import HandS.Sort
import PyProof.ListRange
import HandS.Deep
import HandS.SortRule
import HandS.Star
import HandS.IsInst
import HandS.TupSets
import HandS.SetFor
import HandS.SetBool
import PyProof.TupleOfSeq
import HandS.Property
import HandS.ExcIs
import HandS.ExcField
import HandS.ForExc
import HandS.ExcInit
import KE.DataMinMax
import KE.SortData
import KE.LtData
import HandS.SlotsOwn
import HandS.OwnEq
import PyProof.InstEq
import HandS.MakeKw
import HandS.GenList
import HandS.Style
import HandS.RaiseMore
import KE.KExcIs
import HandS.EndBits
import PyProof.Rows.ReprOcc
import HandS.EndBits
set_option Elab.async false
set_option linter.all false
set_option maxRecDepth 100000
set_option maxHeartbeats 4000000
/-! ## P1 -/
section
open PySem PySem.Spec PyProof.Rows L2
namespace K7

def topS (i : Nat) : Stmt := PySem.Challenge.pw_landways_k04_renumbered_lands_and_likene.main.body.getD i (.Pass ⟨0, 0, 0, 0⟩)
abbrev N__law_mix : List Str := ["_law_number", "_law_turn", "_law_once", "_law_twice"]
abbrev s__law_mix : Stmt := topS 29
theorem sc__law_mix : FnScope ["_law_number", "_law_turn", "_law_once", "_law_twice"] ["_law_number", "_law_turn"] (defScope s__law_mix) := ⟨rfl, rfl, rfl, by decide +kernel, rfl, by decide +kernel, by decide +kernel⟩

abbrev N__law_draw : List Str := ["_law_hand_here", "_law_many", "_law_cell", "_law_rest"]
abbrev s__law_draw : Stmt := topS 31
theorem sc__law_draw : FnScope ["_law_hand_here", "_law_many", "_law_cell", "_law_rest"] ["_law_hand_here", "_law_many"] (defScope s__law_draw) := ⟨rfl, rfl, rfl, by decide +kernel, rfl, by decide +kernel, by decide +kernel⟩

abbrev N__law_pick : List Str := ["_law_hand_here", "_law_things"]
abbrev s__law_pick : Stmt := topS 32
theorem sc__law_pick : FnScope ["_law_hand_here", "_law_things"] ["_law_hand_here", "_law_things"] (defScope s__law_pick) := ⟨rfl, rfl, rfl, by decide +kernel, rfl, by decide +kernel, by decide +kernel⟩

abbrev N__law_hand : List Str := ["_law_script", "_law_total", "_law_k", "_law_cell"]
abbrev s__law_hand : Stmt := topS 30
theorem sc__law_hand : FnScope ["_law_script", "_law_total", "_law_k", "_law_cell"] ["_law_script"] (defScope s__law_hand) := ⟨rfl, rfl, rfl, by decide +kernel, rfl, by decide +kernel, by decide +kernel⟩

section
variable {P : Program} {w : World} {K : PySem.W.Frag} {mg : Str → Option Value} {base : Heap}
/-! mix: some number from 0 on -/
def spMix : Sp := fun vs H Q _ => ∃ n t : Int, vs = [.int n, .int t] ∧ ∀ r : Int, 0 ≤ r → Q (.int r) H
theorem ok_mix {f : Addr} {fd : FuncData} (F : Fun K "_law_mix" "_law_mix" s__law_mix f fd) (m_int : mg "int" = none) : FnOk P w K mg base CX0 1 f fd ["_law_number", "_law_turn"] spMix := by
  refine F.ok sc__law_mix (fun vs H Q E h => ?_) (fun cdv A outer s H vs Q E hr h => ?_)
  · obtain ⟨n, t, rfl, _⟩ := h
    rfl
  · obtain ⟨n, t, rfl, q⟩ := h
    refine ⟨_, (pss_cons (ps_set (i := 2) sc__law_mix.nd rfl (by first | exact Or.inl rfl | exact Or.inr rfl) (pe_op op_mod (pe_callTy call_int1 (by rfl) m_int boot_int (pa_cons (pe_op op_add (pe_op op_add (pe_op op_mul (pv 0) pe_int) (pe_op op_mul (pv 1) pe_int)) pe_int) pa_nil)) pe_int))
 (pss_cons (ps_set (i := 3) sc__law_mix.nd rfl (by first | exact Or.inl rfl | exact Or.inr rfl) (pe_op op_mod (pe_callTy call_int1 (by rfl) m_int boot_int (pa_cons (pe_op op_add (pe_op op_add (pe_op op_mul (pv 2) (pv 2)) (pe_op op_mul (pe_op op_fdiv (pv 2) pe_int) pe_int)) (pe_op op_mul (pv 1) pe_int)) pa_nil)) pe_int))
 (pss_one (ps_ret (pe_op op_fdiv (pe_op op_mod (pe_callTy call_int1 (by rfl) m_int boot_int (pa_cons (pe_op op_add (pe_op op_fdiv (pe_op op_mul (pv 3) (pv 3)) pe_int) (pv 2)) pa_nil)) pe_int) pe_int))))), ?_⟩
    have e1 : ∀ z : Int, 0 ≤ z % 2147483647 ∧ z % 2147483647 < 2147483647 := fun z => ⟨Int.emod_nonneg _ (by decide), Int.emod_lt_of_pos _ (by decide)⟩
    have e2 : ∀ z : Int, 0 ≤ z % 2147483399 ∧ z % 2147483399 < 2147483399 := fun z => ⟨Int.emod_nonneg _ (by decide), Int.emod_lt_of_pos _ (by decide)⟩
    refine ⟨_, rfl, _, _, rfl, rfl, .inr ⟨by decide, by decide⟩, _, rfl, _, _, rfl, rfl, .inr ⟨by decide, by decide⟩, _, _, rfl, rfl, _, _, rfl, rfl, .inl ⟨_, rfl, ?_⟩⟩
    refine ⟨_, _, rfl, rfl, show (0 : Int) < _ by decide, ?_⟩
    have b1 := e1 (n * 48271 + t * 16807 + 11)
    refine ⟨_, rfl, _, rfl, _, _, rfl, rfl, .inl ⟨by omega, by omega⟩, _, rfl, _, _, rfl, rfl, ⟨by decide, by decide⟩, _, _, rfl, rfl, .inr ⟨by decide, by decide⟩, _, _, rfl, rfl, _, rfl, _, _, rfl, rfl, .inr ⟨by decide, by decide⟩, _, _, rfl, rfl, .inl ⟨_, rfl, ?_⟩⟩
    refine ⟨_, _, rfl, rfl, show (0 : Int) < _ by decide, ?_⟩
    refine ⟨_, rfl, _, rfl, _, _, rfl, rfl, .inl ⟨by omega, by omega⟩, _, _, rfl, rfl, ⟨by decide, by decide⟩, _, rfl, _, _, rfl, rfl, .inl ⟨_, rfl, _, _, rfl, rfl, show (0 : Int) < _ by decide, _, _, rfl, rfl, ⟨by decide, by decide⟩, ?_⟩⟩
    exact q _ (Int.ediv_nonneg (Int.emod_nonneg _ (by decide)) (by decide))
/-! the hand -/
structure HandB (ns : List Int) (i x t : Int) : Prop where
  len : ns.length ≤ 63
  lo : 0 ≤ i
  hi : i ≤ ns.length
  x0 : 0 ≤ x
  t0 : 0 ≤ t
  pos : ∀ n ∈ ns, 0 ≤ n
def HandO (c : Addr) (i x t : Int) : HO := .lst [.ref c, .int i, .int x, .int t]
def Hand (H : Hp) (a c : Addr) : Prop := ∃ ns i x t, H a = some (HandO c i x t) ∧ H c = some (.lst (ns.map V.int)) ∧ HandB ns i x t
/-- H' is H but for the hand at a, which is a hand still -/
structure Drawn (H H' : Hp) (a c : Addr) : Prop where
  but : ∀ b, b ≠ a → H' b = H b
  hand : Hand H' a c
def spDraw : Sp := fun vs H Q _ => ∃ (a c : Addr) (many : Int), vs = [.ref a, .int many] ∧ Hand H a c ∧ 0 < many ∧ many < 2 ^ 200 ∧ ∀ H' r, Drawn H H' a c → 0 ≤ r → r < many → Q (.int r) H'
theorem hand_ne {H : Hp} {a c : Addr} {ns : List Int} {i x t : Int} (h1 : H a = some (HandO c i x t)) (h2 : H c = some (.lst (ns.map V.int))) : c ≠ a := by
  intro e
  subst e
  rw [h1] at h2
  unfold HandO at h2
  injection h2 with h2
  injection h2 with h2
  cases ns with
  | nil => cases h2
  | cons n r => rw [List.map_cons] at h2; injection h2 with h3 h4; cases h3
theorem drawn_of {H H0 : Hp} {a c : Addr} {ns : List Int} {i x t : Int} (hb : ∀ b, b ≠ a → H0 b = H b) (hc : c ≠ a) (h2 : H c = some (.lst (ns.map V.int))) (B : HandB ns i x t) : Drawn H (upd H0 a (HandO c i x t)) a c :=
  ⟨fun b h => by rw [upd_ne h]; exact hb b h, ⟨ns, i, x, t, upd_same, by rw [upd_ne hc, hb c hc]; exact h2, B⟩⟩
theorem wide200 {many : Int} (h0 : 0 < many) (h1 : many < 2 ^ 200) (i : Int) : CDivW i many := wide_div (b := 200) h0 (by omega) (by decide) (by decide)
theorem ok_draw {f fM : Addr} {fd fdM : FuncData} (F : Fun K "_law_draw" "_law_draw" s__law_draw f fd) (FM : Fun K "_law_mix" "_law_mix" s__law_mix fM fdM) (g_law_mix : mg "_law_mix" = some (.ref fM)) (b_law_mix : Binds K fdM ["_law_number", "_law_turn"] [])
    (m_int : mg "int" = none) (m_len : mg "len" = none) : FnOk P w K mg base CX0 2 f fd ["_law_hand_here", "_law_many"] spDraw := by
  have G_law_mix : FnOk P w K mg base CX0 1 fM fdM ["_law_number", "_law_turn"] spMix := ok_mix FM m_int
  have k_law_mix := FM.kp
  refine F.ok sc__law_draw (fun vs H Q E h => ?_) (fun cdv A outer s H vs Q E hr h => ?_)
  · obtain ⟨a, c, n, rfl, _⟩ := h
    rfl
  · obtain ⟨a, c, many, rfl, ⟨ns, i, x, t, h1, h2, B⟩, hm0, hm1, q⟩ := h
    have hr_law_mix := hr
    have hc := hand_ne h1 h2
    refine ⟨_, (Evl.pss_cut (ps_if (pw_and (pt_cmpR op_eq (pe_ix ix_list (pv 0) pe_int (fun _ _ => rfl)) pe_int (nomark _)) (pw_and1 (pt_cmpR op_lt (pe_ix ix_list (pv 0) pe_int (fun _ _ => rfl)) (pe_callB call_len_seq (by rfl) m_len boot_len (pa_cons (pe_ix ix_list (pv 0) pe_int (fun _ _ => rfl)) pa_nil)) (nomark _)))).pt
  (pss_cons (ps_set (i := 2) sc__law_draw.nd rfl (by first | exact Or.inl rfl | exact Or.inr rfl) (pe_ix ix_list (pe_ix ix_list (pv 0) pe_int (fun _ _ => rfl)) (pe_ix ix_list (pv 0) pe_int (fun _ _ => rfl)) (fun _ _ => rfl)))
 (pss_cons (ps_asg (pe_op op_add (pe_ix ix_list (pv 0) pe_int (fun _ _ => rfl)) pe_int) (pg_sub (pv 0) pe_int set_list))
 (pss_cons (ps_if (pt_cmpR op_lt (pv 2) (pe_op op_pow pe_int pe_int) (nomark _))
  (pss_one (ps_ret (pe_op op_mod (pe_callTy call_int1 (by rfl) m_int boot_int (pa_cons (pe_call G_law_mix hr_law_mix (by rfl) g_law_mix k_law_mix b_law_mix .nil pass0 (pa_cons (pe_op op_mod (pe_callTy call_int1 (by rfl) m_int boot_int (pa_cons (pv 2) pa_nil)) pe_int) (pa_cons (pe_ix ix_list (pv 0) pe_int (fun _ _ => rfl)) pa_nil))) pa_nil)) (pv 1))))
  pss_nil)
 (pss_one (ps_asg (pv 2) (pg_sub (pv 0) pe_int set_list))))))
  pss_nil)
 (pss_cons (ps_if (pt_cmpR op_gt (pe_ix ix_list (pv 0) pe_int (fun _ _ => rfl)) pe_int (nomark _))
  (pss_cons (ps_set (i := 3) sc__law_draw.nd rfl (by first | exact Or.inl rfl | exact Or.inr rfl) (pe_ix ix_list (pv 0) pe_int (fun _ _ => rfl)))
 (pss_cons (ps_asg (pe_op op_fdivW (pv 3) (pv 1)) (pg_sub (pv 0) pe_int set_list))
 (pss_one (ps_ret (pe_op op_mod (pe_callTy call_int1 (by rfl) m_int boot_int (pa_cons (pv 3) pa_nil)) (pv 1))))))
  pss_nil)
 (pss_cons (ps_asg (pe_op op_mod (pe_callTy call_int1 (by rfl) m_int boot_int (pa_cons (pe_op op_add (pe_ix ix_list (pv 0) pe_int (fun _ _ => rfl)) pe_int) pa_nil)) pe_int) (pg_sub (pv 0) pe_int set_list))
 (pss_one (ps_ret (pe_op op_mod (pe_callTy call_int1 (by rfl) m_int boot_int (pa_cons (pe_call G_law_mix hr_law_mix (by rfl) g_law_mix k_law_mix b_law_mix .nil pass0 (pa_cons (pe_ix ix_list (pv 0) pe_int (fun _ _ => rfl)) (pa_cons (pe_ix ix_list (pv 0) pe_int (fun _ _ => rfl)) pa_nil))) pa_nil)) (pv 1))))))), ?_⟩
    have hS : SqL K H a [.ref c, .int i, .int x, .int t] := .inl (.inl h1)
    have hC : SqL K H c (ns.map V.int) := .inl (.inl h2)
    have last : ∀ (i' : Int) (σ : L2.St) , 0 ≤ i' → i' ≤ ns.length → True := fun _ _ _ _ => trivial
    refine ⟨fun σ' H' => ∃ i' x' y2, σ' = [some (.ref a), some (.int many), y2, none] ∧ (∀ b, b ≠ a → H' b = H b) ∧ H' a = some (HandO c i' x' t) ∧ HandB ns i' x' t, ?_, fun σ' H' hM => ?_⟩
    refine ⟨.ref a, rfl, a, _, _, _, rfl, rfl, hS, rfl, rfl, _, rfl, ite2 (fun e => ?_) (fun e => ?_)⟩
    · have ex : x = 0 := V.int.inj (of_decide_eq_true e)
      subst ex
      refine ⟨.ref a, rfl, a, _, _, _, rfl, rfl, hS, rfl, .ref a, rfl, a, _, _, _, rfl, rfl, hS, rfl, c, _, rfl, .inl hC, _, _, rfl, rfl, _, rfl, ite2 (fun e => ?_) (fun e => ?_)⟩
      · have hi : i < ((ns.map V.int).length : Int) := of_decide_eq_true e
        rw [List.length_map] at hi
        have hlo := B.lo
        obtain ⟨j, rfl⟩ : ∃ j : Nat, i = (j : Int) := ⟨i.toNat, by omega⟩
        have hj : j < ns.length := by omega
        have gj : (ns.map V.int)[j]? = some (.int ns[j]) := by
          rw [List.getElem?_map, List.getElem?_eq_getElem hj]
          rfl
        have p0 : 0 ≤ ns[j] := B.pos _ (List.getElem_mem hj)
        refine ⟨.ref a, rfl, a, _, _, _, rfl, rfl, hS, rfl, .ref a, rfl, a, _, _, _, rfl, rfl, hS, rfl, c, _, _, _, rfl, rfl, hC, atI_nat gj, ?_⟩
        refine ⟨.ref a, rfl, a, _, _, _, rfl, rfl, hS, rfl, _, _, rfl, rfl, .ref a, rfl, a, _, _, _, rfl, rfl, h1, rfl, ?_⟩
        have hS2 : SqL K (upd H a (HandO c (j + 1) 0 t)) a [.ref c, .int (j + 1), .int 0, .int t] := .inl (.inl upd_same)
        refine ⟨_, rfl, _, _, rfl, rfl, ⟨by decide, by decide, by decide⟩, _, _, rfl, rfl, _, rfl, ite2 (fun e => ?_) (fun e => ?_)⟩
        · refine ⟨_, rfl, .inl ⟨_, rfl, _, _, rfl, rfl, show (0 : Int) < _ by decide, .ref a, rfl, a, _, _, _, rfl, rfl, hS2, rfl, _, _, rfl, fun r r0 => .inl ⟨_, rfl, _, rfl, _, _, rfl, rfl, hm0, ?_⟩⟩⟩
          exact q _ _ (drawn_of (H0 := H) (fun _ _ => rfl) hc h2 ⟨B.len, by omega, by omega, by decide, B.t0, B.pos⟩) (Int.emod_nonneg _ (by omega)) (Int.emod_lt_of_pos _ hm0)
        · refine ⟨_, rfl, .ref a, rfl, a, _, _, _, rfl, rfl, upd_same, rfl, ?_⟩
          refine ⟨_, _, _, rfl, fun b hb => by rw [upd_ne hb, upd_ne hb], upd_same, ⟨B.len, by omega, by omega, p0, B.t0, B.pos⟩⟩
      · exact ⟨i, 0, none, rfl, fun _ _ => rfl, h1, B⟩
    · exact ⟨i, x, none, rfl, fun _ _ => rfl, h1, B⟩
    · obtain ⟨i', x', y2, rfl, hb, h1', B'⟩ := hM
      have h2' : H' c = some (.lst (ns.map V.int)) := by rw [hb c hc]; exact h2
      have hS' : SqL K H' a [.ref c, .int i', .int x', .int t] := .inl (.inl h1')
      refine ⟨.ref a, rfl, a, _, _, _, rfl, rfl, hS', rfl, _, _, rfl, rfl, _, rfl, ite2 (fun e => ?_) (fun e => ?_)⟩
      · refine ⟨.ref a, rfl, a, _, _, _, rfl, rfl, hS', rfl, _, rfl, _, rfl, _, _, rfl, rfl, wide200 hm0 hm1 _, .ref a, rfl, a, _, _, _, rfl, rfl, h1', rfl, ?_⟩
        refine ⟨_, rfl, .inl ⟨_, rfl, _, rfl, _, _, rfl, rfl, hm0, ?_⟩⟩
        exact q _ _ (drawn_of (H0 := H') hb hc h2 ⟨B.len, B'.lo, B'.hi, Int.ediv_nonneg B'.x0 (by omega), B.t0, B.pos⟩) (Int.emod_nonneg _ (by omega)) (Int.emod_lt_of_pos _ hm0)
      · refine ⟨.ref a, rfl, a, _, _, _, rfl, rfl, hS', rfl, _, _, rfl, rfl, .inl ⟨_, rfl, _, _, rfl, rfl, show (0 : Int) < _ by decide, .ref a, rfl, a, _, _, _, rfl, rfl, h1', rfl, ?_⟩⟩
        have hS3 : SqL K (upd H' a (HandO c i' x' ((t + 1) % 2147483629))) a [.ref c, .int i', .int x', .int ((t + 1) % 2147483629)] := .inl (.inl upd_same)
        refine ⟨.ref a, rfl, a, _, _, _, rfl, rfl, hS3, rfl, .ref a, rfl, a, _, _, _, rfl, rfl, hS3, rfl, _, _, rfl, fun r r0 => .inl ⟨_, rfl, _, rfl, _, _, rfl, rfl, hm0, ?_⟩⟩
        exact q _ _ (drawn_of (H0 := H') hb hc h2 ⟨B.len, B'.lo, B'.hi, B'.x0, Int.emod_nonneg _ (by decide), B.pos⟩) (Int.emod_nonneg _ (by omega)) (Int.emod_lt_of_pos _ hm0)
theorem Hand.same {H H' : Hp} {a c : Addr} (h : Hand H a c) (e : Same H H') : Hand H' a c := by
  obtain ⟨ns, i, x, t, h1, h2, B⟩ := h
  exact ⟨ns, i, x, t, e _ _ h1, e _ _ h2, B⟩
theorem Hand.upd {H : Hp} {a c l : Addr} {o : HO} (h : Hand H a c) (h1 : l ≠ a) (h2 : l ≠ c) : Hand (upd H l o) a c := by
  obtain ⟨ns, i, x, t, e1, e2, B⟩ := h
  exact ⟨ns, i, x, t, by rw [upd_ne h1.symm]; exact e1, by rw [upd_ne h2.symm]; exact e2, B⟩
theorem Hand.ne {H : Hp} {a c l : Addr} (h : Hand H a c) (n : H l = none) : l ≠ a ∧ l ≠ c := by
  obtain ⟨ns, i, x, t, e1, e2, B⟩ := h
  exact ⟨(ne_of_none e1 n).symm, (ne_of_none e2 n).symm⟩
/-- an item of a list -/
def spPick : Sp := fun vs H Q _ => ∃ (a c l : Addr) (xs : List V), vs = [.ref a, .ref l] ∧ Hand H a c ∧ l ≠ a ∧ H l = some (.lst xs) ∧ 0 < xs.length ∧ xs.length ≤ 1000 ∧ ∀ H' (j : Nat) v, Drawn H H' a c → xs[j]? = some v → Q v H'
theorem ok_pick {f fD : Addr} {fd fdD : FuncData} (F : Fun K "_law_pick" "_law_pick" s__law_pick f fd) (k_law_draw : PySem.W.keepIn K (.ref fD) = true) (G_law_draw : FnOk P w K mg base CX0 2 fD fdD ["_law_hand_here", "_law_many"] spDraw) (g_law_draw : mg "_law_draw" = some (.ref fD)) (b_law_draw : Binds K fdD ["_law_hand_here", "_law_many"] [])
    (m_len : mg "len" = none) : FnOk P w K mg base CX0 3 f fd ["_law_hand_here", "_law_things"] spPick := by
  refine F.ok sc__law_pick (fun vs H Q E h => ?_) (fun cdv A outer s H vs Q E hr h => ?_)
  · obtain ⟨a, c, l, xs, rfl, _⟩ := h
    rfl
  · obtain ⟨a, c, l, xs, rfl, hh, hla, hl, h0, h1, q⟩ := h
    have hr_law_draw := hr
    refine ⟨_, (pss_one (ps_ret (pe_ix ix_list (pv 1) (pe_call G_law_draw hr_law_draw (by rfl) g_law_draw k_law_draw b_law_draw .nil pass0 (pa_cons (pv 0) (pa_cons (pe_callB call_len_seq (by rfl) m_len boot_len (pa_cons (pv 1) pa_nil)) pa_nil))) (fun _ _ => rfl)))), ?_⟩
    have hm : ((xs.length : Nat) : Int) < 2 ^ 200 := Int.lt_of_le_of_lt (show ((xs.length : Nat) : Int) ≤ 1000 by omega) (by decide)
    refine ⟨.ref l, rfl, .ref a, rfl, .ref l, rfl, l, _, rfl, .inl (.inl (.inl hl)), a, c, _, rfl, hh, by omega, hm, fun H' r d r0 r1 => ?_⟩
    obtain ⟨j, rfl⟩ : ∃ j : Nat, r = (j : Int) := ⟨r.toNat, by omega⟩
    have hj : j < xs.length := by omega
    have e : xs[j]? = some xs[j] := List.getElem?_eq_getElem hj
    have hl' : H' l = some (.lst xs) := by rw [d.but l hla]; exact hl
    exact ⟨l, xs, _, _, rfl, rfl, .inl (.inl hl'), atI_nat e, q H' j _ d e⟩
/-- the hand of a script -/
def spHand (K : PySem.W.Frag) : Sp := fun vs H Q _ => ∃ (s : Addr) (ns : List Int), vs = [.ref s] ∧ SqL K H s (ns.map V.int) ∧ ns.length ≤ 63 ∧ ∀ H' a c, Same H H' → H a = none → H c = none → Hand H' a c → Q (.ref a) H'
theorem ok_hand {f : Addr} {fd : FuncData} (F : Fun K "_law_hand" "_law_hand" s__law_hand f fd) (m_int : mg "int" = none) (m_abs : mg "abs" = none) (m_enumerate : mg "enumerate" = none) : FnOk P w K mg base CX0 1 f fd ["_law_script"] (spHand K) := by
  refine F.ok sc__law_hand (fun vs H Q E h => ?_) (fun cdv A outer s H vs Q E hr h => ?_)
  · obtain ⟨a, ns, rfl, _⟩ := h
    rfl
  · obtain ⟨a, ns, rfl, hS, hlen, q⟩ := h
    refine ⟨_, (pss_cons (ps_set (i := 1) sc__law_hand.nd rfl (by first | exact Or.inl rfl | exact Or.inr rfl) pe_int)
 (pss_cons (ps_for PassesOwn.never rfl (pi_enum (by rfl) m_enumerate (pa_cons (pv 0) pa_nil)) (pg_tup rfl (pgs_cons (pg_name (i := 2) sc__law_hand.nd rfl (by first | exact Or.inl rfl | exact Or.inr rfl)) (pgs_cons (pg_name (i := 3) sc__law_hand.nd rfl (by first | exact Or.inl rfl | exact Or.inr rfl)) pgs_nil)))
  (pss_one (ps_set (i := 1) sc__law_hand.nd rfl (by first | exact Or.inl rfl | exact Or.inr rfl) (pe_op op_mod (pe_callTy call_int1 (by rfl) m_int boot_int (pa_cons (pe_op op_add (pe_op op_mul (pv 1) pe_int) (pe_op op_mul (pe_callTy call_int1 (by rfl) m_int boot_int (pa_cons (pv 3) pa_nil)) (pe_op op_add (pv 2) pe_int))) pa_nil)) pe_int))))
 (pss_one (ps_ret (pe_lst (pa_cons (pe_lc (own := [("_law_cell", 3)]) (g := gName 3) (tt := tYes) rfl sc__law_hand.nd (pi_list (pv 0)) (blkOk_by (own := [("_law_cell", 3)]) (N := N__law_hand) (sc := defScope s__law_hand) (by decide +kernel)) (fun _ _ _ _ _ => (pg_name (i := 3) sc__law_hand.nd rfl (by first | exact Or.inl rfl | exact Or.inr rfl))) (fun _ _ _ _ _ => pts_nil) (fun _ _ _ _ _ => (pe_callB call_abs (by rfl) m_abs boot_abs (pa_cons (pe_callTy call_int1 (by rfl) m_int boot_int (pa_cons (pv 3) pa_nil)) pa_nil)))) (pa_cons pe_int (pa_cons pe_int (pa_cons (pv 1) pa_nil))))))))), ?_⟩
    have hlen' : (ns.map V.int).length = ns.length := List.length_map ..
    refine ⟨.ref a, rfl, a, _, rfl, hS, for_it (walk_enum (xs := ns.map V.int)) (fun i σ H' => ∃ tot y2 y3, σ = [some (.ref a), some (.int tot), y2, y3] ∧ 0 ≤ tot ∧ tot < 2147483629 ∧ Same H H') ⟨0, none, none, rfl, by decide, by decide, Same.refl H⟩ (fun i σ H' _ p => ?_) (fun i v σ H' H'' hi p y => ?_) (fun σ H1 p => ?_)⟩
    · obtain ⟨tot, y2, y3, rfl, _, _, e⟩ := p
      exact e.seq hS
    · obtain ⟨tot, y2, y3, rfl, t0, t1, e⟩ := p
      obtain ⟨T, x, y, rfl, nT, rfl, ex, ey⟩ := y
      rw [hlen'] at hi
      obtain rfl : .int (i : Nat) = x := Option.some.inj ex
      obtain ⟨n, rfl⟩ : ∃ n : Int, y = .int n := by
        have ey : (ns.map V.int)[i]? = some y := ey
        rw [List.getElem?_map, List.getElem?_eq_getElem hi] at ey
        exact ⟨_, (Option.some.inj ey).symm⟩
      refine ⟨T, _, rfl, .inl (.inl upd_same), rfl, _, _, rfl, _, _, rfl, rfl, ?_⟩
      refine ⟨_, rfl, _, _, rfl, rfl, .inr ⟨by decide, by decide⟩, _, rfl, .inl ⟨_, rfl, _, rfl, _, _, rfl, rfl, _, _, rfl, rfl, .inr ⟨by omega, by omega⟩, _, _, rfl, rfl, .inl ⟨_, rfl, _, _, rfl, rfl, show (0 : Int) < _ by decide, ?_⟩⟩⟩
      refine ⟨_, _, _, rfl, Int.emod_nonneg _ (by decide), Int.emod_lt_of_pos _ (by decide), e.trans fun b z hz => ?_⟩
      rw [upd_ne (ne_of_none hz nT)]
      exact hz
    · obtain ⟨tot, y2, y3, rfl, t0, t1, e⟩ := p
      have hS1 : SqL K H1 a (ns.map V.int) := e.seq hS
      refine ⟨.ref a, rfl, a, rfl, ⟨_, hS1⟩, fun D hD => lc_list (xs := ns.map V.int) (fun i H2 => Same H1 H2 ∧ H2 D = some (.lst ((ns.take i).map fun n => .int (if n < 0 then -n else n)))) ⟨fun b z hz => ?_, upd_same⟩ (fun i H2 _ p => p.1.seq hS1) (fun i x H2 hx p => ?_) (fun H2 p => ?_)⟩
      · rw [upd_ne (ne_of_none hz hD)]
        exact hz
      · obtain ⟨e2, hd⟩ := p
        rw [List.getElem?_map] at hx
        obtain ⟨n, hn, rfl⟩ := Option.map_eq_some_iff.mp hx
        refine ⟨rfl, ?_⟩
        refine ⟨_, rfl, .inl ⟨_, rfl, _, rfl, _, hd, ?_, fun b z hz => ?_, ?_⟩⟩
        · rw [List.length_map, List.length_take]
          exact Nat.lt_of_le_of_lt (Nat.min_le_right _ _) (small1000 (by omega))
        · rw [upd_ne (ne_of_none hz hD)]
          exact e2 _ _ hz
        · rw [upd_same, List.take_add_one, hn, List.map_append]
          rfl
      · obtain ⟨e2, hd⟩ := p
        rw [hlen', List.take_length] at hd
        refine ⟨_, rfl, by show 4 ≤ sizeLine; decide, fun p hp => ?_⟩
        have npD : D ≠ p := ne_of_none hd hp
        refine q _ p D ?_ ((e.trans e2).free hp) (e.free hD) ⟨ns.map fun n => if n < 0 then -n else n, 0, 0, tot, upd_same, ?_, ?_⟩
        · exact fun b z hz => by
            rw [upd_ne (ne_of_none ((e.trans e2) _ _ hz) hp)]
            exact (e.trans e2) _ _ hz
        · rw [upd_ne npD, hd, List.map_map]
          rfl
        · refine ⟨by rw [List.length_map]; exact hlen, by decide, by omega, by decide, t0, fun n hn => ?_⟩
          obtain ⟨m, _, rfl⟩ := List.mem_map.mp hn
          split <;> omega
end
end K7
end
/-! ## P2 -/
section
open PySem PySem.Spec PyProof.Rows L2
namespace K7
abbrev N__law_lots : List Str := ["_law_cells", "_law_found", "_law_last", "_law_turn", "_law_grown", "_law_lot", "_law_cell"]
abbrev s__law_lots : Stmt := topS 33
theorem sc__law_lots : FnScope ["_law_cells", "_law_found", "_law_last", "_law_turn", "_law_grown", "_law_lot", "_law_cell"] ["_law_cells"] (defScope s__law_lots) := ⟨rfl, rfl, rfl, by decide +kernel, rfl, by decide +kernel, by decide +kernel⟩

theorem same_new {H H' : Hp} {p : Addr} {o : HO} (e : Same H H') (h : H' p = none) : Same H (upd H' p o) := fun b z hz => by
  have h2 := e _ _ hz
  rw [upd_ne (ne_of_none h2 h)]
  exact h2
def But (x : Addr) (H H' : Hp) : Prop := ∀ b o, b ≠ x → H b = some o → H' b = some o
/-! ### all lots of the cells -/
def grow1 (cells lot : List Nat) : List (List Nat) := (cells.filter fun c => lot.isEmpty || decide (lot.getLastD 0 < c)).map fun c => lot ++ [c]
def level (cells : List Nat) : Nat → List (List Nat)
  | 0 => [[]]
  | k + 1 => (level cells k).flatMap (grow1 cells)
def lotsTo (cells : List Nat) : Nat → List (List Nat)
  | 0 => [[]]
  | k + 1 => lotsTo cells k ++ level cells (k + 1)
theorem level_len : ∀ n : Fin 6, ∀ k : Fin 7, (level (List.range n.val) k.val).length ≤ 10 ∧ (lotsTo (List.range n.val) k.val).length ≤ 32 := by decide +kernel
theorem level_lot : ∀ n : Fin 6, ∀ k : Fin 7, (level (List.range n.val) k.val).all (fun l => decide (l.length ≤ 990)) = true := by decide +kernel
theorem lot_len {n t i : Nat} {lot : List Nat} (hn : n ≤ 5) (ht : t ≤ 6) (h : (level (List.range n) t)[i]? = some lot) : lot.length ≤ 990 := by
  have := List.all_eq_true.mp (level_lot ⟨n, by omega⟩ ⟨t, by omega⟩) lot (List.mem_of_getElem? h)
  exact of_decide_eq_true this
/-- tuples of cells at these places -/
inductive TAt (H : Hp) : List Addr → List (List Nat) → Prop
  | nil : TAt H [] []
  | cons {t : Addr} {l : List Nat} {ts : List Addr} {ls : List (List Nat)} (h : H t = some (.tup (l.map fun c => .int (c : Nat)))) (r : TAt H ts ls) : TAt H (t :: ts) (l :: ls)
theorem TAt.same {H H' : Hp} (e : Same H H') : ∀ {ts ls}, TAt H ts ls → TAt H' ts ls
  | _, _, .nil => .nil
  | _, _, .cons h r => .cons (e _ _ h) (r.same e)
theorem TAt.mono {H H' : Hp} (e : ∀ b xs, H b = some (.tup xs) → H' b = some (.tup xs)) : ∀ {ts ls}, TAt H ts ls → TAt H' ts ls
  | _, _, .nil => .nil
  | _, _, .cons h r => .cons (e _ _ h) (r.mono e)
theorem TAt.append {H : Hp} : ∀ {ts ls us ms}, TAt H ts ls → TAt H us ms → TAt H (ts ++ us) (ls ++ ms)
  | _, _, _, _, .nil, r => r
  | _, _, _, _, .cons h q, r => .cons h (q.append r)
theorem TAt.len {H : Hp} : ∀ {ts ls}, TAt H ts ls → ts.length = ls.length
  | _, _, .nil => rfl
  | _, _, .cons _ r => congrArg Nat.succ r.len
theorem TAt.get {H : Hp} : ∀ {ts ls} {i : Nat} {t : Addr}, TAt H ts ls → ts[i]? = some t → ∃ l, ls[i]? = some l ∧ H t = some (.tup (l.map fun c => .int (c : Nat)))
  | _, _, 0, _, .cons h r, e => by
    cases e
    exact ⟨_, rfl, h⟩
  | _, _, i + 1, _, .cons h r, e => r.get (i := i) e
def ints_ (l : List Nat) : List V := l.map fun c => .int (c : Nat)
def intD (l : List Nat) : PyData := .tuple (l.map fun c => .int (c : Nat))
theorem dp_ints {K : PySem.W.Frag} {H : Hp} : ∀ l : List Nat, DpAll K H (l.map fun c => .int (c : Nat)) (l.map fun c => PyData.int (c : Nat))
  | [] => .nil
  | x :: l => .cons (.int _) (dp_ints l)
theorem shaped_ints (l : List Nat) : SeqAt.shaped (intD l) = true := by
  have h1 : ∀ l : List Nat, PyData.canLayAll0 (l.map fun c => PyData.int (c : Nat)) = true ∧ PyData.depthAll (l.map fun c => PyData.int (c : Nat)) = 0 := fun l => by
    induction l with
    | nil => exact ⟨by simp [PyData.canLayAll0], by simp [PyData.depthAll]⟩
    | cons x r ih => exact ⟨by simp [PyData.canLayAll0, PyData.canLay0, ih.1], by simp [PyData.depthAll, PyData.depth, ih.2]⟩
  show ((PyData.canLay0 (intD l)) && decide (PyData.depth (intD l) ≤ 64)) = true
  simp [intD, PyData.canLay0, PyData.depth, (h1 l).1, (h1 l).2]
theorem eqv_empty (l : List Nat) : PyData.eqv (intD l) (.tuple []) = l.isEmpty := by
  cases l with
  | nil => simp [intD, PyData.eqv, PyData.eqvAll]
  | cons x r => simp [intD, PyData.eqv, PyData.eqvAll]
theorem last_get : ∀ (r : List Nat) (x : Nat), (x :: r)[r.length]? = some (r.getLastD x)
  | [], x => rfl
  | y :: r, x => by
    rw [List.getLastD_cons]
    exact last_get r y
theorem last_at {l : List Nat} (h : l.isEmpty = false) : atI (ints_ l) (-1) = some (.int (l.getLastD 0 : Nat)) := by
  cases l with
  | nil => cases h
  | cons x r =>
    have hl : (ints_ (x :: r)).length = r.length + 1 := by unfold ints_; rw [List.length_map]; rfl
    unfold atI
    rw [hl]
    have e : ixN (r.length + 1) (-1) = some r.length := by
      unfold ixN
      simp
      omega
    rw [e]
    show (ints_ (x :: r))[r.length]? = _
    unfold ints_
    rw [List.getElem?_map]
    have e2 : (x :: r)[r.length]? = some ((x :: r).getLastD 0) := by
      rw [List.getLastD_cons]
      exact last_get r x
    rw [e2]
    rfl
section
variable {P : Program} {w : World} {K : PySem.W.Frag} {mg : Str → Option Value} {base : Heap}
def spLots : Sp := fun vs H Q _ => ∃ (r : Addr) (n : Nat), vs = [.ref r] ∧ n ≤ 5 ∧ H r = some (.lst (ints_ (List.range n))) ∧ ∀ H' q ts, Same H H' → H q = none → H' q = some (.lst (ts.map V.ref)) → TAt H' ts (lotsTo (List.range n) n) → Q (.ref q) H'
theorem ok_lots {f : Addr} {fd : FuncData} (F : Fun K "_law_lots" "_law_lots" s__law_lots f fd) (m_range : mg "range" = none) (m_len : mg "len" = none) (m_list : mg "list" = none) : FnOk P w K mg base CX0 1 f fd ["_law_cells"] spLots := by
  refine F.ok sc__law_lots (fun vs H Q E h => ?_) (fun cdv A outer s H vs Q E hr h => ?_)
  · obtain ⟨r, n, rfl, _⟩ := h
    rfl
  · obtain ⟨r, n, rfl, hn, hr0, q⟩ := h
    refine ⟨_, (pss_cons (ps_par (by rfl) sc__law_lots.nd (i := 1) (j := 2) rfl rfl (by decide) rfl rfl (pa_cons (pe_lst (pa_cons (pe_tup pa_nil) pa_nil)) (pa_cons (pe_lst (pa_cons (pe_tup pa_nil) pa_nil)) pa_nil)) (by rfl))
 (pss_cons (ps_for PassesOwn.never rfl (pi_range1 rfl m_range (pa_cons (pe_callB call_len_seq (by rfl) m_len boot_len (pa_cons (pv 0) pa_nil)) pa_nil)) (pg_name (i := 3) sc__law_lots.nd rfl (by first | exact Or.inl rfl | exact Or.inr rfl))
  (pss_cons (ps_set (i := 4) sc__law_lots.nd rfl (by first | exact Or.inl rfl | exact Or.inr rfl) (pe_lst pa_nil))
 (pss_cons (ps_for PassesOwn.never rfl (pi_list (pv 2)) (pg_name (i := 5) sc__law_lots.nd rfl (by first | exact Or.inl rfl | exact Or.inr rfl))
  (pss_one (ps_for PassesOwn.never rfl (pi_list (pv 0)) (pg_name (i := 6) sc__law_lots.nd rfl (by first | exact Or.inl rfl | exact Or.inr rfl))
  (pss_one (ps_if (pw_or (pt_cmpR (op_eqD hr.units) (pv 5) (pe_tup pa_nil) (nomark _)) (pw_or1 (pt_cmpR op_gt (pv 6) (pe_ix ix_tup (pv 5) (pe_un un_neg pe_int) (fun _ _ => rfl)) (nomark _)))).pt
  (pss_one (ps_expr (pe_bm PySem.F.plainAttrs_list PySem.F.slot_list_append PySem.F.type_list_append mt_append (pv 4) (pa_cons (pe_op op_catA (pv 5) (pe_tup (pa_cons (pv 6) pa_nil))) pa_nil))))
  pss_nil)))))
 (pss_cons (ps_expr (pe_bm PySem.F.plainAttrs_list PySem.F.slot_list_extend PySem.F.type_list_extend mt_extend (pv 1) (pa_cons (pv 4) pa_nil)))
 (pss_one (ps_set (i := 2) sc__law_lots.nd rfl (by first | exact Or.inl rfl | exact Or.inr rfl) (pe_callTy call_list_of (by rfl) m_list boot_list (pa_cons (pv 4) pa_nil))))))))
 (pss_one (ps_ret (pv 1))))), ?_⟩
    have hlen : (ints_ (List.range n)).length = n := by unfold ints_; rw [List.length_map, List.length_range]
    refine ⟨by show 0 ≤ sizeLine; decide, fun e0 ne0 => ⟨by show 1 ≤ sizeLine; decide, fun F0 nF0 => ⟨by show 0 ≤ sizeLine; decide, fun e1 ne1 => ⟨by show 1 ≤ sizeLine; decide, fun L0 nL0 => ?_⟩⟩⟩⟩
    have s1 : Same H (upd H e0 (.tup [])) := same_new (Same.refl H) ne0
    have s2 : Same (upd H e0 (.tup [])) (upd (upd H e0 (.tup [])) F0 (.lst [.ref e0])) := same_new (Same.refl _) nF0
    generalize hA : upd (upd H e0 (.tup [])) F0 (.lst [.ref e0]) = HA at s2 ne1 nL0 ⊢
    have hF : HA F0 = some (.lst [.ref e0]) := by rw [← hA]; exact upd_same
    have he0 : HA e0 = some (.tup []) := s2 _ _ upd_same
    have s3 : Same HA (upd HA e1 (.tup [])) := same_new (Same.refl _) ne1
    have s4 : Same (upd HA e1 (.tup [])) (upd (upd HA e1 (.tup [])) L0 (.lst [.ref e1])) := same_new (Same.refl _) nL0
    have hL : upd (upd HA e1 (.tup [])) L0 (.lst [.ref e1]) L0 = some (.lst [.ref e1]) := upd_same
    have he1 := s4 _ _ (show upd HA e1 (.tup []) e1 = some (.tup []) from upd_same)
    have hFL : F0 ≠ L0 := ne_of_none (s3 _ _ hF) nL0
    have hF2 := s4 _ _ (s3 _ _ hF)
    have he02 := s4 _ _ (s3 _ _ he0)
    have sB := s1.trans (s2.trans (s3.trans s4))
    generalize upd (upd HA e1 (.tup [])) L0 (.lst [.ref e1]) = HB at hL he1 hF2 he02 sB ⊢
    refine ⟨_, _, rfl, ?_⟩
    have hFn : H F0 = none := s1.free nF0
    refine ⟨_, rfl, r, _, rfl, .inl (.inl (.inl (sB _ _ hr0))), _, rfl, by omega, by omega, for_range (fun t σ H' => t ≤ n ∧ ∃ La fs las y3 y4 y5 y6, σ = [some (.ref r), some (.ref F0), some (.ref La), y3, y4, y5, y6] ∧ Same H H' ∧ H' F0 = some (.lst (fs.map V.ref)) ∧ H' La = some (.lst (las.map V.ref)) ∧ La ≠ F0 ∧ TAt H' fs (lotsTo (List.range n) t) ∧ TAt H' las (level (List.range n) t)) ⟨Nat.zero_le _, L0, [e0], [e1], none, none, none, none, rfl, sB, hF2, hL, hFL.symm, .cons he02 .nil, .cons he1 .nil⟩ (fun t σ H' ht pv => ?_) (fun σ H' pv => ?_)⟩
    · obtain ⟨_, La, fs, las, y3, y4, y5, y6, rfl, e, hF', hLa, nLF, tF, tL⟩ := pv
      rw [hlen] at ht
      have ht : t < n := by simpa using ht
      refine ⟨by show 0 ≤ sizeLine; decide, fun G nG => ?_⟩
      have gF : F0 ≠ G := ne_of_none hF' nG
      have gL : La ≠ G := ne_of_none hLa nG
      have eG : Same H' (upd H' G (.lst [])) := same_new (Same.refl H') nG
      obtain ⟨lv, lt5⟩ := level_len ⟨n, by omega⟩ ⟨t, by omega⟩
      obtain ⟨lv2, lt6⟩ := level_len ⟨n, by omega⟩ ⟨t + 1, by omega⟩
      have lv : (level (List.range n) t).length ≤ 10 := lv
      refine ⟨_, rfl, La, rfl, ⟨_, .inl (.inl (eG _ _ hLa))⟩, for_list (xs := las.map V.ref) (fun i σ H2 => ∃ gs y5 y6, σ = [some (.ref r), some (.ref F0), some (.ref La), some (.int (0 + (t : Nat))), some (.ref G), y5, y6] ∧ But G H' H2 ∧ H2 G = some (.lst (gs.map V.ref)) ∧ TAt H2 gs (((level (List.range n) t).take i).flatMap (grow1 (List.range n))) ∧ gs.length ≤ 5 * i)
        ⟨[], y5, y6, rfl, fun b o hb hz => by rw [upd_ne hb]; exact hz, upd_same, .nil, Nat.le_refl _⟩ (fun i σ H2 _ pv => ?_) (fun i x σ H2 hx pv => ?_) (fun σ H2 pv => ?_)⟩
      · obtain ⟨gs, y5, y6, rfl, bt, hG, tG, hg⟩ := pv
        exact .inl (.inl (bt _ _ gL hLa))
      · obtain ⟨gs, y5, y6, rfl, bt, hG, tG, hg⟩ := pv
        rw [List.getElem?_map] at hx
        obtain ⟨ti, hti, rfl⟩ := Option.map_eq_some_iff.mp hx
        obtain ⟨lot, elot, hlot⟩ := tL.get hti
        have hi10 : i < 10 := by
          have := (List.getElem?_eq_some_iff.mp elot).1
          omega
        have tG' : ∀ {b : Addr} {xs : List V}, H' b = some (.tup xs) → H2 b = some (.tup xs) := fun {b xs} hb => bt b _ (ne_of_none hb nG) hb
        have hr2 : H2 r = some (.lst (ints_ (List.range n))) := bt _ _ (ne_of_none (e _ _ hr0) nG) (e _ _ hr0)
        have nrG : r ≠ G := ne_of_none (e _ _ hr0) nG
        refine ⟨_, rfl, r, rfl, ⟨_, .inl (.inl hr2)⟩, for_list (xs := ints_ (List.range n)) (fun j σ H3 => ∃ gs' y6, σ = [some (.ref r), some (.ref F0), some (.ref La), some (.int (0 + (t : Nat))), some (.ref G), some (.ref ti), y6] ∧ But G H' H3 ∧ H3 G = some (.lst (gs'.map V.ref)) ∧ TAt H3 gs' (((level (List.range n) t).take i).flatMap (grow1 (List.range n)) ++ grow1 ((List.range n).take j) lot) ∧ gs'.length ≤ 5 * i + j)
          ⟨gs, y6, rfl, bt, hG, by simpa [grow1] using tG, by omega⟩ (fun j σ H3 _ pv => ?_) (fun j x σ H3 hx pv => ?_) (fun σ H3 pv => ?_)⟩
        · obtain ⟨gs', y6, rfl, bt3, hG3, tG3, hg3⟩ := pv
          exact .inl (.inl (bt3 _ _ nrG (e _ _ hr0)))
        · obtain ⟨gs', y6, rfl, bt3, hG3, tG3, hg3⟩ := pv
          unfold ints_ at hx
          rw [List.getElem?_map] at hx
          obtain ⟨c, hc, rfl⟩ := Option.map_eq_some_iff.mp hx
          have hj5 : j < 5 := by
            have := (List.getElem?_eq_some_iff.mp hc).1
            rw [List.length_range] at this
            omega
          have hlot3 : H3 ti = some (.tup (lot.map fun c => .int (c : Nat))) := bt3 ti _ (ne_of_none hlot nG) hlot
          have hll : lot.length ≤ 990 := lot_len hn (by omega) elot
          have g1 : grow1 ((List.range n).take (j + 1)) lot = grow1 ((List.range n).take j) lot ++ (if (lot.isEmpty || decide (lot.getLastD 0 < c)) = true then [lot ++ [c]] else []) := by
            unfold grow1
            rw [List.take_add_one, hc, List.filter_append, List.map_append]
            congr 1
            by_cases z : (lot.isEmpty || decide (lot.getLastD 0 < c)) = true
            · rw [if_pos z]
              show List.map _ (List.filter _ [c]) = _
              rw [List.filter_cons, if_pos z]
              rfl
            · rw [if_neg z]
              show List.map _ (List.filter _ [c]) = _
              rw [List.filter_cons, if_neg z]
              rfl
          have endOk : ∀ (Hf : Hp) (v : Addr), Same H3 Hf → Hf v = some (.tup ((lot ++ [c]).map fun c => .int (c : Nat))) → (lot.isEmpty || decide (lot.getLastD 0 < c)) = true →
              But G H' (upd Hf G (.lst (gs'.map V.ref ++ [.ref v]))) ∧ upd Hf G (.lst (gs'.map V.ref ++ [.ref v])) G = some (.lst ((gs' ++ [v]).map V.ref)) ∧
                TAt (upd Hf G (.lst (gs'.map V.ref ++ [.ref v]))) (gs' ++ [v]) (((level (List.range n) t).take i).flatMap (grow1 (List.range n)) ++ grow1 ((List.range n).take (j + 1)) lot) ∧ (gs' ++ [v]).length ≤ 5 * i + (j + 1) := by
            intro Hf v sF hv hcond
            have up : ∀ b xs, Hf b = some (.tup xs) → upd Hf G (.lst (gs'.map V.ref ++ [.ref v])) b = some (.tup xs) := fun b xs hb => by
              have n1 : b ≠ G := fun z => by rw [z, sF _ _ hG3] at hb; cases hb
              rw [upd_ne n1]; exact hb
            refine ⟨fun b o nb hb => by rw [upd_ne nb]; exact sF _ _ (bt3 b o nb hb), by rw [upd_same, List.map_append]; rfl, ?_, by rw [List.length_append, List.length_singleton]; omega⟩
            rw [g1, if_pos hcond, ← List.append_assoc]
            exact ((tG3.same sF).mono up).append (.cons (up _ _ hv) .nil)
          refine ⟨_, rfl, by show 0 ≤ sizeLine; decide, fun em nem => ?_⟩
          have sX := same_new (o := .tup []) (Same.refl H3) nem
          refine ⟨_, _, .tup (.inl (.inl (sX _ _ hlot3))) (dp_ints lot), .tup (.inl (.inl upd_same)) .nil, shaped_ints lot, shaped_ints [], ?_⟩
          rw [show PyData.eqv (.tuple (lot.map fun c => PyData.int (c : Nat))) (.tuple []) = lot.isEmpty from eqv_empty lot]
          refine ⟨_, rfl, ite2 (fun q1 => ?_) (fun q1 => ?_)⟩
          · have hcond : (lot.isEmpty || decide (lot.getLastD 0 < c)) = true := by rw [q1]; rfl
            have hG4 := sX _ _ hG3
            refine ⟨_, rfl, .inl ⟨rfl, _, .inl (.inl hG4)⟩, _, rfl, _, rfl, by show 1 ≤ sizeLine; decide, fun u nu => ?_⟩
            have sU := sX.trans (same_new (o := .tup [.int (c : Nat)]) (Same.refl _) nu)
            refine ⟨ti, u, _, _, rfl, rfl, .inl (.inl (sU _ _ hlot3)), .inl (.inl upd_same), ?_, fun z => ?_, (fun _ z2 => nomatch z2), fun z1 _ p np => ?_⟩
            · rw [List.length_map]
              exact Nat.le_trans (show lot.length + 1 ≤ 1000 by omega) (by decide)
            · have lot0 : lot = [] := by simpa using z
              obtain ⟨k1, k2, k3, k4⟩ := endOk _ u sU (by rw [upd_same, lot0]; rfl) hcond
              exact ⟨G, _, _, rfl, rfl, sU _ _ hG3, by rw [List.length_map]; exact small1000 (by omega), gs' ++ [u], _, rfl, k1, k2, k3, k4⟩
            · obtain ⟨k1, k2, k3, k4⟩ := endOk _ p (sU.trans (same_new (Same.refl _) np)) (by rw [upd_same, List.map_append]) hcond
              exact ⟨G, _, _, rfl, rfl, (sU.trans (same_new (Same.refl _) np)) _ _ hG3, by rw [List.length_map]; exact small1000 (by omega), gs' ++ [p], _, rfl, k1, k2, k3, k4⟩
          · have q1' : lot.isEmpty = false := Bool.eq_false_iff.mpr q1
            refine ⟨_, rfl, _, rfl, _, rfl, ti, _, _, .int (lot.getLastD 0 : Nat), rfl, rfl, .inl (.inl (sX _ _ hlot3)), last_at q1', _, _, rfl, rfl, _, rfl, ite2 (fun q2 => ?_) (fun q2 => ?_)⟩
            · have hcond : (lot.isEmpty || decide (lot.getLastD 0 < c)) = true := by
                rw [q1', Bool.false_or]
                have := of_decide_eq_true q2
                exact decide_eq_true (by omega)
              have hG4 := sX _ _ hG3
              refine ⟨_, rfl, .inl ⟨rfl, _, .inl (.inl hG4)⟩, _, rfl, _, rfl, by show 1 ≤ sizeLine; decide, fun u nu => ?_⟩
              have sU := sX.trans (same_new (o := .tup [.int (c : Nat)]) (Same.refl _) nu)
              refine ⟨ti, u, _, _, rfl, rfl, .inl (.inl (sU _ _ hlot3)), .inl (.inl upd_same), ?_, fun z => ?_, (fun _ z2 => nomatch z2), fun z1 _ p np => ?_⟩
              · rw [List.length_map]
                exact Nat.le_trans (show lot.length + 1 ≤ 1000 by omega) (by decide)
              · have lot0 : lot = [] := by simpa using z
                obtain ⟨k1, k2, k3, k4⟩ := endOk _ u sU (by rw [upd_same, lot0]; rfl) hcond
                exact ⟨G, _, _, rfl, rfl, sU _ _ hG3, by rw [List.length_map]; exact small1000 (by omega), gs' ++ [u], _, rfl, k1, k2, k3, k4⟩
              · obtain ⟨k1, k2, k3, k4⟩ := endOk _ p (sU.trans (same_new (Same.refl _) np)) (by rw [upd_same, List.map_append]) hcond
                exact ⟨G, _, _, rfl, rfl, (sU.trans (same_new (Same.refl _) np)) _ _ hG3, by rw [List.length_map]; exact small1000 (by omega), gs' ++ [p], _, rfl, k1, k2, k3, k4⟩
            · have hcond : ¬ (lot.isEmpty || decide (lot.getLastD 0 < c)) = true := by
                rw [q1', Bool.false_or]
                intro z
                have z' := of_decide_eq_true z
                exact q2 (decide_eq_true (by omega))
              refine ⟨gs', _, rfl, fun b o nb hb => sX _ _ (bt3 b o nb hb), sX _ _ hG3, ?_, by omega⟩
              rw [g1, if_neg hcond, List.append_nil]
              exact tG3.same sX
        · obtain ⟨gs', y6, rfl, bt3, hG3, tG3, hg3⟩ := pv
          refine ⟨gs', _, _, rfl, bt3, hG3, ?_, ?_⟩
          · rw [hlen, show (List.range n).take n = List.range n from List.take_of_length_le (by rw [List.length_range]; exact Nat.le_refl n)] at tG3
            rw [List.take_add_one, elot, List.flatMap_append]
            simpa using tG3
          · rw [hlen] at hg3
            omega
      · obtain ⟨gs, y5, y6, rfl, bt, hG, tG, hg⟩ := pv
        rw [List.length_map] at tG hg
        rw [tL.len, List.take_length] at tG
        have hF3 := bt _ _ gF hF'
        have lfs : fs.length ≤ 32 := by rw [tF.len]; exact (level_len ⟨n, by omega⟩ ⟨t, by omega⟩).2
        have lgs : gs.length ≤ 10 := by rw [tG.len]; exact lv2
        refine ⟨_, rfl, .inl ⟨rfl, _, .inl (.inl hF3)⟩, _, rfl, F0, G, _, _, rfl, rfl, hF3, hG, ?_, ?_⟩
        · rw [List.length_map, List.length_map]
          exact Nat.le_trans (show fs.length + gs.length ≤ 42 by omega) (by decide)
        have hG4 : upd H2 F0 (.lst (fs.map V.ref ++ gs.map V.ref)) G = some (.lst (gs.map V.ref)) := by rw [upd_ne gF.symm]; exact hG
        refine ⟨_, rfl, G, _, rfl, .inl (.inl (.inl hG4)), fun L2 nL2 => ?_⟩
        have hF4 : upd H2 F0 (.lst (fs.map V.ref ++ gs.map V.ref)) F0 = some (.lst ((fs ++ gs).map V.ref)) := by rw [upd_same, List.map_append]
        have nL2F : L2 ≠ F0 := fun z => by rw [z, hF4] at nL2; cases nL2
        have up : ∀ b xs, H2 b = some (.tup xs) → upd (upd H2 F0 (.lst (fs.map V.ref ++ gs.map V.ref))) L2 (.lst (gs.map V.ref)) b = some (.tup xs) := fun b xs hb => by
          have n1 : b ≠ F0 := fun z => by rw [z, hF3] at hb; cases hb
          have h1 : upd H2 F0 (.lst (fs.map V.ref ++ gs.map V.ref)) b = some (.tup xs) := by rw [upd_ne n1]; exact hb
          rw [upd_ne (ne_of_none h1 nL2)]
          exact h1
        have tF' : TAt H2 fs (lotsTo (List.range n) t) := tF.mono fun b xs hb => bt b _ (ne_of_none hb nG) hb
        refine ⟨by omega, L2, fs ++ gs, gs, _, _, _, _, rfl, fun b o hb => ?_, by rw [upd_ne nL2F.symm]; exact hF4, upd_same, nL2F, (tF'.mono up).append (tG.mono up), tG.mono up⟩
        have n0 : b ≠ F0 := ne_of_none hb hFn
        have h1 := e _ _ hb
        have h2 := bt _ _ (ne_of_none h1 nG) h1
        have h3 : upd H2 F0 (.lst (fs.map V.ref ++ gs.map V.ref)) b = some o := by rw [upd_ne n0]; exact h2
        rw [upd_ne (ne_of_none h3 nL2)]
        exact h3
    · obtain ⟨_, La, fs, las, y3, y4, y5, y6, rfl, e, hF', hLa, nLF, tF, tL⟩ := pv
      rw [hlen] at tF
      exact ⟨_, rfl, q H' F0 fs e hFn hF' (by simpa using tF)⟩
end
end K7
end
/-! ## KL -/
section
/-! ## pure facts about drawn lands (no program in them) -/
namespace KL
/-- every set that holds cell 0 and is not left over any couple holds all cells -/
def Conn (n : Nat) (es : List (Nat × Nat)) : Prop := ∀ S : Nat → Bool, S 0 = true → (∀ e ∈ es, S e.1 = S e.2) → ∀ c, c < n → S c = true
theorem erase_perm {α : Type} : ∀ (l : List α) (j : Nat) (h : j < l.length), (l[j] :: l.eraseIdx j).Perm l
  | x :: l, 0, _ => List.Perm.refl _
  | x :: l, j + 1, h => (List.Perm.swap x (l[j]'(Nat.lt_of_succ_lt_succ h)) (l.eraseIdx j)).trans (List.Perm.cons x (erase_perm l j (Nat.lt_of_succ_lt_succ h)))
/-- one item drawn out of what is left -/
theorem pop_perm {names left : List Nat} {j : Nat} (h : j < left.length) : ((names ++ [left[j]]) ++ left.eraseIdx j).Perm (names ++ left) := by
  rw [List.append_assoc]
  refine List.Perm.append_left names ?_
  exact erase_perm left j h
def couple (names : List Nat) (a b : Nat) : Nat × Nat := (min (names.getD a 0) (names.getD b 0), max (names.getD a 0) (names.getD b 0))
theorem couple_mem {names : List Nat} {n : Nat} (hp : names.Perm (List.range n)) {a : Nat} (ha : a < n) : names.getD a 0 < n := by
  have hl : names.length = n := by rw [hp.length_eq, List.length_range]
  have e : names.getD a 0 = names[a]'(by omega) := by
    rw [List.getD_eq_getElem?_getD, List.getElem?_eq_getElem (by omega)]
    rfl
  rw [e]
  exact List.mem_range.mp (hp.mem_iff.mp (List.getElem_mem _))
/-- a tree under drawn names hangs together -/
theorem conn_tree {n : Nat} {names : List Nat} (hp : names.Perm (List.range n)) {es : List (Nat × Nat)} (h : ∀ k, 0 < k → k < n → ∃ d, d < k ∧ couple names k d ∈ es) : Conn n es := by
  intro S h0 hS c hc
  have hl : names.length = n := by rw [hp.length_eq, List.length_range]
  have step : ∀ k d, couple names k d ∈ es → S (names.getD k 0) = S (names.getD d 0) := by
    intro k d m
    have e := hS _ m
    unfold couple at e
    simp only at e
    by_cases q : names.getD k 0 ≤ names.getD d 0
    · rw [Nat.min_eq_left q, Nat.max_eq_right q] at e
      exact e
    · rw [Nat.min_eq_right (by omega), Nat.max_eq_left (by omega)] at e
      exact e.symm
  have all : ∀ k, k < n → S (names.getD k 0) = S (names.getD 0 0) := by
    intro k
    induction k using Nat.strongRecOn with
    | _ k ih =>
      intro hk
      by_cases z : k = 0
      · rw [z]
      · obtain ⟨d, hd, m⟩ := h k (by omega) hk
        rw [step k d m]
        exact ih d hd (by omega)
  have at_ : ∀ x, x < n → ∃ k, k < n ∧ names.getD k 0 = x := by
    intro x hx
    have m : x ∈ names := hp.mem_iff.mpr (List.mem_range.mpr hx)
    obtain ⟨k, hk, e⟩ := List.mem_iff_getElem.mp m
    refine ⟨k, by omega, ?_⟩
    rw [List.getD_eq_getElem?_getD, List.getElem?_eq_getElem hk, e]
    rfl
  obtain ⟨k0, hk0, e0⟩ := at_ 0 (by omega)
  obtain ⟨k, hk, e⟩ := at_ c hc
  have r0 := all k0 hk0
  rw [e0, h0] at r0
  rw [← e, all k hk, ← r0]
/-- a list of cells that is closed under the couples and holds cell 0 holds all cells -/
theorem conn_closed {n : Nat} {es : List (Nat × Nat)} (h : Conn n es) {found : List Nat} (h0 : 0 ∈ found) (hc : ∀ a b, ((a, b) ∈ es ∨ (b, a) ∈ es) → a ∈ found → b ∈ found) : ∀ c, c < n → c ∈ found := by
  intro c hc'
  have := h (fun x => decide (x ∈ found)) (by simpa using h0) (fun e he => by
    have e1 : e.1 ∈ found ↔ e.2 ∈ found := ⟨fun q => hc e.1 e.2 (.inl he) q, fun q => hc e.2 e.1 (.inr he) q⟩
    exact decide_eq_decide.mpr e1) c hc'
  simpa using this
/-- as many as there are cells, none twice: all cells -/
theorem all_len {n : Nat} {found : List Nat} (hn : found.Nodup) (hb : ∀ c ∈ found, c < n) (ha : ∀ c, c < n → c ∈ found) : found.length = n := by
  have hp : found.Perm (List.range n) := by
    rw [List.perm_ext_iff_of_nodup hn List.nodup_range]
    intro a
    exact ⟨fun q => List.mem_range.mpr (hb a q), fun q => ha a (List.mem_range.mp q)⟩
  rw [hp.length_eq, List.length_range]
end KL
namespace KL
theorem couple_inj {names : List Nat} {n : Nat} (hp : names.Perm (List.range n)) {a b a' b' : Nat} (h1 : b < a) (h2 : a < n) (h1' : b' < a') (h2' : a' < n) (e : couple names a b = couple names a' b') : (a, b) = (a', b') := by
  have hl : names.length = n := by rw [hp.length_eq, List.length_range]
  have nd : names.Nodup := hp.nodup_iff.mpr List.nodup_range
  have inj : ∀ x y, x < n → y < n → names.getD x 0 = names.getD y 0 → x = y := by
    intro x y hx hy q
    rw [List.getD_eq_getElem?_getD, List.getD_eq_getElem?_getD, List.getElem?_eq_getElem (by omega), List.getElem?_eq_getElem (by omega)] at q
    exact (List.getElem_inj nd).mp q
  have ne : ∀ x y, x < n → y < n → x ≠ y → names.getD x 0 ≠ names.getD y 0 := fun x y hx hy q z => q (inj x y hx hy z)
  unfold couple at e
  injection e with e1 e2
  have q1 := ne a b h2 (by omega) (by omega)
  have q2 := ne a' b' h2' (by omega) (by omega)
  by_cases c1 : names.getD a 0 ≤ names.getD b 0
  · rw [Nat.min_eq_left c1] at e1
    rw [Nat.max_eq_right c1] at e2
    by_cases c2 : names.getD a' 0 ≤ names.getD b' 0
    · rw [Nat.min_eq_left c2] at e1
      rw [Nat.max_eq_right c2] at e2
      rw [inj a a' h2 h2' e1, inj b b' (by omega) (by omega) e2]
    · rw [Nat.min_eq_right (by omega)] at e1
      rw [Nat.max_eq_left (by omega)] at e2
      have r1 := inj a b' h2 (by omega) e1
      have r2 := inj b a' (by omega) h2' e2
      omega
  · rw [Nat.min_eq_right (by omega)] at e1
    rw [Nat.max_eq_left (by omega)] at e2
    by_cases c2 : names.getD a' 0 ≤ names.getD b' 0
    · rw [Nat.min_eq_left c2] at e1
      rw [Nat.max_eq_right c2] at e2
      have r1 := inj b a' (by omega) h2' e1
      have r2 := inj a b' h2 (by omega) e2
      omega
    · rw [Nat.min_eq_right (by omega)] at e1
      rw [Nat.max_eq_left (by omega)] at e2
      rw [inj a a' h2 h2' e2, inj b b' (by omega) (by omega) e1]
end KL
end
/-! ## ER -/
section
namespace K7E
open PySem PySem.Spec PyProof.Rows L2
theorem cr_range1 {X : Cx} : CallR X (.type "range") (fun vs H Q => ∃ j, vs = [V.int j] ∧ ∀ p, H p = none → Q (.ref p) (upd H p (.rng 0 j))) := by
  intro pins s σ H vs us Q I r h
  obtain ⟨j, rfl, q⟩ := h
  obtain ⟨u1, rfl, t, rfl⟩ := r.one
  refine call_range_1 ⟨.ref s.heap.objs.size, upd H s.heap.objs.size (.rng 0 j), I.laid (t' := s.toks + 1 + 1) (fun b o e => Heap.get?_push_of_some _ e) (Nat.le_refl _) ?_, rfl, q _ (I.hok.fresh (Nat.le_refl _))⟩
  exact ⟨s.toks, t, s.toks + 1, Heap.get?_push_size _ rfl⟩
def upTo (n : Nat) : List V := (List.range n).map fun i => .int (i : Nat)
theorem vals_upTo : ∀ (n : Nat) (us : List Value), us.length = n → (∀ (j : Nat) v, us[j]? = some v → ∃ t, v = .int (j : Nat) t) → Vals (upTo n) us := by
  intro n
  induction n with
  | zero => intro us h _; cases us with | nil => exact .nil | cons => cases h
  | succ n ih =>
    intro us h hv
    have e : us = us.take n ++ [us[n]'(by omega)] := by
      have := List.take_append_getElem (l := us) (i := n) (by omega)
      rw [this, List.take_of_length_le (by omega)]
    have e2 : upTo (n + 1) = upTo n ++ [.int (n : Nat)] := by
      unfold upTo
      rw [List.range_succ, List.map_append]
      rfl
    rw [e, e2]
    refine (ih _ (by rw [List.length_take]; omega) fun j v hj => ?_).append (.cons ?_ .nil)
    · rw [List.getElem?_take] at hj
      split at hj
      · exact hv j v hj
      · cases hj
    · exact hv n _ (List.getElem?_eq_getElem (by omega))
theorem small_all : ∀ k : Fin 1001, Builtin.Range.small 0 (k.val : Int) 1 = true := by decide +kernel
theorem cr_list_rng {X : Cx} (hc : X.calm = true) : CallR X (.type "list") (fun vs H Q => ∃ (r : Addr) (n : Nat), vs = [V.ref r] ∧ H r = some (.rng 0 n) ∧ n ≤ 1000 ∧ ∀ l, H l = none → Q (.ref l) (upd H l (.lst (upTo n)))) := by
  intro pins s σ H vs us Q I rv h
  obtain ⟨r, n, rfl, hr, hn, q⟩ := h
  obtain ⟨u, rfl, ru⟩ := rv.one
  cases ru
  obtain ⟨t, u, v, hg⟩ := I.hok r _ hr
  refine call_list_range (n := n) (I.ok.hd hc) (show IsRange s.heap r 0 n 1 t u v from hg) ?_ ?_ ?_ fun h' tk acc' c' hk hl hi => ?_
  · have h1 : (0 : Int) ≤ n := by omega
    have h2 : (n : Int) ≤ 1000 := by omega
    exact small_all ⟨n, by omega⟩
  · show (if (0 : Int) < (n : Int) then ((n : Int) - 0 - 1) / 1 + 1 else 0) = (n : Int)
    split <;> omega
  · exact Nat.le_trans hn (by decide)
  · refine ⟨.ref s.heap.objs.size, upd H s.heap.objs.size (.lst (upTo n)), I.laid (t' := tk) hk (Nat.le_refl _) ⟨?_, acc'.toList, c', vals_upTo n _ ?_ fun j w hj => ?_, ?_⟩, rfl, q _ (I.hok.fresh (Nat.le_refl _))⟩
    · unfold upTo; rw [List.length_map, List.length_range]; exact Nat.le_trans hn (by decide)
    · simpa using hi.1
    · obtain ⟨t', e⟩ := hi.2 j w (by simpa using hj)
      exact ⟨t', by rw [e]; simp⟩
    · simpa using hl
end K7E
end
/-! ## P3 -/
section
open PySem PySem.Spec PyProof.Rows L2
namespace K7L
theorem hu65 {k : Nat} {A : Around} (hr : Room k A) : A.units + 65 < cLine := by have := hr.un; omega
end K7L
namespace K7
abbrev N__law_land : List Str := ["_law_hand_here", "_law_n", "_law_names", "_law_left", "_law_k", "_law_couples", "_law_high", "_law_low", "_law_rows", "_law_a", "_law_b", "_law_lots_here", "_law_lot"]
abbrev s__law_land : Stmt := topS 34
theorem sc__law_land : FnScope ["_law_hand_here", "_law_n", "_law_names", "_law_left", "_law_k", "_law_couples", "_law_high", "_law_low", "_law_rows", "_law_a", "_law_b", "_law_lots_here", "_law_lot"] ["_law_hand_here", "_law_n"] (defScope s__law_land) := ⟨rfl, rfl, rfl, by decide +kernel, rfl, by decide +kernel, by decide +kernel⟩
/-! ### what stays -/
def notHand : List V → Bool
  | [.ref _, .int _, .int _, .int _] => false
  | _ => true
theorem notHand_strs : ∀ ss : List Str, notHand (ss.map V.str) = true
  | [] => rfl
  | [_] => rfl
  | [_, _] => rfl
  | [_, _, _] => rfl
  | [_, _, _, _] => rfl
  | _ :: _ :: _ :: _ :: _ :: _ => rfl
theorem notHand_len : ∀ xs : List V, xs.length ≠ 4 → notHand xs = true
  | [], _ => rfl
  | [_], _ => by unfold notHand; split <;> first | rfl | (rename_i h; cases h)
  | [_, _], _ => by unfold notHand; split <;> first | rfl | (rename_i h; cases h)
  | [_, _, _], _ => by unfold notHand; split <;> first | rfl | (rename_i h; cases h)
  | [_, _, _, _], h => absurd rfl h
  | _ :: _ :: _ :: _ :: _ :: _, _ => by unfold notHand; split <;> first | rfl | (rename_i h; cases h)
/-- all but the hand at h is as it was, and the hand is a hand -/
structure Stay (h c : Addr) (H H' : Hp) : Prop where
  but : But h H H'
  hand0 : Hand H h c
  hand : Hand H' h c
theorem Stay.of_same {h c : Addr} {H H' : Hp} (hh : Hand H h c) (e : Same H H') : Stay h c H H' := ⟨fun b o _ z => e b o z, hh, hh.same e⟩
theorem Stay.of_drawn {h c : Addr} {H H' : Hp} (hh : Hand H h c) (d : Drawn H H' h c) : Stay h c H H' := ⟨fun b o nb z => by rw [d.but b nb]; exact z, hh, d.hand⟩
theorem Stay.trans {h c : Addr} {H H' H'' : Hp} (x : Stay h c H H') (y : Stay h c H' H'') : Stay h c H H'' := ⟨fun b o nb z => y.but b o nb (x.but b o nb z), x.hand0, y.hand⟩
theorem Stay.same {h c : Addr} {H H' H'' : Hp} (x : Stay h c H H') (e : Same H' H'') : Stay h c H H'' := x.trans (.of_same x.hand e)
theorem Stay.drawn {h c : Addr} {H H' H'' : Hp} (x : Stay h c H H') (e : Drawn H' H'' h c) : Stay h c H H'' := x.trans (.of_drawn x.hand e)
theorem Hand.nel {h c b : Addr} {H : Hp} {xs : List V} (hh : Hand H h c) (hb : H b = some (.lst xs)) (hx : notHand xs = true) : b ≠ h := by
  intro e
  subst e
  obtain ⟨ns, i, x, t, h1, _, _⟩ := hh
  rw [hb] at h1
  injection h1 with h1
  unfold HandO at h1
  injection h1 with h1
  subst h1
  cases hx
theorem Hand.nei {h c b C dx : Addr} {H : Hp} {fs : List (Str × V)} (hh : Hand H h c) (hb : H b = some (.ins C dx fs)) : b ≠ h := by
  intro e
  subst e
  obtain ⟨ns, i, x, t, h1, _, _⟩ := hh
  rw [hb] at h1
  cases h1
theorem Hand.net {h c b : Addr} {H : Hp} {xs : List V} (hh : Hand H h c) (hb : H b = some (.tup xs)) : b ≠ h := by
  intro e
  subst e
  obtain ⟨ns, i, x, t, h1, _, _⟩ := hh
  rw [hb] at h1
  cases h1
theorem Hand.ned {h c b : Addr} {H : Hp} {kvs : List (Key × V)} (hh : Hand H h c) (hb : H b = some (.dK kvs)) : b ≠ h := by
  intro e
  subst e
  obtain ⟨ns, i, x, t, h1, _, _⟩ := hh
  rw [hb] at h1
  cases h1
section
variable {h c : Addr} {H H' : Hp}
theorem Stay.lst {b : Addr} {xs : List V} (x : Stay h c H H') (hb : H b = some (.lst xs)) (hx : notHand xs = true) : H' b = some (.lst xs) := x.but b _ (x.hand0.nel hb hx) hb
theorem Stay.row {b : Addr} {ss : List Str} (x : Stay h c H H') (hb : H b = some (.lst (ss.map V.str))) : H' b = some (.lst (ss.map V.str)) := x.lst hb (notHand_strs ss)
end
theorem map_erase {α β : Type} (f : α → β) : ∀ (l : List α) (j : Nat), (l.map f).eraseIdx j = (l.eraseIdx j).map f
  | [], _ => rfl
  | x :: l, 0 => rfl
  | x :: l, j + 1 => congrArg (f x :: ·) (map_erase f l j)
theorem ixN_nat {n i : Nat} (h : i < n) : ixN n (i : Int) = some i := by
  have e : (List.range n)[i]? = some i := by rw [List.getElem?_range h]
  have := atI_nat e
  unfold atI at this
  rw [List.length_range] at this
  cases q : ixN n (i : Int) with
  | none => rw [q] at this; cases this
  | some j =>
    rw [q] at this
    have h2 : (List.range n)[j]? = some i := this
    rw [List.getElem?_eq_some_iff] at h2
    obtain ⟨h3, h4⟩ := h2
    rw [List.getElem_range] at h4
    rw [h4]
section
variable {P : Program} {w : World} {K : PySem.W.Frag} {mg : Str → Option Value} {base : Heap}
def rLen_ (K : PySem.W.Frag) : List V → Hp → VK → Prop := fun xs H Q => ∃ p ys, xs = [.ref p] ∧ (SqL K H p ys ∨ SqT K H p ys) ∧ Q (.int ys.length) H
def pairs (es : List (Nat × Nat)) : List (List Nat) := es.map fun e => [e.1, e.2]
/-- couples before the cells have their names: each cell below m hangs on a lower one -/
structure Tree (n m : Nat) (cs : List (Nat × Nat)) : Prop where
  lt : ∀ e ∈ cs, e.2 < e.1 ∧ e.1 < m ∧ e.1 < n
  nd : cs.Nodup
  low : ∀ k, 0 < k → k < m → ∃ d, d < k ∧ (k, d) ∈ cs
theorem Tree.nil (n : Nat) : Tree n 1 [] := ⟨fun e h => (nomatch h), List.nodup_nil, fun k h0 h1 => by omega⟩
theorem Tree.add {n k j : Nat} {cs : List (Nat × Nat)} (t : Tree n (k + 1) cs) (hk : k + 1 < n) (hj : j < k + 1) : Tree n (k + 1 + 1) (cs ++ [(k + 1, j)]) := by
  refine ⟨fun e h => ?_, ?_, fun x x0 x1 => ?_⟩
  · rcases List.mem_append.mp h with q | q
    · obtain ⟨a, b, c⟩ := t.lt e q
      exact ⟨a, by omega, c⟩
    · rw [List.mem_singleton.mp q]
      exact ⟨hj, by show k + 1 < k + 1 + 1; omega, hk⟩
  · rw [List.nodup_append]
    refine ⟨t.nd, by simp, fun a ha b hb => ?_⟩
    rw [List.mem_singleton.mp hb]
    intro z
    rw [z] at ha
    have := (t.lt _ ha).2.1
    simp only at this
    omega
  · by_cases z : x = k + 1
    · exact ⟨j, by omega, List.mem_append_right _ (by rw [z]; exact List.mem_singleton.mpr rfl)⟩
    · obtain ⟨d, d1, d2⟩ := t.low x x0 (by omega)
      exact ⟨d, d1, List.mem_append_left _ d2⟩
theorem Tree.more {n a b : Nat} {cs : List (Nat × Nat)} (t : Tree n n cs) (h1 : b < a) (h2 : a < n) (h3 : (a, b) ∉ cs) : Tree n n (cs ++ [(a, b)]) := by
  refine ⟨fun e h => ?_, ?_, fun x x0 x1 => ?_⟩
  · rcases List.mem_append.mp h with q | q
    · exact t.lt e q
    · rw [List.mem_singleton.mp q]
      exact ⟨h1, h2, h2⟩
  · rw [List.nodup_append]
    refine ⟨t.nd, by simp, fun x hx y hy => ?_⟩
    rw [List.mem_singleton.mp hy]
    intro z
    exact h3 (z ▸ hx)
  · obtain ⟨d, d1, d2⟩ := t.low x x0 x1
    exact ⟨d, d1, List.mem_append_left _ d2⟩
/-! ### couples as data -/
theorem dp_pair {K : PySem.W.Frag} {H : Hp} (k j : Nat) : DpAll K H [.int (2 + (k : Nat)), .int (0 + (j : Nat))] [.int ((2 + k : Nat) : Int), .int (j : Nat)] := by
  rw [show (2 : Int) + (k : Nat) = ((2 + k : Nat) : Int) by omega, Int.zero_add]
  exact .cons (.int _) (.cons (.int _) .nil)
theorem dp_rows {K : PySem.W.Frag} {H : Hp} : ∀ {ts : List Addr} {ls : List (List Nat)}, TAt H ts ls → DpAll K H (ts.map V.ref) (ls.map intD)
  | _, _, .nil => .nil
  | _, _, .cons h r => .cons (.tup (.inl (.inl h)) (dp_ints _)) (dp_rows r)
theorem shaped_rows (ls : List (List Nat)) : SeqAt.shaped (.list (ls.map intD)) = true := by
  have h1 : ∀ l : List Nat, PyData.canLay0 (intD l) = true ∧ PyData.depth (intD l) ≤ 1 := fun l => by
    have z := shaped_ints l
    have z : ((PyData.canLay0 (intD l)) && decide (PyData.depth (intD l) ≤ 64)) = true := z
    refine ⟨(Bool.and_eq_true_iff.mp z).1, ?_⟩
    have : ∀ l : List Nat, PyData.depthAll (l.map fun c => PyData.int (c : Nat)) = 0 := fun l => by
      induction l with
      | nil => simp [PyData.depthAll]
      | cons x r ih => simp [PyData.depthAll, PyData.depth, ih]
    simp [intD, PyData.depth, this l]
  have h2 : ∀ ls : List (List Nat), PyData.canLayAll0 (ls.map intD) = true ∧ PyData.depthAll (ls.map intD) ≤ 1 := fun ls => by
    induction ls with
    | nil => exact ⟨by simp [PyData.canLayAll0], by simp [PyData.depthAll]⟩
    | cons x r ih =>
      refine ⟨by simp [PyData.canLayAll0, (h1 x).1, ih.1], ?_⟩
      rw [List.map_cons, PyData.depthAll]
      exact Nat.max_le.mpr ⟨(h1 x).2, ih.2⟩
  show ((PyData.canLay0 (.list (ls.map intD))) && decide (PyData.depth (.list (ls.map intD)) ≤ 64)) = true
  have d : PyData.depth (.list (ls.map intD)) ≤ 64 := by
    rw [PyData.depth]
    have := (h2 ls).2
    omega
  simp [PyData.canLay0, (h2 ls).1, d]
theorem any_rows (cs : List (Nat × Nat)) (a b : Nat) : ((pairs cs).map intD).any (fun z => PyData.eqv z (intD [a, b])) = decide ((a, b) ∈ cs) := by
  induction cs with
  | nil => rfl
  | cons e cs ih =>
    show (PyData.eqv (intD [e.1, e.2]) (intD [a, b]) || ((pairs cs).map intD).any (fun z => PyData.eqv z (intD [a, b]))) = _
    rw [ih]
    have h : PyData.eqv (intD [e.1, e.2]) (intD [a, b]) = decide (e = (a, b)) := by
      obtain ⟨x, y⟩ := e
      simp [intD, PyData.eqv, PyData.eqvAll]
      by_cases z1 : x = a <;> by_cases z2 : y = b <;> simp [z1, z2] <;> omega
    rw [h]
    by_cases z : e = (a, b)
    · simp [z]
    · have z2 : ¬ (a, b) = e := fun q => z q.symm
      simp [z, z2]
structure LandOk (n : Nat) (es : List (Nat × Nat)) : Prop where
  lt : ∀ e ∈ es, e.1 < e.2 ∧ e.2 < n
  nd : es.Nodup
  sorted : es.Pairwise fun a b => a.1 < b.1 ∨ (a.1 = b.1 ∧ a.2 ≤ b.2)
  conn : KL.Conn n es
structure LandOk0 (n : Nat) (es : List (Nat × Nat)) : Prop where
  lt : ∀ e ∈ es, e.1 < e.2 ∧ e.2 < n
  nd : es.Nodup
  conn : KL.Conn n es
theorem tree_land {n : Nat} {nm : List Nat} {cs : List (Nat × Nat)} (hp : nm.Perm (List.range n)) (t : Tree n n cs) : LandOk0 n (cs.map fun e => KL.couple nm e.1 e.2) := by
  have nd : nm.Nodup := hp.nodup_iff.mpr List.nodup_range
  have hl : nm.length = n := by rw [hp.length_eq, List.length_range]
  refine ⟨fun e he => ?_, ?_, ?_⟩
  · obtain ⟨x, hx, rfl⟩ := List.mem_map.mp he
    obtain ⟨t1, t2, t3⟩ := t.lt x hx
    have m1 := KL.couple_mem hp (a := x.1) t3
    have m2 := KL.couple_mem hp (a := x.2) (by omega)
    have ne : nm.getD x.1 0 ≠ nm.getD x.2 0 := by
      intro z
      rw [List.getD_eq_getElem?_getD, List.getD_eq_getElem?_getD, List.getElem?_eq_getElem (by omega), List.getElem?_eq_getElem (by omega)] at z
      have := (List.getElem_inj nd).mp z
      omega
    show min _ _ < max _ _ ∧ max _ _ < n
    omega
  · rw [List.nodup_iff_pairwise_ne, List.pairwise_map]
    refine (List.nodup_iff_pairwise_ne.mp t.nd).imp_of_mem fun {a b} ha hb hab z => ?_
    obtain ⟨a1, a2, a3⟩ := t.lt a ha
    obtain ⟨b1, b2, b3⟩ := t.lt b hb
    exact hab (KL.couple_inj hp a1 a3 b1 b3 z)
  · refine KL.conn_tree hp fun k k0 k1 => ?_
    obtain ⟨d, d1, d2⟩ := t.low k k0 k1
    exact ⟨d, d1, List.mem_map.mpr ⟨(k, d), d2, rfl⟩⟩
/-- the two numbers of a couple's tuple -/
def kfOf (H : Hp) : V → Int × Int
  | .ref a => (match H a with | some (.tup [.int i, .int j]) => (i, j) | _ => (0, 0))
  | _ => (0, 0)
def gOf (H : Hp) (x : V) : Nat × Nat := ((kfOf H x).1.toNat, (kfOf H x).2.toNat)
theorem kf_at {H : Hp} {a : Addr} {x y : Nat} (h : H a = some (.tup [.int (x : Nat), .int (y : Nat)])) : kfOf H (.ref a) = ((x : Int), (y : Int)) := by
  unfold kfOf
  simp only [h]
theorem g_at {H : Hp} {a : Addr} {e : Nat × Nat} (h : H a = some (.tup [.int (e.1 : Nat), .int (e.2 : Nat)])) : gOf H (.ref a) = e := by
  unfold gOf
  rw [kf_at h]
  rfl
theorem g_map {H : Hp} : ∀ {us : List Addr} {es : List (Nat × Nat)}, TAt H us (pairs es) → (us.map V.ref).map (gOf H) = es
  | [], [], _ => rfl
  | _ :: _, [], h => nomatch h
  | [], _ :: _, h => nomatch h
  | u :: us, e :: es, .cons h r => by
    show gOf H (.ref u) :: (us.map V.ref).map (gOf H) = _
    rw [g_at h, g_map r]
theorem g_mem {H : Hp} {us : List Addr} {es : List (Nat × Nat)} (t : TAt H us (pairs es)) : ∀ x ∈ us.map V.ref, ∃ (a : Addr) (e : Nat × Nat), x = V.ref a ∧ H a = some (.tup [.int (e.1 : Nat), .int (e.2 : Nat)]) := by
  intro x hx
  obtain ⟨a, ha, rfl⟩ := List.mem_map.mp hx
  obtain ⟨i, hi, e⟩ := List.mem_iff_getElem.mp ha
  obtain ⟨l, el, hl⟩ := t.get (i := i) (t := a) (by rw [List.getElem?_eq_getElem hi, e])
  unfold pairs at el
  rw [List.getElem?_map] at el
  obtain ⟨ab, eab, rfl⟩ := Option.map_eq_some_iff.mp el
  exact ⟨a, ab, rfl, hl⟩
theorem tat_of {H : Hp} : ∀ ys : List V, (∀ x ∈ ys, ∃ (a : Addr) (e : Nat × Nat), x = V.ref a ∧ H a = some (.tup [.int (e.1 : Nat), .int (e.2 : Nat)])) → ∃ ts, ys = ts.map V.ref ∧ TAt H ts (pairs (ys.map (gOf H)))
  | [], _ => ⟨[], rfl, .nil⟩
  | y :: ys, h => by
    obtain ⟨a, e, rfl, ha⟩ := h y List.mem_cons_self
    obtain ⟨ts, rfl, t⟩ := tat_of ys fun x hx => h x (List.mem_cons_of_mem _ hx)
    refine ⟨a :: ts, rfl, ?_⟩
    show TAt H (a :: ts) ([(gOf H (.ref a)).1, (gOf H (.ref a)).2] :: _)
    rw [g_at ha]
    exact .cons ha t
theorem sorted_of {H : Hp} : ∀ ys : List V, (∀ x ∈ ys, ∃ (a : Addr) (e : Nat × Nat), x = V.ref a ∧ H a = some (.tup [.int (e.1 : Nat), .int (e.2 : Nat)])) → SrtO.Srtd (ltP (kfOf H)) ys → (ys.map (gOf H)).Pairwise fun a b => a.1 < b.1 ∨ (a.1 = b.1 ∧ a.2 ≤ b.2) := by
  intro ys h s
  rw [List.pairwise_map]
  refine List.Pairwise.imp_of_mem (fun {x y} hx hy q => ?_) s
  obtain ⟨a, e, rfl, ha⟩ := h x hx
  obtain ⟨b, e', rfl, hb⟩ := h y hy
  rw [g_at ha, g_at hb]
  have q : SrtO.lexB (kfOf H (.ref b)) (kfOf H (.ref a)) = false := q
  rw [kf_at ha, kf_at hb] at q
  have z : ¬ ((e'.1 : Int) < e.1 ∨ ((e'.1 : Int) = e.1 ∧ (e'.2 : Int) < e.2)) := fun z => by
    rw [SrtO.lexB_iff.mpr z] at q
    cases q
  omega
theorem Stay.free {h c b : Addr} {H H' : Hp} (y : Stay h c H H') (n : H' b = none) : H b = none := by
  cases z : H b with
  | none => rfl
  | some o =>
    by_cases e : b = h
    · subst e
      obtain ⟨ns, i, x, t, h1, _, _⟩ := y.hand
      rw [h1] at n
      cases n
    · rw [y.but b o e z] at n
      cases n
theorem lots_some : ∀ n : Fin 6, 2 ≤ n.val → ((lotsTo (List.range n.val) n.val).filter fun l => decide (0 < l.length) && decide (l.length < n.val)).length ≠ 4 ∧ 0 < ((lotsTo (List.range n.val) n.val).filter fun l => decide (0 < l.length) && decide (l.length < n.val)).length ∧
    ((lotsTo (List.range n.val) n.val).filter fun l => decide (0 < l.length) && decide (l.length < n.val)).length ≤ 32 := by decide +kernel
/-- a drawn land: its number of cells, its couples, its roads -/
structure LandAt (H : Hp) (q : Addr) (n : Nat) (es : List (Nat × Nat)) (lot : List Nat) : Prop where
  at_ : ∃ rA sA ts, H q = some (.tup [.int (n : Nat), .ref rA, .ref sA]) ∧ H rA = some (.lst (ts.map V.ref)) ∧ TAt H ts (pairs es) ∧ H sA = some (.lst (ints_ lot))
  ok : LandOk n es
  lot : lot ∈ lotsTo (List.range n) n ∧ 0 < lot.length ∧ lot.length < n
def spLand : Sp := fun vs H Q _ => ∃ (h c : Addr) (n : Nat), vs = [.ref h, .int (n : Nat)] ∧ Hand H h c ∧ 2 ≤ n ∧ n ≤ 5 ∧ ∀ H' q es lot, Stay h c H H' → H q = none → LandAt H' q n es lot → Q (.ref q) H'
theorem ok_land {f fdr fpk flo : Addr} {fd fddr fdpk fdlo : FuncData} (F : Fun K "_law_land" "_law_land" s__law_land f fd)
    (Gdr : FnOk P w K mg base CX0 2 fdr fddr ["_law_hand_here", "_law_many"] spDraw) (gdr : mg "_law_draw" = some (.ref fdr)) (kdr : PySem.W.keepIn K (.ref fdr) = true) (bdr : Binds K fddr ["_law_hand_here", "_law_many"] [])
    (Gpk : FnOk P w K mg base CX0 3 fpk fdpk ["_law_hand_here", "_law_things"] spPick) (gpk : mg "_law_pick" = some (.ref fpk)) (kpk : PySem.W.keepIn K (.ref fpk) = true) (bpk : Binds K fdpk ["_law_hand_here", "_law_things"] [])
    (Glo : FnOk P w K mg base CX0 1 flo fdlo ["_law_cells"] spLots) (glo : mg "_law_lots" = some (.ref flo)) (klo : PySem.W.keepIn K (.ref flo) = true) (blo : Binds K fdlo ["_law_cells"] [])
    (m_range : mg "range" = none) (m_len : mg "len" = none) (m_list : mg "list" = none) (m_min : mg "min" = none) (m_max : mg "max" = none) (m_sorted : mg "sorted" = none) :
    FnOk P w K mg base CX0 4 f fd ["_law_hand_here", "_law_n"] spLand := by
  refine F.ok sc__law_land (fun vs H Q E h => ?_) (fun cdv A outer s H vs Q E hr h => ?_)
  · obtain ⟨h, c, n, rfl, _⟩ := h
    rfl
  · obtain ⟨h, c, n, rfl, hh, n2, n5, q⟩ := h
    refine ⟨_, (pss_cons (ps_set (i := 2) sc__law_land.nd rfl (by first | exact Or.inl rfl | exact Or.inr rfl) (pe_lst pa_nil))
 (pss_cons (ps_set (i := 3) sc__law_land.nd rfl (by first | exact Or.inl rfl | exact Or.inr rfl) (pe_callTy (K7E.cr_list_rng rfl) (by rfl) m_list boot_list (pa_cons (pe_callTy K7E.cr_range1 (by rfl) m_range boot_range (pa_cons (pv 1) pa_nil)) pa_nil)))
 (Evl.pss_cut (ps_for PassesOwn.never rfl (pi_range1 rfl m_range (pa_cons (pv 1) pa_nil)) (pg_name (i := 4) sc__law_land.nd rfl (by first | exact Or.inl rfl | exact Or.inr rfl))
  (pss_one (ps_expr (pe_bm PySem.F.plainAttrs_list PySem.F.slot_list_append PySem.F.type_list_append mt_append (pv 2) (pa_cons (pe_bm PySem.F.plainAttrs_list PySem.F.slot_list_pop PySem.F.type_list_pop mt_popAt (pv 3) (pa_cons (pe_call Gdr (hr.mono (by decide)) (by rfl) gdr kdr bdr .nil pass0 (pa_cons (pv 0) (pa_cons (pe_callB call_len_seq (by rfl) m_len boot_len (pa_cons (pv 3) pa_nil)) pa_nil))) pa_nil)) pa_nil)))))
 (pss_cons (ps_set (i := 5) sc__law_land.nd rfl (by first | exact Or.inl rfl | exact Or.inr rfl) (pe_lst pa_nil))
 (Evl.pss_cut (ps_for PassesOwn.never rfl (pi_range2 rfl m_range (pa_cons pe_int (pa_cons (pv 1) pa_nil))) (pg_name (i := 4) sc__law_land.nd rfl (by first | exact Or.inl rfl | exact Or.inr rfl))
  (pss_one (ps_expr (pe_bm PySem.F.plainAttrs_list PySem.F.slot_list_append PySem.F.type_list_append mt_append (pv 5) (pa_cons (pe_tup (pa_cons (pv 4) (pa_cons (pe_call Gdr (hr.mono (by decide)) (by rfl) gdr kdr bdr .nil pass0 (pa_cons (pv 0) (pa_cons (pv 4) pa_nil))) pa_nil))) pa_nil)))))
 (Evl.pss_cut (ps_for PassesOwn.never rfl (pi_range2 rfl m_range (pa_cons pe_int (pa_cons (pv 1) pa_nil))) (pg_name (i := 6) sc__law_land.nd rfl (by first | exact Or.inl rfl | exact Or.inr rfl))
  (pss_one (ps_for PassesOwn.never rfl (pi_range1 rfl m_range (pa_cons (pv 6) pa_nil)) (pg_name (i := 7) sc__law_land.nd rfl (by first | exact Or.inl rfl | exact Or.inr rfl))
  (pss_one (ps_if (pw_and (pt_cmpR (op_notInD (K7L.hu65 hr)) (pe_tup (pa_cons (pv 6) (pa_cons (pv 7) pa_nil))) (pv 5) (by with_unfolding_all rfl)) (pw_and1 (pt_cmpR op_eq (pe_call Gdr (hr.mono (by decide)) (by rfl) gdr kdr bdr .nil pass0 (pa_cons (pv 0) (pa_cons pe_int pa_nil))) pe_int (nomark _)))).pt
  (pss_one (ps_expr (pe_bm PySem.F.plainAttrs_list PySem.F.slot_list_append PySem.F.type_list_append mt_append (pv 5) (pa_cons (pe_tup (pa_cons (pv 6) (pa_cons (pv 7) pa_nil))) pa_nil))))
  pss_nil)))))
 (pss_cons (ps_setLc (i := 8) (own := [("_law_a", 9), ("_law_b", 10)]) (g := gTup K 2 (gCons (gName 9) (gCons (gName 10) (gNil)))) (tt := tYes) rfl sc__law_land.nd rfl rfl (sw_true rfl rfl rfl (by decide +kernel)) (pi_list (pv 5)) (blkOk_by (own := [("_law_a", 9), ("_law_b", 10)]) (N := N__law_land) (sc := defScope s__law_land) (by decide +kernel)) (fun _ _ _ _ _ => (pg_tup rfl (pgs_cons (pg_name (i := 9) sc__law_land.nd rfl (by first | exact Or.inl rfl | exact Or.inr rfl)) (pgs_cons (pg_name (i := 10) sc__law_land.nd rfl (by first | exact Or.inl rfl | exact Or.inr rfl)) pgs_nil)))) (fun _ _ _ _ _ => pts_nil) (fun _ _ _ _ _ => (pe_tup (pa_cons (pe_callB (call_min2 rfl) (by rfl) m_min boot_min (pa_cons (pe_ix (show IxR _ (rIxL K) from ix_list) (pv 2) (pv 9) (fun _ _ => rfl)) (pa_cons (pe_ix (show IxR _ (rIxL K) from ix_list) (pv 2) (pv 10) (fun _ _ => rfl)) pa_nil))) (pa_cons (pe_callB (call_max2 rfl) (by rfl) m_max boot_max (pa_cons (pe_ix (show IxR _ (rIxL K) from ix_list) (pv 2) (pv 9) (fun _ _ => rfl)) (pa_cons (pe_ix (show IxR _ (rIxL K) from ix_list) (pv 2) (pv 10) (fun _ _ => rfl)) pa_nil))) pa_nil)))))
 (pss_cons (ps_setLc (i := 11) (own := [("_law_lot", 12)]) (g := gName 12) rfl sc__law_land.nd rfl rfl (sw_true rfl rfl rfl (by decide +kernel)) (pi_list (pe_call Glo (hr.mono (by decide)) (by rfl) glo klo blo .nil pass0 (pa_cons (pe_callTy (K7E.cr_list_rng rfl) (by rfl) m_list boot_list (pa_cons (pe_callTy K7E.cr_range1 (by rfl) m_range boot_range (pa_cons (pv 1) pa_nil)) pa_nil)) pa_nil))) (blkOk_by (own := [("_law_lot", 12)]) (N := N__law_land) (sc := defScope s__law_land) (by decide +kernel)) (fun _ _ _ _ _ => (pg_name (i := 12) sc__law_land.nd rfl (by first | exact Or.inl rfl | exact Or.inr rfl))) (fun _ _ _ _ _ => (pts_one (pt_chain op_lt op_lt pe_int (pe_callB (show CallR _ (.builtin "len") (rLen_ K) from call_len_seq) (by rfl) m_len boot_len (pa_cons (pv 12) pa_nil)) (pv 1)))) (fun _ _ _ _ _ => (pv 12)))
 (pss_one (ps_ret (pe_tup (pa_cons (pv 1) (pa_cons (pe_callB cr_sortedPO (by rfl) m_sorted boot_sorted (pa_cons (pv 8) pa_nil)) (pa_cons (pe_callTy call_list_of (by rfl) m_list boot_list (pa_cons (pe_call Gpk (hr.mono (by decide)) (by rfl) gpk kpk bpk .nil pass0 (pa_cons (pv 0) (pa_cons (pv 11) pa_nil))) pa_nil)) pa_nil)))))))))))))), ?_⟩
    have l10 : ∀ {xs : List Nat} {k : Nat}, xs.length ≤ k → k ≤ 1000 → (ints_ xs).length < sizeLine := fun {xs k} h1 h2 => by
      unfold ints_; rw [List.length_map]; exact small1000 (Nat.le_trans h1 h2)
    refine ⟨by show 0 ≤ sizeLine; decide, fun N0 nN => ?_⟩
    refine ⟨_, rfl, _, rfl, fun rg nrg => ?_⟩
    refine ⟨rg, n, rfl, upd_same, by omega, fun Lf nLf => ?_⟩
    have e1 : Same H (upd H N0 (.lst [])) := same_new (Same.refl H) nN
    have e2 : Same H (upd (upd H N0 (.lst [])) rg (.rng 0 n)) := same_new e1 nrg
    have e3 : Same H (upd (upd (upd H N0 (.lst [])) rg (.rng 0 n)) Lf (.lst (K7E.upTo n))) := same_new e2 nLf
    have hN3 : upd (upd (upd H N0 (.lst [])) rg (.rng 0 n)) Lf (.lst (K7E.upTo n)) N0 = some (.lst []) := same_new (Same.refl _) nLf _ _ (same_new (Same.refl _) nrg _ _ upd_same)
    have hL3 : upd (upd (upd H N0 (.lst [])) rg (.rng 0 n)) Lf (.lst (K7E.upTo n)) Lf = some (.lst (ints_ (List.range n))) := upd_same
    have fN : H N0 = none := nN
    have fL : H Lf = none := e2.free nLf
    have nNL : N0 ≠ Lf := ne_of_none (same_new (o := .rng 0 n) (Same.refl _) nrg _ _ upd_same) nLf
    obtain ⟨hNh, hNc⟩ := hh.ne fN
    obtain ⟨hLh, hLc⟩ := hh.ne fL
    generalize upd (upd (upd H N0 (.lst [])) rg (.rng 0 n)) Lf (.lst (K7E.upTo n)) = H3 at e3 hN3 hL3 ⊢
    refine ⟨fun σ' H' => ∃ nm y4, σ' = [some (.ref h), some (.int (n : Nat)), some (.ref N0), some (.ref Lf), y4, none, none, none, none, none, none, none, none] ∧ Stay h c H H' ∧ H' N0 = some (.lst (ints_ nm)) ∧ nm.Perm (List.range n), ?_, ?_⟩
    · refine ⟨_, rfl, _, rfl, by omega, by omega, for_range (fun k σ' H' => k ≤ n ∧ ∃ nm lf y4, σ' = [some (.ref h), some (.int (n : Nat)), some (.ref N0), some (.ref Lf), y4, none, none, none, none, none, none, none, none] ∧ Stay h c H H' ∧ H' N0 = some (.lst (ints_ nm)) ∧ H' Lf = some (.lst (ints_ lf)) ∧ (nm ++ lf).Perm (List.range n) ∧ nm.length = k)
        ⟨Nat.zero_le _, [], List.range n, none, rfl, .of_same hh e3, hN3, hL3, List.Perm.refl _, rfl⟩ (fun k σ' H' hk pv => ?_) (fun σ' H' pv => ?_)⟩
      · obtain ⟨_, nm, lf, y4, rfl, st, hN, hL, hp, hl⟩ := pv
        have hk : k < n := by simpa using hk
        have hll : lf.length = n - k := by
          have := hp.length_eq
          rw [List.length_append, List.length_range] at this
          omega
        have hil : (ints_ lf).length = lf.length := by unfold ints_; rw [List.length_map]
        refine ⟨_, rfl, .inl ⟨rfl, _, .inl (.inl hN)⟩, _, rfl, .inl ⟨rfl, _, .inl (.inl hL)⟩, _, rfl, _, rfl, Lf, _, rfl, .inl (.inl (.inl hL)), h, c, _, rfl, st.hand, by omega, ?_, fun H4 x d x0 x1 => ?_⟩
        · exact Int.lt_of_le_of_lt (show (((ints_ lf).length : Nat) : Int) ≤ 1000 by omega) (by decide)
        obtain ⟨j, rfl⟩ : ∃ j : Nat, x = (j : Int) := ⟨x.toNat, by omega⟩
        have hj : j < lf.length := by omega
        have hN4 : H4 N0 = some (.lst (ints_ nm)) := by rw [d.but N0 hNh]; exact hN
        have hL4 : H4 Lf = some (.lst (ints_ lf)) := by rw [d.but Lf hLh]; exact hL
        refine ⟨Lf, _, _, j, .int (lf[j] : Nat), rfl, rfl, hL4, by omega, by omega, (ixN_seq (ixN_nat (by omega))).1, ?_, ?_⟩
        · unfold ints_
          rw [List.getElem?_map, List.getElem?_eq_getElem hj]
          rfl
        have hN5 : upd H4 Lf (.lst ((ints_ lf).eraseIdx j)) N0 = some (.lst (ints_ nm)) := by rw [upd_ne nNL]; exact hN4
        refine ⟨N0, _, _, rfl, rfl, hN5, l10 (Nat.le_of_eq hl) (by omega), ?_⟩
        refine ⟨by omega, nm ++ [lf[j]], lf.eraseIdx j, _, rfl, ⟨fun b o nb hb => ?_, hh, ((d.hand.upd hLh hLc).upd hNh hNc)⟩, ?_, ?_, (KL.pop_perm hj).trans hp, by rw [List.length_append, hl]; rfl⟩
        · rw [upd_ne (ne_of_none hb fN), upd_ne (ne_of_none hb fL), d.but b nb]
          exact st.but b o nb hb
        · rw [upd_same]
          unfold ints_
          rw [List.map_append]
          rfl
        · rw [upd_ne nNL.symm, upd_same]
          unfold ints_
          rw [map_erase]
      · obtain ⟨_, nm, lf, y4, rfl, st, hN, hL, hp, hl⟩ := pv
        have hl : nm.length = n := by simpa using hl
        have l0 : lf = [] := by
          have := hp.length_eq
          rw [List.length_append, List.length_range] at this
          exact List.length_eq_zero_iff.mp (by omega)
        subst l0
        rw [List.append_nil] at hp
        exact ⟨nm, y4, rfl, st, hN, hp⟩
    rintro _ H4 ⟨nm, y4, rfl, st4, hN, hp⟩
    -- the tree
    refine ⟨by show 0 ≤ sizeLine; decide, fun C0 nC => ?_⟩
    have hC5 : upd H4 C0 (.lst []) C0 = some (.lst []) := upd_same
    have hN5 : upd H4 C0 (.lst []) N0 = some (.lst (ints_ nm)) := by rw [upd_ne (ne_of_none hN nC)]; exact hN
    obtain ⟨hCh, hCc⟩ := st4.hand.ne nC
    have st5 := st4.same (same_new (o := .lst []) (Same.refl H4) nC)
    have fC : H C0 = none := by
      cases z : H C0 with
      | none => rfl
      | some o =>
        have h1 := st4.but C0 o hCh z
        rw [nC] at h1
        cases h1
    have nNC : N0 ≠ C0 := ne_of_none hN nC
    generalize upd H4 C0 (.lst []) = H5 at hC5 hN5 st5 ⊢
    refine ⟨fun σ' H' => ∃ ts cs y4, σ' = [some (.ref h), some (.int (n : Nat)), some (.ref N0), some (.ref Lf), y4, some (.ref C0), none, none, none, none, none, none, none] ∧ Stay h c H H' ∧ H' N0 = some (.lst (ints_ nm)) ∧ H' C0 = some (.lst (ts.map V.ref)) ∧ TAt H' ts (pairs cs) ∧ Tree n n cs ∧ cs.length ≤ 10, ?_, ?_⟩
    · refine ⟨_, rfl, 1, _, rfl, ⟨by decide, by decide, by omega, by omega⟩, for_range (lo := 1) (fun k σ' H' => k + 1 ≤ n ∧ ∃ ts cs y4, σ' = [some (.ref h), some (.int (n : Nat)), some (.ref N0), some (.ref Lf), y4, some (.ref C0), none, none, none, none, none, none, none] ∧ Stay h c H H' ∧ H' N0 = some (.lst (ints_ nm)) ∧ H' C0 = some (.lst (ts.map V.ref)) ∧ TAt H' ts (pairs cs) ∧ Tree n (k + 1) cs ∧ cs.length = k)
        ⟨by omega, [], [], y4, rfl, st5, hN5, hC5, .nil, Tree.nil n, rfl⟩ (fun k σ' H' hk pv => ?_) (fun σ' H' pv => ?_)⟩
      · obtain ⟨_, ts, cs, y4, rfl, st, hN, hC, tC, tr, hl⟩ := pv
        have hk : k + 1 < n := by omega
        refine ⟨_, rfl, .inl ⟨rfl, _, .inl (.inl hC)⟩, _, rfl, _, rfl, _, rfl, h, c, _, rfl, st.hand, by omega, ?_, fun H6 x d x0 x1 => ?_⟩
        · exact Int.lt_of_le_of_lt (show (1 : Int) + (k : Nat) ≤ 1000 by omega) (by decide)
        obtain ⟨j, rfl⟩ : ∃ j : Nat, x = (j : Int) := ⟨x.toNat, by omega⟩
        have hj : j < k + 1 := by omega
        refine ⟨by show 2 ≤ sizeLine; decide, fun t nt => ?_⟩
        have y6 := (Stay.of_drawn st.hand d).same (same_new (o := .tup [.int (1 + (k : Nat)), .int (j : Nat)]) (Same.refl H6) nt)
        have hC6 := y6.but C0 _ hCh hC
        have hN6 := y6.but N0 _ hNh hN
        have ltx : ts.length = k := by rw [tC.len]; unfold pairs; rw [List.length_map, hl]
        refine ⟨C0, _, _, rfl, rfl, hC6, by rw [List.length_map, ltx]; exact small1000 (by omega), ?_⟩
        have up : ∀ b xs, upd H6 t (.tup [.int (1 + (k : Nat)), .int (j : Nat)]) b = some (.tup xs) → upd (upd H6 t (.tup [.int (1 + (k : Nat)), .int (j : Nat)])) C0 (.lst (ts.map V.ref ++ [.ref t])) b = some (.tup xs) := fun b xs hb => by
          rw [upd_ne (fun z => by rw [z, hC6] at hb; cases hb)]
          exact hb
        have tC6 : TAt (upd H6 t (.tup [.int (1 + (k : Nat)), .int (j : Nat)])) ts (pairs cs) := tC.mono fun b xs hb => y6.but b _ (st.hand.net hb) hb
        refine ⟨by omega, ts ++ [t], cs ++ [(k + 1, j)], _, rfl, ⟨fun b o nb hb => ?_, hh, y6.hand.upd hCh hCc⟩, ?_, ?_, ?_, tr.add hk hj, by rw [List.length_append, hl]; rfl⟩
        · rw [upd_ne (ne_of_none hb fC)]
          exact y6.but b o nb (st.but b o nb hb)
        · rw [upd_ne nNC]; exact hN6
        · rw [upd_same, List.map_append]; rfl
        · unfold pairs
          rw [List.map_append]
          refine (tC6.mono up).append (.cons (up _ _ ?_) .nil)
          rw [upd_same, show (1 : Int) + (k : Nat) = ((k + 1 : Nat) : Int) by omega]
          rfl
      · obtain ⟨hk, ts, cs, y4, rfl, st, hN, hC, tC, tr, hl⟩ := pv
        refine ⟨ts, cs, y4, rfl, st, hN, hC, tC, ?_, by omega⟩
        have e : ((n : Int) - 1).toNat + 1 = n := by omega
        rw [e] at tr
        exact tr
    rintro _ H6 ⟨ts, cs, y4, rfl, st6, hN6, hC6, tC6, tr6, ln6⟩
    -- more couples
    refine ⟨fun σ' H' => ∃ ts cs y6 y7, σ' = [some (.ref h), some (.int (n : Nat)), some (.ref N0), some (.ref Lf), y4, some (.ref C0), y6, y7, none, none, none, none, none] ∧ Stay h c H H' ∧ H' N0 = some (.lst (ints_ nm)) ∧ H' C0 = some (.lst (ts.map V.ref)) ∧ TAt H' ts (pairs cs) ∧ Tree n n cs ∧ cs.length ≤ 60, ?_, ?_⟩
    · refine ⟨_, rfl, 2, _, rfl, ⟨by decide, by decide, by omega, by omega⟩, for_range (lo := 2) (fun k σ' H' => k ≤ 5 ∧ ∃ ts cs y6 y7, σ' = [some (.ref h), some (.int (n : Nat)), some (.ref N0), some (.ref Lf), y4, some (.ref C0), y6, y7, none, none, none, none, none] ∧ Stay h c H H' ∧ H' N0 = some (.lst (ints_ nm)) ∧ H' C0 = some (.lst (ts.map V.ref)) ∧ TAt H' ts (pairs cs) ∧ Tree n n cs ∧ cs.length ≤ 10 + 10 * k)
        ⟨by omega, ts, cs, none, none, rfl, st6, hN6, hC6, tC6, tr6, ln6⟩ (fun k σ' H' hk pv => ?_) (fun σ' H' pv => ?_)⟩
      · obtain ⟨_, ts, cs, y6, y7, rfl, st, hN, hC, tC, tr, ln⟩ := pv
        have hk : 2 + k < n := by omega
        refine ⟨_, rfl, _, rfl, by omega, by omega, for_range (fun j σ' H' => ∃ ts cs y7, σ' = [some (.ref h), some (.int (n : Nat)), some (.ref N0), some (.ref Lf), y4, some (.ref C0), some (.int (2 + (k : Nat))), y7, none, none, none, none, none] ∧ Stay h c H H' ∧ H' N0 = some (.lst (ints_ nm)) ∧ H' C0 = some (.lst (ts.map V.ref)) ∧ TAt H' ts (pairs cs) ∧ Tree n n cs ∧ cs.length ≤ 10 + 10 * k + j)
          ⟨ts, cs, y7, rfl, st, hN, hC, tC, tr, by omega⟩ (fun j σ' H' hj pv => ?_) (fun σ' H' pv => ?_)⟩
        · obtain ⟨ts, cs, y7, rfl, st, hN, hC, tC, tr, ln⟩ := pv
          have hj : j < 2 + k := by omega
          have ltx : ts.length = cs.length := by rw [tC.len]; unfold pairs; rw [List.length_map]
          refine ⟨_, rfl, _, rfl, by show 2 ≤ sizeLine; decide, fun t nt => ?_⟩
          have sT := same_new (o := .tup [.int (2 + (k : Nat)), .int (0 + (j : Nat))]) (Same.refl H') nt
          have stT := st.same sT
          refine ⟨_, rfl, intD [2 + k, j], _, .tup (xs := [.int (2 + (k : Nat)), .int (0 + (j : Nat))]) (.inl (.inl upd_same)) (dp_pair k j), .lst (.inl (.inl (sT _ _ hC))) (dp_rows (tC.same sT)), shaped_ints _, shaped_rows _, ?_⟩
          rw [any_rows]
          refine ⟨_, rfl, ite2 (fun q1 => ?_) (fun q1 => ?_)⟩
          · have hnm : (2 + k, j) ∉ cs := by
              intro z
              rw [decide_eq_true z] at q1
              cases q1
            refine ⟨_, rfl, h, c, _, rfl, stT.hand, by decide, by decide, fun H7 x d x0 x1 => ?_⟩
            have st7 := stT.drawn d
            have hC7 : H7 C0 = some (.lst (ts.map V.ref)) := by rw [d.but C0 hCh]; exact sT _ _ hC
            have hN7 : H7 N0 = some (.lst (ints_ nm)) := by rw [d.but N0 hNh]; exact sT _ _ hN
            have tC7 : TAt H7 ts (pairs cs) := (tC.same sT).mono fun b xs hb => by rw [d.but b (stT.hand.net hb)]; exact hb
            refine ⟨rfl, _, rfl, ite2 (fun q2 => ?_) (fun q2 => ?_)⟩
            · refine ⟨_, rfl, .inl ⟨rfl, _, .inl (.inl hC7)⟩, _, rfl, _, rfl, by show 2 ≤ sizeLine; decide, fun t2 nt2 => ?_⟩
              have sU := same_new (o := .tup [.int (2 + (k : Nat)), .int (0 + (j : Nat))]) (Same.refl H7) nt2
              refine ⟨C0, _, _, rfl, rfl, sU _ _ hC7, by rw [List.length_map, ltx]; exact small1000 (by omega), ?_⟩
              have up : ∀ b xs, upd H7 t2 (.tup [.int (2 + (k : Nat)), .int (0 + (j : Nat))]) b = some (.tup xs) → upd (upd H7 t2 (.tup [.int (2 + (k : Nat)), .int (0 + (j : Nat))])) C0 (.lst (ts.map V.ref ++ [.ref t2])) b = some (.tup xs) := fun b xs hb => by
                rw [upd_ne (fun z => by rw [z, sU _ _ hC7] at hb; cases hb)]
                exact hb
              refine ⟨ts ++ [t2], cs ++ [(2 + k, j)], _, rfl, ⟨fun b o nb hb => ?_, hh, (st7.same sU).hand.upd hCh hCc⟩, ?_, ?_, ?_, tr.more hj hk hnm, by rw [List.length_append, List.length_singleton]; omega⟩
              · rw [upd_ne (ne_of_none hb fC)]
                exact (st7.same sU).but b o nb hb
              · rw [upd_ne nNC]; exact sU _ _ hN7
              · rw [upd_same, List.map_append]; rfl
              · unfold pairs
                rw [List.map_append]
                refine ((tC7.same sU).mono up).append (.cons (up _ _ ?_) .nil)
                rw [upd_same, show (2 : Int) + (k : Nat) = ((2 + k : Nat) : Int) by omega, Int.zero_add]
                rfl
            · exact ⟨ts, cs, _, rfl, st7, hN7, hC7, tC7, tr, by omega⟩
          · exact ⟨ts, cs, _, rfl, stT, sT _ _ hN, sT _ _ hC, tC.same sT, tr, by omega⟩
        · obtain ⟨ts, cs, y7, rfl, st, hN, hC, tC, tr, ln⟩ := pv
          exact ⟨by omega, ts, cs, _, _, rfl, st, hN, hC, tC, tr, by omega⟩
      · obtain ⟨hk, ts, cs, y6, y7, rfl, st, hN, hC, tC, tr, ln⟩ := pv
        exact ⟨ts, cs, y6, y7, rfl, st, hN, hC, tC, tr, by omega⟩
    rintro _ H8 ⟨ts, cs, y6, y7, rfl, st8, hN8, hC8, tC8, tr8, ln8⟩
    -- under their names
    have nml : nm.length = n := by rw [hp.length_eq, List.length_range]
    have ltx : ts.length = cs.length := by rw [tC8.len]; unfold pairs; rw [List.length_map]
    refine ⟨_, rfl, C0, rfl, ⟨_, .inl (.inl hC8)⟩, fun D hD => lc_list (xs := ts.map V.ref) (fun j H2 => Same H8 H2 ∧ ∃ us, H2 D = some (.lst (us.map V.ref)) ∧ TAt H2 us (pairs ((cs.take j).map fun e => KL.couple nm e.1 e.2)) ∧ us.length ≤ j) ⟨same_new (Same.refl H8) hD, [], upd_same, .nil, Nat.le_refl _⟩ (fun j H2 _ pv => .inl (.inl (pv.1 _ _ hC8))) (fun j x H2 hx pv => ?_) (fun H9 pv => ?_)⟩
    · obtain ⟨e, us, hD2, tD, lu⟩ := pv
      rw [List.getElem?_map] at hx
      obtain ⟨t, ht, rfl⟩ := Option.map_eq_some_iff.mp hx
      obtain ⟨l, el, hl⟩ := tC8.get ht
      unfold pairs at el
      rw [List.getElem?_map] at el
      obtain ⟨ab, eab, rfl⟩ := Option.map_eq_some_iff.mp el
      obtain ⟨a, b'⟩ := ab
      obtain ⟨t1, t2, t3⟩ := tr8.lt _ (List.mem_of_getElem? eab)
      have t1 : b' < a := t1
      have t3 : a < n := t3
      have jl : j < 60 := by
        have := (List.getElem?_eq_some_iff.mp eab).1
        omega
      have at_ : ∀ x, x < n → atI (ints_ nm) ((x : Nat) : Int) = some (.int (nm.getD x 0 : Nat)) := fun x hx' => by
        refine atI_nat ?_
        unfold ints_
        rw [List.getElem?_map, List.getElem?_eq_getElem (by omega), List.getD_eq_getElem?_getD, List.getElem?_eq_getElem (by omega)]
        rfl
      have hN9 := e _ _ hN8
      refine ⟨t, [.int (a : Nat), .int (b' : Nat)], rfl, .inl (.inl (e _ _ hl)), rfl, _, _, rfl, _, _, rfl, rfl, rfl, ?_⟩
      refine ⟨_, rfl, _, rfl, N0, _, _, _, rfl, rfl, .inl (.inl hN9), at_ a t3, _, rfl, _, rfl, N0, _, _, _, rfl, rfl, .inl (.inl hN9), at_ b' (by omega), _, _, rfl, ?_⟩
      refine ⟨_, rfl, _, rfl, N0, _, _, _, rfl, rfl, .inl (.inl hN9), at_ a t3, _, rfl, _, rfl, N0, _, _, _, rfl, rfl, .inl (.inl hN9), at_ b' (by omega), _, _, rfl, ?_⟩
      refine ⟨by show 2 ≤ sizeLine; decide, fun u nu => ?_⟩
      have nDu : D ≠ u := ne_of_none hD2 nu
      refine ⟨_, by rw [upd_ne nDu]; exact hD2, by rw [List.length_map]; exact small1000 (by omega), fun b o hb => ?_, us ++ [u], by rw [upd_same, List.map_append]; rfl, ?_, by rw [List.length_append, List.length_singleton]; omega⟩
      · have h1 := e _ _ hb
        rw [upd_ne (ne_of_none hb hD), upd_ne (ne_of_none h1 nu)]
        exact h1
      · rw [List.take_add_one, eab, List.map_append]
        unfold pairs at tD ⊢
        rw [List.map_append]
        refine (tD.mono fun b xs hb => ?_).append (.cons ?_ .nil)
        · rw [upd_ne (fun z => by rw [z, hD2] at hb; cases hb), upd_ne (ne_of_none hb nu)]
          exact hb
        · have m1 : ∀ x y : Nat, (if (y : Int) < (x : Int) then (y : Int) else (x : Int)) = ((min x y : Nat) : Int) := fun x y => by split <;> omega
          have m2 : ∀ x y : Nat, (if (y : Int) > (x : Int) then (y : Int) else (x : Int)) = ((max x y : Nat) : Int) := fun x y => by split <;> omega
          rw [upd_ne nDu.symm, upd_same, m1, m2]
          rfl
    obtain ⟨e9, us, hD9, tD9, lu9⟩ := pv
    rw [List.length_map, ltx, List.take_length] at tD9
    rw [List.length_map, ltx] at lu9
    have st9 := st8.same e9
    -- the lots
    refine ⟨_, rfl, _, rfl, fun rg nrg => ?_⟩
    refine ⟨rg, n, rfl, upd_same, by omega, fun l0 nl0 => ?_⟩
    have s10 : Same H9 (upd (upd H9 rg (.rng 0 n)) l0 (.lst (K7E.upTo n))) := same_new (same_new (Same.refl H9) nrg) nl0
    refine ⟨l0, n, rfl, n5, upd_same, fun H11 lo ls e11 nlo hlo tlo => ?_⟩
    have e11 := s10.trans e11
    refine ⟨lo, rfl, ⟨_, .inl (.inl hlo)⟩, fun D2 hD2 => lc_list (xs := ls.map V.ref) (fun j H2 => Same H11 H2 ∧ ∃ us, H2 D2 = some (.lst (us.map V.ref)) ∧ TAt H2 us (((lotsTo (List.range n) n).take j).filter fun l => decide (0 < l.length) && decide (l.length < n)) ∧ us.length ≤ j) ⟨same_new (Same.refl H11) hD2, [], upd_same, .nil, Nat.le_refl _⟩ (fun j H2 _ pv => .inl (.inl (pv.1 _ _ hlo))) (fun j x H2 hx pv => ?_) (fun H12 pv => ?_)⟩
    · obtain ⟨e, us, hD3, tD, lu⟩ := pv
      rw [List.getElem?_map] at hx
      obtain ⟨t, ht, rfl⟩ := Option.map_eq_some_iff.mp hx
      obtain ⟨l, el, hl⟩ := tlo.get ht
      have jl : j < 32 := by
        have h1 := (List.getElem?_eq_some_iff.mp el).1
        have h2 : (lotsTo (List.range n) n).length ≤ 32 := (level_len ⟨n, by omega⟩ ⟨n, by omega⟩).2
        omega
      have hll : (l.map fun c => V.int (c : Nat)).length = l.length := List.length_map ..
      have hl2 := e _ _ hl
      have f1 : ((lotsTo (List.range n) n).take (j + 1)).filter (fun l => decide (0 < l.length) && decide (l.length < n)) = ((lotsTo (List.range n) n).take j).filter (fun l => decide (0 < l.length) && decide (l.length < n)) ++ (if (decide (0 < l.length) && decide (l.length < n)) = true then [l] else []) := by
        rw [List.take_add_one, el, List.filter_append]
        congr 1
        show List.filter _ [l] = _
        rw [List.filter_cons]
        rfl
      refine ⟨rfl, _, rfl, t, _, rfl, .inr (.inl (.inl hl2)), _, _, rfl, rfl, _, rfl, ite2 (fun q1 => ?_) (fun q1 => ?_)⟩
      · have q1' : 0 < l.length := by
          have z : (0 : Int) < (((l.map fun c => V.int (c : Nat)).length : Nat) : Int) := of_decide_eq_true q1
          omega
        refine ⟨_, rfl, _, _, rfl, rfl, _, rfl, ite2 (fun q2 => ?_) (fun q2 => ?_)⟩
        · have q2' : l.length < n := by
            have z : (((l.map fun c => V.int (c : Nat)).length : Nat) : Int) < (n : Nat) := of_decide_eq_true q2
            omega
          refine ⟨_, rfl, _, hD3, by rw [List.length_map]; exact small1000 (by omega), fun b o hb => ?_, us ++ [t], by rw [upd_same, List.map_append]; rfl, ?_, by rw [List.length_append, List.length_singleton]; omega⟩
          · rw [upd_ne (ne_of_none hb hD2)]
            exact e _ _ hb
          · rw [f1, if_pos (by rw [decide_eq_true q1', decide_eq_true q2']; rfl)]
            have up : ∀ b xs, H2 b = some (.tup xs) → upd H2 D2 (.lst (us.map V.ref ++ [.ref t])) b = some (.tup xs) := fun b xs hb => by
              rw [upd_ne (fun z => by rw [z, hD3] at hb; cases hb)]
              exact hb
            exact (tD.mono up).append (.cons (up _ _ hl2) .nil)
        · have q2' : ¬ l.length < n := fun z => q2 (decide_eq_true (by omega))
          refine ⟨e, us, hD3, ?_, by omega⟩
          rw [f1, if_neg (by rw [decide_eq_false q2', Bool.and_false]; decide), List.append_nil]
          exact tD
      · have q1' : ¬ 0 < l.length := fun z => q1 (decide_eq_true (by omega))
        refine ⟨_, rfl, iteF ?_⟩
        refine ⟨e, us, hD3, ?_, by omega⟩
        rw [f1, if_neg (by rw [decide_eq_false q1', Bool.false_and]; decide), List.append_nil]
        exact tD
    obtain ⟨e12, vs, hD12, tD12, lv12⟩ := pv
    have e12 := e11.trans e12
    have lsl : ls.length = (lotsTo (List.range n) n).length := tlo.len
    rw [List.length_map, lsl, List.take_length] at tD12
    have st12 := st9.same e12
    have hR12 := e12 _ _ hD9
    have tR12 := tD9.same e12
    -- the land
    have okl : LandOk0 n (cs.map fun e => KL.couple nm e.1 e.2) := tree_land hp tr8
    refine ⟨_, rfl, _, rfl, D, _, kfOf H12, rfl, .inl (.inl hR12), fun x hx => ?_, fun ys p srt stb np => ?_⟩
    · obtain ⟨a, e, rfl, ha⟩ := g_mem tR12 x hx
      exact ⟨a, rfl, by rw [kf_at ha]; exact ha⟩
    have hys := fun x (hx : x ∈ ys) => g_mem tR12 x (stb.perm.mem_iff.mp hx)
    obtain ⟨ts', rfl, tY⟩ := tat_of ys hys
    have pe : ((ts'.map V.ref).map (gOf H12)).Perm (cs.map fun e => KL.couple nm e.1 e.2) := by
      rw [← g_map tR12]
      exact stb.perm.map _
    have ok : LandOk n ((ts'.map V.ref).map (gOf H12)) := ⟨fun e he => okl.lt e (pe.mem_iff.mp he), pe.nodup_iff.mpr okl.nd, sorted_of _ hys srt, fun S h0 hS => okl.conn S h0 fun e he => hS e (pe.mem_iff.mpr he)⟩
    have s13 := same_new (o := .lst (ts'.map V.ref)) (Same.refl H12) np
    obtain ⟨hph, _⟩ := st12.hand.ne np
    have st13 := st12.same s13
    have hp13 : upd H12 p (.lst (ts'.map V.ref)) p = some (.lst (ts'.map V.ref)) := upd_same
    have tY13 := tY.same s13
    have hD13 := s13 _ _ hD12
    have tD13 := tD12.same s13
    generalize (ts'.map V.ref).map (gOf H12) = es at ok tY13 pe tY
    generalize upd H12 p (.lst (ts'.map V.ref)) = H13 at s13 st13 hp13 tY13 hD13 tD13 ⊢
    obtain ⟨k4, k0, k32⟩ := lots_some ⟨n, by omega⟩ n2
    have hvl : vs.length = ((lotsTo (List.range n) n).filter fun l => decide (0 < l.length) && decide (l.length < n)).length := tD13.len
    have k4 : vs.length ≠ 4 := by rw [hvl]; exact k4
    have k0 : 0 < vs.length := by rw [hvl]; exact k0
    have k32 : vs.length ≤ 32 := by rw [hvl]; exact k32
    refine ⟨_, rfl, _, rfl, h, c, D2, _, rfl, st13.hand, st13.hand.nel hD13 (notHand_len _ (by rw [List.length_map]; exact k4)), hD13, by rw [List.length_map]; exact k0, by rw [List.length_map]; omega, fun H14 j v d ej => ?_⟩
    rw [List.getElem?_map] at ej
    obtain ⟨t, ht, rfl⟩ := Option.map_eq_some_iff.mp ej
    obtain ⟨lot, elot, hlot⟩ := tD13.get ht
    have st14 := st13.drawn d
    have keep : ∀ {b : Addr} {xs : List V}, H13 b = some (.tup xs) → H14 b = some (.tup xs) := fun {b xs} hb => by rw [d.but b (st13.hand.net hb)]; exact hb
    have hp14 : H14 p = some (.lst (ts'.map V.ref)) := by rw [d.but p hph]; exact hp13
    have tY14 := tY13.mono fun b xs hb => keep hb
    refine ⟨t, _, rfl, .inr (.inl (.inl (keep hlot))), fun sA nsA => ?_⟩
    refine ⟨by show 3 ≤ sizeLine; decide, fun q0 nq0 => ?_⟩
    have s15 := same_new (o := .lst (lot.map fun c => .int (c : Nat))) (Same.refl H14) nsA
    have s16 := same_new (o := .tup [.int (n : Nat), .ref p, .ref sA]) s15 nq0
    have nsq : sA ≠ q0 := ne_of_none (show upd H14 sA (.lst (lot.map fun c => .int (c : Nat))) sA = some (.lst (lot.map fun c => .int (c : Nat))) from upd_same) nq0
    have hmem := List.mem_filter.mp (List.mem_of_getElem? elot)
    obtain ⟨hm1, hm2⟩ := hmem
    have hm2 := Bool.and_eq_true_iff.mp hm2
    exact q _ q0 es lot (st14.same s16) ((st14.same s15).free nq0) ⟨⟨p, sA, ts', upd_same, s16 _ _ hp14, tY14.same s16, by rw [upd_ne nsq, upd_same]; rfl⟩, ok, hm1, of_decide_eq_true hm2.1, of_decide_eq_true hm2.2⟩
end
end K7
end
/-! ## P4 -/
section
open PySem PySem.Spec PyProof.Rows L2
namespace K7
abbrev N_is_whole : List Str := ["thing", "low", "high"]
abbrev s_is_whole : Stmt := topS 9
theorem sc_is_whole : FnScope ["thing", "low", "high"] ["thing", "low", "high"] (defScope s_is_whole) := ⟨rfl, rfl, rfl, by decide +kernel, rfl, by decide +kernel, by decide +kernel⟩
abbrev N_is_sequence : List Str := ["thing"]
abbrev s_is_sequence : Stmt := topS 8
theorem sc_is_sequence : FnScope ["thing"] ["thing"] (defScope s_is_sequence) := ⟨rfl, rfl, rfl, by decide +kernel, rfl, by decide +kernel, by decide +kernel⟩
section
variable {P : Program} {w : World} {K : PySem.W.Frag} {mg : Str → Option Value} {base : Heap}
/-! is_whole -/
def wholeV (x : V) (lo hi : Int) : Bool := match x with
  | .int i => decide (lo ≤ i) && decide (i ≤ hi)
  | _ => false
theorem wholeV_int (i lo hi : Int) : wholeV (.int i) lo hi = (decide (lo ≤ i) && decide (i ≤ hi)) := rfl
inductive Flat4 : V → Prop where
  | non : Flat4 .non
  | bl (b : Bool) : Flat4 (.bl b)
  | int (i : Int) : Flat4 (.int i)
  | str (z : Str) : Flat4 (.str z)
/-- what a row of the law holds -/
inductive Thing (H : Hp) : V → Prop where
  | flat {x : V} (h : Flat4 x) : Thing H x
  | tup {a : Addr} {xs : List V} (h : H a = some (.tup xs)) : Thing H (.ref a)
  | lst {a : Addr} {xs : List V} (h : H a = some (.lst xs)) : Thing H (.ref a)
theorem Thing.same {H H' : Hp} {x : V} (h : Thing H x) (e : Same H H') : Thing H' x := by
  cases h with
  | flat h => exact .flat h
  | tup h => exact .tup (e _ _ h)
  | lst h => exact .lst (e _ _ h)
def spWhole : Sp := fun vs H Q _ => ∃ (x : V) (lo hi : Int), vs = [x, .int lo, .int hi] ∧ Thing H x ∧ Q (.bl (wholeV x lo hi)) H
theorem ok_whole {f : Addr} {fd : FuncData} (F : Fun K "is_whole" "is_whole" s_is_whole f fd) (m_isinstance : mg "isinstance" = none) (m_int : mg "int" = none) (m_bool : mg "bool" = none) : FnOk P w K mg base CX0 1 f fd ["thing", "low", "high"] spWhole := by
  refine F.ok sc_is_whole (fun vs H Q E h => ?_) (fun cdv A outer s H vs Q E hr h => ?_)
  · obtain ⟨x, lo, hi, rfl, _⟩ := h
    rfl
  · obtain ⟨x, lo, hi, rfl, hx, q⟩ := h
    refine ⟨_, (pss_one (ps_ret (pe_and (pe_callB call_isi (by rfl) m_isinstance boot_isinstance (pa_cons (pv 0) (pa_cons (pe_bltn (v := .ty "int") (by rfl) m_int boot_int rfl) pa_nil))) (pe_and (pe_not (pe_callB call_isi (by rfl) m_isinstance boot_isinstance (pa_cons (pv 0) (pa_cons (pe_bltn (v := .ty "bool") (by rfl) m_bool boot_bool rfl) pa_nil)))) (pe_one (pe_chain op_le op_le (pv 1) (pv 0) (pv 2))))))), ?_⟩
    rcases hx with ⟨hx⟩ | hx | hx
    rotate_left
    · exact ⟨_, rfl, _, _, _, _, _, rfl, .ty _, .base (.tup hx), kit_ty (r := false) (by decide +kernel), false, rfl, q⟩
    · exact ⟨_, rfl, _, _, _, _, _, rfl, .ty _, .base (.lst hx), kit_ty (r := false) (by decide +kernel), false, rfl, q⟩
    cases hx with
    | non => exact ⟨_, rfl, _, _, _, _, _, rfl, .ty _, .base .non, kit_ty (r := false) (by decide +kernel), false, rfl, q⟩
    | bl b => 
      refine ⟨_, rfl, _, _, _, _, _, rfl, .ty _, .base (.bl b), kit_ty (r := true) (by decide +kernel), true, rfl, ?_⟩
      exact ⟨_, rfl, _, _, _, _, _, rfl, .ty _, .base (.bl b), kit_ty (r := true) (by decide +kernel), _, rfl, _, rfl, q⟩
    | str z => exact ⟨_, rfl, _, _, _, _, _, rfl, .ty _, .base (.str z), kit_ty (r := false) (by decide +kernel), false, rfl, q⟩
    | int i =>
      refine ⟨_, rfl, _, _, _, _, _, rfl, .ty _, .base (.int i), kit_ty (r := true) (by decide +kernel), true, rfl, ?_⟩
      refine ⟨_, rfl, _, _, _, _, _, rfl, .ty _, .base (.int i), kit_ty (r := false) (by decide +kernel), _, rfl, _, rfl, ?_⟩
      refine ⟨_, rfl, _, rfl, _, _, rfl, rfl, _, rfl, ite2 (fun e => ?_) (fun e => ?_)⟩
      · rw [wholeV_int, e, Bool.true_and] at q
        exact ⟨_, rfl, _, _, rfl, rfl, q⟩
      · rw [wholeV_int, Bool.eq_false_iff.mpr e, Bool.false_and] at q
        exact q

/-! is_sequence -/
/-- a tuple or a list -/
def SqA (K : PySem.W.Frag) (H : Hp) (a : Addr) (xs : List V) : Prop := SqL K H a xs ∨ SqT K H a xs
def spSeq (K : PySem.W.Frag) : Sp := fun vs H Q _ => ∃ (x : V) (t : String) (b : Bool), vs = [x] ∧ (∀ H1, Same H H1 → TyX K H1 x (.type t)) ∧ PySem.W.kitAny K (.type t) [.type "list", .type "tuple"] = some b ∧ ∀ H1, Same H H1 → Q (.bl b) H1
theorem ok_seq {f : Addr} {fd : FuncData} (F : Fun K "is_sequence" "is_sequence" s_is_sequence f fd) (m_isinstance : mg "isinstance" = none) (m_list : mg "list" = none) (m_tuple : mg "tuple" = none) : FnOk P w K mg base CX0 1 f fd ["thing"] (spSeq K) := by
  refine F.ok sc_is_sequence (fun vs H Q E h => ?_) (fun cdv A outer s H vs Q E hr h => ?_)
  · obtain ⟨x, t, b, rfl, _⟩ := h
    rfl
  · obtain ⟨x, t, b, rfl, ty, k, q⟩ := h
    refine ⟨_, (pss_one (ps_ret (pe_callB call_isiT (by rfl) m_isinstance boot_isinstance (pa_cons (pv 0) (pa_cons (pe_tup (pa_cons (pe_bltn (v := .ty "list") (by rfl) m_list boot_list rfl) (pa_cons (pe_bltn (v := .ty "tuple") (by rfl) m_tuple boot_tuple rfl) pa_nil))) pa_nil))))), ?_⟩
    refine ⟨_, rfl, by show 2 ≤ sizeLine; decide, fun tp np => ?_⟩
    have s1 := same_new (o := .tup [.ty "list", .ty "tuple"]) (Same.refl H) np
    exact ⟨x, tp, _, .type t, _, b, rfl, upd_same, .cons (.ty _) (.cons (.ty _) .nil), ty _ s1, k, q _ s1⟩
theorem any_tup : PySem.W.kitAny K (.type "tuple") [.type "list", .type "tuple"] = some true := kitAny_cons (b := false) (kit_ty (by decide +kernel)) (fun _ => kitAny_cons (b := true) (kit_ty (by decide +kernel)) (fun z => nomatch z) (fun _ => rfl)) (fun z => nomatch z)
theorem any_lst : PySem.W.kitAny K (.type "list") [.type "list", .type "tuple"] = some true := kitAny_cons (b := true) (kit_ty (by decide +kernel)) (fun z => nomatch z) (fun _ => rfl)
theorem any_int : PySem.W.kitAny K (.type "int") [.type "list", .type "tuple"] = some false := kitAny_cons (b := false) (kit_ty (by decide +kernel)) (fun _ => kitAny_cons (b := false) (kit_ty (by decide +kernel)) (fun _ => kitAny_nil) (fun z => nomatch z)) (fun z => nomatch z)
theorem any_str : PySem.W.kitAny K (.type "str") [.type "list", .type "tuple"] = some false := kitAny_cons (b := false) (kit_ty (by decide +kernel)) (fun _ => kitAny_cons (b := false) (kit_ty (by decide +kernel)) (fun _ => kitAny_nil) (fun z => nomatch z)) (fun z => nomatch z)
theorem any_non : PySem.W.kitAny K (.type "NoneType") [.type "list", .type "tuple"] = some false := kitAny_cons (b := false) (kit_ty (by decide +kernel)) (fun _ => kitAny_cons (b := false) (kit_ty (by decide +kernel)) (fun _ => kitAny_nil) (fun z => nomatch z)) (fun z => nomatch z)
theorem any_bool : PySem.W.kitAny K (.type "bool") [.type "list", .type "tuple"] = some false := kitAny_cons (b := false) (kit_ty (by decide +kernel)) (fun _ => kitAny_cons (b := false) (kit_ty (by decide +kernel)) (fun _ => kitAny_nil) (fun z => nomatch z)) (fun z => nomatch z)
end
end K7
end
/-! ## EL -/
section
open PySem PySem.Spec PyProof.Rows L2
namespace K7E
theorem nodup_le {α : Type} [DecidableEq α] : ∀ (l D : List α), l.Nodup → (∀ x ∈ l, x ∈ D) → l.length ≤ D.length
  | [], _, _, _ => Nat.zero_le _
  | x :: l, D, h, m => by
    obtain ⟨h1, h2⟩ := List.nodup_cons.mp h
    have hx := m x List.mem_cons_self
    have z := nodup_le l (D.erase x) h2 fun y hy => (List.mem_erase_of_ne (fun (e : y = x) => h1 (by rw [← e]; exact hy))).mpr (m y (List.mem_cons_of_mem _ hy))
    rw [List.length_erase_of_mem hx] at z
    have := List.length_pos_of_mem hx
    rw [List.length_cons]
    omega
theorem nodup_of_le {α : Type} [DecidableEq α] : ∀ (l D : List α), l.Nodup → (∀ x ∈ l, x ∈ D) → D.length ≤ l.length → D.Nodup
  | [], [], _, _, _ => List.nodup_nil
  | [], _ :: _, _, _, z => absurd z (by rw [List.length_cons, List.length_nil]; omega)
  | x :: l, D, h, m, z => by
    obtain ⟨h1, h2⟩ := List.nodup_cons.mp h
    have hx := m x List.mem_cons_self
    have hl := List.length_erase_of_mem hx
    have sub : ∀ y ∈ l, y ∈ D.erase x := fun y hy => (List.mem_erase_of_ne (fun (e : y = x) => h1 (by rw [← e]; exact hy))).mpr (m y (List.mem_cons_of_mem _ hy))
    rw [List.length_cons] at z
    have hp := List.length_pos_of_mem hx
    have hd := nodup_of_le l (D.erase x) h2 sub (by omega)
    rw [(List.perm_cons_erase hx).nodup_iff, List.nodup_cons]
    refine ⟨fun hm => ?_, hd⟩
    have w := nodup_le (x :: l) (D.erase x) h fun y hy => by
      rcases List.mem_cons.mp hy with rfl | hy
      · exact hm
      · exact sub y hy
    rw [List.length_cons] at w
    omega
section
variable {X : Cx}
/-- len(set(x)), x a tuple of ints: how many there are of them, and all of them only if no two are the same -/
def tLenSetT (K : PySem.W.Frag) (ta : TE) : TE := fun σ H Q => ta σ H fun x H1 => ∃ (l : Addr) (ns : List Int), x = V.ref l ∧ SqT K H1 l (ns.map V.int) ∧ ns.length < 64 ∧ ∀ c : Nat, c ≤ ns.length → (c = ns.length ↔ ns.Nodup) → Q (.int c) H1
theorem pe_lenSetT {a : Expr} {ta : TE} {p p2 q pos : Pos} (hc : X.calm = true) (hg : Gl X "len") (hm : X.mg "len" = none) (hg2 : Gl X "set") (hm2 : X.mg "set" = none) (ha : PE X a ta)
    (na : starEach [a] X.env = (false, eval a X.env) :: starEach [] X.env := by rfl) : PE X (.Call (.Name "len" p) [.Call (.Name "set" p2) [a] [] q] [] pos) (tLenSetT X.K ta) := by
  refine ⟨fun pins s σ H Q I h => ?_⟩
  refine Call_ (ld_blt I hg hm PySem.boot_len ?_)
  refine PyProof.Rows.callWith_builtin1 (PyProof.Rows.args_cons ?_ rfl) rfl rfl
  refine Call_ (ld_blt I hg2 hm2 PyProof.Rows.boot_set ?_)
  refine PyProof.Rows.callWith_type1 (PyProof.Rows.args_cons (thn (ha.run pins s σ H _ I h) fun v s1 ⟨x, H1, I1, r1, q1⟩ => PyProof.Rows.args_nil ?_) na) na rfl
  obtain ⟨l, ns, rfl, hq, h1, q1⟩ := q1
  cases r1
  obtain ⟨its, r, pl, hz⟩ := I1.tuple hq
  have hi : IntsAre its.toArray.toList ns := ints_of_vals r
  refine call_set_tupI ns (I1.ok.hd hc) (show s1.heap.IsTuple l its.toArray from pl) hi (by unfold scanBound; omega) fun h' tk c hS hcn hk => ?_
  refine PyProof.Rows.args_nil ?_
  obtain ⟨o, es, ep, t, ho, hex, hd, g, nd, hm2, hb, hf, hn, hr, hl2⟩ := hS
  have I2 : Inv X pins σ H1 { s1 with heap := h', toks := tk } := I1.kept fun b o e => hk b o e
  have hmem : ∀ k, k ∈ es.toList.map keyOf ↔ k ∈ ns := fun k => by rw [← hm2 k, decide_eq_true_eq]
  have hlen : (es.toList.map keyOf).length = c := by rw [List.length_map, Array.length_toList, hn]
  have key : c = ns.length ↔ ns.Nodup := by
    constructor
    · intro e
      exact nodup_of_le _ _ nd (fun k hk => (hmem k).mp hk) (by rw [hlen, e]; exact Nat.le_refl _)
    · intro hn2
      have w := nodup_le _ _ hn2 fun k hk => (hmem k).mpr hk
      rw [hlen] at w
      omega
  refine call_len_set ho hex hd hf (by rw [hn] <;> omega) ⟨.int c, H1, I2.tok _, ⟨_, by rw [hn]⟩, q1 c hcn key⟩
/-- the same over a list -/
theorem firstMet_nd (val : Nat → Int) : ∀ i, (firstMet val i).Nodup
  | 0 => List.nodup_nil
  | i + 1 => by
    rw [firstMet_succ]
    unfold step_dedup
    split
    · exact firstMet_nd val i
    · rename_i h
      refine List.nodup_append.mpr ⟨firstMet_nd val i, List.nodup_cons.mpr ⟨List.not_mem_nil, List.nodup_nil⟩, fun a ha b hb e => h ?_⟩
      rw [List.mem_singleton] at hb
      exact List.any_eq_true.mpr ⟨a, ha, by rw [e, hb]; exact beq_self_eq_true _⟩
theorem firstMet_mem (ns : List Int) (k : Int) : k ∈ firstMet (fun i => ns.getD i 0) ns.length ↔ k ∈ ns := by
  have e := firstMet_any (fun i => ns.getD i 0) ns.length k
  have em : (List.range ns.length).map (fun i => ns.getD i 0) = ns := by
    refine List.ext_getElem (by rw [List.length_map, List.length_range]) fun j h1 h2 => ?_
    rw [List.getElem_map, List.getElem_range, List.getD_eq_getElem?_getD, List.getElem?_eq_getElem h2]
    rfl
  rw [em] at e
  have w : ∀ l : List Int, l.any (· == k) = true ↔ k ∈ l := fun l => by
    rw [List.any_eq_true]
    exact ⟨fun ⟨x, hx, ex⟩ => by rw [← beq_iff_eq.mp ex]; exact hx, fun hx => ⟨k, hx, beq_self_eq_true _⟩⟩
  rw [← w, ← w, e]
def tLenSetL (K : PySem.W.Frag) (ta : TE) : TE := fun σ H Q => ta σ H fun x H1 => ∃ (l : Addr) (ns : List Int), x = V.ref l ∧ SqL K H1 l (ns.map V.int) ∧ ns.length < 64 ∧ ∀ c : Nat, c ≤ ns.length → (c = ns.length ↔ ns.Nodup) → Q (.int c) H1
theorem pe_lenSetL {a : Expr} {ta : TE} {p p2 q pos : Pos} (hc : X.calm = true) (hg : Gl X "len") (hm : X.mg "len" = none) (hg2 : Gl X "set") (hm2 : X.mg "set" = none) (ha : PE X a ta)
    (na : starEach [a] X.env = (false, eval a X.env) :: starEach [] X.env := by rfl) : PE X (.Call (.Name "len" p) [.Call (.Name "set" p2) [a] [] q] [] pos) (tLenSetL X.K ta) := by
  refine ⟨fun pins s σ H Q I h => ?_⟩
  refine Call_ (ld_blt I hg hm PySem.boot_len ?_)
  refine PyProof.Rows.callWith_builtin1 (PyProof.Rows.args_cons ?_ rfl) rfl rfl
  refine Call_ (ld_blt I hg2 hm2 PyProof.Rows.boot_set ?_)
  refine PyProof.Rows.callWith_type1 (PyProof.Rows.args_cons (thn (ha.run pins s σ H _ I h) fun v s1 ⟨x, H1, I1, r1, q1⟩ => PyProof.Rows.args_nil ?_) na) na rfl
  obtain ⟨l, ns, rfl, hq, h1, q1⟩ := q1
  cases r1
  obtain ⟨its, r, pl, hz⟩ := I1.list hq
  have hl : its.toArray.size = ns.length := by rw [List.size_toArray, ← r.length, List.length_map]
  refine call_set_list (I1.ok.hd hc) pl.isList (ns := ns) (by simpa using r.ints) (by unfold scanBound; omega) fun h' tk hS hk => ?_
  rw [hl] at hS
  have nd := firstMet_nd (fun i => ns.getD i 0) ns.length
  have mm := firstMet_mem ns
  have hcn := firstMet_length_le (fun i => ns.getD i 0) ns.length
  generalize firstMet (fun i => ns.getD i 0) ns.length = L at hS nd mm hcn
  refine PyProof.Rows.args_nil ?_
  obtain ⟨o, es, ep, t, ho, hex, hd, _, _, _, hf, hn⟩ := hS
  have I2 : Inv X pins σ H1 { s1 with heap := h', toks := tk } := I1.kept fun b o e => hk b o (Heap.lt_size e) e
  have key : L.length = ns.length ↔ ns.Nodup := by
    constructor
    · intro e
      exact nodup_of_le _ _ nd (fun k hk => (mm k).mp hk) (by rw [e]; exact Nat.le_refl _)
    · intro hn2
      have w := nodup_le _ _ hn2 fun k hk => (mm k).mpr hk
      omega
  refine call_len_set ho hex hd hf (by rw [hn] <;> omega) ⟨.int L.length, H1, I2.tok _, ⟨_, by rw [hn]⟩, q1 _ hcn key⟩
/-- one of two readings -/
theorem pe_either {e : Expr} {t1 t2 : TE} (a : PE X e t1) (b : PE X e t2) : PE X e (fun σ H Q => t1 σ H Q ∨ t2 σ H Q) := ⟨fun pins s σ H Q I h => h.elim (a.run pins s σ H Q I) (b.run pins s σ H Q I)⟩
theorem pi_either {tg e : Expr} {t1 t2 : TI} (a : PI X tg e t1) (b : PI X tg e t2) : PI X tg e (fun σ H R => t1 σ H R ∨ t2 σ H R) := ⟨fun pins s σ H R I h => h.elim (a.run pins s σ H R I) (b.run pins s σ H R I)⟩
end
end K7E
end
/-! ## P5 -/
section
open PySem PySem.Spec PyProof.Rows L2
namespace K7
abbrev N_are_cells : List Str := ["many", "thing", "least", "cell"]
abbrev s_are_cells : Stmt := topS 10
theorem sc_are_cells : FnScope ["many", "thing", "least", "cell"] ["many", "thing", "least"] (defScope s_are_cells) := ⟨rfl, rfl, rfl, by decide +kernel, rfl, by decide +kernel, by decide +kernel⟩
section
variable {P : Program} {w : World} {K : PySem.W.Frag} {mg : Str → Option Value} {base : Heap}
def intOf : V → Int | .int i => i | _ => 0
/-- what are_cells says of a row -/
def cellsV (many : Int) (xs : List V) (least : Int) : Bool := decide (least ≤ (xs.length : Nat)) && xs.all (fun x => wholeV x 0 (many - 1)) && decide (xs.map intOf).Nodup
theorem whole_int {x : V} {lo hi : Int} (h : wholeV x lo hi = true) : x = .int (intOf x) := by
  unfold wholeV at h
  split at h
  · rfl
  · cases h
def spCells (K : PySem.W.Frag) : Sp := fun vs H Q _ => ∃ (many : Int) (x : V) (least : Int), vs = [.int many, x, .int least] ∧
  ((∃ t : String, (∀ H1, Same H H1 → TyX K H1 x (.type t)) ∧ PySem.W.kitAny K (.type t) [.type "list", .type "tuple"] = some false ∧ ∀ H1, Same H H1 → Q (.bl false) H1) ∨
   (∃ (a : Addr) (xs : List V), x = .ref a ∧ (H a = some (.tup xs) ∨ H a = some (.lst xs)) ∧ (∀ y ∈ xs, Thing H y) ∧ xs.length < 64 ∧ ∀ H1, Same H H1 → Q (.bl (cellsV many xs least)) H1))
theorem ok_cells {f fS fW : Addr} {fd fdS fdW : FuncData} (F : Fun K "are_cells" "are_cells" s_are_cells f fd)
    (Gsq : FnOk P w K mg base CX0 1 fS fdS ["thing"] (spSeq K)) (gsq : mg "is_sequence" = some (.ref fS)) (ksq : PySem.W.keepIn K (.ref fS) = true) (bsq : Binds K fdS ["thing"] [])
    (Giw : FnOk P w K mg base CX0 1 fW fdW ["thing", "low", "high"] spWhole) (giw : mg "is_whole" = some (.ref fW)) (kiw : PySem.W.keepIn K (.ref fW) = true) (biw : Binds K fdW ["thing", "low", "high"] [])
    (m_len : mg "len" = none) (m_set : mg "set" = none) (m_all : mg "all" = none) : FnOk P w K mg base CX0 2 f fd ["many", "thing", "least"] (spCells K) := by
  refine F.ok sc_are_cells (fun vs H Q E h => ?_) (fun cdv A outer s H vs Q E hr h => ?_)
  · obtain ⟨m, x, l, rfl, _⟩ := h
    rfl
  · obtain ⟨m, x, l, rfl, h⟩ := h
    refine ⟨_, (pss_cons (ps_if (pw_or (pt_not (pt_val (pe_call Gsq (hr.mono (by decide)) (by rfl) gsq ksq bsq .nil pass0 (pa_cons (pv 1) pa_nil)))) (pw_or1 (pt_cmpR op_lt (pe_callB call_len_seq (by rfl) m_len boot_len (pa_cons (pv 1) pa_nil)) (pv 2) (nomark _)))).pt
  (pss_one (ps_ret pe_bl))
  pss_nil)
 (pss_cons (ps_if (pt_not (pt_val (pe_callB (cr_all rfl) (by rfl) m_all boot_all (pa_cons (pe_lc (own := [("cell", 3)]) (g := gName 3) (tt := tYes) rfl sc_are_cells.nd (K7E.pi_either (pi_tup (pv 1)) (pi_list (pv 1))) (blkOk_by (own := [("cell", 3)]) (N := N_are_cells) (sc := defScope s_are_cells) (by decide +kernel)) (fun _ _ _ _ _ => (pg_name (i := 3) sc_are_cells.nd rfl (by first | exact Or.inl rfl | exact Or.inr rfl))) (fun _ _ _ _ _ => pts_nil) (fun _ _ _ _ _ => (pe_call Giw (hr.mono (by decide)) (by rfl) giw kiw biw .nil pass0 (pa_cons (pv 3) (pa_cons pe_int (pa_cons (pe_op op_sub (pv 0) pe_int) pa_nil)))))) pa_nil))))
  (pss_one (ps_ret pe_bl))
  pss_nil)
 (pss_one (ps_ret (pe_cmpR op_eq (K7E.pe_either (K7E.pe_lenSetT rfl (by rfl) m_len (by rfl) m_set (pv 1)) (K7E.pe_lenSetL rfl (by rfl) m_len (by rfl) m_set (pv 1))) (pe_callB call_len_seq (by rfl) m_len boot_len (pa_cons (pv 1) pa_nil)) (nomark _)))))), ?_⟩
    rcases h with ⟨t, ty, k, q⟩ | ⟨a, xs, rfl, ha, th, h64, q⟩
    · refine ⟨_, rfl, x, t, false, rfl, ty, k, fun H1 e1 => ?_⟩
      exact ⟨_, rfl, q H1 e1⟩
    · have sq : ∀ H1, Same H H1 → (SqL K H1 a xs ∨ SqT K H1 a xs) := fun H1 e1 => ha.elim (fun z => .inr (.inl (.inl (e1 _ _ z)))) (fun z => .inl (.inl (.inl (e1 _ _ z))))
      have ex : ∃ t : String, (∀ H1, Same H H1 → TyX K H1 (.ref a) (.type t)) ∧ PySem.W.kitAny K (.type t) [.type "list", .type "tuple"] = some true := by
        rcases ha with z | z
        · exact ⟨"tuple", fun H1 e1 => .base (.tup (e1 _ _ z)), any_tup⟩
        · exact ⟨"list", fun H1 e1 => .base (.lst (e1 _ _ z)), any_lst⟩
      obtain ⟨t, ty, kk⟩ := ex
      refine ⟨_, rfl, _, t, true, rfl, ty, kk, fun H1 e1 => ⟨_, rfl, ?_⟩⟩
      refine ⟨_, rfl, a, xs, rfl, sq H1 e1, _, rfl, _, _, rfl, rfl, _, rfl, ite2 (fun c1 => ?_) (fun c1 => ?_)⟩
      · have c1' : ((xs.length : Nat) : Int) < l := of_decide_eq_true c1
        have z := q H1 e1
        have e0 : cellsV m xs l = false := by
          unfold cellsV
          rw [decide_eq_false (show ¬ l ≤ ((xs.length : Nat) : Int) by omega), Bool.false_and, Bool.false_and]
        rw [e0] at z
        exact z
      · have c1' : ¬ ((xs.length : Nat) : Int) < l := fun z => c1 (decide_eq_true z)
        have c2 : decide (l ≤ ((xs.length : Nat) : Int)) = true := decide_eq_true (by omega)
        rcases ha with z | z
        · refine .inl ⟨_, rfl, a, rfl, ⟨xs, .inl (.inl (e1 _ _ z))⟩, fun D hD => lc_tup (xs := xs) (fun j H2 => Same H1 H2 ∧ H2 D = some (.lst (((xs.take j).map fun x => wholeV x 0 (m - 1)).map V.bl))) ⟨same_new (Same.refl H1) hD, upd_same⟩ (fun j H2 _ pv => .inl (.inl (pv.1 _ _ (e1 _ _ z)))) (fun j x H2 hx pv => ?_) (fun H2 pv => ?_)⟩
          · obtain ⟨e2, hD2⟩ := pv
            have hm := th x (List.mem_of_getElem? hx)
            have hj : j < xs.length := (List.getElem?_eq_some_iff.mp hx).1
            refine ⟨rfl, _, rfl, _, rfl, _, _, rfl, rfl, x, 0, m - 1, rfl, hm.same (e1.trans e2), _, hD2, by rw [List.length_map, List.length_map, List.length_take]; exact small1000 (by omega), fun b o hb => ?_, ?_⟩
            · rw [upd_ne (ne_of_none hb hD)]
              exact e2 _ _ hb
            · rw [upd_same, List.take_add_one, hx, List.map_append, List.map_append]
              rfl
          · obtain ⟨e2, hD2⟩ := pv
            rw [List.take_length] at hD2
            refine ⟨D, xs.map fun x => wholeV x 0 (m - 1), rfl, .inl (.inl hD2), _, rfl, ?_⟩
            have call_ : (xs.map fun x => wholeV x 0 (m - 1)).all id = xs.all fun x => wholeV x 0 (m - 1) := by rw [List.all_map]; rfl
            refine ite2 (fun c3 => ?_) (fun c3 => ?_)
            rotate_left
            · have w : xs.all (fun x => wholeV x 0 (m - 1)) = true := by
                rw [← call_]
                cases hq : (xs.map fun x => wholeV x 0 (m - 1)).all id with
                | true => rfl
                | false => exact absurd (by rw [hq]; rfl) c3
              have exs : xs = (xs.map intOf).map V.int := by
                rw [List.map_map]
                refine (List.map_id xs).symm.trans (List.map_congr_left fun y hy => ?_)
                exact whole_int (List.all_eq_true.mp w y hy)
              refine Or.inl ⟨_, rfl, a, xs.map intOf, rfl, by rw [← exs]; exact .inl (.inl (e2 _ _ (e1 _ _ z))), by rw [List.length_map]; exact h64, fun c hc1 hc2 => ?_⟩
              refine ⟨_, rfl, a, xs, rfl, sq H2 (e1.trans e2), rfl, ?_⟩
              have zz := q H2 (e1.trans e2)
              unfold cellsV at zz
              rw [c2, w, Bool.true_and, Bool.true_and] at zz
              rw [List.length_map] at hc2
              have ee : decide (V.int (c : Nat) = V.int (xs.length : Nat)) = decide (xs.map intOf).Nodup := by
                refine decide_eq_decide.mpr ⟨fun e => hc2.mp ?_, fun e => by rw [hc2.mpr e]⟩
                injection e with e
                omega
              rw [← ee] at zz
              exact zz
            · have w : xs.all (fun x => wholeV x 0 (m - 1)) = false := by
                rw [← call_]
                cases hq : (xs.map fun x => wholeV x 0 (m - 1)).all id with
                | false => rfl
                | true => rw [hq] at c3; cases c3
              have zz := q H2 (e1.trans e2)
              unfold cellsV at zz
              rw [w, Bool.and_false, Bool.false_and] at zz
              exact zz
        · refine .inr ⟨_, rfl, a, rfl, ⟨xs, .inl (.inl (e1 _ _ z))⟩, fun D hD => lc_list (xs := xs) (fun j H2 => Same H1 H2 ∧ H2 D = some (.lst (((xs.take j).map fun x => wholeV x 0 (m - 1)).map V.bl))) ⟨same_new (Same.refl H1) hD, upd_same⟩ (fun j H2 _ pv => .inl (.inl (pv.1 _ _ (e1 _ _ z)))) (fun j x H2 hx pv => ?_) (fun H2 pv => ?_)⟩
          · obtain ⟨e2, hD2⟩ := pv
            have hm := th x (List.mem_of_getElem? hx)
            have hj : j < xs.length := (List.getElem?_eq_some_iff.mp hx).1
            refine ⟨rfl, _, rfl, _, rfl, _, _, rfl, rfl, x, 0, m - 1, rfl, hm.same (e1.trans e2), _, hD2, by rw [List.length_map, List.length_map, List.length_take]; exact small1000 (by omega), fun b o hb => ?_, ?_⟩
            · rw [upd_ne (ne_of_none hb hD)]
              exact e2 _ _ hb
            · rw [upd_same, List.take_add_one, hx, List.map_append, List.map_append]
              rfl
          · obtain ⟨e2, hD2⟩ := pv
            rw [List.take_length] at hD2
            refine ⟨D, xs.map fun x => wholeV x 0 (m - 1), rfl, .inl (.inl hD2), _, rfl, ?_⟩
            have call_ : (xs.map fun x => wholeV x 0 (m - 1)).all id = xs.all fun x => wholeV x 0 (m - 1) := by rw [List.all_map]; rfl
            refine ite2 (fun c3 => ?_) (fun c3 => ?_)
            rotate_left
            · have w : xs.all (fun x => wholeV x 0 (m - 1)) = true := by
                rw [← call_]
                cases hq : (xs.map fun x => wholeV x 0 (m - 1)).all id with
                | true => rfl
                | false => exact absurd (by rw [hq]; rfl) c3
              have exs : xs = (xs.map intOf).map V.int := by
                rw [List.map_map]
                refine (List.map_id xs).symm.trans (List.map_congr_left fun y hy => ?_)
                exact whole_int (List.all_eq_true.mp w y hy)
              refine Or.inr ⟨_, rfl, a, xs.map intOf, rfl, by rw [← exs]; exact .inl (.inl (e2 _ _ (e1 _ _ z))), by rw [List.length_map]; exact h64, fun c hc1 hc2 => ?_⟩
              refine ⟨_, rfl, a, xs, rfl, sq H2 (e1.trans e2), rfl, ?_⟩
              have zz := q H2 (e1.trans e2)
              unfold cellsV at zz
              rw [c2, w, Bool.true_and, Bool.true_and] at zz
              rw [List.length_map] at hc2
              have ee : decide (V.int (c : Nat) = V.int (xs.length : Nat)) = decide (xs.map intOf).Nodup := by
                refine decide_eq_decide.mpr ⟨fun e => hc2.mp ?_, fun e => by rw [hc2.mpr e]⟩
                injection e with e
                omega
              rw [← ee] at zz
              exact zz
            · have w : xs.all (fun x => wholeV x 0 (m - 1)) = false := by
                rw [← call_]
                cases hq : (xs.map fun x => wholeV x 0 (m - 1)).all id with
                | false => rfl
                | true => rw [hq] at c3; cases c3
              have zz := q H2 (e1.trans e2)
              unfold cellsV at zz
              rw [w, Bool.and_false, Bool.false_and] at zz
              exact zz
end
end K7
end
/-! ## P6 -/
section
open PySem PySem.Spec PyProof.Rows L2
namespace K7
abbrev N_are_two_cells : List Str := ["many", "thing"]
abbrev s_are_two_cells : Stmt := topS 11
theorem sc_are_two_cells : FnScope ["many", "thing"] ["many", "thing"] (defScope s_are_two_cells) := ⟨rfl, rfl, rfl, by decide +kernel, rfl, by decide +kernel, by decide +kernel⟩
section
variable {P : Program} {w : World} {K : PySem.W.Frag} {mg : Str → Option Value} {base : Heap}
/-- what are_two_cells says of a row -/
def twoV (many : Int) (xs : List V) : Bool := cellsV many xs 2 && decide (xs.length = 2)
def spTwo (K : PySem.W.Frag) : Sp := fun vs H Q _ => ∃ (many : Int) (x : V), vs = [.int many, x] ∧
  ((∃ t : String, (∀ H1, Same H H1 → TyX K H1 x (.type t)) ∧ PySem.W.kitAny K (.type t) [.type "list", .type "tuple"] = some false ∧ ∀ H1, Same H H1 → Q (.bl false) H1) ∨
   (∃ (a : Addr) (xs : List V), x = .ref a ∧ (H a = some (.tup xs) ∨ H a = some (.lst xs)) ∧ (∀ y ∈ xs, Thing H y) ∧ xs.length < 64 ∧ ∀ H1, Same H H1 → Q (.bl (twoV many xs)) H1))
theorem ok_two {f fC : Addr} {fd fdC : FuncData} (F : Fun K "are_two_cells" "are_two_cells" s_are_two_cells f fd)
    (Gac : FnOk P w K mg base CX0 2 fC fdC ["many", "thing", "least"] (spCells K)) (gac : mg "are_cells" = some (.ref fC)) (kac : PySem.W.keepIn K (.ref fC) = true) (bac : Binds K fdC ["many", "thing", "least"] [])
    (m_len : mg "len" = none) : FnOk P w K mg base CX0 3 f fd ["many", "thing"] (spTwo K) := by
  refine F.ok sc_are_two_cells (fun vs H Q E h => ?_) (fun cdv A outer s H vs Q E hr h => ?_)
  · obtain ⟨m, x, rfl, _⟩ := h
    rfl
  · obtain ⟨m, x, rfl, h⟩ := h
    refine ⟨_, (pss_one (ps_ret (pe_and (pe_call Gac (hr.mono (by decide)) (by rfl) gac kac bac .nil pass0 (pa_cons (pv 0) (pa_cons (pv 1) (pa_cons pe_int pa_nil)))) (pe_one (pe_cmpR op_eq (pe_callB call_len_seq (by rfl) m_len boot_len (pa_cons (pv 1) pa_nil)) pe_int (nomark _)))))), ?_⟩
    refine ⟨_, rfl, _, rfl, m, x, 2, rfl, ?_⟩
    rcases h with ⟨t, ty, k, q⟩ | ⟨a, xs, rfl, ha, th, h64, q⟩
    · exact .inl ⟨t, ty, k, fun H1 e1 => ⟨false, rfl, q H1 e1⟩⟩
    · refine .inr ⟨a, xs, rfl, ha, th, h64, fun H1 e1 => ⟨_, rfl, ite2 (fun c1 => ?_) (fun c1 => ?_)⟩⟩
      · refine ⟨_, rfl, a, xs, rfl, ha.elim (fun z => .inr (.inl (.inl (e1 _ _ z)))) (fun z => .inl (.inl (.inl (e1 _ _ z)))), rfl, ?_⟩
        have zz := q H1 e1
        unfold twoV at zz
        rw [c1, Bool.true_and] at zz
        have ee : decide (V.int (xs.length : Nat) = V.int 2) = decide (xs.length = 2) := by
          refine decide_eq_decide.mpr ⟨fun e => ?_, fun e => by rw [e]; rfl⟩
          injection e with e
          omega
        rw [← ee] at zz
        exact zz
      · have zz := q H1 e1
        unfold twoV at zz
        rw [Bool.eq_false_iff.mpr c1, Bool.false_and] at zz
        exact zz
end
end K7
end
/-! ## KM -/
section
/-! ## more pure facts: couples put in order -/
namespace KL
def srt (c : Nat × Nat) : Nat × Nat := (min c.1 c.2, max c.1 c.2)
theorem srt_le (c : Nat × Nat) : (srt c).1 ≤ (srt c).2 := by unfold srt; simp only; omega
theorem srt_lt {c : Nat × Nat} (h : c.1 ≠ c.2) : (srt c).1 < (srt c).2 := by unfold srt; simp only; omega
theorem srt_of {c : Nat × Nat} (h : c.1 < c.2) : srt c = c := by
  obtain ⟨a, b⟩ := c
  unfold srt
  simp only at h ⊢
  rw [Nat.min_eq_left (by omega), Nat.max_eq_right (by omega)]
/-- two numbers put in order -/
theorem two_sorted {ms : List Int} {x y : Nat} (p : ms.Perm [(x : Int), (y : Int)]) (s : ms.Pairwise (· ≤ ·)) : ms = [((min x y : Nat) : Int), ((max x y : Nat) : Int)] := by
  have hl := p.length_eq
  match ms, hl with
  | [u, v], _ =>
    have huv : u ≤ v := (List.pairwise_cons.mp s).1 v (List.mem_singleton.mpr rfl)
    have hu : u ∈ [(x : Int), (y : Int)] := p.mem_iff.mp List.mem_cons_self
    rcases List.mem_cons.mp hu with e | e
    · subst e
      have := (List.Perm.cons_inv p).eq_singleton
      injection this with e
      subst e
      have hxy : x ≤ y := by omega
      rw [Nat.min_eq_left hxy, Nat.max_eq_right hxy]
    · rw [List.mem_singleton] at e
      subst e
      have p2 : [(y : Int), v].Perm [(y : Int), (x : Int)] := p.trans (List.Perm.swap ..)
      have := (List.Perm.cons_inv p2).eq_singleton
      injection this with e
      subst e
      have hxy : y ≤ x := by omega
      rw [Nat.min_eq_right hxy, Nat.max_eq_left hxy]
def lexLe (a b : Nat × Nat) : Prop := a.1 < b.1 ∨ (a.1 = b.1 ∧ a.2 ≤ b.2)
/-- a sorted list is told by its items -/
theorem uniq {α : Type} {le : α → α → Prop} (anti : ∀ a b, le a b → le b a → a = b) : ∀ {l m : List α}, l.Perm m → l.Pairwise le → m.Pairwise le → l = m
  | [], m, p, _, _ => p.symm.eq_nil.symm
  | x :: l, [], p, _, _ => absurd p.length_eq (by simp)
  | x :: l, y :: m, p, hl, hm => by
    have e : x = y := by
      rcases List.mem_cons.mp (p.mem_iff.mp (List.mem_cons_self (a := x) (l := l))) with e | hx
      · exact e
      · rcases List.mem_cons.mp (p.mem_iff.mpr (List.mem_cons_self (a := y) (l := m))) with e | hy
        · exact e.symm
        · exact anti _ _ ((List.pairwise_cons.mp hl).1 y hy) ((List.pairwise_cons.mp hm).1 x hx)
    subst e
    rw [uniq anti p.cons_inv (List.pairwise_cons.mp hl).2 (List.pairwise_cons.mp hm).2]
theorem lex_anti (a b : Nat × Nat) (h1 : lexLe a b) (h2 : lexLe b a) : a = b := by
  unfold lexLe at h1 h2
  exact Prod.ext (by omega) (by omega)
theorem int_anti (a b : Int) (h1 : a ≤ b) (h2 : b ≤ a) : a = b := by omega
/-- all couples of n cells -/
def allC (n : Nat) : List (Nat × Nat) := (List.range n).flatMap fun a => ((List.range n).filter fun b => decide (a ≠ b)).map fun b => (a, b)
/-- couples taken either way round hang together as the ordered ones do -/
theorem conn_srt {n : Nat} {cs es : List (Nat × Nat)} (h : Conn n cs) (hp : es.Perm (cs.map srt)) : Conn n es := by
  intro S h0 he
  refine h S h0 fun c hc => ?_
  have z := he (srt c) (hp.mem_iff.mpr (List.mem_map.mpr ⟨c, hc, rfl⟩))
  unfold srt at z
  simp only at z
  rcases Nat.le_total c.1 c.2 with q | q
  · rw [Nat.min_eq_left q, Nat.max_eq_right q] at z
    exact z
  · rw [Nat.min_eq_right q, Nat.max_eq_left q] at z
    exact z.symm
/-- what is reached from c over passing cells -/
inductive Rch (E : Nat → Nat → Prop) (ps : List Nat) (c : Nat) : Nat → Prop
  | base : Rch E ps c c
  | step {a b : Nat} (h : Rch E ps c a) (e : E a b) (p : b ∈ ps) : Rch E ps c b
theorem Rch.mono {E E' : Nat → Nat → Prop} {ps ps' : List Nat} {c x : Nat} (h : Rch E ps c x) (he : ∀ a b, E a b → E' a b) (hp : ∀ b ∈ ps, b ∈ ps') : Rch E' ps' c x := by
  induction h with
  | base => exact .base
  | step _ e p ih => exact .step ih (he _ _ e) (hp _ p)
/-- a closed list that holds c holds what is reached -/
theorem Rch.mem {E : Nat → Nat → Prop} {ps : List Nat} {c x : Nat} {fd : List Nat} (h : Rch E ps c x) (h0 : c ∈ fd) (hc : ∀ a b, a ∈ fd → E a b → b ∈ ps → b ∈ fd) : x ∈ fd := by
  induction h with
  | base => exact h0
  | step _ e p ih => exact hc _ _ ih e p
end KL
end
/-! ## P7 -/
section
open PySem PySem.Spec PyProof.Rows L2
namespace K7
abbrev N_spread : List Str := ["nearby", "cell", "passing", "found", "done", "here", "b"]
abbrev s_spread : Stmt := topS 14
theorem sc_spread : FnScope ["nearby", "cell", "passing", "found", "done", "here", "b"] ["nearby", "cell", "passing"] (defScope s_spread) := ⟨rfl, rfl, rfl, by decide +kernel, rfl, by decide +kernel, by decide +kernel⟩
theorem flat_ints : ∀ l : List Nat, (ints_ l).all flatV = true
  | [] => rfl
  | _ :: l => flat_ints l
theorem inV_ints (c : Nat) : ∀ l : List Nat, inV (.int (c : Nat)) (ints_ l) = decide (c ∈ l)
  | [] => rfl
  | y :: l => by
    show (eqV (.int (y : Nat)) (.int (c : Nat)) || inV (.int (c : Nat)) (ints_ l)) = _
    rw [inV_ints c l]
    have e : eqV (.int (y : Nat)) (.int (c : Nat)) = decide (c = y) := by
      show decide ((y : Int) = (c : Int)) = _
      exact decide_eq_decide.mpr (by omega)
    rw [e, ← Bool.decide_or]
    exact decide_eq_decide.mpr List.mem_cons.symm
section
variable {P : Program} {w : World} {K : PySem.W.Frag} {mg : Str → Option Value} {base : Heap}
def SqOf (H : Hp) (a : Addr) (xs : List V) : Prop := H a = some (.tup xs) ∨ H a = some (.lst xs)
theorem SqOf.same {H H' : Hp} {a : Addr} {xs : List V} (h : SqOf H a xs) (e : Same H H') : SqOf H' a xs := h.imp (e _ _) (e _ _)
theorem SqOf.sq {H : Hp} {a : Addr} {xs : List V} (h : SqOf H a xs) : SqL K H a xs ∨ SqT K H a xs := h.elim (fun z => .inr (.inl (.inl z))) fun z => .inl (.inl (.inl z))
def nbE (Nb : List (List Nat)) (a b : Nat) : Prop := ∃ l, Nb[a]? = some l ∧ b ∈ l
def SpInv (H : Hp) (nb pa F0 : Addr) (Nb : List (List Nat)) (ps : List Nat) (c m : Nat) (σ' : L2.St) (H' : Hp) : Prop := ∃ (fd : List Nat) (d : Nat) (y5 y6 : Option V), σ' = [some (.ref nb), some (.int (c : Nat)), some (.ref pa), some (.ref F0), some (.int (d : Nat)), y5, y6] ∧ But F0 H H' ∧ H' F0 = some (.lst (ints_ fd)) ∧ fd.Nodup ∧ c ∈ fd ∧ (∀ x ∈ fd, x < Nb.length) ∧ d ≤ fd.length ∧
      (∀ i a, i < d → fd[i]? = some a → ∀ l, Nb[a]? = some l → ∀ b ∈ l, b ∈ ps → b ∈ fd) ∧ m + d = Nb.length ∧ ∀ x ∈ fd, KL.Rch (nbE Nb) ps c x
/-- what spread finds: the cell, and all that is near to what is found -/
structure Found (Nb : List (List Nat)) (ps : List Nat) (c : Nat) (fd : List Nat) : Prop where
  nd : fd.Nodup
  me : c ∈ fd
  lt : ∀ x ∈ fd, x < Nb.length
  cl : ∀ a ∈ fd, ∀ l, Nb[a]? = some l → ∀ b ∈ l, b ∈ ps → b ∈ fd
  so : ∀ x ∈ fd, KL.Rch (nbE Nb) ps c x
def spSpread : Sp := fun vs H Q _ => ∃ (nb : Addr) (ts : List Addr) (Nb : List (List Nat)) (c : Nat) (pa : Addr) (ps : List Nat), vs = [.ref nb, .int c, .ref pa] ∧ H nb = some (.tup (ts.map V.ref)) ∧ TAt H ts Nb ∧ SqOf H pa (ints_ ps) ∧
  Nb.length ≤ 5 ∧ c < Nb.length ∧ (∀ l ∈ Nb, ∀ x ∈ l, x < Nb.length) ∧ ∀ H' q fd, Same H H' → H q = none → H' q = some (.lst (ints_ fd)) → Found Nb ps c fd → Q (.ref q) H'
theorem ok_spread {f : Addr} {fd : FuncData} (F : Fun K "spread" "spread" s_spread f fd) (m_len : mg "len" = none) : FnOk P w K mg base CX0 1 f fd ["nearby", "cell", "passing"] spSpread := by
  refine F.ok sc_spread (fun vs H Q E h => ?_) (fun cdv A outer s H vs Q E hr h => ?_)
  · obtain ⟨nb, ts, Nb, c, pa, ps, rfl, _⟩ := h
    rfl
  · obtain ⟨nb, ts, Nb, c, pa, ps, rfl, hnb, tN, hpa, h5, hc, hlt, q⟩ := h
    refine ⟨_, (pss_cons (ps_set (i := 3) sc_spread.nd rfl (by first | exact Or.inl rfl | exact Or.inr rfl) (pe_lst (pa_cons (pv 1) pa_nil)))
 (pss_cons (ps_set (i := 4) sc_spread.nd rfl (by first | exact Or.inl rfl | exact Or.inr rfl) pe_int)
 (pss_cons (ps_while PassesOwn.never (pt_cmpR op_lt (pv 4) (pe_callB call_len_seq (by rfl) m_len boot_len (pa_cons (pv 3) pa_nil)) (nomark _))
  (pss_cons (ps_set (i := 5) sc_spread.nd rfl (by first | exact Or.inl rfl | exact Or.inr rfl) (pe_ix ix_list (pv 3) (pv 4) (fun _ _ => rfl)))
 (pss_cons (ps_for PassesOwn.never rfl (pi_tup (pe_ix ix_tup (pv 0) (pv 5) (fun _ _ => rfl))) (pg_name (i := 6) sc_spread.nd rfl (by first | exact Or.inl rfl | exact Or.inr rfl))
  (pss_one (ps_if (pw_and (pt_cmpR op_in_seq (pv 6) (pv 2) (by with_unfolding_all rfl)) (pw_and1 (pt_cmpR op_notIn_seq (pv 6) (pv 3) (by with_unfolding_all rfl)))).pt
  (pss_one (ps_expr (pe_bm PySem.F.plainAttrs_list PySem.F.slot_list_append PySem.F.type_list_append mt_append (pv 3) (pa_cons (pv 6) pa_nil))))
  pss_nil)))
 (pss_one (ps_aug (i := 4) sc_spread.nd rfl (by first | exact Or.inl rfl | exact Or.inr rfl) pe_int ip_add)))))
 (pss_one (ps_ret (pv 3)))))), ?_⟩
    refine ⟨_, rfl, by show 1 ≤ sizeLine; decide, fun F0 nF => ?_⟩
    refine ⟨SpInv H nb pa F0 Nb ps c, ⟨Nb.length, [c], 0, none, none, rfl, ?_, upd_same, ?_, List.mem_singleton.mpr rfl, ?_, Nat.zero_le _, ?_, rfl, fun x hx => by rw [List.mem_singleton.mp hx]; exact .base⟩, fun m σ' H' wv => ?_⟩
    · exact fun b o hb e => by rw [upd_ne hb]; exact e
    · exact List.nodup_cons.mpr ⟨List.not_mem_nil, List.nodup_nil⟩
    · intro x hx
      rw [List.mem_singleton] at hx
      rw [hx]
      exact hc
    · exact fun i a hi => absurd hi (Nat.not_lt_zero _)
    · obtain ⟨fd, d, y5, y6, rfl, bt, hF, nd, hcm, lt, hd, cl, hm, so⟩ := wv
      have h1 : fd.length ≤ Nb.length := by
        have z := K7E.nodup_le fd (List.range Nb.length) nd fun x hx => List.mem_range.mpr (lt x hx)
        rw [List.length_range] at z
        exact z
      refine ⟨_, rfl, _, rfl, F0, _, rfl, .inl (.inl (.inl hF)), _, _, rfl, rfl, _, rfl, ite2 (fun c1 => ?_) (fun c1 => ?_)⟩
      · have c1' : d < fd.length := by
          have z : ((d : Nat) : Int) < (((ints_ fd).length : Nat) : Int) := of_decide_eq_true c1
          rw [show (ints_ fd).length = fd.length from List.length_map ..] at z
          omega
        refine ⟨SpInv H nb pa F0 Nb ps c (m - 1), fun σ2 H2 z => ⟨m - 1, by omega, z⟩, ?_⟩
        obtain ⟨a, ea⟩ : ∃ a, fd[d]? = some a := ⟨_, List.getElem?_eq_getElem c1'⟩
        have ma := List.mem_of_getElem? ea
        have la := lt a ma
        obtain ⟨l, el⟩ : ∃ l, Nb[a]? = some l := ⟨_, List.getElem?_eq_getElem la⟩
        have ltsl : a < ts.length := by rw [tN.len]; exact la
        obtain ⟨t, et⟩ : ∃ t, ts[a]? = some t := ⟨_, List.getElem?_eq_getElem ltsl⟩
        obtain ⟨l', el', ht⟩ := tN.get et
        have : l' = l := by rw [el] at el'; injection el' with e; exact e.symm
        subst this
        have sm : Same H H' := fun b o hb => bt b o (ne_of_none hb nF) hb
        refine ⟨_, rfl, _, rfl, F0, _, _, .int (a : Nat), rfl, rfl, .inl (.inl hF), atI_nat (by unfold ints_; rw [List.getElem?_map, ea]; rfl), ?_⟩
        refine ⟨_, rfl, _, rfl, nb, _, _, .ref t, rfl, rfl, .inl (.inl (sm _ _ hnb)), atI_nat (by rw [List.getElem?_map, et]; rfl), t, rfl, ⟨_, .inl (.inl (sm _ _ ht))⟩, for_tup (xs := ints_ l') (fun j σ2 H2 => ∃ (fd2 r : List Nat) (y6 : Option V), σ2 = [some (.ref nb), some (.int (c : Nat)), some (.ref pa), some (.ref F0), some (.int (d : Nat)), some (.int (a : Nat)), y6] ∧ But F0 H H2 ∧ H2 F0 = some (.lst (ints_ fd2)) ∧ fd2.Nodup ∧ fd2 = fd ++ r ∧ (∀ x ∈ fd2, x < Nb.length) ∧ (∀ b ∈ l'.take j, b ∈ ps → b ∈ fd2) ∧ ∀ x ∈ fd2, KL.Rch (nbE Nb) ps c x)
          ⟨fd, [], y6, rfl, bt, hF, nd, (List.append_nil _).symm, lt, fun b hb => (by cases hb), so⟩ (fun j σ2 H2 _ pv => ?_) (fun j x σ2 H2 hx pv => ?_) (fun σ2 H2 pv => ?_)⟩
        · obtain ⟨fd2, r, y6, _, bt2, _⟩ := pv
          exact .inl (.inl (bt2 t _ (ne_of_none ht nF) ht))
        · obtain ⟨fd2, r, y6, rfl, bt2, hF2, nd2, rfl, lt2, cl2, so2⟩ := pv
          have sm2 : Same H H2 := fun b o hb => bt2 b o (ne_of_none hb nF) hb
          unfold ints_ at hx
          rw [List.getElem?_map] at hx
          obtain ⟨b, eb, rfl⟩ := Option.map_eq_some_iff.mp hx
          have hbl := hlt l' (List.mem_of_getElem? el) b (List.mem_of_getElem? eb)
          have tk : l'.take (j + 1) = l'.take j ++ [b] := by rw [List.take_add_one, eb]; rfl
          refine ⟨_, rfl, _, rfl, pa, _, rfl, (hpa.same sm2).sq, rfl, flat_ints ps, _, rfl, ite2 (fun q1 => ?_) (fun q1 => ?_)⟩
          · have q1' : b ∈ ps := of_decide_eq_true ((inV_ints b ps).symm.trans q1)
            refine ⟨_, rfl, _, rfl, F0, _, rfl, .inl (.inl (.inl hF2)), rfl, flat_ints _, _, rfl, ite2 (fun q2 => ?_) (fun q2 => ?_)⟩
            · have q2' : b ∉ fd ++ r := by
                intro hb2
                have z : (!inV (.int (b : Nat)) (ints_ (fd ++ r))) = true := q2
                rw [inV_ints, decide_eq_true hb2] at z
                cases z
              have hl2 : (fd ++ r).length ≤ 5 := by
                have z := K7E.nodup_le (fd ++ r) (List.range Nb.length) nd2 fun x hx => List.mem_range.mpr (lt2 x hx)
                rw [List.length_range] at z
                omega
              refine ⟨_, rfl, .inl ⟨rfl, _, .inl (.inl hF2)⟩, _, rfl, F0, _, _, rfl, rfl, hF2, by unfold ints_; rw [List.length_map]; exact small1000 (by omega), ?_⟩
              refine ⟨(fd ++ r) ++ [b], r ++ [b], some (.int (b : Nat)), rfl, fun b' o hb' e => by rw [upd_ne hb']; exact bt2 b' o hb' e, by rw [upd_same]; exact congrArg (fun z => some (HO.lst z)) (List.map_append (f := fun c : Nat => V.int (c : Nat)) (l₁ := fd ++ r) (l₂ := [b])).symm, ?_, List.append_assoc .., fun x hx => ?_, fun x hx hp => ?_, fun x hx => ?_⟩
              · exact List.nodup_append.mpr ⟨nd2, List.nodup_cons.mpr ⟨List.not_mem_nil, List.nodup_nil⟩, fun a' ha' b' hb' e => by rw [List.mem_singleton] at hb'; exact q2' (by rw [← hb', ← e]; exact ha')⟩
              · rcases List.mem_append.mp hx with hx | hx
                · exact lt2 x hx
                · rw [List.mem_singleton] at hx
                  rw [hx]
                  exact hbl
              · rw [tk] at hx
                rcases List.mem_append.mp hx with hx | hx
                · exact List.mem_append_left _ (cl2 x hx hp)
                · exact List.mem_append_right _ hx
              · rcases List.mem_append.mp hx with hx | hx
                · exact so2 x hx
                · rw [List.mem_singleton.mp hx]
                  exact .step (so a ma) ⟨_, el, List.mem_of_getElem? eb⟩ q1'
            · have q2' : b ∈ fd ++ r := by
                refine Classical.byContradiction fun hn => q2 ?_
                show (!inV (.int (b : Nat)) (ints_ (fd ++ r))) = true
                rw [inV_ints, decide_eq_false hn]
                rfl
              refine ⟨fd ++ r, r, some (.int (b : Nat)), rfl, bt2, hF2, nd2, rfl, lt2, fun x hx hp => ?_, so2⟩
              rw [tk] at hx
              rcases List.mem_append.mp hx with hx | hx
              · exact cl2 x hx hp
              · rw [List.mem_singleton] at hx
                rw [hx]
                exact q2'
          · have q1' : b ∉ ps := fun hb => q1 ((inV_ints b ps).trans (decide_eq_true hb))
            refine iteF ?_
            refine ⟨fd ++ r, r, some (.int (b : Nat)), rfl, bt2, hF2, nd2, rfl, lt2, fun x hx hp => ?_, so2⟩
            rw [tk] at hx
            rcases List.mem_append.mp hx with hx | hx
            · exact cl2 x hx hp
            · rw [List.mem_singleton] at hx
              rw [hx] at hp
              exact absurd hp q1'
        · obtain ⟨fd2, r, y6, rfl, bt2, hF2, nd2, rfl, lt2, cl2, so2⟩ := pv
          rw [show (ints_ l').length = l'.length from List.length_map .., List.take_length] at cl2
          refine ⟨_, rfl, _, _, rfl, rfl, ?_⟩
          refine ⟨fd ++ r, d + 1, some (.int (a : Nat)), y6, rfl, bt2, hF2, nd2, List.mem_append_left _ hcm, lt2, by rw [List.length_append]; omega, fun i a' hi ea' l2 el2 b hb hp => ?_, by omega, so2⟩
          rw [List.getElem?_append_left (by omega)] at ea'
          rcases Nat.lt_or_ge i d with hid | hid
          · exact List.mem_append_left _ (cl i a' hid ea' l2 el2 b hb hp)
          · have : i = d := by omega
            subst this
            rw [ea] at ea'
            injection ea' with e3
            subst e3
            rw [el] at el2
            injection el2 with e4
            subst e4
            exact cl2 b hb hp
      · have c1' : ¬ d < fd.length := fun z => c1 (decide_eq_true (by rw [show (ints_ fd).length = fd.length from List.length_map ..]; omega))
        refine ⟨_, rfl, q H' F0 fd (fun b o hb => bt b o (ne_of_none hb nF) hb) nF hF ⟨nd, hcm, lt, fun a ha l hl b hb hp => ?_, so⟩⟩
        obtain ⟨i, hi, e⟩ := List.getElem_of_mem ha
        exact cl i a (by omega) (by rw [List.getElem?_eq_getElem hi, e]) l hl b hb hp
end
end K7
end
/-! ## P8 -/
section
open PySem PySem.Spec PyProof.Rows L2
namespace K7
abbrev N_nearby_cells : List Str := ["cells", "couples", "b", "a"]
abbrev s_nearby_cells : Stmt := topS 15
theorem sc_nearby_cells : FnScope ["cells", "couples", "b", "a"] ["cells", "couples"] (defScope s_nearby_cells) := ⟨rfl, rfl, rfl, by decide +kernel, rfl, by decide +kernel, by decide +kernel⟩
abbrev scA : Scope := { kind := ScopeKind.function, names := [(".0", NameKind.local), ("a", NameKind.cell), ("tuple", NameKind.globalImplicit), ("range", NameKind.globalImplicit), ("cells", NameKind.cell), ("couples", NameKind.cell)], isGenerator := false, isCoroutine := false }
def rTup_ (K : PySem.W.Frag) : List V → Hp → VK → Prop := fun xs H Q => ∃ p ys, xs = [V.ref p] ∧ ((SqL K H p ys ∧ ∀ l, H l = none → Q (.ref l) (upd H l (.tup ys))) ∨ SqT K H p ys ∧ Q (.ref p) H)
section
variable {P : Program} {w : World} {K : PySem.W.Frag} {mg : Str → Option Value} {base : Heap}
/-- the neighbours of each cell -/
def nearV (n : Nat) (es : List (Nat × Nat)) : List (List Nat) := (List.range n).map fun a => (List.range n).filter fun b => decide ((a, b) ∈ es) || decide ((b, a) ∈ es)
theorem ints_snoc (l : List Nat) (j : Nat) : ints_ (l ++ [j]) = ints_ l ++ [.int (j : Nat)] := by
  unfold ints_
  rw [List.map_append]
  rfl
theorem range_filter (p : Nat → Bool) (j : Nat) : (List.range (j + 1)).filter p = (List.range j).filter p ++ (if p j = true then [j] else []) := by
  rw [List.range_succ, List.filter_append, List.filter_cons]
  rfl
theorem dp_two {H : Hp} (k j : Nat) : DpAll K H [.int (0 + (k : Nat)), .int (0 + (j : Nat))] [.int (k : Nat), .int (j : Nat)] := by
  rw [Int.zero_add, Int.zero_add]
  exact .cons (.int _) (.cons (.int _) .nil)
def spNear : Sp := fun vs H Q _ => ∃ (n : Nat) (ca : Addr) (ts : List Addr) (es : List (Nat × Nat)), vs = [.int n, .ref ca] ∧ n ≤ 5 ∧ H ca = some (.lst (ts.map V.ref)) ∧ TAt H ts (pairs es) ∧ es.length ≤ 32 ∧
  ∀ H' q us, Same H H' → H q = none → H' q = some (.tup (us.map V.ref)) → TAt H' us (nearV n es) → Q (.ref q) H'
theorem ok_near {f : Addr} {fd : FuncData} (F : Fun K "nearby_cells" "nearby_cells" s_nearby_cells f fd) (m_range : mg "range" = none) (m_tuple : mg "tuple" = none) : FnOk P w K mg base CX0 1 f fd ["cells", "couples"] spNear := by
  refine F.ok sc_nearby_cells (fun vs H Q E h => ?_) (fun cdv A outer s H vs Q E hr h => ?_)
  · obtain ⟨n, ca, ts, es, rfl, _⟩ := h
    rfl
  · obtain ⟨n, ca, ts, es, rfl, hn, hca, tE, h32, q⟩ := h
    refine ⟨_, (pss_one (ps_ret (pe_callTy call_tuple_of (by rfl) m_tuple boot_tuple (pa_cons (pe_lc (own := [("a", 3)]) (g := gName 3) (tt := tYes) rfl sc_nearby_cells.nd (pi_range1 rfl m_range (pa_cons (pv 0) pa_nil)) (blkOk_by (own := [("a", 3)]) (N := N_nearby_cells) (sc := defScope s_nearby_cells) (by decide +kernel)) (fun _ _ _ _ _ => (pg_name (i := 3) sc_nearby_cells.nd rfl (by first | exact Or.inl rfl | exact Or.inr rfl))) (fun _ _ _ _ _ => pts_nil) (fun _ _ _ _ _ => (pe_callTy (show CallR _ (.type "tuple") (rTup_ K) from call_tuple_of) (by rfl) m_tuple boot_tuple (pa_cons (pe_lc (own := [("b", 2)]) (g := gName 2) rfl sc_nearby_cells.nd (pi_range1 rfl m_range (pa_cons (pv 0) pa_nil)) (blkOk_by (own := [("b", 2)]) (N := N_nearby_cells) (sc := scA) (by decide +kernel)) (fun _ _ _ _ _ => (pg_name (i := 2) sc_nearby_cells.nd rfl (by first | exact Or.inl rfl | exact Or.inr rfl))) (fun _ _ _ _ _ => (pts_one (PW.pt (pw_or (pt_cmpR (show OpR _ _ (rInD K) from op_inD (K7L.hu65 hr)) (pe_tup (pa_cons (pv 3) (pa_cons (pv 2) pa_nil))) (pv 1) (by with_unfolding_all rfl)) (pw_or1 (pt_cmpR (show OpR _ _ (rInD K) from op_inD (K7L.hu65 hr)) (pe_tup (pa_cons (pv 2) (pa_cons (pv 3) pa_nil))) (pv 1) (by with_unfolding_all rfl))))))) (fun _ _ _ _ _ => (pv 2))) pa_nil)))) pa_nil)))), ?_⟩
    refine ⟨_, rfl, _, rfl, by omega, by omega, fun D hD => lc_range (lo := 0) (n := n) (fun i H1 => Same H H1 ∧ ∃ us : List Addr, H1 D = some (.lst (us.map V.ref)) ∧ TAt H1 us ((nearV n es).take i) ∧ us.length ≤ i) ⟨same_new (Same.refl H) hD, [], upd_same, .nil, Nat.le_refl _⟩ (fun i H1 hi pv => ?_) (fun H1 pv => ?_)⟩
    · obtain ⟨e1, us, hD1, tU, lu⟩ := pv
      refine ⟨rfl, _, rfl, _, rfl, by omega, by omega, fun D2 hD2 => lc_range (lo := 0) (n := n) (fun j H2 => Same H1 H2 ∧ H2 D2 = some (.lst (ints_ ((List.range j).filter fun b => decide ((i, b) ∈ es) || decide ((b, i) ∈ es))))) ⟨same_new (Same.refl H1) hD2, upd_same⟩ (fun j H2 hj pv => ?_) (fun H2 pv => ?_)⟩
      · obtain ⟨e2, h2⟩ := pv
        have eA := e1.trans e2
        refine ⟨rfl, _, rfl, _, rfl, by show 2 ≤ sizeLine; decide, fun t nt => ?_⟩
        have s3 := same_new (o := .tup [.int (0 + (i : Nat)), .int (0 + (j : Nat))]) (Same.refl H2) nt
        refine ⟨_, rfl, intD [i, j], _, .tup (xs := [.int (0 + (i : Nat)), .int (0 + (j : Nat))]) (.inl (.inl upd_same)) (dp_two i j), .lst (.inl (.inl (s3 _ _ (eA _ _ hca)))) (dp_rows (tE.same (eA.trans s3))), shaped_ints _, shaped_rows _, ?_⟩
        rw [any_rows]
        have e2b := e2
        refine ⟨_, rfl, ite2 (fun q1 => ?_) (fun q1 => ?_)⟩
        · have g : ∀ {b : Addr} {o : HO}, H2 b = some o → upd H2 t (.tup [.int (0 + (i : Nat)), .int (0 + (j : Nat))]) b = some o := fun hb => s3 _ _ hb
          refine ⟨_, rfl, _, g h2, by unfold ints_; rw [List.length_map]; exact small1000 (Nat.le_trans (List.length_filter_le _ _) (by rw [List.length_range]; omega)), fun b o hb => ?_, ?_⟩
          · rw [upd_ne (ne_of_none hb hD2)]
            exact g (e2 _ _ hb)
          · rw [upd_same, range_filter, if_pos (by rw [q1]; rfl), Int.zero_add]
            rw [ints_snoc]
        · refine ⟨_, rfl, _, rfl, by show 2 ≤ sizeLine; decide, fun t2 nt2 => ?_⟩
          have s4 := same_new (o := .tup [.int (0 + (j : Nat)), .int (0 + (i : Nat))]) s3 nt2
          refine ⟨_, rfl, intD [j, i], _, .tup (xs := [.int (0 + (j : Nat)), .int (0 + (i : Nat))]) (.inl (.inl upd_same)) (dp_two j i), .lst (.inl (.inl (s4 _ _ (eA _ _ hca)))) (dp_rows (tE.same (eA.trans s4))), shaped_ints _, shaped_rows _, ?_⟩
          rw [any_rows]
          refine ⟨_, rfl, ite2 (fun q2 => ?_) (fun q2 => ?_)⟩
          · refine ⟨_, rfl, _, s4 _ _ h2, by unfold ints_; rw [List.length_map]; exact small1000 (Nat.le_trans (List.length_filter_le _ _) (by rw [List.length_range]; omega)), fun b o hb => ?_, ?_⟩
            · rw [upd_ne (ne_of_none hb hD2)]
              exact s4 _ _ (e2 _ _ hb)
            · rw [upd_same, range_filter, if_pos (by rw [q2, Bool.or_true]), Int.zero_add]
              rw [ints_snoc]
          · refine ⟨e2.trans s4, ?_⟩
            rw [range_filter, if_neg (by rw [Bool.eq_false_iff.mpr q1, Bool.eq_false_iff.mpr q2]; decide), List.append_nil]
            exact s4 _ _ h2
      · obtain ⟨e2, h2⟩ := pv
        have eA := e1.trans e2
        refine ⟨D2, _, rfl, .inl ⟨.inl (.inl h2), fun l nl => ?_⟩⟩
        have s4 := same_new (o := .tup (ints_ ((List.range n).filter fun b => decide ((i, b) ∈ es) || decide ((b, i) ∈ es)))) (Same.refl H2) nl
        have hD4 := s4 _ _ (e2 _ _ hD1)
        have tk : (nearV n es).take (i + 1) = (nearV n es).take i ++ [(List.range n).filter fun b => decide ((i, b) ∈ es) || decide ((b, i) ∈ es)] := by
          rw [List.take_add_one]
          congr 1
          unfold nearV
          rw [List.getElem?_map, List.getElem?_range hi]
          rfl
        have up : ∀ b xs, upd H2 l (.tup (ints_ ((List.range n).filter fun b => decide ((i, b) ∈ es) || decide ((b, i) ∈ es)))) b = some (.tup xs) → upd (upd H2 l (.tup (ints_ ((List.range n).filter fun b => decide ((i, b) ∈ es) || decide ((b, i) ∈ es))))) D (.lst (us.map V.ref ++ [.ref l])) b = some (.tup xs) := fun b xs hb => by
          rw [upd_ne (fun z => by rw [z, hD4] at hb; cases hb)]
          exact hb
        refine ⟨_, hD4, by rw [List.length_map]; exact small1000 (by omega), fun b o hb => ?_, us ++ [l], by rw [upd_same, List.map_append]; rfl, ?_, by rw [List.length_append, List.length_singleton]; omega⟩
        · rw [upd_ne (ne_of_none hb hD)]
          exact s4 _ _ (eA _ _ hb)
        · rw [tk]
          exact ((tU.same (e2.trans s4)).mono up).append (.cons (up _ _ upd_same) .nil)
    · obtain ⟨e1, us, hD1, tU, lu⟩ := pv
      rw [List.take_of_length_le (by unfold nearV; rw [List.length_map, List.length_range]; exact Nat.le_refl _)] at tU
      refine ⟨D, _, rfl, .inl ⟨.inl (.inl hD1), fun l nl => ?_⟩⟩
      have s3 := same_new (o := .tup (us.map V.ref)) e1 nl
      refine q _ l us s3 (e1.free nl) upd_same (tU.same (same_new (Same.refl H1) nl))
end
end K7
end
/-! ## P9 -/
section
open PySem PySem.Spec PyProof.Rows L2
namespace K7
abbrev N_hang_together : List Str := ["cells", "couples"]
abbrev s_hang_together : Stmt := topS 16
theorem sc_hang_together : FnScope ["cells", "couples"] ["cells", "couples"] (defScope s_hang_together) := ⟨rfl, rfl, rfl, by decide +kernel, rfl, by decide +kernel, by decide +kernel⟩
section
variable {P : Program} {w : World} {K : PySem.W.Frag} {mg : Str → Option Value} {base : Heap}
def spHang : Sp := fun vs H Q _ => ∃ (n : Nat) (ca : Addr) (ts : List Addr) (es : List (Nat × Nat)), vs = [.int n, .ref ca] ∧ 0 < n ∧ n ≤ 5 ∧ H ca = some (.lst (ts.map V.ref)) ∧ TAt H ts (pairs es) ∧ es.length ≤ 32 ∧
  (∀ e ∈ es, e.1 < n ∧ e.2 < n) ∧ KL.Conn n es ∧ ∀ H', Same H H' → Q (.bl true) H'
theorem ok_hang {f fN fS : Addr} {fd fdN fdS : FuncData} (F : Fun K "hang_together" "hang_together" s_hang_together f fd)
    (Gnc : FnOk P w K mg base CX0 1 fN fdN ["cells", "couples"] spNear) (gnc : mg "nearby_cells" = some (.ref fN)) (knc : PySem.W.keepIn K (.ref fN) = true) (bnc : Binds K fdN ["cells", "couples"] [])
    (Gsp : FnOk P w K mg base CX0 1 fS fdS ["nearby", "cell", "passing"] spSpread) (gsp : mg "spread" = some (.ref fS)) (ksp : PySem.W.keepIn K (.ref fS) = true) (bsp : Binds K fdS ["nearby", "cell", "passing"] [])
    (m_len : mg "len" = none) (m_list : mg "list" = none) (m_range : mg "range" = none) : FnOk P w K mg base CX0 2 f fd ["cells", "couples"] spHang := by
  refine F.ok sc_hang_together (fun vs H Q E h => ?_) (fun cdv A outer s H vs Q E hr h => ?_)
  · obtain ⟨n, ca, ts, es, rfl, _⟩ := h
    rfl
  · obtain ⟨n, ca, ts, es, rfl, n0, hn, hca, tE, h32, elt, cn, q⟩ := h
    refine ⟨_, (pss_one (ps_ret (pe_cmpR op_eq (pe_callB call_len_seq (by rfl) m_len boot_len (pa_cons (pe_call Gsp (hr.mono (by decide)) (by rfl) gsp ksp bsp .nil pass0 (pa_cons (pe_call Gnc (hr.mono (by decide)) (by rfl) gnc knc bnc .nil pass0 (pa_cons (pv 0) (pa_cons (pv 1) pa_nil))) (pa_cons pe_int (pa_cons (pe_callTy (K7E.cr_list_rng rfl) (by rfl) m_list boot_list (pa_cons (pe_callTy K7E.cr_range1 (by rfl) m_range boot_range (pa_cons (pv 0) pa_nil)) pa_nil)) pa_nil)))) pa_nil)) (pv 0) (nomark _)))), ?_⟩
    refine ⟨_, rfl, _, rfl, n, ca, ts, es, rfl, hn, hca, tE, h32, fun H1 nb us e1 nf1 hnb tU => ?_⟩
    refine ⟨_, rfl, n, rfl, fun p1 np1 => ?_⟩
    refine ⟨p1, n, rfl, upd_same, by omega, fun p2 np2 => ?_⟩
    have s1 := same_new (o := .rng 0 n) (Same.refl H1) np1
    have s2 := same_new (o := .lst (K7E.upTo n)) s1 np2
    have hps : upd (upd H1 p1 (.rng 0 n)) p2 (.lst (K7E.upTo n)) p2 = some (.lst (ints_ (List.range n))) := upd_same
    generalize upd (upd H1 p1 (.rng 0 n)) p2 (.lst (K7E.upTo n)) = H2 at s2 hps ⊢
    have ln : (nearV n es).length = n := by unfold nearV; rw [List.length_map, List.length_range]
    have hget : ∀ a, a < n → (nearV n es)[a]? = some ((List.range n).filter fun b => decide ((a, b) ∈ es) || decide ((b, a) ∈ es)) := fun a ha => by
      unfold nearV
      rw [List.getElem?_map, List.getElem?_range ha]
      rfl
    refine ⟨nb, us, nearV n es, 0, p2, List.range n, rfl, s2 _ _ hnb, tU.same s2, .inr hps, by rw [ln]; exact hn, by rw [ln]; exact n0, fun l hl x hx => ?_, fun H3 qa fd e3 nq hq fo => ?_⟩
    · rw [ln]
      unfold nearV at hl
      obtain ⟨a, _, rfl⟩ := List.mem_map.mp hl
      exact List.mem_range.mp (List.mem_filter.mp hx).1
    · have hlt : ∀ x ∈ fd, x < n := fun x hx => by have z := fo.lt x hx; rw [ln] at z; exact z
      have all := KL.conn_closed cn fo.me fun a b hab ha => by
        have hb : b < n := by
          rcases hab with z | z
          · exact (elt _ z).2
          · exact (elt _ z).1
        refine fo.cl a ha _ (hget a (hlt a ha)) b (List.mem_filter.mpr ⟨List.mem_range.mpr hb, ?_⟩) (List.mem_range.mpr hb)
        rcases hab with z | z
        · rw [decide_eq_true z]; rfl
        · rw [decide_eq_true z, Bool.or_true]
      have len := KL.all_len fo.nd hlt all
      refine ⟨qa, _, rfl, .inl (.inl (.inl hq)), _, rfl, rfl, ?_⟩
      have lq : (ints_ fd).length = n := by unfold ints_; rw [List.length_map]; exact len
      rw [lq, decide_eq_true rfl]
      exact q H3 (e1.trans (s2.trans e3))
end
end K7
end
/-! ## ES -/
section
/-! A set comprehension of tuples of ints, and how many there are in such a set. -/
namespace K7S
open PySem PySem.Spec PyProof.Rows L2
abbrev eS (w : World) : Obj := { cls := .type "set", dict := none, data := .set #[] 0 (.fresh 0 0 (!w.params.followText "set-order")) }
abbrev eD : Obj := { cls := .type "dict", data := .dict #[] }
section
variable {X : Cx}
/-- one more tuple -/
theorem addT_ok {pins : List (Addr × Obj)} {τ : L2.St} {H : Hp} {s : Shared} {E : Value → Shared → Prop} {D t : Addr} {L : List (Addr × List Int)} {k : List Int} {Q : Value → Shared → Prop} (I : Inv X pins τ H s) (hD : H D = some (SetTO X.prog X.w D L)) (ht : ∀ p ∈ L, SqT X.K H p.1 (p.2.map V.int)) (hy : SqT X.K H t (k.map V.int)) (hf : L.length + 1 < 64) (hu : X.A.units + 1 < cLine)
    (h : ∀ s' L', (k ∈ L.map (·.2) → L' = L) → (k ∉ L.map (·.2) → L'.Perm ((t, k) :: L)) → Inv X pins τ (upd H D (SetTO X.prog X.w D L')) s' → Q .none s') : wpAny (model X.prog X.w) X.A (call (.builtin "set.add") [.ref D, .ref t]) Q E s := by
  obtain ⟨es, ep, tb, R⟩ := SetT0.full (I.hok D _ hD).1 fun p hp => I.isT (ht p hp)
  obtain ⟨o, ho, hex, hd⟩ := id R.ob
  have hT : s.TypeIs (.ref D) "set" := ⟨o, ho, hex.1⟩
  refine wpAny_call_entry F.slot_set_add hT F.entry_set_add ?_ (F.args_set_add_2 _ _)
  unfold Builtin.«set.add» Builtin.Frozenset.oneOther
  simp only [List.isEmpty_nil, bind_assoc]
  unfold Builtin.Frozenset.addrOf setAdd
  refine wpAny_bind (wpAny_pure ?_)
  try dsimp only
  refine wpAny_bind (wpAny_pure ?_)
  try dsimp only
  refine wpAny_bind (wpAny_holding (wpAny_bind (wpAny_pyHash_tuple (show X.A.units + 1 < cLine from hu) (I.isT hy) ?_)))
  refine add_at (s := { s with toks := s.toks + (k.length + 1) }) R (I.isT hy) (show X.A.units + 1 < cLine from hu) hf fun b h' L' es' ep' tb' sb R' c1 c2 => ?_
  show wpAny _ _ (ret Value.none) _ _ _
  obtain ⟨o', ho', _⟩ := id R'.ob
  exact wpAny_pure ⟨_, rfl, h _ L' c1 c2 (I.write (e := D) (t' := s.toks + (k.length + 1)) (by rw [hD]; trivial) (.inl rfl) (fun b u hb hu => (sb.2 b hb).trans hu) ⟨o', ho'⟩ (setTO_new R'.t0))⟩
/-- how many -/
theorem call_lenT : CallR X (.builtin "len") (fun xs H Q => ∃ a L, xs = [V.ref a] ∧ H a = some (SetTO X.prog X.w a L) ∧ (∀ p ∈ L, SqT X.K H p.1 (p.2.map V.int)) ∧ Q (.int (L.length : Nat)) H) := by
  intro pins s τ H xs us Q I r h
  obtain ⟨a, L, rfl, ha, ht, q⟩ := h
  rw [Vals.ref1 r]
  obtain ⟨es, ep, tb, R⟩ := SetT0.full (I.hok a _ ha).1 fun p hp => I.isT (ht p hp)
  obtain ⟨o, ho, hex, hd⟩ := id R.ob
  have n1 := R.size
  have n2 := R.few
  exact call_len_set ho hex hd R.fits (by omega) ⟨.int (L.length : Nat), H, I.tok _, ⟨_, by rw [n1]⟩, q⟩
/-- {elt for target in iter}, elt a tuple of ints: D the new set -/
def tSt (P : Program) (w : World) (K : PySem.W.Frag) (wi : TI) (g : TG) (te : TE) (vs : List Nat) : TE := fun τ H Q => wi τ H fun J H1 => ∀ D, H1 D = none → ∃ W : Nat → Nat → Hp → Prop, (∃ m, W 0 m (upd H1 D (SetTO P w D []))) ∧ ∀ i m H, W i m H →
  (J.stop i H ∧ Q (.ref D) H) ∨ (J.go i H ∧ ∃ Nx : Hp → Prop, (∀ H', Nx H' → ∃ m', m' < m ∧ W (i + 1) m' H') ∧ ∀ x H', J.yld i H x H' → g x (wipe τ vs) H' fun τ2 H3 => wipe τ2 vs = wipe τ vs ∧
    te τ2 H3 fun y H4 => ∃ (t : Addr) (k : List Int) (L : List (Addr × List Int)), y = .ref t ∧ SqT K H4 t (k.map V.int) ∧ H4 D = some (SetTO P w D L) ∧ (∀ p ∈ L, SqT K H4 p.1 (p.2.map V.int)) ∧ L.length + 1 < 64 ∧
      ∀ L', (k ∈ L.map (·.2) → L' = L) → (k ∉ L.map (·.2) → L'.Perm ((t, k) :: L)) → Nx (upd H4 D (SetTO P w D L')))
theorem fresh0 (P : Program) (w : World) (h : Heap) : SetT0 P w (h.push (eS w)) h.objs.size [] := (setTR_fresh (P := P) (w := w) (h := h.push (eS w)) (a := h.objs.size) (Heap.get?_push_size _ rfl)).t0
/-- as a value -/
theorem pe_st {elt tg iter : Expr} {scope : Scope} {own : List (PySem.Str × Nat)} {pos : Pos} {wi : TI} {g : TG} {te : TE} (hc : X.calm = true) (hu : X.A.units + 1 < cLine) (hN : X.N.Nodup) (hi : PI X tg iter wi) (ok : BlkOk X.N X.env.scope scope own)
    (hg : ∀ (s : Shared) (H : Hp) (C : Addr) (cl : List (PySem.Str × Addr)) (fp : List Addr), PG (X.blk s H scope (compEnvC scope cl C X.env) fp) tg g) (he : ∀ (s : Shared) (H : Hp) (C : Addr) (cl : List (PySem.Str × Addr)) (fp : List Addr), PE (X.blk s H scope (compEnvC scope cl C X.env) fp) elt te)
    (hs : ∀ x, foldedSetIterable iter X.env x = pure x := by intro _; rfl) : PE X (.SetComp elt [⟨tg, iter, [], 0⟩] scope pos) (tSt X.prog X.w X.K wi g te (own.map (·.2))) := by
  refine ⟨fun pins s τ H Q I h => ?_⟩
  rw [PpSet.eval_SetComp]
  have hfree : ∀ z ∈ scope.names, z.2 = .free → ∃ c, X.env.cells.lookup z.1 = some c := fun z hz e => (ok.free z hz e).elim (fun k => I.ok.has _ (.inl k)) fun k => I.ok.has _ (.inr k)
  refine wpAny_comprehension_free (use := none) rfl hs (closure_ok hfree) ok.kind (fun z hz e => by rw [ok.uniq z hz, e]) (thn (hi.run pins s τ H _ I h) fun xv s1 hx => thn hx fun itv s2 z2 => ?_)
  obtain ⟨it, fp, tn, J, H2, rfl, I2, T, st2, f2, q⟩ := z2
  refine PpSet.newSet_ok (newEnv_comp ?_)
  show codeAny _ _ (.compStart (.SetComp elt [⟨tg, iter, [], 0⟩] scope pos) 0 (.ref it) (.ref s2.heap.objs.size) (compEnvC scope (cellsFrom ((s2.heap.push (eS X.w)).objs.size + 1) scope.names (cloFrom X.env.cells scope.names [])) (s2.heap.push (eS X.w)).objs.size X.env)) _ { s2 with heap := pushCells ((s2.heap.push (eS X.w)).push eD) scope.names }
  have nD : H2 s2.heap.objs.size = none := I2.hok.fresh (Nat.le_refl _)
  have IS : Inv X pins τ (upd H2 s2.heap.objs.size (SetTO X.prog X.w s2.heap.objs.size [])) { s2 with heap := s2.heap.push (eS X.w) } := I2.laid (t' := s2.toks) (fun b o e => Heap.get?_push_of_some _ e) (Nat.le_refl _) (setTO_new (fresh0 _ _ _))
  have stS : tn 0 (s2.heap.push (eS X.w)) := T.keep _ _ _ st2 fun b _ o e => Heap.get?_push_of_some _ e
  have fS : ∀ b ∈ fp, FpOk X pins (upd H2 s2.heap.objs.size (SetTO X.prog X.w s2.heap.objs.size [])) b ∧ b < (s2.heap.push (eS X.w)).objs.size := fun b hb => by
    obtain ⟨o, e, _⟩ := T.obj _ _ st2 b hb
    have l1 := Heap.lt_size e
    exact ⟨⟨by rw [upd_ne (Nat.ne_of_lt l1)]; exact (f2 b hb).1, (f2 b hb).2⟩, by rw [Heap.size_push]; exact Nat.lt_succ_of_lt l1⟩
  obtain ⟨W, ⟨m0, w0⟩, turn⟩ := q _ nD
  have IB := block_start IS ok hN fS
  have stB : tn 0 (pushCells ((s2.heap.push (eS X.w)).push eD) scope.names) := T.keep _ _ _ stS fun b _ o e => pushCells_keeps _ _ _ _ (Heap.get?_push_of_some _ e)
  generalize s2.heap.objs.size = D at *
  generalize upd H2 D (SetTO X.prog X.w D []) = HS at IS IB w0 fS
  generalize eS3 : ({ s2 with heap := s2.heap.push (eS X.w) } : Shared) = s3 at IS IB
  have e3 : s2.heap.push (eS X.w) = s3.heap := by rw [← eS3]
  rw [e3] at fS stS stB ⊢
  have e4 : ({ s2 with heap := pushCells (s3.heap.push eD) scope.names } : Shared) = { s3 with heap := pushCells (s3.heap.push eD) scope.names } := by rw [← eS3]
  rw [e4]
  have pg := hg s3 HS s3.heap.objs.size (cellsFrom (s3.heap.objs.size + 1) scope.names (cloFrom X.env.cells scope.names [])) fp
  have pe := he s3 HS s3.heap.objs.size (cellsFrom (s3.heap.objs.size + 1) scope.names (cloFrom X.env.cells scope.names [])) fp
  generalize hce : compEnvC scope (cellsFrom (s3.heap.objs.size + 1) scope.names (cloFrom X.env.cells scope.names [])) s3.heap.objs.size X.env = ce at IB pg pe ⊢
  have cL : ce.locals = s3.heap.objs.size := by rw [← hce]; rfl
  generalize hs4 : ({ s3 with heap := pushCells (s3.heap.push eD) scope.names } : Shared) = s4 at IB ⊢
  have st4 : tn 0 s4.heap := by rw [← hs4]; exact stB
  have nf : ∀ b ∈ fp, HS b = none := fun b hb => (fS b hb).1.1
  have stat : ∀ {τ' : L2.St} {H' : Hp} {s' : Shared}, Inv (X.blk s3 HS scope ce fp) [] τ' H' s' → (∀ b ∈ fp, H' b = none) → ∀ b ∈ fp, FpOk (X.blk s3 HS scope ce fp) [] H' b := fun {τ' H' s'} I' hn b hb =>
    ⟨hn b hb, (I'.ok.exf b hb).1, I'.ok.exfs b hb, .inl hb, fun x c e => (I'.ok.exf b hb).2 x c e, fun p hp => absurd (show p ∈ ([] : List (Addr × Obj)) ++ [] from hp) (by simp)⟩
  suffices loop : codeAny (model X.prog X.w) X.A (.compLoop (.SetComp elt [⟨tg, iter, [], 0⟩] scope pos) 0 (.ref it) (.ref D) ce) (compPost (model X.prog X.w) X.A X.xe none (EP X pins τ Q) (.ref D) s3.heap.objs.size) s4 from PpSet.codeAny_compStart_set loop (T.self X.A 0 _ _ _ st4 loop)
  refine PpSet.compLoopS_any (fun n s' => ∃ i H', Inv (X.blk s3 HS scope ce fp) [] (wipe τ (own.map (·.2))) H' s' ∧ tn i s'.heap ∧ (∀ b ∈ fp, H' b = none) ∧ W i n H') (fun n s5 z5 => ?_) m0 ⟨0, HS, IB, st4, nf, w0⟩
  obtain ⟨i, H5, I5, st5, n5, w5⟩ := z5
  rcases turn i n H5 w5 with ⟨stop, qq⟩ | ⟨go, Nx, hNx, step⟩
  · refine thnF (T.done (X.blk s3 HS scope ce fp) rfl rfl rfl hc i [] s5 _ H5 (fun _ _ => False) I5 (stat I5 n5) st5 stop) fun r s6 ⟨hr, I6⟩ => ?_
    subst hr
    have I7 : Inv X pins τ H5 s6 := IS.call' (ch := fp) I6.os I6.base I6.hok I6.bare fun b hb => ⟨(fS b hb).1.2.2.2.1, (fS b hb).1.2.1, (fS b hb).1.2.2.2.2.1, (fS b hb).1.2.2.2.2.2⟩
    have nC : H5 s3.heap.objs.size = none := by rw [← cL]; exact I6.free
    obtain ⟨m, hn, _⟩ := I6.loc
    have hn : s6.heap.Ns s3.heap.objs.size m := by rw [← cL]; exact hn
    obtain ⟨f0, f1, f2', f3, f4, f5⟩ := IS.fpOk (Nat.le_refl _) nC
    exact ⟨m, hn, fun h'' sb => ⟨.ref D, H5, I7.turned (t' := s6.toks) (fun b o hb e => (sb.2 b hb).trans e) f0 f1 f3 f4 f5, rfl, qq⟩⟩
  · refine thnF (T.item (X.blk s3 HS scope ce fp) rfl rfl rfl hc i [] s5 _ H5 (fun _ _ => False) I5 (stat I5 n5) st5 go) fun r s6 ⟨u, hr, h6⟩ => ?_
    subst hr
    refine thnF h6 fun _ s7 ⟨x, H7, I7, r7, y7, st7, n7⟩ => ?_
    refine thnF (pg.run _ s7 _ H7 x u _ (I7.pinned (stat I7 n7) (T.obj _ _ st7)) r7 (step x H7 y7)) fun _ s8 ⟨τ8, H8, I8, hw8, q8⟩ => ?_
    refine wpAny_tests_nil ?_
    rw [if_pos rfl]
    refine thnF (pe.run _ s8 τ8 H8 _ I8 q8) fun z s10 ⟨yv, H10, I10, r10, t, k, L, ey, hy, hD10, hL, hlt, nx⟩ => ?_
    subst ey
    cases (show z = Value.ref t from r10)
    refine addT_ok (X := X.blk s3 HS scope ce fp) I10 hD10 hL hy hlt hu fun s11 L' c1 c2 I11 => ?_
    obtain ⟨m', hm, w'⟩ := hNx _ (nx L' c1 c2)
    have pin' : ∀ b ∈ fp, ∀ o, s7.heap.get? b = some o → s11.heap.get? b = some o ∧ (upd H10 D (SetTO X.prog X.w D L')) b = none := fun b hb o e =>
      let z := I11.pin (b, o) (List.mem_append_right _ (List.mem_append_right _ (mem_pinsAt hb e)))
      ⟨z.1, z.2.1⟩
    refine ⟨m', hm, i + 1, _, (I11.unpinned (pins := [])).weak (by rw [← hw8, wipe_length]) (fun j v e => (wipe_some (by rw [hw8]; exact e)).1), T.keep _ _ _ st7 fun b hb o e => (pin' b hb o e).1, fun b hb => ?_, w'⟩
    obtain ⟨o, e, _⟩ := T.obj _ _ st7 b hb
    exact (pin' b hb o e).2
/-- over a list that the block leaves as it is -/
theorem st_list {P : Program} {w : World} {K : PySem.W.Frag} {a : Addr} {xs : List V} {g : TG} {te : TE} {vs : List Nat} {τ : L2.St} {H1 : Hp} {D : Addr} {Qd : Hp → Prop} (Pv : Nat → Hp → Prop) (h0 : Pv 0 (upd H1 D (SetTO P w D []))) (hl : ∀ i H, i ≤ xs.length → Pv i H → SqL K H a xs)
    (hs : ∀ i x H, xs[i]? = some x → Pv i H → g x (wipe τ vs) H fun τ2 H3 => wipe τ2 vs = wipe τ vs ∧
      te τ2 H3 fun y H4 => ∃ (t : Addr) (k : List Int) (L : List (Addr × List Int)), y = .ref t ∧ SqT K H4 t (k.map V.int) ∧ H4 D = some (SetTO P w D L) ∧ (∀ p ∈ L, SqT K H4 p.1 (p.2.map V.int)) ∧ L.length + 1 < 64 ∧
      ∀ L', (k ∈ L.map (·.2) → L' = L) → (k ∉ L.map (·.2) → L'.Perm ((t, k) :: L)) → Pv (i + 1) (upd H4 D (SetTO P w D L'))) (hd : ∀ H, Pv xs.length H → Qd H) :
    ∃ W : Nat → Nat → Hp → Prop, (∃ m, W 0 m (upd H1 D (SetTO P w D []))) ∧ ∀ i m H, W i m H →
      ((Itl K a).stop i H ∧ Qd H) ∨ ((Itl K a).go i H ∧ ∃ Nx : Hp → Prop, (∀ H', Nx H' → ∃ m', m' < m ∧ W (i + 1) m' H') ∧ ∀ x H', (Itl K a).yld i H x H' → g x (wipe τ vs) H' fun τ2 H3 => wipe τ2 vs = wipe τ vs ∧
        te τ2 H3 fun y H4 => ∃ (t : Addr) (k : List Int) (L : List (Addr × List Int)), y = .ref t ∧ SqT K H4 t (k.map V.int) ∧ H4 D = some (SetTO P w D L) ∧ (∀ p ∈ L, SqT K H4 p.1 (p.2.map V.int)) ∧ L.length + 1 < 64 ∧
      ∀ L', (k ∈ L.map (·.2) → L' = L) → (k ∉ L.map (·.2) → L'.Perm ((t, k) :: L)) → Nx (upd H4 D (SetTO P w D L'))) := by
  refine ⟨fun i m H => m + i = xs.length ∧ Pv i H, ⟨xs.length, rfl, h0⟩, fun i m H z => ?_⟩
  obtain ⟨hm, p⟩ := z
  have q := hl i H (by omega) p
  rcases Nat.lt_or_ge i xs.length with lt | ge
  · refine .inr ⟨⟨xs, xs[i], q, List.getElem?_eq_getElem lt⟩, Pv (i + 1), fun H' p' => ⟨m - 1, by omega, by omega, p'⟩, fun x H' y => ?_⟩
    obtain ⟨rfl, y⟩ := y
    exact hs i x _ (y xs q) p
  · obtain rfl : i = xs.length := by omega
    exact .inl ⟨⟨xs, q, Nat.le_refl _⟩, hd H p⟩
/-- over a tuple that the block leaves as it is -/
theorem st_tup {P : Program} {w : World} {K : PySem.W.Frag} {a : Addr} {xs : List V} {g : TG} {te : TE} {vs : List Nat} {τ : L2.St} {H1 : Hp} {D : Addr} {Qd : Hp → Prop} (Pv : Nat → Hp → Prop) (h0 : Pv 0 (upd H1 D (SetTO P w D []))) (hl : ∀ i H, i ≤ xs.length → Pv i H → SqT K H a xs)
    (hs : ∀ i x H, xs[i]? = some x → Pv i H → g x (wipe τ vs) H fun τ2 H3 => wipe τ2 vs = wipe τ vs ∧
      te τ2 H3 fun y H4 => ∃ (t : Addr) (k : List Int) (L : List (Addr × List Int)), y = .ref t ∧ SqT K H4 t (k.map V.int) ∧ H4 D = some (SetTO P w D L) ∧ (∀ p ∈ L, SqT K H4 p.1 (p.2.map V.int)) ∧ L.length + 1 < 64 ∧
      ∀ L', (k ∈ L.map (·.2) → L' = L) → (k ∉ L.map (·.2) → L'.Perm ((t, k) :: L)) → Pv (i + 1) (upd H4 D (SetTO P w D L'))) (hd : ∀ H, Pv xs.length H → Qd H) :
    ∃ W : Nat → Nat → Hp → Prop, (∃ m, W 0 m (upd H1 D (SetTO P w D []))) ∧ ∀ i m H, W i m H →
      ((Itt K a).stop i H ∧ Qd H) ∨ ((Itt K a).go i H ∧ ∃ Nx : Hp → Prop, (∀ H', Nx H' → ∃ m', m' < m ∧ W (i + 1) m' H') ∧ ∀ x H', (Itt K a).yld i H x H' → g x (wipe τ vs) H' fun τ2 H3 => wipe τ2 vs = wipe τ vs ∧
        te τ2 H3 fun y H4 => ∃ (t : Addr) (k : List Int) (L : List (Addr × List Int)), y = .ref t ∧ SqT K H4 t (k.map V.int) ∧ H4 D = some (SetTO P w D L) ∧ (∀ p ∈ L, SqT K H4 p.1 (p.2.map V.int)) ∧ L.length + 1 < 64 ∧
      ∀ L', (k ∈ L.map (·.2) → L' = L) → (k ∉ L.map (·.2) → L'.Perm ((t, k) :: L)) → Nx (upd H4 D (SetTO P w D L'))) := by
  refine ⟨fun i m H => m + i = xs.length ∧ Pv i H, ⟨xs.length, rfl, h0⟩, fun i m H z => ?_⟩
  obtain ⟨hm, p⟩ := z
  have q := hl i H (by omega) p
  rcases Nat.lt_or_ge i xs.length with lt | ge
  · refine .inr ⟨⟨xs, xs[i], q, List.getElem?_eq_getElem lt⟩, Pv (i + 1), fun H' p' => ⟨m - 1, by omega, by omega, p'⟩, fun x H' y => ?_⟩
    obtain ⟨rfl, y⟩ := y
    exact hs i x _ (y xs q) p
  · obtain rfl : i = xs.length := by omega
    exact .inl ⟨⟨xs, q, Nat.le_refl _⟩, hd H p⟩
theorem hu1 {k : Nat} {A : Around} (hr : Room k A) : A.units + 1 < cLine := by have := hr.un; omega
end
end K7S
end
/-! ## ET -/
section
/-! sorted of a tuple, or of a list, of ints. -/
namespace K7S
open PySem PySem.Spec PyProof.Rows L2
section
variable {X : Cx}
def rSortA (K : PySem.W.Frag) : List V → Hp → VK → Prop := fun vs H Q => ∃ (a : Addr) (ns : List Int), vs = [V.ref a] ∧ (SqL K H a (ns.map V.int) ∨ SqT K H a (ns.map V.int)) ∧ ns.length < 64 ∧ ∀ (ms : List Int) (p : Addr), ms.Perm ns → ms.Pairwise (· ≤ ·) → H p = none → Q (.ref p) (upd H p (.lst (ms.map V.int)))
theorem cr_sortA : CallR X (.builtin "sorted") (rSortA X.K) := by
  intro pins s τ H vs us Q I r h
  obtain ⟨a, ns, rfl, hs, h64, q⟩ := h
  rw [Vals.ref1 r]
  have got : ∃ (its : List Value) (o : Obj) (n : Nat) (T : String), Vals (ns.map V.int) its ∧ (T = "list" ∨ T = "tuple") ∧ s.heap.get? a = some o ∧ o.cls = .type T ∧ o.data = .seq its.toArray n := by
    rcases hs with z | z
    · obtain ⟨its, rv, pl, _⟩ := I.list z
      obtain ⟨o, ho, hc, n, hd⟩ := pl.isList
      exact ⟨its, o, n, "list", rv, .inl rfl, ho, hc, hd⟩
    · obtain ⟨its, rv, ⟨o, ho, hc, n, hd⟩, _⟩ := I.tuple z
      exact ⟨its, o, n, "tuple", rv, .inr rfl, ho, hc, hd⟩
  obtain ⟨its, o, n, T, rv, hT, ho, hc, hd⟩ := got
  have hi := rv.ints
  have h64' : its.length < 64 := by rw [hi.length]; exact h64
  refine Calls.call_function_entry kind_sorted plain_sorted entry_sorted (args_sorted1 _) ?_
  unfold Builtin.«sorted»
  refine wpAny_bind (m := checkCount "sorted" 1 1 _) (wpAny_pure (wpAny_bind (wpAny_collect_seq a hT ho hc hd (fun h' kp => ?_) (by rw [List.size_toArray, sizeLine_eq]; omega))))
  have hoL : (h'.push (seqObj "list" its.toArray 0)).get? h'.objs.size = some (seqObj "list" its.toArray 0) := Heap.get?_push_size _ rfl
  refine wpAny_bind (wpAny_newList ?_ (by rw [sizeLine_eq]; show its.length ≤ _; omega))
  show wpAny _ _ _ _ _ { s with heap := h'.push (seqObj "list" its.toArray 0) }
  refine wpAny_bind (wpAny_holding (wpAny_call_entry slot_list_sort ⟨_, hoL, rfl⟩ entry_list_sort (list_sort_tree hoL hi h64' fun out ms a1 a2 a3 => ⟨_, rfl, wpAny_pure ⟨_, rfl, ?_⟩⟩) (args_list_sort _)))
  obtain ⟨e, he⟩ := sortedHeap_at (vs := its) (out := out) hoL
  have hlen : (ms.map V.int).length ≤ sizeLine := by rw [List.length_map, a2.length_eq]; exact small64 h64
  have I1 : Inv X pins τ H { s with heap := h' } := I.kept (t' := s.toks) kp
  refine ⟨.ref h'.objs.size, upd H h'.objs.size (.lst (ms.map V.int)), I1.laid (t' := s.toks) (fun b u hb => ?_) (Nat.le_refl _) ⟨hlen, out.toList, e, vals_of_ints a1, he⟩, rfl, q ms _ a2 a3 (I1.hok.fresh (Nat.le_refl _))⟩
  have lt := Heap.lt_size hb
  exact (sortedHeap_old (Nat.ne_of_lt lt) (by rw [size_push']; exact Nat.lt_succ_of_lt lt)).trans (Heap.get?_push_of_some _ hb)
end
end K7S
end
/-! ## P10 -/
section
open PySem PySem.Spec PyProof.Rows L2
namespace K7
abbrev N__are_neighbours : List Str := ["cells", "thing", "couple"]
abbrev s__are_neighbours : Stmt := topS 17
theorem sc__are_neighbours : FnScope ["cells", "thing", "couple"] ["cells", "thing"] (defScope s__are_neighbours) := ⟨rfl, rfl, rfl, by decide +kernel, rfl, by decide +kernel, by decide +kernel⟩
section
variable {P : Program} {w : World} {K : PySem.W.Frag} {mg : Str → Option Value} {base : Heap}
/-! ### couples that are handed in: rows of two cells, either way round, tuples or lists -/
theorem SqOf.ty {H : Hp} {a : Addr} {xs : List V} (h : SqOf H a xs) : ∃ t : String, (∀ H1, Same H H1 → TyX K H1 (.ref a) (.type t)) ∧ PySem.W.kitAny K (.type t) [.type "list", .type "tuple"] = some true := by
  rcases h with z | z
  · exact ⟨"tuple", fun H1 e1 => .base (.tup (e1 _ _ z)), any_tup⟩
  · exact ⟨"list", fun H1 e1 => .base (.lst (e1 _ _ z)), any_lst⟩
def CoAt (H : Hp) (t : Addr) (c : Nat × Nat) : Prop := SqOf H t (ints_ [c.1, c.2])
def CoAll (H : Hp) (ts : List Addr) (cs : List (Nat × Nat)) : Prop := ts.length = cs.length ∧ ∀ (i : Nat) t c, ts[i]? = some t → cs[i]? = some c → CoAt H t c
theorem CoAll.same {H H' : Hp} {ts : List Addr} {cs : List (Nat × Nat)} (h : CoAll H ts cs) (e : Same H H') : CoAll H' ts cs := ⟨h.1, fun i t c h1 h2 => (h.2 i t c h1 h2).same e⟩
structure Cos (n : Nat) (cs : List (Nat × Nat)) : Prop where
  lt : ∀ c ∈ cs, c.1 < n ∧ c.2 < n ∧ c.1 ≠ c.2
  nd : (cs.map KL.srt).Nodup
  len : cs.length ≤ 32
theorem two_co {n : Nat} {c : Nat × Nat} (h : c.1 < n ∧ c.2 < n ∧ c.1 ≠ c.2) : twoV (n : Nat) (ints_ [c.1, c.2]) = true := by
  obtain ⟨h1, h2, h3⟩ := h
  unfold twoV cellsV
  have e1 : wholeV (.int (c.1 : Nat)) 0 (((n : Nat) : Int) - 1) = true := by rw [wholeV_int, decide_eq_true (by omega), decide_eq_true (by omega)]; rfl
  have e2 : wholeV (.int (c.2 : Nat)) 0 (((n : Nat) : Int) - 1) = true := by rw [wholeV_int, decide_eq_true (by omega), decide_eq_true (by omega)]; rfl
  have e3 : (ints_ [c.1, c.2]).all (fun x => wholeV x 0 (((n : Nat) : Int) - 1)) = true := by
    show (wholeV (.int (c.1 : Nat)) 0 (((n : Nat) : Int) - 1) && (wholeV (.int (c.2 : Nat)) 0 (((n : Nat) : Int) - 1) && true)) = true
    rw [e1, e2]; rfl
  have e4 : ((ints_ [c.1, c.2]).map intOf).Nodup := by
    show [((c.1 : Nat) : Int), ((c.2 : Nat) : Int)].Nodup
    refine List.nodup_cons.mpr ⟨fun m => ?_, List.nodup_cons.mpr ⟨List.not_mem_nil, List.nodup_nil⟩⟩
    rw [List.mem_singleton] at m
    omega
  rw [e3, decide_eq_true e4, decide_eq_true (show (2 : Int) ≤ (((ints_ [c.1, c.2]).length : Nat) : Int) from (by decide : (2 : Int) ≤ ((2 : Nat) : Int))), decide_eq_true (show (ints_ [c.1, c.2]).length = 2 from rfl)]
  rfl
def keyOf (c : Nat × Nat) : List Int := [((KL.srt c).1 : Int), ((KL.srt c).2 : Int)]
theorem keyOf_inj {c d : Nat × Nat} (h : keyOf c = keyOf d) : KL.srt c = KL.srt d := by
  unfold keyOf at h
  injection h with h1 h2
  injection h2 with h2
  exact Prod.ext (by omega) (by omega)
theorem keys_nd {cs : List (Nat × Nat)} (h : (cs.map KL.srt).Nodup) : (cs.map keyOf).Nodup := by
  induction cs with
  | nil => exact List.nodup_nil
  | cons c cs ih =>
    rw [List.map_cons, List.nodup_cons] at h
    rw [List.map_cons, List.nodup_cons]
    refine ⟨fun m => ?_, ih h.2⟩
    obtain ⟨d, hd, e⟩ := List.mem_map.mp m
    exact h.1 (List.mem_map.mpr ⟨d, hd, keyOf_inj e⟩)
theorem key_ints (c : Nat × Nat) : (keyOf c).map V.int = ints_ [(KL.srt c).1, (KL.srt c).2] := rfl
def spNbrs : Sp := fun vs H Q _ => ∃ (n : Nat) (a : Addr) (ts : List Addr) (cs : List (Nat × Nat)), vs = [.int (n : Nat), .ref a] ∧ SqOf H a (ts.map V.ref) ∧ CoAll H ts cs ∧ Cos n cs ∧ ∀ H', Same H H' → Q (.bl true) H'
theorem ok_nbrs {f fS fT : Addr} {fd fdS fdT : FuncData} (F : Fun K "_are_neighbours" "_are_neighbours" s__are_neighbours f fd)
    (Gsq : FnOk P w K mg base CX0 1 fS fdS ["thing"] (spSeq K)) (gsq : mg "is_sequence" = some (.ref fS)) (ksq : PySem.W.keepIn K (.ref fS) = true) (bsq : Binds K fdS ["thing"] [])
    (Ga2 : FnOk P w K mg base CX0 3 fT fdT ["many", "thing"] (spTwo K)) (ga2 : mg "are_two_cells" = some (.ref fT)) (ka2 : PySem.W.keepIn K (.ref fT) = true) (ba2 : Binds K fdT ["many", "thing"] [])
    (m_len : mg "len" = none) (m_all : mg "all" = none) (m_tuple : mg "tuple" = none) (m_sorted : mg "sorted" = none) : FnOk P w K mg base CX0 4 f fd ["cells", "thing"] spNbrs := by
  refine F.ok sc__are_neighbours (fun vs H Q E h => ?_) (fun cdv A outer s H vs Q E hr h => ?_)
  · obtain ⟨n, a, ts, cs, rfl, _⟩ := h
    rfl
  · obtain ⟨n, a, ts, cs, rfl, ha, hT, hc, q⟩ := h
    refine ⟨_, (pss_cons (ps_if (pw_or (pt_not (pt_val (pe_call Gsq (hr.mono (by decide)) (by rfl) gsq ksq bsq .nil pass0 (pa_cons (pv 1) pa_nil)))) (pw_or1 (pt_not (pt_val (pe_callB (cr_all rfl) (by rfl) m_all boot_all (pa_cons (pe_lc (own := [("couple", 2)]) (g := gName 2) (tt := tYes) rfl sc__are_neighbours.nd (K7E.pi_either (pi_tup (pv 1)) (pi_list (pv 1))) (blkOk_by (own := [("couple", 2)]) (N := N__are_neighbours) (sc := defScope s__are_neighbours) (by decide +kernel)) (fun _ _ _ _ _ => (pg_name (i := 2) sc__are_neighbours.nd rfl (by first | exact Or.inl rfl | exact Or.inr rfl))) (fun _ _ _ _ _ => pts_nil) (fun _ _ _ _ _ => (pe_call Ga2 (hr.mono (by decide)) (by rfl) ga2 ka2 ba2 .nil pass0 (pa_cons (pv 0) (pa_cons (pv 2) pa_nil))))) pa_nil)))))).pt
  (pss_one (ps_ret pe_bl))
  pss_nil)
 (pss_one (ps_ret (pe_cmpR op_eq (pe_callB K7S.call_lenT (by rfl) m_len boot_len (pa_cons (K7S.pe_st (own := [("couple", 2)]) (g := gName 2) rfl (K7S.hu1 hr) sc__are_neighbours.nd (K7E.pi_either (pi_tup (pv 1)) (pi_list (pv 1))) (blkOk_by (own := [("couple", 2)]) (N := N__are_neighbours) (sc := defScope s__are_neighbours) (by decide +kernel)) (fun _ _ _ _ _ => (pg_name (i := 2) sc__are_neighbours.nd rfl (by first | exact Or.inl rfl | exact Or.inr rfl))) (fun _ _ _ _ _ => (pe_callTy (show CallR _ (.type "tuple") (rTup_ K) from call_tuple_of) (by rfl) m_tuple boot_tuple (pa_cons (pe_callB (show CallR _ (.builtin "sorted") (K7S.rSortA K) from K7S.cr_sortA) (by rfl) m_sorted boot_sorted (pa_cons (pv 2) pa_nil)) pa_nil)))) pa_nil)) (pe_callB call_len_seq (by rfl) m_len boot_len (pa_cons (pv 1) pa_nil)) (nomark _))))), ?_⟩
    obtain ⟨t, ty, kk⟩ := ha.ty (K := K)
    have hl : ts.length = cs.length := hT.1
    have h32 := hc.len
    refine ⟨_, rfl, _, t, true, rfl, ty, kk, fun H1 e1 => ⟨_, rfl, ?_⟩⟩
    have ha1 := ha.same e1
    have hT1 := hT.same e1
    -- the second half: the set, behind any heap
    have half : ∀ H2, Same H1 H2 → ∀ D, H2 D = none → ∀ (j : Nat) (x : V) (H3 : Hp), (ts.map V.ref)[j]? = some x → (Same H2 H3 ∧ ∃ L : List (Addr × List Int), H3 D = some (SetTO P w D L) ∧ (∀ p ∈ L, H3 p.1 = some (.tup (p.2.map V.int))) ∧ (L.map (·.2)).Perm ((cs.take j).map keyOf)) →
        ∃ c t', x = .ref t' ∧ cs[j]? = some c ∧ CoAt H3 t' c ∧ keyOf c ∉ (cs.take j).map keyOf := by
      intro H2 e2 D hD j x H3 hx pv
      rw [List.getElem?_map] at hx
      obtain ⟨t', ht', rfl⟩ := Option.map_eq_some_iff.mp hx
      have hj : j < cs.length := by rw [← hl]; exact (List.getElem?_eq_some_iff.mp ht').1
      refine ⟨cs[j], t', rfl, List.getElem?_eq_getElem hj, (hT1.2 j t' _ ht' (List.getElem?_eq_getElem hj)).same (e2.trans pv.1), fun m => ?_⟩
      have nd := keys_nd hc.nd
      have e3 : cs.map keyOf = (cs.take j).map keyOf ++ (cs.drop j).map keyOf := by rw [← List.map_append, List.take_append_drop]
      rw [e3, List.nodup_append] at nd
      exact nd.2.2 _ m _ (List.mem_map.mpr ⟨cs[j], by rw [List.drop_eq_getElem_cons hj]; exact List.mem_cons_self, rfl⟩) rfl
    have fin : ∀ H2, Same H1 H2 → ∀ L : List (Addr × List Int), (L.map (·.2)).Perm ((cs.take (ts.map V.ref).length).map keyOf) → (Same H H2 → decide (V.int (L.length : Nat) = V.int ((ts.map V.ref).length : Nat)) = true) := by
      intro H2 e2 L p _
      have z := p.length_eq
      rw [List.length_map, List.length_map, List.length_map, hl, List.take_length] at z
      rw [List.length_map, z, hl]
      exact decide_eq_true rfl
    have Q2 : ∀ H2, Same H1 H2 → Q (.bl true) H2 := fun H2 e2 => q H2 (e1.trans e2)
    have sz : (ts.map V.ref).length = cs.length := by rw [List.length_map, hl]
    rcases ha1 with z | z
    · refine .inl ⟨_, rfl, a, rfl, ⟨_, .inl (.inl z)⟩, fun D hD => lc_tup (xs := ts.map V.ref) (fun j H2 => Same H1 H2 ∧ ∃ bs : List Bool, H2 D = some (.lst (bs.map V.bl)) ∧ bs.all id = true ∧ bs.length = j) ⟨same_new (Same.refl H1) hD, [], upd_same, rfl, rfl⟩ (fun j H2 _ pv => .inl (.inl (pv.1 _ _ z))) (fun j x H2 hx pv => ?_) (fun H2 pv => ?_)⟩
      · obtain ⟨e2, bs, hD2, hb, lb⟩ := pv
        have hjx := (List.getElem?_eq_some_iff.mp hx).1
        rw [List.getElem?_map] at hx
        obtain ⟨t', ht', rfl⟩ := Option.map_eq_some_iff.mp hx
        have hj : j < cs.length := by rw [← sz]; exact hjx
        have hco := hc.lt cs[j] (List.getElem_mem hj)
        refine ⟨rfl, _, rfl, _, rfl, n, .ref t', rfl, .inr ⟨t', _, rfl, (hT1.2 j t' cs[j] ht' (List.getElem?_eq_getElem hj)).same e2, fun y hy => ?_, by show 2 < 64; decide, fun H3 e3 => ?_⟩⟩
        · obtain ⟨k, _, rfl⟩ := List.mem_map.mp hy
          exact .flat (.int _)
        · rw [two_co hco]
          refine ⟨_, e3 _ _ hD2, by rw [List.length_map]; exact small1000 (by omega), fun b o hb => ?_, bs ++ [true], ?_, ?_, by rw [List.length_append, lb]; rfl⟩
          · rw [upd_ne (ne_of_none hb hD)]
            exact e3 _ _ (e2 _ _ hb)
          · rw [upd_same, List.map_append]
            rfl
          · rw [List.all_append, hb]
            rfl
      · obtain ⟨e2, bs, hD2, hb, lb⟩ := pv
        refine ⟨D, bs, rfl, .inl (.inl hD2), _, rfl, ?_⟩
        rw [hb]
        refine iteF ?_
        refine .inl ⟨_, rfl, a, rfl, ⟨_, .inl (.inl (e2 _ _ z))⟩, fun D2 hD2 => K7S.st_tup (xs := ts.map V.ref) (fun j H3 => Same H2 H3 ∧ ∃ L : List (Addr × List Int), H3 D2 = some (SetTO P w D2 L) ∧ (∀ p ∈ L, H3 p.1 = some (.tup (p.2.map V.int))) ∧ (L.map (·.2)).Perm ((cs.take j).map keyOf)) ⟨same_new (Same.refl H2) hD2, [], upd_same, fun p hp => (nomatch hp), List.Perm.refl _⟩ (fun j H3 _ pv => .inl (.inl (pv.1 _ _ (e2 _ _ z)))) (fun j x H3 hx pv => ?_) (fun H3 pv => ?_)⟩
        · obtain ⟨c, t', rfl, hcj, hco, hnew⟩ := half H2 e2 D2 hD2 j x H3 hx pv
          obtain ⟨e3, L, hL, hLt, pm⟩ := pv
          have ll : L.length = j := by
            have z := pm.length_eq
            rw [List.length_map, List.length_map, List.length_take, Nat.min_eq_left (Nat.le_of_lt (List.getElem?_eq_some_iff.mp hcj).1)] at z
            exact z
          have hjc := (List.getElem?_eq_some_iff.mp hcj).1
          refine ⟨rfl, _, rfl, t', [(c.1 : Int), (c.2 : Int)], rfl, hco.sq, by show 2 < 64; decide, fun ms p pm2 so np => ?_⟩
          have em := KL.two_sorted pm2 so
          subst em
          refine ⟨p, _, rfl, .inl ⟨.inl (.inl upd_same), fun l nl => ?_⟩⟩
          have s1 := same_new (o := .lst ([((min c.1 c.2 : Nat) : Int), ((max c.1 c.2 : Nat) : Int)].map V.int)) (Same.refl H3) np
          have s2 := same_new (o := .tup ([((min c.1 c.2 : Nat) : Int), ((max c.1 c.2 : Nat) : Int)].map V.int)) s1 nl
          refine ⟨l, keyOf c, L, rfl, .inl (.inl upd_same), s2 _ _ hL, fun p hp => .inl (.inl (s2 _ _ (hLt p hp))), by omega, fun L' _ c2 => ?_⟩
          have pm' := c2 (fun m => hnew (pm.mem_iff.mp m))
          have nlD : l ≠ D2 := fun e => by rw [e, s1 _ _ hL] at nl; cases nl
          refine ⟨fun b o hb => ?_, L', upd_same, fun p hp => ?_, ?_⟩
          · rw [upd_ne (ne_of_none hb hD2)]
            exact s2 _ _ (e3 _ _ hb)
          · have tp : ∀ p ∈ L', (upd (upd H3 _ _) l (.tup ((keyOf c).map V.int))) p.1 = some (.tup (p.2.map V.int)) := fun p hp => by
              rcases List.mem_cons.mp (pm'.mem_iff.mp hp) with rfl | hp
              · exact upd_same
              · exact s2 _ _ (hLt p hp)
            have z := tp p hp
            rw [upd_ne (fun e => by rw [e] at z; exact absurd (z.symm.trans (s2 _ _ hL)) (fun w => by cases w))]
            exact z
          · refine (pm'.map (·.2)).trans ?_
            rw [List.take_add_one, hcj, List.map_append]
            exact ((List.perm_append_singleton _ _).trans (pm.symm.cons _)).symm
        · obtain ⟨e3, L, hL, hLt, pm⟩ := pv
          have eq2 := fin H3 (e2.trans e3) L pm (e1.trans (e2.trans e3))
          refine ⟨D2, L, rfl, hL, fun p hp => .inl (.inl (hLt p hp)), _, rfl, a, ts.map V.ref, rfl, ?_, rfl, ?_⟩
          · exact (SqOf.sq (K := K) (H := H3) (show SqOf H3 a (ts.map V.ref) from (ha.same e1).same (e2.trans e3)))
          · rw [eq2]
            exact Q2 H3 (e2.trans e3)
    · refine .inr ⟨_, rfl, a, rfl, ⟨_, .inl (.inl z)⟩, fun D hD => lc_list (xs := ts.map V.ref) (fun j H2 => Same H1 H2 ∧ ∃ bs : List Bool, H2 D = some (.lst (bs.map V.bl)) ∧ bs.all id = true ∧ bs.length = j) ⟨same_new (Same.refl H1) hD, [], upd_same, rfl, rfl⟩ (fun j H2 _ pv => .inl (.inl (pv.1 _ _ z))) (fun j x H2 hx pv => ?_) (fun H2 pv => ?_)⟩
      · obtain ⟨e2, bs, hD2, hb, lb⟩ := pv
        have hjx := (List.getElem?_eq_some_iff.mp hx).1
        rw [List.getElem?_map] at hx
        obtain ⟨t', ht', rfl⟩ := Option.map_eq_some_iff.mp hx
        have hj : j < cs.length := by rw [← sz]; exact hjx
        have hco := hc.lt cs[j] (List.getElem_mem hj)
        refine ⟨rfl, _, rfl, _, rfl, n, .ref t', rfl, .inr ⟨t', _, rfl, (hT1.2 j t' cs[j] ht' (List.getElem?_eq_getElem hj)).same e2, fun y hy => ?_, by show 2 < 64; decide, fun H3 e3 => ?_⟩⟩
        · obtain ⟨k, _, rfl⟩ := List.mem_map.mp hy
          exact .flat (.int _)
        · rw [two_co hco]
          refine ⟨_, e3 _ _ hD2, by rw [List.length_map]; exact small1000 (by omega), fun b o hb => ?_, bs ++ [true], ?_, ?_, by rw [List.length_append, lb]; rfl⟩
          · rw [upd_ne (ne_of_none hb hD)]
            exact e3 _ _ (e2 _ _ hb)
          · rw [upd_same, List.map_append]
            rfl
          · rw [List.all_append, hb]
            rfl
      · obtain ⟨e2, bs, hD2, hb, lb⟩ := pv
        refine ⟨D, bs, rfl, .inl (.inl hD2), _, rfl, ?_⟩
        rw [hb]
        refine iteF ?_
        refine .inr ⟨_, rfl, a, rfl, ⟨_, .inl (.inl (e2 _ _ z))⟩, fun D2 hD2 => K7S.st_list (xs := ts.map V.ref) (fun j H3 => Same H2 H3 ∧ ∃ L : List (Addr × List Int), H3 D2 = some (SetTO P w D2 L) ∧ (∀ p ∈ L, H3 p.1 = some (.tup (p.2.map V.int))) ∧ (L.map (·.2)).Perm ((cs.take j).map keyOf)) ⟨same_new (Same.refl H2) hD2, [], upd_same, fun p hp => (nomatch hp), List.Perm.refl _⟩ (fun j H3 _ pv => .inl (.inl (pv.1 _ _ (e2 _ _ z)))) (fun j x H3 hx pv => ?_) (fun H3 pv => ?_)⟩
        · obtain ⟨c, t', rfl, hcj, hco, hnew⟩ := half H2 e2 D2 hD2 j x H3 hx pv
          obtain ⟨e3, L, hL, hLt, pm⟩ := pv
          have ll : L.length = j := by
            have z := pm.length_eq
            rw [List.length_map, List.length_map, List.length_take, Nat.min_eq_left (Nat.le_of_lt (List.getElem?_eq_some_iff.mp hcj).1)] at z
            exact z
          have hjc := (List.getElem?_eq_some_iff.mp hcj).1
          refine ⟨rfl, _, rfl, t', [(c.1 : Int), (c.2 : Int)], rfl, hco.sq, by show 2 < 64; decide, fun ms p pm2 so np => ?_⟩
          have em := KL.two_sorted pm2 so
          subst em
          refine ⟨p, _, rfl, .inl ⟨.inl (.inl upd_same), fun l nl => ?_⟩⟩
          have s1 := same_new (o := .lst ([((min c.1 c.2 : Nat) : Int), ((max c.1 c.2 : Nat) : Int)].map V.int)) (Same.refl H3) np
          have s2 := same_new (o := .tup ([((min c.1 c.2 : Nat) : Int), ((max c.1 c.2 : Nat) : Int)].map V.int)) s1 nl
          refine ⟨l, keyOf c, L, rfl, .inl (.inl upd_same), s2 _ _ hL, fun p hp => .inl (.inl (s2 _ _ (hLt p hp))), by omega, fun L' _ c2 => ?_⟩
          have pm' := c2 (fun m => hnew (pm.mem_iff.mp m))
          have nlD : l ≠ D2 := fun e => by rw [e, s1 _ _ hL] at nl; cases nl
          refine ⟨fun b o hb => ?_, L', upd_same, fun p hp => ?_, ?_⟩
          · rw [upd_ne (ne_of_none hb hD2)]
            exact s2 _ _ (e3 _ _ hb)
          · have tp : ∀ p ∈ L', (upd (upd H3 _ _) l (.tup ((keyOf c).map V.int))) p.1 = some (.tup (p.2.map V.int)) := fun p hp => by
              rcases List.mem_cons.mp (pm'.mem_iff.mp hp) with rfl | hp
              · exact upd_same
              · exact s2 _ _ (hLt p hp)
            have z := tp p hp
            rw [upd_ne (fun e => by rw [e] at z; exact absurd (z.symm.trans (s2 _ _ hL)) (fun w => by cases w))]
            exact z
          · refine (pm'.map (·.2)).trans ?_
            rw [List.take_add_one, hcj, List.map_append]
            exact ((List.perm_append_singleton _ _).trans (pm.symm.cons _)).symm
        · obtain ⟨e3, L, hL, hLt, pm⟩ := pv
          have eq2 := fin H3 (e2.trans e3) L pm (e1.trans (e2.trans e3))
          refine ⟨D2, L, rfl, hL, fun p hp => .inl (.inl (hLt p hp)), _, rfl, a, ts.map V.ref, rfl, ?_, rfl, ?_⟩
          · exact (SqOf.sq (K := K) (H := H3) (show SqOf H3 a (ts.map V.ref) from (ha.same e1).same (e2.trans e3)))
          · rw [eq2]
            exact Q2 H3 (e2.trans e3)
end
end K7
end
/-! ## EU -/
section
namespace K7E
open PySem PySem.Spec PyProof.Rows L2
section
variable {X : Cx} {CX : CXT} {k : Nat} {f : Addr} {sp : Sp} {E : XK} {x : Str} {e : Expr} {es : List Expr} {t : TA} {p pos : Pos}
/-- x(e, ..) by a positional promise -/
theorem pe_callR0 (F : FnR X.prog X.w X.K X.mg X.base CX k f sp) (hr : Room k X.A) (hg : Gl X x) (hm : X.mg x = some (.ref f)) (hk : PySem.W.keepIn X.K (.ref f) = true) (hx : Passes CX X E) (ha : PA X (e :: es) t) (hd : (x == ("__debug__" : Str)) = false := by decide)
    (h1 : starEach (e :: es) X.env = (false, eval e X.env) :: starEach es X.env := by rfl) (h2 : (backTo pos (starEach es X.env)).any (·.1) = false := by rfl) : PE X (.Call (.Name x p) (e :: es) [] pos) (fun τ H Q => t τ H fun vs H1 => sp vs H1 Q E) := by
  refine ⟨fun pins s τ H Q I h => wpAny_Call_Name_kw (ld_glob I hg hm (PySem.W.callWith_K (h₀ := X.base) I.ok.mod.kin hk (thn (ha.run pos pins s τ H _ I h) fun us s1 ⟨vs, H1, I1, r, q⟩ => ⟨I1.kIn, ?_⟩) h1 h2) hd)⟩
  exact wpAny_call (run_fnR F hr hx I1 r q)
end
end K7E
end
/-! ## P11 -/
section
open PySem PySem.Spec PyProof.Rows L2
namespace K7
abbrev N_BadCell___init__ : List Str := ["self", "cell"]
abbrev s_BadCell___init__ : Stmt := inClass (topS 4) 0
theorem sc_BadCell___init__ : FnScope ["self", "cell"] ["self", "cell"] (defScope s_BadCell___init__) := ⟨rfl, rfl, rfl, by decide +kernel, rfl, by decide +kernel, by decide +kernel⟩
abbrev N_is_cell : List Str := ["land", "thing"]
abbrev s_is_cell : Stmt := topS 12
theorem sc_is_cell : FnScope ["land", "thing"] ["land", "thing"] (defScope s_is_cell) := ⟨rfl, rfl, rfl, by decide +kernel, rfl, by decide +kernel, by decide +kernel⟩
abbrev N_check_cells : List Str := ["land", "things", "thing"]
abbrev s_check_cells : Stmt := topS 13
theorem sc_check_cells : FnScope ["land", "things", "thing"] ["land", "things"] (defScope s_check_cells) := ⟨rfl, rfl, rfl, by decide +kernel, rfl, by decide +kernel, by decide +kernel⟩
/-! ### a land that stands, and what the top says of it -/
def landFs (n : Int) (an ar ay ac : Addr) : List (Str × V) := putF "_couples" (.ref ac) (putF "nearby" (.ref ay) (putF "roads" (.ref ar) (putF "neighbours" (.ref an) (putF "cells" (.int n) []))))
def lfields : List Str := ["cells", "neighbours", "roads", "nearby", "_couples"]
structure AdL where
  (C B iB : Addr)
structure Tl (K : PySem.W.Frag) (mg : Str → Option Value) (a : AdL) : Prop where
  gC : mg "Land" = some (.ref a.C)
  cl : Cls K a.C
  nA : ∀ f ∈ lfields, NoAttr K a.C f
  gB : mg "BadCell" = some (.ref a.B)
  oxB : OexC K a.B
  iCB : PySem.W.findIn K (.ref a.B) "__init__" = some (some (.ref a.iB))
  tIB : PySem.W.typeIn K (.ref a.iB) = some (.type "function")
  nB : PySem.W.findIn K (.ref a.B) "cell" = some none
/-- an error of the class C with one field is raised -/
def Flies (H : Hp) (C : Addr) (f : Str) (v : V) (E : XK) : Prop := ∀ H' d, Same H H' → H d = none → H' d = some (.xd [(f, v)]) → E (.ref C) (some d) H'
theorem Flies.later {H H1 : Hp} {C : Addr} {f : Str} {v : V} {E : XK} (h : Flies H C f v E) (e : Same H H1) : Flies H1 C f v E := fun H' d e' n q => h H' d (e.trans e') (e.free n) q
/-- an instance with a number of cells -/
def LandC (C : Addr) (H : Hp) (p : Addr) (n : Nat) : Prop := ∃ dx fs, H p = some (.ins C dx fs) ∧ fs.lookup ("cells" : Str) = some (V.int (n : Nat))
theorem LandC.same {C : Addr} {H H' : Hp} {p : Addr} {n : Nat} (h : LandC C H p n) (e : Same H H') : LandC C H' p n := by
  obtain ⟨dx, fs, h1, h2⟩ := h
  exact ⟨dx, fs, e _ _ h1, h2⟩
section
variable {P : Program} {w : World} {K : PySem.W.Frag} {mg : Str → Option Value} {base : Heap} {a : AdL}
def spX (C : Addr) (f : Str) : Sp := fun vs H Q _ => ∃ (e : Addr) (y : V), vs = [.ref e, y] ∧ H e = some (exo e C none) ∧ ∀ d, H d = none → d ≠ e → Q .non (upd (upd H d (exd d [(f, y)])) e (exo e C (some d)))
theorem ok_iB (T : Tl K mg a) {f : Addr} {fd : FuncData} (F : Fun K "__init__" "BadCell.__init__" s_BadCell___init__ f fd) : FnOk P w K mg base (L2.CX P w) 1 f fd ["self", "cell"] (spX a.B "cell") := by
  refine F.okX sc_BadCell___init__ (fun vs H Q E h => ?_) (fun cdv A outer s H vs Q E hr h => ?_)
  · obtain ⟨e, y, rfl, _⟩ := h
    rfl
  · obtain ⟨e, y, rfl, he, q⟩ := h
    refine ⟨_, (pss_one (ps_ost (pv 0) (pv 1))), ?_⟩
    exact ⟨y, rfl, .ref e, rfl, e, a.B, rfl, T.oxB, T.nB, .inl ⟨he, fun d hd hn => q d hd hn⟩⟩
/-- the reading of «raise X(y)» -/
theorem flies_go {H : Hp} {C : Addr} {f : Str} {y : V} {E : XK} (h : Flies H C f y E) :
    ∀ e, H e = none → spX C f (.ref e :: ([y] ++ [])) (upd H e (exo e C none)) (fun v H2 => v = .non ∧ ∃ (d : Addr) (fs : List (Str × V)), H2 e = some (exo e C (some d)) ∧ H2 d = some (exd d fs) ∧ H d = none ∧ E (.ref C) (some d) (upd (del H2 e) d (.xd fs))) (fun _ _ _ => False) := by
  intro e he
  refine ⟨e, y, rfl, upd_same, fun d hd hne => ⟨rfl, d, _, upd_same, by rw [upd_ne hne, upd_same], ?_, ?_⟩⟩
  · rw [upd_ne hne] at hd
    exact hd
  · rw [upd_ne hne] at hd
    refine h _ d (fun b o hb => ?_) hd upd_same
    have h1 : b ≠ d := ne_of_none hb hd
    have h2 : b ≠ e := ne_of_none hb he
    rw [upd_ne h1, del_ne h2, upd_ne h2, upd_ne h1, upd_ne h2]
    exact hb
/-! is_cell -/
def spIsCell (C : Addr) : Sp := fun vs H Q _ => ∃ (p : Addr) (n : Nat) (x : V), vs = [.ref p, x] ∧ LandC C H p n ∧ Thing H x ∧ Q (.bl (wholeV x 0 ((n : Nat) - 1))) H
theorem ok_iscell (T : Tl K mg a) {f fW : Addr} {fd fdW : FuncData} (F : Fun K "is_cell" "is_cell" s_is_cell f fd)
    (Giw : FnOk P w K mg base CX0 1 fW fdW ["thing", "low", "high"] spWhole) (giw : mg "is_whole" = some (.ref fW)) (kiw : PySem.W.keepIn K (.ref fW) = true) (biw : Binds K fdW ["thing", "low", "high"] []) : FnOk P w K mg base CX0 2 f fd ["land", "thing"] (spIsCell a.C) := by
  refine F.ok sc_is_cell (fun vs H Q E h => ?_) (fun cdv A outer s H vs Q E hr h => ?_)
  · obtain ⟨p, n, x, rfl, _⟩ := h
    rfl
  · obtain ⟨p, n, x, rfl, ⟨dx, fs, hp, hl⟩, hx, q⟩ := h
    refine ⟨_, (pss_one (ps_ret (pe_call Giw (hr.mono (by decide)) (by rfl) giw kiw biw .nil pass0 (pa_cons (pv 1) (pa_cons pe_int (pa_cons (pe_op op_sub (pe_fld (pv 0) rfl) pe_int) pa_nil)))))), ?_⟩
    exact ⟨_, rfl, .ref p, rfl, p, a.C, dx, fs, _, rfl, hp, T.cl, T.nA _ (by decide), hl, _, _, rfl, rfl, x, 0, _, rfl, hx, q⟩
/-! check_cells -/
def AllIn (n : Nat) (xs : List V) : Prop := ∀ x ∈ xs, wholeV x 0 ((n : Nat) - 1) = true
def spCheck (a : AdL) : Sp := fun vs H Q E => ∃ (p : Addr) (n : Nat) (xs : List V), vs = .ref p :: xs ∧ LandC a.C H p n ∧ xs.length < 64 ∧
  (((∀ x ∈ xs, Thing H x) ∧ AllIn n xs ∧ ∀ H', Same H H' → Q .non H') ∨ (∃ ys x zs, xs = ys ++ x :: zs ∧ (∀ x ∈ ys, Thing H x) ∧ AllIn n ys ∧ Thing H x ∧ wholeV x 0 ((n : Nat) - 1) = false ∧ Flies H a.B "cell" x E))
theorem ok_check (T : Tl K mg a) {f fI : Addr} {fd fdI fdB : FuncData} (F : Fun K "check_cells" "check_cells" s_check_cells f fd)
    (Gic : FnOk P w K mg base CX0 2 fI fdI ["land", "thing"] (spIsCell a.C)) (gic : mg "is_cell" = some (.ref fI)) (kic : PySem.W.keepIn K (.ref fI) = true) (bic : Binds K fdI ["land", "thing"] [])
    (FB0 : Fun K "__init__" "BadCell.__init__" s_BadCell___init__ a.iB fdB) (bB : Binds K fdB ["self", "cell"] []) : FnR P w K mg base (L2.CX P w) 4 f (spCheck a) := by
  have FB : FnOk P w K mg base (L2.CX P w) 1 a.iB fdB ["self", "cell"] (spX a.B "cell") := ok_iB T FB0
  obtain ⟨oc, od, kV, doc, pm, an, cdv, ct, osl, rfl, lk, hcd⟩ := F.ex
  have G := StX.fn_star (CX := L2.CX P w) (P := P) (w := w) (mg := mg) (base := base) (k := 3) (ps := ["land"]) (pv := "things") (sp := fun vs H Q E => ∃ (p t : Addr) (n : Nat) (xs : List V), vs = [.ref p, .ref t] ∧ H t = some (.tup xs) ∧ LandC a.C H p n ∧ xs.length < 64 ∧
    (((∀ x ∈ xs, Thing H x) ∧ AllIn n xs ∧ ∀ H', Same H H' → Q .non H') ∨ (∃ ys x zs, xs = ys ++ x :: zs ∧ (∀ x ∈ ys, Thing H x) ∧ AllIn n ys ∧ Thing H x ∧ wholeV x 0 ((n : Nat) - 1) = false ∧ Flies H a.B "cell" x E))) lk hcd sc_check_cells StX.cxUp (StX.bind_star1 (B := fun l => bindArgs (PySem.W.fnOf "check_cells" "check_cells" (defArgs s_check_cells) (defBody s_check_cells) (defScope s_check_cells) .none kV doc pm an cdv ct) ⟨l, []⟩) (p1 := "land") (pv := "things") (fun _ => rfl) fun _ _ _ => rfl) ?_
  · refine G.imp fun vs H Q E h => ?_
    obtain ⟨p, n, xs, rfl, hl, h64, hh⟩ := h
    refine ⟨[.ref p], xs, rfl, rfl, by rw [sizeLine_eq]; omega, fun t ht => ⟨p, t, n, xs, rfl, upd_same, hl.same (same_new (Same.refl H) ht), h64, ?_⟩⟩
    have e := same_new (o := .tup xs) (Same.refl H) ht
    rcases hh with ⟨h1, h2, h3⟩ | ⟨ys, x, zs, h1, h2, h3, h4, h5, h6⟩
    · exact .inl ⟨fun x hx => (h1 x hx).same e, h2, fun H' e' => h3 H' (e.trans e')⟩
    · exact .inr ⟨ys, x, zs, h1, fun x hx => (h2 x hx).same e, h3, h4.same e, h5, h6.later e⟩
  · intro A outer s H vs Q E hr h
    obtain ⟨p, t, n, xs, rfl, ht, hl, h64, hh⟩ := h
    have hrx : Room (1 + 1) _ := hr.mono (by decide)
    refine ⟨_, (pss_one (ps_for (passes_of rfl) rfl (pi_tup (pv 1)) (pg_name (i := 2) sc_check_cells.nd rfl (by first | exact Or.inl rfl | exact Or.inr rfl))
  (pss_one (ps_if (pt_not (pt_val (pe_call Gic (hr.mono (by decide)) (by rfl) gic kic bic .nil pass0 (pa_cons (pv 0) (pa_cons (pv 2) pa_nil)))))
  (pss_one (ps_raise rfl (takes_of rfl rfl rfl rfl) (pmk_oex T.oxB T.iCB T.tIB FB hrx bB .nil passL (by rfl) T.gB (pa_cons (pv 2) pa_nil))))
  pss_nil)))), ?_⟩
    refine ⟨_, rfl, t, rfl, ⟨xs, .inl (.inl ht)⟩, for_tup (xs := xs) (fun j τ H1 => H1 = H ∧ AllIn n (xs.take j) ∧ ∃ y, τ = [some (.ref p), some (.ref t), y]) ⟨rfl, fun x hx => (nomatch hx), none, rfl⟩ (fun j τ H1 _ pv => ?_) (fun j x τ H1 hx pv => ?_) (fun τ H1 pv => ?_)⟩
    · obtain ⟨rfl, _⟩ := pv
      exact .inl (.inl ht)
    · obtain ⟨rfl, al, y, rfl⟩ := pv
      have fin : ∀ b, wholeV x 0 ((n : Nat) - 1) = b → Thing H1 x ∧ (b = false → Flies H1 a.B "cell" x E) := by
        intro b hb
        rcases hh with ⟨h1, h2, h3⟩ | ⟨ys, x', zs, rfl, h2, h3, h4, h5, h6⟩
        · refine ⟨h1 x (List.mem_of_getElem? hx), fun e => ?_⟩
          rw [h2 x (List.mem_of_getElem? hx)] at hb
          rw [← hb] at e
          cases e
        · rcases Nat.lt_trichotomy j ys.length with lt | e | gt
          · rw [List.getElem?_append_left lt] at hx
            have m := List.mem_of_getElem? hx
            refine ⟨h2 x m, fun e => ?_⟩
            rw [h3 x m] at hb
            rw [← hb] at e
            cases e
          · rw [List.getElem?_append_right (by omega), e, Nat.sub_self] at hx
            obtain rfl : x' = x := Option.some.inj hx
            exact ⟨h4, fun _ => h6⟩
          · have m : x' ∈ (ys ++ x' :: zs).take j := by
              rw [List.take_append, List.take_of_length_le (by omega)]
              exact List.mem_append_right _ (by
                obtain ⟨k, hk⟩ : ∃ k, j - ys.length = k + 1 := ⟨j - ys.length - 1, by omega⟩
                rw [hk]
                exact List.mem_cons_self)
            rw [al x' m] at h5
            cases h5
      obtain ⟨hth, hfl⟩ := fin _ rfl
      refine ⟨_, rfl, _, rfl, p, n, x, rfl, hl, hth, _, rfl, ?_⟩
      cases hb : wholeV x 0 ((n : Nat) - 1) with
      | true =>
        refine iteF ⟨rfl, fun z hz => ?_, _, rfl⟩
        rw [List.take_add_one, hx] at hz
        rcases List.mem_append.mp hz with hz | hz
        · exact al z hz
        · rw [List.mem_singleton.mp hz]
          exact hb
      | false => exact iteT ⟨_, rfl, by show 1 ≤ 1000; decide, flies_go (hfl hb)⟩
    · obtain ⟨rfl, al, y, rfl⟩ := pv
      rcases hh with ⟨h1, h2, h3⟩ | ⟨ys, x', zs, rfl, h2, h3, h4, h5, h6⟩
      · exact h3 _ (Same.refl _)
      · rw [List.take_length] at al
        rw [al x' (List.mem_append_right _ List.mem_cons_self)] at h5
        cases h5
end
end K7
end
/-! ## EV -/
section
namespace K7E
open PySem PySem.Spec PyProof.Rows L2
/-- the inner range of a comprehension of two -/
theorem in_range {lo : Int} {n : Nat} {g : TG} {tt : TT} {te : TE} {vs : List Nat} {τ : L2.St} {H4 : Hp} {D : Addr} {Nx : Hp → Prop} (Pw : Nat → Hp → Prop) (h0 : Pw 0 H4)
    (hs : ∀ j H, j < n → Pw j H → g (.int (lo + j)) (wipe τ vs) H fun t3 H5 => wipe t3 vs = wipe τ vs ∧ tt t3 H5 fun b H6 => if b = true then te t3 H6 fun y H7 => ∃ acc, H7 D = some (.lst acc) ∧ acc.length < sizeLine ∧ Pw (j + 1) (upd H7 D (.lst (acc ++ [y]))) else Pw (j + 1) H6) (hd : ∀ H, Pw n H → Nx H) :
    ∃ W1 : Nat → Nat → Hp → Prop, (∃ m, W1 0 m H4) ∧ ∀ j k H, W1 j k H → ((Itr lo n).stop j H ∧ Nx H) ∨ ((Itr lo n).go j H ∧ ∃ N1 : Hp → Prop, (∀ H', N1 H' → ∃ k', k' < k ∧ W1 (j + 1) k' H') ∧
      ∀ x H', (Itr lo n).yld j H x H' → g x (wipe τ vs) H' fun t3 H5 => wipe t3 vs = wipe τ vs ∧ tt t3 H5 fun b H6 => if b = true then te t3 H6 fun y H7 => ∃ acc, H7 D = some (.lst acc) ∧ acc.length < sizeLine ∧ N1 (upd H7 D (.lst (acc ++ [y]))) else N1 H6) := by
  refine ⟨fun j k H => k + j = n ∧ Pw j H, ⟨n, rfl, h0⟩, fun j k H z => ?_⟩
  obtain ⟨hk, p⟩ := z
  rcases Nat.lt_or_ge j n with lt | ge
  · refine .inr ⟨lt, Pw (j + 1), fun H' p' => ⟨k - 1, by omega, by omega, p'⟩, fun x H' y => ?_⟩
    obtain ⟨rfl, rfl⟩ := y
    exact hs j _ lt p
  · obtain rfl : j = n := by omega
    exact .inl ⟨Nat.le_refl _, hd H p⟩
/-- the outer one -/
theorem out_range {lo : Int} {n : Nat} {g : TG} {tt : TT} {inner : (Hp → Prop) → L2.St → Hp → Prop} {vs : List Nat} {τ : L2.St} {H1 : Hp} {D : Addr} {Qd : Hp → Prop} (Pv : Nat → Hp → Prop) (h0 : Pv 0 (upd H1 D (.lst [])))
    (hs : ∀ i H, i < n → Pv i H → g (.int (lo + i)) (wipe τ vs) H fun t2 H2 => wipe t2 vs = wipe τ vs ∧ tt t2 H2 fun b H3 => if b = true then inner (Pv (i + 1)) t2 H3 else Pv (i + 1) H3) (hd : ∀ H, Pv n H → Qd H) :
    ∃ W : Nat → Nat → Hp → Prop, (∃ m, W 0 m (upd H1 D (.lst []))) ∧ ∀ i m H, W i m H → ((Itr lo n).stop i H ∧ Qd H) ∨ ((Itr lo n).go i H ∧ ∃ Nx : Hp → Prop, (∀ H', Nx H' → ∃ m', m' < m ∧ W (i + 1) m' H') ∧
      ∀ x H', (Itr lo n).yld i H x H' → g x (wipe τ vs) H' fun t2 H2 => wipe t2 vs = wipe τ vs ∧ tt t2 H2 fun b H3 => if b = true then inner Nx t2 H3 else Nx H3) := by
  refine ⟨fun i m H => m + i = n ∧ Pv i H, ⟨n, rfl, h0⟩, fun i m H z => ?_⟩
  obtain ⟨hm, p⟩ := z
  rcases Nat.lt_or_ge i n with lt | ge
  · refine .inr ⟨lt, Pv (i + 1), fun H' p' => ⟨m - 1, by omega, by omega, p'⟩, fun x H' y => ?_⟩
    obtain ⟨rfl, rfl⟩ := y
    exact hs i _ lt p
  · obtain rfl : i = n := by omega
    exact .inl ⟨Nat.le_refl _, hd H p⟩
end K7E
end
/-! ## P12 -/
section
open PySem PySem.Spec PyProof.Rows L2
namespace K7
abbrev N_Land___init__ : List Str := ["self", "cells", "neighbours", "roads", "couples", "couple", "a", "b"]
abbrev s_Land___init__ : Stmt := inClass (topS 18) 0
theorem sc_Land___init__ : FnScope ["self", "cells", "neighbours", "roads", "couples", "couple", "a", "b"] ["self", "cells", "neighbours", "roads"] (defScope s_Land___init__) := ⟨rfl, rfl, rfl, by decide +kernel, rfl, by decide +kernel, by decide +kernel⟩
/-! ### a land is made -/
structure LandO (C : Addr) (H : Hp) (p : Addr) (n : Nat) (es : List (Nat × Nat)) (rd : List Nat) : Prop where
  at_ : ∃ dx an ar ay ac tn ty tc, H p = some (.ins C dx (landFs (n : Nat) an ar ay ac)) ∧ H an = some (.tup (tn.map V.ref)) ∧ TAt H tn (pairs es) ∧ H ar = some (.tup (ints_ rd)) ∧ H ay = some (.tup (ty.map V.ref)) ∧ TAt H ty (nearV n es) ∧ H ac = some (.tup (tc.map V.ref)) ∧ TAt H tc (pairs (KL.allC n))
  n2 : 2 ≤ n
  n5 : n ≤ 5
  ok : LandOk n es
  rlt : ∀ c ∈ rd, c < n
  rnd : rd.Nodup
  rso : rd.Pairwise (· ≤ ·)
  r0 : 0 < rd.length
  rn : rd.length < n
theorem LandO.same {C : Addr} {H H' : Hp} {p : Addr} {n : Nat} {es : List (Nat × Nat)} {rd : List Nat} (h : LandO C H p n es rd) (e : Same H H') : LandO C H' p n es rd := by
  obtain ⟨dx, an, ar, ay, ac, tn, ty, tc, h1, h2, h3, h4, h5, h6, h7, h8⟩ := h.at_
  exact ⟨⟨dx, an, ar, ay, ac, tn, ty, tc, e _ _ h1, e _ _ h2, h3.same e, e _ _ h4, e _ _ h5, h6.same e, e _ _ h7, h8.same e⟩, h.n2, h.n5, h.ok, h.rlt, h.rnd, h.rso, h.r0, h.rn⟩
theorem LandO.c {C : Addr} {H : Hp} {p : Addr} {n : Nat} {es : List (Nat × Nat)} {rd : List Nat} (h : LandO C H p n es rd) : LandC C H p n := by
  obtain ⟨dx, an, ar, ay, ac, tn, ty, tc, h1, _⟩ := h.at_
  exact ⟨dx, _, h1, rfl⟩
/-- a land is written while an object is made: what is not an instance stays -/
theorem keepNI {C dx x : Addr} {fs : List (Str × V)} {H : Hp} (hx : H x = some (.ins C dx fs)) {b : Addr} {o o' : HO} (hb : H b = some o) (no : ∀ C dx fs, o ≠ .ins C dx fs) : upd H x o' b = some o := by
  rw [upd_ne (fun e => by rw [e, hx] at hb; exact no _ _ _ (Option.some.inj hb).symm)]
  exact hb
theorem cells_lot {n : Nat} {lot : List Nat} (h1 : ∀ c ∈ lot, c < n) (h2 : lot.Nodup) (h3 : 0 < lot.length) : cellsV (n : Nat) (ints_ lot) 1 = true := by
  unfold cellsV
  have e1 : (ints_ lot).all (fun x => wholeV x 0 (((n : Nat) : Int) - 1)) = true := by
    refine List.all_eq_true.mpr fun x hx => ?_
    obtain ⟨c, hc, rfl⟩ := List.mem_map.mp hx
    have := h1 c hc
    rw [wholeV_int, decide_eq_true (by omega), decide_eq_true (by omega)]
    rfl
  have e2 : ((ints_ lot).map intOf).Nodup := by
    unfold ints_
    rw [List.map_map, List.nodup_iff_pairwise_ne, List.pairwise_map]
    refine (List.nodup_iff_pairwise_ne.mp h2).imp fun {a b} ne e => ne ?_
    have e : ((a : Nat) : Int) = ((b : Nat) : Int) := e
    omega
  have e3 : (ints_ lot).length = lot.length := List.length_map ..
  rw [e1, decide_eq_true e2, e3, decide_eq_true (by omega)]
  rfl
theorem ints_back {ms : List Int} {lot : List Nat} (p : ms.Perm (lot.map fun c => ((c : Nat) : Int))) : ms = (ms.map Int.toNat).map fun c => ((c : Nat) : Int) := by
  rw [List.map_map]
  refine (List.map_id ms).symm.trans (List.map_congr_left fun x hx => ?_)
  obtain ⟨c, _, rfl⟩ := List.mem_map.mp (p.mem_iff.mp hx)
  rfl
/-- one more couple of the comprehension of all of them -/
def rowC (n i j : Nat) : List (Nat × Nat) := ((List.range j).filter fun b => decide (i ≠ b)).map fun b => (i, b)
def upC (n i : Nat) : List (Nat × Nat) := (List.range i).flatMap fun a => rowC n a n
theorem upC_succ (n i : Nat) : upC n (i + 1) = upC n i ++ rowC n i n := by
  unfold upC
  rw [List.range_succ, List.flatMap_append, List.flatMap_cons, List.flatMap_nil, List.append_nil]
theorem rowC_succ (n i j : Nat) : rowC n i (j + 1) = rowC n i j ++ (if i ≠ j then [(i, j)] else []) := by
  unfold rowC
  rw [range_filter, List.map_append]
  by_cases h : i = j
  · rw [if_neg (by rw [decide_eq_false (by simpa using h)]; decide), if_neg (by simpa using h)]
    rfl
  · rw [if_pos (decide_eq_true h), if_pos h]
    rfl
theorem rowC_len (n i j : Nat) : (rowC n i j).length ≤ j := by
  unfold rowC
  rw [List.length_map]
  exact Nat.le_trans (List.length_filter_le _ _) (by rw [List.length_range]; exact Nat.le_refl _)
theorem upC_len (n : Nat) : ∀ i, (upC n i).length ≤ i * n
  | 0 => Nat.zero_le _
  | i + 1 => by
    rw [upC_succ, List.length_append, Nat.succ_mul]
    exact Nat.add_le_add (upC_len n i) (rowC_len n i n)
theorem SqOf.ni {C dx x : Addr} {fs : List (Str × V)} {H : Hp} (hx : H x = some (.ins C dx fs)) {b : Addr} {xs : List V} (h : SqOf H b xs) (o' : HO) : SqOf (upd H x o') b xs :=
  h.imp (fun z => keepNI hx z fun _ _ _ e => by cases e) fun z => keepNI hx z fun _ _ _ e => by cases e
theorem TAt.ni {C dx x : Addr} {fs : List (Str × V)} {H : Hp} (hx : H x = some (.ins C dx fs)) {ts : List Addr} {ls : List (List Nat)} (h : TAt H ts ls) (o' : HO) : TAt (upd H x o') ts ls := h.mono fun b xs hb => keepNI hx hb fun _ _ _ e => by cases e
theorem But.put {x : Addr} {H H' : Hp} (h : But x H H') (o : HO) : But x H (upd H' x o) := fun b o' nb hb => by rw [upd_ne nb]; exact h b o' nb hb
theorem But.new {x p : Addr} {H H' : Hp} (h : But x H H') (np : H' p = none) (o : HO) : But x H (upd H' p o) := fun b o' nb hb => by
  have z := h b o' nb hb
  rw [upd_ne (ne_of_none z np)]
  exact z
theorem But.same {x : Addr} {H H' H'' : Hp} (h : But x H H') (e : Same H' H'') : But x H H'' := fun b o nb hb => e _ _ (h b o nb hb)
theorem iteTo {c : Prop} [Decidable c] {p q : Prop} (h : c) (x : p) : if c then p else q := by rw [if_pos h]; exact x
theorem iteFo {b : Bool} {p q : Prop} (h : b = false) (x : q) : if b = true then p else q := by rw [h]; exact x
theorem ints_map (lot : List Nat) : ints_ lot = (lot.map fun c => ((c : Nat) : Int)).map V.int := by
  unfold ints_
  rw [List.map_map]
  rfl
section
variable {P : Program} {w : World} {K : PySem.W.Frag} {mg : Str → Option Value} {base : Heap} {a : AdL}
def spLandI (a : AdL) : Sp := fun vs H Q _ => ∃ (x dx : Addr) (n : Nat) (an : Addr) (ts : List Addr) (cs : List (Nat × Nat)) (ar : Addr) (lot : List Nat), vs = [.ref x, .int (n : Nat), .ref an, .ref ar] ∧ H x = some (.ins a.C dx []) ∧ 2 ≤ n ∧ n ≤ 5 ∧
  SqOf H an (ts.map V.ref) ∧ CoAll H ts cs ∧ Cos n cs ∧ KL.Conn n cs ∧ SqOf H ar (ints_ lot) ∧ (∀ c ∈ lot, c < n) ∧ lot.Nodup ∧ 0 < lot.length ∧ lot.length < n ∧
  ∀ H' es rd, But x H H' → LandO a.C H' x n es rd → es.Perm (cs.map KL.srt) → rd.Perm lot → Q .non H'
theorem ok_landI (T : Tl K mg a) {tM : Tok} (gM : mg "MOST_CELLS" = some (.int 5 tM)) {f fW fB fC fH fN : Addr} {fd fdW fdB fdC fdH fdN : FuncData} (F : Fun K "__init__" "Land.__init__" s_Land___init__ f fd)
    (Giw : FnOk P w K mg base CX0 1 fW fdW ["thing", "low", "high"] spWhole) (giw : mg "is_whole" = some (.ref fW)) (kiw : PySem.W.keepIn K (.ref fW) = true) (biw : Binds K fdW ["thing", "low", "high"] [])
    (Gnb : FnOk P w K mg base CX0 4 fB fdB ["cells", "thing"] spNbrs) (gnb : mg "_are_neighbours" = some (.ref fB)) (knb : PySem.W.keepIn K (.ref fB) = true) (bnb : Binds K fdB ["cells", "thing"] [])
    (Gac : FnOk P w K mg base CX0 2 fC fdC ["many", "thing", "least"] (spCells K)) (gac : mg "are_cells" = some (.ref fC)) (kac : PySem.W.keepIn K (.ref fC) = true) (bac : Binds K fdC ["many", "thing", "least"] [])
    (Ght : FnOk P w K mg base CX0 2 fH fdH ["cells", "couples"] spHang) (ght : mg "hang_together" = some (.ref fH)) (kht : PySem.W.keepIn K (.ref fH) = true) (bht : Binds K fdH ["cells", "couples"] [])
    (Gnc : FnOk P w K mg base CX0 1 fN fdN ["cells", "couples"] spNear) (gnc : mg "nearby_cells" = some (.ref fN)) (knc : PySem.W.keepIn K (.ref fN) = true) (bnc : Binds K fdN ["cells", "couples"] [])
    (m_len : mg "len" = none) (m_sorted : mg "sorted" = none) (m_tuple : mg "tuple" = none) (m_range : mg "range" = none) : FnOk P w K mg base CX0 5 f fd ["self", "cells", "neighbours", "roads"] (spLandI a) := by
  refine F.ok sc_Land___init__ (fun vs H Q E h => ?_) (fun cdv A outer s H vs Q E hr h => ?_)
  · obtain ⟨x, dx, n, an, ts, cs, ar, lot, rfl, _⟩ := h
    rfl
  · obtain ⟨x, dx, n, an, ts, cs, ar, lot, rfl, hx, n2, n5, han, hT, hc, cn, har, llt, lnd, l0, ln, q⟩ := h
    refine ⟨_, (pss_cons (ps_if (pt_not (pt_val (pe_call Giw (hr.mono (by decide)) (by rfl) giw kiw biw .nil pass0 (pa_cons (pv 1) (pa_cons pe_int (pa_cons (pe_glob (v := .int 5) rfl gM ⟨_, rfl⟩) pa_nil))))))
  (pss_one ps_never)
  pss_nil)
 (pss_cons (ps_if (pt_not (pt_val (pe_call Gnb (hr.mono (by decide)) (by rfl) gnb knb bnb .nil pass0 (pa_cons (pv 1) (pa_cons (pv 2) pa_nil)))))
  (pss_one ps_never)
  pss_nil)
 (pss_cons (ps_if (pw_or (pt_not (pt_val (pe_call Gac (hr.mono (by decide)) (by rfl) gac kac bac .nil pass0 (pa_cons (pv 1) (pa_cons (pv 3) (pa_cons pe_int pa_nil)))))) (pw_or1 (pt_cmpR op_eq (pe_callB call_len_seq (by rfl) m_len boot_len (pa_cons (pv 3) pa_nil)) (pv 1) (nomark _)))).pt
  (pss_one ps_never)
  pss_nil)
 (Evl.pss_cut (ps_set (i := 4) sc_Land___init__.nd rfl (by first | exact Or.inl rfl | exact Or.inr rfl) (pe_callB cr_sortedPO (by rfl) m_sorted boot_sorted (pa_cons (pe_lc (own := [("couple", 5)]) (g := gName 5) (tt := tYes) rfl sc_Land___init__.nd (K7E.pi_either (pi_tup (pv 2)) (pi_list (pv 2))) (blkOk_by (own := [("couple", 5)]) (N := N_Land___init__) (sc := defScope s_Land___init__) (by decide +kernel)) (fun _ _ _ _ _ => (pg_name (i := 5) sc_Land___init__.nd rfl (by first | exact Or.inl rfl | exact Or.inr rfl))) (fun _ _ _ _ _ => pts_nil) (fun _ _ _ _ _ => (pe_callTy (show CallR _ (.type "tuple") (rTup_ K) from call_tuple_of) (by rfl) m_tuple boot_tuple (pa_cons (pe_callB (show CallR _ (.builtin "sorted") (K7S.rSortA K) from K7S.cr_sortA) (by rfl) m_sorted boot_sorted (pa_cons (pv 5) pa_nil)) pa_nil)))) pa_nil)))
 (pss_cons (ps_if (pt_not (pt_val (pe_call Ght (hr.mono (by decide)) (by rfl) ght kht bht .nil pass0 (pa_cons (pv 1) (pa_cons (pv 4) pa_nil)))))
  (pss_one ps_never)
  pss_nil)
 (pss_cons (ps_fld (pv 0) (pv 1) rfl)
 (pss_cons (ps_fld (pv 0) (pe_callTy call_tuple_of (by rfl) m_tuple boot_tuple (pa_cons (pv 4) pa_nil)) rfl)
 (pss_cons (ps_fld (pv 0) (pe_callTy call_tuple_of (by rfl) m_tuple boot_tuple (pa_cons (pe_callB K7S.cr_sortA (by rfl) m_sorted boot_sorted (pa_cons (pv 3) pa_nil)) pa_nil)) rfl)
 (pss_cons (ps_fld (pv 0) (pe_call Gnc (hr.mono (by decide)) (by rfl) gnc knc bnc .nil pass0 (pa_cons (pv 1) (pa_cons (pv 4) pa_nil))) rfl)
 (pss_one (ps_fld (pv 0) (pe_callTy call_tuple_of (by rfl) m_tuple boot_tuple (pa_cons (pe_lc2 (own := [("a", 6), ("b", 7)]) (vs1 := [7]) (g := gName 6) (g1 := gName 7) (tt := tYes) rfl sc_Land___init__.nd (pi_range1 rfl m_range (pa_cons (pv 1) pa_nil)) (blkOk_by (own := [("a", 6), ("b", 7)]) (N := N_Land___init__) (sc := defScope s_Land___init__) (by decide +kernel)) (by decide) (fun _ _ _ _ _ => (pg_name (i := 6) sc_Land___init__.nd rfl (by first | exact Or.inl rfl | exact Or.inr rfl))) (fun _ _ _ _ _ => pts_nil) (fun _ _ _ _ _ => (pi_range1 rfl m_range (pa_cons (pv 1) pa_nil))) (fun _ _ _ _ _ => (pg_name (i := 7) sc_Land___init__.nd rfl (by first | exact Or.inl rfl | exact Or.inr rfl))) (fun _ _ _ _ _ => (pts_one (pt_cmpR op_ne (pv 6) (pv 7) (nomark _)))) (fun _ _ _ _ _ => (pe_tup (pa_cons (pv 6) (pa_cons (pv 7) pa_nil))))) pa_nil)) rfl))))))))))), ?_⟩
    have hl : ts.length = cs.length := hT.1
    have h32 := hc.len
    have lilen : (ints_ lot).length = lot.length := List.length_map ..
    refine ⟨_, rfl, .int (n : Nat), 2, 5, rfl, .flat (.int _), _, rfl, ?_⟩
    rw [wholeV_int, decide_eq_true (by omega), decide_eq_true (by omega)]
    refine iteF ?_
    refine ⟨_, rfl, _, rfl, n, an, ts, cs, rfl, han, hT, hc, fun H1 e1 => ⟨_, rfl, iteF ?_⟩⟩
    refine ⟨_, rfl, _, rfl, n, .ref ar, 1, rfl, .inr ⟨ar, ints_ lot, rfl, har.same e1, fun y hy => ?_, by rw [lilen]; omega, fun H2 e2 => ?_⟩⟩
    · obtain ⟨k, _, rfl⟩ := List.mem_map.mp hy
      exact .flat (.int _)
    rw [cells_lot llt lnd l0]
    have e02 := e1.trans e2
    refine ⟨_, rfl, _, rfl, ar, ints_ lot, rfl, (har.same e02).sq, _, rfl, rfl, _, rfl, ?_⟩
    rw [lilen, decide_eq_false (fun e => by injection e with e; omega)]
    refine iteF ?_
    have han2 := han.same e02
    have hT2 := hT.same e02
    -- the couples, in order
    refine ⟨fun σ' H' => ∃ p us es y5 y6 y7, σ' = [some (.ref x), some (.int (n : Nat)), some (.ref an), some (.ref ar), some (.ref p), y5, y6, y7] ∧ Same H H' ∧ H' p = some (.lst (us.map V.ref)) ∧ TAt H' us (pairs es) ∧ LandOk n es ∧ es.Perm (cs.map KL.srt), ?_, fun σ' H' hM => ?_⟩
    · rcases han2 with z | z
      · refine .inl ⟨_, rfl, an, rfl, ⟨_, .inl (.inl z)⟩, fun D hD => lc_tup (xs := ts.map V.ref) (fun j H3 => Same H2 H3 ∧ ∃ us, H3 D = some (.lst (us.map V.ref)) ∧ TAt H3 us (pairs ((cs.take j).map KL.srt)) ∧ us.length ≤ j) ⟨same_new (Same.refl H2) hD, [], upd_same, .nil, Nat.le_refl _⟩ (fun j H3 _ pv => .inl (.inl (pv.1 _ _ z))) (fun j y H3 hy pv => ?_) (fun H3 pv => ?_)⟩
        · obtain ⟨e3, us, hD3, tD, lu⟩ := pv
          rw [List.getElem?_map] at hy
          obtain ⟨t', ht', rfl⟩ := Option.map_eq_some_iff.mp hy
          have hj : j < cs.length := by rw [← hl]; exact (List.getElem?_eq_some_iff.mp ht').1
          have hco := (hT2.2 j t' _ ht' (List.getElem?_eq_getElem hj)).same e3
          refine ⟨rfl, _, rfl, t', [(cs[j].1 : Int), (cs[j].2 : Int)], rfl, hco.sq, by show 2 < 64; decide, fun ms p pm so np => ?_⟩
          have em := KL.two_sorted pm so
          subst em
          refine ⟨p, _, rfl, .inl ⟨.inl (.inl upd_same), fun l nl => ?_⟩⟩
          have s1 := same_new (o := .lst ([((min cs[j].1 cs[j].2 : Nat) : Int), ((max cs[j].1 cs[j].2 : Nat) : Int)].map V.int)) (Same.refl H3) np
          have s2 := same_new (o := .tup ([((min cs[j].1 cs[j].2 : Nat) : Int), ((max cs[j].1 cs[j].2 : Nat) : Int)].map V.int)) s1 nl
          have hD4 := s2 _ _ hD3
          refine ⟨_, hD4, by rw [List.length_map]; exact small1000 (by omega), fun b o hb => ?_, us ++ [l], by rw [upd_same, List.map_append]; rfl, ?_, by rw [List.length_append, List.length_singleton]; omega⟩
          · rw [upd_ne (ne_of_none hb hD)]
            exact s2 _ _ (e3 _ _ hb)
          · rw [List.take_add_one, List.getElem?_eq_getElem hj, List.map_append]
            unfold pairs
            rw [List.map_append]
            have up : ∀ b xs, upd (upd H3 p (.lst ([((min cs[j].1 cs[j].2 : Nat) : Int), ((max cs[j].1 cs[j].2 : Nat) : Int)].map V.int))) l (.tup ([((min cs[j].1 cs[j].2 : Nat) : Int), ((max cs[j].1 cs[j].2 : Nat) : Int)].map V.int)) b = some (.tup xs) → upd (upd (upd H3 p (.lst ([((min cs[j].1 cs[j].2 : Nat) : Int), ((max cs[j].1 cs[j].2 : Nat) : Int)].map V.int))) l (.tup ([((min cs[j].1 cs[j].2 : Nat) : Int), ((max cs[j].1 cs[j].2 : Nat) : Int)].map V.int))) D (.lst (us.map V.ref ++ [.ref l])) b = some (.tup xs) := fun b xs hb => by
              rw [upd_ne (fun e => by rw [e, hD4] at hb; cases hb)]
              exact hb
            exact ((tD.same s2).mono up).append (.cons (up _ _ upd_same) .nil)
        · obtain ⟨e3, us, hD3, tD, lu⟩ := pv
          rw [List.length_map, hl, List.take_length] at tD
          refine ⟨D, us.map V.ref, kfOf H3, rfl, .inl (.inl hD3), fun y hy => ?_, fun ys p srt stb np => ?_⟩
          · obtain ⟨b, e, rfl, hb⟩ := g_mem tD y hy
            exact ⟨b, rfl, by rw [kf_at hb]; exact hb⟩
          · have hys := fun y (hy : y ∈ ys) => g_mem tD y (stb.perm.mem_iff.mp hy)
            obtain ⟨us', rfl, tY⟩ := tat_of ys hys
            have pe : ((us'.map V.ref).map (gOf H3)).Perm (cs.map KL.srt) := by
              have z := stb.perm.map (gOf H3)
              rw [g_map tD] at z
              exact z
            have s4 := same_new (o := .lst (us'.map V.ref)) (Same.refl H3) np
            refine ⟨p, us', _, _, _, _, rfl, e02.trans (e3.trans s4), upd_same, tY.same s4, ⟨fun e he => ?_, pe.nodup_iff.mpr hc.nd, sorted_of _ hys srt, KL.conn_srt cn pe⟩, pe⟩
            obtain ⟨c, hcm, rfl⟩ := List.mem_map.mp (pe.mem_iff.mp he)
            obtain ⟨c1, c2, c3⟩ := hc.lt c hcm
            refine ⟨KL.srt_lt c3, ?_⟩
            unfold KL.srt
            simp only
            omega
      · refine .inr ⟨_, rfl, an, rfl, ⟨_, .inl (.inl z)⟩, fun D hD => lc_list (xs := ts.map V.ref) (fun j H3 => Same H2 H3 ∧ ∃ us, H3 D = some (.lst (us.map V.ref)) ∧ TAt H3 us (pairs ((cs.take j).map KL.srt)) ∧ us.length ≤ j) ⟨same_new (Same.refl H2) hD, [], upd_same, .nil, Nat.le_refl _⟩ (fun j H3 _ pv => .inl (.inl (pv.1 _ _ z))) (fun j y H3 hy pv => ?_) (fun H3 pv => ?_)⟩
        · obtain ⟨e3, us, hD3, tD, lu⟩ := pv
          rw [List.getElem?_map] at hy
          obtain ⟨t', ht', rfl⟩ := Option.map_eq_some_iff.mp hy
          have hj : j < cs.length := by rw [← hl]; exact (List.getElem?_eq_some_iff.mp ht').1
          have hco := (hT2.2 j t' _ ht' (List.getElem?_eq_getElem hj)).same e3
          refine ⟨rfl, _, rfl, t', [(cs[j].1 : Int), (cs[j].2 : Int)], rfl, hco.sq, by show 2 < 64; decide, fun ms p pm so np => ?_⟩
          have em := KL.two_sorted pm so
          subst em
          refine ⟨p, _, rfl, .inl ⟨.inl (.inl upd_same), fun l nl => ?_⟩⟩
          have s1 := same_new (o := .lst ([((min cs[j].1 cs[j].2 : Nat) : Int), ((max cs[j].1 cs[j].2 : Nat) : Int)].map V.int)) (Same.refl H3) np
          have s2 := same_new (o := .tup ([((min cs[j].1 cs[j].2 : Nat) : Int), ((max cs[j].1 cs[j].2 : Nat) : Int)].map V.int)) s1 nl
          have hD4 := s2 _ _ hD3
          refine ⟨_, hD4, by rw [List.length_map]; exact small1000 (by omega), fun b o hb => ?_, us ++ [l], by rw [upd_same, List.map_append]; rfl, ?_, by rw [List.length_append, List.length_singleton]; omega⟩
          · rw [upd_ne (ne_of_none hb hD)]
            exact s2 _ _ (e3 _ _ hb)
          · rw [List.take_add_one, List.getElem?_eq_getElem hj, List.map_append]
            unfold pairs
            rw [List.map_append]
            have up : ∀ b xs, upd (upd H3 p (.lst ([((min cs[j].1 cs[j].2 : Nat) : Int), ((max cs[j].1 cs[j].2 : Nat) : Int)].map V.int))) l (.tup ([((min cs[j].1 cs[j].2 : Nat) : Int), ((max cs[j].1 cs[j].2 : Nat) : Int)].map V.int)) b = some (.tup xs) → upd (upd (upd H3 p (.lst ([((min cs[j].1 cs[j].2 : Nat) : Int), ((max cs[j].1 cs[j].2 : Nat) : Int)].map V.int))) l (.tup ([((min cs[j].1 cs[j].2 : Nat) : Int), ((max cs[j].1 cs[j].2 : Nat) : Int)].map V.int))) D (.lst (us.map V.ref ++ [.ref l])) b = some (.tup xs) := fun b xs hb => by
              rw [upd_ne (fun e => by rw [e, hD4] at hb; cases hb)]
              exact hb
            exact ((tD.same s2).mono up).append (.cons (up _ _ upd_same) .nil)
        · obtain ⟨e3, us, hD3, tD, lu⟩ := pv
          rw [List.length_map, hl, List.take_length] at tD
          refine ⟨D, us.map V.ref, kfOf H3, rfl, .inl (.inl hD3), fun y hy => ?_, fun ys p srt stb np => ?_⟩
          · obtain ⟨b, e, rfl, hb⟩ := g_mem tD y hy
            exact ⟨b, rfl, by rw [kf_at hb]; exact hb⟩
          · have hys := fun y (hy : y ∈ ys) => g_mem tD y (stb.perm.mem_iff.mp hy)
            obtain ⟨us', rfl, tY⟩ := tat_of ys hys
            have pe : ((us'.map V.ref).map (gOf H3)).Perm (cs.map KL.srt) := by
              have z := stb.perm.map (gOf H3)
              rw [g_map tD] at z
              exact z
            have s4 := same_new (o := .lst (us'.map V.ref)) (Same.refl H3) np
            refine ⟨p, us', _, _, _, _, rfl, e02.trans (e3.trans s4), upd_same, tY.same s4, ⟨fun e he => ?_, pe.nodup_iff.mpr hc.nd, sorted_of _ hys srt, KL.conn_srt cn pe⟩, pe⟩
            obtain ⟨c, hcm, rfl⟩ := List.mem_map.mp (pe.mem_iff.mp he)
            obtain ⟨c1, c2, c3⟩ := hc.lt c hcm
            refine ⟨KL.srt_lt c3, ?_⟩
            unfold KL.srt
            simp only
            omega
    · obtain ⟨p, us, es, y5, y6, y7, rfl, eM, hp, tU, ok, pe⟩ := hM
      have esl : es.length = cs.length := by rw [pe.length_eq, List.length_map]
      refine ⟨_, rfl, _, rfl, n, p, us, es, rfl, by omega, n5, hp, tU, by omega, fun e he => ?_, ok.conn, fun H5 e5 => ⟨_, rfl, iteF ?_⟩⟩
      · obtain ⟨l1, l2⟩ := ok.lt e he
        exact ⟨by omega, l2⟩
      have b5 : But x H H5 := fun b o _ hb => e5 _ _ (eM _ _ hb)
      have hx5 := e5 _ _ (eM _ _ hx)
      have hp5 := e5 _ _ hp
      have tU5 := tU.same e5
      have har5 := (har.same eM).same e5
      -- cells
      refine ⟨_, rfl, _, rfl, x, a.C, dx, _, rfl, hx5, T.cl, T.nA _ (by decide), by show 0 < 1000; decide, ?_⟩
      have b6 := b5.put (.ins a.C dx (putF "cells" (.int (n : Nat)) []))
      have hx6 : upd H5 x (.ins a.C dx (putF "cells" (.int (n : Nat)) [])) x = _ := upd_same
      have hp6 := keepNI (o' := .ins a.C dx (putF "cells" (.int (n : Nat)) [])) hx5 hp5 fun _ _ _ e => by cases e
      have tU6 := tU5.ni hx5 (.ins a.C dx (putF "cells" (.int (n : Nat)) []))
      have har6 := har5.ni hx5 (.ins a.C dx (putF "cells" (.int (n : Nat)) []))
      generalize upd H5 x (.ins a.C dx (putF "cells" (.int (n : Nat)) [])) = H6 at b6 hx6 hp6 tU6 har6 ⊢
      -- neighbours
      refine ⟨_, rfl, p, us.map V.ref, rfl, .inl ⟨.inl (.inl hp6), fun tn ntn => ?_⟩⟩
      have s7 := same_new (o := .tup (us.map V.ref)) (Same.refl H6) ntn
      have b7 := b6.same s7
      have hx7 := s7 _ _ hx6
      refine ⟨_, rfl, x, a.C, dx, _, rfl, hx7, T.cl, T.nA _ (by decide), by show 1 < 1000; decide, ?_⟩
      have b8 := b7.put (.ins a.C dx (putF "neighbours" (.ref tn) (putF "cells" (.int (n : Nat)) [])))
      have hx8 : upd (upd H6 tn (.tup (us.map V.ref))) x (.ins a.C dx (putF "neighbours" (.ref tn) (putF "cells" (.int (n : Nat)) []))) x = _ := upd_same
      have hp8 := keepNI (o' := .ins a.C dx (putF "neighbours" (.ref tn) (putF "cells" (.int (n : Nat)) []))) hx7 (s7 _ _ hp6) fun _ _ _ e => by cases e
      have tU8 := (tU6.same s7).ni hx7 (.ins a.C dx (putF "neighbours" (.ref tn) (putF "cells" (.int (n : Nat)) [])))
      have har8 := (har6.same s7).ni hx7 (.ins a.C dx (putF "neighbours" (.ref tn) (putF "cells" (.int (n : Nat)) [])))
      have hn8 := keepNI (o' := .ins a.C dx (putF "neighbours" (.ref tn) (putF "cells" (.int (n : Nat)) []))) hx7 (show upd H6 tn (.tup (us.map V.ref)) tn = _ from upd_same) fun _ _ _ e => by cases e
      generalize upd (upd H6 tn (.tup (us.map V.ref))) x (.ins a.C dx (putF "neighbours" (.ref tn) (putF "cells" (.int (n : Nat)) []))) = H8 at b8 hx8 hp8 tU8 har8 hn8 ⊢
      -- roads
      have harI : SqOf H8 ar ((lot.map fun c => ((c : Nat) : Int)).map V.int) := by rw [← ints_map]; exact har8
      refine ⟨_, rfl, ar, lot.map fun c => ((c : Nat) : Int), rfl, harI.sq, by rw [List.length_map]; omega, fun ms pl pm so npl => ⟨pl, _, rfl, .inl ⟨.inl (.inl upd_same), fun tr ntr => ?_⟩⟩⟩
      have ems := ints_back pm
      have e12 : ms.map V.int = ints_ (ms.map Int.toNat) := by rw [ints_map, ← ems]
      rw [e12] at ntr ⊢
      have prd : (ms.map Int.toNat).Perm lot := by
        have z := pm.map Int.toNat
        rw [List.map_map] at z
        exact z.trans (List.Perm.of_eq ((List.map_congr_left fun c _ => rfl).trans (List.map_id lot)))
      have srd : (ms.map Int.toNat).Pairwise (· ≤ ·) := by
        rw [List.pairwise_map]
        exact so.imp fun {a b} h => by omega
      generalize ms.map Int.toNat = rd at prd srd ntr ⊢
      have s9 := same_new (o := .lst (ints_ rd)) (Same.refl H8) npl
      have s10 := same_new (o := .tup (ints_ rd)) s9 ntr
      have hr10 : upd (upd H8 pl (.lst (ints_ rd))) tr (.tup (ints_ rd)) tr = some (.tup (ints_ rd)) := upd_same
      generalize upd (upd H8 pl (.lst (ints_ rd))) tr (.tup (ints_ rd)) = H10 at s10 hr10 ⊢
      have hx10 := s10 _ _ hx8
      refine ⟨_, rfl, x, a.C, dx, _, rfl, hx10, T.cl, T.nA _ (by decide), by show 2 < 1000; decide, ?_⟩
      have b11 := (b8.same s10).put (.ins a.C dx (putF "roads" (.ref tr) (putF "neighbours" (.ref tn) (putF "cells" (.int (n : Nat)) []))))
      have hx11 : upd H10 x (.ins a.C dx (putF "roads" (.ref tr) (putF "neighbours" (.ref tn) (putF "cells" (.int (n : Nat)) [])))) x = _ := upd_same
      have hp11 := keepNI (o' := .ins a.C dx (putF "roads" (.ref tr) (putF "neighbours" (.ref tn) (putF "cells" (.int (n : Nat)) [])))) hx10 (s10 _ _ hp8) fun _ _ _ e => by cases e
      have tU11 := (tU8.same s10).ni hx10 (.ins a.C dx (putF "roads" (.ref tr) (putF "neighbours" (.ref tn) (putF "cells" (.int (n : Nat)) []))))
      have hn11 := keepNI (o' := .ins a.C dx (putF "roads" (.ref tr) (putF "neighbours" (.ref tn) (putF "cells" (.int (n : Nat)) [])))) hx10 (s10 _ _ hn8) fun _ _ _ e => by cases e
      have hr11 := keepNI (o' := .ins a.C dx (putF "roads" (.ref tr) (putF "neighbours" (.ref tn) (putF "cells" (.int (n : Nat)) [])))) hx10 hr10 fun _ _ _ e => by cases e
      generalize upd H10 x (.ins a.C dx (putF "roads" (.ref tr) (putF "neighbours" (.ref tn) (putF "cells" (.int (n : Nat)) [])))) = H11 at b11 hx11 hp11 tU11 hn11 hr11 ⊢
      -- nearby
      refine ⟨_, rfl, _, rfl, n, p, us, es, rfl, n5, hp11, tU11, by omega, fun H12 ty uy s12 nty hy12 tY12 => ?_⟩
      have hx12 := s12 _ _ hx11
      refine ⟨_, rfl, x, a.C, dx, _, rfl, hx12, T.cl, T.nA _ (by decide), by show 3 < 1000; decide, ?_⟩
      have b13 := (b11.same s12).put (.ins a.C dx (putF "nearby" (.ref ty) (putF "roads" (.ref tr) (putF "neighbours" (.ref tn) (putF "cells" (.int (n : Nat)) [])))))
      have hx13 : upd H12 x (.ins a.C dx (putF "nearby" (.ref ty) (putF "roads" (.ref tr) (putF "neighbours" (.ref tn) (putF "cells" (.int (n : Nat)) []))))) x = _ := upd_same
      have tU13 := (tU11.same s12).ni hx12 (.ins a.C dx (putF "nearby" (.ref ty) (putF "roads" (.ref tr) (putF "neighbours" (.ref tn) (putF "cells" (.int (n : Nat)) [])))))
      have tY13 := tY12.ni hx12 (.ins a.C dx (putF "nearby" (.ref ty) (putF "roads" (.ref tr) (putF "neighbours" (.ref tn) (putF "cells" (.int (n : Nat)) [])))))
      have hn13 := keepNI (o' := .ins a.C dx (putF "nearby" (.ref ty) (putF "roads" (.ref tr) (putF "neighbours" (.ref tn) (putF "cells" (.int (n : Nat)) []))))) hx12 (s12 _ _ hn11) fun _ _ _ e => by cases e
      have hr13 := keepNI (o' := .ins a.C dx (putF "nearby" (.ref ty) (putF "roads" (.ref tr) (putF "neighbours" (.ref tn) (putF "cells" (.int (n : Nat)) []))))) hx12 (s12 _ _ hr11) fun _ _ _ e => by cases e
      have hy13 := keepNI (o' := .ins a.C dx (putF "nearby" (.ref ty) (putF "roads" (.ref tr) (putF "neighbours" (.ref tn) (putF "cells" (.int (n : Nat)) []))))) hx12 hy12 fun _ _ _ e => by cases e
      generalize upd H12 x (.ins a.C dx (putF "nearby" (.ref ty) (putF "roads" (.ref tr) (putF "neighbours" (.ref tn) (putF "cells" (.int (n : Nat)) []))))) = H13 at b13 hx13 tU13 hn13 hr13 hy13 tY13 ⊢
      -- couples
      refine ⟨_, rfl, _, rfl, by omega, by omega, fun D hD => K7E.out_range (lo := 0) (n := n) (fun i H' => Same H13 H' ∧ ∃ vs, H' D = some (.lst (vs.map V.ref)) ∧ TAt H' vs (pairs (upC n i)) ∧ vs.length ≤ i * n) ⟨same_new (Same.refl H13) hD, [], upd_same, .nil, Nat.zero_le _⟩ (fun i H' hi pv => ?_) (fun H' pv => ?_)⟩
      · obtain ⟨e14, vs, hD14, tV, lv⟩ := pv
        refine ⟨rfl, _, rfl, _, rfl, by omega, by omega, K7E.in_range (lo := 0) (n := n) (fun j H'' => Same H13 H'' ∧ ∃ vs, H'' D = some (.lst (vs.map V.ref)) ∧ TAt H'' vs (pairs (upC n i ++ rowC n i j)) ∧ vs.length ≤ i * n + j) ⟨e14, vs, hD14, ?_, lv⟩ (fun j H'' hj pv => ?_) (fun H'' pv => ?_)⟩
        · show TAt H' vs (pairs (upC n i ++ []))
          rw [List.append_nil]
          exact tV
        · obtain ⟨e15, vs, hD15, tV, lv⟩ := pv
          refine ⟨rfl, _, rfl, _, rfl, rfl, _, rfl, ?_⟩
          by_cases hij : i = j
          · subst hij
            have er : rowC n i (i + 1) = rowC n i i := by rw [rowC_succ, if_neg (fun h => h rfl), List.append_nil]
            have e16 : (!decide (V.int (0 + (i : Nat)) = V.int (0 + (i : Nat)))) = false := by rw [decide_eq_true rfl]; rfl
            rw [e16]
            refine iteF ⟨e15, vs, hD15, ?_, by omega⟩
            rw [er]
            exact tV
          · have er : rowC n i (j + 1) = rowC n i j ++ [(i, j)] := by rw [rowC_succ, if_pos hij]
            have e16 : (!decide (V.int (0 + (i : Nat)) = V.int (0 + (j : Nat)))) = true := by
              rw [decide_eq_false (fun h => by injection h with h; exact hij (by omega))]
              rfl
            have hin : i * n ≤ 25 := Nat.le_trans (Nat.mul_le_mul (Nat.le_of_lt (Nat.lt_of_lt_of_le hi n5)) n5) (by decide)
            rw [e16]
            refine iteT ⟨_, rfl, _, rfl, by show 2 ≤ sizeLine; decide, fun t nt => ?_⟩
            rw [er]
            have sT := same_new (o := .tup [.int (0 + (i : Nat)), .int (0 + (j : Nat))]) (Same.refl H'') nt
            have up : ∀ b xs, upd H'' t (.tup [.int (0 + (i : Nat)), .int (0 + (j : Nat))]) b = some (.tup xs) → upd (upd H'' t (.tup [.int (0 + (i : Nat)), .int (0 + (j : Nat))])) D (.lst (vs.map V.ref ++ [.ref t])) b = some (.tup xs) := fun b xs hb => by
              rw [upd_ne (fun z => by rw [z, sT _ _ hD15] at hb; cases hb)]
              exact hb
            refine ⟨_, sT _ _ hD15, by rw [List.length_map]; exact small1000 (by omega), fun b o hb => ?_, vs ++ [t], by rw [upd_same, List.map_append]; rfl, ?_, by rw [List.length_append, List.length_singleton]; omega⟩
            · rw [upd_ne (ne_of_none hb hD)]
              exact sT _ _ (e15 _ _ hb)
            · rw [← List.append_assoc]
              unfold pairs
              rw [List.map_append]
              refine ((tV.same sT).mono up).append (.cons (up _ _ ?_) .nil)
              rw [upd_same, Int.zero_add, Int.zero_add]
              rfl
        · obtain ⟨e15, vs, hD15, tV, lv⟩ := pv
          exact ⟨e15, vs, hD15, by rw [upC_succ]; exact tV, by rw [Nat.succ_mul]; exact lv⟩
      · obtain ⟨e14, vs, hD14, tV, lv⟩ := pv
        refine ⟨D, vs.map V.ref, rfl, .inl ⟨.inl (.inl hD14), fun tc ntc => ?_⟩⟩
        have sC := same_new (o := .tup (vs.map V.ref)) e14 ntc
        have hc14 : upd H' tc (.tup (vs.map V.ref)) tc = some (.tup (vs.map V.ref)) := upd_same
        have tV14 := tV.same (same_new (o := .tup (vs.map V.ref)) (Same.refl H') ntc)
        generalize upd H' tc (.tup (vs.map V.ref)) = H15 at sC hc14 tV14 ⊢
        have hx15 := sC _ _ hx13
        refine ⟨_, rfl, x, a.C, dx, _, rfl, hx15, T.cl, T.nA _ (by decide), by show 4 < 1000; decide, ?_⟩
        have no : ∀ (xs : List V) (C dx : Addr) fs, HO.tup xs ≠ .ins C dx fs := fun _ _ _ _ e => by cases e
        exact q _ es rd ((b13.same sC).put _) ⟨⟨dx, tn, tr, ty, tc, us, uy, vs, upd_same, keepNI hx15 (sC _ _ hn13) (no _), (tU13.same sC).ni hx15 _, keepNI hx15 (sC _ _ hr13) (no _), keepNI hx15 (sC _ _ hy13) (no _), (tY13.same sC).ni hx15 _, keepNI hx15 hc14 (no _), tV14.ni hx15 _⟩,
          n2, n5, ok, fun c hc => llt c (prd.mem_iff.mp hc), prd.nodup_iff.mpr lnd, srd, by rw [prd.length_eq]; exact l0, by rw [prd.length_eq]; exact ln⟩ pe prd
end
end K7
end
/-! ## P13 -/
section
open PySem PySem.Spec PyProof.Rows L2
namespace K7
abbrev N_Land_couples : List Str := ["self"]
abbrev s_Land_couples : Stmt := inClass (topS 18) 2
theorem sc_Land_couples : FnScope ["self"] ["self"] (defScope s_Land_couples) := ⟨rfl, rfl, rfl, by decide +kernel, rfl, by decide +kernel, by decide +kernel⟩
theorem near_get {n : Nat} {es : List (Nat × Nat)} {c : Nat} (h : c < n) : (nearV n es)[c]? = some ((List.range n).filter fun b => decide ((c, b) ∈ es) || decide ((b, c) ∈ es)) := by
  unfold nearV
  rw [List.getElem?_map, List.getElem?_range h]
  rfl
def nearOf (n : Nat) (es : List (Nat × Nat)) (c : Nat) : List Nat := (List.range n).filter fun b => decide ((c, b) ∈ es) || decide ((b, c) ∈ es)
/-- a cell, or what is no cell and is told so -/
def CellOr (B : Addr) (n : Nat) (H : Hp) (x : V) (E : XK) (q : Nat → Prop) : Prop := (∃ c, x = .int (c : Nat) ∧ c < n ∧ q c) ∨ (Thing H x ∧ wholeV x 0 ((n : Nat) - 1) = false ∧ Flies H B "cell" x E)
theorem whole_cell {n c : Nat} (h : c < n) : wholeV (.int (c : Nat)) 0 (((n : Nat) : Int) - 1) = true := by
  rw [wholeV_int, decide_eq_true (by omega), decide_eq_true (by omega)]
  rfl
theorem one_in {n c : Nat} (h : c < n) : AllIn n [.int (c : Nat)] := fun x hx => by
  rw [List.mem_singleton.mp hx]
  exact whole_cell h
section
variable {P : Program} {w : World} {K : PySem.W.Frag} {mg : Str → Option Value} {base : Heap} {a : AdL}
def spCouples (C : Addr) : Sp := fun vs H Q _ => ∃ (p : Addr) (n : Nat) (es : List (Nat × Nat)) (rd : List Nat), vs = [.ref p] ∧ LandO C H p n es rd ∧ ∀ u tc, H u = some (.tup (tc.map V.ref)) → TAt H tc (pairs (KL.allC n)) → Q (.ref u) H
theorem ok_couples (T : Tl K mg a) {f : Addr} {fd : FuncData} (F : Fun K "couples" "Land.couples" s_Land_couples f fd) : FnOk P w K mg base CX0 1 f fd ["self"] (spCouples a.C) := by
  refine F.ok sc_Land_couples (fun vs H Q E h => ?_) (fun cdv A outer s H vs Q E hr h => ?_)
  · obtain ⟨p, n, es, rd, rfl, _⟩ := h
    rfl
  · obtain ⟨p, n, es, rd, rfl, L, q⟩ := h
    refine ⟨_, (pss_one (ps_ret (pe_fld (pv 0) rfl))), ?_⟩
    obtain ⟨dx, an, ar, ay, ac, tn, ty, tc, h1, h2, h3, h4, h5, h6, h7, h8⟩ := L.at_
    exact ⟨_, rfl, p, a.C, dx, _, _, rfl, h1, T.cl, T.nA _ (by decide), rfl, q _ _ h7 h8⟩
end
end K7
end
/-! ## MN -/
section
/-! min of a list of data that can be compared with one another. -/
namespace K7S
open PySem PySem.Spec PyProof.Rows L2
section
variable {X : Cx}
def rMinD (K : PySem.W.Frag) : List V → Hp → VK → Prop := fun vs H Q => ∃ (a : Addr) (xs : List V) (d : PyData) (ds : List PyData), vs = [V.ref a] ∧ SqL K H a xs ∧ DpAll K H xs (d :: ds) ∧
  PySem.W.AlikeAll (d :: ds) ∧ PyData.canLayAll0 (d :: ds) = true ∧ PyData.depthAll (d :: ds) ≤ 64 ∧ ∀ (i : Nat) (v : V), xs[i]? = some v → (d :: ds)[i]? = some (PySem.W.minD d ds) → Q v H
theorem vals_back {vs : List V} {us : List Value} (r : Vals vs us) : ∀ {i : Nat} {u : Value}, us[i]? = some u → ∃ v, vs[i]? = some v ∧ RelV v u := by
  induction r with
  | nil => exact fun {i u} h => nomatch h
  | cons r1 _ ih =>
    intro i u h
    cases i with
    | zero =>
      obtain rfl := Option.some.inj h
      exact ⟨_, rfl, r1⟩
    | succ i => exact ih (i := i) h
theorem minD_mem (d : PyData) : ∀ ds : List PyData, PySem.W.minD d ds ∈ d :: ds := by
  intro ds
  have z : ∀ (ds : List PyData) (a : PyData), ds.foldl (fun a y => if PySem.W.dataLt y a then y else a) a ∈ a :: ds := by
    intro ds
    induction ds with
    | nil => exact fun a => List.mem_cons_self ..
    | cons y ds ih =>
      intro a
      rcases List.mem_cons.mp (ih (if PySem.W.dataLt y a then y else a)) with e | e
      · rw [List.foldl_cons, e]
        split
        · exact List.mem_cons_of_mem _ (List.mem_cons_self ..)
        · exact List.mem_cons_self ..
      · exact List.mem_cons_of_mem _ (List.mem_cons_of_mem _ e)
  exact z ds d
theorem cr_minD (hc : X.calm = true) (hu : X.A.units + 65 < cLine) : CallR X (.builtin "min") (rMinD X.K) := by
  intro pins s τ H vs us Q I r h
  obtain ⟨a, xs, d, ds, rfl, hs, hd, hal, hlay, hdep, q⟩ := h
  obtain ⟨its, rv, hl, _⟩ := I.list hs
  rw [Vals.ref1 r]
  obtain ⟨as, hr⟩ := Dp.readsAll I (d :: ds) _ its hd rv
  have hmap : its.map (SeqAt.readOf s.heap) = d :: ds := SeqAt.readsAll_map (d :: ds) its as hlay hr
  refine PySem.W.min_list_data (I.ok.hd hc) hl.isList hr hal (by omega) fun i v h' tk bs hv hrd hk => ?_
  have hv : its[i]? = some v := by simpa using hv
  obtain ⟨x, hx, rx⟩ := vals_back rv hv
  have hi := congrArg (fun l : List PyData => l[i]?) hmap
  simp only [List.getElem?_map, hv, Option.map_some] at hi
  have all : ∀ (l : List PyData), PyData.canLayAll0 l = true → ∀ z ∈ l, z.canLay0 = true := by
    intro l
    induction l with
    | nil => exact fun _ z hz => nomatch hz
    | cons y l ih =>
      intro h z hz
      rw [PyData.canLayAll0, Bool.and_eq_true] at h
      rcases List.mem_cons.mp hz with rfl | hz
      · exact h.1
      · exact ih h.2 z hz
  obtain ⟨cs, r1, _, m1, _⟩ := PySem.W.readsAll_at hr i v hv
  have e1 := SeqAt.readOf_eq (all _ hlay _ m1) (PySem.W.reads_keeps hk r1)
  have e2 := SeqAt.readOf_eq (all _ hlay _ (minD_mem d ds)) hrd
  have e3 := SeqAt.readOf_eq (all _ hlay _ m1) r1
  refine ⟨x, H, I.kept (t' := tk) hk, rx, q i x hx (hi.symm.trans ?_)⟩
  rw [e3, ← e1, e2]
end
end K7S
end
/-! ## OR -/
section
open PySem PySem.Spec PyProof.Rows L2
namespace K7
/-! ### orders of cells -/
def at_ (o : List Nat) (c : Nat) : Nat := o.getD c 0
structure IsOrd (n : Nat) (o : List Nat) : Prop where
  len : o.length = n
  lt : ∀ c ∈ o, c < n
  nd : o.Nodup
def rowO (n : Nat) (o : List Nat) (j : Nat) : List (List Nat) := ((List.range j).filter fun c => !decide (c ∈ o)).map fun c => o ++ [c]
def stepO (n : Nat) (rows : List (List Nat)) : List (List Nat) := rows.flatMap fun o => rowO n o n
def itO (n : Nat) : Nat → List (List Nat)
  | 0 => [[]]
  | k + 1 => stepO n (itO n k)
def ords (n : Nat) : List (List Nat) := itO n n
theorem rowO_succ (n : Nat) (o : List Nat) (j : Nat) : rowO n o (j + 1) = rowO n o j ++ (if (!decide (j ∈ o)) = true then [o ++ [j]] else []) := by
  unfold rowO
  rw [range_filter, List.map_append]
  congr 1
  by_cases h : (!decide (j ∈ o)) = true
  · rw [if_pos h, if_pos h]; rfl
  · rw [if_neg h, if_neg h]; rfl
theorem rowO_len (n : Nat) (o : List Nat) (j : Nat) : (rowO n o j).length ≤ j := by
  unfold rowO
  rw [List.length_map]
  exact Nat.le_trans (List.length_filter_le _ _) (by rw [List.length_range]; exact Nat.le_refl _)
theorem step_snoc (n : Nat) (rows : List (List Nat)) (o : List Nat) : stepO n (rows ++ [o]) = stepO n rows ++ rowO n o n := by
  unfold stepO
  rw [List.flatMap_append, List.flatMap_cons, List.flatMap_nil, List.append_nil]
theorem step_len (n : Nat) : ∀ rows : List (List Nat), (stepO n rows).length ≤ rows.length * n
  | [] => Nat.zero_le _
  | o :: rows => by
    have h := step_len n rows
    have h2 := rowO_len n o n
    show (rowO n o n ++ stepO n rows).length ≤ _
    rw [List.length_append, List.length_cons, Nat.succ_mul]
    omega
theorem itO_len : ∀ n : Fin 6, ∀ k : Fin 6, k.val ≤ n.val → (itO n.val k.val).length ≤ 120 := by decide +kernel
theorem mem_rowO {n : Nat} {o x : List Nat} {j : Nat} : x ∈ rowO n o j ↔ ∃ c, c < j ∧ c ∉ o ∧ x = o ++ [c] := by
  unfold rowO
  rw [List.mem_map]
  constructor
  · rintro ⟨c, hc, rfl⟩
    rw [List.mem_filter, List.mem_range] at hc
    exact ⟨c, hc.1, by simpa using hc.2, rfl⟩
  · rintro ⟨c, h1, h2, rfl⟩
    exact ⟨c, List.mem_filter.mpr ⟨List.mem_range.mpr h1, by simpa using h2⟩, rfl⟩
theorem mem_itO (n : Nat) : ∀ (k : Nat) (x : List Nat), x ∈ itO n k ↔ x.length = k ∧ (∀ c ∈ x, c < n) ∧ x.Nodup
  | 0, x => by
    show x ∈ [[]] ↔ _
    rw [List.mem_singleton]
    constructor
    · rintro rfl
      exact ⟨rfl, fun c hc => (nomatch hc), List.nodup_nil⟩
    · exact fun h => List.length_eq_zero_iff.mp h.1
  | k + 1, x => by
    show x ∈ stepO n (itO n k) ↔ _
    unfold stepO
    rw [List.mem_flatMap]
    constructor
    · rintro ⟨o, ho, hx⟩
      obtain ⟨c, hc, hno, rfl⟩ := mem_rowO.mp hx
      obtain ⟨h1, h2, h3⟩ := (mem_itO n k o).mp ho
      refine ⟨by rw [List.length_append, h1]; rfl, fun d hd => ?_, ?_⟩
      · rcases List.mem_append.mp hd with hd | hd
        · exact h2 d hd
        · rw [List.mem_singleton.mp hd]; exact hc
      · rw [List.nodup_append]
        exact ⟨h3, List.nodup_cons.mpr ⟨List.not_mem_nil, List.nodup_nil⟩, fun a ha b hb e => hno (by rw [← List.mem_singleton.mp hb, ← e]; exact ha)⟩
    · rintro ⟨h1, h2, h3⟩
      have ne : x ≠ [] := fun e => by rw [e] at h1; cases h1
      have ex := List.dropLast_concat_getLast ne
      refine ⟨x.dropLast, (mem_itO n k _).mpr ⟨by rw [List.length_dropLast, h1]; rfl, fun c hc => h2 c (List.dropLast_subset x hc), h3.sublist (List.dropLast_sublist x)⟩, mem_rowO.mpr ⟨x.getLast ne, h2 _ (List.getLast_mem ne), fun m => ?_, ex.symm⟩⟩
      rw [← ex, List.nodup_append] at h3
      exact h3.2.2 _ m _ (List.mem_singleton.mpr rfl) rfl
theorem mem_ords {n : Nat} {x : List Nat} : x ∈ ords n ↔ IsOrd n x := (mem_itO n n x).trans ⟨fun h => ⟨h.1, h.2.1, h.2.2⟩, fun h => ⟨h.len, h.lt, h.nd⟩⟩
theorem IsOrd.perm {n : Nat} {o : List Nat} (h : IsOrd n o) : o.Perm (List.range n) := by
  refine (List.perm_ext_iff_of_nodup h.nd List.nodup_range).mpr fun d => ⟨fun m => List.mem_range.mpr (h.lt d m), fun m => ?_⟩
  refine Classical.byContradiction fun no => ?_
  have z := List.Nodup.length_le_of_subset (l₁ := d :: o) (l₂ := List.range n) (List.nodup_cons.mpr ⟨no, h.nd⟩) fun c hc => by
    rcases List.mem_cons.mp hc with rfl | hc
    · exact m
    · exact List.mem_range.mpr (h.lt c hc)
  rw [List.length_cons, List.length_range, h.len] at z
  omega
theorem at_get {o : List Nat} {c : Nat} (h : c < o.length) : at_ o c = o[c] := by
  unfold at_
  rw [List.getD_eq_getElem?_getD, List.getElem?_eq_getElem h]
  rfl
theorem IsOrd.at_lt {n : Nat} {o : List Nat} (h : IsOrd n o) {c : Nat} (hc : c < n) : at_ o c < n := by
  have l : c < o.length := by rw [h.len]; exact hc
  rw [at_get l]
  exact h.lt _ (List.getElem_mem l)
theorem IsOrd.inj {n : Nat} {o : List Nat} (h : IsOrd n o) {c d : Nat} (hc : c < n) (hd : d < n) (e : at_ o c = at_ o d) : c = d := by
  have l1 : c < o.length := by rw [h.len]; exact hc
  have l2 : d < o.length := by rw [h.len]; exact hd
  rw [at_get l1, at_get l2] at e
  exact (List.getElem_inj h.nd).mp e
theorem IsOrd.surj {n : Nat} {o : List Nat} (h : IsOrd n o) {d : Nat} (hd : d < n) : ∃ c, c < n ∧ at_ o c = d := by
  have m : d ∈ o := h.perm.mem_iff.mpr (List.mem_range.mpr hd)
  obtain ⟨c, hc, e⟩ := List.getElem_of_mem m
  exact ⟨c, by rw [← h.len]; exact hc, by rw [at_get hc]; exact e⟩
theorem ord_map {n : Nat} (f : Nat → Nat) (h1 : ∀ c, c < n → f c < n) (h2 : ∀ c d, c < n → d < n → f c = f d → c = d) : IsOrd n ((List.range n).map f) ∧ ∀ c, c < n → at_ ((List.range n).map f) c = f c := by
  refine ⟨⟨by rw [List.length_map, List.length_range], fun c hc => ?_, ?_⟩, fun c hc => ?_⟩
  · obtain ⟨d, hd, rfl⟩ := List.mem_map.mp hc
    exact h1 d (List.mem_range.mp hd)
  · rw [List.nodup_iff_pairwise_ne, List.pairwise_map]
    refine (List.nodup_iff_pairwise_ne.mp (List.nodup_range (n := n))).imp_of_mem fun {a b} ha hb ne e => ne (h2 a b (List.mem_range.mp ha) (List.mem_range.mp hb) e)
  · rw [at_get (by rw [List.length_map, List.length_range]; exact hc), List.getElem_map, List.getElem_range]
/-- one order behind another -/
theorem ord_comp {n : Nat} {o p : List Nat} (ho : IsOrd n o) (hp : IsOrd n p) : ∃ q, IsOrd n q ∧ ∀ c, c < n → at_ q c = at_ p (at_ o c) := by
  obtain ⟨h1, h2⟩ := ord_map (n := n) (fun c => at_ p (at_ o c)) (fun c hc => hp.at_lt (ho.at_lt hc)) fun c d hc hd e => ho.inj hc hd (hp.inj (ho.at_lt hc) (ho.at_lt hd) e)
  exact ⟨_, h1, h2⟩
/-- the order that leads back -/
theorem ord_inv {n : Nat} {o : List Nat} (ho : IsOrd n o) : ∃ q, IsOrd n q ∧ ∀ c, c < n → at_ q (at_ o c) = c := by
  have hx : ∀ d, d < n → o.idxOf d < n ∧ at_ o (o.idxOf d) = d := fun d hd => by
    have m : d ∈ o := ho.perm.mem_iff.mpr (List.mem_range.mpr hd)
    have l := List.idxOf_lt_length_of_mem m
    refine ⟨by rw [← ho.len]; exact l, ?_⟩
    rw [at_get l]
    exact List.getElem_idxOf l
  obtain ⟨h1, h2⟩ := ord_map (n := n) (fun d => o.idxOf d) (fun d hd => (hx d hd).1) fun c d hc hd e => by
    rw [← (hx c hc).2, ← (hx d hd).2]
    exact congrArg (at_ o) e
  refine ⟨_, h1, fun c hc => ?_⟩
  rw [h2 _ (ho.at_lt hc)]
  exact ho.inj ((hx _ (ho.at_lt hc)).1) hc (hx _ (ho.at_lt hc)).2
/-! ### lands led -/
abbrev Part := List (Nat × Nat) × List Nat
def leB (a b : Nat × Nat) : Bool := decide (a.1 < b.1 ∨ (a.1 = b.1 ∧ a.2 ≤ b.2))
def ledE (o : List Nat) (es : List (Nat × Nat)) : List (Nat × Nat) := (es.map fun e => KL.srt (at_ o e.1, at_ o e.2)).mergeSort leB
def ledR (o : List Nat) (rd : List Nat) : List Nat := (rd.map (at_ o)).mergeSort fun a b => decide (a ≤ b)
def led (o : List Nat) (x : Part) : Part := (ledE o x.1, ledR o x.2)
theorem ledE_perm (o : List Nat) (es : List (Nat × Nat)) : (ledE o es).Perm (es.map fun e => KL.srt (at_ o e.1, at_ o e.2)) := List.mergeSort_perm _ _
theorem ledR_perm (o rd : List Nat) : (ledR o rd).Perm (rd.map (at_ o)) := List.mergeSort_perm _ _
theorem ledE_sorted (o : List Nat) (es : List (Nat × Nat)) : (ledE o es).Pairwise KL.lexLe := by
  have h := List.pairwise_mergeSort (le := leB) (fun a b c h1 h2 => by unfold leB at *; simp only [decide_eq_true_eq] at *; omega) (fun a b => by unfold leB; simp only [Bool.or_eq_true, decide_eq_true_eq]; omega) (es.map fun e => KL.srt (at_ o e.1, at_ o e.2))
  exact h.imp fun {a b} e => of_decide_eq_true e
theorem ledR_sorted (o rd : List Nat) : (ledR o rd).Pairwise (· ≤ ·) := by
  have h := List.pairwise_mergeSort (le := fun a b : Nat => decide (a ≤ b)) (fun a b c h1 h2 => by simp only [decide_eq_true_eq] at *; omega) (fun a b => by simp only [Bool.or_eq_true, decide_eq_true_eq]; omega) (rd.map (at_ o))
  exact h.imp fun {a b} e => of_decide_eq_true e
theorem ledE_is {o : List Nat} {es ys : List (Nat × Nat)} (p : ys.Perm (es.map fun e => KL.srt (at_ o e.1, at_ o e.2))) (hs : ys.Pairwise KL.lexLe) : ys = ledE o es :=
  KL.uniq KL.lex_anti (p.trans (ledE_perm o es).symm) hs (ledE_sorted o es)
theorem ledR_is {o rd ys : List Nat} (p : ys.Perm (rd.map (at_ o))) (hs : ys.Pairwise (· ≤ ·)) : ys = ledR o rd :=
  KL.uniq (fun a b (h1 : a ≤ b) (h2 : b ≤ a) => Nat.le_antisymm h1 h2) (p.trans (ledR_perm o rd).symm) hs (ledR_sorted o rd)
/-- the parts that a land has -/
structure PartOk (n : Nat) (x : Part) : Prop where
  ok : LandOk n x.1
  rlt : ∀ c ∈ x.2, c < n
  rnd : x.2.Nodup
  rso : x.2.Pairwise (· ≤ ·)
  r0 : 0 < x.2.length
  rn : x.2.length < n
theorem srt_srt (o : List Nat) (a b : Nat) : KL.srt (at_ o (KL.srt (a, b)).1, at_ o (KL.srt (a, b)).2) = KL.srt (at_ o a, at_ o b) := by
  unfold KL.srt
  simp only
  rcases Nat.le_total a b with h | h
  · rw [Nat.min_eq_left h, Nat.max_eq_right h]
  · rw [Nat.min_eq_right h, Nat.max_eq_left h, Nat.min_comm, Nat.max_comm]
theorem led_led {n : Nat} {o p q : List Nat} {x : Part} (hx : PartOk n x) (hq : ∀ c, c < n → at_ q c = at_ p (at_ o c)) : led p (led o x) = led q x := by
  obtain ⟨es, rd⟩ := x
  refine Prod.ext ?_ ?_
  · refine ledE_is ?_ (ledE_sorted _ _)
    refine (ledE_perm p (ledE o es)).trans (((ledE_perm o es).map _).trans ?_)
    rw [List.map_map]
    refine List.Perm.of_eq (List.map_congr_left fun e he => ?_)
    obtain ⟨h1, h2⟩ := hx.ok.lt e he
    show KL.srt (at_ p (KL.srt (at_ o e.1, at_ o e.2)).1, at_ p (KL.srt (at_ o e.1, at_ o e.2)).2) = _
    rw [srt_srt, hq _ (by omega), hq _ h2]
  · refine ledR_is ?_ (ledR_sorted _ _)
    refine (ledR_perm p (ledR o rd)).trans (((ledR_perm o rd).map _).trans ?_)
    rw [List.map_map]
    exact List.Perm.of_eq (List.map_congr_left fun c hc => (hq c (hx.rlt c hc)).symm)
theorem led_back {n : Nat} {o : List Nat} {x : Part} (hx : PartOk n x) (ho : ∀ c, c < n → at_ o c = c) : led o x = x := by
  obtain ⟨es, rd⟩ := x
  refine Prod.ext ?_ ?_
  · refine (ledE_is ?_ (hx.ok.sorted.imp fun h => h)).symm
    refine List.Perm.of_eq ((List.map_id es).symm.trans (List.map_congr_left fun e he => ?_))
    obtain ⟨h1, h2⟩ := hx.ok.lt e he
    rw [ho _ (by omega), ho _ h2, KL.srt_of h1]
    rfl
  · refine (ledR_is ?_ hx.rso).symm
    exact List.Perm.of_eq ((List.map_id rd).symm.trans (List.map_congr_left fun c hc => (ho c (hx.rlt c hc)).symm))
theorem led_conn {n : Nat} {o : List Nat} {es : List (Nat × Nat)} (ho : IsOrd n o) (n2 : 0 < n) (h : KL.Conn n es) (lt : ∀ e ∈ es, e.1 < e.2 ∧ e.2 < n) : KL.Conn n (ledE o es) := by
  intro S h0 he c hc
  have edge : ∀ e ∈ es, S (at_ o e.1) = S (at_ o e.2) := fun e m => by
    have z := he (KL.srt (at_ o e.1, at_ o e.2)) ((ledE_perm o es).mem_iff.mpr (List.mem_map.mpr ⟨e, m, rfl⟩))
    unfold KL.srt at z
    simp only at z
    rcases Nat.le_total (at_ o e.1) (at_ o e.2) with y | y
    · rw [Nat.min_eq_left y, Nat.max_eq_right y] at z; exact z
    · rw [Nat.min_eq_right y, Nat.max_eq_left y] at z; exact z.symm
  have all := h (fun c => S (at_ o c) == S (at_ o 0)) (by simp) fun e m => by
    show (S (at_ o e.1) == S (at_ o 0)) = (S (at_ o e.2) == S (at_ o 0))
    rw [edge e m]
  obtain ⟨c0, k0, e0⟩ := ho.surj n2
  have z0 := all c0 k0
  rw [e0, h0] at z0
  obtain ⟨c1, k1, e1⟩ := ho.surj hc
  have z1 := all c1 k1
  rw [e1] at z1
  have z0 : true = S (at_ o 0) := by simpa using z0
  have z1 : S c = S (at_ o 0) := by simpa using z1
  rw [z1, ← z0]
theorem led_cos {n : Nat} {o : List Nat} {es : List (Nat × Nat)} (ho : IsOrd n o) (n5 : n ≤ 5) (ok : LandOk n es) (h32 : es.length ≤ 32) : Cos n (ledE o es) ∧ (ledE o es).map KL.srt = ledE o es := by
  have mem : ∀ c ∈ ledE o es, ∃ e ∈ es, c = KL.srt (at_ o e.1, at_ o e.2) := fun c hc => by
    obtain ⟨e, he, rfl⟩ := List.mem_map.mp ((ledE_perm o es).mem_iff.mp hc)
    exact ⟨e, he, rfl⟩
  have lt : ∀ c ∈ ledE o es, c.1 < c.2 ∧ c.2 < n := fun c hc => by
    obtain ⟨e, he, rfl⟩ := mem c hc
    obtain ⟨h1, h2⟩ := ok.lt e he
    have a := ho.at_lt (c := e.1) (by omega)
    have b := ho.at_lt h2
    have ne : at_ o e.1 ≠ at_ o e.2 := fun z => by
      have := ho.inj (by omega) h2 z
      omega
    refine ⟨KL.srt_lt ne, ?_⟩
    unfold KL.srt
    simp only
    omega
  have em : (ledE o es).map KL.srt = ledE o es := (List.map_congr_left fun c hc => KL.srt_of (lt c hc).1).trans (List.map_id _)
  refine ⟨⟨fun c hc => ⟨by have := lt c hc; omega, (lt c hc).2, by have := lt c hc; omega⟩, ?_, by rw [(ledE_perm o es).length_eq, List.length_map]; exact h32⟩, em⟩
  rw [em, (ledE_perm o es).nodup_iff, List.nodup_iff_pairwise_ne, List.pairwise_map]
  refine (List.nodup_iff_pairwise_ne.mp ok.nd).imp_of_mem fun {a b} ha hb ne e => ne ?_
  obtain ⟨a1, a2⟩ := ok.lt a ha
  obtain ⟨b1, b2⟩ := ok.lt b hb
  unfold KL.srt at e
  injection e with e1 e2
  simp only at e1 e2
  have i1 := fun z => ho.inj (c := a.1) (d := b.1) (by omega) (by omega) z
  have i2 := fun z => ho.inj (c := a.2) (d := b.2) (by omega) (by omega) z
  have i3 := fun z => ho.inj (c := a.1) (d := b.2) (by omega) (by omega) z
  have i4 := fun z => ho.inj (c := a.2) (d := b.1) (by omega) (by omega) z
  have cs : (at_ o a.1 = at_ o b.1 ∧ at_ o a.2 = at_ o b.2) ∨ (at_ o a.1 = at_ o b.2 ∧ at_ o a.2 = at_ o b.1) := by omega
  rcases cs with ⟨z1, z2⟩ | ⟨z1, z2⟩
  · exact Prod.ext (i1 z1) (i2 z2)
  · have := i3 z1
    have := i4 z2
    omega
theorem led_ok {n : Nat} {o : List Nat} {x : Part} (ho : IsOrd n o) (n2 : 0 < n) (n5 : n ≤ 5) (h32 : x.1.length ≤ 32) (hx : PartOk n x) : PartOk n (led o x) := by
  obtain ⟨es, rd⟩ := x
  obtain ⟨c, em⟩ := led_cos ho n5 hx.ok h32
  have rp := ledR_perm o rd
  refine ⟨⟨fun e he => ?_, ?_, ledE_sorted o es, led_conn ho n2 hx.ok.conn hx.ok.lt⟩, fun c hc => ?_, ?_, ledR_sorted o rd, ?_, ?_⟩
  · have z := c.lt e he
    have := KL.srt_le e
    have e1 : KL.srt e = e := by
      obtain ⟨e', he', rfl⟩ := List.mem_map.mp ((ledE_perm o es).mem_iff.mp he)
      unfold KL.srt
      simp only
      refine Prod.ext ?_ ?_ <;> simp only <;> omega
    rw [e1] at this
    omega
  · have := c.nd
    rw [em] at this
    exact this
  · obtain ⟨d, hd, rfl⟩ := List.mem_map.mp (rp.mem_iff.mp hc)
    exact ho.at_lt (hx.rlt d hd)
  · show (ledR o rd).Nodup
    rw [rp.nodup_iff, List.nodup_iff_pairwise_ne, List.pairwise_map]
    exact (List.nodup_iff_pairwise_ne.mp hx.rnd).imp_of_mem fun {a b} ha hb ne e => ne (ho.inj (hx.rlt a ha) (hx.rlt b hb) e)
  · show 0 < (ledR o rd).length
    rw [rp.length_eq, List.length_map]
    exact hx.r0
  · show (ledR o rd).length < n
    rw [rp.length_eq, List.length_map]
    exact hx.rn
/-- alike: an order leads the one to the other -/
def AlikeP (n : Nat) (x y : Part) : Prop := ∃ o ∈ ords n, led o x = y
theorem alike_symm {n : Nat} {x y : Part} (hx : PartOk n x) (h : AlikeP n x y) : AlikeP n y x := by
  obtain ⟨o, ho, rfl⟩ := h
  have io := mem_ords.mp ho
  obtain ⟨q, iq, e⟩ := ord_inv io
  refine ⟨q, mem_ords.mpr iq, ?_⟩
  obtain ⟨h1, h2⟩ := ord_map (n := n) (fun c => c) (fun c hc => hc) (fun c d _ _ e => e)
  rw [led_led hx (q := (List.range n).map fun c => c) fun c hc => by rw [h2 c hc, e c hc]]
  exact led_back hx h2
theorem alike_trans {n : Nat} {x y z : Part} (hx : PartOk n x) (h : AlikeP n x y) (h' : AlikeP n y z) : AlikeP n x z := by
  obtain ⟨o, ho, rfl⟩ := h
  obtain ⟨p, hp, rfl⟩ := h'
  obtain ⟨q, iq, e⟩ := ord_comp (mem_ords.mp ho) (mem_ords.mp hp)
  exact ⟨q, mem_ords.mpr iq, (led_led hx e).symm⟩
end K7
end
/-! ## ORM -/
section
open PySem PySem.Spec PyProof.Rows L2
namespace K7
/-! ### data of lands -/
theorem eqv_ints : ∀ l m : List Nat, PyData.eqvAll (l.map fun c => PyData.int (c : Nat)) (m.map fun c => PyData.int (c : Nat)) = decide (l = m)
  | [], [] => rfl
  | [], _ :: _ => by simp [PyData.eqvAll]
  | _ :: _, [] => by simp [PyData.eqvAll]
  | x :: l, y :: m => by
    rw [List.map_cons, List.map_cons, PyData.eqvAll, eqv_ints l m]
    by_cases e : x = y
    · subst e
      simp [PyData.eqv]
    · have e2 : ¬ ((x : Nat) : Int) = (y : Nat) := by omega
      simp [PyData.eqv, e, e2]
theorem eqv_intD (l m : List Nat) : PyData.eqv (intD l) (intD m) = decide (l = m) := by
  unfold intD
  rw [PyData.eqv, eqv_ints]
theorem eqvAll_rows : ∀ us vs : List (List Nat), PyData.eqvAll (us.map intD) (vs.map intD) = decide (us = vs)
  | [], [] => rfl
  | [], _ :: _ => by simp [PyData.eqvAll]
  | _ :: _, [] => by simp [PyData.eqvAll]
  | u :: us, v :: vs => by
    rw [List.map_cons, List.map_cons, PyData.eqvAll, eqv_intD, eqvAll_rows us vs]
    by_cases h1 : u = v <;> by_cases h2 : us = vs <;> simp [h1, h2]
theorem pairs_inj : ∀ {es fs : List (Nat × Nat)}, pairs es = pairs fs → es = fs
  | [], [], _ => rfl
  | [], _ :: _, h => by cases h
  | _ :: _, [], h => by cases h
  | (a, b) :: es, (c, d) :: fs, h => by
    have h : [a, b] :: pairs es = [c, d] :: pairs fs := h
    injection h with h1 h2
    injection h1 with h1 h3
    injection h3 with h3
    rw [h1, h3, pairs_inj h2]
theorem eqv_rows (es fs : List (Nat × Nat)) : PyData.eqvAll ((pairs es).map intD) ((pairs fs).map intD) = decide (es = fs) := by
  rw [eqvAll_rows]
  exact decide_eq_decide.mpr ⟨pairs_inj, fun h => by rw [h]⟩
theorem shapedT_rows (ls : List (List Nat)) : SeqAt.shaped (.tuple (ls.map intD)) = true := by
  have z : ((PyData.canLay0 (.list (ls.map intD))) && decide (PyData.depth (.list (ls.map intD)) ≤ 64)) = true := shaped_rows ls
  show ((PyData.canLay0 (.tuple (ls.map intD))) && decide (PyData.depth (.tuple (ls.map intD)) ≤ 64)) = true
  simpa [PyData.canLay0, PyData.depth] using z
def rowsT (us : List (List Nat)) : PyData := .tuple (us.map intD)
def partD (x : Part) : PyData := .tuple [rowsT (pairs x.1), intD x.2]
theorem eqv_part (x y : Part) : PyData.eqv (partD x) (partD y) = decide (x = y) := by
  unfold partD rowsT
  rw [PyData.eqv, PyData.eqvAll, PyData.eqvAll, PyData.eqvAll, PyData.eqv, eqv_rows, eqv_intD]
  obtain ⟨a, b⟩ := x
  obtain ⟨c, d⟩ := y
  by_cases h1 : a = c <;> by_cases h2 : b = d <;> simp [h1, h2]
theorem canLay_rows (us : List (List Nat)) : PyData.canLayAll0 (us.map intD) = true ∧ PyData.depthAll (us.map intD) ≤ 1 := by
  induction us with
  | nil => exact ⟨rfl, Nat.zero_le _⟩
  | cons u us ih =>
    have hu : ∀ l : List Nat, PyData.canLayAll0 (l.map fun c => PyData.int (c : Nat)) = true ∧ PyData.depthAll (l.map fun c => PyData.int (c : Nat)) = 0 := by
      intro l
      induction l with
      | nil => exact ⟨rfl, rfl⟩
      | cons a l ih => exact ⟨by simp [PyData.canLayAll0, PyData.canLay0, ih.1], by simp [PyData.depthAll, PyData.depth, ih.2]⟩
    refine ⟨?_, ?_⟩
    · rw [List.map_cons, PyData.canLayAll0, ih.1, Bool.and_true]
      unfold intD
      simpa [PyData.canLay0] using (hu u).1
    · rw [List.map_cons, PyData.depthAll]
      have : PyData.depth (intD u) = 1 := by unfold intD; simp [PyData.depth, (hu u).2]
      omega
theorem lay_part (x : Part) : PyData.canLay0 (partD x) = true ∧ PyData.depth (partD x) ≤ 3 := by
  obtain ⟨h1, h2⟩ := canLay_rows (pairs x.1)
  obtain ⟨h3, h4⟩ := canLay_rows [x.2]
  have e1 : PyData.canLay0 (intD x.2) = true := by
    rw [List.map_cons, PyData.canLayAll0, Bool.and_eq_true] at h3
    exact h3.1
  have e2 : PyData.depth (intD x.2) ≤ 1 := by
    rw [List.map_cons, PyData.depthAll] at h4
    omega
  unfold partD rowsT
  refine ⟨?_, ?_⟩
  · rw [PyData.canLay0, PyData.canLayAll0, PyData.canLayAll0, PyData.canLayAll0, PyData.canLay0, h1, e1]
    rfl
  · simp only [PyData.depth, PyData.depthAll]
    omega
theorem shaped_part (x : Part) : SeqAt.shaped (partD x) = true := by
  obtain ⟨h1, h2⟩ := lay_part x
  show (PyData.canLay0 (partD x) && decide (PyData.depth (partD x) ≤ 64)) = true
  rw [h1, decide_eq_true (by omega)]
  rfl
theorem lay_parts : ∀ xs : List Part, PyData.canLayAll0 (xs.map partD) = true ∧ PyData.depthAll (xs.map partD) ≤ 64
  | [] => ⟨rfl, Nat.zero_le _⟩
  | x :: xs => by
    obtain ⟨h1, h2⟩ := lay_parts xs
    obtain ⟨h3, h4⟩ := lay_part x
    refine ⟨by rw [List.map_cons, PyData.canLayAll0, h3, h1]; rfl, ?_⟩
    rw [List.map_cons, PyData.depthAll]
    omega
theorem alike_ints : ∀ u v : List Nat, PySem.W.alikeAll (u.map fun c => PyData.int (c : Nat)) (v.map fun c => PyData.int (c : Nat)) = true
  | [], _ => by cases ‹List Nat› <;> rfl
  | _ :: _, [] => rfl
  | a :: u, b :: v => by
    show (PySem.W.alike (.int a) (.int b) && PySem.W.alikeAll _ _) = true
    rw [alike_ints u v]
    rfl
theorem alike_intD (u v : List Nat) : PySem.W.alike (intD u) (intD v) = true := alike_ints u v
theorem alike_rowsT : ∀ us vs : List (List Nat), PySem.W.alikeAll (us.map intD) (vs.map intD) = true
  | [], _ => by cases ‹List (List Nat)› <;> rfl
  | _ :: _, [] => rfl
  | a :: u, b :: v => by
    show (PySem.W.alike (intD a) (intD b) && PySem.W.alikeAll _ _) = true
    rw [alike_rowsT u v, alike_intD]
    rfl
theorem alike_part (x y : Part) : PySem.W.alike (partD x) (partD y) = true := by
  show (PySem.W.alikeAll _ _ && (PySem.W.alike (intD x.2) (intD y.2) && true)) = true
  rw [alike_rowsT, alike_intD]
  rfl
theorem alike_parts (xs : List Part) : PySem.W.AlikeAll (xs.map partD) := by
  refine ⟨fun x hx y hy => ?_, fun x hx => ?_⟩
  · obtain ⟨u, _, rfl⟩ := List.mem_map.mp hx
    obtain ⟨v, _, rfl⟩ := List.mem_map.mp hy
    exact alike_part u v
  · obtain ⟨u, _, rfl⟩ := List.mem_map.mp hx
    intro e
    cases e
/-! ### the least -/
open PySem.W in
theorem minD_low : ∀ (ds : List PyData) (d : PyData), ∀ y ∈ d :: ds, dataLt y (minD d ds) = false
  | [], d, y, hy => by
    rw [List.mem_singleton.mp hy]
    exact lex_irrefl _
  | e :: ds, d, y, hy => by
    have step : minD d (e :: ds) = minD (if dataLt e d then e else d) ds := rfl
    rw [step]
    by_cases h : dataLt e d = true
    · rw [if_pos h]
      have ih := minD_low ds e
      rcases List.mem_cons.mp hy with rfl | hy
      · refine Bool.eq_false_iff.mpr fun z => ?_
        have t : dataLt e (minD e ds) = true := lex_trans _ _ _ h z
        rw [ih e (List.mem_cons_self ..)] at t
        cases t
      · exact ih y hy
    · rw [if_neg h]
      have ih := minD_low ds d
      rcases List.mem_cons.mp hy with rfl | hy
      · exact ih _ (List.mem_cons_self ..)
      · rcases List.mem_cons.mp hy with rfl | hy
        · refine Bool.eq_false_iff.mpr fun z => ?_
          have low := ih d (List.mem_cons_self ..)
          by_cases h2 : dataLt d y = true
          · have t : dataLt d (minD d ds) = true := lex_trans _ _ _ h2 z
            rw [low] at t
            cases t
          · have eq : keyToks d = keyToks y := lex_total _ _ (Bool.eq_false_iff.mpr h2) (Bool.eq_false_iff.mpr h)
            have t : dataLt d (minD d ds) = dataLt y (minD d ds) := by unfold dataLt; rw [eq]
            rw [low, z] at t
            cases t
        · exact ih y (List.mem_cons_of_mem _ hy)
open PySem.W in
theorem minD_same {d e : PyData} {ds es : List PyData} (h1 : ∀ y ∈ d :: ds, y ∈ e :: es) (h2 : ∀ y ∈ e :: es, y ∈ d :: ds) (al : alike (minD d ds) (minD e es) = true) : PyData.eqv (minD d ds) (minD e es) = true := by
  have m1 := K7S.minD_mem d ds
  have m2 := K7S.minD_mem e es
  have eq : keyToks (minD d ds) = keyToks (minD e es) := lex_total _ _ (minD_low es e _ (h1 _ m1)) (minD_low ds d _ (h2 _ m2))
  refine Classical.byContradiction fun no => ?_
  have z := (toks_eqv _ _ al).2 (Bool.eq_false_iff.mpr no) [] [Sum.inl 0]
  rw [eq, lex_pre, lex_irrefl] at z
  cases z
/-- the least of parts -/
def minPart (v : Part) (ws : List Part) : Part := ws.foldl (fun a y => if PySem.W.dataLt (partD y) (partD a) then y else a) v
theorem minD_part : ∀ (ws : List Part) (v : Part), PySem.W.minD (partD v) (ws.map partD) = partD (minPart v ws)
  | [], v => rfl
  | y :: ws, v => by
    show PySem.W.minD (if PySem.W.dataLt (partD y) (partD v) then partD y else partD v) (ws.map partD) = partD (minPart (if PySem.W.dataLt (partD y) (partD v) then y else v) ws)
    rw [← minD_part ws]
    congr 1
    split <;> rfl
theorem partD_inj {x y : Part} (h : partD x = partD y) : x = y := by
  have z := eqv_part x y
  rw [h] at z
  have w := eqv_part y y
  rw [decide_eq_true rfl] at w
  rw [w] at z
  exact of_decide_eq_true z.symm
theorem minPart_mem (v : Part) (ws : List Part) : minPart v ws ∈ v :: ws := by
  have z := K7S.minD_mem (partD v) (ws.map partD)
  rw [minD_part] at z
  obtain ⟨y, hy, e⟩ := List.mem_map.mp (show partD (minPart v ws) ∈ (v :: ws).map partD from z)
  rw [← partD_inj e]
  exact hy
theorem minPart_same {v u : Part} {ws us : List Part} (h1 : ∀ y ∈ v :: ws, y ∈ u :: us) (h2 : ∀ y ∈ u :: us, y ∈ v :: ws) : minPart v ws = minPart u us := by
  have z := minD_same (d := partD v) (ds := ws.map partD) (e := partD u) (es := us.map partD) (fun y hy => ?_) (fun y hy => ?_) (by rw [minD_part, minD_part]; exact alike_part _ _)
  · rw [minD_part, minD_part, eqv_part] at z
    exact of_decide_eq_true z
  · obtain ⟨x, hx, rfl⟩ := List.mem_map.mp (show y ∈ (v :: ws).map partD from hy)
    exact List.mem_map.mpr ⟨x, h1 x hx, rfl⟩
  · obtain ⟨x, hx, rfl⟩ := List.mem_map.mp (show y ∈ (u :: us).map partD from hy)
    exact List.mem_map.mpr ⟨x, h2 x hx, rfl⟩
/-- all that a land can be led to -/
def leds (n : Nat) (x : Part) : List Part := (ords n).map fun o => led o x
def leastP (n : Nat) (x : Part) : Part := match leds n x with
  | [] => x
  | v :: ws => minPart v ws
theorem leds_ne (n : Nat) (x : Part) : leds n x ≠ [] := by
  obtain ⟨h1, _⟩ := ord_map (n := n) (fun c => c) (fun c hc => hc) (fun c d _ _ e => e)
  intro e
  have m : led ((List.range n).map fun c => c) x ∈ leds n x := List.mem_map.mpr ⟨_, mem_ords.mpr h1, rfl⟩
  rw [e] at m
  cases m
theorem mem_leds {n : Nat} {x y : Part} : y ∈ leds n x ↔ AlikeP n x y := by
  unfold leds AlikeP
  rw [List.mem_map]
theorem leastP_mem (n : Nat) (x : Part) : AlikeP n x (leastP n x) := by
  rw [← mem_leds]
  unfold leastP
  cases h : leds n x with
  | nil => exact absurd h (leds_ne n x)
  | cons v ws => exact minPart_mem v ws
theorem leastP_same {n : Nat} {x y : Part} (hx : PartOk n x) (h : AlikeP n x y) (hy : PartOk n y) : leastP n x = leastP n y := by
  have h1 : ∀ z ∈ leds n x, z ∈ leds n y := fun z hz => mem_leds.mpr (alike_trans hy (alike_symm hx h) (mem_leds.mp hz))
  have h2 : ∀ z ∈ leds n y, z ∈ leds n x := fun z hz => mem_leds.mpr (alike_trans hx h (mem_leds.mp hz))
  unfold leastP
  cases e1 : leds n x with
  | nil => exact absurd e1 (leds_ne n x)
  | cons v ws =>
    cases e2 : leds n y with
    | nil => exact absurd e2 (leds_ne n y)
    | cons u us =>
      rw [e1, e2] at h1 h2
      exact minPart_same h1 h2
theorem least_iff {n : Nat} {x y : Part} (n2 : 0 < n) (n5 : n ≤ 5) (x32 : x.1.length ≤ 32) (hx : PartOk n x) (hy : PartOk n y) : leastP n x = leastP n y ↔ AlikeP n x y := by
  refine ⟨fun e => ?_, fun h => leastP_same hx h hy⟩
  have a := leastP_mem n x
  have b := leastP_mem n y
  rw [← e] at b
  exact alike_trans hx a (alike_symm hy b)
end K7
end
/-! ## EN -/
section
/-! x == y, x != y by x's own __eq__, x an instance of an own class without a __ne__. -/
namespace K7E
open PySem PySem.Spec PyProof.Rows L2
theorem slot_obj_ne : Slot "object" "__ne__" "object.__ne__" := .of (owner := "object") (n := "__ne__") (by rw [typeLookup_type, builtinLookup_eq_fast]; kernel_rfl) (by decide +kernel) (by decide +kernel) (by decide +kernel) (.inl (by decide +kernel)) (by rw [isSubtype_type]; kernel_rfl)
section
variable {prog : Program} {w : World} {A : Around} {E : Value → Shared → Prop} {s : Shared} {K : PySem.W.Frag} {x C L f : Addr} {h₀ : Heap} {m : Str → Option Value} {ox : Obj} {od : Option Obj} {b tb : Value}
open PySem.W in
theorem ne_K {Q : Value → Shared → Prop} (hu : A.units + 1 < cLine) (FF : Fr h₀ L s.heap m) (X₀ : K.In h₀) (I : InstAt s.heap x ox C od) (hb : Looks (model prog w) s.heap (typeOf b) tb) (hn : notFirst K C tb = true) (hm : mroIn K C (.type "object") = some true)
    (hs : findIn K (.ref C) "__ne__" = some (some (.builtin "object.__ne__"))) (he : findIn K (.ref C) "__eq__" = some (some (.ref f))) (hf : isFn K (.ref f) = true)
    (h : wpAny (model prog w) A.in1 (call (.ref f) [.ref x, b]) (fun v s' => ∃ c, v = .bool c ∧ Q (.bool (!c)) s') E s) : wpAny (model prog w) A (richCompare .NotEq (.ref x) b) Q E s := by
  have X := X₀.keeps FF.keep
  have inner : wpAny (model prog w) A.in1 (Builtin.«object.__ne__» ⟨[.ref x, b], []⟩) (fun fin s' => ∃ c, fin = .done (.ret (.bool (!c))) ∧ Q (.bool (!c)) s') E s := by
    unfold Builtin.«object.__ne__»
    repeat (first
      | with_reducible refine wpAny_cRoomFor (show A.in1.units < cLine from hu) ?_
      | (refine wpAny_bind (m := callSpecialIfBound? (.ref x) (Str.ofString "__eq__") [b]) (ifBound_K X I he hf (wpAny_mono h (fun r s' hr => by
          obtain ⟨c, rfl, hq⟩ := hr
          repeat (first | exact ⟨c, rfl, hq⟩ | exact wpAny_pure ⟨c, rfl, hq⟩ | exact wpAny_truthy_bool ⟨c, rfl, hq⟩ | (refine wpAny_bind (m := truthy (.bool _)) (wpAny_truthy_bool ?_)) | wp_step)) fun _ _ e => e)))
      | wp_step)
  have mid : wpAny (model prog w) A (callSpecialIfBound? (.ref x) "__ne__" [b]) (fun r s' => ∃ c, r = some (.bool (!c)) ∧ Q (.bool (!c)) s') E s := by
    simp only [callSpecialIfBound?, bindSpecialIfBound?]
    refine wpAny_holding (wpAny_bind (wpAny_bind (wpAny_bind (I.type.here ((looks_findIn X hs).here ?_)))))
    simp only [slot_obj_ne.bind]
    refine wpAny_bind (wpAny_askSetting (wpAny_ite ?_))
    have fin : wpAny (model prog w) A (call (.builtin "object.__ne__") ([.ref x] ++ [b]) >>= fun v => pure (some v)) (fun r s' => ∃ c, r = some (.bool (!c)) ∧ Q (.bool (!c)) s') E s := by
      refine wpAny_bind (wpAny_call (codeAny_call_builtin slot_obj_ne.plain F.cmpEntry_ne (check_slot F.cmpKind_ne F.cmpSplit_ne (I.type.andThen (looks_mroIn X hm)) (F.cmpArgs_ne _ _) (wpAny_mono inner (fun fin s' z => ?_) fun _ _ e => e))))
      obtain ⟨c, rfl, hq⟩ := z
      exact wpAny_pure ⟨c, rfl, hq⟩
    split
    · exact wpAny_bind (wpAny_pure (wpAny_pure fin))
    · exact wpAny_tryCatch (wpAny_bind (wpAny_pure (wpAny_pure fin)))
  have one : wpAny (model prog w) A (tryCompare (.ref x) "__ne__" b) (fun r s' => ∃ c, r = some (.bool (!c)) ∧ Q (.bool (!c)) s') E s := by
    simp only [tryCompare]
    refine wpAny_bind (wpAny_mono mid (fun r s' ⟨c, er, hq⟩ => ?_) fun _ _ e => e)
    rw [er]
    exact wpAny_pure ⟨c, rfl, hq⟩
  unfold richCompare
  simp only [oneThing_ref]
  refine wpAny_holding (wpAny_bind (wpAny_cRoomFor (Nat.lt_of_succ_lt hu) (wpAny_bind (I.type.here (wpAny_bind (hb.here ?_))))))
  rw [cmpInfo_NotEq]
  dsimp only
  have last : wpAny (model prog w) A (tryCompare (.ref x) "__ne__" b) (fun r s' => ∃ c, r = some (.bool (!c)) ∧ Q (.bool (!c)) s') E s := one
  split
  · rename_i q
    have e : subIn K tb (.ref C) = some false := by
      rcases Bool.or_eq_true_iff.mp hn with e | e
      · rw [beq_iff_eq.mp e] at q; simp at q
      · exact beq_iff_eq.mp e
    refine wpAny_bind ((looks_subIn X e).here ?_)
    simp only [Bool.false_eq_true, if_false]
    refine wpAny_bind (wpAny_mono last (fun r s' ⟨c, er, hq⟩ => ?_) fun _ _ e => e)
    rw [er]
    exact wpAny_pure hq
  · refine wpAny_bind (wpAny_pure ?_)
    simp only [Bool.false_eq_true, if_false]
    refine wpAny_bind (wpAny_mono last (fun r s' ⟨c, er, hq⟩ => ?_) fun _ _ e => e)
    rw [er]
    exact wpAny_pure hq
end
/-! ### x == y by x's own __eq__ -/
def rEqO (K : PySem.W.Frag) (C : Addr) (sp : Sp) (E : XK) : R2 := fun x y H Q => ∃ (a dx : Addr) (fs : List (Str × V)) (b : Addr) (t : Value), x = .ref a ∧ y = .ref b ∧ H a = some (.ins C dx fs) ∧ TyX K H y t ∧ PySem.W.notFirst K C t = true ∧ sp [x, y] H Q E
section
variable {X : Cx}
theorem op_eqOwn {CX : CXT} {C g : Addr} {fd : FuncData} {ps : List Str} {sp : Sp} {E : XK} {n : Nat} (F : FnOk X.prog X.w X.K X.mg X.base CX n g fd ps sp) (hs : PySem.W.findIn X.K (.ref C) "__eq__" = some (some (.ref g))) (hf : PySem.W.isFn X.K (.ref g) = true) (hb : Binds X.K fd ps [])
    (hr : Room n X.A) (hx : Passes CX X E) : OpR X (compareOp .Eq) (rEqO X.K C sp E) := by
  intro pins s σ H x y v u Q I rx ry h
  obtain ⟨a, dx, fs, b, t, rfl, rfl, ha, ty, hn, q⟩ := h
  cases (show v = Value.ref a from rx)
  cases (show u = Value.ref b from ry)
  obtain ⟨mA, J, _⟩ := ins_get I.hok ha
  obtain ⟨od, J, _⟩ := J.look
  obtain ⟨P, Z, hp, hne⟩ := kit_of I (show RelV (.ref b) (Value.ref b) from rfl) ty
  obtain ⟨m, hF⟩ := I.fr
  have hl := F.len _ _ _ _ q
  have r2 : Vals [V.ref a, V.ref b] [Value.ref a, Value.ref b] := .cons rfl (.cons rfl .nil)
  refine PySem.W.cmp_K (op := .Eq) (tb := t) hr.units0 hF I.ok.mod.kin J (Z.ty _ _ I.kIn hp) hn hs hf ?_
  refine wpAny_mono (wpAny_call (run_fnR (us := [.ref a, .ref b]) (vs := [.ref a, .ref b]) (F.raw hb .nil) hr hx I r2 q)) (fun w s' z => ?_) fun _ _ x => x
  obtain ⟨z', H', I', rz, qz⟩ := z
  exact SlX.cmpback rz ⟨z', H', I', rz, qz⟩
/-- x != y -/
theorem op_neOwn {CX : CXT} {C g : Addr} {fd : FuncData} {ps : List Str} {sp : Sp} {E : XK} {n : Nat} (F : FnOk X.prog X.w X.K X.mg X.base CX n g fd ps sp) (hs : PySem.W.findIn X.K (.ref C) "__ne__" = some (some (.builtin "object.__ne__"))) (hm : PySem.W.mroIn X.K C (.type "object") = some true)
    (he : PySem.W.findIn X.K (.ref C) "__eq__" = some (some (.ref g))) (hf : PySem.W.isFn X.K (.ref g) = true) (hb : Binds X.K fd ps []) (hr : Room (n + 1) X.A) (hx : Passes CX X E) : OpR X (compareOp .NotEq) (fun x y H Q => ∃ (a dx : Addr) (fs : List (Str × V)) (b : Addr) (t : Value), x = .ref a ∧ y = .ref b ∧ H a = some (.ins C dx fs) ∧ TyX X.K H y t ∧ PySem.W.notFirst X.K C t = true ∧ sp [x, y] H (fun z H' => ∃ c, z = .bl c ∧ Q (.bl (!c)) H') E) := by
  intro pins s τ H x y v u Q I rx ry h
  obtain ⟨a, dx, fs, b, t, rfl, rfl, ha, ty, hn, q⟩ := h
  cases (show v = Value.ref a from rx)
  cases (show u = Value.ref b from ry)
  obtain ⟨mA, J, _⟩ := ins_get I.hok ha
  obtain ⟨od, J, _⟩ := J.look
  obtain ⟨P, Z, hp, hne⟩ := kit_of I (show RelV (.ref b) (Value.ref b) from rfl) ty
  obtain ⟨m, hF⟩ := I.fr
  have hl := F.len _ _ _ _ q
  have r2 : Vals [V.ref a, V.ref b] [Value.ref a, Value.ref b] := .cons rfl (.cons rfl .nil)
  have hu : X.A.units + 1 < cLine := by have := hr.un; omega
  refine ne_K (tb := t) hu hF I.ok.mod.kin J (Z.ty _ _ I.kIn hp) hn hm hs he hf ?_
  refine wpAny_call (codeAny_mono (F.run X.A.in1 X.stack s H ⟨[.ref a, .ref b], []⟩ [.ref a, .ref b] [.ref a, .ref b] _ E hr.in1 I.env0.in1 (hb s [.ref a, .ref b] I.kIn hl) r2 q) fun r s' hq => ?_)
  cases r with
  | error e => exact hx pins τ H s e s' I hq
  | ok fl =>
    cases fl with
    | ret u =>
      obtain ⟨z', H', I', rz, c, ez, qz⟩ := I.after hq
      subst ez
      cases (show u = Value.bool c from rz)
      exact ⟨c, rfl, .bl (!c), H', I', rfl, qz⟩
    | next => exact False.elim hq
    | brk => exact False.elim hq
    | cont => exact False.elim hq
end
end K7E
end
/-! ## P14 -/
section
open PySem PySem.Spec PyProof.Rows L2
namespace K7
abbrev N_Land___eq__ : List Str := ["self", "other"]
abbrev s_Land___eq__ : Stmt := inClass (topS 18) 1
theorem sc_Land___eq__ : FnScope ["self", "other"] ["self", "other"] (defScope s_Land___eq__) := ⟨rfl, rfl, rfl, by decide +kernel, rfl, by decide +kernel, by decide +kernel⟩
/-- what the top says of lands, once more -/
structure Tk (K : PySem.W.Frag) (C fE : Addr) : Prop where
  ha : PySem.W.findIn K (.ref C) "__class__" = some (some (.builtin "object.__class__"))
  hn : PySem.W.specialIn K (.builtin "object.__class__") "__get__" = some (some (.builtin "getset_descriptor.__get__"))
  ht : PySem.W.takesIn K (.builtin "object.__class__") = some true
  hm : PySem.W.mroIn K C (.type "object") = some true
  own : PySem.W.kitOne K (.ref C) (.ref C) = some true
  eq : PySem.W.findIn K (.ref C) "__eq__" = some (some (.ref fE))
  eqF : PySem.W.isFn K (.ref fE) = true
  ne : PySem.W.findIn K (.ref C) "__ne__" = some (some (.builtin "object.__ne__"))
theorem nfC (K : PySem.W.Frag) (C : Addr) : PySem.W.notFirst K C (.ref C) = true := by simp [PySem.W.notFirst]
theorem dec_and3 (a b c : Prop) [Decidable a] [Decidable b] [Decidable c] : decide (a ∧ b ∧ c) = (decide a && (decide b && decide c)) := by
  by_cases a <;> by_cases b <;> by_cases c <;> simp_all
section
variable {P : Program} {w : World} {K : PySem.W.Frag} {mg : Str → Option Value} {base : Heap} {a : AdL} {fE : Addr}
def spEqL (C : Addr) : Sp := fun vs H Q _ => ∃ (p q : Addr) (n : Nat) (es : List (Nat × Nat)) (rd : List Nat) (m : Nat) (fs : List (Nat × Nat)) (sd : List Nat), vs = [.ref p, .ref q] ∧ LandO C H p n es rd ∧ LandO C H q m fs sd ∧ Q (.bl (decide (n = m ∧ es = fs ∧ rd = sd))) H
theorem ok_eqL (T : Tl K mg a) (T2 : Tk K a.C fE) {f : Addr} {fd : FuncData} (F : Fun K "__eq__" "Land.__eq__" s_Land___eq__ f fd) (m_isinstance : mg "isinstance" = none) : FnOk P w K mg base CX0 1 f fd ["self", "other"] (spEqL a.C) := by
  refine F.ok sc_Land___eq__ (fun vs H Q E h => ?_) (fun cdv A outer s H vs Q E hr h => ?_)
  · obtain ⟨p, q, n, es, rd, m, fs, sd, rfl, _⟩ := h
    rfl
  · obtain ⟨p, q, n, es, rd, m, fs, sd, rfl, L, M, k⟩ := h
    refine ⟨_, (pss_one (ps_ret (pe_and (pe_callB call_isi (by rfl) m_isinstance boot_isinstance (pa_cons (pv 1) (pa_cons (pe_glob (v := .ref _) rfl T.gC rfl) pa_nil))) (pe_and (pe_cmpR op_eq (pe_fld (pv 0) rfl) (pe_fld (pv 1) rfl) (nomark _)) (pe_and (pe_cmpR (op_eqD hr.units) (pe_fld (pv 0) rfl) (pe_fld (pv 1) rfl) (nomark _)) (pe_one (pe_cmpR (op_eqD hr.units) (pe_fld (pv 0) rfl) (pe_fld (pv 1) rfl) (nomark _)))))))), ?_⟩
    obtain ⟨dx, an, ar, ay, ac, tn, ty, tc, h1, h2, h3, h4, _⟩ := L.at_
    obtain ⟨dx', an', ar', ay', ac', tn', ty', tc', g1, g2, g3, g4, _⟩ := M.at_
    rw [dec_and3] at k
    refine ⟨_, rfl, _, _, _, _, _, rfl, .own _, .base (.ins g1 T.cl T2.ha T2.hn T2.ht T2.hm), T2.own, true, rfl, ?_⟩
    have en : decide (V.int (n : Nat) = V.int (m : Nat)) = decide (n = m) := decide_eq_decide.mpr ⟨fun e => by injection e with e; omega, fun e => by rw [e]⟩
    have e1 : PyData.eqv (.tuple ((pairs es).map intD)) (.tuple ((pairs fs).map intD)) = decide (es = fs) := by rw [PyData.eqv, eqv_rows]
    refine ⟨.ref p, rfl, p, a.C, dx, _, _, rfl, h1, T.cl, T.nA _ (by decide), rfl, .ref q, rfl, q, a.C, dx', _, _, rfl, g1, T.cl, T.nA _ (by decide), rfl, rfl, _, rfl, ?_⟩
    rw [en]
    cases hn : decide (n = m) with
    | false =>
      rw [hn] at k
      exact k
    | true =>
      rw [hn] at k
      refine ⟨.ref p, rfl, p, a.C, dx, _, _, rfl, h1, T.cl, T.nA _ (by decide), rfl, .ref q, rfl, q, a.C, dx', _, _, rfl, g1, T.cl, T.nA _ (by decide), rfl, _, _, .tup (.inl (.inl h2)) (dp_rows h3), .tup (.inl (.inl g2)) (dp_rows g3), shapedT_rows _, shapedT_rows _, _, rfl, ?_⟩
      rw [e1]
      cases he : decide (es = fs) with
      | false =>
        rw [he] at k
        exact k
      | true =>
        rw [he] at k
        refine ⟨.ref p, rfl, p, a.C, dx, _, _, rfl, h1, T.cl, T.nA _ (by decide), rfl, .ref q, rfl, q, a.C, dx', _, _, rfl, g1, T.cl, T.nA _ (by decide), rfl, _, _, .tup (.inl (.inl h4)) (dp_ints rd), .tup (.inl (.inl g4)) (dp_ints sd), shaped_ints rd, shaped_ints sd, ?_⟩
        show Q (.bl (PyData.eqv (intD rd) (intD sd))) H
        rw [eqv_intD]
        exact k
/-! a new land -/
theorem new_land {H1 : Hp} {Q : VK} {E : XK} {n : Nat} {an : Addr} {ts : List Addr} {cs : List (Nat × Nat)} {ar : Addr} {lot : List Nat} (n2 : 2 ≤ n) (n5 : n ≤ 5) (han : SqOf H1 an (ts.map V.ref)) (hT : CoAll H1 ts cs) (hc : Cos n cs) (cn : KL.Conn n cs) (har : SqOf H1 ar (ints_ lot)) (llt : ∀ c ∈ lot, c < n) (lnd : lot.Nodup) (l0 : 0 < lot.length) (ln : lot.length < n)
    (q : ∀ H' x es rd, Same H1 H' → H1 x = none → LandO a.C H' x n es rd → es.Perm (cs.map KL.srt) → rd.Perm lot → Q (.ref x) H') :
    ∀ x dx, H1 x = none → H1 dx = none → dx ≠ x → spLandI a (.ref x :: ([.int (n : Nat), .ref an, .ref ar] ++ [])) (upd (upd H1 dx (.own x)) x (.ins a.C dx [])) (fun v H2 => v = .non ∧ Q (.ref x) H2) E := by
  intro x dx hx hdx hne
  have e : Same H1 (upd (upd H1 dx (.own x)) x (.ins a.C dx [])) := same_new (same_new (Same.refl H1) hdx) (by rw [upd_ne hne.symm]; exact hx)
  refine ⟨x, dx, n, an, ts, cs, ar, lot, rfl, upd_same, n2, n5, han.same e, hT.same e, hc, cn, har.same e, llt, lnd, l0, ln, fun H' es rd b L pe pr => ⟨rfl, q H' x es rd (fun z o hz => ?_) hx L pe pr⟩⟩
  exact b z o (ne_of_none hz hx) (e _ _ hz)
theorem es_is {n : Nat} {es cs : List (Nat × Nat)} (ok : LandOk n es) (p : es.Perm cs) (hs : cs.Pairwise KL.lexLe) : es = cs := KL.uniq KL.lex_anti p (ok.sorted.imp fun h => h) hs
theorem rd_is {rd lot : List Nat} (hr : rd.Pairwise (· ≤ ·)) (p : rd.Perm lot) (hs : lot.Pairwise (· ≤ ·)) : rd = lot := KL.uniq (fun a b (h1 : a ≤ b) (h2 : b ≤ a) => Nat.le_antisymm h1 h2) p hr hs
end
end K7
end
/-! ## EVL -/
section
open PySem PySem.Spec PyProof.Rows L2
namespace K7E
/-- a comprehension of two «for»: the outer one over a list -/
theorem out_list {K : PySem.W.Frag} {a : Addr} {xs : List V} {g : TG} {tt : TT} {inner : (Hp → Prop) → L2.St → Hp → Prop} {vs : List Nat} {τ : L2.St} {H1 : Hp} {D : Addr} {Qd : Hp → Prop} (Pv : Nat → Hp → Prop) (h0 : Pv 0 (upd H1 D (.lst []))) (hl : ∀ i H, i ≤ xs.length → Pv i H → SqL K H a xs)
    (hs : ∀ i x H, xs[i]? = some x → Pv i H → g x (wipe τ vs) H fun t2 H2 => wipe t2 vs = wipe τ vs ∧ tt t2 H2 fun b H3 => if b = true then inner (Pv (i + 1)) t2 H3 else Pv (i + 1) H3) (hd : ∀ H, Pv xs.length H → Qd H) :
    ∃ W : Nat → Nat → Hp → Prop, (∃ m, W 0 m (upd H1 D (.lst []))) ∧ ∀ i m H, W i m H → ((Itl K a).stop i H ∧ Qd H) ∨ ((Itl K a).go i H ∧ ∃ Nx : Hp → Prop, (∀ H', Nx H' → ∃ m', m' < m ∧ W (i + 1) m' H') ∧
      ∀ x H', (Itl K a).yld i H x H' → g x (wipe τ vs) H' fun t2 H2 => wipe t2 vs = wipe τ vs ∧ tt t2 H2 fun b H3 => if b = true then inner Nx t2 H3 else Nx H3) := by
  refine ⟨fun i m H => m = xs.length - i ∧ i ≤ xs.length ∧ Pv i H, ⟨xs.length, by simp, Nat.zero_le _, h0⟩, ?_⟩
  rintro i m H ⟨rfl, hi, p⟩
  have q := hl i H hi p
  by_cases hlt : i < xs.length
  · refine .inr ⟨⟨xs, xs[i], q, by simp [hlt]⟩, Pv (i + 1), fun H' p' => ⟨xs.length - (i + 1), by omega, rfl, hlt, p'⟩, fun x H' y => ?_⟩
    obtain ⟨e, y⟩ := y
    subst e
    exact hs i x _ (y xs q) p
  · have e : i = xs.length := by omega
    subst e
    exact .inl ⟨⟨xs, q, Nat.le_refl _⟩, hd H p⟩
/-- one of two readings, by a name -/
def tEi (t1 t2 : TE) : TE := fun σ H Q => t1 σ H Q ∨ t2 σ H Q
theorem pe_ei {X : Cx} {e : Expr} {t1 t2 : TE} (a : PE X e t1) (b : PE X e t2) : PE X e (tEi t1 t2) := ⟨fun pins s σ H Q I h => h.elim (a.run pins s σ H Q I) (b.run pins s σ H Q I)⟩
end K7E
end
/-! ## P15 -/
section
open PySem PySem.Spec PyProof.Rows L2
namespace K7
abbrev N_all_orders : List Str := ["many", "orders", "_", "order", "cell"]
abbrev s_all_orders : Stmt := topS 20
theorem sc_all_orders : FnScope ["many", "orders", "_", "order", "cell"] ["many"] (defScope s_all_orders) := ⟨rfl, rfl, rfl, by decide +kernel, rfl, by decide +kernel, by decide +kernel⟩
abbrev N__law_orders : List Str := ["_law_n", "_law_rows", "_law_turn", "_law_grown", "_law_row", "_law_number"]
abbrev s__law_orders : Stmt := topS 35
theorem sc__law_orders : FnScope ["_law_n", "_law_rows", "_law_turn", "_law_grown", "_law_row", "_law_number"] ["_law_n"] (defScope s__law_orders) := ⟨rfl, rfl, rfl, by decide +kernel, rfl, by decide +kernel, by decide +kernel⟩
theorem al {H : Hp} {o : HO} {b : Addr} (nb : H b = none) : Same H (upd H b o) := same_new (Same.refl H) nb
section
variable {P : Program} {w : World} {K : PySem.W.Frag} {mg : Str → Option Value} {base : Heap}
/-- all orders, as a tuple -/
def spAllO : Sp := fun vs H Q _ => ∃ n : Nat, vs = [.int (n : Nat)] ∧ n ≤ 5 ∧ ∀ H' u ts, Same H H' → H u = none → H' u = some (.tup (ts.map V.ref)) → TAt H' ts (ords n) → Q (.ref u) H'
theorem ok_allo {f : Addr} {fd : FuncData} (F : Fun K "all_orders" "all_orders" s_all_orders f fd) (m_range : mg "range" = none) (m_tuple : mg "tuple" = none) : FnOk P w K mg base CX0 1 f fd ["many"] spAllO := by
  refine F.ok sc_all_orders (fun vs H Q E h => ?_) (fun cdv A outer s H vs Q E hr h => ?_)
  · obtain ⟨n, rfl, _⟩ := h
    rfl
  · obtain ⟨n, rfl, n5, q⟩ := h
    refine ⟨_, (pss_cons (ps_set (i := 1) sc_all_orders.nd rfl (by first | exact Or.inl rfl | exact Or.inr rfl) (pe_lst (pa_cons (pe_tup pa_nil) pa_nil)))
 (pss_cons (ps_for PassesOwn.never rfl (pi_range1 rfl m_range (pa_cons (pv 0) pa_nil)) (pg_name (i := 2) sc_all_orders.nd rfl (by first | exact Or.inl rfl | exact Or.inr rfl))
  (pss_one (ps_setLc2 (i := 1) (own := [("order", 3), ("cell", 4)]) (vs1 := [4]) (g := gName 3) (g1 := gName 4) (tt := tYes) rfl sc_all_orders.nd rfl rfl (sw_true rfl rfl rfl (by decide +kernel)) (pi_list (pv 1)) (blkOk_by (own := [("order", 3), ("cell", 4)]) (N := N_all_orders) (sc := defScope s_all_orders) (by decide +kernel)) (by decide) (fun _ _ _ _ _ => (pg_name (i := 3) sc_all_orders.nd rfl (by first | exact Or.inl rfl | exact Or.inr rfl))) (fun _ _ _ _ _ => pts_nil) (fun _ _ _ _ _ => (pi_range1 rfl m_range (pa_cons (pv 0) pa_nil))) (fun _ _ _ _ _ => (pg_name (i := 4) sc_all_orders.nd rfl (by first | exact Or.inl rfl | exact Or.inr rfl))) (fun _ _ _ _ _ => (pts_one (pt_cmpR (show OpR _ _ (rIn K true) from op_notIn_seq) (pv 4) (pv 3) (by with_unfolding_all rfl)))) (fun _ _ _ _ _ => (pe_op (show OpR _ _ (rCatA K) from op_catA) (pv 3) (pe_tup (pa_cons (pv 4) pa_nil)))))))
 (pss_one (ps_ret (pe_callTy call_tuple_of (by rfl) m_tuple boot_tuple (pa_cons (pv 1) pa_nil)))))), ?_⟩
    refine ⟨by show 0 ≤ sizeLine; decide, fun e0 ne0 => ⟨by show 1 ≤ sizeLine; decide, fun L0 nL0 => ?_⟩⟩
    have s1 := al (o := .tup []) ne0
    have s2 := s1.trans (al (o := .lst [.ref e0]) nL0)
    have he0 := al (o := .lst [.ref e0]) nL0 _ _ (show upd H e0 (.tup []) e0 = some (.tup []) from upd_same)
    have hL0 : upd (upd H e0 (.tup [])) L0 (.lst [.ref e0]) L0 = some (.lst [.ref e0]) := upd_same
    have nL := s1.free nL0
    generalize upd (upd H e0 (.tup [])) L0 (.lst [.ref e0]) = H1 at s2 he0 hL0 ⊢
    refine ⟨_, rfl, _, rfl, by omega, by omega, for_range (lo := 0) (n := n) (fun t σ H' => t ≤ n ∧ ∃ La ts y2 y3 y4, σ = [some (.int (n : Nat)), some (.ref La), y2, y3, y4] ∧ Same H H' ∧ H' La = some (.lst (ts.map V.ref)) ∧ TAt H' ts (itO n t)) ⟨Nat.zero_le _, L0, [e0], none, none, none, rfl, s2, hL0, .cons he0 .nil⟩ (fun t σ H' ht pv => ?_) (fun σ H' pv => ?_)⟩
    · obtain ⟨_, La, ts, y2, y3, y4, rfl, e, hLa, tL⟩ := pv
      have l120 : (itO n t).length ≤ 120 := itO_len ⟨n, by omega⟩ ⟨t, by omega⟩ (by show t ≤ n; omega)
      have tl : ts.length = (itO n t).length := tL.len
      refine ⟨_, rfl, La, rfl, ⟨_, .inl (.inl hLa)⟩, fun D hD => K7E.out_list (xs := ts.map V.ref) (fun i H2 => Same H' H2 ∧ ∃ us : List Addr, H2 D = some (.lst (us.map V.ref)) ∧ TAt H2 us (stepO n ((itO n t).take i)) ∧ us.length ≤ i * n) ⟨al hD, [], upd_same, .nil, Nat.zero_le _⟩ (fun i H2 _ pv => .inl (.inl (pv.1 _ _ hLa))) (fun i x H2 hx pv => ?_) (fun H2 pv => ?_)⟩
      · obtain ⟨e2, us, hD2, tU, lu⟩ := pv
        rw [List.getElem?_map] at hx
        obtain ⟨ti, hti, rfl⟩ := Option.map_eq_some_iff.mp hx
        obtain ⟨o, eo, ho⟩ := tL.get hti
        have hi : i < 120 := by
          have := (List.getElem?_eq_some_iff.mp eo).1
          omega
        have tk : (itO n t).take (i + 1) = (itO n t).take i ++ [o] := by rw [List.take_add_one, eo]; rfl
        have hin : i * n ≤ 600 := Nat.le_trans (Nat.mul_le_mul (Nat.le_of_lt hi) n5) (by decide)
        have ol : o.length = t := ((mem_itO n t o).mp (List.mem_of_getElem? eo)).1
        refine ⟨rfl, _, rfl, _, rfl, by omega, by omega, K7E.in_range (lo := 0) (n := n) (fun j H3 => Same H' H3 ∧ ∃ us : List Addr, H3 D = some (.lst (us.map V.ref)) ∧ TAt H3 us (stepO n ((itO n t).take i) ++ rowO n o j) ∧ us.length ≤ i * n + j) ⟨e2, us, hD2, ?_, lu⟩ (fun j H3 hj pv => ?_) (fun H3 pv => ?_)⟩
        · show TAt H2 us (_ ++ [])
          rw [List.append_nil]
          exact tU
        · obtain ⟨e3, us, hD3, tU, lu⟩ := pv
          have ho3 := e3 _ _ ho
          refine ⟨rfl, _, rfl, _, rfl, ti, ints_ o, rfl, .inr (.inl (.inl ho3)), rfl, flat_ints o, ?_⟩
          show ∃ d, V.bl (!inV _ _) = _ ∧ _
          refine ⟨_, rfl, ?_⟩
          rw [show inV (.int (0 + (j : Nat))) (ints_ o) = decide (j ∈ o) from by rw [Int.zero_add]; exact inV_ints j o]
          have er := rowO_succ n o j
          by_cases hm : (!decide (j ∈ o)) = true
          · rw [if_pos hm] at er
            rw [hm]
            refine iteT ⟨_, rfl, _, rfl, by show 1 ≤ sizeLine; decide, fun em nem => ?_⟩
            have sX := al (o := .tup [.int (0 + (j : Nat))]) nem
            have stp : ∀ (v : Addr) (Hf : Hp), Same H3 Hf → Hf v = some (.tup (ints_ (o ++ [j]))) → ∃ acc, Hf D = some (.lst acc) ∧ acc.length < sizeLine ∧ (Same H' (upd Hf D (.lst (acc ++ [.ref v]))) ∧ ∃ us : List Addr, upd Hf D (.lst (acc ++ [.ref v])) D = some (.lst (us.map V.ref)) ∧ TAt (upd Hf D (.lst (acc ++ [.ref v]))) us (stepO n ((itO n t).take i) ++ rowO n o (j + 1)) ∧ us.length ≤ i * n + (j + 1)) := fun v Hf sF hv => by
              have hDf := sF _ _ hD3
              have up : ∀ b xs, Hf b = some (.tup xs) → upd Hf D (.lst (us.map V.ref ++ [.ref v])) b = some (.tup xs) := fun b xs hb => by
                rw [upd_ne (fun z => by rw [z, hDf] at hb; cases hb)]
                exact hb
              refine ⟨_, hDf, by rw [List.length_map]; exact small1000 (by omega), fun b z hb => ?_, us ++ [v], by rw [upd_same, List.map_append]; rfl, ?_, by rw [List.length_append, List.length_singleton]; omega⟩
              · rw [upd_ne (ne_of_none hb hD)]
                exact sF _ _ (e3 _ _ hb)
              · rw [er, ← List.append_assoc]
                exact ((tU.same sF).mono up).append (.cons (up _ _ hv) .nil)
            refine ⟨ti, em, ints_ o, [.int (0 + (j : Nat))], rfl, rfl, .inl (.inl (sX _ _ ho3)), .inl (.inl upd_same), by show (ints_ o).length + 1 ≤ 16777216; unfold ints_; rw [List.length_map, ol]; omega, fun z => ?_, fun _ z => (nomatch z), fun z _ p np => ?_⟩
            · have e0 : o = [] := List.map_eq_nil_iff.mp z
              subst e0
              exact stp em _ sX (by rw [upd_same, Int.zero_add]; rfl)
            · refine stp p _ (sX.trans (al np)) ?_
              rw [upd_same, Int.zero_add, ints_snoc]
          · rw [if_neg hm, List.append_nil] at er
            rw [Bool.eq_false_iff.mpr hm]
            refine iteF ⟨e3, us, hD3, ?_, by omega⟩
            rw [er]
            exact tU
        · obtain ⟨e3, us, hD3, tU, lu⟩ := pv
          exact ⟨e3, us, hD3, by rw [tk, step_snoc]; exact tU, by rw [Nat.succ_mul]; exact lu⟩
      · obtain ⟨e2, us, hD2, tU, lu⟩ := pv
        rw [List.length_map, tl, List.take_length] at tU
        exact ⟨ht, D, us, _, _, _, rfl, e.trans e2, hD2, tU⟩
    · obtain ⟨_, La, ts, y2, y3, y4, rfl, e, hLa, tL⟩ := pv
      exact ⟨_, rfl, La, ts.map V.ref, rfl, .inl ⟨.inl (.inl hLa), fun l nl => q _ l ts (e.trans (al nl)) (e.free nl) upd_same (tL.same (al nl))⟩⟩
/-- the law's own orders -/
def spLOrd : Sp := fun vs H Q _ => ∃ n : Nat, vs = [.int (n : Nat)] ∧ n ≤ 5 ∧ ∀ H' u ts, Same H H' → H u = none → H' u = some (.lst (ts.map V.ref)) → TAt H' ts (ords n) → Q (.ref u) H'
theorem ok_lord {f : Addr} {fd : FuncData} (F : Fun K "_law_orders" "_law_orders" s__law_orders f fd) (m_range : mg "range" = none) (m_list : mg "list" = none) : FnOk P w K mg base CX0 1 f fd ["_law_n"] spLOrd := by
  refine F.ok sc__law_orders (fun vs H Q E h => ?_) (fun cdv A outer s H vs Q E hr h => ?_)
  · obtain ⟨n, rfl, _⟩ := h
    rfl
  · obtain ⟨n, rfl, n5, q⟩ := h
    refine ⟨_, (pss_cons (ps_set (i := 1) sc__law_orders.nd rfl (by first | exact Or.inl rfl | exact Or.inr rfl) (pe_lst (pa_cons (pe_tup pa_nil) pa_nil)))
 (pss_cons (ps_for PassesOwn.never rfl (pi_range1 rfl m_range (pa_cons (pv 0) pa_nil)) (pg_name (i := 2) sc__law_orders.nd rfl (by first | exact Or.inl rfl | exact Or.inr rfl))
  (pss_cons (ps_set (i := 3) sc__law_orders.nd rfl (by first | exact Or.inl rfl | exact Or.inr rfl) (pe_lst pa_nil))
 (pss_cons (ps_for PassesOwn.never rfl (pi_list (pv 1)) (pg_name (i := 4) sc__law_orders.nd rfl (by first | exact Or.inl rfl | exact Or.inr rfl))
  (pss_one (ps_for PassesOwn.never rfl (pi_range1 rfl m_range (pa_cons (pv 0) pa_nil)) (pg_name (i := 5) sc__law_orders.nd rfl (by first | exact Or.inl rfl | exact Or.inr rfl))
  (pss_one (ps_if (pt_cmpR op_notIn_seq (pv 5) (pv 4) (by with_unfolding_all rfl))
  (pss_one (ps_expr (pe_bm PySem.F.plainAttrs_list PySem.F.slot_list_append PySem.F.type_list_append mt_append (pv 3) (pa_cons (pe_op op_catA (pv 4) (pe_tup (pa_cons (pv 5) pa_nil))) pa_nil))))
  pss_nil)))))
 (pss_one (ps_set (i := 1) sc__law_orders.nd rfl (by first | exact Or.inl rfl | exact Or.inr rfl) (pe_callTy call_list_of (by rfl) m_list boot_list (pa_cons (pv 3) pa_nil)))))))
 (pss_one (ps_ret (pv 1))))), ?_⟩
    refine ⟨by show 0 ≤ sizeLine; decide, fun e0 ne0 => ⟨by show 1 ≤ sizeLine; decide, fun L0 nL0 => ?_⟩⟩
    have s1 := al (o := .tup []) ne0
    have s2 := s1.trans (al (o := .lst [.ref e0]) nL0)
    have he0 := al (o := .lst [.ref e0]) nL0 _ _ (show upd H e0 (.tup []) e0 = some (.tup []) from upd_same)
    have hL0 : upd (upd H e0 (.tup [])) L0 (.lst [.ref e0]) L0 = some (.lst [.ref e0]) := upd_same
    have nL := s1.free nL0
    generalize upd (upd H e0 (.tup [])) L0 (.lst [.ref e0]) = H1 at s2 he0 hL0 ⊢
    refine ⟨_, rfl, _, rfl, by omega, by omega, for_range (lo := 0) (n := n) (fun t σ H' => t ≤ n ∧ ∃ La ts y2 y3 y4 y5, σ = [some (.int (n : Nat)), some (.ref La), y2, y3, y4, y5] ∧ Same H H' ∧ H La = none ∧ H' La = some (.lst (ts.map V.ref)) ∧ TAt H' ts (itO n t)) ⟨Nat.zero_le _, L0, [e0], none, none, none, none, rfl, s2, nL, hL0, .cons he0 .nil⟩ (fun t σ H' ht pv => ?_) (fun σ H' pv => ?_)⟩
    · obtain ⟨_, La, ts, y2, y3, y4, y5, rfl, e, nLa, hLa, tL⟩ := pv
      have l120 : (itO n t).length ≤ 120 := itO_len ⟨n, by omega⟩ ⟨t, by omega⟩ (by show t ≤ n; omega)
      have tl : ts.length = (itO n t).length := tL.len
      refine ⟨by show 0 ≤ sizeLine; decide, fun G nG => ?_⟩
      have gL : La ≠ G := ne_of_none hLa nG
      have eG : Same H' (upd H' G (.lst [])) := al nG
      refine ⟨_, rfl, La, rfl, ⟨_, .inl (.inl (eG _ _ hLa))⟩, for_list (xs := ts.map V.ref) (fun i σ H2 => ∃ gs y4 y5, σ = [some (.int (n : Nat)), some (.ref La), some (.int (0 + (t : Nat))), some (.ref G), y4, y5] ∧ But G H' H2 ∧ H2 G = some (.lst (gs.map V.ref)) ∧ TAt H2 gs (stepO n ((itO n t).take i)) ∧ gs.length ≤ i * n)
        ⟨[], y4, y5, rfl, fun b o hb hz => by rw [upd_ne hb]; exact hz, upd_same, .nil, Nat.zero_le _⟩ (fun i σ H2 _ pv => ?_) (fun i x σ H2 hx pv => ?_) (fun σ H2 pv => ?_)⟩
      · obtain ⟨gs, y4, y5, rfl, bt, hG, tG, hg⟩ := pv
        exact .inl (.inl (bt _ _ gL hLa))
      · obtain ⟨gs, y4, y5, rfl, bt, hG, tG, hg⟩ := pv
        rw [List.getElem?_map] at hx
        obtain ⟨ti, hti, rfl⟩ := Option.map_eq_some_iff.mp hx
        obtain ⟨o, eo, ho⟩ := tL.get hti
        have hi : i < 120 := by
          have := (List.getElem?_eq_some_iff.mp eo).1
          omega
        have tk : (itO n t).take (i + 1) = (itO n t).take i ++ [o] := by rw [List.take_add_one, eo]; rfl
        have hin : i * n ≤ 600 := Nat.le_trans (Nat.mul_le_mul (Nat.le_of_lt hi) n5) (by decide)
        have ol : o.length = t := ((mem_itO n t o).mp (List.mem_of_getElem? eo)).1
        refine ⟨_, rfl, _, rfl, by omega, by omega, for_range (lo := 0) (n := n) (fun j σ H3 => ∃ gs y5, σ = [some (.int (n : Nat)), some (.ref La), some (.int (0 + (t : Nat))), some (.ref G), some (.ref ti), y5] ∧ But G H' H3 ∧ H3 G = some (.lst (gs.map V.ref)) ∧ TAt H3 gs (stepO n ((itO n t).take i) ++ rowO n o j) ∧ gs.length ≤ i * n + j)
          ⟨gs, y5, rfl, bt, hG, ?_, by omega⟩ (fun j σ H3 hj pv => ?_) (fun σ H3 pv => ?_)⟩
        · show TAt H2 gs (_ ++ [])
          rw [List.append_nil]
          exact tG
        · obtain ⟨us, y5, rfl, bt3, hD3, tU, lu⟩ := pv
          have ho3 := bt3 ti _ (ne_of_none ho nG) ho
          have er := rowO_succ n o j
          refine ⟨_, rfl, _, rfl, ti, ints_ o, rfl, .inr (.inl (.inl ho3)), rfl, flat_ints o, ?_⟩
          show ∃ d, V.bl (!inV _ _) = _ ∧ _
          refine ⟨_, rfl, ?_⟩
          rw [show inV (.int (0 + (j : Nat))) (ints_ o) = decide (j ∈ o) from by rw [Int.zero_add]; exact inV_ints j o]
          by_cases hm : (!decide (j ∈ o)) = true
          · rw [if_pos hm] at er
            rw [hm]
            refine iteT ?_
            have stp : ∀ (v : Addr) (Hf : Hp), Same H3 Hf → Hf v = some (.tup (ints_ (o ++ [j]))) → But G H' (upd Hf G (.lst (us.map V.ref ++ [.ref v]))) ∧ upd Hf G (.lst (us.map V.ref ++ [.ref v])) G = some (.lst ((us ++ [v]).map V.ref)) ∧ TAt (upd Hf G (.lst (us.map V.ref ++ [.ref v]))) (us ++ [v]) (stepO n ((itO n t).take i) ++ rowO n o (j + 1)) ∧ (us ++ [v]).length ≤ i * n + (j + 1) := fun v Hf sF hv => by
              have hDf := sF _ _ hD3
              have up : ∀ b xs, Hf b = some (.tup xs) → upd Hf G (.lst (us.map V.ref ++ [.ref v])) b = some (.tup xs) := fun b xs hb => by
                rw [upd_ne (fun z => by rw [z, hDf] at hb; cases hb)]
                exact hb
              refine ⟨fun b z nb hb => by rw [upd_ne nb]; exact sF _ _ (bt3 b z nb hb), by rw [upd_same, List.map_append]; rfl, ?_, by rw [List.length_append, List.length_singleton]; omega⟩
              rw [er, ← List.append_assoc]
              exact ((tU.same sF).mono up).append (.cons (up _ _ hv) .nil)
            refine ⟨_, rfl, .inl ⟨rfl, _, .inl (.inl hD3)⟩, _, rfl, _, rfl, by show 1 ≤ sizeLine; decide, fun u nu => ?_⟩
            have sU := al (o := .tup [.int (0 + (j : Nat))]) nu
            refine ⟨ti, u, ints_ o, _, rfl, rfl, .inl (.inl (sU _ _ ho3)), .inl (.inl upd_same), by show (ints_ o).length + 1 ≤ 16777216; unfold ints_; rw [List.length_map, ol]; omega, fun z => ?_, (fun _ z2 => nomatch z2), fun z1 _ p np => ?_⟩
            · have e0 : o = [] := List.map_eq_nil_iff.mp z
              subst e0
              obtain ⟨k1, k2, k3, k4⟩ := stp u _ sU (by rw [upd_same, Int.zero_add]; rfl)
              exact ⟨G, _, _, rfl, rfl, sU _ _ hD3, by rw [List.length_map]; exact small1000 (by omega), us ++ [u], _, rfl, k1, k2, k3, k4⟩
            · obtain ⟨k1, k2, k3, k4⟩ := stp p _ (sU.trans (al (o := .tup (ints_ o ++ [.int (0 + (j : Nat))])) np)) (by rw [upd_same, Int.zero_add, ints_snoc])
              exact ⟨G, _, _, rfl, rfl, (sU.trans (al (o := .tup (ints_ o ++ [.int (0 + (j : Nat))])) np)) _ _ hD3, by rw [List.length_map]; exact small1000 (by omega), us ++ [p], _, rfl, k1, k2, k3, k4⟩
          · rw [if_neg hm, List.append_nil] at er
            rw [Bool.eq_false_iff.mpr hm]
            refine iteF ⟨us, _, rfl, bt3, hD3, ?_, by omega⟩
            rw [er]
            exact tU
        · obtain ⟨us, y5, rfl, bt3, hD3, tU, lu⟩ := pv
          exact ⟨us, _, _, rfl, bt3, hD3, by rw [tk, step_snoc]; exact tU, by rw [Nat.succ_mul]; exact lu⟩
      · obtain ⟨us, y4, y5, rfl, bt, hG, tU, hg⟩ := pv
        rw [List.length_map, tl, List.take_length] at tU
        refine ⟨_, rfl, G, _, rfl, .inl (.inl (.inl hG)), fun R nR => ?_⟩
        have sE : Same H' H2 := fun b z hz => bt b z (ne_of_none hz nG) hz
        have sR := sE.trans (al (o := .lst (us.map V.ref)) nR)
        exact ⟨ht, R, us, _, _, _, _, rfl, e.trans sR, (e.trans sE).free nR, upd_same, tU.same (al nR)⟩
    · obtain ⟨_, La, ts, y2, y3, y4, y5, rfl, e, nLa, hLa, tL⟩ := pv
      exact ⟨_, rfl, q _ La ts e nLa hLa tL⟩
end
end K7
end
/-! ## SL -/
section
open PySem PySem.Spec PyProof.Rows L2
namespace K7
theorem notHand_refs : ∀ ts : List Addr, notHand (ts.map V.ref) = true
  | [] => rfl
  | [_] => rfl
  | [_, _] => rfl
  | [_, _, _] => rfl
  | [_, _, _, _] => rfl
  | _ :: _ :: _ :: _ :: _ :: _ => by rfl
theorem notHand_ints : ∀ ts : List Nat, notHand (ints_ ts) = true
  | [] => rfl
  | [_] => rfl
  | [_, _] => rfl
  | [_, _, _] => rfl
  | [_, _, _, _] => rfl
  | _ :: _ :: _ :: _ :: _ :: _ => by rfl
section
variable {h c : Addr} {H H' : Hp}
theorem Stay.tup {b : Addr} {xs : List V} (x : Stay h c H H') (hb : H b = some (.tup xs)) : H' b = some (.tup xs) := x.but b _ (x.hand0.net hb) hb
theorem Stay.tat (x : Stay h c H H') {ts : List Addr} {ls : List (List Nat)} (t : TAt H ts ls) : TAt H' ts ls := t.mono fun b xs hb => x.tup hb
theorem Stay.la (x : Stay h c H H') {q : Addr} {n : Nat} {es : List (Nat × Nat)} {lot : List Nat} (L : LandAt H q n es lot) : LandAt H' q n es lot := by
  obtain ⟨rA, sA, ts, h1, h2, h3, h4⟩ := L.at_
  exact ⟨⟨rA, sA, ts, x.tup h1, x.lst h2 (notHand_refs _), x.tat h3, x.lst h4 (notHand_ints _)⟩, L.ok, L.lot⟩
theorem Stay.lo (x : Stay h c H H') {C p : Addr} {n : Nat} {es : List (Nat × Nat)} {rd : List Nat} (L : LandO C H p n es rd) : LandO C H' p n es rd := by
  obtain ⟨dx, an, ar, ay, ac, tn, ty, tc, h1, h2, h3, h4, h5, h6, h7, h8⟩ := L.at_
  exact ⟨⟨dx, an, ar, ay, ac, tn, ty, tc, x.but p _ (x.hand0.nei h1) h1, x.tup h2, x.tat h3, x.tup h4, x.tup h5, x.tat h6, x.tup h7, x.tat h8⟩, L.n2, L.n5, L.ok, L.rlt, L.rnd, L.rso, L.r0, L.rn⟩
end
theorem es_len {n : Nat} {es : List (Nat × Nat)} (ok : LandOk n es) (hn : n ≤ 5) : es.length ≤ 32 := by
  have z := K7E.nodup_le es ((List.range 5).flatMap fun a => (List.range 5).map fun b => (a, b)) ok.nd fun e he => by
    obtain ⟨a, b⟩ := e
    obtain ⟨l1, l2⟩ := ok.lt _ he
    have l1 : a < b := l1
    have l2 : b < n := l2
    exact List.mem_flatMap.mpr ⟨a, List.mem_range.mpr (by omega), List.mem_map.mpr ⟨b, List.mem_range.mpr (by omega), rfl⟩⟩
  have e : ((List.range 5).flatMap fun a => (List.range 5).map fun b => (a, b)).length = 25 := by decide
  rw [e] at z
  omega

theorem co_lit {H : Hp} {ts : List Addr} {cs : List (Nat × Nat)} (h : TAt H ts (pairs cs)) : CoAll H ts cs := by
  refine ⟨by rw [h.len]; unfold pairs; rw [List.length_map], fun i t c ht hc => ?_⟩
  obtain ⟨l, el, hl⟩ := h.get ht
  unfold pairs at el
  rw [List.getElem?_map, hc] at el
  obtain rfl := Option.some.inj el
  exact .inl hl
theorem lot_lt {n : Nat} (hn : n ≤ 5) {lot : List Nat} (h : lot ∈ lotsTo (List.range n) n) : (∀ c ∈ lot, c < n) ∧ lot.Pairwise (· < ·) := by
  have all : ∀ n : Fin 6, (lotsTo (List.range n.val) n.val).all (fun l => l.all (fun c => decide (c < n.val)) && decide (l.Pairwise (· < ·))) = true := by decide +kernel
  have z := List.all_eq_true.mp (all ⟨n, by omega⟩) lot h
  obtain ⟨z1, z2⟩ := Bool.and_eq_true_iff.mp z
  exact ⟨fun c hc => of_decide_eq_true (List.all_eq_true.mp z1 c hc), of_decide_eq_true z2⟩
theorem srt_map {n : Nat} {es : List (Nat × Nat)} (ok : LandOk n es) : es.map KL.srt = es := by
  refine (List.map_congr_left fun e he => ?_).trans (List.map_id es)
  exact KL.srt_of (ok.lt e he).1
theorem cos_es {n : Nat} {es : List (Nat × Nat)} (ok : LandOk n es) (hn : n ≤ 5) : Cos n es := by
  refine ⟨fun c hc => ?_, by rw [srt_map ok]; exact ok.nd, es_len ok hn⟩
  obtain ⟨l1, l2⟩ := ok.lt c hc
  exact ⟨by omega, l2, by omega⟩

end K7
end
/-! ## P16 -/
section

open PySem PySem.Spec PyProof.Rows L2
namespace K7
abbrev N_led_lot : List Str := ["order", "lot", "cell"]
abbrev s_led_lot : Stmt := topS 22
theorem sc_led_lot : FnScope ["order", "lot", "cell"] ["order", "lot"] (defScope s_led_lot) := ⟨rfl, rfl, rfl, by decide +kernel, rfl, by decide +kernel, by decide +kernel⟩
abbrev N_led_couple : List Str := ["order", "couple"]
abbrev s_led_couple : Stmt := topS 23
theorem sc_led_couple : FnScope ["order", "couple"] ["order", "couple"] (defScope s_led_couple) := ⟨rfl, rfl, rfl, by decide +kernel, rfl, by decide +kernel, by decide +kernel⟩
abbrev N__led_parts : List Str := ["land", "order", "couple"]
abbrev s__led_parts : Stmt := topS 24
theorem sc__led_parts : FnScope ["land", "order", "couple"] ["land", "order"] (defScope s__led_parts) := ⟨rfl, rfl, rfl, by decide +kernel, rfl, by decide +kernel, by decide +kernel⟩
def PartAt (H : Hp) (u : Addr) (x : Part) : Prop := ∃ ta tb us, H u = some (.tup [.ref ta, .ref tb]) ∧ H ta = some (.tup (us.map V.ref)) ∧ TAt H us (pairs x.1) ∧ H tb = some (.tup (ints_ x.2))
theorem PartAt.same {H H' : Hp} {u : Addr} {x : Part} (h : PartAt H u x) (e : Same H H') : PartAt H' u x := by
  obtain ⟨ta, tb, us, h1, h2, h3, h4⟩ := h
  exact ⟨ta, tb, us, e _ _ h1, e _ _ h2, h3.same e, e _ _ h4⟩
theorem ledR_two (o : List Nat) (a b : Nat) : ledR o [a, b] = [(KL.srt (at_ o a, at_ o b)).1, (KL.srt (at_ o a, at_ o b)).2] := by
  refine (ledR_is ?_ ?_).symm
  · unfold KL.srt
    simp only [List.map_cons, List.map_nil]
    rcases Nat.le_total (at_ o a) (at_ o b) with h | h
    · rw [Nat.min_eq_left h, Nat.max_eq_right h]
    · rw [Nat.min_eq_right h, Nat.max_eq_left h]
      exact List.Perm.swap _ _ _
  · have := KL.srt_le (at_ o a, at_ o b)
    refine List.pairwise_cons.mpr ⟨fun x hx => ?_, List.pairwise_cons.mpr ⟨fun x hx => (nomatch hx), List.Pairwise.nil⟩⟩
    rw [List.mem_singleton.mp hx]
    exact this
theorem ints_srt {ms : List Int} {l : List Nat} (pm : ms.Perm (l.map fun c => ((c : Nat) : Int))) (so : ms.Pairwise (· ≤ ·)) : ∃ ns : List Nat, ms.map V.int = ints_ ns ∧ ns.Perm l ∧ ns.Pairwise (· ≤ ·) := by
  have e := ints_back pm
  refine ⟨ms.map Int.toNat, ?_, ?_, ?_⟩
  · unfold ints_
    rw [List.map_map]
    refine List.map_congr_left fun x hx => ?_
    obtain ⟨c, _, rfl⟩ := List.mem_map.mp (pm.mem_iff.mp hx)
    rfl
  · refine (pm.map Int.toNat).trans ?_
    rw [List.map_map]
    exact List.Perm.of_eq ((List.map_congr_left fun x _ => rfl).trans (List.map_id l))
  · rw [List.pairwise_map]
    exact so.imp fun {a b} h => by omega
section
variable {P : Program} {w : World} {K : PySem.W.Frag} {mg : Str → Option Value} {base : Heap} {a : AdL}
def spLedL : Sp := fun vs H Q _ => ∃ (o l : Addr) (ord lot : List Nat), vs = [.ref o, .ref l] ∧ SqOf H o (ints_ ord) ∧ SqOf H l (ints_ lot) ∧ (∀ c ∈ lot, c < ord.length) ∧ lot.length < 64 ∧
  ∀ H' u, Same H H' → H u = none → H' u = some (.tup (ints_ (ledR ord lot))) → Q (.ref u) H'
theorem ok_ledl {f : Addr} {fd : FuncData} (F : Fun K "led_lot" "led_lot" s_led_lot f fd) (m_sorted : mg "sorted" = none) (m_tuple : mg "tuple" = none) : FnOk P w K mg base CX0 1 f fd ["order", "lot"] spLedL := by
  refine F.ok sc_led_lot (fun vs H Q E h => ?_) (fun cdv A outer s H vs Q E hr h => ?_)
  · obtain ⟨o, l, ord, lot, rfl, _⟩ := h
    rfl
  · obtain ⟨o, l, ord, lot, rfl, ho, hl, hc, l64, q⟩ := h
    refine ⟨_, (pss_one (ps_ret (pe_callTy call_tuple_of (by rfl) m_tuple boot_tuple (pa_cons (pe_callB K7S.cr_sortA (by rfl) m_sorted boot_sorted (pa_cons (pe_lc (own := [("cell", 2)]) (g := gName 2) (tt := tYes) rfl sc_led_lot.nd (K7E.pi_either (pi_tup (pv 1)) (pi_list (pv 1))) (blkOk_by (own := [("cell", 2)]) (N := N_led_lot) (sc := defScope s_led_lot) (by decide +kernel)) (fun _ _ _ _ _ => (pg_name (i := 2) sc_led_lot.nd rfl (by first | exact Or.inl rfl | exact Or.inr rfl))) (fun _ _ _ _ _ => pts_nil) (fun _ _ _ _ _ => (K7E.pe_ei (pe_ix (show IxR _ (rIxT K) from ix_tup) (pv 0) (pv 2) (fun _ _ => rfl)) (pe_ix (show IxR _ (rIxL K) from ix_list) (pv 0) (pv 2) (fun _ _ => rfl))))) pa_nil)) pa_nil)))), ?_⟩
    have ga : ∀ c, c < ord.length → (ints_ ord)[c]? = some (.int (at_ ord c : Nat)) := fun c h => by
      unfold ints_
      rw [List.getElem?_map, List.getElem?_eq_getElem h, at_get h]
      rfl
    rcases hl with z | z
    · refine .inl ⟨_, rfl, l, rfl, ⟨_, .inl (.inl z)⟩, fun D hD => lc_tup (xs := ints_ lot) (fun j H3 => Same H H3 ∧ H3 D = some (.lst (ints_ ((lot.take j).map (at_ ord))))) ⟨al hD, upd_same⟩ (fun j H3 _ pv => .inl (.inl (pv.1 _ _ z))) (fun j y H3 hy pv => ?_) (fun H3 pv => ?_)⟩
      · obtain ⟨e3, hD3⟩ := pv
        unfold ints_ at hy
        rw [List.getElem?_map] at hy
        obtain ⟨c, hcj, rfl⟩ := Option.map_eq_some_iff.mp hy
        have hm := hc c (List.mem_of_getElem? hcj)
        have tk : (lot.take (j + 1)).map (at_ ord) = (lot.take j).map (at_ ord) ++ [at_ ord c] := by rw [List.take_add_one, hcj, List.map_append]; rfl
        have fin : ∃ acc, H3 D = some (.lst acc) ∧ acc.length < sizeLine ∧ (Same H (upd H3 D (.lst (acc ++ [.int (at_ ord c : Nat)]))) ∧ upd H3 D (.lst (acc ++ [.int (at_ ord c : Nat)])) D = some (.lst (ints_ ((lot.take (j + 1)).map (at_ ord))))) := by
          refine ⟨_, hD3, by unfold ints_; rw [List.length_map, List.length_map]; exact small1000 (by rw [List.length_take]; omega), fun b o hb => ?_, ?_⟩
          · rw [upd_ne (ne_of_none hb hD)]
            exact e3 _ _ hb
          · rw [upd_same, tk, ints_snoc]
        refine ⟨rfl, ?_⟩
        rcases ho with y | y
        · exact .inl ⟨_, rfl, _, rfl, o, _, _, _, rfl, rfl, .inl (.inl (e3 _ _ y)), atI_nat (ga c hm), fin⟩
        · exact .inr ⟨_, rfl, _, rfl, o, _, _, _, rfl, rfl, .inl (.inl (e3 _ _ y)), atI_nat (ga c hm), fin⟩
      · obtain ⟨e3, hD3⟩ := pv
        rw [show (ints_ lot).length = lot.length from List.length_map .., List.take_length] at hD3
        refine ⟨D, (lot.map (at_ ord)).map fun c => ((c : Nat) : Int), rfl, .inl (.inl (.inl ?_)), by rw [List.length_map, List.length_map]; exact l64, fun ms p pm so np => ?_⟩
        · rw [List.map_map]
          exact hD3
        · obtain ⟨ns, e, pn, sn⟩ := ints_srt pm so
          rw [e, ledR_is pn sn]
          refine ⟨p, _, rfl, .inl ⟨.inl (.inl upd_same), fun u nu => ?_⟩⟩
          have s1 := e3.trans (al (o := .lst (ints_ (ledR ord lot))) np)
          exact q _ u (s1.trans (al nu)) (s1.free nu) upd_same
    · refine .inr ⟨_, rfl, l, rfl, ⟨_, .inl (.inl z)⟩, fun D hD => lc_list (xs := ints_ lot) (fun j H3 => Same H H3 ∧ H3 D = some (.lst (ints_ ((lot.take j).map (at_ ord))))) ⟨al hD, upd_same⟩ (fun j H3 _ pv => .inl (.inl (pv.1 _ _ z))) (fun j y H3 hy pv => ?_) (fun H3 pv => ?_)⟩
      · obtain ⟨e3, hD3⟩ := pv
        unfold ints_ at hy
        rw [List.getElem?_map] at hy
        obtain ⟨c, hcj, rfl⟩ := Option.map_eq_some_iff.mp hy
        have hm := hc c (List.mem_of_getElem? hcj)
        have tk : (lot.take (j + 1)).map (at_ ord) = (lot.take j).map (at_ ord) ++ [at_ ord c] := by rw [List.take_add_one, hcj, List.map_append]; rfl
        have fin : ∃ acc, H3 D = some (.lst acc) ∧ acc.length < sizeLine ∧ (Same H (upd H3 D (.lst (acc ++ [.int (at_ ord c : Nat)]))) ∧ upd H3 D (.lst (acc ++ [.int (at_ ord c : Nat)])) D = some (.lst (ints_ ((lot.take (j + 1)).map (at_ ord))))) := by
          refine ⟨_, hD3, by unfold ints_; rw [List.length_map, List.length_map]; exact small1000 (by rw [List.length_take]; omega), fun b o hb => ?_, ?_⟩
          · rw [upd_ne (ne_of_none hb hD)]
            exact e3 _ _ hb
          · rw [upd_same, tk, ints_snoc]
        refine ⟨rfl, ?_⟩
        rcases ho with y | y
        · exact .inl ⟨_, rfl, _, rfl, o, _, _, _, rfl, rfl, .inl (.inl (e3 _ _ y)), atI_nat (ga c hm), fin⟩
        · exact .inr ⟨_, rfl, _, rfl, o, _, _, _, rfl, rfl, .inl (.inl (e3 _ _ y)), atI_nat (ga c hm), fin⟩
      · obtain ⟨e3, hD3⟩ := pv
        rw [show (ints_ lot).length = lot.length from List.length_map .., List.take_length] at hD3
        refine ⟨D, (lot.map (at_ ord)).map fun c => ((c : Nat) : Int), rfl, .inl (.inl (.inl ?_)), by rw [List.length_map, List.length_map]; exact l64, fun ms p pm so np => ?_⟩
        · rw [List.map_map]
          exact hD3
        · obtain ⟨ns, e, pn, sn⟩ := ints_srt pm so
          rw [e, ledR_is pn sn]
          refine ⟨p, _, rfl, .inl ⟨.inl (.inl upd_same), fun u nu => ?_⟩⟩
          have s1 := e3.trans (al (o := .lst (ints_ (ledR ord lot))) np)
          exact q _ u (s1.trans (al nu)) (s1.free nu) upd_same
def spLedC : Sp := fun vs H Q _ => ∃ (o l : Addr) (ord : List Nat) (c d : Nat), vs = [.ref o, .ref l] ∧ H o = some (.tup (ints_ ord)) ∧ H l = some (.lst (ints_ [c, d])) ∧ c < ord.length ∧ d < ord.length ∧
  ∀ H' u, Same H H' → H' u = some (.tup (ints_ [at_ ord c, at_ ord d])) → Q (.ref u) H'
theorem ok_ledc {f : Addr} {fd : FuncData} (F : Fun K "led_couple" "led_couple" s_led_couple f fd) : FnOk P w K mg base CX0 1 f fd ["order", "couple"] spLedC := by
  refine F.ok sc_led_couple (fun vs H Q E h => ?_) (fun cdv A outer s H vs Q E hr h => ?_)
  · obtain ⟨o, l, ord, c, d, rfl, _⟩ := h
    rfl
  · obtain ⟨o, l, ord, c, d, rfl, ho, hl, hc, hd, q⟩ := h
    refine ⟨_, (pss_one (ps_ret (pe_tup (pa_cons (pe_ix ix_tup (pv 0) (pe_ix ix_list (pv 1) pe_int (fun _ _ => rfl)) (fun _ _ => rfl)) (pa_cons (pe_ix ix_tup (pv 0) (pe_ix ix_list (pv 1) pe_int (fun _ _ => rfl)) (fun _ _ => rfl)) pa_nil))))), ?_⟩
    have ga : ∀ c, c < ord.length → (ints_ ord)[c]? = some (.int (at_ ord c : Nat)) := fun c h => by
      unfold ints_
      rw [List.getElem?_map, List.getElem?_eq_getElem h, at_get h]
      rfl
    refine ⟨_, rfl, _, rfl, l, _, _, _, rfl, rfl, .inl (.inl hl), atI_nat (j := 0) rfl, o, _, _, _, rfl, rfl, .inl (.inl ho), atI_nat (ga c hc), ?_⟩
    refine ⟨_, rfl, _, rfl, l, _, _, _, rfl, rfl, .inl (.inl hl), atI_nat (j := 1) rfl, o, _, _, _, rfl, rfl, .inl (.inl ho), atI_nat (ga d hd), ?_⟩
    exact ⟨by show 2 ≤ sizeLine; decide, fun u nu => q _ u (al nu) upd_same⟩
def spParts (C : Addr) : Sp := fun vs H Q _ => ∃ (p o : Addr) (n : Nat) (es : List (Nat × Nat)) (rd ord : List Nat), vs = [.ref p, .ref o] ∧ LandO C H p n es rd ∧ SqOf H o (ints_ ord) ∧ IsOrd n ord ∧
  ∀ H' u, Same H H' → H u = none → PartAt H' u (led ord (es, rd)) → Q (.ref u) H'
theorem ok_parts (T : Tl K mg a) {f flt : Addr} {fd fdlt : FuncData} (F : Fun K "_led_parts" "_led_parts" s__led_parts f fd)
    (Glt : FnOk P w K mg base CX0 1 flt fdlt ["order", "lot"] spLedL) (glt : mg "led_lot" = some (.ref flt)) (klt : PySem.W.keepIn K (.ref flt) = true) (blt : Binds K fdlt ["order", "lot"] [])
    (m_sorted : mg "sorted" = none) (m_tuple : mg "tuple" = none) : FnOk P w K mg base CX0 2 f fd ["land", "order"] (spParts a.C) := by
  refine F.ok sc__led_parts (fun vs H Q E h => ?_) (fun cdv A outer s H vs Q E hr h => ?_)
  · obtain ⟨p, o, n, es, rd, ord, rfl, _⟩ := h
    rfl
  · obtain ⟨p, o, n, es, rd, ord, rfl, L, ho, io, q⟩ := h
    refine ⟨_, (pss_one (ps_ret (pe_tup (pa_cons (pe_callTy call_tuple_of (by rfl) m_tuple boot_tuple (pa_cons (pe_callB cr_sortedPO (by rfl) m_sorted boot_sorted (pa_cons (pe_lc (own := [("couple", 2)]) (g := gName 2) (tt := tYes) rfl sc__led_parts.nd (pi_tup (pe_fld (pv 0) rfl)) (blkOk_by (own := [("couple", 2)]) (N := N__led_parts) (sc := defScope s__led_parts) (by decide +kernel)) (fun _ _ _ _ _ => (pg_name (i := 2) sc__led_parts.nd rfl (by first | exact Or.inl rfl | exact Or.inr rfl))) (fun _ _ _ _ _ => pts_nil) (fun _ _ _ _ _ => (pe_call Glt (hr.mono (by decide)) (by rfl) glt klt blt .nil pass0 (pa_cons (pv 1) (pa_cons (pv 2) pa_nil))))) pa_nil)) pa_nil)) (pa_cons (pe_call Glt (hr.mono (by decide)) (by rfl) glt klt blt .nil pass0 (pa_cons (pv 1) (pa_cons (pe_fld (pv 0) rfl) pa_nil))) pa_nil))))), ?_⟩
    obtain ⟨dx, an, ar, ay, ac, tn, ty, tc, h1, h2, h3, h4, h5, h6, h7, h8⟩ := L.at_
    have n5 := L.n5
    have n2 := L.n2
    have e32 := es_len L.ok n5
    have tl : tn.length = es.length := by rw [h3.len]; unfold pairs; rw [List.length_map]
    refine ⟨_, rfl, p, a.C, dx, _, _, rfl, h1, T.cl, T.nA _ (by decide), rfl, an, rfl, ⟨_, .inl (.inl h2)⟩, fun D hD => lc_tup (xs := tn.map V.ref) (fun j H3 => Same H H3 ∧ ∃ us, H3 D = some (.lst (us.map V.ref)) ∧ TAt H3 us (pairs ((es.take j).map fun e => KL.srt (at_ ord e.1, at_ ord e.2))) ∧ us.length ≤ j) ⟨al hD, [], upd_same, .nil, Nat.le_refl _⟩ (fun j H3 _ pv => .inl (.inl (pv.1 _ _ h2))) (fun j y H3 hy pv => ?_) (fun H3 pv => ?_)⟩
    · obtain ⟨e3, us, hD3, tD, lu⟩ := pv
      rw [List.getElem?_map] at hy
      obtain ⟨t', ht', rfl⟩ := Option.map_eq_some_iff.mp hy
      obtain ⟨row, hrow, hat⟩ := h3.get ht'
      unfold pairs at hrow
      rw [List.getElem?_map] at hrow
      obtain ⟨e, he, rfl⟩ := Option.map_eq_some_iff.mp hrow
      have hj : j < es.length := (List.getElem?_eq_some_iff.mp he).1
      obtain ⟨l1, l2⟩ := L.ok.lt e (List.mem_of_getElem? he)
      have tk : (es.take (j + 1)).map (fun e => KL.srt (at_ ord e.1, at_ ord e.2)) = (es.take j).map (fun e => KL.srt (at_ ord e.1, at_ ord e.2)) ++ [KL.srt (at_ ord e.1, at_ ord e.2)] := by rw [List.take_add_one, he, List.map_append]; rfl
      refine ⟨rfl, _, rfl, _, rfl, o, t', ord, [e.1, e.2], rfl, ho.same e3, .inl (e3 _ _ hat), fun c hc => ?_, by show 2 < 64; decide, fun H4 u e4 nu hu => ?_⟩
      · rw [io.len]
        rcases List.mem_cons.mp hc with rfl | hc
        · omega
        · rw [List.mem_singleton.mp hc]; exact l2
      · rw [ledR_two] at hu
        have hD4 := e4 _ _ hD3
        have up : ∀ b xs, H4 b = some (.tup xs) → upd H4 D (.lst (us.map V.ref ++ [.ref u])) b = some (.tup xs) := fun b xs hb => by
          rw [upd_ne (fun z => by rw [z, hD4] at hb; cases hb)]
          exact hb
        refine ⟨_, hD4, by rw [List.length_map]; exact small1000 (by omega), fun b z hb => ?_, us ++ [u], by rw [upd_same, List.map_append]; rfl, ?_, by rw [List.length_append, List.length_singleton]; omega⟩
        · rw [upd_ne (ne_of_none hb hD)]
          exact e4 _ _ (e3 _ _ hb)
        · rw [tk]
          unfold pairs
          rw [List.map_append]
          exact ((tD.same e4).mono up).append (.cons (up _ _ hu) .nil)
    · obtain ⟨e3, us, hD3, tD, lu⟩ := pv
      rw [List.length_map, tl, List.take_length] at tD
      refine ⟨D, us.map V.ref, kfOf H3, rfl, .inl (.inl hD3), fun y hy => ?_, fun ys p' srt stb np => ?_⟩
      · obtain ⟨b, e, rfl, hb⟩ := g_mem tD y hy
        exact ⟨b, rfl, by rw [kf_at hb]; exact hb⟩
      · have hys := fun y (hy : y ∈ ys) => g_mem tD y (stb.perm.mem_iff.mp hy)
        obtain ⟨us', rfl, tY⟩ := tat_of ys hys
        have pe : ((us'.map V.ref).map (gOf H3)).Perm (es.map fun e => KL.srt (at_ ord e.1, at_ ord e.2)) := by
          have z := stb.perm.map (gOf H3)
          rw [g_map tD] at z
          exact z
        have es' := ledE_is pe (sorted_of _ hys srt)
        rw [es'] at tY
        have s4 := e3.trans (al (o := .lst (us'.map V.ref)) np)
        have tY4 := tY.same (al (o := .lst (us'.map V.ref)) np)
        refine ⟨p', _, rfl, .inl ⟨.inl (.inl upd_same), fun ta nta => ?_⟩⟩
        have s5 := s4.trans (al (o := .tup (us'.map V.ref)) nta)
        have hta : upd (upd H3 p' (.lst (us'.map V.ref))) ta (.tup (us'.map V.ref)) ta = some (.tup (us'.map V.ref)) := upd_same
        have tY5 := tY4.same (al (o := .tup (us'.map V.ref)) nta)
        generalize upd (upd H3 p' (.lst (us'.map V.ref))) ta (.tup (us'.map V.ref)) = H5 at s5 hta tY5 ⊢
        refine ⟨_, rfl, _, rfl, p, a.C, dx, _, _, rfl, s5 _ _ h1, T.cl, T.nA _ (by decide), rfl, o, ar, ord, rd, rfl, ho.same s5, .inl (s5 _ _ h4), fun c hc => by rw [io.len]; exact L.rlt c hc, by have := L.rn; omega, fun H6 tb e6 nb htb => ?_⟩
        refine ⟨by show 2 ≤ sizeLine; decide, fun u nu => ?_⟩
        have s7 := (s5.trans e6).trans (al (o := .tup [.ref ta, .ref tb]) nu)
        have f7 := al (o := .tup [.ref ta, .ref tb]) nu
        exact q _ u s7 ((s5.trans e6).free nu) ⟨ta, tb, us', upd_same, f7 _ _ (e6 _ _ hta), (tY5.same e6).same f7, f7 _ _ htb⟩
end
end K7
end
/-! ## P17 -/
section
open PySem PySem.Spec PyProof.Rows L2
namespace K7
abbrev N_BadCells___init__ : List Str := ["self", "what"]
abbrev s_BadCells___init__ : Stmt := inClass (topS 5) 0
theorem sc_BadCells___init__ : FnScope ["self", "what"] ["self", "what"] (defScope s_BadCells___init__) := ⟨rfl, rfl, rfl, by decide +kernel, rfl, by decide +kernel, by decide +kernel⟩
abbrev N_check_order : List Str := ["many", "order"]
abbrev s_check_order : Stmt := topS 21
theorem sc_check_order : FnScope ["many", "order"] ["many", "order"] (defScope s_check_order) := ⟨rfl, rfl, rfl, by decide +kernel, rfl, by decide +kernel, by decide +kernel⟩
abbrev N_renumbered : List Str := ["land", "order", "neighbours", "roads"]
abbrev s_renumbered : Stmt := topS 25
theorem sc_renumbered : FnScope ["land", "order", "neighbours", "roads"] ["land", "order"] (defScope s_renumbered) := ⟨rfl, rfl, rfl, by decide +kernel, rfl, by decide +kernel, by decide +kernel⟩
def NoSeq (K : PySem.W.Frag) (H : Hp) (x : V) : Prop := ∃ t : String, (∀ H1, Same H H1 → TyX K H1 x (.type t)) ∧ PySem.W.kitAny K (.type t) [.type "list", .type "tuple"] = some false
theorem NoSeq.same {K : PySem.W.Frag} {H H' : Hp} {x : V} (h : NoSeq K H x) (e : Same H H') : NoSeq K H' x := by
  obtain ⟨t, ty, k⟩ := h
  exact ⟨t, fun H1 e1 => ty H1 (e.trans e1), k⟩
/-- what is no order -/
def BadOrd (K : PySem.W.Frag) (n : Nat) (H : Hp) (y : V) : Prop := NoSeq K H y ∨ ∃ b xs, y = .ref b ∧ SqOf H b xs ∧ (∀ z ∈ xs, Thing H z) ∧ xs.length < 64 ∧ cellsV (n : Nat) xs (n : Nat) = false
theorem BadOrd.same {K : PySem.W.Frag} {n : Nat} {H H' : Hp} {y : V} (h : BadOrd K n H y) (e : Same H H') : BadOrd K n H' y := by
  rcases h with h | ⟨b, xs, rfl, h1, h2, h3, h4⟩
  · exact .inl (h.same e)
  · exact .inr ⟨b, xs, rfl, h1.same e, fun z hz => (h2 z hz).same e, h3, h4⟩
theorem cells_ord {n : Nat} {o : List Nat} (io : IsOrd n o) (n2 : 0 < n) : cellsV (n : Nat) (ints_ o) (n : Nat) = true := by
  have z := cells_lot io.lt io.nd (by rw [io.len]; exact n2)
  have l : (ints_ o).length = n := by unfold ints_; rw [List.length_map, io.len]
  unfold cellsV at z ⊢
  rw [Bool.and_assoc, Bool.and_eq_true] at z
  rw [Bool.and_assoc, z.2, l, decide_eq_true (by omega)]
  rfl
section
variable {P : Program} {w : World} {K : PySem.W.Frag} {mg : Str → Option Value} {base : Heap} {a : AdL} {S iS : Addr}
structure Ts (K : PySem.W.Frag) (mg : Str → Option Value) (S iS : Addr) : Prop where
  g : mg "BadCells" = some (.ref S)
  ox : OexC K S
  iC : PySem.W.findIn K (.ref S) "__init__" = some (some (.ref iS))
  tI : PySem.W.typeIn K (.ref iS) = some (.type "function")
  no : PySem.W.findIn K (.ref S) "what" = some none
theorem ok_iS (T : Ts K mg S iS) {f : Addr} {fd : FuncData} (F : Fun K "__init__" "BadCells.__init__" s_BadCells___init__ f fd) : FnOk P w K mg base (L2.CX P w) 1 f fd ["self", "what"] (spX S "what") := by
  refine F.okX sc_BadCells___init__ (fun vs H Q E h => ?_) (fun cdv A outer s H vs Q E hr h => ?_)
  · obtain ⟨e, y, rfl, _⟩ := h
    rfl
  · obtain ⟨e, y, rfl, he, q⟩ := h
    refine ⟨_, (pss_one (ps_ost (pv 0) (pv 1))), ?_⟩
    exact ⟨y, rfl, .ref e, rfl, e, S, rfl, T.ox, T.no, .inl ⟨he, fun d hd hn => q d hd hn⟩⟩
/-- an order, or what is none and is told so -/
def OrdOr (K : PySem.W.Frag) (S : Addr) (n : Nat) (H : Hp) (y : V) (E : XK) (q : Addr → List Nat → Prop) : Prop :=
  (∃ o ord, y = .ref o ∧ SqOf H o (ints_ ord) ∧ IsOrd n ord ∧ q o ord) ∨ (BadOrd K n H y ∧ Flies H S "what" (.str "order") E)
def spCkO (K : PySem.W.Frag) (S : Addr) : Sp := fun vs H Q E => ∃ (n : Nat) (y : V), vs = [.int (n : Nat), y] ∧ 0 < n ∧ n ≤ 5 ∧ OrdOr K S n H y E fun _ _ => ∀ H', Same H H' → Q .non H'
theorem ok_cko (TS : Ts K mg S iS) {f fC : Addr} {fd fdC fdB : FuncData} (F : Fun K "check_order" "check_order" s_check_order f fd)
    (Gac : FnOk P w K mg base CX0 2 fC fdC ["many", "thing", "least"] (spCells K)) (gac : mg "are_cells" = some (.ref fC)) (kac : PySem.W.keepIn K (.ref fC) = true) (bac : Binds K fdC ["many", "thing", "least"] [])
    (FB0 : Fun K "__init__" "BadCells.__init__" s_BadCells___init__ iS fdB) (bB : Binds K fdB ["self", "what"] []) : FnOk P w K mg base (L2.CX P w) 3 f fd ["many", "order"] (spCkO K S) := by
  have FB : FnOk P w K mg base (L2.CX P w) 1 iS fdB ["self", "what"] (spX S "what") := ok_iS TS FB0
  refine F.okX sc_check_order (fun vs H Q E h => ?_) (fun cdv A outer s H vs Q E hr h => ?_)
  · obtain ⟨n, y, rfl, _⟩ := h
    rfl
  · obtain ⟨n, y, rfl, n2, n5, h⟩ := h
    have hrx : Room (1 + 1) _ := hr.mono (by decide)
    refine ⟨_, (pss_one (ps_if (pt_not (pt_val (pe_call Gac (hr.mono (by decide)) (by rfl) gac kac bac .nil pass0 (pa_cons (pv 0) (pa_cons (pv 1) (pa_cons (pv 0) pa_nil))))))
  (pss_one (ps_raise rfl (takes_of rfl rfl rfl rfl) (pmk_oex TS.ox TS.iC TS.tI FB hrx bB .nil passL (by rfl) TS.g (pa_cons pe_str pa_nil))))
  pss_nil)), ?_⟩
    rcases h with ⟨o, ord, rfl, ho, io, q⟩ | ⟨bo, fl⟩
    · refine ⟨_, rfl, _, rfl, _, rfl, (n : Nat), _, (n : Nat), rfl, .inr ⟨o, _, rfl, ho, fun y hy => ?_, by unfold ints_; rw [List.length_map, io.len]; omega, fun H2 e2 => ?_⟩⟩
      · obtain ⟨z, _, rfl⟩ := List.mem_map.mp hy
        exact .flat (.int _)
      · rw [cells_ord io n2]
        refine ⟨_, rfl, ?_⟩
        exact iteFo rfl (q _ e2)
    · rcases bo with ns | ⟨b, xs, rfl, hb, hth, h64, cv⟩
      · obtain ⟨t, ty, k⟩ := ns
        refine ⟨_, rfl, _, rfl, _, rfl, (n : Nat), _, (n : Nat), rfl, .inl ⟨t, ty, k, fun H2 e2 => ?_⟩⟩
        refine ⟨_, rfl, iteT ?_⟩
        exact ⟨by show 1 ≤ 1000; decide, flies_go (fl.later e2)⟩
      · refine ⟨_, rfl, _, rfl, _, rfl, (n : Nat), _, (n : Nat), rfl, .inr ⟨b, xs, rfl, hb, hth, h64, fun H2 e2 => ?_⟩⟩
        rw [cv]
        refine ⟨_, rfl, iteT ?_⟩
        exact ⟨by show 1 ≤ 1000; decide, flies_go (fl.later e2)⟩
def spRen (K : PySem.W.Frag) (a : AdL) (S : Addr) : Sp := fun vs H Q E => ∃ (p : Addr) (n : Nat) (es : List (Nat × Nat)) (rd : List Nat) (y : V), vs = [.ref p, y] ∧ LandO a.C H p n es rd ∧
  OrdOr K S n H y E fun _ ord => ∀ H' x, Same H H' → H x = none → LandO a.C H' x n (ledE ord es) (ledR ord rd) → Q (.ref x) H'
theorem ok_ren (T : Tl K mg a) {f fco flp fI : Addr} {fd fdco fdlp fdI : FuncData} (F : Fun K "renumbered" "renumbered" s_renumbered f fd)
    (Gco : FnOk P w K mg base (L2.CX P w) 3 fco fdco ["many", "order"] (spCkO K S)) (gco : mg "check_order" = some (.ref fco)) (kco : PySem.W.keepIn K (.ref fco) = true) (bco : Binds K fdco ["many", "order"] [])
    (Glp : FnOk P w K mg base CX0 2 flp fdlp ["land", "order"] (spParts a.C)) (glp : mg "_led_parts" = some (.ref flp)) (klp : PySem.W.keepIn K (.ref flp) = true) (blp : Binds K fdlp ["land", "order"] [])
    (MC : Mk K a.C fI) (GI : FnOk P w K mg base CX0 5 fI fdI ["self", "cells", "neighbours", "roads"] (spLandI a)) (bI : Binds K fdI ["self", "cells", "neighbours", "roads"] []) : FnOk P w K mg base (L2.CX P w) 7 f fd ["land", "order"] (spRen K a S) := by
  refine F.okX sc_renumbered (fun vs H Q E h => ?_) (fun cdv A outer s H vs Q E hr h => ?_)
  · obtain ⟨p, n, es, rd, y, rfl, _⟩ := h
    rfl
  · obtain ⟨p, n, es, rd, y, rfl, L, h⟩ := h
    refine ⟨_, (pss_cons (ps_expr (pe_call Gco (hr.mono (by decide)) (by rfl) gco kco bco .nil (passes_call (E := E) (takes_of rfl rfl rfl rfl) (fun _ _ _ _ h => h)) (pa_cons (pe_fld (pv 0) rfl) (pa_cons (pv 1) pa_nil))))
 (pss_cons (ps_asg (pe_call Glp (hr.mono (by decide)) (by rfl) glp klp blp .nil pass0 (pa_cons (pv 0) (pa_cons (pv 1) pa_nil))) (pg_tup rfl (pgs_cons (pg_name (i := 2) sc_renumbered.nd rfl (by first | exact Or.inl rfl | exact Or.inr rfl)) (pgs_cons (pg_name (i := 3) sc_renumbered.nd rfl (by first | exact Or.inl rfl | exact Or.inr rfl)) pgs_nil))))
 (pss_one (ps_ret (pe_make MC GI (hr.mono (by decide)) (by rfl) T.gC bI .nil pass0 (pa_cons (pe_fld (pv 0) rfl) (pa_cons (pv 2) (pa_cons (pv 3) pa_nil)))))))), ?_⟩
    obtain ⟨dx, an, ar, ay, ac, tn, ty, tc, h1, h2, h3, h4, h5, h6, h7, h8⟩ := L.at_
    have n5 := L.n5
    have n2 := L.n2
    refine ⟨_, rfl, p, a.C, dx, _, _, rfl, h1, T.cl, T.nA _ (by decide), rfl, _, rfl, n, y, rfl, by omega, n5, ?_⟩
    rcases h with ⟨o, ord, rfl, ho, io, q⟩ | ⟨bo, fl⟩
    · refine .inl ⟨o, ord, rfl, ho, io, fun H1 e1 => ?_⟩
      refine ⟨_, rfl, _, rfl, p, o, n, es, rd, ord, rfl, L.same e1, ho.same e1, io, fun H2 u e2 nu pa => ?_⟩
      obtain ⟨ta, tb, us, hu, hta, tU, htb⟩ := pa
      have L2' := (L.same e1).same e2
      obtain ⟨dx', an', ar', ay', ac', tn', ty', tc', g1, _⟩ := L2'.at_
      have x32 := es_len L.ok n5
      obtain ⟨cs, em⟩ := led_cos io n5 L.ok x32
      have po := led_ok (x := (es, rd)) io (by omega) n5 x32 ⟨L.ok, L.rlt, L.rnd, L.rso, L.r0, L.rn⟩
      refine ⟨u, _, rfl, .inl (.inl hu), rfl, ?_⟩
      refine ⟨_, _, rfl, _, _, rfl, rfl, _, rfl, p, a.C, dx', _, _, rfl, g1, T.cl, T.nA _ (by decide), rfl, _, rfl, _, rfl, ?_⟩
      refine new_land L.n2 n5 (.inl hta) (co_lit tU) cs po.ok.conn (.inl htb) po.rlt po.rnd po.r0 po.rn fun H' x es' rd' e nx Lo pe pr => ?_
      rw [show (led ord (es, rd)).1.map KL.srt = ledE ord es from em] at pe
      obtain rfl := es_is Lo.ok pe (ledE_sorted _ _)
      obtain rfl := rd_is Lo.rso pr (ledR_sorted _ _)
      exact q H' x ((e1.trans e2).trans e) ((e1.trans e2).free nx) Lo
    · exact .inr ⟨bo, fl⟩
end
end K7
end
/-! ## EGF -/
section
/-! if and for in a generator's body. -/
namespace K7Y
open PySem PySem.Spec PyProof.Rows L2 GenW
section
variable {prog : Program} {w : World} {A : Around} {R : GenEnd} {Y : Protocol} {n : Nat} {s₀ : Shared} {fs : List Frame} {s : Shared} {env : Env}
/-- an exception leaves the loop's code -/
def exS (env : Env) (x : Value) : Sem PySem.Fin := (do noteFrame x env; theTreesLotGoes x : Sem Unit).wrap (fun _ => .raise x) .raise id id
def flowS (c : Code) : Flow → Sem PySem.Fin := fun f => match f with
  | .next | .cont => .pure (.again c)
  | .brk => .pure (.done .next)
  | .ret v => .pure (.done (.ret v))
theorem seg_forTurnG {tg : Expr} {it : Value} {body : List Stmt}
    (h : wpAny (model prog w) (A.over (.forLoop tg it body [] env) fs) (pyNext it) (fun r s₁ => match r with
      | none => Seg (model prog w) A R Y n s₀ (.block [] env) (.pure (.done .next)) fs s₁
      | some v => wpAny (model prog w) (A.over (.forLoop tg it body [] env) fs) (letOwnedTupleGo tg it v) (fun _ s₂ =>
          wpAny (model prog w) (A.over (.forLoop tg it body [] env) fs) (assign tg env v) (fun _ s₃ => Seg (model prog w) A R Y n s₀ (.forLoop tg it body [] env) ((execs body env).wrap (flowS (.forLoop tg it body [] env)) (exS env) id id) fs s₃)
            (fun x s' => Seg (model prog w) A R Y n s₀ (.forLoop tg it body [] env) (exS env x) fs s') s₂) (fun x s' => Seg (model prog w) A R Y n s₀ (.forLoop tg it body [] env) (exS env x) fs s') s₁)
      (fun x s' => Seg (model prog w) A R Y n s₀ (.forLoop tg it body [] env) (exS env x) fs s') s) :
    Seg (model prog w) A R Y n s₀ (.forLoop tg it body [] env) ((model prog w).den (.forLoop tg it body [] env)) fs s := by
  show Seg _ A R Y n s₀ _ ((forTurn tg it body [] env).onRaise (fun x => do noteFrame x env; theTreesLotGoes x)) fs s
  unfold forTurn
  rw [Sem.onRaise_eq_wrap]
  have ex : ∀ x s', Seg (model prog w) A R Y n s₀ (.forLoop tg it body [] env) (exS env x) fs s' → Seg (model prog w) A R Y n s₀ (.forLoop tg it body [] env) (((do noteFrame x env; theTreesLotGoes x : Sem Unit)).bind fun _ => .raise x) fs s' := fun x s' hx => by
    rw [Sem.bind_eq_wrap]
    exact hx
  refine seg_bind_wrap (wpAny_standAt ?_)
  refine seg_bind_wrap (wpAny_onRaise (wpAny_mono h (fun r s₁ h₁ => ?_) fun x s' hx => wpAny_standAt (ex x s' hx)))
  cases r with
  | none =>
    refine seg_again rfl ?_
    exact h₁
  | some v =>
    refine seg_bind_wrap (wpAny_mono h₁ (fun _ s₂ h₂ => ?_) fun x s' hx => ex x s' hx)
    refine seg_bind_wrap (wpAny_mono h₂ (fun _ s₃ h₃ => ?_) fun x s' hx => ex x s' hx)
    rw [Sem.bind_eq_wrap', Sem.wrap_wrap]
    rw [Sem.wrap_congr (execs body env) _ _ (K' := flowS (.forLoop tg it body [] env)) (H' := exS env) (fun f => by cases f <;> rfl)
      (fun e => by first | exact Sem.bind_eq_wrap _ _ | (show (do noteFrame e env; theTreesLotGoes e : Sem Unit).bind (fun _ => .raise e) = _; rw [Sem.bind_eq_wrap]; rfl))]
    exact h₃
end
section
variable {X : Cx}
/-! ### if -/
def tGIf (c : TT) (t u : TGn) : TGn := fun D ys σ H => c σ H fun d H1 => if d = true then t D ys σ H1 else u D ys σ H1
theorem gs_if {c : Expr} {a b : List Stmt} {pos : Pos} {tc : TT} {t u : TGn} (hc : PT X c tc) (ha : GSs X a t) (hb : GSs X b u) : GS X (.If c a b pos) (tGIf tc t u) := by
  refine ⟨fun A S ip R n ys s₀ cd fs K J gd lv s σ H D g hn k hI ht => ?_⟩
  rw [exec_If]
  obtain ⟨acc, cc, r, I⟩ := hI
  refine seg_bind_wrap (wpAny_standAt ?_)
  refine seg_bind_wrap ?_
  rw [g.over]
  refine wpAny_mono (hc.run _ s σ H _ I ht) (fun d s1 hd => ?_) fun x s' hx => k.exc n s₀ x s' hx
  obtain ⟨H1, I1, q1⟩ := hd
  cases d with
  | true => exact ha.run A S ip R n ys s₀ cd fs K J gd lv s1 σ H1 D g hn k ⟨acc, cc, r, I1⟩ q1
  | false => exact hb.run A S ip R n ys s₀ cd fs K J gd lv s1 σ H1 D g hn k ⟨acc, cc, r, I1⟩ q1
/-! ### for -/
def tGFor (wi : TI) (g : TG) (tb : TGn) : TGn := fun D ys σ H => wi σ H fun J H1 => ∃ W : Nat → Nat → List V → L2.St → Hp → Prop, (∃ m, W 0 m ys σ H1) ∧ ∀ i m ys σ H, W i m ys σ H →
  (J.stop i H ∧ D.nx ys σ H) ∨ (J.go i H ∧ ∃ N : List V → L2.St → Hp → Prop, (∀ ys' σ' H', N ys' σ' H' → ∃ m', m' < m ∧ W (i + 1) m' ys' σ' H') ∧ ∀ x H', J.yld i H x H' → g x σ H' fun σ2 H2 => tb { D with nx := N, ct := N, bk := D.nx } ys σ2 H2)
theorem GSP.unpinned {S : Addr} {ip pl : List (Addr × Obj)} {σ : L2.St} {H : Hp} {ys : List V} {s : Shared} (h : GI X S (ip ++ pl) ys σ H s) : GI X S ip ys σ H s := by
  obtain ⟨acc, c, r, I⟩ := h
  refine ⟨acc, c, r, ?_⟩
  exact Inv.unpinned (pins := (S, lstObj acc c) :: ip) (pl := pl) I
theorem gs_for {tg iter : Expr} {body : List Stmt} {pos : Pos} {wi : TI} {g : TG} {tb : TGn} (hp : PassesOwn (model X.prog X.w) X.A X.env X.xe) (hc : X.calm = true) (hi : PI X tg iter wi) (hg : PG X tg g) (hb : GSs X body tb)
    (hs : ∀ x, foldedSetIterable iter X.env x = pure x := by intro _; rfl) : GS X (.For tg iter body [] pos) (tGFor wi g tb) := by
  refine ⟨fun A S ip R n ys s₀ c fs K J gd lv s σ H D g0 hn k hI ht => ?_⟩
  obtain ⟨acc0, cc0, r0, I0⟩ := hI
  rw [exec_For]
  refine seg_bind_wrap (wpAny_standAt ?_)
  refine seg_bind_wrap ?_
  rw [g0.over]
  refine wpAny_mono (hi.run _ s σ H _ I0 ht) (fun v s1 h1 => ?_) fun x s' hx => k.exc n s₀ x s' hx
  refine seg_bind_wrap (wpAny_of_eq (hs v) ?_)
  refine seg_bind_wrap (wpAny_standAt ?_)
  refine seg_bind_wrap (wpAny_holding ?_)
  rw [g0.over]
  refine wpAny_mono h1 (fun itv s2 h2 => ?_) fun x s' hx => k.exc n s₀ x s' hx
  obtain ⟨it, fp, tn, It, H2, rfl, I2, Tn, st2, f2, W, ⟨m0, w0⟩, turn⟩ := h2
  refine seg_call fun p => ?_
  have gl := fun (kk : Result → Sem PySem.Fin) => gc_loop (k := kk) (c' := .forLoop tg (.ref it) body [] X.env) (l := lv []) (kp := []) (p := p) g0 rfl rfl
  have fS : ∀ b ∈ fp, b ≠ S := fun b hb => by
    obtain ⟨_, _, _, _, _, f5⟩ := f2 b hb
    exact Ne.symm (f5 (S, lstObj acc0 cc0) (List.mem_append_right _ List.mem_cons_self))
  have stat : ∀ {acc : Array Value} {cc : Nat} {H' : Hp}, (∀ b ∈ fp, H' b = none) → ∀ b ∈ fp, FpOk X ((S, lstObj acc cc) :: ip) H' b := fun hnn b hb => by
    obtain ⟨_, f1, f2', f3, f4, f5⟩ := f2 b hb
    refine ⟨hnn b hb, f1, f2', f3, f4, fun q hq => ?_⟩
    rcases List.mem_append.mp hq with z | z
    · exact f5 q (List.mem_append_left _ z)
    · rcases List.mem_cons.mp z with z | z
      · rw [z]; exact Ne.symm (fS b hb)
      · exact f5 q (List.mem_append_right _ (List.mem_cons_of_mem _ z))
  have loop : ∀ (m i n : Nat) (ys : List V) (s₀ s : Shared) (σ : L2.St) (H : Hp), n + ys.length = sizeLine → W i m ys σ H → GI X S ip ys σ H s → tn i s.heap → (∀ b ∈ fp, H b = none) →
      Seg (model X.prog X.w) A R (GY X S) n s₀ (.forLoop tg (.ref it) body [] X.env) ((model X.prog X.w).den (.forLoop tg (.ref it) body [] X.env))
        (.ret (fun r => ((match r with | .ok f => (.pure f : Sem Flow) | .error e => .raise e).onRaise (cameBack X.env)).wrap K J gd lv) none (gd false) (lv []) c p [] :: fs) s := by
    intro m
    induction m using Nat.strongRecOn with
    | ind m ih =>
      intro i n ys s₀ s σ H hn w hI st hf
      have ee : ∀ (n : Nat) (s₀ : Shared) (x : Value) (s' : Shared), X.xe x s' → Seg (model X.prog X.w) A R (GY X S) n s₀ (.forLoop tg (.ref it) body [] X.env) (exS X.env x)
          (.ret (fun r => ((match r with | .ok f => (.pure f : Sem Flow) | .error e => .raise e).onRaise (cameBack X.env)).wrap K J gd lv) none (gd false) (lv []) c p [] :: fs) s' := fun n s₀ x s' hx => by
        refine seg_wrap ?_
        rw [(gl _).over]
        refine wpAny_bind (wpAny_mono (hp x s' hx) (fun _ s'' hcb => wpAny_theTreesLotGoes ?_) fun y s'' hcb => ?_)
        · exact seg_leaf (.error x) (seg_cameBack g0 k hcb)
        · exact seg_leaf (.error y) (seg_cameBack g0 k hcb)
      refine seg_forTurnG ?_
      rw [(gl _).over]
      obtain ⟨acc, cc, r, I⟩ := hI
      rcases turn i m ys σ H w with ⟨stop, qn⟩ | ⟨go, N, hN, step⟩
      · refine wpAny_mono (Tn.done X rfl rfl rfl hc i _ s σ H X.xe I (stat hf) st stop) (fun r1 s1 hr => ?_) fun x s' hx => ee n s₀ x s' hx
        obtain ⟨rfl, I1⟩ := hr
        exact seg_leaf (.ok .next) (k.ok n ys s₀ s1 .next hn ⟨σ, H, ⟨acc, cc, r, I1⟩, qn⟩)
      · refine wpAny_mono (Tn.item X rfl rfl rfl hc i _ s σ H X.xe I (stat hf) st go) (fun r1 s1 hr => ?_) fun x s' hx => ee n s₀ x s' hx
        obtain ⟨u, rfl, h1⟩ := hr
        refine wpAny_mono h1 (fun _ s2 h2 => ?_) fun x s' hx => ee n s₀ x s' hx
        obtain ⟨x, H2, I2, r2, y2, st2, f2'⟩ := h2
        have I3 := I2.pinned (stat f2') (Tn.obj _ _ st2)
        refine wpAny_mono (hg.run _ s2 σ H2 x u _ I3 r2 (step x H2 y2)) (fun _ s3 h3 => ?_) fun x s' hx => ee n s₀ x s' hx
        obtain ⟨σ3, H3, I4, q3⟩ := h3
        have gp : GC X S (ip ++ pinsAt fp s2.heap) A (.forLoop tg (.ref it) body [] X.env) (.ret (fun r => ((match r with | .ok f => (.pure f : Sem Flow) | .error e => .raise e).onRaise (cameBack X.env)).wrap K J gd lv) none (gd false) (lv []) c p [] :: fs) id :=
          { gl _ with ip := fun q hq => (List.mem_append.mp hq).elim (fun z => g0.ip q z) fun z => fS _ (of_pinsAt z).1 }
        have again : ∀ {n' : Nat} {ys' : List V} {s₀' s4 : Shared} {σ4 : L2.St} {H4 : Hp}, n' + ys'.length = sizeLine → GI X S (ip ++ pinsAt fp s2.heap) ys' σ4 H4 s4 → N ys' σ4 H4 →
            Seg (model X.prog X.w) A R (GY X S) n' s₀' (.forLoop tg (.ref it) body [] X.env) (.pure (.again (.forLoop tg (.ref it) body [] X.env)))
              (.ret (fun r => ((match r with | .ok f => (.pure f : Sem Flow) | .error e => .raise e).onRaise (cameBack X.env)).wrap K J gd lv) none (gd false) (lv []) c p [] :: fs) s4 := fun {n' ys' s₀' s4 σ4 H4} hn' hG n4 => by
          obtain ⟨m', hm, w4⟩ := hN ys' σ4 H4 n4
          obtain ⟨acc4, c4, r4, I4'⟩ := hG
          have pin : ∀ b ∈ fp, ∀ o, s2.heap.get? b = some o → s4.heap.get? b = some o ∧ H4 b = none := fun b hb o eo =>
            let z := I4'.pin (b, o) (List.mem_append_right _ (List.mem_cons_of_mem _ (List.mem_append_right _ (mem_pinsAt hb eo))))
            ⟨z.1, z.2.1⟩
          refine seg_again rfl (ih m' hm (i + 1) n' ys' s₀' s4 σ4 H4 hn' w4 (GSP.unpinned ⟨acc4, c4, r4, I4'⟩) (Tn.keep _ _ _ st2 fun b hb o eo => (pin b hb o eo).1) fun b hb => ?_)
          obtain ⟨o, eo, _⟩ := Tn.obj _ _ st2 b hb
          exact (pin b hb o eo).2
        refine hb.run A S (ip ++ pinsAt fp s2.heap) R n ys s₀ _ _ (flowS (.forLoop tg (.ref it) body [] X.env)) (exS X.env) id id s3 σ3 H3 { D with nx := N, ct := N, bk := D.nx } gp hn ⟨fun n' ys' s₀' s4 f hn' hs4 => ?_, fun n' s₀' x s4 hx => ee n' s₀' x s4 hx⟩ ⟨acc, cc, r, I4⟩ q3
        cases f with
        | next => obtain ⟨σ4, H4, G4, n4⟩ := hs4; exact again hn' G4 n4
        | cont => obtain ⟨σ4, H4, G4, n4⟩ := hs4; exact again hn' G4 n4
        | brk =>
          obtain ⟨σ4, H4, G4, q4⟩ := hs4
          exact seg_leaf (.ok .next) (k.ok n' ys' s₀' s4 .next hn' ⟨σ4, H4, GSP.unpinned G4, q4⟩)
        | ret v =>
          obtain ⟨x4, σ4, H4, G4, r4, q4⟩ := hs4
          exact seg_leaf (.ok (.ret v)) (k.ok n' ys' s₀' s4 (.ret v) hn' ⟨x4, σ4, H4, GSP.unpinned G4, r4, q4⟩)
  exact loop m0 0 n ys s₀ s2 σ H2 hn w0 ⟨acc0, cc0, r0, I2⟩ st2 fun b hb => (f2 b hb).1
end
theorem gfor_tup {K : PySem.W.Frag} {a : Addr} {xs : List V} {g : TG} {tb : TGn} {D : GEnds} {ys : List V} {σ : L2.St} {H : Hp} (Pv : Nat → List V → L2.St → Hp → Prop) (h0 : Pv 0 ys σ H) (hl : ∀ i ys σ H, i ≤ xs.length → Pv i ys σ H → SqT K H a xs)
    (hs : ∀ i x ys σ H, xs[i]? = some x → Pv i ys σ H → g x σ H fun σ2 H2 => tb { D with nx := Pv (i + 1), ct := Pv (i + 1), bk := D.nx } ys σ2 H2) (hd : ∀ ys σ H, Pv xs.length ys σ H → D.nx ys σ H) :
    ∃ W : Nat → Nat → List V → L2.St → Hp → Prop, (∃ m, W 0 m ys σ H) ∧ ∀ i m ys σ H, W i m ys σ H →
      ((Itt K a).stop i H ∧ D.nx ys σ H) ∨ ((Itt K a).go i H ∧ ∃ N : List V → L2.St → Hp → Prop, (∀ ys' σ' H', N ys' σ' H' → ∃ m', m' < m ∧ W (i + 1) m' ys' σ' H') ∧ ∀ x H', (Itt K a).yld i H x H' → g x σ H' fun σ2 H2 => tb { D with nx := N, ct := N, bk := D.nx } ys σ2 H2) := by
  refine ⟨fun i m ys σ H => m = xs.length - i ∧ i ≤ xs.length ∧ Pv i ys σ H, ⟨xs.length, by simp, Nat.zero_le _, h0⟩, ?_⟩
  rintro i m ys σ H ⟨rfl, hi, p⟩
  have q := hl i ys σ H hi p
  by_cases hlt : i < xs.length
  · refine .inr ⟨⟨xs, xs[i], q, by simp [hlt]⟩, Pv (i + 1), fun ys' σ' H' p' => ⟨xs.length - (i + 1), by omega, rfl, hlt, p'⟩, fun x H' y => ?_⟩
    obtain ⟨e, y⟩ := y
    subst e
    exact hs i x ys σ _ (y xs q) p
  · have e : i = xs.length := by omega
    subst e
    exact .inl ⟨⟨xs, q, Nat.le_refl _⟩, hd ys σ H p⟩
end K7Y
end
/-! ## P18 -/
section
open PySem PySem.Spec PyProof.Rows L2
namespace K7
abbrev N_likenesses : List Str := ["one", "other", "order"]
abbrev s_likenesses : Stmt := topS 26
theorem sc_likenesses : GScope ["one", "other", "order"] ["one", "other"] (defScope s_likenesses) := ⟨rfl, rfl, rfl, by decide +kernel, rfl, by decide +kernel, by decide +kernel⟩
abbrev N_least_form : List Str := ["land", "neighbours", "roads", "order"]
abbrev s_least_form : Stmt := topS 27
theorem sc_least_form : FnScope ["land", "neighbours", "roads", "order"] ["land"] (defScope s_least_form) := ⟨rfl, rfl, rfl, by decide +kernel, rfl, by decide +kernel, by decide +kernel⟩
section
variable {P : Program} {w : World} {K : PySem.W.Frag} {mg : Str → Option Value} {base : Heap}
/-- a generator def by its body -/
theorem okGen {x qual : Str} {st : Stmt} {f : Addr} {fd : FuncData} {N ps : List Str} {k : Nat} {sp : SpG} (F : Fun K x qual st f fd) (S : GScope N ps (defScope st)) (len : ∀ vs H Q E, sp vs H Q E → vs.length = ps.length)
    (hbody : ∀ (cdv : Value) (A : Around) (outer : List Env) (s : Shared) (H : Hp) (vs : List V) (Q : List V → Hp → Prop) (E : XK) (pn : List (Addr × Obj)), Room k (A.deeper (envOfC qual (defScope st) s.heap.objs.size f cdv)) → sp vs H Q E →
      ∃ t, GSs (gcxOf P w K mg base N qual (defScope st) f cdv A outer s H E pn) (defBody st) t ∧ t { nx := fun ys _ H' => Q ys H', rt := fun ys v H' => v = .non ∧ Q ys H' } [] (start N vs) H) : GFn P w K mg base (k + 1) f fd ps sp := by
  obtain ⟨oc, od, kV, doc, pm, an, cdv, ct, osl, rfl, lk, hcd⟩ := F.ex
  exact gfn_of lk hcd S len fun A outer s H vs Q E pn hr h => hbody cdv A outer s H vs Q E pn hr h
end
section
variable {P : Program} {w : World} {K : PySem.W.Frag} {mg : Str → Option Value} {base : Heap} {a : AdL} {S fE : Addr}
/-- the orders that lead the one to the other -/
def likeO (n m : Nat) (x y : Part) : List (List Nat) := (ords n).filter fun o => decide (n = m ∧ ledE o x.1 = y.1 ∧ ledR o x.2 = y.2)
def spLike (a : AdL) : SpG := fun vs H Q _ => ∃ (p q : Addr) (n m : Nat) (es fs : List (Nat × Nat)) (rd sd : List Nat), vs = [.ref p, .ref q] ∧ LandO a.C H p n es rd ∧ LandO a.C H q m fs sd ∧
  ∀ H' ts, Same H H' → TAt H' ts (likeO n m (es, rd) (fs, sd)) → Q (ts.map V.ref) H'
theorem ok_like (T2 : Tk K a.C fE) {f fao frn : Addr} {fd fdao fdrn fdE : FuncData} (F : Fun K "likenesses" "likenesses" s_likenesses f fd)
    (Gao : FnOk P w K mg base CX0 1 fao fdao ["many"] spAllO) (gao : mg "all_orders" = some (.ref fao)) (kao : PySem.W.keepIn K (.ref fao) = true) (bao : Binds K fdao ["many"] [])
    (Grn : FnOk P w K mg base (L2.CX P w) 7 frn fdrn ["land", "order"] (spRen K a S)) (grn : mg "renumbered" = some (.ref frn)) (krn : PySem.W.keepIn K (.ref frn) = true) (brn : Binds K fdrn ["land", "order"] [])
    (T : Tl K mg a) (Geq : FnOk P w K mg base CX0 1 fE fdE ["self", "other"] (spEqL a.C)) (beq : Binds K fdE ["self", "other"] []) : GFn P w K mg base 9 f fd ["one", "other"] (spLike a) := by
  refine okGen F sc_likenesses (fun vs H Q E h => ?_) (fun cdv A outer s H vs Q E pn hr h => ?_)
  · obtain ⟨p, q, n, m, es, fs, rd, sd, rfl, _⟩ := h
    rfl
  · obtain ⟨p, q, n, m, es, fs, rd, sd, rfl, L, M, k⟩ := h
    refine ⟨_, (gss_cons (K7Y.gs_for owns_gcx rfl (pi_tup (pe_call Gao (hr.mono (by decide)) (by rfl) gao kao bao .nil pass0 (pa_cons (pe_fld (pv 0) rfl) pa_nil))) (pg_name (i := 2) sc_likenesses.nd rfl (by first | exact Or.inl rfl | exact Or.inr rfl)) (gss_cons (K7Y.gs_if (pt_cmpR (K7E.op_eqOwn Geq T2.eq T2.eqF beq (hr.mono (by decide)) pass0) (pe_call Grn (hr.mono (by decide)) (by rfl) grn krn brn .nil (passes_call (E := E) takes_gcx (fun _ _ _ _ h => h)) (pa_cons (pv 0) (pa_cons (pv 2) pa_nil))) (pv 1) (nomark _)) (gss_cons (gs_yield (pv 2)) gss_nil) gss_nil) gss_nil)) gss_nil), ?_⟩
    obtain ⟨dx, an, ar, ay, ac, tn, ty, tc, h1, _⟩ := L.at_
    have n5 := L.n5
    refine ⟨_, rfl, p, a.C, dx, _, _, rfl, h1, T.cl, T.nA _ (by decide), rfl, n, rfl, n5, fun H1 u ts e1 nu hu tO => ?_⟩
    have tl : ts.length = (ords n).length := tO.len
    have l120 : (ords n).length ≤ 120 := itO_len ⟨n, by omega⟩ ⟨n, by omega⟩ (Nat.le_refl _)
    refine ⟨u, rfl, ⟨_, .inl (.inl hu)⟩, K7Y.gfor_tup (xs := ts.map V.ref) (fun i ys σ H2 => ∃ us y2, ys = us.map V.ref ∧ σ = [some (.ref p), some (.ref q), y2] ∧ Same H1 H2 ∧ TAt H2 us (((ords n).take i).filter fun o => decide (n = m ∧ ledE o es = fs ∧ ledR o rd = sd)) ∧ us.length ≤ i) ⟨[], none, rfl, rfl, Same.refl H1, .nil, Nat.le_refl _⟩ (fun i ys σ H2 _ pv => ?_) (fun i x ys σ H2 hx pv => ?_) (fun ys σ H2 pv => ?_)⟩
    · obtain ⟨us, y2, rfl, rfl, e2, tU, lu⟩ := pv
      exact .inl (.inl (e2 _ _ hu))
    · obtain ⟨us, y2, rfl, rfl, e2, tU, lu⟩ := pv
      have hi := (List.getElem?_eq_some_iff.mp hx).1
      rw [List.length_map] at hi
      rw [List.getElem?_map] at hx
      obtain ⟨ti, hti, rfl⟩ := Option.map_eq_some_iff.mp hx
      obtain ⟨o, eo, ho⟩ := tO.get hti
      have io := mem_ords.mp (List.mem_of_getElem? eo)
      have ft : ((ords n).take (i + 1)).filter (fun o => decide (n = m ∧ ledE o es = fs ∧ ledR o rd = sd)) = ((ords n).take i).filter (fun o => decide (n = m ∧ ledE o es = fs ∧ ledR o rd = sd)) ++ (if decide (n = m ∧ ledE o es = fs ∧ ledR o rd = sd) = true then [o] else []) := by
        rw [List.take_add_one, eo, List.filter_append]
        show _ ++ ([o].filter _) = _
        rw [List.filter_cons]
        rfl
      have e12 := e1.trans e2
      refine ⟨_, rfl, _, rfl, p, n, es, rd, .ref ti, rfl, L.same e12, .inl ⟨ti, o, rfl, .inl (e2 _ _ ho), io, fun H3 x e3 nx Lx => ?_⟩⟩
      have e13 := e12.trans e3
      obtain ⟨dy, bn, br, by', bc, un, uy, uc, g1, _⟩ := (M.same e13).at_
      obtain ⟨dz, cn, cr, cy, cc, wn, wy, wc, f1, _⟩ := Lx.at_
      refine ⟨_, rfl, x, dz, _, q, .ref a.C, rfl, rfl, f1, .base (.ins g1 T.cl T2.ha T2.hn T2.ht T2.hm), nfC K a.C, x, q, n, _, _, m, fs, sd, rfl, Lx, M.same e13, ?_⟩
      refine ⟨_, rfl, ?_⟩
      by_cases hc : decide (n = m ∧ ledE o es = fs ∧ ledR o rd = sd) = true
      · rw [if_pos hc] at ft
        rw [hc]
        refine iteT ⟨by rw [List.length_map]; exact small1000 (by omega), .ref ti, rfl, us ++ [ti], _, by rw [List.map_append]; rfl, rfl, e2.trans e3, ?_, by rw [List.length_append, List.length_singleton]; omega⟩
        rw [ft]
        exact (tU.same e3).append (.cons (e3 _ _ (e2 _ _ ho)) .nil)
      · rw [if_neg hc, List.append_nil] at ft
        rw [Bool.eq_false_iff.mpr hc]
        refine iteF ⟨us, _, rfl, rfl, e2.trans e3, ?_, by omega⟩
        rw [ft]
        exact tU.same e3
    · obtain ⟨us, y2, rfl, rfl, e2, tU, lu⟩ := pv
      rw [List.length_map, tl, List.take_length] at tU
      exact k H2 us (e1.trans e2) tU
/-! the least form -/
inductive PAt (H : Hp) : List Addr → List Part → Prop
  | nil : PAt H [] []
  | cons {u : Addr} {x : Part} {us : List Addr} {xs : List Part} : PartAt H u x → PAt H us xs → PAt H (u :: us) (x :: xs)
theorem PartAt.mono {H H' : Hp} {u : Addr} {x : Part} (h : PartAt H u x) (i : ∀ b xs, H b = some (.tup xs) → H' b = some (.tup xs)) : PartAt H' u x := by
  obtain ⟨ta, tb, us, h1, h2, h3, h4⟩ := h
  exact ⟨ta, tb, us, i _ _ h1, i _ _ h2, h3.mono i, i _ _ h4⟩
theorem PAt.mono {H H' : Hp} {us : List Addr} {xs : List Part} (h : PAt H us xs) (i : ∀ b xs, H b = some (.tup xs) → H' b = some (.tup xs)) : PAt H' us xs := by
  induction h with
  | nil => exact .nil
  | cons h _ ih => exact .cons (h.mono i) ih
theorem PAt.same {H H' : Hp} {us : List Addr} {xs : List Part} (h : PAt H us xs) (e : Same H H') : PAt H' us xs := h.mono fun b _ hb => e _ _ hb
theorem PAt.append {H : Hp} {us vs : List Addr} {xs ys : List Part} (h : PAt H us xs) (h' : PAt H vs ys) : PAt H (us ++ vs) (xs ++ ys) := by
  induction h with
  | nil => exact h'
  | cons h _ ih => exact .cons h ih
theorem PAt.len {H : Hp} {us : List Addr} {xs : List Part} (h : PAt H us xs) : us.length = xs.length := by
  induction h with
  | nil => rfl
  | cons _ _ ih => rw [List.length_cons, List.length_cons, ih]
theorem PAt.get {H : Hp} {us : List Addr} {xs : List Part} (h : PAt H us xs) : ∀ {i : Nat} {u : Addr}, us[i]? = some u → ∃ x, xs[i]? = some x ∧ PartAt H u x := by
  induction h with
  | nil => exact fun h => nomatch h
  | cons h _ ih =>
    intro i u hu
    cases i with
    | zero =>
      obtain rfl := Option.some.inj hu
      exact ⟨_, rfl, h⟩
    | succ i => exact ih (i := i) hu
theorem dp_part {H : Hp} {u : Addr} {x : Part} (h : PartAt H u x) : Dp K H (.ref u) (partD x) := by
  obtain ⟨ta, tb, us, h1, h2, h3, h4⟩ := h
  exact .tup (.inl (.inl h1)) (.cons (.tup (.inl (.inl h2)) (dp_rows h3)) (.cons (.tup (.inl (.inl h4)) (dp_ints x.2)) .nil))
theorem dp_parts {H : Hp} : ∀ {us : List Addr} {xs : List Part}, PAt H us xs → DpAll K H (us.map V.ref) (xs.map partD)
  | [], [], _ => .nil
  | _ :: _, _ :: _, .cons h t => .cons (dp_part h) (dp_parts t)
/-- what min tells of all that a land can be led to -/
theorem min_parts {H : Hp} {n : Nat} {x : Part} {us : List Addr} (hp : PAt H us (leds n x)) : ∃ d ds, DpAll K H (us.map V.ref) (d :: ds) ∧ PySem.W.AlikeAll (d :: ds) ∧ PyData.canLayAll0 (d :: ds) = true ∧ PyData.depthAll (d :: ds) ≤ 64 ∧
    ∀ (i : Nat) (y : V), (us.map V.ref)[i]? = some y → (d :: ds)[i]? = some (PySem.W.minD d ds) → ∃ u, y = .ref u ∧ PartAt H u (leastP n x) := by
  have z : ∀ l, leds n x = l → ∃ v ws, l = v :: ws := fun l e => by
    cases l with
    | nil => exact absurd e (leds_ne n x)
    | cons v ws => exact ⟨v, ws, rfl⟩
  obtain ⟨v, ws, e⟩ := z _ rfl
  have el : leastP n x = minPart v ws := by unfold leastP; rw [e]
  rw [e] at hp
  obtain ⟨l1, l2⟩ := lay_parts (v :: ws)
  refine ⟨partD v, ws.map partD, dp_parts hp, alike_parts (v :: ws), l1, l2, fun i y h1 h2 => ?_⟩
  rw [List.getElem?_map] at h1
  obtain ⟨u, hu, rfl⟩ := Option.map_eq_some_iff.mp h1
  obtain ⟨y, hy, hat⟩ := hp.get hu
  rw [minD_part] at h2
  have h3 : ((v :: ws).map partD)[i]? = some (partD (minPart v ws)) := h2
  rw [List.getElem?_map, hy] at h3
  refine ⟨u, rfl, ?_⟩
  rw [el, ← partD_inj (Option.some.inj h3)]
  exact hat
def spLeastF (C : Addr) : Sp := fun vs H Q _ => ∃ (p : Addr) (n : Nat) (es : List (Nat × Nat)) (rd : List Nat), vs = [.ref p] ∧ LandO C H p n es rd ∧
  ∀ H' x, Same H H' → H x = none → LandO C H' x n (leastP n (es, rd)).1 (leastP n (es, rd)).2 → Q (.ref x) H'
theorem ok_leastf (T : Tl K mg a) {f fao flp fI : Addr} {fd fdao fdlp fdI : FuncData} (F : Fun K "least_form" "least_form" s_least_form f fd)
    (Gao : FnOk P w K mg base CX0 1 fao fdao ["many"] spAllO) (gao : mg "all_orders" = some (.ref fao)) (kao : PySem.W.keepIn K (.ref fao) = true) (bao : Binds K fdao ["many"] [])
    (Glp : FnOk P w K mg base CX0 2 flp fdlp ["land", "order"] (spParts a.C)) (glp : mg "_led_parts" = some (.ref flp)) (klp : PySem.W.keepIn K (.ref flp) = true) (blp : Binds K fdlp ["land", "order"] [])
    (MC : Mk K a.C fI) (GI : FnOk P w K mg base CX0 5 fI fdI ["self", "cells", "neighbours", "roads"] (spLandI a)) (bI : Binds K fdI ["self", "cells", "neighbours", "roads"] [])
    (m_min : mg "min" = none) : FnOk P w K mg base CX0 7 f fd ["land"] (spLeastF a.C) := by
  refine F.ok sc_least_form (fun vs H Q E h => ?_) (fun cdv A outer s H vs Q E hr h => ?_)
  · obtain ⟨p, n, es, rd, rfl, _⟩ := h
    rfl
  · obtain ⟨p, n, es, rd, rfl, L, k⟩ := h
    refine ⟨_, (pss_cons (ps_asg (pe_callB (K7S.cr_minD rfl (K7L.hu65 hr)) (by rfl) m_min boot_min (pa_cons (pe_lc (own := [("order", 3)]) (g := gName 3) (tt := tYes) rfl sc_least_form.nd (pi_tup (pe_call Gao (hr.mono (by decide)) (by rfl) gao kao bao .nil pass0 (pa_cons (pe_fld (pv 0) rfl) pa_nil))) (blkOk_by (own := [("order", 3)]) (N := N_least_form) (sc := defScope s_least_form) (by decide +kernel)) (fun _ _ _ _ _ => (pg_name (i := 3) sc_least_form.nd rfl (by first | exact Or.inl rfl | exact Or.inr rfl))) (fun _ _ _ _ _ => pts_nil) (fun _ _ _ _ _ => (pe_call Glp (hr.mono (by decide)) (by rfl) glp klp blp .nil pass0 (pa_cons (pv 0) (pa_cons (pv 3) pa_nil))))) pa_nil)) (pg_tup rfl (pgs_cons (pg_name (i := 1) sc_least_form.nd rfl (by first | exact Or.inl rfl | exact Or.inr rfl)) (pgs_cons (pg_name (i := 2) sc_least_form.nd rfl (by first | exact Or.inl rfl | exact Or.inr rfl)) pgs_nil))))
 (pss_one (ps_ret (pe_make MC GI (hr.mono (by decide)) (by rfl) T.gC bI .nil pass0 (pa_cons (pe_fld (pv 0) rfl) (pa_cons (pv 1) (pa_cons (pv 2) pa_nil))))))), ?_⟩
    obtain ⟨dx, an, ar, ay, ac, tn, ty, tc, h1, _⟩ := L.at_
    have n5 := L.n5
    have n2 := L.n2
    have e32 := es_len L.ok n5
    refine ⟨_, rfl, p, a.C, dx, _, _, rfl, h1, T.cl, T.nA _ (by decide), rfl, n, rfl, n5, fun H1 u ts e1 nu hu tO => ?_⟩
    have tl : ts.length = (ords n).length := tO.len
    have l120 : (ords n).length ≤ 120 := itO_len ⟨n, by omega⟩ ⟨n, by omega⟩ (Nat.le_refl _)
    refine ⟨u, rfl, ⟨_, .inl (.inl hu)⟩, fun D hD => lc_tup (xs := ts.map V.ref) (fun j H3 => Same H1 H3 ∧ ∃ us, H3 D = some (.lst (us.map V.ref)) ∧ PAt H3 us (((ords n).take j).map fun o => led o (es, rd)) ∧ us.length ≤ j) ⟨al hD, [], upd_same, .nil, Nat.le_refl _⟩ (fun j H3 _ pv => .inl (.inl (pv.1 _ _ hu))) (fun j y H3 hy pv => ?_) (fun H3 pv => ?_)⟩
    · obtain ⟨e3, us, hD3, tD, lu⟩ := pv
      have hj := (List.getElem?_eq_some_iff.mp hy).1
      rw [List.length_map] at hj
      rw [List.getElem?_map] at hy
      obtain ⟨t', ht', rfl⟩ := Option.map_eq_some_iff.mp hy
      obtain ⟨o, eo, ho⟩ := tO.get ht'
      have io := mem_ords.mp (List.mem_of_getElem? eo)
      refine ⟨rfl, _, rfl, _, rfl, p, t', n, es, rd, o, rfl, L.same (e1.trans e3), .inl (e3 _ _ ho), io, fun H4 u' e4 nu' pa => ?_⟩
      have hD4 := e4 _ _ hD3
      have up : ∀ b xs, H4 b = some (.tup xs) → upd H4 D (.lst (us.map V.ref ++ [.ref u'])) b = some (.tup xs) := fun b xs hb => by
        rw [upd_ne (fun z => by rw [z, hD4] at hb; cases hb)]
        exact hb
      refine ⟨_, hD4, by rw [List.length_map]; exact small1000 (by omega), fun b z hb => ?_, us ++ [u'], by rw [upd_same, List.map_append]; rfl, ?_, by rw [List.length_append, List.length_singleton]; omega⟩
      · rw [upd_ne (ne_of_none hb hD)]
        exact e4 _ _ (e3 _ _ hb)
      · rw [List.take_add_one, eo, List.map_append]
        exact ((tD.same e4).mono up).append (.cons (pa.mono up) .nil)
    · obtain ⟨e3, us, hD3, tD, lu⟩ := pv
      rw [List.length_map, tl, List.take_length] at tD
      obtain ⟨d, ds, z1, z2, z3, z4, z5⟩ := min_parts (K := K) (n := n) (x := (es, rd)) tD
      refine ⟨D, us.map V.ref, d, ds, rfl, .inl (.inl hD3), z1, z2, z3, z4, fun i y h1 h2 => ?_⟩
      obtain ⟨u', rfl, pa⟩ := z5 i y h1 h2
      clear z5 h1 h2
      obtain ⟨ta, tb, us', hu', hta, tU, htb⟩ := pa
      have e13 := e1.trans e3
      obtain ⟨dx', an', ar', ay', ac', tn', ty', tc', g1, _⟩ := (L.same e13).at_
      obtain ⟨o, mo, eo⟩ := leastP_mem n (es, rd)
      have io := mem_ords.mp mo
      obtain ⟨cs, em⟩ := led_cos io n5 L.ok e32
      have po := led_ok (x := (es, rd)) io (by omega) n5 e32 ⟨L.ok, L.rlt, L.rnd, L.rso, L.r0, L.rn⟩
      have so : (led o (es, rd)).1.Pairwise KL.lexLe ∧ (led o (es, rd)).2.Pairwise (· ≤ ·) := ⟨ledE_sorted _ _, ledR_sorted _ _⟩
      have cs : Cos n (led o (es, rd)).1 := cs
      have em : (led o (es, rd)).1.map KL.srt = (led o (es, rd)).1 := em
      rw [eo] at cs em po so
      generalize leastP n (es, rd) = y at *
      refine ⟨u', _, rfl, .inl (.inl hu'), rfl, ?_⟩
      refine ⟨_, _, rfl, _, _, rfl, rfl, _, rfl, p, a.C, dx', _, _, rfl, g1, T.cl, T.nA _ (by decide), rfl, _, rfl, _, rfl, ?_⟩
      refine new_land L.n2 n5 (.inl hta) (co_lit tU) cs po.ok.conn (.inl htb) po.rlt po.rnd po.r0 po.rn fun H' x es' rd' e nx Lo pe pr => ?_
      rw [em] at pe
      obtain rfl := es_is Lo.ok pe so.1
      obtain rfl := rd_is Lo.rso pr so.2
      exact k H' x (e13.trans e) (e13.free nx) Lo
end
end K7
end
/-! ## EX -/
section
namespace K7E
open PySem PySem.Spec PyProof.Rows L2
/-! a call under try: what it lets out is asked for where it stands -/
section
variable {X : Cx} {W : WX} {k : Nat} {f C : Addr} {fd : FuncData} {ps : List Str} {sp : Sp} {dvs : List V} {ds : List Value} {x m : Str} {p pos apos : Pos} {e o : Expr} {es : List Expr} {ta : TE} {t : TA}
theorem run_fnW {pins : List (Addr × Obj)} {σ : L2.St} {H : Hp} {s : Shared} {Q : VK} {us : List Value} {vs : List V} (F : FnOk X.prog X.w X.K X.mg X.base (L2.CX X.prog X.w) k f fd ps sp) (hr : Room k X.A) (hb : Binds X.K fd ps ds) (hd : Vals dvs ds) (tk : Takes X W)
    (I : Inv X pins σ H s) (r : Vals vs us) (h : sp (vs ++ dvs) H Q (fun cls d H' => W cls d σ H')) : wpAny (model X.prog X.w) X.A (call (.ref f) us) (EP X pins σ Q) X.xe s := by
  have r2 : Vals (vs ++ dvs) (us ++ ds) := r.append hd
  have hl : (us ++ ds).length = ps.length := by rw [← r2.length]; exact F.len _ _ _ _ h
  refine wpAny_call (codeAny_mono (F.run X.A X.stack s H ⟨us, []⟩ (us ++ ds) (vs ++ dvs) Q _ hr I.env0 (hb s us I.kIn hl) r2 h) fun r s' hq => ?_)
  cases r with
  | error e => exact tk e s' (XE.of_call (E := fun cls d H' => W cls d σ H') I (fun cls d H' h => h) hq)
  | ok fl =>
    cases fl with
    | ret u => exact I.after hq
    | next => exact False.elim hq
    | brk => exact False.elim hq
    | cont => exact False.elim hq
theorem pe_callW (F : FnOk X.prog X.w X.K X.mg X.base (L2.CX X.prog X.w) k f fd ps sp) (hr : Room k X.A) (hg : Gl X x) (hm : X.mg x = some (.ref f)) (hk : PySem.W.keepIn X.K (.ref f) = true) (hb : Binds X.K fd ps ds) (hd : Vals dvs ds) (tk : Takes X W)
    (ha : PA X (e :: es) t) (hdb : (x == ("__debug__" : Str)) = false := by decide) (he : starEach (e :: es) X.env = (false, eval e X.env) :: starEach es X.env := by rfl) (hpl : (backTo pos (starEach es X.env)).any (·.1) = false := by rfl) :
    PE X (.Call (.Name x p) (e :: es) [] pos) (fun σ H Q => t σ H fun vs H1 => sp (vs ++ dvs) H1 Q (fun cls d H' => W cls d σ H')) := by
  refine ⟨fun pins s σ H Q I h => ?_⟩
  refine wpAny_Call_Name_kw (ld_glob I hg hm ?_ hdb)
  refine PySem.W.callWith_K (h₀ := X.base) I.ok.mod.kin hk (thn (ha.run pos pins s σ H _ I h) fun us s1 ⟨vs, H1, I1, r, q⟩ => ⟨I1.kIn, ?_⟩) he hpl
  exact run_fnW F hr hb hd tk I1 r q
theorem pe_methW {pl : Sem Bool} (he : PE X o ta) (c : Cls X.K C) (hm : Meth X.K C m f) (F : FnOk X.prog X.w X.K X.mg X.base (L2.CX X.prog X.w) k f fd ps sp) (hr : Room k X.A) (hb : Binds X.K fd ps ds) (hd : Vals dvs ds) (tk : Takes X W) (ha : PA X (e :: es) t)
    (hst : starEach (e :: es) X.env = (false, eval e X.env) :: starEach es X.env := by rfl) (hpl : (backTo pos (starEach es X.env)).any (·.1) = false := by rfl)
    (ht : eval (.Call (.Attribute o m apos) (e :: es) [] pos) X.env = (do
      let ov ← eval o X.env
      standAt apos.atName
      let (f, first) ← holding [ov] (getMethod ov m pl)
      callWith pos f first (backTo pos (starEach (e :: es) X.env)) (backToKw pos (keywordEach [] X.env))) := by rfl) :
    PE X (.Call (.Attribute o m apos) (e :: es) [] pos) (fun σ H Q => ta σ H fun x H1 => ∃ a dx fs, x = .ref a ∧ H1 a = some (.ins C dx fs) ∧ fs.lookup m = none ∧
      t σ H1 fun vs H2 => sp (x :: (vs ++ dvs)) H2 Q (fun cls d H' => W cls d σ H')) := by
  refine ⟨fun pins s σ H Q I h => ?_⟩
  refine PySem.W.methodCall_KW (pl := pl) (thn (he.run pins s σ H _ I h) fun u s1 ⟨x, H1, I1, rx, a, dx, fs, ex, ea, l, q⟩ => ?_) ht
  subst ex
  obtain rfl : u = Value.ref a := rx
  refine getmeth_ok I1 ea c hm l ?_
  refine PySem.W.callWith_K (first := [.ref a]) (h₀ := X.base) I.ok.mod.kin hm.kp (thn (ha.run pos pins s1 σ H1 _ I1 q) fun us s2 ⟨vs, H2, I2, r, q2⟩ => ⟨I2.kIn, ?_⟩) hst hpl
  exact run_fnW (us := .ref a :: us) (vs := .ref a :: vs) F hr hb hd tk I2 (.cons rfl r) q2
end
/-! ### isinstance(e, c), e the exception that the suite holds, with fields of its own -/
section
variable {X : Cx}
theorem call_isEd {a D d : Addr} {oe : Obj} {pn : List (Addr × Obj)} (C : ExcC X.K D) (hz : Zc (.ref D) (some d) oe) (hf : ∃ vs, oe.data = .fields vs) : CallR (X.suite a ((a, oe) :: pn)) (.builtin "isinstance") (fun xs H Q => ∃ (c : V) (cv : Value) (b : Bool) (fs : List (Str × V)), xs = [.ref a, c] ∧ (∀ u, RelV c u → u = cv) ∧ PySem.W.kitOne X.K (.ref D) cv = some b ∧ H d = some (.xd fs) ∧ Q (.bl b) H) := by
  intro pins s σ H xs us Q I r h
  obtain ⟨c, cv, b, fs, rfl, hcv, e, hd, q⟩ := h
  cases r with
  | cons rx rr =>
    cases rr with
    | cons rt rr =>
      cases rr
      cases rx
      have ec := hcv _ rt
      subst ec
      obtain ⟨hget, _⟩ := I.pin (a, oe) (List.mem_append.mpr (.inl List.mem_cons_self))
      obtain ⟨vs, hv⟩ := hf
      have hx : ObjOk X.prog X.w H s.heap d (.xd fs) := I.hok d _ hd
      obtain ⟨mA, hns, hrr⟩ := hx
      obtain ⟨od, ho, hl⟩ := lookIn_ns hns
      have J : PySem.W.InstAt s.heap a oe D (some od) := ⟨hget, hz.1, by unfold PySem.W.notCls; rw [hv] <;> rfl, by rw [hz.2]; exact ho⟩
      obtain ⟨cd, hcc, _⟩ := PySem.W.any_some C.hd
      exact PySem.W.kia_one (PySem.W.kitx_exc (gt := none) (by rw [hcc]; rfl) C.hg C.hk C.hs C.ha C.hn C.ht C.hm) I.kIn J e (fun z => nomatch z) fun tk => ⟨.bl b, H, I.kept (t' := tk) fun _ _ z => z, rfl, q⟩
end
theorem call_isEdX {X : Cx} {a D : Addr} {cls : Value} {d : Option Addr} {oe : Obj} {pn : List (Addr × Obj)} (C : ExcC X.K D) (hz : Zc cls d oe) (hf : ∃ vs, oe.data = .fields vs) : CallR (X.suite a ((a, oe) :: pn)) (.builtin "isinstance") (fun xs H Q => cls = .ref D ∧ ∃ dd, d = some dd ∧ ∃ (c : V) (cv : Value) (b : Bool) (fs : List (Str × V)), xs = [.ref a, c] ∧ (∀ u, RelV c u → u = cv) ∧ PySem.W.kitOne X.K (.ref D) cv = some b ∧ H dd = some (.xd fs) ∧ Q (.bl b) H) := by
  intro pins s σ H xs us Q I r h
  obtain ⟨rfl, dd, rfl, h⟩ := h
  exact call_isEd C hz hf pins s σ H xs us Q I r h
/-! repr of a plain thing -/
def reprV : V → Str
  | .non => "None"
  | .bl b => if b then "True" else "False"
  | .int i => toString i
  | .str z => reprText z
  | _ => ""
def reprOk : V → Prop
  | .non => True
  | .bl b => True
  | .int i => i.natAbs.log2 < 1920
  | .str z => (reprText z).length ≤ sizeLine
  | _ => False
theorem call_reprF {X : Cx} : CallR X (.builtin "repr") (fun xs H Q => ∃ v, xs = [v] ∧ reprOk v ∧ Q (.str (reprV v)) H) := by
  intro pins s σ H xs us Q I r h
  obtain ⟨v, rfl, hz, q⟩ := h
  obtain ⟨u, rfl, ru⟩ := r.one
  cases v with
  | non => cases ru; exact PySem.P.repr_of_none ⟨.str _, H, I.tok _, ⟨_, rfl⟩, q⟩
  | bl b => cases ru; exact PySem.P.repr_of_bool ⟨.str _, H, I.tok _, ⟨_, rfl⟩, q⟩
  | int i => obtain ⟨t, rfl⟩ := ru; exact PySem.P.repr_of_int hz ⟨.str _, H, I.tok _, ⟨_, rfl⟩, q⟩
  | str z => obtain ⟨t, rfl⟩ := ru; exact PySem.P.repr_of_str ⟨.str _, H, I.tok _, ⟨_, rfl⟩, q⟩ hz
  | _ => exact hz.elim
end K7E
end
/-! ## P19 -/
section
open PySem PySem.Spec PyProof.Rows L2
namespace K7
abbrev N__law_led : List Str := ["_law_order", "_law_plain", "_law_rows", "_law_low", "_law_high", "_law_cell"]
abbrev s__law_led : Stmt := topS 36
theorem sc__law_led : FnScope ["_law_order", "_law_plain", "_law_rows", "_law_low", "_law_high", "_law_cell"] ["_law_order", "_law_plain"] (defScope s__law_led) := ⟨rfl, rfl, rfl, by decide +kernel, rfl, by decide +kernel, by decide +kernel⟩
abbrev N__law_refused : List Str := ["_law_land_here", "_law_order", "_law_made", "_law_told", "e"]
abbrev s__law_refused : Stmt := topS 37
theorem sc__law_refused : FnScope ["_law_land_here", "_law_order", "_law_made", "_law_told", "e"] ["_law_land_here", "_law_order"] (defScope s__law_refused) := ⟨rfl, rfl, rfl, by decide +kernel, rfl, by decide +kernel, by decide +kernel⟩
abbrev N__law_least_of : List Str := ["_law_plain", "_law_order"]
abbrev s__law_least_of : Stmt := topS 38
theorem sc__law_least_of : FnScope ["_law_plain", "_law_order"] ["_law_plain"] (defScope s__law_least_of) := ⟨rfl, rfl, rfl, by decide +kernel, rfl, by decide +kernel, by decide +kernel⟩
/-- a land as the law has it -/
structure PlainAt (H : Hp) (q : Addr) (n : Nat) (x : Part) : Prop where
  at_ : ∃ rA sA ts, H q = some (.tup [.int (n : Nat), .ref rA, .ref sA]) ∧ H rA = some (.lst (ts.map V.ref)) ∧ TAt H ts (pairs x.1) ∧ H sA = some (.lst (ints_ x.2))
  ok : PartOk n x
  n2 : 2 ≤ n
  n5 : n ≤ 5
theorem PlainAt.same {H H' : Hp} {q : Addr} {n : Nat} {x : Part} (h : PlainAt H q n x) (e : Same H H') : PlainAt H' q n x := by
  obtain ⟨rA, sA, ts, h1, h2, h3, h4⟩ := h.at_
  exact ⟨⟨rA, sA, ts, e _ _ h1, e _ _ h2, h3.same e, e _ _ h4⟩, h.ok, h.n2, h.n5⟩
theorem lt_nodup {l : List Nat} (h : l.Pairwise (· < ·)) : l.Nodup ∧ l.Pairwise (· ≤ ·) := ⟨List.nodup_iff_pairwise_ne.mpr (h.imp fun {a b} h e => by omega), h.imp fun {a b} h => by omega⟩
theorem LandAt.plain {H : Hp} {q : Addr} {n : Nat} {es : List (Nat × Nat)} {lot : List Nat} (L : LandAt H q n es lot) (n2 : 2 ≤ n) (n5 : n ≤ 5) : PlainAt H q n (es, lot) := by
  obtain ⟨l1, l2, l3⟩ := L.lot
  obtain ⟨m1, m2⟩ := lot_lt n5 l1
  exact ⟨L.at_, ⟨L.ok, m1, (lt_nodup m2).1, (lt_nodup m2).2, l2, l3⟩, n2, n5⟩
section
variable {P : Program} {w : World} {K : PySem.W.Frag} {mg : Str → Option Value} {base : Heap} {a : AdL} {S iS L : Addr}
def spLLed : Sp := fun vs H Q _ => ∃ (o q : Addr) (n : Nat) (x : Part) (ord : List Nat), vs = [.ref o, .ref q] ∧ H o = some (.tup (ints_ ord)) ∧ PlainAt H q n x ∧ IsOrd n ord ∧
  ∀ H' u, Same H H' → H u = none → PartAt H' u (led ord x) → Q (.ref u) H'
theorem ok_lled {f : Addr} {fd : FuncData} (F : Fun K "_law_led" "_law_led" s__law_led f fd) (m_sorted : mg "sorted" = none) (m_tuple : mg "tuple" = none) (m_min : mg "min" = none) (m_max : mg "max" = none) : FnOk P w K mg base CX0 1 f fd ["_law_order", "_law_plain"] spLLed := by
  refine F.ok sc__law_led (fun vs H Q E h => ?_) (fun cdv A outer s H vs Q E hr h => ?_)
  · obtain ⟨o, q, n, x, ord, rfl, _⟩ := h
    rfl
  · obtain ⟨o, q, n, ⟨es, rd⟩, ord, rfl, ho, L, io, k⟩ := h
    refine ⟨_, (pss_cons (ps_set (i := 2) sc__law_led.nd rfl (by first | exact Or.inl rfl | exact Or.inr rfl) (pe_lst pa_nil))
 (pss_cons (ps_for PassesOwn.never rfl (pi_list (pe_ix ix_tup (pv 1) pe_int (fun _ _ => rfl))) (pg_tup rfl (pgs_cons (pg_name (i := 3) sc__law_led.nd rfl (by first | exact Or.inl rfl | exact Or.inr rfl)) (pgs_cons (pg_name (i := 4) sc__law_led.nd rfl (by first | exact Or.inl rfl | exact Or.inr rfl)) pgs_nil)))
  (pss_one (ps_expr (pe_bm PySem.F.plainAttrs_list PySem.F.slot_list_append PySem.F.type_list_append mt_append (pv 2) (pa_cons (pe_tup (pa_cons (pe_callB (call_min2 rfl) (by rfl) m_min boot_min (pa_cons (pe_ix ix_tup (pv 0) (pv 3) (fun _ _ => rfl)) (pa_cons (pe_ix ix_tup (pv 0) (pv 4) (fun _ _ => rfl)) pa_nil))) (pa_cons (pe_callB (call_max2 rfl) (by rfl) m_max boot_max (pa_cons (pe_ix ix_tup (pv 0) (pv 3) (fun _ _ => rfl)) (pa_cons (pe_ix ix_tup (pv 0) (pv 4) (fun _ _ => rfl)) pa_nil))) pa_nil))) pa_nil)))))
 (pss_one (ps_ret (pe_tup (pa_cons (pe_callTy call_tuple_of (by rfl) m_tuple boot_tuple (pa_cons (pe_callB cr_sortedPO (by rfl) m_sorted boot_sorted (pa_cons (pv 2) pa_nil)) pa_nil)) (pa_cons (pe_callTy call_tuple_of (by rfl) m_tuple boot_tuple (pa_cons (pe_callB K7S.cr_sortA (by rfl) m_sorted boot_sorted (pa_cons (pe_lc (own := [("_law_cell", 5)]) (g := gName 5) (tt := tYes) rfl sc__law_led.nd (pi_list (pe_ix ix_tup (pv 1) pe_int (fun _ _ => rfl))) (blkOk_by (own := [("_law_cell", 5)]) (N := N__law_led) (sc := defScope s__law_led) (by decide +kernel)) (fun _ _ _ _ _ => (pg_name (i := 5) sc__law_led.nd rfl (by first | exact Or.inl rfl | exact Or.inr rfl))) (fun _ _ _ _ _ => pts_nil) (fun _ _ _ _ _ => (pe_ix (show IxR _ (rIxT K) from ix_tup) (pv 0) (pv 5) (fun _ _ => rfl)))) pa_nil)) pa_nil)) pa_nil))))))), ?_⟩
    obtain ⟨rA, sA, ts, h1, h2, h3, h4⟩ := L.at_
    have h3 : TAt H ts (pairs es) := h3
    have h4 : H sA = some (.lst (ints_ rd)) := h4
    have ok : LandOk n es := L.ok.ok
    have rlt : ∀ c ∈ rd, c < n := L.ok.rlt
    have rn : rd.length < n := L.ok.rn
    have n5 := L.n5
    have e32 := es_len ok n5
    have tl : ts.length = es.length := by rw [h3.len]; unfold pairs; rw [List.length_map]
    have ga : ∀ c, c < n → (ints_ ord)[c]? = some (.int (at_ ord c : Nat)) := fun c h => by
      have h : c < ord.length := by rw [io.len]; exact h
      unfold ints_
      rw [List.getElem?_map, List.getElem?_eq_getElem h, at_get h]
      rfl
    refine ⟨by show 0 ≤ sizeLine; decide, fun R nR => ?_⟩
    have e1 := al (o := .lst []) nR
    have hR1 : upd H R (.lst []) R = some (.lst []) := upd_same
    generalize upd H R (.lst []) = H1 at e1 hR1 ⊢
    refine ⟨_, rfl, q, _, _, _, rfl, rfl, .inl (.inl (e1 _ _ h1)), atI_nat (j := 1) rfl, rA, rfl, ⟨_, .inl (.inl (e1 _ _ h2))⟩, for_list (xs := ts.map V.ref) (fun i σ H2 => ∃ us y3 y4 y5, σ = [some (.ref o), some (.ref q), some (.ref R), y3, y4, y5] ∧ Same H H2 ∧ H2 R = some (.lst (us.map V.ref)) ∧ TAt H2 us (pairs ((es.take i).map fun e => KL.srt (at_ ord e.1, at_ ord e.2))) ∧ us.length ≤ i)
      ⟨[], none, none, none, rfl, e1, hR1, .nil, Nat.le_refl _⟩ (fun i σ H2 _ pv => ?_) (fun i x σ H2 hx pv => ?_) (fun σ H2 pv => ?_)⟩
    · obtain ⟨us, y3, y4, y5, rfl, e2, hR2, tU, lu⟩ := pv
      exact .inl (.inl (e2 _ _ h2))
    · obtain ⟨us, y3, y4, y5, rfl, e2, hR2, tU, lu⟩ := pv
      rw [List.getElem?_map] at hx
      obtain ⟨t', ht', rfl⟩ := Option.map_eq_some_iff.mp hx
      obtain ⟨row, hrow, hat⟩ := h3.get ht'
      unfold pairs at hrow
      rw [List.getElem?_map] at hrow
      obtain ⟨e, he, rfl⟩ := Option.map_eq_some_iff.mp hrow
      have hj : i < es.length := (List.getElem?_eq_some_iff.mp he).1
      obtain ⟨l1, l2⟩ := ok.lt e (List.mem_of_getElem? he)
      have l0 : e.1 < n := by omega
      have tk : (es.take (i + 1)).map (fun e => KL.srt (at_ ord e.1, at_ ord e.2)) = (es.take i).map (fun e => KL.srt (at_ ord e.1, at_ ord e.2)) ++ [KL.srt (at_ ord e.1, at_ ord e.2)] := by rw [List.take_add_one, he, List.map_append]; rfl
      have ho2 := e2 _ _ ho
      refine ⟨t', _, rfl, .inl (.inl (e2 _ _ hat)), rfl, _, _, rfl, _, _, rfl, rfl, ?_⟩
      refine ⟨_, rfl, .inl ⟨rfl, _, .inl (.inl hR2)⟩, ?_⟩
      refine ⟨_, rfl, _, rfl, o, _, _, _, rfl, rfl, .inl (.inl ho2), atI_nat (ga _ l0), _, rfl, _, rfl, o, _, _, _, rfl, rfl, .inl (.inl ho2), atI_nat (ga _ l2), _, _, rfl, ?_⟩
      refine ⟨_, rfl, _, rfl, o, _, _, _, rfl, rfl, .inl (.inl ho2), atI_nat (ga _ l0), _, rfl, _, rfl, o, _, _, _, rfl, rfl, .inl (.inl ho2), atI_nat (ga _ l2), _, _, rfl, ?_⟩
      refine ⟨by show 2 ≤ sizeLine; decide, fun u nu => ?_⟩
      have em : (if ((at_ ord e.2 : Nat) : Int) < ((at_ ord e.1 : Nat) : Int) then ((at_ ord e.2 : Nat) : Int) else ((at_ ord e.1 : Nat) : Int)) = ((min (at_ ord e.1) (at_ ord e.2) : Nat) : Int) := by split <;> omega
      have ex : (if ((at_ ord e.2 : Nat) : Int) > ((at_ ord e.1 : Nat) : Int) then ((at_ ord e.2 : Nat) : Int) else ((at_ ord e.1 : Nat) : Int)) = ((max (at_ ord e.1) (at_ ord e.2) : Nat) : Int) := by split <;> omega
      rw [em, ex]
      have sT := al (o := .tup [.int ((min (at_ ord e.1) (at_ ord e.2) : Nat) : Int), .int ((max (at_ ord e.1) (at_ ord e.2) : Nat) : Int)]) nu
      have hT : upd H2 u (.tup [.int ((min (at_ ord e.1) (at_ ord e.2) : Nat) : Int), .int ((max (at_ ord e.1) (at_ ord e.2) : Nat) : Int)]) u = some (.tup _) := upd_same
      generalize upd H2 u (.tup [.int ((min (at_ ord e.1) (at_ ord e.2) : Nat) : Int), .int ((max (at_ ord e.1) (at_ ord e.2) : Nat) : Int)]) = H3 at sT hT ⊢
      have hR3 := sT _ _ hR2
      have up : ∀ b xs, H3 b = some (.tup xs) → upd H3 R (.lst (us.map V.ref ++ [.ref u])) b = some (.tup xs) := fun b xs hb => by
        rw [upd_ne (fun z => by rw [z, hR3] at hb; cases hb)]
        exact hb
      refine ⟨R, _, _, rfl, rfl, hR3, by rw [List.length_map]; exact small1000 (by omega), us ++ [u], _, _, _, rfl, fun b z hb => ?_, by rw [upd_same, List.map_append]; rfl, ?_, by rw [List.length_append, List.length_singleton]; omega⟩
      · rw [upd_ne (ne_of_none hb nR)]
        exact sT _ _ (e2 _ _ hb)
      · rw [tk]
        unfold pairs
        rw [List.map_append]
        exact ((tU.same sT).mono up).append (.cons (up _ _ hT) .nil)
    · obtain ⟨us, y3, y4, y5, rfl, e2, hR2, tD, lu⟩ := pv
      rw [List.length_map, tl, List.take_length] at tD
      refine ⟨_, rfl, R, us.map V.ref, kfOf H2, rfl, .inl (.inl hR2), fun y hy => ?_, fun ys p' srt stb np => ?_⟩
      · obtain ⟨b, e, rfl, hb⟩ := g_mem tD y hy
        exact ⟨b, rfl, by rw [kf_at hb]; exact hb⟩
      · have hys := fun y (hy : y ∈ ys) => g_mem tD y (stb.perm.mem_iff.mp hy)
        obtain ⟨us', rfl, tY⟩ := tat_of ys hys
        have pe : ((us'.map V.ref).map (gOf H2)).Perm (es.map fun e => KL.srt (at_ ord e.1, at_ ord e.2)) := by
          have z := stb.perm.map (gOf H2)
          rw [g_map tD] at z
          exact z
        have es' := ledE_is pe (sorted_of _ hys srt)
        rw [es'] at tY
        have s4 := e2.trans (al (o := .lst (us'.map V.ref)) np)
        have tY4 := tY.same (al (o := .lst (us'.map V.ref)) np)
        refine ⟨p', _, rfl, .inl ⟨.inl (.inl upd_same), fun ta nta => ?_⟩⟩
        have s5 := s4.trans (al (o := .tup (us'.map V.ref)) nta)
        have hta : upd (upd H2 p' (.lst (us'.map V.ref))) ta (.tup (us'.map V.ref)) ta = some (.tup (us'.map V.ref)) := upd_same
        have tY5 := tY4.same (al (o := .tup (us'.map V.ref)) nta)
        generalize upd (upd H2 p' (.lst (us'.map V.ref))) ta (.tup (us'.map V.ref)) = H5 at s5 hta tY5 ⊢
        refine ⟨_, rfl, q, _, _, _, rfl, rfl, .inl (.inl (s5 _ _ h1)), atI_nat (j := 2) rfl, sA, rfl, ⟨_, .inl (.inl (s5 _ _ h4))⟩, fun D hD => lc_list (xs := ints_ rd) (fun j H6 => Same H5 H6 ∧ H6 D = some (.lst (ints_ ((rd.take j).map (at_ ord))))) ⟨al hD, upd_same⟩ (fun j H6 _ pv => .inl (.inl (pv.1 _ _ (s5 _ _ h4)))) (fun j y H6 hy pv => ?_) (fun H6 pv => ?_)⟩
        · obtain ⟨e6, hD6⟩ := pv
          unfold ints_ at hy
          rw [List.getElem?_map] at hy
          obtain ⟨c, hcj, rfl⟩ := Option.map_eq_some_iff.mp hy
          have hm := rlt c (List.mem_of_getElem? hcj)
          have tk : (rd.take (j + 1)).map (at_ ord) = (rd.take j).map (at_ ord) ++ [at_ ord c] := by rw [List.take_add_one, hcj, List.map_append]; rfl
          refine ⟨rfl, _, rfl, _, rfl, o, _, _, _, rfl, rfl, .inl (.inl (e6 _ _ (s5 _ _ ho))), atI_nat (ga c hm), _, hD6, by unfold ints_; rw [List.length_map, List.length_map]; exact small1000 (by rw [List.length_take]; omega), fun b z hb => ?_, ?_⟩
          · rw [upd_ne (ne_of_none hb hD)]
            exact e6 _ _ hb
          · rw [upd_same, tk, ints_snoc]
        · obtain ⟨e6, hD6⟩ := pv
          rw [show (ints_ rd).length = rd.length from List.length_map .., List.take_length] at hD6
          refine ⟨D, (rd.map (at_ ord)).map fun c => ((c : Nat) : Int), rfl, .inl (.inl (.inl ?_)), by rw [List.length_map, List.length_map]; omega, fun ms p pm so np => ?_⟩
          · rw [List.map_map]
            exact hD6
          · obtain ⟨ns, ee, pn, sn⟩ := ints_srt pm so
            rw [ee, ledR_is pn sn]
            refine ⟨p, _, rfl, .inl ⟨.inl (.inl upd_same), fun tb nb => ?_⟩⟩
            have s7 := e6.trans (al (o := .lst (ints_ (ledR ord rd))) np)
            have s8 := s7.trans (al (o := .tup (ints_ (ledR ord rd))) nb)
            have htb : upd (upd H6 p (.lst (ints_ (ledR ord rd)))) tb (.tup (ints_ (ledR ord rd))) tb = some (.tup (ints_ (ledR ord rd))) := upd_same
            generalize upd (upd H6 p (.lst (ints_ (ledR ord rd)))) tb (.tup (ints_ (ledR ord rd))) = H8 at s8 htb ⊢
            refine ⟨by show 2 ≤ sizeLine; decide, fun u nu => ?_⟩
            have s9 := al (o := .tup [.ref ta, .ref tb]) nu
            exact k _ u ((s5.trans s8).trans s9) ((s5.trans s8).free nu) ⟨ta, tb, us', upd_same, s9 _ _ (s8 _ _ hta), (tY5.same s8).same s9, s9 _ _ htb⟩
/-- what the top says of errors -/
structure Te (K : PySem.W.Frag) (mg : Str → Option Value) (S L : Addr) : Prop where
  gL : mg "LandError" = some (.ref L)
  exS : ExcC K S
  xfS : XfC K S
  mS : PySem.W.exmOne K (.ref S) (.ref L) = some true
  kSS : PySem.W.kitOne K (.ref S) (.ref S) = some true
def spRef (K : PySem.W.Frag) (a : AdL) : Sp := fun vs H Q _ => ∃ (p : Addr) (n : Nat) (es : List (Nat × Nat)) (rd : List Nat) (y : V), vs = [.ref p, y] ∧ LandO a.C H p n es rd ∧ BadOrd K n H y ∧ ∀ H', Same H H' → Q (.bl true) H'
theorem ok_refd (TS : Ts K mg S iS) (T3 : Te K mg S L) {f frn : Addr} {fd fdrn : FuncData} (F : Fun K "_law_refused" "_law_refused" s__law_refused f fd)
    (Grn : FnOk P w K mg base (L2.CX P w) 7 frn fdrn ["land", "order"] (spRen K a S)) (grn : mg "renumbered" = some (.ref frn)) (krn : PySem.W.keepIn K (.ref frn) = true) (brn : Binds K fdrn ["land", "order"] [])
    (m_isinstance : mg "isinstance" = none) : FnOk P w K mg base CX0 8 f fd ["_law_land_here", "_law_order"] (spRef K a) := by
  refine F.ok sc__law_refused (fun vs H Q E h => ?_) (fun cdv A outer s H vs Q E hr h => ?_)
  · obtain ⟨p, n, es, rd, y, rfl, _⟩ := h
    rfl
  · obtain ⟨p, n, es, rd, y, rfl, Lo, bo, q⟩ := h
    refine ⟨_, (pss_cons (ps_asg (pe_tup (pa_cons pe_non (pa_cons pe_non pa_nil))) (pg_tup rfl (pgs_cons (pg_name (i := 2) sc__law_refused.nd rfl (by first | exact Or.inl rfl | exact Or.inr rfl)) (pgs_cons (pg_name (i := 3) sc__law_refused.nd rfl (by first | exact Or.inl rfl | exact Or.inr rfl)) pgs_nil))))
 (pss_cons (ps_try_as (i := 4) rfl rfl sc__law_refused.nd rfl rfl ⟨rfl, by decide, .inl T3.gL⟩ takes0 (fun W pn xe tk _ => (pss_one (ps_set (i := 2) sc__law_refused.nd rfl (by first | exact Or.inl rfl | exact Or.inr rfl) (K7E.pe_callW Grn (hr.mono (by decide)) (by rfl) grn krn brn .nil tk (pa_cons (pv 0) (pa_cons (pv 1) pa_nil)))))) (fun b oe cls d pn hz hf => (pss_one (ps_set (i := 3) sc__law_refused.nd rfl (by first | exact Or.inl rfl | exact Or.inr rfl) (pe_tup (pa_cons (pe_callB (K7E.call_isEdX T3.exS hz hf) (by rfl) m_isinstance boot_isinstance (pa_cons (pv 4) (pa_cons (pe_glob (v := .ref _) rfl TS.g rfl) pa_nil))) (pa_cons (pe_xf T3.xfS TS.no hz hf (pv 4)) pa_nil)))))))
 (pss_one (ps_ret (pe_and (pe_cmpR op_isN (pv 2) pe_non (nomark _)) (pe_one (pe_cmpR (op_eqD hr.units) (pv 3) (pe_tup (pa_cons pe_bl (pa_cons pe_str pa_nil))) (nomark _)))))))), ?_⟩
    refine ⟨by show 2 ≤ sizeLine; decide, fun t0 nt0 => ?_⟩
    have e0 := al (o := .tup [V.non, V.non]) nt0
    refine ⟨t0, _, rfl, .inl (.inl upd_same), rfl, _, _, rfl, _, _, rfl, rfl, ?_⟩
    generalize upd H t0 (.tup [V.non, V.non]) = H0 at e0 ⊢
    refine ⟨_, rfl, _, rfl, p, n, es, rd, y, rfl, Lo.same e0, .inr ⟨bo.same e0, fun H' d' e nd hd => ?_⟩⟩
    refine ⟨true, T3.mS, fun _ b hb' => ?_, fun z => nomatch z⟩
    refine ⟨_, rfl, rfl, d', rfl, .ref S, .ref S, true, _, rfl, fun u h => h, T3.kSS, hd, ?_⟩
    refine ⟨_, rfl, rfl, rfl, d', _, _, rfl, hd, rfl, ?_⟩
    refine ⟨by show 2 ≤ sizeLine; decide, fun t nt => ?_⟩
    have e1 := (e0.trans e).trans (al (o := .tup [.bl true, .str "order"]) nt)
    have ht : upd H' t (.tup [.bl true, .str "order"]) t = some (.tup [.bl true, .str "order"]) := upd_same
    generalize upd H' t (.tup [.bl true, .str "order"]) = H1 at e1 ht ⊢
    refine ⟨_, rfl, rfl, _, rfl, ?_⟩
    rw [decide_eq_true rfl]
    refine iteT ⟨_, rfl, by show 2 ≤ sizeLine; decide, fun u nu => ?_⟩
    have e2 := al (o := .tup [.bl true, .str "order"]) nu
    have cl : PyData.canLay0 (.tuple [.bool true, .str "order"]) = true := by decide +kernel
    have sh : SeqAt.shaped (.tuple [.bool true, .str "order"]) = true := by decide +kernel
    refine ⟨.tuple [.bool true, .str "order"], .tuple [.bool true, .str "order"], .tup (.inl (.inl (e2 _ _ ht))) (.cons (.bl _) (.cons (.str _) .nil)), .tup (.inl (.inl upd_same)) (.cons (.bl _) (.cons (.str _) .nil)), sh, sh, ?_⟩
    rw [PySem.SeqAt.eqv_refl _ cl]
    exact q _ (e1.trans e2)
def spLLeast : Sp := fun vs H Q _ => ∃ (q : Addr) (n : Nat) (x : Part), vs = [.ref q] ∧ PlainAt H q n x ∧ ∀ H' u, Same H H' → PartAt H' u (leastP n x) → Q (.ref u) H'
theorem ok_lleast {f flo fll : Addr} {fd fdlo fdll : FuncData} (F : Fun K "_law_least_of" "_law_least_of" s__law_least_of f fd)
    (Glo : FnOk P w K mg base CX0 1 flo fdlo ["_law_n"] spLOrd) (glo : mg "_law_orders" = some (.ref flo)) (klo : PySem.W.keepIn K (.ref flo) = true) (blo : Binds K fdlo ["_law_n"] [])
    (Gll : FnOk P w K mg base CX0 1 fll fdll ["_law_order", "_law_plain"] spLLed) (gll : mg "_law_led" = some (.ref fll)) (kll : PySem.W.keepIn K (.ref fll) = true) (bll : Binds K fdll ["_law_order", "_law_plain"] [])
    (m_min : mg "min" = none) : FnOk P w K mg base CX0 2 f fd ["_law_plain"] spLLeast := by
  refine F.ok sc__law_least_of (fun vs H Q E h => ?_) (fun cdv A outer s H vs Q E hr h => ?_)
  · obtain ⟨q, n, x, rfl, _⟩ := h
    rfl
  · obtain ⟨q, n, x, rfl, L, k⟩ := h
    refine ⟨_, (pss_one (ps_ret (pe_callB (K7S.cr_minD rfl (K7L.hu65 hr)) (by rfl) m_min boot_min (pa_cons (pe_lc (own := [("_law_order", 1)]) (g := gName 1) (tt := tYes) rfl sc__law_least_of.nd (pi_list (pe_call Glo (hr.mono (by decide)) (by rfl) glo klo blo .nil pass0 (pa_cons (pe_ix ix_tup (pv 0) pe_int (fun _ _ => rfl)) pa_nil))) (blkOk_by (own := [("_law_order", 1)]) (N := N__law_least_of) (sc := defScope s__law_least_of) (by decide +kernel)) (fun _ _ _ _ _ => (pg_name (i := 1) sc__law_least_of.nd rfl (by first | exact Or.inl rfl | exact Or.inr rfl))) (fun _ _ _ _ _ => pts_nil) (fun _ _ _ _ _ => (pe_call Gll (hr.mono (by decide)) (by rfl) gll kll bll .nil pass0 (pa_cons (pv 1) (pa_cons (pv 0) pa_nil))))) pa_nil)))), ?_⟩
    obtain ⟨rA, sA, ts0, h1, h2, h3, h4⟩ := L.at_
    have n5 := L.n5
    refine ⟨_, rfl, q, _, _, _, rfl, rfl, .inl (.inl h1), atI_nat (j := 0) rfl, n, rfl, n5, fun H1 r ts e1 nr hr1 tO => ?_⟩
    have tl : ts.length = (ords n).length := tO.len
    have l120 : (ords n).length ≤ 120 := itO_len ⟨n, by omega⟩ ⟨n, by omega⟩ (Nat.le_refl _)
    refine ⟨r, rfl, ⟨_, .inl (.inl hr1)⟩, fun D hD => lc_list (xs := ts.map V.ref) (fun j H3 => Same H1 H3 ∧ ∃ us, H3 D = some (.lst (us.map V.ref)) ∧ PAt H3 us (((ords n).take j).map fun o => led o x) ∧ us.length ≤ j) ⟨al hD, [], upd_same, .nil, Nat.le_refl _⟩ (fun j H3 _ pv => .inl (.inl (pv.1 _ _ hr1))) (fun j y H3 hy pv => ?_) (fun H3 pv => ?_)⟩
    · obtain ⟨e3, us, hD3, tD, lu⟩ := pv
      have hj := (List.getElem?_eq_some_iff.mp hy).1
      rw [List.length_map] at hj
      rw [List.getElem?_map] at hy
      obtain ⟨t', ht', rfl⟩ := Option.map_eq_some_iff.mp hy
      obtain ⟨o, eo, ho⟩ := tO.get ht'
      have io := mem_ords.mp (List.mem_of_getElem? eo)
      refine ⟨rfl, _, rfl, _, rfl, t', q, n, x, o, rfl, e3 _ _ ho, L.same (e1.trans e3), io, fun H4 u' e4 nu' pa => ?_⟩
      have hD4 := e4 _ _ hD3
      have up : ∀ b xs, H4 b = some (.tup xs) → upd H4 D (.lst (us.map V.ref ++ [.ref u'])) b = some (.tup xs) := fun b xs hb => by
        rw [upd_ne (fun z => by rw [z, hD4] at hb; cases hb)]
        exact hb
      refine ⟨_, hD4, by rw [List.length_map]; exact small1000 (by omega), fun b z hb => ?_, us ++ [u'], by rw [List.map_append, upd_same]; rfl, ?_, by rw [List.length_append, List.length_singleton]; omega⟩
      · rw [upd_ne (ne_of_none hb hD)]
        exact e4 _ _ (e3 _ _ hb)
      · rw [List.take_add_one, eo, List.map_append]
        exact ((tD.same e4).mono up).append (.cons (pa.mono up) .nil)
    · obtain ⟨e3, us, hD3, tD, lu⟩ := pv
      rw [List.length_map, tl, List.take_length] at tD
      obtain ⟨d, ds, z1, z2, z3, z4, z5⟩ := min_parts (K := K) (n := n) (x := x) tD
      refine ⟨D, us.map V.ref, d, ds, rfl, .inl (.inl hD3), z1, z2, z3, z4, fun i y h1 h2 => ?_⟩
      obtain ⟨u', rfl, pa⟩ := z5 i y h1 h2
      exact k H3 u' (e1.trans e3) pa
end
end K7
end
/-! ## KG -/
section
/-! ## promises kept where no repr is under way -/
namespace K7E
open PySem PySem.Spec PyProof.Rows L2
structure FnG (P : Program) (w : World) (K : PySem.W.Frag) (mg : Str → Option Value) (base : Heap) (CX : CXT) (k : Nat) (f : Addr) (fd : FuncData) (ps : List Str) (sp : Sp) : Prop where
  len : ∀ vs H Q E, sp vs H Q E → vs.length = ps.length
  run : ∀ (A : Around) (outer : List Env) (s : Shared) (H : Hp) (args : Args) (us : List Value) (vs : List V) (Q : VK) (E : XK), A.guards = some [] → Room k A → Env0 P w K mg base A outer s H → BindsTo s fd args (ps.zip us) → Vals vs us → sp vs H Q E →
    codeAny (model P w) A (.call (.ref f) args) (CR CX outer P w H s Q E) s
theorem fn_ofG {CX : CXT} {P : Program} {w : World} {K : PySem.W.Frag} {mg : Str → Option Value} {base : Heap} {k : Nat} {f : Addr} {name qual : Str} {params : Arguments} {body : List Stmt} {scope : Scope} {dV kV doc pm cdv ct oc : Value} {an od : Option Addr} {osl : Array (Option Value)} {N ps : List Str} {sp : Sp}
    (lk : K.lookup f = some ⟨oc, od, .func (PySem.W.fnOf name qual params body scope dV kV doc pm an cdv ct), osl⟩) (hcd : PySem.W.codeIn K cdv qual = true) (S : FnScope N ps scope) (len : ∀ vs H Q E, sp vs H Q E → vs.length = ps.length)
    (hbody : ∀ (A : Around) (outer : List Env) (s : Shared) (H : Hp) (vs : List V) (Q : VK) (E : XK), A.guards = some [] → Room k (A.deeper (envOfC qual scope s.heap.objs.size f cdv)) → sp vs H Q E → ∃ t, PSs (cxOf CX P w K mg base N qual scope f cdv A outer s H E) body t ∧ t ⟨fun _ H' => Q .non H', Q, fun _ _ => False, fun _ _ => False⟩ (L2.start N vs) H) :
    FnG P w K mg base CX (k + 1) f (PySem.W.fnOf name qual params body scope dV kV doc pm an cdv ct) ps sp := by
  refine ⟨len, fun A outer s H args us vs Q E gA hr e0 hbd rv hsp => ?_⟩
  have lenV := len vs H Q E hsp
  have inS : K.In s.heap := PySem.W.Frag.In.keeps e0.mod.kin fun b o e => (e0.bs b o e).1
  have noL : s.heap.NoLimit := Heap.NoLimit.keeps e0.mod.nolimit fun b o e => (e0.bs b o e).1
  have kinds : ∀ x : Str × Value, x ∈ ps.zip us → List.lookup x.1 scope.names = some .local ∨ (List.lookup x.1 scope.names = some .cell ∧ (List.lookup x.1 (cellsFrom (s.heap.objs.size + 1) scope.names [])).isSome = true) := by
    rintro ⟨n, v⟩ hy
    rcases S.par n (List.of_mem_zip hy).1 with c | c
    · exact .inl c
    · exact .inr ⟨c, PySem.W.cellsFrom_some scope.names (s.heap.objs.size + 1) [] (.inl c)⟩
  refine codeAny_call_function hr.depth (inS f _ lk) rfl S.co S.gen rfl (PySem.W.codeRec_of inS hcd) (hbd (model P w) A.in1 _ _ (wpAny_newFunctionEnv_cells S.kind kinds fun env he s1 x => ?_))
  subst he
  refine ⟨Heap.NoLimit.keeps noL x.toInCall.keep, codeAny_func ?_⟩
  obtain ⟨t, ht, hq⟩ := hbody A outer s H vs Q E gA (hr.deeper _) hsp
  have I := inv_start (CX := CX) (E := E) S hr.hd e0 lenV rv x
  refine wpAny_mono (ht.run [] s1 (L2.start N vs) H _ I hq) (fun fl s' hs => ?_) fun e s' hs => hs
  cases fl with
  | next =>
    obtain ⟨σ', H', J, q⟩ := hs
    exact ⟨.non, H', J.os, J.bare, J.base, J.hok, (show RelV .non Value.none from rfl), q⟩
  | ret u =>
    obtain ⟨v, σ', H', J, ru, q⟩ := hs
    exact ⟨v, H', J.os, J.bare, J.base, J.hok, ru, q⟩
  | _ =>
    obtain ⟨_, _, _, q⟩ := hs
    exact q.elim
theorem okG {P : Program} {w : World} {K : PySem.W.Frag} {mg : Str → Option Value} {base : Heap} {x qual : Str} {st : Stmt} {f : Addr} {fd : FuncData} {N ps : List Str} {k : Nat} {sp : Sp} (F : Fun K x qual st f fd) (S : FnScope N ps (defScope st)) (len : ∀ vs H Q E, sp vs H Q E → vs.length = ps.length)
    (hbody : ∀ (cdv : Value) (A : Around) (outer : List Env) (s : Shared) (H : Hp) (vs : List V) (Q : VK) (E : XK), A.guards = some [] → Room k (A.deeper (envOfC qual (defScope st) s.heap.objs.size f cdv)) → sp vs H Q E → ∃ t, PSs (cxOf CX0 P w K mg base N qual (defScope st) f cdv A outer s H E).nox (defBody st) t ∧ t ⟨fun _ H' => Q .non H', Q, fun _ _ => False, fun _ _ => False⟩ (L2.start N vs) H) : FnG P w K mg base CX0 (k + 1) f fd ps sp := by
  obtain ⟨oc, od, kV, doc, pm, an, cdv, ct, osl, rfl, lk, hcd⟩ := F.ex
  refine fn_ofG lk hcd S len fun A outer s H vs Q E g hr hsp => ?_
  obtain ⟨t, h, q⟩ := hbody cdv A outer s H vs Q E g hr hsp
  exact ⟨t, h.nox, q⟩
theorem ofOk {P : Program} {w : World} {K : PySem.W.Frag} {mg : Str → Option Value} {base : Heap} {CX : CXT} {k : Nat} {f : Addr} {fd : FuncData} {ps : List Str} {sp : Sp} (F : FnOk P w K mg base CX k f fd ps sp) : FnG P w K mg base CX k f fd ps sp :=
  ⟨F.len, fun A outer s H args us vs Q E _ hr e0 hb r h => F.run A outer s H args us vs Q E hr e0 hb r h⟩
section
variable {X : Cx} {CX : CXT} {k : Nat} {f : Addr} {fd : FuncData} {ps : List Str} {sp : Sp} {dvs : List V} {ds : List Value} {E : XK} {x : Str} {e : Expr} {es : List Expr} {t : TA} {p pos : Pos}
theorem run_fnG {pins : List (Addr × Obj)} {σ : L2.St} {H : Hp} {s : Shared} {Q : VK} {us : List Value} {vs : List V} (gA : X.A.guards = some []) (F : FnG X.prog X.w X.K X.mg X.base CX k f fd ps sp) (hr : Room k X.A) (hb : Binds X.K fd ps ds) (hd : Vals dvs ds) (hx : Passes CX X E) (I : L2.Inv X pins σ H s) (r : Vals vs us) (h : sp (vs ++ dvs) H Q E) :
    wpAny (model X.prog X.w) X.A (call (.ref f) us) (EP X pins σ Q) X.xe s := by
  have r2 := Vals.append r hd
  have hl : (us ++ ds).length = ps.length := by rw [← r2.length]; exact F.len _ _ _ _ h
  refine wpAny_call (codeAny_mono (F.run X.A X.stack s H ⟨us, []⟩ (us ++ ds) (vs ++ dvs) Q E gA hr I.env0 (hb s us I.kIn hl) r2 h) fun r' s' hq => ?_)
  cases r' with
  | error e => exact hx pins σ H s e s' I hq
  | ok fl =>
    cases fl with
    | ret v => exact I.after hq
    | _ => exact hq.elim
/-- x(e, ..) by such a promise -/
theorem pe_callG (gA : X.A.guards = some []) (F : FnG X.prog X.w X.K X.mg X.base CX k f fd ps sp) (hr : Room k X.A) (hg : Gl X x) (hm : X.mg x = some (.ref f)) (hk : PySem.W.keepIn X.K (.ref f) = true) (hb : Binds X.K fd ps ds) (hd : Vals dvs ds) (hx : Passes CX X E) (ha : PA X (e :: es) t) (hdb : (x == ("__debug__" : Str)) = false := by decide)
    (h1 : starEach (e :: es) X.env = (false, eval e X.env) :: starEach es X.env := by rfl) (h2 : (backTo pos (starEach es X.env)).any (·.1) = false := by rfl) : PE X (.Call (.Name x p) (e :: es) [] pos) (tCall sp dvs E t) :=
  ⟨fun pins s τ H Q I h => wpAny_Call_Name_kw (ld_glob I hg hm (PySem.W.callWith_K (h₀ := X.base) I.ok.mod.kin hk (thn (ha.run pos pins s τ H (fun vs H1 => sp (vs ++ dvs) H1 Q E) I h) fun us s1 ⟨vs, H1, I1, r, q⟩ => ⟨I1.kIn, run_fnG gA F hr hb hd hx I1 r q⟩) h1 h2) hdb)⟩
end
/-- repr of nested data -/
theorem call_reprG {X : Cx} (gA : X.A.guards = some []) (hu : X.A.units + 64 < cLine) : CallR X (.builtin "repr") (fun xs H Q => ∃ a d, xs = [.ref a] ∧ Dp X.K H (.ref a) d ∧ d.showable = true ∧ d.hasDict = false ∧ d.depth ≤ 32 ∧ d.shown.length ≤ sizeLine ∧ Q (.str d.shown) H) := by
  intro pins s σ H xs us Q I r h
  obtain ⟨a, d, rfl, dp, sh, nd, de, hl, q⟩ := h
  obtain ⟨u, rfl, ru⟩ := r.one
  cases (show u = Value.ref a from ru)
  obtain ⟨as, rd⟩ := Dp.reads I d (.ref a) (.ref a) dp rfl
  refine repr_of_reads' rd sh (fun z => by rw [nd] at z; cases z) gA (by omega) (fun b o e => e) (fun h' u tk keep => ?_) hl
  exact ⟨.str _, H, I.kept keep, ⟨_, rfl⟩, q⟩
/-- what repr shows of a value -/
inductive Rpr (K : PySem.W.Frag) (H : Hp) : V → Str → Prop where
  | flat {v : V} (h : reprOk v) : Rpr K H v (reprV v)
  | dat {a : Addr} {d : PyData} (h : Dp K H (.ref a) d) (sh : d.showable = true) (nd : d.hasDict = false) (de : d.depth ≤ 32) (hl : d.shown.length ≤ sizeLine) : Rpr K H (.ref a) d.shown
  | emp {a : Addr} (h : H a = some (.dK [])) : Rpr K H (.ref a) (PyData.dict []).shown
theorem call_repr {X : Cx} (gA : X.A.guards = some []) (hu : X.A.units + 64 < cLine) : CallR X (.builtin "repr") (fun xs H Q => ∃ v z, xs = [v] ∧ Rpr X.K H v z ∧ Q (.str z) H) := by
  intro pins s σ H xs us Q I r h
  obtain ⟨v, z, rfl, rp, q⟩ := h
  cases rp with
  | flat h => exact call_reprF pins s σ H _ us Q I r ⟨v, rfl, h, q⟩
  | dat h sh nd de hl => exact call_reprG gA hu pins s σ H _ us Q I r ⟨_, _, rfl, h, sh, nd, de, hl, q⟩
  | @emp a h =>
    obtain ⟨u, rfl, ru⟩ := r.one
    cases (show u = Value.ref a from ru)
    obtain ⟨_, ns, vs, kv, o, es, ep, g, ex, dd, ko, prs, nd⟩ := I.hok a _ h
    have hv : vs = [] := by cases kv; rfl
    subst hv
    have he : es.toList = [] := by
      cases hE : es.toList with
      | nil => rfl
      | cons e l =>
        rw [hE] at prs
        cases prs
    have rd : Reads s.heap (.ref a) (.dict []) (a :: [] ++ []) := .dict (as := []) (bs := []) g ex.1 dd (by rw [he]; exact .nil) (by rw [he]; exact .nil)
    have dp : PyData.depth (.dict []) ≤ 1 := by decide
    refine repr_of_reads' rd (by decide) (fun _ m => ?_) gA (by omega) (fun b o e => e) (fun h' u tk keep => ?_) (by decide)
    · simp only [List.append_nil, List.mem_singleton] at m
      rw [← m] at ns
      simp at ns
    · exact ⟨.str _, H, I.kept keep, ⟨_, rfl⟩, q⟩
theorem call_reprS {X : Cx} {b : Addr} {pn : List (Addr × Obj)} (gA : X.A.guards = some []) (hu : X.A.units + 64 < cLine) : CallR (X.suite b pn) (.builtin "repr") (fun xs H Q => ∃ v z, xs = [v] ∧ Rpr X.K H v z ∧ Q (.str z) H) := call_repr (X := X.suite b pn) gA hu
/-! ## a law's own call -/
theorem law_callG {P : Program} {w : World} {K : PySem.W.Frag} {mg mb : Str → Option Value} {CX : CXT} {k : Nat} {fa a : Addr} {fd : FuncData} {x : Str} {sp : Sp} {s₁ : Shared} {vs : List Value} {ns : List Int}
    (inS : K.In s₁.heap) (hns : s₁.heap.Ns mainGlobals mg) (hb : s₁.heap.Ns builtinsNs mb) (hbb : ∀ x : Str, x ≠ "__name__" → mb x = bootBuiltins x) (hlim : s₁.heap.NoLimit) (hg : s₁.gens = #[]) (ha : s₁.heap.get? a = some { cls := .type "list", data := .seq vs.toArray }) (hi : IntsAre vs ns) (hl : ns.length ≤ sizeLine) (hr : Room k callerA)
    (F : ∀ base : Heap, K.In base → base.Ns mainGlobals mg → FnG P w K mg base CX k fa fd [x] sp) (hbind : ∀ (s : Shared) (u : Value), BindsTo s fd ⟨[u], []⟩ [(x, u)])
    (hsp : ∀ H, Only H → SqL K H a (ns.map V.int) → sp [.ref a] H (fun v _ => v = .bl true) (fun _ _ _ => False)) (hCX : ∀ H e s', CX [] H s₁ (fun _ _ _ => False) e s' → False) :
    codeAny (model P w) callerA (.call (.ref fa) ⟨[.ref a], []⟩) (fun r s' => r = .ok (.ret (.bool true)) ∧ OldK s₁.heap s'.heap ∧ s'.os = s₁.os ∧ AllBare s'.gens) s₁ := by
  have rv := vals_ints hi
  have lenV : vs.length = ns.length := hi.length
  have core : ∀ H : Hp, Only H → SqL K H a (ns.map V.int) → HOk P w H s₁.heap → (∀ b, H b ≠ none → b = a) → (H a ≠ none → K.lookup a = none) →
      codeAny (model P w) callerA (.call (.ref fa) ⟨[.ref a], []⟩) (fun r s' => r = .ok (.ret (.bool true)) ∧ OldK s₁.heap s'.heap ∧ s'.os = s₁.os ∧ AllBare s'.gens) s₁ := by
    intro H hO hS hok only hK
    have other : ∀ {b : Addr} {u : HO}, H b = some u → b = a := fun {b u} q => only b (by rw [q]; exact Option.some_ne_none u)
    have noD : ∀ {b : Addr} {o : Obj} {es ep}, s₁.heap.get? b = some o → o.data = .dict es ep → H b = none := by
      intro b o es ep e d
      cases q : H b with
      | none => rfl
      | some u =>
        obtain rfl := other q
        rw [ha] at e
        cases e
        cases d
    have nsH : ∀ {b : Addr} {m : Str → Option Value}, s₁.heap.Ns b m → (hidT s₁.heap H).Ns b m := by
      rintro b m ⟨o, es, ep, e, d, r⟩
      exact ⟨o, es, ep, hidT_get e (noD e d), d, r⟩
    have inH : K.In (hidT s₁.heap H) := by
      intro b o e
      refine hidT_get (inS b o e) ?_
      cases q : H b with
      | none => rfl
      | some u =>
        obtain rfl := other q
        have z := hK (by rw [q]; exact Option.some_ne_none u)
        rw [z] at e
        cases e
    have md : L2.Mod K mg (hidT s₁.heap H) := ⟨inH, nsH hns, ⟨mb, nsH hb, hbb⟩, by
      obtain ⟨mc, h1, h2⟩ := hlim
      exact ⟨mc, nsH h1, h2⟩⟩
    have e0 : Env0 P w K mg (hidT s₁.heap H) callerA [] s₁ H := { frames := rfl, mod := md, bs := fun b o e => of_hidT e, bsz := Nat.le_of_eq (hidT_size s₁.heap H), funs := trivial, frf := fun b hb => absurd hb List.not_mem_nil, hok := hok, bare := AllBare.of_eq hg }
    refine codeAny_mono ((F (hidT s₁.heap H) inH (nsH hns)).run callerA [] s₁ H ⟨[.ref a], []⟩ [.ref a] [.ref a] (fun v _ => v = .bl true) (fun _ _ _ => False) rfl hr e0 (hbind s₁ _) (.cons rfl .nil) (hsp H hO hS)) fun r s' h => ?_
    cases r with
    | error e => exact (hCX H e s' h).elim
    | ok fl =>
      cases fl with
      | ret u =>
        obtain ⟨v, H', os, bare, un, hok', rr, rfl⟩ := h
        cases (show u = Value.bool true from rr)
        refine ⟨rfl, OldK.of_keep fun b o e => ?_, os, bare⟩
        cases q : H b with
        | none => exact un.keep b o e q (fun z => absurd z List.not_mem_nil) (fun z => absurd z List.not_mem_nil)
        | some u =>
          rcases hO b with z | ⟨ob, xs, z⟩
          · rw [q] at z
            cases z
          · have h1 : s₁.heap.get? b = some ob := (hok b _ z).1
            have h2 : s'.heap.get? b = some ob := (hok' b _ (un.frzs b ob _ z)).1
            rw [h2, ← h1, e]
      | _ => exact h.elim
  cases hk : K.lookup a with
  | none =>
    refine core (fun b => if b = a then some (.frz { cls := .type "list", data := .seq vs.toArray } (.lst (ns.map V.int))) else none) (fun b => ?_) (.inl (.inr ⟨_, if_pos rfl⟩)) (fun b u z => ?_) (fun b z => ?_) (fun _ => hk)
    · by_cases e : b = a
      · exact .inr ⟨_, _, if_pos e⟩
      · exact .inl (if_neg e)
    · by_cases e : b = a
      · subst e
        have z' := (if_pos rfl).symm.trans z
        cases z'
        exact ⟨ha, by rw [List.length_map]; exact hl, vs, 0, rv, ha⟩
      · have z' := (if_neg e).symm.trans z
        cases z'
    · by_cases e : b = a
      · exact e
      · exact absurd (if_neg e) z
  | some o =>
    have e := inS a o hk
    rw [ha] at e
    cases e
    exact core (fun _ => none) (fun _ => .inl rfl) (.inr ⟨_, vs.toArray, 0, hk, rfl, rfl, rfl, by rw [List.size_toArray, lenV]; exact hl, rv⟩) (fun b u z => nomatch z) (fun b z => absurd rfl z) (fun z => absurd rfl z)
end K7E
end
/-! ## KW -/
section
namespace K7E
open PySem PySem.Spec PyProof.Rows L2 PySem.W
theorem walk_ofG {l : PySem.W.OpenLaw} {n k : Nat} {q : Program} {loose : List Str} {XP : (Str → Option Value) → Heap → Prop} {YP : World → Heap → Prop} {d : DefRec} {K : Params → PySem.W.Frag} {CX : World → CXT} {sp : World → Sp} {x : Str}
    (hn : l.most = some n) (hn2 : n ≤ sizeLine) (hdf : d.params.defaults = []) (hr : Room k callerA) (hY : ∀ w h, YP w h → (K w.params).In h)
    (F : ∀ (w : World) (mg : Str → Option Value) (fa : Addr) (h : Heap), (K w.params).In h → h.Ns mainGlobals mg → mg d.name = some (.ref fa) →
      ∃ fd, (∀ (s : Shared) (u : Value), BindsTo s fd ⟨[u], []⟩ [(x, u)]) ∧ ∀ base : Heap, (K w.params).In base → base.Ns mainGlobals mg → FnG l.prog w (K w.params) mg base (CX w) k fa fd [x] (sp w))
    (hsp : ∀ (w : World) (H : Hp) (a : Addr) (ns : List Int), ns.length ≤ n → (∀ z ∈ ns, Builtin.Int.intBits z ≤ 1048576) → Only H → SqL (K w.params) H a (ns.map V.int) → sp w [.ref a] H (fun v _ => v = .bl true) (fun _ _ _ => False))
    (hCX : ∀ (w : World) H s e s', CX w [] H s (fun _ _ _ => False) e s' → False) : PySem.W.WalkO q loose XP YP l.row.toRowW d [] fun f vs => call f vs := by
  refine Att.attach_callB hn hdf fun w s₀ s₁ mg mb fa o pm cd doc a vs ns G Y ho hd hcd hmg hobj hints hlen hbits hg => ?_
  have inS := hY w s₁.heap Y
  obtain ⟨fd, hb, hF⟩ := F w mg fa s₁.heap inS G.T.g hmg
  exact law_callG inS G.T.g G.T.b G.T.builtins G.T.nolimit hg hobj hints (Nat.le_trans hlen hn2) hr hF hb (fun H hO hS => hsp w H a ns hlen hbits hO hS) fun H e s' => hCX w H s₁ e s'
end K7E
end
/-! ## P20 -/
section
open PySem PySem.Spec PyProof.Rows L2
namespace K7
abbrev N_law : List Str := ["_law_script", "_law_hand_here", "_law_n", "_law_plain", "_law_land_here", "_law_orders_here", "_law_order", "_law_moved", "_law_other", "_law_second", "_law_due", "_law_row", "_law_form", "_law_twin", "_law_lot", "_law_cell", "_law_couple", "_law_a", "_law_b", "_law_spoilt", "_law_bads", "_law_bad"]
abbrev s_law : Stmt := topS 39
theorem sc_law : FnScope ["_law_script", "_law_hand_here", "_law_n", "_law_plain", "_law_land_here", "_law_orders_here", "_law_order", "_law_moved", "_law_other", "_law_second", "_law_due", "_law_row", "_law_form", "_law_twin", "_law_lot", "_law_cell", "_law_couple", "_law_a", "_law_b", "_law_spoilt", "_law_bads", "_law_bad"] ["_law_script"] (defScope s_law) := ⟨rfl, rfl, rfl, by decide +kernel, rfl, by decide +kernel, by decide +kernel⟩
def sg (pre : List (Option V)) : L2.St := pre ++ List.replicate (22 - pre.length) none
theorem nstop {K : PySem.W.Frag} : NoStop K E0 := fun _ _ _ h => h.elim
theorem PlainAt.stay {h c : Addr} {H H' : Hp} {q : Addr} {n : Nat} {x : Part} (L : PlainAt H q n x) (s : Stay h c H H') : PlainAt H' q n x := by
  obtain ⟨rA, sA, ts, h1, h2, h3, h4⟩ := L.at_
  exact ⟨⟨rA, sA, ts, s.tup h1, s.lst h2 (notHand_refs _), s.tat h3, s.lst h4 (notHand_ints _)⟩, L.ok, L.n2, L.n5⟩
/-- what the law holds on to: the hand, the land, its orders -/
structure Wa (C h c q p O : Addr) (n : Nat) (x : Part) (ts : List Addr) (H : Hp) : Prop where
  hand : Hand H h c
  pl : PlainAt H q n x
  ld : LandO C H p n x.1 x.2
  os : H O = some (.lst (ts.map V.ref))
  tO : TAt H ts (ords n)
/-- an order of it too, and the land moved -/
structure Wb (C h c q p O o mv : Addr) (n : Nat) (x : Part) (ts : List Addr) (ord : List Nat) (H : Hp) : Prop where
  a : Wa C h c q p O n x ts H
  oo : H o = some (.tup (ints_ ord))
  io : IsOrd n ord
  mv : LandO C H mv n (ledE ord x.1) (ledR ord x.2)
section
variable {C h c q p O o mv : Addr} {n : Nat} {x : Part} {ts : List Addr} {ord : List Nat} {H H' : Hp}
theorem Wa.stay (W : Wa C h c q p O n x ts H) (s : Stay h c H H') : Wa C h c q p O n x ts H' := ⟨s.hand, W.pl.stay s, s.lo W.ld, s.lst W.os (notHand_refs _), s.tat W.tO⟩
theorem Wa.same (W : Wa C h c q p O n x ts H) (s : Same H H') : Wa C h c q p O n x ts H' := W.stay (.of_same W.hand s)
theorem Wa.drawn (W : Wa C h c q p O n x ts H) (s : Drawn H H' h c) : Wa C h c q p O n x ts H' := W.stay (.of_drawn W.hand s)
theorem Wb.stay (W : Wb C h c q p O o mv n x ts ord H) (s : Stay h c H H') : Wb C h c q p O o mv n x ts ord H' := ⟨W.a.stay s, s.tup W.oo, W.io, s.lo W.mv⟩
theorem Wb.same (W : Wb C h c q p O o mv n x ts ord H) (s : Same H H') : Wb C h c q p O o mv n x ts ord H' := W.stay (.of_same W.a.hand s)
theorem Wb.drawn (W : Wb C h c q p O o mv n x ts ord H) (s : Drawn H H' h c) : Wb C h c q p O o mv n x ts ord H' := W.stay (.of_drawn W.a.hand s)
end
section
variable {P : Program} {w : World} {K : PySem.W.Frag} {mg : Str → Option Value} {base : Heap} {a : AdL} {S fE : Addr}
theorem eqv_rowsT (us : List (List Nat)) : PyData.eqv (.tuple (us.map intD)) (.tuple (us.map intD)) = true := by
  rw [PyData.eqv, eqvAll_rows]
  exact decide_eq_true rfl
theorem eqv_rowsL (us : List (List Nat)) : PyData.eqv (.list (us.map intD)) (.list (us.map intD)) = true := by
  rw [PyData.eqv, eqvAll_rows]
  exact decide_eq_true rfl
theorem eqv_nil (us : List (List Nat)) : PyData.eqv (.list (us.map intD)) (.list []) = decide (us = []) := by
  rw [show PyData.eqv (.list (us.map intD)) (.list []) = PyData.eqvAll (us.map intD) (([] : List (List Nat)).map intD) from by rw [PyData.eqv]; rfl]
  exact eqvAll_rows us []
theorem lots_all : ∀ n : Fin 6, 2 ≤ n.val → 0 < (lotsTo (List.range n.val) n.val).length ∧ (lotsTo (List.range n.val) n.val).length ≤ 1000 ∧ (lotsTo (List.range n.val) n.val).all (fun l => decide (l.length ≤ 5)) = true := by decide +kernel
theorem allC_all : ∀ n : Fin 6, 2 ≤ n.val → 0 < (KL.allC n.val).length ∧ (KL.allC n.val).length ≤ 20 ∧ (KL.allC n.val).all (fun e => decide (e.1 < n.val ∧ e.2 < n.val)) = true := by decide +kernel
theorem any_ty {K : PySem.W.Frag} {t : String} (h1 : PySem.W.kitOne K (.type t) (.type "list") = some false) (h2 : PySem.W.kitOne K (.type t) (.type "tuple") = some false) : PySem.W.kitAny K (.type t) [.type "list", .type "tuple"] = some false := kitAny_cons (b := false) h1 (fun _ => kitAny_cons (b := false) h2 (fun _ => kitAny_nil) (fun z => nomatch z)) (fun z => nomatch z)
theorem cut_one {xs : List V} (h : 0 < xs.length) : (cutV xs (some 1) none).length < xs.length ∧ ∀ z ∈ cutV xs (some 1) none, z ∈ xs := by
  unfold cutV
  rw [show (some (1 : Int)) = some ((1 : Nat) : Int) from rfl, HT.sIx_nat, HT.sIx_none]
  refine ⟨?_, fun z hz => List.mem_of_mem_drop (List.mem_of_mem_take hz)⟩
  rw [List.length_take, List.length_drop]
  omega
theorem cells_short {n : Nat} {xs : List V} (h : xs.length < n) : cellsV (n : Nat) xs (n : Nat) = false := by
  unfold cellsV
  rw [decide_eq_false (by omega), Bool.false_and, Bool.false_and]
theorem zeros_bad {n : Nat} {zl : List V} (n2 : 2 ≤ n) (hl : zl.length = n) (hz : ∀ z ∈ zl, z = .int 0) : cellsV (n : Nat) zl (n : Nat) = false := by
  obtain ⟨k, rfl⟩ : ∃ k, n = k + 2 := ⟨n - 2, by omega⟩
  match zl, hl with
  | a :: b :: l, _ =>
    rw [hz a (List.mem_cons_self ..), hz b (List.mem_cons_of_mem _ (List.mem_cons_self ..))]
    unfold cellsV
    have : ¬ ((V.int 0 :: V.int 0 :: l).map intOf).Nodup := by
      intro h
      rw [List.map_cons, List.map_cons] at h
      exact (List.nodup_cons.mp h).1 (List.mem_cons_self ..)
    rw [decide_eq_false this, Bool.and_false]
theorem flat_rep : ∀ k : Nat, ((List.replicate k [V.int 0]).flatten).length = k ∧ ∀ z ∈ (List.replicate k [V.int 0]).flatten, z = .int 0
  | 0 => ⟨rfl, fun z hz => nomatch hz⟩
  | k + 1 => by
    obtain ⟨h1, h2⟩ := flat_rep k
    rw [List.replicate_succ, List.flatten_cons]
    refine ⟨by rw [List.length_append, h1]; exact Nat.add_comm 1 k, fun z hz => ?_⟩
    rcases List.mem_append.mp hz with hz | hz
    · exact List.mem_singleton.mp hz
    · exact h2 z hz
/-- what is no order -/
inductive WrongO (n : Nat) (H : Hp) (h : Addr) : V → Prop
  | non : WrongO n H h .non
  | str (s : Str) : WrongO n H h (.str s)
  | row {b : Addr} {xs : List V} (hb : H b = some (.lst xs)) (ne : b ≠ h) (fl : ∀ x ∈ xs, Flat4 x) (l : xs.length < 64) (cv : cellsV (n : Nat) xs (n : Nat) = false) : WrongO n H h (.ref b)
  | tup {b : Addr} {xs : List V} (hb : H b = some (.tup xs)) (ne : b ≠ h) (fl : ∀ x ∈ xs, Flat4 x) (l : xs.length < 64) (cv : cellsV (n : Nat) xs (n : Nat) = false) : WrongO n H h (.ref b)
theorem WrongO.stay {n : Nat} {H H' : Hp} {h c : Addr} {v : V} (w : WrongO n H h v) (s : Stay h c H H') : WrongO n H' h v := by
  cases w with
  | non => exact .non
  | str s => exact .str s
  | row hb ne fl l cv => exact .row (s.but _ _ ne hb) ne fl l cv
  | tup hb ne fl l cv => exact .tup (s.but _ _ ne hb) ne fl l cv
theorem WrongO.bad {K : PySem.W.Frag} {n : Nat} {H : Hp} {h : Addr} {v : V} (w : WrongO n H h v) : BadOrd K n H v := by
  cases w with
  | non => exact .inl ⟨"NoneType", fun _ _ => .base .non, any_ty (kit_ty (by decide +kernel)) (kit_ty (by decide +kernel))⟩
  | str z => exact .inl ⟨"str", fun _ _ => .base (.str z), any_ty (kit_ty (by decide +kernel)) (kit_ty (by decide +kernel))⟩
  | row hb ne fl l cv => exact .inr ⟨_, _, rfl, .inr hb, fun z hz => .flat (fl z hz), l, cv⟩
  | tup hb ne fl l cv => exact .inr ⟨_, _, rfl, .inl hb, fun z hz => .flat (fl z hz), l, cv⟩
/-- a heap without one of its objects -/
def hole (H : Hp) (L : Addr) : Hp := fun b => if b = L then none else H b
theorem hole_ne {H : Hp} {L b : Addr} (h : b ≠ L) : hole H L b = H b := if_neg h
theorem hole_at {H : Hp} {L b : Addr} {o : HO} (h : hole H L b = some o) : b ≠ L ∧ H b = some o := by
  by_cases e : b = L
  · rw [e] at h
    have h : (if L = L then none else H L) = some o := h
    rw [if_pos rfl] at h
    cases h
  · rw [hole_ne e] at h
    exact ⟨e, h⟩
theorem hole_new {H : Hp} {L : Addr} {o : HO} (h : H L = none) : Same H (hole (upd H L o) L) := fun b z hb => by
  have ne := ne_of_none hb h
  rw [hole_ne ne, upd_ne ne]
  exact hb
theorem hole_sub {H : Hp} {L : Addr} : Same (hole H L) H := fun b z hb => (hole_at hb).2
theorem hole_fill {H : Hp} {L : Addr} {o : HO} : Same (hole H L) (upd H L o) := fun b z hb => by
  obtain ⟨h1, h2⟩ := hole_at hb
  rw [upd_ne h1]
  exact h2
theorem hole_hand {H : Hp} {L h c : Addr} (hh : Hand H h c) (n1 : L ≠ h) (n2 : L ≠ c) : Hand (hole H L) h c := by
  obtain ⟨ns, i, x, t, h1, h2, B⟩ := hh
  exact ⟨ns, i, x, t, by rw [hole_ne (Ne.symm n1)]; exact h1, by rw [hole_ne (Ne.symm n2)]; exact h2, B⟩
theorem Stay.hole {H H' : Hp} {L h c : Addr} (s : Stay h c H H') (n1 : L ≠ h) (n2 : L ≠ c) : Stay h c (hole H L) (hole H' L) :=
  ⟨fun b o nb hb => by
    obtain ⟨h1, h2⟩ := hole_at hb
    rw [hole_ne h1]
    exact s.but b o nb h2, hole_hand s.hand0 n1 n2, hole_hand s.hand n1 n2⟩
theorem n200 {n : Nat} (h : n ≤ 5) : ((n : Nat) : Int) < 2 ^ 200 := by
  have : (5 : Int) < 2 ^ 200 := by decide
  omega
/-- two least forms are one exactly if an order leads the one land to the other -/
theorem same_least {n m : Nat} {x y : Part} (n2 : 0 < n) (n5 : n ≤ 5) (x32 : x.1.length ≤ 32) (hx : PartOk n x) (hy : PartOk m y) : decide (n = m ∧ (leastP n x).1 = (leastP m y).1 ∧ (leastP n x).2 = (leastP m y).2) = !decide (likeO n m x y = []) := by
  rw [← decide_not]
  refine decide_eq_decide.mpr ?_
  constructor
  · rintro ⟨rfl, h1, h2⟩ e
    obtain ⟨o, ho, eo⟩ := (least_iff n2 n5 x32 hx hy).mp (Prod.ext h1 h2)
    have mm : o ∈ likeO n n x y := List.mem_filter.mpr ⟨ho, decide_eq_true ⟨rfl, congrArg Prod.fst eo, congrArg Prod.snd eo⟩⟩
    rw [e] at mm
    cases mm
  · intro ne
    obtain ⟨o, mo⟩ := List.exists_mem_of_ne_nil _ ne
    obtain ⟨m1, m2⟩ := List.mem_filter.mp mo
    obtain ⟨rfl, h1, h2⟩ := of_decide_eq_true m2
    have e := leastP_same hx ⟨o, m1, Prod.ext h1 h2⟩ hy
    exact ⟨rfl, congrArg Prod.fst e, congrArg Prod.snd e⟩
theorem plain_land {H1 : Hp} {Q : VK} {E : XK} {n : Nat} {x : Part} {rA sA : Addr} {ts : List Addr} (ok : PartOk n x) (n2 : 2 ≤ n) (n5 : n ≤ 5) (h2 : H1 rA = some (.lst (ts.map V.ref))) (h3 : TAt H1 ts (pairs x.1)) (h4 : H1 sA = some (.lst (ints_ x.2)))
    (q : ∀ H' p, Same H1 H' → H1 p = none → LandO a.C H' p n x.1 x.2 → Q (.ref p) H') :
    ∀ p dx, H1 p = none → H1 dx = none → dx ≠ p → spLandI a (.ref p :: ([.int (n : Nat), .ref rA, .ref sA] ++ [])) (upd (upd H1 dx (.own p)) p (.ins a.C dx [])) (fun v H2 => v = .non ∧ Q (.ref p) H2) E := by
  refine new_land n2 n5 (.inr h2) (co_lit h3) (cos_es ok.ok n5) ok.ok.conn (.inr h4) ok.rlt ok.rnd ok.r0 ok.rn fun H' p es' rd' e nx Lo pe pr => ?_
  rw [srt_map ok.ok] at pe
  obtain rfl := es_is Lo.ok pe (ok.ok.sorted.imp fun h => h)
  obtain rfl := rd_is Lo.rso pr ok.rso
  exact q H' p e nx Lo
def spLaw (K : PySem.W.Frag) : Sp := fun vs H Q _ => ∃ (s : Addr) (ns : List Int), vs = [.ref s] ∧ SqL K H s (ns.map V.int) ∧ ns.length ≤ 63 ∧ ∀ H', Q (.bl true) H'
theorem ok_law (T : Tl K mg a) (T2 : Tk K a.C fE) {f fha fld fpk fdr flts flo fao fll flm flf flt flc frf frn flk fI pr gp : Addr} {fd fdha fdld fdpk fddr fdlts fdlo fdao fdll fdlm fdlf fdlt fdlc fdrf fdrn fdlk fdI fdE fdcp : FuncData} (F : Fun K "law" "law" s_law f fd)
    (Gha : FnOk P w K mg base CX0 1 fha fdha ["_law_script"] (spHand K)) (gha : mg "_law_hand" = some (.ref fha)) (kha : PySem.W.keepIn K (.ref fha) = true) (bha : Binds K fdha ["_law_script"] [])
    (Gld : FnOk P w K mg base CX0 4 fld fdld ["_law_hand_here", "_law_n"] spLand) (gld : mg "_law_land" = some (.ref fld)) (kld : PySem.W.keepIn K (.ref fld) = true) (bld : Binds K fdld ["_law_hand_here", "_law_n"] [])
    (Gpk : FnOk P w K mg base CX0 3 fpk fdpk ["_law_hand_here", "_law_things"] spPick) (gpk : mg "_law_pick" = some (.ref fpk)) (kpk : PySem.W.keepIn K (.ref fpk) = true) (bpk : Binds K fdpk ["_law_hand_here", "_law_things"] [])
    (Gdr : FnOk P w K mg base CX0 2 fdr fddr ["_law_hand_here", "_law_many"] spDraw) (gdr : mg "_law_draw" = some (.ref fdr)) (kdr : PySem.W.keepIn K (.ref fdr) = true) (bdr : Binds K fddr ["_law_hand_here", "_law_many"] [])
    (Glts : FnOk P w K mg base CX0 1 flts fdlts ["_law_cells"] spLots) (glts : mg "_law_lots" = some (.ref flts)) (klts : PySem.W.keepIn K (.ref flts) = true) (blts : Binds K fdlts ["_law_cells"] [])
    (Glo : FnOk P w K mg base CX0 1 flo fdlo ["_law_n"] spLOrd) (glo : mg "_law_orders" = some (.ref flo)) (klo : PySem.W.keepIn K (.ref flo) = true) (blo : Binds K fdlo ["_law_n"] [])
    (Gao : FnOk P w K mg base CX0 1 fao fdao ["many"] spAllO) (gao : mg "all_orders" = some (.ref fao)) (kao : PySem.W.keepIn K (.ref fao) = true) (bao : Binds K fdao ["many"] [])
    (Gll : FnOk P w K mg base CX0 1 fll fdll ["_law_order", "_law_plain"] spLLed) (gll : mg "_law_led" = some (.ref fll)) (kll : PySem.W.keepIn K (.ref fll) = true) (bll : Binds K fdll ["_law_order", "_law_plain"] [])
    (Glm : FnOk P w K mg base CX0 2 flm fdlm ["_law_plain"] spLLeast) (glm : mg "_law_least_of" = some (.ref flm)) (klm : PySem.W.keepIn K (.ref flm) = true) (blm : Binds K fdlm ["_law_plain"] [])
    (Glf : FnOk P w K mg base CX0 7 flf fdlf ["land"] (spLeastF a.C)) (glf : mg "least_form" = some (.ref flf)) (klf : PySem.W.keepIn K (.ref flf) = true) (blf : Binds K fdlf ["land"] [])
    (Glt : FnOk P w K mg base CX0 1 flt fdlt ["order", "lot"] spLedL) (glt : mg "led_lot" = some (.ref flt)) (klt : PySem.W.keepIn K (.ref flt) = true) (blt : Binds K fdlt ["order", "lot"] [])
    (Glc : FnOk P w K mg base CX0 1 flc fdlc ["order", "couple"] spLedC) (glc : mg "led_couple" = some (.ref flc)) (klc : PySem.W.keepIn K (.ref flc) = true) (blc : Binds K fdlc ["order", "couple"] [])
    (Grf : FnOk P w K mg base CX0 8 frf fdrf ["_law_land_here", "_law_order"] (spRef K a)) (grf : mg "_law_refused" = some (.ref frf)) (krf : PySem.W.keepIn K (.ref frf) = true) (brf : Binds K fdrf ["_law_land_here", "_law_order"] [])
    (Grn : FnOk P w K mg base (L2.CX P w) 7 frn fdrn ["land", "order"] (spRen K a S)) (grn : mg "renumbered" = some (.ref frn)) (krn : PySem.W.keepIn K (.ref frn) = true) (brn : Binds K fdrn ["land", "order"] [])
    (Glk : GFn P w K mg base 9 flk fdlk ["one", "other"] (spLike a)) (glk : mg "likenesses" = some (.ref flk)) (klk : PySem.W.keepIn K (.ref flk) = true) (blk : Binds K fdlk ["one", "other"] [])
    (MC : Mk K a.C fI) (GI : FnOk P w K mg base CX0 5 fI fdI ["self", "cells", "neighbours", "roads"] (spLandI a)) (bI : Binds K fdI ["self", "cells", "neighbours", "roads"] [])
    (Geq : FnOk P w K mg base CX0 1 fE fdE ["self", "other"] (spEqL a.C)) (beq : Binds K fdE ["self", "other"] [])
    (pc : PropOf K a.C "couples" pr gp) (Gcp : FnOk P w K mg base CX0 1 gp fdcp ["self"] (spCouples a.C)) (bcp : Binds K fdcp ["self"] [])
    (m_list : mg "list" = none) (m_range : mg "range" = none) (m_tuple : mg "tuple" = none) (m_sorted : mg "sorted" = none) : K7E.FnG P w K mg base CX0 13 f fd ["_law_script"] (spLaw K) := by
  refine K7E.okG F sc_law (fun vs H Q E h => ?_) (fun cdv A outer s H vs Q E hg hr h => ?_)
  · obtain ⟨s, ns, rfl, _⟩ := h
    rfl
  · obtain ⟨s0, ns, rfl, hS, hl, q⟩ := h
    refine ⟨_, (pss_cons (ps_set (i := 1) sc_law.nd rfl (by first | exact Or.inl rfl | exact Or.inr rfl) (pe_call Gha (hr.mono (by decide)) (by rfl) gha kha bha .nil pass0 (pa_cons (pv 0) pa_nil)))
 (pss_cons (ps_set (i := 2) sc_law.nd rfl (by first | exact Or.inl rfl | exact Or.inr rfl) (pe_call Gpk (hr.mono (by decide)) (by rfl) gpk kpk bpk .nil pass0 (pa_cons (pv 1) (pa_cons (pe_lst (pa_cons pe_int (pa_cons pe_int (pa_cons pe_int (pa_cons pe_int (pa_cons pe_int (pa_cons pe_int (pa_cons pe_int (pa_cons pe_int pa_nil))))))))) pa_nil))))
 (pss_cons (ps_set (i := 3) sc_law.nd rfl (by first | exact Or.inl rfl | exact Or.inr rfl) (pe_call Gld (hr.mono (by decide)) (by rfl) gld kld bld .nil pass0 (pa_cons (pv 1) (pa_cons (pv 2) pa_nil))))
 (Evl.pss_cut (ps_set (i := 4) sc_law.nd rfl (by first | exact Or.inl rfl | exact Or.inr rfl) (pe_make MC GI (hr.mono (by decide)) (by rfl) T.gC bI .nil pass0 (pa_cons (pv 2) (pa_cons (pe_ix ix_tup (pv 3) pe_int (fun _ _ => rfl)) (pa_cons (pe_ix ix_tup (pv 3) pe_int (fun _ _ => rfl)) pa_nil)))))
 (Evl.pss_cut (ps_set (i := 5) sc_law.nd rfl (by first | exact Or.inl rfl | exact Or.inr rfl) (pe_call Glo (hr.mono (by decide)) (by rfl) glo klo blo .nil pass0 (pa_cons (pv 2) pa_nil)))
 (Evl.pss_cut (ps_if (pw_or (pt_cmpR (op_neD hr.units) (pe_call Gao (hr.mono (by decide)) (by rfl) gao kao bao .nil pass0 (pa_cons (pv 2) pa_nil)) (pe_callTy call_tuple_of (by rfl) m_tuple boot_tuple (pa_cons (pv 5) pa_nil)) (nomark _)) (pw_or (pt_cmpR (op_neD hr.units) (pe_call Gao (hr.mono (by decide)) (by rfl) gao kao bao .nil pass0 (pa_cons pe_int pa_nil)) (pe_tup (pa_cons (pe_tup pa_nil) pa_nil)) (nomark _)) (pw_or1 (pt_cmpR (op_neD hr.units) (pe_call Gao (hr.mono (by decide)) (by rfl) gao kao bao .nil pass0 (pa_cons pe_int pa_nil)) (pe_tup (pa_cons (pe_tup (pa_cons pe_int pa_nil)) pa_nil)) (nomark _))))).pt
  (pss_one (ps_ret pe_bl))
  pss_nil)
 (Evl.pss_cut (ps_set (i := 6) sc_law.nd rfl (by first | exact Or.inl rfl | exact Or.inr rfl) (pe_call Gpk (hr.mono (by decide)) (by rfl) gpk kpk bpk .nil pass0 (pa_cons (pv 1) (pa_cons (pv 5) pa_nil))))
 (Evl.pss_cut (ps_set (i := 7) sc_law.nd rfl (by first | exact Or.inl rfl | exact Or.inr rfl) (pe_call Grn (hr.mono (by decide)) (by rfl) grn krn brn .nil passL (pa_cons (pv 4) (pa_cons (pe_callTy call_list_of (by rfl) m_list boot_list (pa_cons (pv 6) pa_nil)) pa_nil))))
 (Evl.pss_cut (ps_if (pw_or (pt_cmpR (op_neD hr.units) (pe_tup (pa_cons (pe_fld (pv 7) rfl) (pa_cons (pe_fld (pv 7) rfl) pa_nil))) (pe_call Gll (hr.mono (by decide)) (by rfl) gll kll bll .nil pass0 (pa_cons (pv 6) (pa_cons (pv 3) pa_nil))) (nomark _)) (pw_or1 (pt_cmpR op_ne (pe_fld (pv 7) rfl) (pv 2) (nomark _)))).pt
  (pss_one (ps_ret pe_bl))
  pss_nil)
 (Evl.pss_cut (ps_set (i := 8) sc_law.nd rfl (by first | exact Or.inl rfl | exact Or.inr rfl) (pe_call Gld (hr.mono (by decide)) (by rfl) gld kld bld .nil pass0 (pa_cons (pv 1) (pa_cons (pe_call Gpk (hr.mono (by decide)) (by rfl) gpk kpk bpk .nil pass0 (pa_cons (pv 1) (pa_cons (pe_lst (pa_cons (pv 2) (pa_cons (pv 2) (pa_cons (pv 2) (pa_cons pe_int (pa_cons pe_int pa_nil)))))) pa_nil))) pa_nil))))
 (Evl.pss_cut (ps_if (pt_cmpR op_eq (pe_call Gdr (hr.mono (by decide)) (by rfl) gdr kdr bdr .nil pass0 (pa_cons (pv 1) (pa_cons pe_int pa_nil))) pe_int (nomark _))
  (pss_one (ps_set (i := 8) sc_law.nd rfl (by first | exact Or.inl rfl | exact Or.inr rfl) (pe_tup (pa_cons (pv 2) (pa_cons (pe_callTy call_list_of (by rfl) m_list boot_list (pa_cons (pe_fld (pv 7) rfl) pa_nil)) (pa_cons (pe_callTy call_list_of (by rfl) m_list boot_list (pa_cons (pe_fld (pv 7) rfl) pa_nil)) pa_nil))))))
  pss_nil)
 (Evl.pss_cut (ps_set (i := 9) sc_law.nd rfl (by first | exact Or.inl rfl | exact Or.inr rfl) (pe_make MC GI (hr.mono (by decide)) (by rfl) T.gC bI .nil pass0 (pa_cons (pe_ix ix_tup (pv 8) pe_int (fun _ _ => rfl)) (pa_cons (pe_ix ix_tup (pv 8) pe_int (fun _ _ => rfl)) (pa_cons (pe_ix ix_tup (pv 8) pe_int (fun _ _ => rfl)) pa_nil)))))
 (Evl.pss_cut (ps_set (i := 10) sc_law.nd rfl (by first | exact Or.inl rfl | exact Or.inr rfl) (pe_lst pa_nil))
 (Evl.pss_cut (ps_if (pt_cmpR op_eq (pe_ix ix_tup (pv 8) pe_int (fun _ _ => rfl)) (pv 2) (nomark _))
  (pss_one (ps_setLc (i := 10) (own := [("_law_row", 11)]) (g := gName 11) rfl sc_law.nd rfl rfl (sw_true rfl rfl rfl (by decide +kernel)) (pi_list (pv 5)) (blkOk_by (own := [("_law_row", 11)]) (N := N_law) (sc := defScope s_law) (by decide +kernel)) (fun _ _ _ _ _ => (pg_name (i := 11) sc_law.nd rfl (by first | exact Or.inl rfl | exact Or.inr rfl))) (fun _ _ _ _ _ => (pts_one (pt_cmpR (show OpR _ _ (rEqD K) from op_eqD hr.units) (pe_call Gll (hr.mono (by decide)) (by rfl) gll kll bll .nil pass0 (pa_cons (pv 11) (pa_cons (pv 3) pa_nil))) (pe_tup (pa_cons (pe_callTy (show CallR _ (.type "tuple") (rTup_ K) from call_tuple_of) (by rfl) m_tuple boot_tuple (pa_cons (pe_ix (show IxR _ (rIxT K) from ix_tup) (pv 8) pe_int (fun _ _ => rfl)) pa_nil)) (pa_cons (pe_callTy (show CallR _ (.type "tuple") (rTup_ K) from call_tuple_of) (by rfl) m_tuple boot_tuple (pa_cons (pe_ix (show IxR _ (rIxT K) from ix_tup) (pv 8) pe_int (fun _ _ => rfl)) pa_nil)) pa_nil))) (nomark _)))) (fun _ _ _ _ _ => (pv 11))))
  pss_nil)
 (Evl.pss_cut (ps_if (pw_or (pt_cmpR (op_neD hr.units) (pe_listG (E := E0) (pgen_call Glk (hr.mono (by decide)) (by rfl) glk klk blk .nil (pa_cons (pv 4) (pa_cons (pv 9) pa_nil))) passL nstop (hr.mono (by decide)) (by rfl) m_list boot_list) (pv 10) (nomark _)) (pw_or1 (pt_cmpR (op_notInD (K7L.hu65 hr)) (pv 6) (pe_listG (E := E0) (pgen_call Glk (hr.mono (by decide)) (by rfl) glk klk blk .nil (pa_cons (pv 4) (pa_cons (pv 7) pa_nil))) passL nstop (hr.mono (by decide)) (by rfl) m_list boot_list) (by with_unfolding_all rfl)))).pt
  (pss_one (ps_ret pe_bl))
  pss_nil)
 (Evl.pss_cut (ps_par (by rfl) sc_law.nd (i := 12) (j := 13) rfl rfl (by decide) rfl rfl (pa_cons (pe_call Glf (hr.mono (by decide)) (by rfl) glf klf blf .nil pass0 (pa_cons (pv 4) pa_nil)) (pa_cons (pe_call Glf (hr.mono (by decide)) (by rfl) glf klf blf .nil pass0 (pa_cons (pv 9) pa_nil)) pa_nil)) (by rfl))
 (Evl.pss_cut (ps_if (pw_or (pt_cmpR (op_neD hr.units) (pe_tup (pa_cons (pe_fld (pv 12) rfl) (pa_cons (pe_fld (pv 12) rfl) pa_nil))) (pe_call Glm (hr.mono (by decide)) (by rfl) glm klm blm .nil pass0 (pa_cons (pv 3) pa_nil)) (nomark _)) (pw_or1 (pt_cmpR op_ne (pe_fld (pv 12) rfl) (pv 2) (nomark _)))).pt
  (pss_one (ps_ret pe_bl))
  pss_nil)
 (Evl.pss_cut (ps_if (pw_or (pt_cmpR op_ne (pe_cmpR (K7E.op_eqOwn Geq T2.eq T2.eqF beq (hr.mono (by decide)) pass0) (pv 12) (pv 13) (nomark _)) (pe_cmpR (op_neD hr.units) (pv 10) (pe_lst pa_nil) (nomark _)) (nomark _)) (pw_or1 (pt_not (pt_cmpR (K7E.op_eqOwn Geq T2.eq T2.eqF beq (hr.mono (by decide)) pass0) (pe_call Glf (hr.mono (by decide)) (by rfl) glf klf blf .nil pass0 (pa_cons (pv 7) pa_nil)) (pv 12) (nomark _))))).pt
  (pss_one (ps_ret pe_bl))
  pss_nil)
 (Evl.pss_cut (ps_set (i := 14) sc_law.nd rfl (by first | exact Or.inl rfl | exact Or.inr rfl) (pe_call Gpk (hr.mono (by decide)) (by rfl) gpk kpk bpk .nil pass0 (pa_cons (pv 1) (pa_cons (pe_call Glts (hr.mono (by decide)) (by rfl) glts klts blts .nil pass0 (pa_cons (pe_callTy (K7E.cr_list_rng rfl) (by rfl) m_list boot_list (pa_cons (pe_callTy K7E.cr_range1 (by rfl) m_range boot_range (pa_cons (pv 2) pa_nil)) pa_nil)) pa_nil)) pa_nil))))
 (Evl.pss_cut (ps_if (pt_cmpR (op_neD hr.units) (pe_call Glt (hr.mono (by decide)) (by rfl) glt klt blt .nil pass0 (pa_cons (pv 6) (pa_cons (pe_revL (pe_callTy call_list_of (by rfl) m_list boot_list (pa_cons (pv 14) pa_nil))) pa_nil))) (pe_callTy call_tuple_of (by rfl) m_tuple boot_tuple (pa_cons (pe_callB K7S.cr_sortA (by rfl) m_sorted boot_sorted (pa_cons (pe_lc (own := [("_law_cell", 15)]) (g := gName 15) (tt := tYes) rfl sc_law.nd (pi_tup (pv 14)) (blkOk_by (own := [("_law_cell", 15)]) (N := N_law) (sc := defScope s_law) (by decide +kernel)) (fun _ _ _ _ _ => (pg_name (i := 15) sc_law.nd rfl (by first | exact Or.inl rfl | exact Or.inr rfl))) (fun _ _ _ _ _ => pts_nil) (fun _ _ _ _ _ => (pe_ix (show IxR _ (rIxT K) from ix_tup) (pv 6) (pv 15) (fun _ _ => rfl)))) pa_nil)) pa_nil)) (nomark _))
  (pss_one (ps_ret pe_bl))
  pss_nil)
 (Evl.pss_cut (ps_set (i := 16) sc_law.nd rfl (by first | exact Or.inl rfl | exact Or.inr rfl) (pe_call Gpk (hr.mono (by decide)) (by rfl) gpk kpk bpk .nil pass0 (pa_cons (pv 1) (pa_cons (pe_lc (own := [("_law_a", 17), ("_law_b", 18)]) (g := gTup K 2 (gCons (gName 17) (gCons (gName 18) (gNil)))) (tt := tYes) rfl sc_law.nd (pi_tup (pe_prop (pv 4) T.cl pc Gcp (hr.mono (by decide)) bcp .nil pass0 rfl)) (blkOk_by (own := [("_law_a", 17), ("_law_b", 18)]) (N := N_law) (sc := defScope s_law) (by decide +kernel)) (fun _ _ _ _ _ => (pg_tup rfl (pgs_cons (pg_name (i := 17) sc_law.nd rfl (by first | exact Or.inl rfl | exact Or.inr rfl)) (pgs_cons (pg_name (i := 18) sc_law.nd rfl (by first | exact Or.inl rfl | exact Or.inr rfl)) pgs_nil)))) (fun _ _ _ _ _ => pts_nil) (fun _ _ _ _ _ => (pe_tup (pa_cons (pv 17) (pa_cons (pv 18) pa_nil))))) pa_nil))))
 (Evl.pss_cut (ps_if (pt_cmpR (op_neD hr.units) (pe_call Glc (hr.mono (by decide)) (by rfl) glc klc blc .nil pass0 (pa_cons (pv 6) (pa_cons (pe_callTy call_list_of (by rfl) m_list boot_list (pa_cons (pv 16) pa_nil)) pa_nil))) (pe_tup (pa_cons (pe_ix ix_tup (pv 6) (pe_ix ix_tup (pv 16) pe_int (fun _ _ => rfl)) (fun _ _ => rfl)) (pa_cons (pe_ix ix_tup (pv 6) (pe_ix ix_tup (pv 16) pe_int (fun _ _ => rfl)) (fun _ _ => rfl)) pa_nil))) (nomark _))
  (pss_one (ps_ret pe_bl))
  pss_nil)
 (Evl.pss_cut (ps_set (i := 19) sc_law.nd rfl (by first | exact Or.inl rfl | exact Or.inr rfl) (pe_callTy call_list_of (by rfl) m_list boot_list (pa_cons (pv 6) pa_nil)))
 (Evl.pss_cut (ps_asg (pe_call Gpk (hr.mono (by decide)) (by rfl) gpk kpk bpk .nil pass0 (pa_cons (pv 1) (pa_cons (pe_lst (pa_cons (pv 2) (pa_cons (pe_un un_neg pe_int) (pa_cons pe_bl (pa_cons pe_non (pa_cons pe_str (pa_cons (pe_op op_add (pv 2) (pe_op op_pow pe_int pe_int)) pa_nil))))))) pa_nil))) (pg_sub (pv 19) (pe_call Gdr (hr.mono (by decide)) (by rfl) gdr kdr bdr .nil pass0 (pa_cons (pv 1) (pa_cons (pv 2) pa_nil))) set_list))
 (Evl.pss_cut (ps_set (i := 20) sc_law.nd rfl (by first | exact Or.inl rfl | exact Or.inr rfl) (pe_lst (pa_cons (pv 19) (pa_cons (pe_slice sl_list (pe_callTy call_list_of (by rfl) m_list boot_list (pa_cons (pv 6) pa_nil)) (po_some pe_int) po_none) (pa_cons (pe_op op_cat (pe_callTy call_list_of (by rfl) m_list boot_list (pa_cons (pv 6) pa_nil)) (pe_lst (pa_cons (pv 2) pa_nil))) (pa_cons (pe_op op_rep (pe_lst (pa_cons pe_int pa_nil)) (pv 2)) (pa_cons pe_non (pa_cons pe_str (pa_cons (pe_callTy call_tuple_of (by rfl) m_tuple boot_tuple (pa_cons (pv 19) pa_nil)) pa_nil)))))))))
 (Evl.pss_cut (ps_for PassesOwn.never rfl (pi_tup (pe_tup (pa_cons (pe_ix ix_list (pv 20) (pe_call Gdr (hr.mono (by decide)) (by rfl) gdr kdr bdr .nil pass0 (pa_cons (pv 1) (pa_cons pe_int pa_nil))) (fun _ _ => rfl)) (pa_cons (pv 19) pa_nil)))) (pg_name (i := 21) sc_law.nd rfl (by first | exact Or.inl rfl | exact Or.inr rfl))
  (pss_one (ps_if (pt_not (pt_val (pe_call Grf (hr.mono (by decide)) (by rfl) grf krf brf .nil pass0 (pa_cons (pv 4) (pa_cons (pv 21) pa_nil)))))
  (pss_one (ps_ret pe_bl))
  pss_nil)))
 (pss_one (ps_ret (pe_cmpR (K7E.op_eqOwn Geq T2.eq T2.eqF beq (hr.mono (by decide)) pass0) (pv 4) (pe_make MC GI (hr.mono (by decide)) (by rfl) T.gC bI .nil pass0 (pa_cons (pv 2) (pa_cons (pe_ix ix_tup (pv 3) pe_int (fun _ _ => rfl)) (pa_cons (pe_ix ix_tup (pv 3) pe_int (fun _ _ => rfl)) pa_nil)))) (nomark _)))))))))))))))))))))))))))))), ?_⟩
    refine ⟨_, rfl, s0, ns, rfl, hS, hl, fun H1 h c e1 nh nc hh1 => ?_⟩
    -- a size
    refine ⟨_, rfl, by show 8 ≤ sizeLine; decide, fun lp nlp => ?_⟩
    have s1 := al (o := .lst [.int 2, .int 3, .int 4, .int 3, .int 4, .int 5, .int 4, .int 3]) nlp
    refine ⟨h, c, lp, _, rfl, hh1.same s1, (hh1.ne nlp).1, upd_same, by decide, by decide, fun H2 j v d2 hv => ?_⟩
    obtain ⟨n, rfl, n2, n5⟩ : ∃ n : Nat, v = .int (n : Nat) ∧ 2 ≤ n ∧ n ≤ 5 := by
      have m := List.mem_of_getElem? hv
      simp only [List.mem_cons, List.not_mem_nil, or_false] at m
      rcases m with rfl | rfl | rfl | rfl | rfl | rfl | rfl | rfl <;> first | exact ⟨2, rfl, by decide, by decide⟩ | exact ⟨3, rfl, by decide, by decide⟩ | exact ⟨4, rfl, by decide, by decide⟩ | exact ⟨5, rfl, by decide, by decide⟩
    -- a land
    refine ⟨_, rfl, _, rfl, h, c, n, rfl, d2.hand, n2, n5, fun H3 q0 es lot st nq La => ?_⟩
    have Lp := La.plain n2 n5
    generalize hx : ((es, lot) : Part) = x at Lp
    have hand3 := st.hand
    clear La
    refine ⟨fun τ H' => ∃ p, τ = sg [some (.ref s0), some (.ref h), some (.int (n : Nat)), some (.ref q0), some (.ref p)] ∧ Hand H' h c ∧ PlainAt H' q0 n x ∧ LandO a.C H' p n x.1 x.2, ?_, fun τ H' hM => ?_⟩
    · obtain ⟨rA, sA, ts, h1, h2, h3, h4⟩ := Lp.at_
      refine ⟨_, rfl, _, rfl, q0, _, _, _, rfl, rfl, .inl (.inl h1), atI_nat (j := 1) rfl, _, rfl, q0, _, _, _, rfl, rfl, .inl (.inl h1), atI_nat (j := 2) rfl, ?_⟩
      refine plain_land (a := a) (Q := fun w H1 => ∃ p, (sg [some (.ref s0), some (.ref h), some (.int (n : Nat)), some (.ref q0)]).set 4 (some w) = sg [some (.ref s0), some (.ref h), some (.int (n : Nat)), some (.ref q0), some (.ref p)] ∧ Hand H1 h c ∧ PlainAt H1 q0 n x ∧ LandO a.C H1 p n x.1 x.2) Lp.ok n2 n5 h2 h3 h4 fun H' p e nx Lo => ?_
      exact ⟨p, rfl, hand3.same e, Lp.same e, Lo⟩
    · obtain ⟨p, rfl, hd, Lp, Ld⟩ := hM
      -- its orders
      refine ⟨fun τ H' => ∃ O ts, τ = sg [some (.ref s0), some (.ref h), some (.int (n : Nat)), some (.ref q0), some (.ref p), some (.ref O)] ∧ Wa a.C h c q0 p O n x ts H', ?_, fun τ H' hM => ?_⟩
      · exact ⟨_, rfl, n, rfl, n5, fun H4 O ts e4 nO hO tO => ⟨O, ts, rfl, hd.same e4, Lp.same e4, Ld.same e4, hO, tO⟩⟩
      · obtain ⟨O, ts, rfl, W⟩ := hM
        clear hd Lp Ld
        have tl : ts.length = (ords n).length := W.tO.len
        have l120 : (ords n).length ≤ 120 := itO_len ⟨n, by omega⟩ ⟨n, by omega⟩ (Nat.le_refl _)
        refine ⟨fun τ H' => τ = sg [some (.ref s0), some (.ref h), some (.int (n : Nat)), some (.ref q0), some (.ref p), some (.ref O)] ∧ Wa a.C h c q0 p O n x ts H', ?_, fun τ H' hM => ?_⟩
        · refine ⟨_, rfl, n, rfl, n5, fun H1 u us e1 nu hu tU => ?_⟩
          refine ⟨_, rfl, O, _, rfl, .inl ⟨.inl (.inl (e1 _ _ W.os)), fun l nl => ?_⟩⟩
          have e2 := e1.trans (al (o := .tup (ts.map V.ref)) nl)
          have f2 := al (o := .tup (ts.map V.ref)) nl
          refine ⟨.tuple ((ords n).map intD), .tuple ((ords n).map intD), .tup (.inl (.inl (f2 _ _ hu))) (dp_rows (tU.same f2)), .tup (.inl (.inl upd_same)) (dp_rows (W.tO.same e2)), shapedT_rows _, shapedT_rows _, ?_⟩
          rw [eqv_rowsT]
          have W2 := W.same e2
          generalize upd H1 l (.tup (ts.map V.ref)) = H2 at W2 ⊢
          refine ⟨_, rfl, iteF ?_⟩
          -- no cell
          refine ⟨0, rfl, by decide, fun H3 u0 us0 e3 nu0 hu0 tU0 => ?_⟩
          refine ⟨by show 0 ≤ sizeLine; decide, fun z nz => ⟨by show 1 ≤ sizeLine; decide, fun y ny => ?_⟩⟩
          have f4 := al (o := .tup []) nz
          have f5 := f4.trans (al (o := .tup [.ref z]) ny)
          have hz : upd (upd H3 z (.tup [])) y (.tup [.ref z]) z = some (.tup []) := al (o := .tup [.ref z]) ny _ _ upd_same
          have hy : upd (upd H3 z (.tup [])) y (.tup [.ref z]) y = some (.tup [.ref z]) := upd_same
          have W3 := (W2.same e3).same f5
          have hu5 := f5 _ _ hu0
          have tU5 := tU0.same f5
          generalize upd (upd H3 z (.tup [])) y (.tup [.ref z]) = H5 at hz hy W3 hu5 tU5 ⊢
          refine ⟨.tuple ((ords 0).map intD), .tuple ((ords 0).map intD), .tup (.inl (.inl hu5)) (dp_rows tU5), .tup (.inl (.inl hy)) (dp_rows (.cons hz .nil)), shapedT_rows _, shapedT_rows _, ?_⟩
          rw [eqv_rowsT]
          refine ⟨_, rfl, iteF ?_⟩
          -- one cell
          refine ⟨1, rfl, by decide, fun H6 u1 us1 e6 nu1 hu1 tU1 => ?_⟩
          refine ⟨by show 1 ≤ sizeLine; decide, fun z1 nz1 => ⟨by show 1 ≤ sizeLine; decide, fun y1 ny1 => ?_⟩⟩
          have f4 := al (o := .tup [.int 0]) nz1
          have f5 := f4.trans (al (o := .tup [.ref z1]) ny1)
          have hz1 : upd (upd H6 z1 (.tup [.int 0])) y1 (.tup [.ref z1]) z1 = some (.tup [.int 0]) := al (o := .tup [.ref z1]) ny1 _ _ upd_same
          have hy1 : upd (upd H6 z1 (.tup [.int 0])) y1 (.tup [.ref z1]) y1 = some (.tup [.ref z1]) := upd_same
          have W6 := (W3.same e6).same f5
          have hu6 := f5 _ _ hu1
          have tU6 := tU1.same f5
          generalize upd (upd H6 z1 (.tup [.int 0])) y1 (.tup [.ref z1]) = H7 at hz1 hy1 W6 hu6 tU6 ⊢
          refine ⟨.tuple ((ords 1).map intD), .tuple ((ords 1).map intD), .tup (.inl (.inl hu6)) (dp_rows tU6), .tup (.inl (.inl hy1)) (dp_rows (.cons hz1 .nil)), shapedT_rows _, shapedT_rows _, ?_⟩
          rw [eqv_rowsT]
          exact ⟨_, rfl, iteF ⟨rfl, W6⟩⟩
        · obtain ⟨rfl, W⟩ := hM
          -- an order
          refine ⟨fun τ H' => ∃ o ord, τ = sg [some (.ref s0), some (.ref h), some (.int (n : Nat)), some (.ref q0), some (.ref p), some (.ref O), some (.ref o)] ∧ Wa a.C h c q0 p O n x ts H' ∧ H' o = some (.tup (ints_ ord)) ∧ IsOrd n ord, ?_, fun τ H' hM => ?_⟩
          · refine ⟨_, rfl, _, rfl, h, c, O, _, rfl, W.hand, W.hand.nel W.os (notHand_refs _), W.os, ?_, ?_, fun H7 j v d7 hv => ?_⟩
            · rw [List.length_map, tl]
              exact List.length_pos_iff.mpr fun e => leds_ne n x (by unfold leds; rw [e]; rfl)
            · rw [List.length_map, tl]
              omega
            · have W7 := W.drawn d7
              rw [List.getElem?_map] at hv
              obtain ⟨t, ht, rfl⟩ := Option.map_eq_some_iff.mp hv
              obtain ⟨ord, el, ho⟩ := W7.tO.get ht
              exact ⟨t, ord, rfl, W7, ho, mem_ords.mp (List.mem_of_getElem? el)⟩
          · obtain ⟨o, ord, rfl, W, ho, io⟩ := hM
            -- the land moved
            refine ⟨fun τ H' => ∃ mv, τ = sg [some (.ref s0), some (.ref h), some (.int (n : Nat)), some (.ref q0), some (.ref p), some (.ref O), some (.ref o), some (.ref mv)] ∧ Wb a.C h c q0 p O o mv n x ts ord H', ?_, fun τ H' hM => ?_⟩
            · refine ⟨_, rfl, _, rfl, o, _, rfl, .inr (.inl (.inl ho)), fun l nl => ?_⟩
              have e1 := al (o := .lst (ints_ ord)) nl
              refine ⟨p, n, x.1, x.2, _, rfl, W.ld.same e1, .inl ⟨l, ord, rfl, .inr upd_same, io, fun H7 mv e7 nmv Lm => ?_⟩⟩
              have e17 := e1.trans e7
              exact ⟨mv, rfl, W.same e17, e17 _ _ ho, io, Lm⟩
            · obtain ⟨mv, rfl, W⟩ := hM
              clear ho
              have n5' := n5
              have x32 : x.1.length ≤ 32 := es_len W.a.pl.ok.ok n5
              have po : PartOk n (led ord x) := led_ok io (by omega) n5 x32 W.a.pl.ok
              refine ⟨fun τ H' => τ = sg [some (.ref s0), some (.ref h), some (.int (n : Nat)), some (.ref q0), some (.ref p), some (.ref O), some (.ref o), some (.ref mv)] ∧ Wb a.C h c q0 p O o mv n x ts ord H', ?_, fun τ H' hM => ?_⟩
              · obtain ⟨dx, an, ar, ay, ac, tn, ty, tc, m1, m2, m3, m4, _⟩ := W.mv.at_
                refine ⟨_, rfl, mv, a.C, dx, _, _, rfl, m1, T.cl, T.nA _ (by decide), rfl, _, rfl, mv, a.C, dx, _, _, rfl, m1, T.cl, T.nA _ (by decide), rfl, by show 2 ≤ sizeLine; decide, fun t nt => ?_⟩
                have e1 := al (o := .tup [.ref an, .ref ar]) nt
                have pt : PartAt (upd H' t (.tup [.ref an, .ref ar])) t (led ord x) := ⟨an, ar, tn, upd_same, e1 _ _ m2, m3.same e1, e1 _ _ m4⟩
                have W1 := W.same e1
                generalize upd H' t (.tup [.ref an, .ref ar]) = H1 at pt W1 ⊢
                refine ⟨_, rfl, _, rfl, o, q0, n, x, ord, rfl, W1.oo, W1.a.pl, io, fun H2 u e2 nu pu => ?_⟩
                have W2 := W1.same e2
                refine ⟨partD (led ord x), partD (led ord x), dp_part (pt.same e2), dp_part pu, shaped_part _, shaped_part _, ?_⟩
                rw [eqv_part, decide_eq_true rfl]
                obtain ⟨dx, an, ar, ay, ac, tn, ty, tc, m1, _⟩ := W2.mv.at_
                refine ⟨_, rfl, iteF ⟨_, rfl, mv, a.C, dx, _, _, rfl, m1, T.cl, T.nA _ (by decide), rfl, ?_⟩⟩
                refine ⟨_, rfl, rfl, _, rfl, ?_⟩
                rw [decide_eq_true rfl]
                exact iteFo rfl ⟨rfl, W2⟩
              · obtain ⟨rfl, W⟩ := hM
                -- another land
                refine ⟨fun τ H' => ∃ q2 m y, τ = sg [some (.ref s0), some (.ref h), some (.int (n : Nat)), some (.ref q0), some (.ref p), some (.ref O), some (.ref o), some (.ref mv), some (.ref q2)] ∧ Wb a.C h c q0 p O o mv n x ts ord H' ∧ PlainAt H' q2 m y, ?_, fun τ H' hM => ?_⟩
                · refine ⟨_, rfl, _, rfl, _, rfl, _, rfl, _, rfl, by show 5 ≤ sizeLine; decide, fun lp nlp => ?_⟩
                  have e1 := al (o := .lst [.int (n : Nat), .int (n : Nat), .int (n : Nat), .int 2, .int 3]) nlp
                  refine ⟨h, c, lp, _, rfl, W.a.hand.same e1, (W.a.hand.ne nlp).1, upd_same, by show 0 < 5; decide, by show 5 ≤ 1000; decide, fun H2 j v d2 hv => ?_⟩
                  obtain ⟨m, rfl, m2, m5⟩ : ∃ m : Nat, v = .int (m : Nat) ∧ 2 ≤ m ∧ m ≤ 5 := by
                    have mm := List.mem_of_getElem? hv
                    simp only [List.mem_cons, List.not_mem_nil, or_false] at mm
                    rcases mm with rfl | rfl | rfl | rfl | rfl <;> first | exact ⟨n, rfl, n2, n5⟩ | exact ⟨2, rfl, by decide, by decide⟩ | exact ⟨3, rfl, by decide, by decide⟩
                  have W2 := (W.same e1).drawn d2
                  refine ⟨h, c, m, rfl, W2.a.hand, m2, m5, fun H3 q2 es2 lot2 st nq La => ?_⟩
                  exact ⟨q2, m, (es2, lot2), rfl, W2.stay st, La.plain m2 m5⟩
                · obtain ⟨q2, m, y, rfl, W, Lq⟩ := hM
                  refine ⟨fun τ H' => ∃ q2 m y, τ = sg [some (.ref s0), some (.ref h), some (.int (n : Nat)), some (.ref q0), some (.ref p), some (.ref O), some (.ref o), some (.ref mv), some (.ref q2)] ∧ Wb a.C h c q0 p O o mv n x ts ord H' ∧ PlainAt H' q2 m y, ?_, fun τ H' hM => ?_⟩
                  · refine ⟨_, rfl, h, c, 2, rfl, W.a.hand, by decide, by decide, fun H2 r d2 r0 r1 => ?_⟩
                    have W2 := W.drawn d2
                    have Lq2 := Lq.stay (.of_drawn W.a.hand d2)
                    refine ⟨rfl, _, rfl, ite2 (fun c1 => ?_) (fun c1 => ?_)⟩
                    · obtain ⟨dx, an, ar, ay, ac, tn, ty, tc, m1, m2, m3, m4, _⟩ := W2.mv.at_
                      refine ⟨_, rfl, _, rfl, mv, a.C, dx, _, _, rfl, m1, T.cl, T.nA _ (by decide), rfl, an, _, rfl, .inr (.inl (.inl m2)), fun A nA => ?_⟩
                      have e1 := al (o := .lst (tn.map V.ref)) nA
                      refine ⟨_, rfl, mv, a.C, dx, _, _, rfl, e1 _ _ m1, T.cl, T.nA _ (by decide), rfl, ar, _, rfl, .inr (.inl (.inl (e1 _ _ m4))), fun B nB => ?_⟩
                      have e2 := al (o := .lst (ints_ (led ord x).2)) nB
                      refine ⟨by show 3 ≤ sizeLine; decide, fun t nt => ?_⟩
                      have e3 := al (o := .tup [.int (n : Nat), .ref A, .ref B]) nt
                      have e13 := (e1.trans e2).trans e3
                      exact ⟨t, n, led ord x, rfl, W2.same e13, ⟨⟨A, B, tn, upd_same, e3 _ _ (e2 _ _ upd_same), m3.same e13, e3 _ _ upd_same⟩, po, n2, n5⟩⟩
                    · exact ⟨q2, m, y, rfl, W2, Lq2⟩
                  · clear W Lq
                    obtain ⟨q2, m, y, rfl, W, Lq⟩ := hM
                    have m2 := Lq.n2
                    have m5 := Lq.n5
                    have yo := Lq.ok
                    -- it is made
                    refine ⟨fun τ H' => ∃ s2, τ = sg [some (.ref s0), some (.ref h), some (.int (n : Nat)), some (.ref q0), some (.ref p), some (.ref O), some (.ref o), some (.ref mv), some (.ref q2), some (.ref s2)] ∧ Wb a.C h c q0 p O o mv n x ts ord H' ∧ PlainAt H' q2 m y ∧ LandO a.C H' s2 m y.1 y.2, ?_, fun τ H' hM => ?_⟩
                    · obtain ⟨rA, sA, ts2, h1, h2, h3, h4⟩ := Lq.at_
                      refine ⟨_, rfl, q2, _, _, _, rfl, rfl, .inl (.inl h1), atI_nat (j := 0) rfl, _, rfl, q2, _, _, _, rfl, rfl, .inl (.inl h1), atI_nat (j := 1) rfl, _, rfl, q2, _, _, _, rfl, rfl, .inl (.inl h1), atI_nat (j := 2) rfl, ?_⟩
                      refine plain_land (a := a) (Q := fun w H1 => ∃ s2, (sg [some (.ref s0), some (.ref h), some (.int (n : Nat)), some (.ref q0), some (.ref p), some (.ref O), some (.ref o), some (.ref mv), some (.ref q2)]).set 9 (some w) = sg [some (.ref s0), some (.ref h), some (.int (n : Nat)), some (.ref q0), some (.ref p), some (.ref O), some (.ref o), some (.ref mv), some (.ref q2), some (.ref s2)] ∧ Wb a.C h c q0 p O o mv n x ts ord H1 ∧ PlainAt H1 q2 m y ∧ LandO a.C H1 s2 m y.1 y.2) yo m2 m5 h2 h3 h4 fun H' s2 e nx Lo => ?_
                      exact ⟨s2, rfl, W.same e, Lq.same e, Lo⟩
                    · obtain ⟨s2, rfl, W, Lq, Ls⟩ := hM
                      -- the orders that lead the one to the other
                      refine ⟨fun τ H' => ∃ D, τ = sg [some (.ref s0), some (.ref h), some (.int (n : Nat)), some (.ref q0), some (.ref p), some (.ref O), some (.ref o), some (.ref mv), some (.ref q2), some (.ref s2), some (.ref D)] ∧ Wb a.C h c q0 p O o mv n x ts ord H' ∧ PlainAt H' q2 m y ∧ LandO a.C H' s2 m y.1 y.2 ∧ H' D = some (.lst []), ?_, fun τ H' hM => ?_⟩
                      · refine ⟨by show 0 ≤ sizeLine; decide, fun D nD => ?_⟩
                        have e := al (o := .lst []) nD
                        exact ⟨D, rfl, W.same e, Lq.same e, Ls.same e, upd_same⟩
                      · obtain ⟨D0, rfl, W, Lq, Ls, hD0⟩ := hM
                        refine ⟨fun τ H' => ∃ D us, τ = sg [some (.ref s0), some (.ref h), some (.int (n : Nat)), some (.ref q0), some (.ref p), some (.ref O), some (.ref o), some (.ref mv), some (.ref q2), some (.ref s2), some (.ref D)] ∧ Wb a.C h c q0 p O o mv n x ts ord H' ∧ LandO a.C H' s2 m y.1 y.2 ∧ H' D = some (.lst (us.map V.ref)) ∧ TAt H' us (likeO n m x y), ?_, fun τ H' hM => ?_⟩
                        · obtain ⟨rA, sA, ts2, h1, h2, h3, h4⟩ := Lq.at_
                          refine ⟨_, rfl, q2, _, _, _, rfl, rfl, .inl (.inl h1), atI_nat (j := 0) rfl, _, rfl, rfl, _, rfl, ite2 (fun c1 => ?_) (fun c1 => ?_)⟩
                          · have enm : n = m := by
                              have z := of_decide_eq_true c1
                              injection z with z
                              omega
                            refine ⟨_, rfl, O, rfl, ⟨_, .inl (.inl W.a.os)⟩, fun D hD => lc_list (xs := ts.map V.ref) (fun j H3 => Same H' H3 ∧ ∃ us, H3 D = some (.lst (us.map V.ref)) ∧ TAt H3 us (((ords n).take j).filter fun o => decide (n = m ∧ ledE o x.1 = y.1 ∧ ledR o x.2 = y.2)) ∧ us.length ≤ j) ⟨al hD, [], upd_same, .nil, Nat.le_refl _⟩ (fun j H3 _ pv => .inl (.inl (pv.1 _ _ W.a.os))) (fun j v H3 hv pv => ?_) (fun H3 pv => ?_)⟩
                            · obtain ⟨e3, us, hD3, tD, lu⟩ := pv
                              have hj := (List.getElem?_eq_some_iff.mp hv).1
                              rw [List.length_map] at hj
                              rw [List.getElem?_map] at hv
                              obtain ⟨t', ht', rfl⟩ := Option.map_eq_some_iff.mp hv
                              obtain ⟨o1, eo, ho⟩ := W.a.tO.get ht'
                              have io1 := mem_ords.mp (List.mem_of_getElem? eo)
                              have ft : ((ords n).take (j + 1)).filter (fun o => decide (n = m ∧ ledE o x.1 = y.1 ∧ ledR o x.2 = y.2)) = ((ords n).take j).filter (fun o => decide (n = m ∧ ledE o x.1 = y.1 ∧ ledR o x.2 = y.2)) ++ (if decide (n = m ∧ ledE o1 x.1 = y.1 ∧ ledR o1 x.2 = y.2) = true then [o1] else []) := by
                                rw [List.take_add_one, eo, List.filter_append]
                                show _ ++ ([o1].filter _) = _
                                rw [List.filter_cons]
                                rfl
                              refine ⟨rfl, _, rfl, _, rfl, t', q0, n, x, o1, rfl, e3 _ _ ho, W.a.pl.same e3, io1, fun H4 u e4 nu pa => ?_⟩
                              have e34 := e3.trans e4
                              refine ⟨_, rfl, q2, _, _, _, rfl, rfl, .inl (.inl (e34 _ _ h1)), atI_nat (j := 1) rfl, rA, _, rfl, .inl ⟨.inl (.inl (e34 _ _ h2)), fun l1 n1 => ?_⟩⟩
                              have f1 := al (o := .tup (ts2.map V.ref)) n1
                              refine ⟨_, rfl, q2, _, _, _, rfl, rfl, .inl (.inl (f1 _ _ (e34 _ _ h1))), atI_nat (j := 2) rfl, sA, _, rfl, .inl ⟨.inl (.inl (f1 _ _ (e34 _ _ h4))), fun l2 n2' => ?_⟩⟩
                              have f2 := al (o := .tup (ints_ y.2)) n2'
                              refine ⟨by show 2 ≤ sizeLine; decide, fun t nt => ?_⟩
                              have f3 := al (o := .tup [.ref l1, .ref l2]) nt
                              have f13 := (f1.trans f2).trans f3
                              have pt : PartAt _ t y := ⟨l1, l2, ts2, upd_same, f3 _ _ (f2 _ _ upd_same), (h3.same e34).same f13, f3 _ _ upd_same⟩
                              refine ⟨partD (led o1 x), partD y, dp_part (pa.same f13), dp_part pt, shaped_part _, shaped_part _, ?_⟩
                              rw [eqv_part]
                              have hD4 := f13 _ _ (e4 _ _ hD3)
                              have e5 : Same H3 _ := e4.trans f13
                              have ev : decide (led o1 x = y) = decide (n = m ∧ ledE o1 x.1 = y.1 ∧ ledR o1 x.2 = y.2) := decide_eq_decide.mpr ⟨fun e => ⟨enm, congrArg Prod.fst e, congrArg Prod.snd e⟩, fun e => Prod.ext e.2.1 e.2.2⟩
                              rw [ev]
                              refine ⟨_, rfl, ?_⟩
                              by_cases hc : decide (n = m ∧ ledE o1 x.1 = y.1 ∧ ledR o1 x.2 = y.2) = true
                              · rw [if_pos hc] at ft
                                rw [hc]
                                generalize upd (upd (upd H4 l1 (.tup (ts2.map V.ref))) l2 (.tup (ints_ y.2))) t (.tup [.ref l1, .ref l2]) = H5 at hD4 e5 ⊢
                                have up : ∀ b xs, H5 b = some (.tup xs) → upd H5 D (.lst (us.map V.ref ++ [.ref t'])) b = some (.tup xs) := fun b xs hb => by
                                  rw [upd_ne (fun z => by rw [z, hD4] at hb; cases hb)]
                                  exact hb
                                refine iteT ⟨_, rfl, _, hD4, by rw [List.length_map]; exact small1000 (by omega), fun b z hb => ?_, us ++ [t'], by rw [upd_same, List.map_append]; rfl, ?_, by rw [List.length_append, List.length_singleton]; omega⟩
                                · rw [upd_ne (ne_of_none hb hD)]
                                  exact e5 _ _ (e3 _ _ hb)
                                · rw [ft]
                                  exact ((tD.same e5).mono up).append (.cons (up _ _ (e5 _ _ (e3 _ _ ho))) .nil)
                              · rw [if_neg hc, List.append_nil] at ft
                                rw [Bool.eq_false_iff.mpr hc]
                                refine iteF ⟨e3.trans e5, us, hD4, ?_, by omega⟩
                                rw [ft]
                                exact tD.same e5
                            · obtain ⟨e3, us, hD3, tD, lu⟩ := pv
                              rw [List.length_map, tl, List.take_length] at tD
                              exact ⟨D, us, rfl, W.same e3, Ls.same e3, hD3, tD⟩
                          · have enm : ¬ n = m := fun z => c1 (decide_eq_true (by rw [z]))
                            refine ⟨D0, [], rfl, W, Ls, hD0, ?_⟩
                            have z : likeO n m x y = [] := List.filter_eq_nil_iff.mpr fun o _ hq => enm (of_decide_eq_true hq).1
                            rw [z]
                            exact .nil
                        · obtain ⟨D, us, rfl, W, Ls, hD, tD⟩ := hM
                          refine ⟨fun τ H' => τ = sg [some (.ref s0), some (.ref h), some (.int (n : Nat)), some (.ref q0), some (.ref p), some (.ref O), some (.ref o), some (.ref mv), some (.ref q2), some (.ref s2), some (.ref D)] ∧ Wb a.C h c q0 p O o mv n x ts ord H' ∧ LandO a.C H' s2 m y.1 y.2 ∧ H' D = some (.lst (us.map V.ref)) ∧ TAt H' us (likeO n m x y), ?_, fun τ H' hM => ?_⟩
                          · refine ⟨_, rfl, _, rfl, p, s2, n, m, x.1, y.1, x.2, y.2, rfl, W.a.ld, Ls, fun H1 us1 e1 tU lp nlp => ?_⟩
                            have e2 := al (o := .lst (us1.map V.ref)) nlp
                            have hl2 : upd H1 lp (.lst (us1.map V.ref)) lp = some (.lst (us1.map V.ref)) := upd_same
                            have e12 := e1.trans e2
                            have tU2 := tU.same e2
                            generalize upd H1 lp (.lst (us1.map V.ref)) = H2 at e12 hl2 tU2 ⊢
                            refine ⟨_, rfl, .list ((likeO n m x y).map intD), .list ((likeO n m x y).map intD), .lst (.inl (.inl hl2)) (dp_rows tU2), .lst (.inl (.inl (e12 _ _ hD))) (dp_rows (tD.same e12)), shaped_rows _, shaped_rows _, ?_⟩
                            rw [eqv_rowsL]
                            refine ⟨_, rfl, iteF ?_⟩
                            have W2 := W.same e12
                            refine ⟨_, rfl, _, rfl, _, rfl, p, mv, n, n, x.1, ledE ord x.1, x.2, ledR ord x.2, rfl, W2.a.ld, W2.mv, fun H3 us3 e3 tV lp3 nlp3 => ?_⟩
                            have e4 := al (o := .lst (us3.map V.ref)) nlp3
                            have e34 := e3.trans e4
                            have mo : ord ∈ likeO n n (x.1, x.2) (ledE ord x.1, ledR ord x.2) := List.mem_filter.mpr ⟨mem_ords.mpr io, decide_eq_true ⟨rfl, rfl, rfl⟩⟩
                            have an : ((likeO n n (x.1, x.2) (ledE ord x.1, ledR ord x.2)).map intD).any (fun z => PyData.eqv z (intD ord)) = true := List.any_eq_true.mpr ⟨intD ord, List.mem_map.mpr ⟨ord, mo, rfl⟩, by rw [eqv_intD]; exact decide_eq_true rfl⟩
                            refine ⟨intD ord, (likeO n n (x.1, x.2) (ledE ord x.1, ledR ord x.2)).map intD, .tup (.inl (.inl (e34 _ _ W2.oo))) (dp_ints ord), .lst (.inl (.inl upd_same)) (dp_rows (tV.same e4)), shaped_ints ord, shaped_rows _, ?_⟩
                            rw [an]
                            have e := e12.trans e34
                            exact ⟨_, rfl, iteFo rfl ⟨rfl, W.same e, Ls.same e, e _ _ hD, tD.same e⟩⟩
                          · obtain ⟨rfl, W, Ls, hD, tD⟩ := hM
                            -- the least forms
                            refine ⟨fun τ H' => ∃ fo tw, τ = sg [some (.ref s0), some (.ref h), some (.int (n : Nat)), some (.ref q0), some (.ref p), some (.ref O), some (.ref o), some (.ref mv), some (.ref q2), some (.ref s2), some (.ref D), none, some (.ref fo), some (.ref tw)] ∧ Wb a.C h c q0 p O o mv n x ts ord H' ∧ H' D = some (.lst (us.map V.ref)) ∧ TAt H' us (likeO n m x y) ∧ LandO a.C H' fo n (leastP n x).1 (leastP n x).2 ∧ LandO a.C H' tw m (leastP m y).1 (leastP m y).2, ?_, fun τ H' hM => ?_⟩
                            · refine ⟨_, rfl, p, n, x.1, x.2, rfl, W.a.ld, fun H1 fo e1 nf Lf => ?_⟩
                              refine ⟨_, rfl, s2, m, y.1, y.2, rfl, Ls.same e1, fun H2 tw e2 nt Lt => ?_⟩
                              have e := e1.trans e2
                              exact ⟨_, _, rfl, fo, tw, rfl, W.same e, e _ _ hD, tD.same e, Lf.same e2, Lt⟩
                            · obtain ⟨fo, tw, rfl, W, hD, tD, Lf, Lt⟩ := hM
                              clear Ls
                              refine ⟨fun τ H' => τ = sg [some (.ref s0), some (.ref h), some (.int (n : Nat)), some (.ref q0), some (.ref p), some (.ref O), some (.ref o), some (.ref mv), some (.ref q2), some (.ref s2), some (.ref D), none, some (.ref fo), some (.ref tw)] ∧ Wb a.C h c q0 p O o mv n x ts ord H' ∧ H' D = some (.lst (us.map V.ref)) ∧ TAt H' us (likeO n m x y) ∧ LandO a.C H' fo n (leastP n x).1 (leastP n x).2 ∧ LandO a.C H' tw m (leastP m y).1 (leastP m y).2, ?_, fun τ H' hM => ?_⟩
                              · obtain ⟨dx, an, ar, ay, ac, tn, ty, tc, m1, m2', m3, m4, _⟩ := Lf.at_
                                refine ⟨_, rfl, fo, a.C, dx, _, _, rfl, m1, T.cl, T.nA _ (by decide), rfl, _, rfl, fo, a.C, dx, _, _, rfl, m1, T.cl, T.nA _ (by decide), rfl, by show 2 ≤ sizeLine; decide, fun t nt => ?_⟩
                                have e1 := al (o := .tup [.ref an, .ref ar]) nt
                                have pt : PartAt (upd H' t (.tup [.ref an, .ref ar])) t (leastP n x) := ⟨an, ar, tn, upd_same, e1 _ _ m2', m3.same e1, e1 _ _ m4⟩
                                have W1 := W.same e1
                                generalize upd H' t (.tup [.ref an, .ref ar]) = H1 at e1 pt W1 ⊢
                                refine ⟨_, rfl, q0, n, x, rfl, W1.a.pl, fun H2 u e2 pu => ?_⟩
                                have e12 := e1.trans e2
                                refine ⟨partD (leastP n x), partD (leastP n x), dp_part (pt.same e2), dp_part pu, shaped_part _, shaped_part _, ?_⟩
                                rw [eqv_part, decide_eq_true rfl]
                                refine ⟨_, rfl, iteF ⟨_, rfl, fo, a.C, dx, _, _, rfl, e12 _ _ m1, T.cl, T.nA _ (by decide), rfl, ?_⟩⟩
                                refine ⟨_, rfl, rfl, _, rfl, ?_⟩
                                rw [decide_eq_true rfl]
                                exact iteFo rfl ⟨rfl, W.same e12, e12 _ _ hD, tD.same e12, Lf.same e12, Lt.same e12⟩
                              · clear W hD tD Lf Lt
                                obtain ⟨rfl, W, hD, tD, Lf, Lt⟩ := hM
                                refine ⟨fun τ H' => τ = sg [some (.ref s0), some (.ref h), some (.int (n : Nat)), some (.ref q0), some (.ref p), some (.ref O), some (.ref o), some (.ref mv), some (.ref q2), some (.ref s2), some (.ref D), none, some (.ref fo), some (.ref tw)] ∧ Wb a.C h c q0 p O o mv n x ts ord H', ?_, fun τ H' hM => ?_⟩
                                · obtain ⟨dx, an, ar, ay, ac, tn, ty, tc, f1, _⟩ := Lf.at_
                                  obtain ⟨dz, bn, br, by', bc, un, uy, uc, g1, _⟩ := Lt.at_
                                  refine ⟨_, rfl, _, rfl, fo, dx, _, tw, .ref a.C, rfl, rfl, f1, .base (.ins g1 T.cl T2.ha T2.hn T2.ht T2.hm), nfC K a.C, fo, tw, n, _, _, m, _, _, rfl, Lf, Lt, ?_⟩
                                  refine ⟨_, rfl, by show 0 ≤ sizeLine; decide, fun z nz => ?_⟩
                                  have e1 := al (o := .lst []) nz
                                  refine ⟨.list ((likeO n m x y).map intD), .list [], .lst (.inl (.inl (e1 _ _ hD))) (dp_rows (tD.same e1)), .lst (.inl (.inl upd_same)) .nil, shaped_rows _, shaped_rows [], ?_⟩
                                  rw [eqv_nil, same_least (by omega) n5 x32 W.a.pl.ok yo]
                                  refine ⟨rfl, _, rfl, ?_⟩
                                  rw [decide_eq_true rfl]
                                  refine iteFo rfl ?_
                                  have W1 := W.same e1
                                  refine ⟨_, rfl, mv, n, ledE ord x.1, ledR ord x.2, rfl, W1.mv, fun H2 fl e2 nl Ll => ?_⟩
                                  have e12 := e1.trans e2
                                  obtain ⟨dl, cn, cr, cy, cc, wn, wy, wc, l1, _⟩ := Ll.at_
                                  have Lf2 := Lf.same e12
                                  obtain ⟨dx, an, ar, ay, ac, tn, ty, tc, f1, _⟩ := Lf2.at_
                                  refine ⟨_, rfl, fl, dl, _, fo, .ref a.C, rfl, rfl, l1, .base (.ins f1 T.cl T2.ha T2.hn T2.ht T2.hm), nfC K a.C, fl, fo, n, _, _, n, _, _, rfl, Ll, Lf2, ?_⟩
                                  have sl : leastP n (ledE ord x.1, ledR ord x.2) = leastP n x := (leastP_same (y := led ord x) W.a.pl.ok ⟨ord, mem_ords.mpr io, rfl⟩ po).symm
                                  rw [sl, decide_eq_true ⟨rfl, rfl, rfl⟩]
                                  exact ⟨_, rfl, iteFo rfl ⟨rfl, W1.same e2⟩⟩
                                · clear W hD tD Lf Lt
                                  obtain ⟨rfl, W⟩ := hM
                                  have ga : ∀ c, c < n → (ints_ ord)[c]? = some (.int (at_ ord c : Nat)) := fun c h => by
                                    have h : c < ord.length := by rw [io.len]; exact h
                                    unfold ints_
                                    rw [List.getElem?_map, List.getElem?_eq_getElem h, at_get h]
                                    rfl
                                  -- a lot
                                  refine ⟨fun τ H' => ∃ lt l, τ = sg [some (.ref s0), some (.ref h), some (.int (n : Nat)), some (.ref q0), some (.ref p), some (.ref O), some (.ref o), some (.ref mv), some (.ref q2), some (.ref s2), some (.ref D), none, some (.ref fo), some (.ref tw), some (.ref lt)] ∧ Wb a.C h c q0 p O o mv n x ts ord H' ∧ H' lt = some (.tup (ints_ l)) ∧ l.length ≤ 5 ∧ (∀ y ∈ l, y < n), ?_, fun τ H' hM => ?_⟩
                                  · refine ⟨_, rfl, _, rfl, n, rfl, fun p1 np1 => ?_⟩
                                    refine ⟨p1, n, rfl, upd_same, by omega, fun p2 np2 => ?_⟩
                                    have s1 := (al (o := .rng 0 n) np1).trans (al (o := .lst (K7E.upTo n)) np2)
                                    have hps : upd (upd H' p1 (.rng 0 n)) p2 (.lst (K7E.upTo n)) p2 = some (.lst (ints_ (List.range n))) := upd_same
                                    generalize upd (upd H' p1 (.rng 0 n)) p2 (.lst (K7E.upTo n)) = H5 at s1 hps ⊢
                                    refine ⟨p2, n, rfl, n5, hps, fun H6 Lo us6 e6 nLo hLo tl6 => ?_⟩
                                    have W6 := W.same (s1.trans e6)
                                    obtain ⟨la0, la1, la5⟩ := lots_all ⟨n, by omega⟩ n2
                                    refine ⟨h, c, Lo, _, rfl, W6.a.hand, W6.a.hand.nel hLo (notHand_refs _), hLo, by rw [List.length_map, tl6.len]; exact la0, by rw [List.length_map, tl6.len]; exact la1, fun H7 j v d7 hv => ?_⟩
                                    rw [List.getElem?_map] at hv
                                    obtain ⟨t, ht, rfl⟩ := Option.map_eq_some_iff.mp hv
                                    have st7 : Stay h c H6 H7 := .of_drawn W6.a.hand d7
                                    obtain ⟨l, el, hl⟩ := (st7.tat tl6).get ht
                                    have lm := List.mem_of_getElem? el
                                    obtain ⟨l1, l2⟩ := lot_lt n5 lm
                                    exact ⟨t, l, rfl, W6.stay st7, hl, of_decide_eq_true (List.all_eq_true.mp la5 l lm), l1⟩
                                  · obtain ⟨lt, l, rfl, W, hlt, l5, ll⟩ := hM
                                    refine ⟨fun τ H' => τ = sg [some (.ref s0), some (.ref h), some (.int (n : Nat)), some (.ref q0), some (.ref p), some (.ref O), some (.ref o), some (.ref mv), some (.ref q2), some (.ref s2), some (.ref D), none, some (.ref fo), some (.ref tw), some (.ref lt)] ∧ Wb a.C h c q0 p O o mv n x ts ord H', ?_, fun τ H' hM => ?_⟩
                                    · refine ⟨_, rfl, _, rfl, lt, _, rfl, .inr (.inl (.inl hlt)), fun A nA => ?_⟩
                                      have e1 := al (o := .lst (ints_ l)) nA
                                      refine ⟨A, _, rfl, .inl (.inl upd_same), fun B nB => ?_⟩
                                      have e2 := e1.trans (al (o := .lst (ints_ l).reverse) nB)
                                      have hB : upd (upd H' A (.lst (ints_ l))) B (.lst (ints_ l).reverse) B = some (.lst (ints_ l.reverse)) := by
                                        rw [upd_same]
                                        unfold ints_
                                        rw [List.map_reverse]
                                      generalize upd (upd H' A (.lst (ints_ l))) B (.lst (ints_ l).reverse) = H2 at e2 hB ⊢
                                      refine ⟨o, B, ord, l.reverse, rfl, .inl (e2 _ _ W.oo), .inr hB, fun y hy => by rw [io.len]; exact ll y (List.mem_reverse.mp hy), by rw [List.length_reverse]; omega, fun H3 u e3 nu hu => ?_⟩
                                      have er : ledR ord l.reverse = ledR ord l := ledR_is ((ledR_perm ord l.reverse).trans ((List.reverse_perm l).map _)) (ledR_sorted _ _)
                                      rw [er] at hu
                                      have e23 := e2.trans e3
                                      have hlt3 := e23 _ _ hlt
                                      refine ⟨_, rfl, lt, rfl, ⟨_, .inl (.inl hlt3)⟩, fun D' hD' => lc_tup (xs := ints_ l) (fun j H4 => Same H3 H4 ∧ H4 D' = some (.lst (ints_ ((l.take j).map (at_ ord))))) ⟨al hD', upd_same⟩ (fun j H4 _ pv => .inl (.inl (pv.1 _ _ hlt3))) (fun j v H4 hv pv => ?_) (fun H4 pv => ?_)⟩
                                      · obtain ⟨e4, hD4⟩ := pv
                                        unfold ints_ at hv
                                        rw [List.getElem?_map] at hv
                                        obtain ⟨y1, hy1, rfl⟩ := Option.map_eq_some_iff.mp hv
                                        have hm := ll y1 (List.mem_of_getElem? hy1)
                                        have tk : (l.take (j + 1)).map (at_ ord) = (l.take j).map (at_ ord) ++ [at_ ord y1] := by rw [List.take_add_one, hy1, List.map_append]; rfl
                                        refine ⟨rfl, _, rfl, _, rfl, o, _, _, _, rfl, rfl, .inl (.inl (e4 _ _ (e23 _ _ W.oo))), atI_nat (ga y1 hm), _, hD4, by unfold ints_; rw [List.length_map, List.length_map]; exact small1000 (by rw [List.length_take]; omega), fun b z hb => ?_, ?_⟩
                                        · rw [upd_ne (ne_of_none hb hD')]
                                          exact e4 _ _ hb
                                        · rw [upd_same, tk, ints_snoc]
                                      · obtain ⟨e4, hD4⟩ := pv
                                        rw [show (ints_ l).length = l.length from List.length_map .., List.take_length] at hD4
                                        refine ⟨D', (l.map (at_ ord)).map fun c => ((c : Nat) : Int), rfl, .inl (.inl (.inl ?_)), by rw [List.length_map, List.length_map]; omega, fun ms p' pm so np => ?_⟩
                                        · rw [List.map_map]
                                          exact hD4
                                        · obtain ⟨ns', ee, pn, sn⟩ := ints_srt pm so
                                          rw [ee, ledR_is pn sn]
                                          refine ⟨p', _, rfl, .inl ⟨.inl (.inl upd_same), fun tb nb => ?_⟩⟩
                                          have e7 := e4.trans (al (o := .lst (ints_ (ledR ord l))) np)
                                          have e8 := e7.trans (al (o := .tup (ints_ (ledR ord l))) nb)
                                          refine ⟨intD (ledR ord l), intD (ledR ord l), .tup (.inl (.inl (e8 _ _ hu))) (dp_ints _), .tup (.inl (.inl upd_same)) (dp_ints _), shaped_ints _, shaped_ints _, ?_⟩
                                          rw [eqv_intD, decide_eq_true rfl]
                                          exact ⟨_, rfl, iteFo rfl ⟨rfl, W.same (e23.trans e8)⟩⟩
                                    · clear W
                                      obtain ⟨rfl, W⟩ := hM
                                      -- a couple
                                      refine ⟨fun τ H' => ∃ ct a' b', τ = sg [some (.ref s0), some (.ref h), some (.int (n : Nat)), some (.ref q0), some (.ref p), some (.ref O), some (.ref o), some (.ref mv), some (.ref q2), some (.ref s2), some (.ref D), none, some (.ref fo), some (.ref tw), some (.ref lt), none, some (.ref ct)] ∧ Wb a.C h c q0 p O o mv n x ts ord H' ∧ H' ct = some (.tup (ints_ [a', b'])) ∧ a' < n ∧ b' < n, ?_, fun τ H' hM => ?_⟩
                                      · obtain ⟨dx, an, ar, ay, ac, tn, ty, tc, m1, _⟩ := W.a.ld.at_
                                        refine ⟨_, rfl, _, rfl, p, dx, _, rfl, m1, p, n, x.1, x.2, rfl, W.a.ld, fun u tc hu tC => ?_⟩
                                        obtain ⟨c0, c1000, cin⟩ := allC_all ⟨n, by omega⟩ n2
                                        have tcl : tc.length = (KL.allC n).length := by rw [tC.len]; unfold pairs; rw [List.length_map]
                                        have c1000 : (KL.allC n).length ≤ 20 := c1000
                                        refine ⟨u, rfl, ⟨_, .inl (.inl hu)⟩, fun D' hD' => lc_tup (xs := tc.map V.ref) (fun j H4 => Same H' H4 ∧ ∃ us, H4 D' = some (.lst (us.map V.ref)) ∧ TAt H4 us (pairs ((KL.allC n).take j)) ∧ us.length ≤ j) ⟨al hD', [], upd_same, .nil, Nat.le_refl _⟩ (fun j H4 _ pv => .inl (.inl (pv.1 _ _ hu))) (fun j v H4 hv pv => ?_) (fun H4 pv => ?_)⟩
                                        · obtain ⟨e4, us, hD4, tU, lu⟩ := pv
                                          have hj := (List.getElem?_eq_some_iff.mp hv).1
                                          rw [List.length_map] at hj
                                          rw [List.getElem?_map] at hv
                                          obtain ⟨t', ht', rfl⟩ := Option.map_eq_some_iff.mp hv
                                          obtain ⟨row, hrow, hat⟩ := tC.get ht'
                                          unfold pairs at hrow
                                          rw [List.getElem?_map] at hrow
                                          obtain ⟨e, he, rfl⟩ := Option.map_eq_some_iff.mp hrow
                                          refine ⟨t', _, rfl, .inl (.inl (e4 _ _ hat)), rfl, _, _, rfl, _, _, rfl, rfl, rfl, _, rfl, _, rfl, by show 2 ≤ sizeLine; decide, fun t nt => ?_⟩
                                          have sT := al (o := .tup (ints_ [e.1, e.2])) nt
                                          have hT : upd H4 t (.tup (ints_ [e.1, e.2])) t = some (.tup (ints_ [e.1, e.2])) := upd_same
                                          have hD5 := sT _ _ hD4
                                          have up : ∀ b xs, upd H4 t (.tup (ints_ [e.1, e.2])) b = some (.tup xs) → upd (upd H4 t (.tup (ints_ [e.1, e.2]))) D' (.lst (us.map V.ref ++ [.ref t])) b = some (.tup xs) := fun b xs hb => by
                                            rw [upd_ne (fun z => by rw [z, hD5] at hb; cases hb)]
                                            exact hb
                                          refine ⟨_, hD5, by rw [List.length_map]; exact small1000 (by omega), fun b z hb => ?_, us ++ [t], by rw [upd_same, List.map_append]; rfl, ?_, by rw [List.length_append, List.length_singleton]; omega⟩
                                          · rw [upd_ne (ne_of_none hb hD')]
                                            exact sT _ _ (e4 _ _ hb)
                                          · rw [List.take_add_one, he]
                                            unfold pairs
                                            rw [List.map_append]
                                            exact ((tU.same sT).mono up).append (.cons (up _ _ hT) .nil)
                                        · obtain ⟨e4, us, hD4, tU, lu⟩ := pv
                                          rw [List.length_map, tcl, List.take_length] at tU
                                          have W4 := W.same e4
                                          have ul : us.length = (KL.allC n).length := by rw [tU.len]; unfold pairs; rw [List.length_map]
                                          refine ⟨h, c, D', _, rfl, W4.a.hand, W4.a.hand.nel hD4 (notHand_refs _), hD4, by rw [List.length_map, ul]; exact c0, by rw [List.length_map, ul]; omega, fun H7 j v d7 hv => ?_⟩
                                          rw [List.getElem?_map] at hv
                                          obtain ⟨t, ht, rfl⟩ := Option.map_eq_some_iff.mp hv
                                          have st7 : Stay h c H4 H7 := .of_drawn W4.a.hand d7
                                          obtain ⟨row, hrow, hat⟩ := (st7.tat tU).get ht
                                          unfold pairs at hrow
                                          rw [List.getElem?_map] at hrow
                                          obtain ⟨e, he, rfl⟩ := Option.map_eq_some_iff.mp hrow
                                          have em := of_decide_eq_true (List.all_eq_true.mp cin e (List.mem_of_getElem? he))
                                          exact ⟨t, e.1, e.2, rfl, W4.stay st7, hat, em.1, em.2⟩
                                      · clear W
                                        obtain ⟨ct, a', b', rfl, W, hct, ha', hb'⟩ := hM
                                        refine ⟨fun τ H' => τ = sg [some (.ref s0), some (.ref h), some (.int (n : Nat)), some (.ref q0), some (.ref p), some (.ref O), some (.ref o), some (.ref mv), some (.ref q2), some (.ref s2), some (.ref D), none, some (.ref fo), some (.ref tw), some (.ref lt), none, some (.ref ct)] ∧ Wb a.C h c q0 p O o mv n x ts ord H', ?_, fun τ H' hM => ?_⟩
                                        · refine ⟨_, rfl, _, rfl, ct, _, rfl, .inr (.inl (.inl hct)), fun A nA => ?_⟩
                                          have e1 := al (o := .lst (ints_ [a', b'])) nA
                                          refine ⟨o, A, ord, a', b', rfl, e1 _ _ W.oo, upd_same, by rw [io.len]; exact ha', by rw [io.len]; exact hb', fun H2 u e2 hu => ?_⟩
                                          have e12 := e1.trans e2
                                          refine ⟨_, rfl, _, rfl, ct, _, _, _, rfl, rfl, .inl (.inl (e12 _ _ hct)), atI_nat (j := 0) rfl, o, _, _, _, rfl, rfl, .inl (.inl (e12 _ _ W.oo)), atI_nat (ga a' ha'), ?_⟩
                                          refine ⟨_, rfl, _, rfl, ct, _, _, _, rfl, rfl, .inl (.inl (e12 _ _ hct)), atI_nat (j := 1) rfl, o, _, _, _, rfl, rfl, .inl (.inl (e12 _ _ W.oo)), atI_nat (ga b' hb'), ?_⟩
                                          refine ⟨by show 2 ≤ sizeLine; decide, fun t nt => ?_⟩
                                          have e3 := al (o := .tup (ints_ [at_ ord a', at_ ord b'])) nt
                                          refine ⟨intD [at_ ord a', at_ ord b'], intD [at_ ord a', at_ ord b'], .tup (.inl (.inl (e3 _ _ hu))) (dp_ints [at_ ord a', at_ ord b']), .tup (.inl (.inl upd_same)) (dp_ints [at_ ord a', at_ ord b']), shaped_ints _, shaped_ints _, ?_⟩
                                          rw [eqv_intD, decide_eq_true rfl]
                                          exact ⟨_, rfl, iteFo rfl ⟨rfl, W.same (e12.trans e3)⟩⟩
                                        · clear W hct
                                          obtain ⟨rfl, W⟩ := hM
                                          -- a row that is spoilt
                                          refine ⟨fun τ H' => ∃ L, τ = sg [some (.ref s0), some (.ref h), some (.int (n : Nat)), some (.ref q0), some (.ref p), some (.ref O), some (.ref o), some (.ref mv), some (.ref q2), some (.ref s2), some (.ref D), none, some (.ref fo), some (.ref tw), some (.ref lt), none, some (.ref ct), none, none, some (.ref L)] ∧ Wb a.C h c q0 p O o mv n x ts ord (hole H' L) ∧ L ≠ h ∧ L ≠ c ∧ H' L = some (.lst (ints_ ord)), ?_, fun τ H' hM => ?_⟩
                                          · refine ⟨_, rfl, o, _, rfl, .inr (.inl (.inl W.oo)), fun L nL => ?_⟩
                                            obtain ⟨z1, z2⟩ := W.a.hand.ne nL
                                            exact ⟨L, rfl, W.same (hole_new nL), z1, z2, upd_same⟩
                                          · clear W
                                            obtain ⟨L, rfl, W, nLh, nLc, hL⟩ := hM
                                            refine ⟨fun τ H' => ∃ xs, τ = sg [some (.ref s0), some (.ref h), some (.int (n : Nat)), some (.ref q0), some (.ref p), some (.ref O), some (.ref o), some (.ref mv), some (.ref q2), some (.ref s2), some (.ref D), none, some (.ref fo), some (.ref tw), some (.ref lt), none, some (.ref ct), none, none, some (.ref L)] ∧ Wb a.C h c q0 p O o mv n x ts ord H' ∧ H' L = some (.lst xs) ∧ xs.length = n ∧ (∀ z ∈ xs, Flat4 z) ∧ xs.all (fun z => wholeV z 0 (((n : Nat) : Int) - 1)) = false, ?_, fun τ H' hM => ?_⟩
                                            · have hd := W.a.hand.same hole_sub
                                              refine ⟨_, rfl, _, rfl, _, rfl, _, rfl, _, _, rfl, rfl, ⟨by decide, by decide, by decide⟩, _, _, rfl, rfl, by show 6 ≤ sizeLine; decide, fun l6 nl6 => ?_⟩
                                              refine ⟨h, c, l6, _, rfl, hd.same (al nl6), (hd.ne nl6).1, upd_same, by show 0 < 6; decide, by show 6 ≤ 1000; decide, fun H2 j v d2 hv => ?_⟩
                                              have st := (Stay.of_same hd (al nl6)).drawn d2
                                              have W2 := W.stay (st.hole nLh nLc)
                                              have hL2 := st.but L _ nLh hL
                                              obtain ⟨fv, wv⟩ : Flat4 v ∧ wholeV v 0 (((n : Nat) : Int) - 1) = false := by
                                                have mm := List.mem_of_getElem? hv
                                                have pz : (0 : Int) < 10 ^ (30 : Int).toNat := by decide
                                                generalize (10 : Int) ^ (30 : Int).toNat = zz at mm pz
                                                simp only [List.mem_cons, List.not_mem_nil, or_false] at mm
                                                rcases mm with rfl | rfl | rfl | rfl | rfl | rfl
                                                · exact ⟨.int _, by rw [wholeV_int, decide_eq_false (show ¬ ((n : Nat) : Int) ≤ ((n : Nat) : Int) - 1 by omega), Bool.and_false]⟩
                                                · exact ⟨.int _, by rw [wholeV_int, decide_eq_false (show ¬ (0 : Int) ≤ -1 by decide), Bool.false_and]⟩
                                                · exact ⟨.bl _, rfl⟩
                                                · exact ⟨.non, rfl⟩
                                                · exact ⟨.str _, rfl⟩
                                                · exact ⟨.int _, by rw [wholeV_int, decide_eq_false (show ¬ ((n : Nat) : Int) + zz ≤ ((n : Nat) : Int) - 1 by omega), Bool.and_false]⟩
                                              refine ⟨_, rfl, _, rfl, _, rfl, h, c, (n : Nat), rfl, st.hand, by omega, n200 n5, fun H3 r d3 r0 r1 => ?_⟩
                                              have st3 := Stay.of_drawn st.hand d3
                                              have W3 := W2.stay (st3.hole nLh nLc)
                                              have hL3 := st3.but L _ nLh hL2
                                              have il : (ints_ ord).length = n := by unfold ints_; rw [List.length_map, io.len]
                                              obtain ⟨k, rfl⟩ : ∃ k : Nat, r = (k : Nat) := ⟨r.toNat, by omega⟩
                                              have kn : k < n := by omega
                                              refine ⟨L, ints_ ord, (k : Nat), k, rfl, rfl, hL3, by unfold ixN; rw [il, if_pos (by omega), if_pos (by omega)]; rfl, (ints_ ord).set k v, rfl, W3.same hole_fill, upd_same, by rw [List.length_set, il], fun z hz => ?_, ?_⟩
                                              · rcases List.mem_or_eq_of_mem_set hz with hz | rfl
                                                · obtain ⟨y, _, rfl⟩ := List.mem_map.mp hz
                                                  exact .int _
                                                · exact fv
                                              · refine Bool.eq_false_iff.mpr fun e => ?_
                                                have z := List.all_eq_true.mp e v (List.mem_set (by rw [il]; exact kn) v)
                                                rw [wv] at z
                                                cases z
                                            · clear W hL
                                              obtain ⟨xs, rfl, W, hL, xl, xf, xw⟩ := hM
                                              refine ⟨fun τ H' => ∃ B bs, τ = sg [some (.ref s0), some (.ref h), some (.int (n : Nat)), some (.ref q0), some (.ref p), some (.ref O), some (.ref o), some (.ref mv), some (.ref q2), some (.ref s2), some (.ref D), none, some (.ref fo), some (.ref tw), some (.ref lt), none, some (.ref ct), none, none, some (.ref L), some (.ref B)] ∧ Wb a.C h c q0 p O o mv n x ts ord H' ∧ H' B = some (.lst bs) ∧ B ≠ h ∧ bs.length = 7 ∧ (∀ z ∈ bs, WrongO n H' h z) ∧ WrongO n H' h (.ref L), ?_, fun τ H' hM => ?_⟩
                                              · have cL : cellsV (n : Nat) xs (n : Nat) = false := by unfold cellsV; rw [xw, Bool.and_false, Bool.false_and]
                                                refine ⟨_, rfl, _, rfl, o, _, rfl, .inr (.inl (.inl W.oo)), fun A nA => ?_⟩
                                                have eA := al (o := .lst (ints_ ord)) nA
                                                have hA : upd H' A (.lst (ints_ ord)) A = some (.lst (ints_ ord)) := upd_same
                                                generalize upd H' A (.lst (ints_ ord)) = H1 at eA hA ⊢
                                                refine ⟨_, rfl, A, _, rfl, .inl (.inl hA), fun B nB => ?_⟩
                                                have il : (ints_ ord).length = n := by unfold ints_; rw [List.length_map, io.len]
                                                obtain ⟨q1, q2'⟩ := cut_one (xs := ints_ ord) (by omega)
                                                have fi : ∀ (l : List Nat), ∀ z ∈ ints_ l, Flat4 z := fun l z hz => by
                                                  obtain ⟨y, _, rfl⟩ := List.mem_map.mp hz
                                                  exact .int _
                                                have eB := eA.trans (al (o := .lst (cutV (ints_ ord) (some 1) none)) nB)
                                                have hB : upd H1 B (.lst (cutV (ints_ ord) (some 1) none)) B = some (.lst (cutV (ints_ ord) (some 1) none)) := upd_same
                                                have nBh := ((W.a.hand.same eA).ne nB).1
                                                generalize cutV (ints_ ord) (some 1) none = cx at q1 q2' eB hB ⊢
                                                generalize upd H1 B (.lst cx) = H2 at eB hB ⊢
                                                -- one more
                                                refine ⟨_, rfl, o, _, rfl, .inr (.inl (.inl (eB _ _ W.oo))), fun C' nC => ?_⟩
                                                have eC := eB.trans (al (o := .lst (ints_ ord)) nC)
                                                have sC := al (o := .lst (ints_ ord)) nC
                                                have hC : upd H2 C' (.lst (ints_ ord)) C' = some (.lst (ints_ ord)) := upd_same
                                                have hB := sC _ _ hB
                                                generalize upd H2 C' (.lst (ints_ ord)) = H3 at eC sC hC hB ⊢
                                                refine ⟨_, rfl, by show 1 ≤ sizeLine; decide, fun D' nD => ?_⟩
                                                have sD := al (o := .lst [.int (n : Nat)]) nD
                                                have eD := eC.trans sD
                                                have hD' : upd H3 D' (.lst [.int (n : Nat)]) D' = some (.lst [.int (n : Nat)]) := upd_same
                                                have hB := sD _ _ hB
                                                have hC := sD _ _ hC
                                                generalize upd H3 D' (.lst [.int (n : Nat)]) = H4 at eD sD hD' hB hC ⊢
                                                refine ⟨C', D', _, _, rfl, rfl, hC, hD', by rw [il]; show n + 1 ≤ 16777216; omega, fun E' nE => ?_⟩
                                                have sE := al (o := .lst (ints_ ord ++ [.int (n : Nat)])) nE
                                                have eE := eD.trans sE
                                                have hE : upd H4 E' (.lst (ints_ ord ++ [.int (n : Nat)])) E' = some (.lst (ints_ ord ++ [.int (n : Nat)])) := upd_same
                                                have hB := sE _ _ hB
                                                have nEh := ((W.a.hand.same eD).ne nE).1
                                                generalize upd H4 E' (.lst (ints_ ord ++ [.int (n : Nat)])) = H5 at eE sE hE hB ⊢
                                                -- zeros
                                                refine ⟨by show 1 ≤ sizeLine; decide, fun F' nF => ?_⟩
                                                have sF := al (o := .lst [.int 0]) nF
                                                have eF := eE.trans sF
                                                have hF : upd H5 F' (.lst [.int 0]) F' = some (.lst [.int 0]) := upd_same
                                                have hB := sF _ _ hB
                                                have hE := sF _ _ hE
                                                generalize upd H5 F' (.lst [.int 0]) = H6 at eF sF hF hB hE ⊢
                                                refine ⟨_, rfl, F', (n : Nat), _, rfl, rfl, hF, by omega, by omega, by show 1 * ((n : Nat) : Int).toNat ≤ 16777216; omega, fun G nG => ?_⟩
                                                obtain ⟨z1, z2⟩ := flat_rep ((n : Nat) : Int).toNat
                                                have sG := al (o := .lst (List.replicate ((n : Nat) : Int).toNat [V.int 0]).flatten) nG
                                                have eG := eF.trans sG
                                                have hG : upd H6 G (.lst (List.replicate ((n : Nat) : Int).toNat [V.int 0]).flatten) G = some (.lst (List.replicate ((n : Nat) : Int).toNat [V.int 0]).flatten) := upd_same
                                                have hB := sG _ _ hB
                                                have hE := sG _ _ hE
                                                have nGh := ((W.a.hand.same eF).ne nG).1
                                                generalize (List.replicate ((n : Nat) : Int).toNat [V.int 0]).flatten = zl at z1 z2 hG sG eG hB hE ⊢
                                                rw [Int.toNat_natCast] at z1
                                                generalize upd H6 G (.lst zl) = H7 at eG sG hG hB hE ⊢
                                                -- the same as a tuple
                                                refine ⟨_, rfl, L, xs, rfl, .inl ⟨.inl (.inl (eG _ _ hL)), fun M nM => ?_⟩⟩
                                                have sM := al (o := .tup xs) nM
                                                have eM := eG.trans sM
                                                have hM' : upd H7 M (.tup xs) M = some (.tup xs) := upd_same
                                                have hB := sM _ _ hB
                                                have hE := sM _ _ hE
                                                have hG := sM _ _ hG
                                                have nMh := ((W.a.hand.same eG).ne nM).1
                                                generalize upd H7 M (.tup xs) = H8 at eM sM hM' hB hE hG ⊢
                                                refine ⟨by show 7 ≤ sizeLine; decide, fun R nR => ?_⟩
                                                have sR := al (o := .lst [.ref L, .ref B, .ref E', .ref G, .non, .str "01", .ref M]) nR
                                                have eR := eM.trans sR
                                                have nRh := ((W.a.hand.same eM).ne nR).1
                                                have wL : WrongO n (upd H8 R (.lst [.ref L, .ref B, .ref E', .ref G, .non, .str "01", .ref M])) h (.ref L) := .row (eR _ _ hL) nLh xf (by omega) cL
                                                refine ⟨R, _, rfl, W.same eR, upd_same, nRh, rfl, fun z hz => ?_, wL⟩
                                                simp only [List.mem_cons, List.not_mem_nil, or_false] at hz
                                                rcases hz with rfl | rfl | rfl | rfl | rfl | rfl | rfl
                                                · exact wL
                                                · exact .row (sR _ _ hB) nBh (fun z hz => fi _ z (q2' z hz)) (by omega) (cells_short (by omega))
                                                · refine .row (sR _ _ hE) nEh (fun z hz => ?_) (by rw [List.length_append, il, List.length_singleton]; omega) ?_
                                                  · rcases List.mem_append.mp hz with hz | hz
                                                    · exact fi _ z hz
                                                    · rw [List.mem_singleton.mp hz]
                                                      exact .int _
                                                  · have : (ints_ ord ++ [V.int (n : Nat)]).all (fun z => wholeV z 0 (((n : Nat) : Int) - 1)) = false := by
                                                      refine Bool.eq_false_iff.mpr fun e => ?_
                                                      have z := List.all_eq_true.mp e (.int (n : Nat)) (List.mem_append_right _ (List.mem_singleton.mpr rfl))
                                                      rw [wholeV_int, decide_eq_false (show ¬ ((n : Nat) : Int) ≤ ((n : Nat) : Int) - 1 by omega), Bool.and_false] at z
                                                      cases z
                                                    unfold cellsV
                                                    rw [this, Bool.and_false, Bool.false_and]
                                                · exact .row (sR _ _ hG) nGh (fun z hz => by rw [z2 z hz]; exact .int _) (by omega) (zeros_bad n2 z1 z2)
                                                · exact .non
                                                · exact .str _
                                                · exact .tup (sR _ _ hM') nMh xf (by omega) cL
                                              · clear W hL
                                                obtain ⟨B, bs, rfl, W, hB, nBh, bl, bw, wL⟩ := hM
                                                refine ⟨fun τ H' => ∃ z, τ = sg [some (.ref s0), some (.ref h), some (.int (n : Nat)), some (.ref q0), some (.ref p), some (.ref O), some (.ref o), some (.ref mv), some (.ref q2), some (.ref s2), some (.ref D), none, some (.ref fo), some (.ref tw), some (.ref lt), none, some (.ref ct), none, none, some (.ref L), some (.ref B), z] ∧ Wb a.C h c q0 p O o mv n x ts ord H', ?_, fun τ H' hM => ?_⟩
                                                · refine ⟨_, rfl, _, rfl, h, c, 7, rfl, W.a.hand, by decide, by decide, fun H2 r d2 r0 r1 => ?_⟩
                                                  have st := Stay.of_drawn W.a.hand d2
                                                  have W2 := W.stay st
                                                  obtain ⟨k, rfl⟩ : ∃ k : Nat, r = (k : Nat) := ⟨r.toNat, by omega⟩
                                                  have kl : k < bs.length := by omega
                                                  refine ⟨B, bs, _, bs[k], rfl, rfl, .inl (.inl (st.but _ _ nBh hB)), atI_nat (List.getElem?_eq_getElem kl), ?_⟩
                                                  refine ⟨_, rfl, by show 2 ≤ sizeLine; decide, fun t nt => ?_⟩
                                                  have w1 := (bw _ (List.getElem_mem kl)).stay st
                                                  have w2 := wL.stay st
                                                  generalize bs[k] = v1 at w1 ⊢
                                                  have sT := al (o := .tup [v1, .ref L]) nt
                                                  have ht : upd H2 t (.tup [v1, .ref L]) t = some (.tup [v1, .ref L]) := upd_same
                                                  have W3 := W2.same sT
                                                  have w1 := w1.stay (.of_same W2.a.hand sT)
                                                  have w2 := w2.stay (.of_same W2.a.hand sT)
                                                  generalize upd H2 t (.tup [v1, .ref L]) = H3 at W3 w1 w2 ht ⊢
                                                  refine ⟨t, rfl, ⟨_, .inl (.inl ht)⟩, for_tup (xs := [v1, .ref L]) (fun i σ H4 => ∃ z, σ = sg [some (.ref s0), some (.ref h), some (.int (n : Nat)), some (.ref q0), some (.ref p), some (.ref O), some (.ref o), some (.ref mv), some (.ref q2), some (.ref s2), some (.ref D), none, some (.ref fo), some (.ref tw), some (.ref lt), none, some (.ref ct), none, none, some (.ref L), some (.ref B), z] ∧ Same H3 H4) ⟨none, rfl, Same.refl H3⟩ (fun i σ H4 _ pv => ?_) (fun i v σ H4 hv pv => ?_) (fun σ H4 pv => ?_)⟩
                                                  · obtain ⟨z, rfl, e4⟩ := pv
                                                    exact .inl (.inl (e4 _ _ ht))
                                                  · obtain ⟨z, rfl, e4⟩ := pv
                                                    have wv : WrongO n H3 h v := by
                                                      have mm := List.mem_of_getElem? hv
                                                      simp only [List.mem_cons, List.not_mem_nil, or_false] at mm
                                                      rcases mm with rfl | rfl
                                                      · exact w1
                                                      · exact w2
                                                    have W4 := W3.same e4
                                                    have wv4 := wv.stay (.of_same W3.a.hand e4)
                                                    exact ⟨_, rfl, _, rfl, p, n, x.1, x.2, v, rfl, W4.a.ld, wv4.bad, fun H5 e5 => ⟨_, rfl, iteFo rfl ⟨some v, rfl, e4.trans e5⟩⟩⟩
                                                  · obtain ⟨z, rfl, e4⟩ := pv
                                                    exact ⟨z, rfl, W3.same e4⟩
                                                · clear W hB
                                                  obtain ⟨z, rfl, W⟩ := hM
                                                  obtain ⟨rA, sA, ts3, h1, h2, h3, h4⟩ := W.a.pl.at_
                                                  refine ⟨_, rfl, _, rfl, _, rfl, q0, _, _, _, rfl, rfl, .inl (.inl h1), atI_nat (j := 1) rfl, _, rfl, q0, _, _, _, rfl, rfl, .inl (.inl h1), atI_nat (j := 2) rfl, ?_⟩
                                                  refine plain_land (a := a) (Q := fun y H2 => K7E.rEqO K a.C (spEqL a.C) E0 (V.ref p) y H2 Q) W.a.pl.ok n2 n5 h2 h3 h4 fun H' p' e nx Lo => ?_
                                                  obtain ⟨dx, an, ar, ay, ac, tn, ty, tc, f1, _⟩ := (W.a.ld.same e).at_
                                                  obtain ⟨dz, bn, br, by', bc, un, uy, uc, g1, _⟩ := Lo.at_
                                                  refine ⟨p, dx, _, p', .ref a.C, rfl, rfl, f1, .base (.ins g1 T.cl T2.ha T2.hn T2.ht T2.hm), nfC K a.C, p, p', n, _, _, n, _, _, rfl, W.a.ld.same e, Lo, ?_⟩
                                                  rw [decide_eq_true ⟨rfl, rfl, rfl⟩]
                                                  exact q _
end
end K7
end
/-! ## P21 -/
section
open PySem PySem.Spec PyProof.Rows L2
namespace K7
theorem all_mk {P : Program} {w : World} {K : PySem.W.Frag} {h : Heap} {mg : Str → Option Value} {fa : Addr} (X : K.In h) (G : h.Ns mainGlobals mg) (hfa : mg "law" = some (.ref fa))
  {f_sq : Addr}
  (a_sq : PySem.W.nsIn K mainGlobals "is_sequence" = some (some (.ref f_sq)))
  {od_sq an_sq : Option Addr}
  {sl_sq : Array (Option Value)}
  {oc_sq kV_sq dc_sq pm_sq cd_sq ct_sq : Value}
  (l_sq : K.lookup f_sq = some ⟨oc_sq, od_sq, .func (PySem.W.fnOf "is_sequence" "is_sequence" (defArgs s_is_sequence) (defBody s_is_sequence) (defScope s_is_sequence) .none kV_sq dc_sq pm_sq an_sq cd_sq ct_sq), sl_sq⟩)
  (c_sq : PySem.W.codeIn K cd_sq "is_sequence" = true)
  (k_sq : PySem.W.keepIn K (.ref f_sq) = true)
  {f_isw : Addr}
  (a_isw : PySem.W.nsIn K mainGlobals "is_whole" = some (some (.ref f_isw)))
  {od_isw an_isw : Option Addr}
  {sl_isw : Array (Option Value)}
  {oc_isw kV_isw dc_isw pm_isw cd_isw ct_isw : Value}
  (l_isw : K.lookup f_isw = some ⟨oc_isw, od_isw, .func (PySem.W.fnOf "is_whole" "is_whole" (defArgs s_is_whole) (defBody s_is_whole) (defScope s_is_whole) .none kV_isw dc_isw pm_isw an_isw cd_isw ct_isw), sl_isw⟩)
  (c_isw : PySem.W.codeIn K cd_isw "is_whole" = true)
  (k_isw : PySem.W.keepIn K (.ref f_isw) = true)
  {f_ac : Addr}
  (a_ac : PySem.W.nsIn K mainGlobals "are_cells" = some (some (.ref f_ac)))
  {od_ac an_ac : Option Addr}
  {sl_ac : Array (Option Value)}
  {oc_ac kV_ac dc_ac pm_ac cd_ac ct_ac : Value}
  (l_ac : K.lookup f_ac = some ⟨oc_ac, od_ac, .func (PySem.W.fnOf "are_cells" "are_cells" (defArgs s_are_cells) (defBody s_are_cells) (defScope s_are_cells) .none kV_ac dc_ac pm_ac an_ac cd_ac ct_ac), sl_ac⟩)
  (c_ac : PySem.W.codeIn K cd_ac "are_cells" = true)
  (k_ac : PySem.W.keepIn K (.ref f_ac) = true)
  {f_a2 : Addr}
  (a_a2 : PySem.W.nsIn K mainGlobals "are_two_cells" = some (some (.ref f_a2)))
  {od_a2 an_a2 : Option Addr}
  {sl_a2 : Array (Option Value)}
  {oc_a2 kV_a2 dc_a2 pm_a2 cd_a2 ct_a2 : Value}
  (l_a2 : K.lookup f_a2 = some ⟨oc_a2, od_a2, .func (PySem.W.fnOf "are_two_cells" "are_two_cells" (defArgs s_are_two_cells) (defBody s_are_two_cells) (defScope s_are_two_cells) .none kV_a2 dc_a2 pm_a2 an_a2 cd_a2 ct_a2), sl_a2⟩)
  (c_a2 : PySem.W.codeIn K cd_a2 "are_two_cells" = true)
  (k_a2 : PySem.W.keepIn K (.ref f_a2) = true)
  {f_sp : Addr}
  (a_sp : PySem.W.nsIn K mainGlobals "spread" = some (some (.ref f_sp)))
  {od_sp an_sp : Option Addr}
  {sl_sp : Array (Option Value)}
  {oc_sp kV_sp dc_sp pm_sp cd_sp ct_sp : Value}
  (l_sp : K.lookup f_sp = some ⟨oc_sp, od_sp, .func (PySem.W.fnOf "spread" "spread" (defArgs s_spread) (defBody s_spread) (defScope s_spread) .none kV_sp dc_sp pm_sp an_sp cd_sp ct_sp), sl_sp⟩)
  (c_sp : PySem.W.codeIn K cd_sp "spread" = true)
  (k_sp : PySem.W.keepIn K (.ref f_sp) = true)
  {f_ny : Addr}
  (a_ny : PySem.W.nsIn K mainGlobals "nearby_cells" = some (some (.ref f_ny)))
  {od_ny an_ny : Option Addr}
  {sl_ny : Array (Option Value)}
  {oc_ny kV_ny dc_ny pm_ny cd_ny ct_ny : Value}
  (l_ny : K.lookup f_ny = some ⟨oc_ny, od_ny, .func (PySem.W.fnOf "nearby_cells" "nearby_cells" (defArgs s_nearby_cells) (defBody s_nearby_cells) (defScope s_nearby_cells) .none kV_ny dc_ny pm_ny an_ny cd_ny ct_ny), sl_ny⟩)
  (c_ny : PySem.W.codeIn K cd_ny "nearby_cells" = true)
  (k_ny : PySem.W.keepIn K (.ref f_ny) = true)
  {f_ht : Addr}
  (a_ht : PySem.W.nsIn K mainGlobals "hang_together" = some (some (.ref f_ht)))
  {od_ht an_ht : Option Addr}
  {sl_ht : Array (Option Value)}
  {oc_ht kV_ht dc_ht pm_ht cd_ht ct_ht : Value}
  (l_ht : K.lookup f_ht = some ⟨oc_ht, od_ht, .func (PySem.W.fnOf "hang_together" "hang_together" (defArgs s_hang_together) (defBody s_hang_together) (defScope s_hang_together) .none kV_ht dc_ht pm_ht an_ht cd_ht ct_ht), sl_ht⟩)
  (c_ht : PySem.W.codeIn K cd_ht "hang_together" = true)
  (k_ht : PySem.W.keepIn K (.ref f_ht) = true)
  {f_nb : Addr}
  (a_nb : PySem.W.nsIn K mainGlobals "_are_neighbours" = some (some (.ref f_nb)))
  {od_nb an_nb : Option Addr}
  {sl_nb : Array (Option Value)}
  {oc_nb kV_nb dc_nb pm_nb cd_nb ct_nb : Value}
  (l_nb : K.lookup f_nb = some ⟨oc_nb, od_nb, .func (PySem.W.fnOf "_are_neighbours" "_are_neighbours" (defArgs s__are_neighbours) (defBody s__are_neighbours) (defScope s__are_neighbours) .none kV_nb dc_nb pm_nb an_nb cd_nb ct_nb), sl_nb⟩)
  (c_nb : PySem.W.codeIn K cd_nb "_are_neighbours" = true)
  (k_nb : PySem.W.keepIn K (.ref f_nb) = true)
  {f_ao : Addr}
  (a_ao : PySem.W.nsIn K mainGlobals "all_orders" = some (some (.ref f_ao)))
  {od_ao an_ao : Option Addr}
  {sl_ao : Array (Option Value)}
  {oc_ao kV_ao dc_ao pm_ao cd_ao ct_ao : Value}
  (l_ao : K.lookup f_ao = some ⟨oc_ao, od_ao, .func (PySem.W.fnOf "all_orders" "all_orders" (defArgs s_all_orders) (defBody s_all_orders) (defScope s_all_orders) .none kV_ao dc_ao pm_ao an_ao cd_ao ct_ao), sl_ao⟩)
  (c_ao : PySem.W.codeIn K cd_ao "all_orders" = true)
  (k_ao : PySem.W.keepIn K (.ref f_ao) = true)
  {f_co : Addr}
  (a_co : PySem.W.nsIn K mainGlobals "check_order" = some (some (.ref f_co)))
  {od_co an_co : Option Addr}
  {sl_co : Array (Option Value)}
  {oc_co kV_co dc_co pm_co cd_co ct_co : Value}
  (l_co : K.lookup f_co = some ⟨oc_co, od_co, .func (PySem.W.fnOf "check_order" "check_order" (defArgs s_check_order) (defBody s_check_order) (defScope s_check_order) .none kV_co dc_co pm_co an_co cd_co ct_co), sl_co⟩)
  (c_co : PySem.W.codeIn K cd_co "check_order" = true)
  (k_co : PySem.W.keepIn K (.ref f_co) = true)
  {f_lt : Addr}
  (a_lt : PySem.W.nsIn K mainGlobals "led_lot" = some (some (.ref f_lt)))
  {od_lt an_lt : Option Addr}
  {sl_lt : Array (Option Value)}
  {oc_lt kV_lt dc_lt pm_lt cd_lt ct_lt : Value}
  (l_lt : K.lookup f_lt = some ⟨oc_lt, od_lt, .func (PySem.W.fnOf "led_lot" "led_lot" (defArgs s_led_lot) (defBody s_led_lot) (defScope s_led_lot) .none kV_lt dc_lt pm_lt an_lt cd_lt ct_lt), sl_lt⟩)
  (c_lt : PySem.W.codeIn K cd_lt "led_lot" = true)
  (k_lt : PySem.W.keepIn K (.ref f_lt) = true)
  {f_lcp : Addr}
  (a_lcp : PySem.W.nsIn K mainGlobals "led_couple" = some (some (.ref f_lcp)))
  {od_lcp an_lcp : Option Addr}
  {sl_lcp : Array (Option Value)}
  {oc_lcp kV_lcp dc_lcp pm_lcp cd_lcp ct_lcp : Value}
  (l_lcp : K.lookup f_lcp = some ⟨oc_lcp, od_lcp, .func (PySem.W.fnOf "led_couple" "led_couple" (defArgs s_led_couple) (defBody s_led_couple) (defScope s_led_couple) .none kV_lcp dc_lcp pm_lcp an_lcp cd_lcp ct_lcp), sl_lcp⟩)
  (c_lcp : PySem.W.codeIn K cd_lcp "led_couple" = true)
  (k_lcp : PySem.W.keepIn K (.ref f_lcp) = true)
  {f_lp : Addr}
  (a_lp : PySem.W.nsIn K mainGlobals "_led_parts" = some (some (.ref f_lp)))
  {od_lp an_lp : Option Addr}
  {sl_lp : Array (Option Value)}
  {oc_lp kV_lp dc_lp pm_lp cd_lp ct_lp : Value}
  (l_lp : K.lookup f_lp = some ⟨oc_lp, od_lp, .func (PySem.W.fnOf "_led_parts" "_led_parts" (defArgs s__led_parts) (defBody s__led_parts) (defScope s__led_parts) .none kV_lp dc_lp pm_lp an_lp cd_lp ct_lp), sl_lp⟩)
  (c_lp : PySem.W.codeIn K cd_lp "_led_parts" = true)
  (k_lp : PySem.W.keepIn K (.ref f_lp) = true)
  {f_rn : Addr}
  (a_rn : PySem.W.nsIn K mainGlobals "renumbered" = some (some (.ref f_rn)))
  {od_rn an_rn : Option Addr}
  {sl_rn : Array (Option Value)}
  {oc_rn kV_rn dc_rn pm_rn cd_rn ct_rn : Value}
  (l_rn : K.lookup f_rn = some ⟨oc_rn, od_rn, .func (PySem.W.fnOf "renumbered" "renumbered" (defArgs s_renumbered) (defBody s_renumbered) (defScope s_renumbered) .none kV_rn dc_rn pm_rn an_rn cd_rn ct_rn), sl_rn⟩)
  (c_rn : PySem.W.codeIn K cd_rn "renumbered" = true)
  (k_rn : PySem.W.keepIn K (.ref f_rn) = true)
  {f_lk : Addr}
  (a_lk : PySem.W.nsIn K mainGlobals "likenesses" = some (some (.ref f_lk)))
  {od_lk an_lk : Option Addr}
  {sl_lk : Array (Option Value)}
  {oc_lk kV_lk dc_lk pm_lk cd_lk ct_lk : Value}
  (l_lk : K.lookup f_lk = some ⟨oc_lk, od_lk, .func (PySem.W.fnOf "likenesses" "likenesses" (defArgs s_likenesses) (defBody s_likenesses) (defScope s_likenesses) .none kV_lk dc_lk pm_lk an_lk cd_lk ct_lk), sl_lk⟩)
  (c_lk : PySem.W.codeIn K cd_lk "likenesses" = true)
  (k_lk : PySem.W.keepIn K (.ref f_lk) = true)
  {f_lf : Addr}
  (a_lf : PySem.W.nsIn K mainGlobals "least_form" = some (some (.ref f_lf)))
  {od_lf an_lf : Option Addr}
  {sl_lf : Array (Option Value)}
  {oc_lf kV_lf dc_lf pm_lf cd_lf ct_lf : Value}
  (l_lf : K.lookup f_lf = some ⟨oc_lf, od_lf, .func (PySem.W.fnOf "least_form" "least_form" (defArgs s_least_form) (defBody s_least_form) (defScope s_least_form) .none kV_lf dc_lf pm_lf an_lf cd_lf ct_lf), sl_lf⟩)
  (c_lf : PySem.W.codeIn K cd_lf "least_form" = true)
  (k_lf : PySem.W.keepIn K (.ref f_lf) = true)
  {f_mi : Addr}
  (a_mi : PySem.W.nsIn K mainGlobals "_law_mix" = some (some (.ref f_mi)))
  {od_mi an_mi : Option Addr}
  {sl_mi : Array (Option Value)}
  {oc_mi kV_mi dc_mi pm_mi cd_mi ct_mi : Value}
  (l_mi : K.lookup f_mi = some ⟨oc_mi, od_mi, .func (PySem.W.fnOf "_law_mix" "_law_mix" (defArgs s__law_mix) (defBody s__law_mix) (defScope s__law_mix) .none kV_mi dc_mi pm_mi an_mi cd_mi ct_mi), sl_mi⟩)
  (c_mi : PySem.W.codeIn K cd_mi "_law_mix" = true)
  (k_mi : PySem.W.keepIn K (.ref f_mi) = true)
  {f_ha : Addr}
  (a_ha : PySem.W.nsIn K mainGlobals "_law_hand" = some (some (.ref f_ha)))
  {od_ha an_ha : Option Addr}
  {sl_ha : Array (Option Value)}
  {oc_ha kV_ha dc_ha pm_ha cd_ha ct_ha : Value}
  (l_ha : K.lookup f_ha = some ⟨oc_ha, od_ha, .func (PySem.W.fnOf "_law_hand" "_law_hand" (defArgs s__law_hand) (defBody s__law_hand) (defScope s__law_hand) .none kV_ha dc_ha pm_ha an_ha cd_ha ct_ha), sl_ha⟩)
  (c_ha : PySem.W.codeIn K cd_ha "_law_hand" = true)
  (k_ha : PySem.W.keepIn K (.ref f_ha) = true)
  {f_dr : Addr}
  (a_dr : PySem.W.nsIn K mainGlobals "_law_draw" = some (some (.ref f_dr)))
  {od_dr an_dr : Option Addr}
  {sl_dr : Array (Option Value)}
  {oc_dr kV_dr dc_dr pm_dr cd_dr ct_dr : Value}
  (l_dr : K.lookup f_dr = some ⟨oc_dr, od_dr, .func (PySem.W.fnOf "_law_draw" "_law_draw" (defArgs s__law_draw) (defBody s__law_draw) (defScope s__law_draw) .none kV_dr dc_dr pm_dr an_dr cd_dr ct_dr), sl_dr⟩)
  (c_dr : PySem.W.codeIn K cd_dr "_law_draw" = true)
  (k_dr : PySem.W.keepIn K (.ref f_dr) = true)
  {f_pk : Addr}
  (a_pk : PySem.W.nsIn K mainGlobals "_law_pick" = some (some (.ref f_pk)))
  {od_pk an_pk : Option Addr}
  {sl_pk : Array (Option Value)}
  {oc_pk kV_pk dc_pk pm_pk cd_pk ct_pk : Value}
  (l_pk : K.lookup f_pk = some ⟨oc_pk, od_pk, .func (PySem.W.fnOf "_law_pick" "_law_pick" (defArgs s__law_pick) (defBody s__law_pick) (defScope s__law_pick) .none kV_pk dc_pk pm_pk an_pk cd_pk ct_pk), sl_pk⟩)
  (c_pk : PySem.W.codeIn K cd_pk "_law_pick" = true)
  (k_pk : PySem.W.keepIn K (.ref f_pk) = true)
  {f_lo : Addr}
  (a_lo : PySem.W.nsIn K mainGlobals "_law_lots" = some (some (.ref f_lo)))
  {od_lo an_lo : Option Addr}
  {sl_lo : Array (Option Value)}
  {oc_lo kV_lo dc_lo pm_lo cd_lo ct_lo : Value}
  (l_lo : K.lookup f_lo = some ⟨oc_lo, od_lo, .func (PySem.W.fnOf "_law_lots" "_law_lots" (defArgs s__law_lots) (defBody s__law_lots) (defScope s__law_lots) .none kV_lo dc_lo pm_lo an_lo cd_lo ct_lo), sl_lo⟩)
  (c_lo : PySem.W.codeIn K cd_lo "_law_lots" = true)
  (k_lo : PySem.W.keepIn K (.ref f_lo) = true)
  {f_ld : Addr}
  (a_ld : PySem.W.nsIn K mainGlobals "_law_land" = some (some (.ref f_ld)))
  {od_ld an_ld : Option Addr}
  {sl_ld : Array (Option Value)}
  {oc_ld kV_ld dc_ld pm_ld cd_ld ct_ld : Value}
  (l_ld : K.lookup f_ld = some ⟨oc_ld, od_ld, .func (PySem.W.fnOf "_law_land" "_law_land" (defArgs s__law_land) (defBody s__law_land) (defScope s__law_land) .none kV_ld dc_ld pm_ld an_ld cd_ld ct_ld), sl_ld⟩)
  (c_ld : PySem.W.codeIn K cd_ld "_law_land" = true)
  (k_ld : PySem.W.keepIn K (.ref f_ld) = true)
  {f_lor : Addr}
  (a_lor : PySem.W.nsIn K mainGlobals "_law_orders" = some (some (.ref f_lor)))
  {od_lor an_lor : Option Addr}
  {sl_lor : Array (Option Value)}
  {oc_lor kV_lor dc_lor pm_lor cd_lor ct_lor : Value}
  (l_lor : K.lookup f_lor = some ⟨oc_lor, od_lor, .func (PySem.W.fnOf "_law_orders" "_law_orders" (defArgs s__law_orders) (defBody s__law_orders) (defScope s__law_orders) .none kV_lor dc_lor pm_lor an_lor cd_lor ct_lor), sl_lor⟩)
  (c_lor : PySem.W.codeIn K cd_lor "_law_orders" = true)
  (k_lor : PySem.W.keepIn K (.ref f_lor) = true)
  {f_ll : Addr}
  (a_ll : PySem.W.nsIn K mainGlobals "_law_led" = some (some (.ref f_ll)))
  {od_ll an_ll : Option Addr}
  {sl_ll : Array (Option Value)}
  {oc_ll kV_ll dc_ll pm_ll cd_ll ct_ll : Value}
  (l_ll : K.lookup f_ll = some ⟨oc_ll, od_ll, .func (PySem.W.fnOf "_law_led" "_law_led" (defArgs s__law_led) (defBody s__law_led) (defScope s__law_led) .none kV_ll dc_ll pm_ll an_ll cd_ll ct_ll), sl_ll⟩)
  (c_ll : PySem.W.codeIn K cd_ll "_law_led" = true)
  (k_ll : PySem.W.keepIn K (.ref f_ll) = true)
  {f_rf : Addr}
  (a_rf : PySem.W.nsIn K mainGlobals "_law_refused" = some (some (.ref f_rf)))
  {od_rf an_rf : Option Addr}
  {sl_rf : Array (Option Value)}
  {oc_rf kV_rf dc_rf pm_rf cd_rf ct_rf : Value}
  (l_rf : K.lookup f_rf = some ⟨oc_rf, od_rf, .func (PySem.W.fnOf "_law_refused" "_law_refused" (defArgs s__law_refused) (defBody s__law_refused) (defScope s__law_refused) .none kV_rf dc_rf pm_rf an_rf cd_rf ct_rf), sl_rf⟩)
  (c_rf : PySem.W.codeIn K cd_rf "_law_refused" = true)
  (k_rf : PySem.W.keepIn K (.ref f_rf) = true)
  {f_lm : Addr}
  (a_lm : PySem.W.nsIn K mainGlobals "_law_least_of" = some (some (.ref f_lm)))
  {od_lm an_lm : Option Addr}
  {sl_lm : Array (Option Value)}
  {oc_lm kV_lm dc_lm pm_lm cd_lm ct_lm : Value}
  (l_lm : K.lookup f_lm = some ⟨oc_lm, od_lm, .func (PySem.W.fnOf "_law_least_of" "_law_least_of" (defArgs s__law_least_of) (defBody s__law_least_of) (defScope s__law_least_of) .none kV_lm dc_lm pm_lm an_lm cd_lm ct_lm), sl_lm⟩)
  (c_lm : PySem.W.codeIn K cd_lm "_law_least_of" = true)
  (k_lm : PySem.W.keepIn K (.ref f_lm) = true)
  {f_la : Addr}
  (a_la : PySem.W.nsIn K mainGlobals "law" = some (some (.ref f_la)))
  {od_la an_la : Option Addr}
  {sl_la : Array (Option Value)}
  {oc_la kV_la dc_la pm_la cd_la ct_la : Value}
  (l_la : K.lookup f_la = some ⟨oc_la, od_la, .func (PySem.W.fnOf "law" "law" (defArgs s_law) (defBody s_law) (defScope s_law) .none kV_la dc_la pm_la an_la cd_la ct_la), sl_la⟩)
  (c_la : PySem.W.codeIn K cd_la "law" = true)
  (k_la : PySem.W.keepIn K (.ref f_la) = true)
  {L : Addr}
  (aL : PySem.W.nsIn K mainGlobals "LandError" = some (some (.ref L)))
  (eL : PySem.W.subIn K (.ref L) (.type "BaseException") = some true)
  (dL : PySem.W.hasDictIn K L = true)
  (tL : PySem.W.typeIn K (.ref L) = some (.type "type"))
  (icL : PySem.W.isClsIn K L = true)
  (hnO : PySem.W.specialIn K (.builtin "object.__class__") "__get__" = some (some (.builtin "getset_descriptor.__get__")))
  (htO : PySem.W.takesIn K (.builtin "object.__class__") = some true)
  {LC : Addr}
  (aLC : PySem.W.nsIn K mainGlobals "Land" = some (some (.ref LC)))
  (pgLC : PySem.W.plainGet K LC Str.empty = true)
  (hdLC : PySem.W.hasDictIn K LC = true)
  (poLC : PySem.W.plainOver K LC = true)
  (saLC : PySem.W.findIn K (.ref LC) "__setattr__" = some (some (.builtin "object.__setattr__")))
  (mkLC : PySem.W.makesIn K LC = true)
  (kcLC : PySem.W.keepIn K (.ref LC) = true)
  (haLC : PySem.W.findIn K (.ref LC) "__class__" = some (some (.builtin "object.__class__")))
  (hmLC : PySem.W.mroIn K LC (.type "object") = some true)
  (neLC : PySem.W.findIn K (.ref LC) "__ne__" = some (some (.builtin "object.__ne__")))
  (n_LC_cells : PySem.W.findIn K (.ref LC) "cells" = some none)
  (n_LC_neighbours : PySem.W.findIn K (.ref LC) "neighbours" = some none)
  (n_LC_roads : PySem.W.findIn K (.ref LC) "roads" = some none)
  (n_LC_nearby : PySem.W.findIn K (.ref LC) "nearby" = some none)
  (n_LC__couples : PySem.W.findIn K (.ref LC) "_couples" = some none)
  {f_cI : Addr}
  (a_cI : PySem.W.findIn K (.ref LC) "__init__" = some (some (.ref f_cI)))
  (i_cI : PySem.W.isFn K (.ref f_cI) = true)
  {od_cI an_cI : Option Addr}
  {sl_cI : Array (Option Value)}
  {oc_cI kV_cI dc_cI pm_cI cd_cI ct_cI : Value}
  (l_cI : K.lookup f_cI = some ⟨oc_cI, od_cI, .func (PySem.W.fnOf "__init__" "Land.__init__" (defArgs s_Land___init__) (defBody s_Land___init__) (defScope s_Land___init__) .none kV_cI dc_cI pm_cI an_cI cd_cI ct_cI), sl_cI⟩)
  (c_cI : PySem.W.codeIn K cd_cI "Land.__init__" = true)
  (k_cI : PySem.W.keepIn K (.ref f_cI) = true)
  {f_eq : Addr}
  (a_eq : PySem.W.findIn K (.ref LC) "__eq__" = some (some (.ref f_eq)))
  (i_eq : PySem.W.isFn K (.ref f_eq) = true)
  {od_eq an_eq : Option Addr}
  {sl_eq : Array (Option Value)}
  {oc_eq kV_eq dc_eq pm_eq cd_eq ct_eq : Value}
  (l_eq : K.lookup f_eq = some ⟨oc_eq, od_eq, .func (PySem.W.fnOf "__eq__" "Land.__eq__" (defArgs s_Land___eq__) (defBody s_Land___eq__) (defScope s_Land___eq__) .none kV_eq dc_eq pm_eq an_eq cd_eq ct_eq), sl_eq⟩)
  (c_eq : PySem.W.codeIn K cd_eq "Land.__eq__" = true)
  (k_eq : PySem.W.keepIn K (.ref f_eq) = true)
  {pr_cp f_cp : Addr}
  (a_cp : PySem.W.findIn K (.ref LC) "couples" = some (some (.ref pr_cp)))
  (gp_cp : PySem.W.specialIn K (.ref pr_cp) "__get__" = some (some (.builtin "property.__get__")))
  (tp_cp : PySem.W.takesIn K (.ref pr_cp) = some true)
  {rest_cp : List Value}
  (rp_cp : PySem.W.recIn K pr_cp "property" = some (.ref f_cp :: rest_cp))
  {od_cp an_cp : Option Addr}
  {sl_cp : Array (Option Value)}
  {oc_cp kV_cp dc_cp pm_cp cd_cp ct_cp : Value}
  (l_cp : K.lookup f_cp = some ⟨oc_cp, od_cp, .func (PySem.W.fnOf "couples" "Land.couples" (defArgs s_Land_couples) (defBody s_Land_couples) (defScope s_Land_couples) .none kV_cp dc_cp pm_cp an_cp cd_cp ct_cp), sl_cp⟩)
  (c_cp : PySem.W.codeIn K cd_cp "Land.couples" = true)
  (k_cp : PySem.W.keepIn K (.ref f_cp) = true)
  {B : Addr}
  (aB : PySem.W.nsIn K mainGlobals "BadCell" = some (some (.ref B)))
  {nmB qB : Str}
  {N_B : Addr}
  {bsB bmB subB : List Value}
  {snB : List Str}
  {abB : Bool}
  {colB : Option Bool}
  {ddB : Option Addr}
  {m0B m1B m2B m3B m5B : Option Value}
  (xB : K.lookup B = some (excClassObj nmB qB B N_B bsB bmB true snB subB abB colB ddB m0B m1B m2B m3B m5B "ValueError.__new__"))
  (rB : PySem.HandSPX.refsVE bmB = true)
  (saB : PySem.W.findIn K (.ref B) "__setattr__" = some (some (.builtin "object.__setattr__")))
  (exB : PySem.W.subIn K (.ref B) (.type "BaseException") = some true)
  (tyB : PySem.W.typeIn K (.ref B) = some (.type "type"))
  (kpB : PySem.W.keepIn K (.ref B) = true)
  (hgB : PySem.W.findIn K (.ref B) "__getattribute__" = some (some (.builtin "BaseException.__getattribute__")))
  (hkB : PySem.W.findIn K (.ref B) "__getattr__" = some none)
  (hdB : PySem.W.hasDictIn K B = true)
  (haB : PySem.W.findIn K (.ref B) "__class__" = some (some (.builtin "object.__class__")))
  (hmB : PySem.W.mroIn K B (.type "object") = some true)
  (icB : PySem.W.isClsIn K B = true)
  (ssB : PySem.W.subIn K (.ref B) (.ref B) = some true)
  (suB : PySem.W.subIn K (.ref B) (.ref L) = some true)
  (noB : PySem.W.findIn K (.ref B) "cell" = some none)
  {f_iB : Addr}
  (a_iB : PySem.W.findIn K (.ref B) "__init__" = some (some (.ref f_iB)))
  (t_iB : PySem.W.typeIn K (.ref f_iB) = some (.type "function"))
  {od_iB an_iB : Option Addr}
  {sl_iB : Array (Option Value)}
  {oc_iB kV_iB dc_iB pm_iB cd_iB ct_iB : Value}
  (l_iB : K.lookup f_iB = some ⟨oc_iB, od_iB, .func (PySem.W.fnOf "__init__" "BadCell.__init__" (defArgs s_BadCell___init__) (defBody s_BadCell___init__) (defScope s_BadCell___init__) .none kV_iB dc_iB pm_iB an_iB cd_iB ct_iB), sl_iB⟩)
  (c_iB : PySem.W.codeIn K cd_iB "BadCell.__init__" = true)
  (k_iB : PySem.W.keepIn K (.ref f_iB) = true)
  {S : Addr}
  (aS : PySem.W.nsIn K mainGlobals "BadCells" = some (some (.ref S)))
  {nmS qS : Str}
  {N_S : Addr}
  {bsS bmS subS : List Value}
  {snS : List Str}
  {abS : Bool}
  {colS : Option Bool}
  {ddS : Option Addr}
  {m0S m1S m2S m3S m5S : Option Value}
  (xS : K.lookup S = some (excClassObj nmS qS S N_S bsS bmS true snS subS abS colS ddS m0S m1S m2S m3S m5S "ValueError.__new__"))
  (rS : PySem.HandSPX.refsVE bmS = true)
  (saS : PySem.W.findIn K (.ref S) "__setattr__" = some (some (.builtin "object.__setattr__")))
  (exS : PySem.W.subIn K (.ref S) (.type "BaseException") = some true)
  (tyS : PySem.W.typeIn K (.ref S) = some (.type "type"))
  (kpS : PySem.W.keepIn K (.ref S) = true)
  (hgS : PySem.W.findIn K (.ref S) "__getattribute__" = some (some (.builtin "BaseException.__getattribute__")))
  (hkS : PySem.W.findIn K (.ref S) "__getattr__" = some none)
  (hdS : PySem.W.hasDictIn K S = true)
  (haS : PySem.W.findIn K (.ref S) "__class__" = some (some (.builtin "object.__class__")))
  (hmS : PySem.W.mroIn K S (.type "object") = some true)
  (icS : PySem.W.isClsIn K S = true)
  (ssS : PySem.W.subIn K (.ref S) (.ref S) = some true)
  (suS : PySem.W.subIn K (.ref S) (.ref L) = some true)
  (noS : PySem.W.findIn K (.ref S) "what" = some none)
  {f_iS : Addr}
  (a_iS : PySem.W.findIn K (.ref S) "__init__" = some (some (.ref f_iS)))
  (t_iS : PySem.W.typeIn K (.ref f_iS) = some (.type "function"))
  {od_iS an_iS : Option Addr}
  {sl_iS : Array (Option Value)}
  {oc_iS kV_iS dc_iS pm_iS cd_iS ct_iS : Value}
  (l_iS : K.lookup f_iS = some ⟨oc_iS, od_iS, .func (PySem.W.fnOf "__init__" "BadCells.__init__" (defArgs s_BadCells___init__) (defBody s_BadCells___init__) (defScope s_BadCells___init__) .none kV_iS dc_iS pm_iS an_iS cd_iS ct_iS), sl_iS⟩)
  (c_iS : PySem.W.codeIn K cd_iS "BadCells.__init__" = true)
  (k_iS : PySem.W.keepIn K (.ref f_iS) = true)
  {t_M : Tok}
  (a_M : PySem.W.nsIn K mainGlobals "MOST_CELLS" = some (some (.int 5 t_M)))
  (z_isinstance : PySem.W.nsIn K mainGlobals "isinstance" = some none)
  (z_int : PySem.W.nsIn K mainGlobals "int" = some none)
  (z_bool : PySem.W.nsIn K mainGlobals "bool" = some none)
  (z_tuple : PySem.W.nsIn K mainGlobals "tuple" = some none)
  (z_list : PySem.W.nsIn K mainGlobals "list" = some none)
  (z_enumerate : PySem.W.nsIn K mainGlobals "enumerate" = some none)
  (z_len : PySem.W.nsIn K mainGlobals "len" = some none)
  (z_abs : PySem.W.nsIn K mainGlobals "abs" = some none)
  (z_range : PySem.W.nsIn K mainGlobals "range" = some none)
  (z_min : PySem.W.nsIn K mainGlobals "min" = some none)
  (z_max : PySem.W.nsIn K mainGlobals "max" = some none)
  (z_sorted : PySem.W.nsIn K mainGlobals "sorted" = some none)
  (z_set : PySem.W.nsIn K mainGlobals "set" = some none)
  (z_all : PySem.W.nsIn K mainGlobals "all" = some none) :
    ∃ fd : FuncData, (∀ (s : Shared) (u : Value), BindsTo s fd ⟨[u], []⟩ [("_law_script", u)]) ∧ ∀ base : Heap, K.In base → base.Ns mainGlobals mg → K7E.FnG P w K mg base CX0 13 fa fd ["_law_script"] (spLaw K) := by
  have e := hfa.symm.trans (PySem.W.mg_of X G a_la)
  cases e
  have F_sq := fun_mk (st := s_is_sequence) l_sq c_sq k_sq
  have b_sq := F_sq.binds (ps := ["thing"]) fun _ _ _ _ _ _ us hl => match us, hl with | [_], _ => rfl
  have g_sq := PySem.W.mg_of X G a_sq
  have F_isw := fun_mk (st := s_is_whole) l_isw c_isw k_isw
  have b_isw := F_isw.binds (ps := ["thing", "low", "high"]) fun _ _ _ _ _ _ us hl => match us, hl with | [_, _, _], _ => rfl
  have g_isw := PySem.W.mg_of X G a_isw
  have F_ac := fun_mk (st := s_are_cells) l_ac c_ac k_ac
  have b_ac := F_ac.binds (ps := ["many", "thing", "least"]) fun _ _ _ _ _ _ us hl => match us, hl with | [_, _, _], _ => rfl
  have g_ac := PySem.W.mg_of X G a_ac
  have F_a2 := fun_mk (st := s_are_two_cells) l_a2 c_a2 k_a2
  have b_a2 := F_a2.binds (ps := ["many", "thing"]) fun _ _ _ _ _ _ us hl => match us, hl with | [_, _], _ => rfl
  have g_a2 := PySem.W.mg_of X G a_a2
  have F_sp := fun_mk (st := s_spread) l_sp c_sp k_sp
  have b_sp := F_sp.binds (ps := ["nearby", "cell", "passing"]) fun _ _ _ _ _ _ us hl => match us, hl with | [_, _, _], _ => rfl
  have g_sp := PySem.W.mg_of X G a_sp
  have F_ny := fun_mk (st := s_nearby_cells) l_ny c_ny k_ny
  have b_ny := F_ny.binds (ps := ["cells", "couples"]) fun _ _ _ _ _ _ us hl => match us, hl with | [_, _], _ => rfl
  have g_ny := PySem.W.mg_of X G a_ny
  have F_ht := fun_mk (st := s_hang_together) l_ht c_ht k_ht
  have b_ht := F_ht.binds (ps := ["cells", "couples"]) fun _ _ _ _ _ _ us hl => match us, hl with | [_, _], _ => rfl
  have g_ht := PySem.W.mg_of X G a_ht
  have F_nb := fun_mk (st := s__are_neighbours) l_nb c_nb k_nb
  have b_nb := F_nb.binds (ps := ["cells", "thing"]) fun _ _ _ _ _ _ us hl => match us, hl with | [_, _], _ => rfl
  have g_nb := PySem.W.mg_of X G a_nb
  have F_ao := fun_mk (st := s_all_orders) l_ao c_ao k_ao
  have b_ao := F_ao.binds (ps := ["many"]) fun _ _ _ _ _ _ us hl => match us, hl with | [_], _ => rfl
  have g_ao := PySem.W.mg_of X G a_ao
  have F_co := fun_mk (st := s_check_order) l_co c_co k_co
  have b_co := F_co.binds (ps := ["many", "order"]) fun _ _ _ _ _ _ us hl => match us, hl with | [_, _], _ => rfl
  have g_co := PySem.W.mg_of X G a_co
  have F_lt := fun_mk (st := s_led_lot) l_lt c_lt k_lt
  have b_lt := F_lt.binds (ps := ["order", "lot"]) fun _ _ _ _ _ _ us hl => match us, hl with | [_, _], _ => rfl
  have g_lt := PySem.W.mg_of X G a_lt
  have F_lcp := fun_mk (st := s_led_couple) l_lcp c_lcp k_lcp
  have b_lcp := F_lcp.binds (ps := ["order", "couple"]) fun _ _ _ _ _ _ us hl => match us, hl with | [_, _], _ => rfl
  have g_lcp := PySem.W.mg_of X G a_lcp
  have F_lp := fun_mk (st := s__led_parts) l_lp c_lp k_lp
  have b_lp := F_lp.binds (ps := ["land", "order"]) fun _ _ _ _ _ _ us hl => match us, hl with | [_, _], _ => rfl
  have g_lp := PySem.W.mg_of X G a_lp
  have F_rn := fun_mk (st := s_renumbered) l_rn c_rn k_rn
  have b_rn := F_rn.binds (ps := ["land", "order"]) fun _ _ _ _ _ _ us hl => match us, hl with | [_, _], _ => rfl
  have g_rn := PySem.W.mg_of X G a_rn
  have F_lk := fun_mk (st := s_likenesses) l_lk c_lk k_lk
  have b_lk := F_lk.binds (ps := ["one", "other"]) fun _ _ _ _ _ _ us hl => match us, hl with | [_, _], _ => rfl
  have g_lk := PySem.W.mg_of X G a_lk
  have F_lf := fun_mk (st := s_least_form) l_lf c_lf k_lf
  have b_lf := F_lf.binds (ps := ["land"]) fun _ _ _ _ _ _ us hl => match us, hl with | [_], _ => rfl
  have g_lf := PySem.W.mg_of X G a_lf
  have F_mi := fun_mk (st := s__law_mix) l_mi c_mi k_mi
  have b_mi := F_mi.binds (ps := ["_law_number", "_law_turn"]) fun _ _ _ _ _ _ us hl => match us, hl with | [_, _], _ => rfl
  have g_mi := PySem.W.mg_of X G a_mi
  have F_ha := fun_mk (st := s__law_hand) l_ha c_ha k_ha
  have b_ha := F_ha.binds (ps := ["_law_script"]) fun _ _ _ _ _ _ us hl => match us, hl with | [_], _ => rfl
  have g_ha := PySem.W.mg_of X G a_ha
  have F_dr := fun_mk (st := s__law_draw) l_dr c_dr k_dr
  have b_dr := F_dr.binds (ps := ["_law_hand_here", "_law_many"]) fun _ _ _ _ _ _ us hl => match us, hl with | [_, _], _ => rfl
  have g_dr := PySem.W.mg_of X G a_dr
  have F_pk := fun_mk (st := s__law_pick) l_pk c_pk k_pk
  have b_pk := F_pk.binds (ps := ["_law_hand_here", "_law_things"]) fun _ _ _ _ _ _ us hl => match us, hl with | [_, _], _ => rfl
  have g_pk := PySem.W.mg_of X G a_pk
  have F_lo := fun_mk (st := s__law_lots) l_lo c_lo k_lo
  have b_lo := F_lo.binds (ps := ["_law_cells"]) fun _ _ _ _ _ _ us hl => match us, hl with | [_], _ => rfl
  have g_lo := PySem.W.mg_of X G a_lo
  have F_ld := fun_mk (st := s__law_land) l_ld c_ld k_ld
  have b_ld := F_ld.binds (ps := ["_law_hand_here", "_law_n"]) fun _ _ _ _ _ _ us hl => match us, hl with | [_, _], _ => rfl
  have g_ld := PySem.W.mg_of X G a_ld
  have F_lor := fun_mk (st := s__law_orders) l_lor c_lor k_lor
  have b_lor := F_lor.binds (ps := ["_law_n"]) fun _ _ _ _ _ _ us hl => match us, hl with | [_], _ => rfl
  have g_lor := PySem.W.mg_of X G a_lor
  have F_ll := fun_mk (st := s__law_led) l_ll c_ll k_ll
  have b_ll := F_ll.binds (ps := ["_law_order", "_law_plain"]) fun _ _ _ _ _ _ us hl => match us, hl with | [_, _], _ => rfl
  have g_ll := PySem.W.mg_of X G a_ll
  have F_rf := fun_mk (st := s__law_refused) l_rf c_rf k_rf
  have b_rf := F_rf.binds (ps := ["_law_land_here", "_law_order"]) fun _ _ _ _ _ _ us hl => match us, hl with | [_, _], _ => rfl
  have g_rf := PySem.W.mg_of X G a_rf
  have F_lm := fun_mk (st := s__law_least_of) l_lm c_lm k_lm
  have b_lm := F_lm.binds (ps := ["_law_plain"]) fun _ _ _ _ _ _ us hl => match us, hl with | [_], _ => rfl
  have g_lm := PySem.W.mg_of X G a_lm
  have F_la := fun_mk (st := s_law) l_la c_la k_la
  have b_la := F_la.binds (ps := ["_law_script"]) fun _ _ _ _ _ _ us hl => match us, hl with | [_], _ => rfl
  have g_la := PySem.W.mg_of X G a_la
  have gcL := PySem.W.mg_of X G aL
  have F_cI := fun_mk (st := s_Land___init__) l_cI c_cI k_cI
  have b_cI := F_cI.binds (ps := ["self", "cells", "neighbours", "roads"]) fun _ _ _ _ _ _ us hl => match us, hl with | [_, _, _, _], _ => rfl
  have M_LC : Mk K LC f_cI := ⟨mkLC, a_cI, i_cI, kcLC⟩
  have F_eq := fun_mk (st := s_Land___eq__) l_eq c_eq k_eq
  have b_eq := F_eq.binds (ps := ["self", "other"]) fun _ _ _ _ _ _ us hl => match us, hl with | [_, _], _ => rfl
  have F_cp := fun_mk (st := s_Land_couples) l_cp c_cp k_cp
  have b_cp := F_cp.binds (ps := ["self"]) fun _ _ _ _ _ _ us hl => match us, hl with | [_], _ => rfl
  have p_cp : PropOf K LC "couples" pr_cp f_cp := ⟨a_cp, gp_cp, tp_cp, _, rp_cp⟩
  have clsLC : Cls K LC := ⟨pgLC, hdLC, poLC, saLC⟩
  have gcLC := PySem.W.mg_of X G aLC
  have F_iB := fun_mk (st := s_BadCell___init__) l_iB c_iB k_iB
  have b_iB := F_iB.binds (ps := ["self", "cell"]) fun _ _ _ _ _ _ us hl => match us, hl with | [_, _], _ => rfl
  have oxB : OexC K B := ⟨⟨_, _, _, _, _, _, _, _, _, _, _, _, _, _, _, xB, rB⟩, saB, exB, tyB, kpB⟩
  have gcB := PySem.W.mg_of X G aB
  have emB : PySem.W.exmOne K (.ref B) (.ref B) = some true := PySem.W.exm_ref exB hdB tyB ssB
  have F_iS := fun_mk (st := s_BadCells___init__) l_iS c_iS k_iS
  have b_iS := F_iS.binds (ps := ["self", "what"]) fun _ _ _ _ _ _ us hl => match us, hl with | [_, _], _ => rfl
  have oxS : OexC K S := ⟨⟨_, _, _, _, _, _, _, _, _, _, _, _, _, _, _, xS, rS⟩, saS, exS, tyS, kpS⟩
  have gcS := PySem.W.mg_of X G aS
  have emS : PySem.W.exmOne K (.ref S) (.ref S) = some true := PySem.W.exm_ref exS hdS tyS ssS
  have g_M := PySem.W.mg_of X G a_M
  have m_isinstance := PySem.W.mg_none_of X G z_isinstance
  have m_int := PySem.W.mg_none_of X G z_int
  have m_bool := PySem.W.mg_none_of X G z_bool
  have m_tuple := PySem.W.mg_none_of X G z_tuple
  have m_list := PySem.W.mg_none_of X G z_list
  have m_enumerate := PySem.W.mg_none_of X G z_enumerate
  have m_len := PySem.W.mg_none_of X G z_len
  have m_abs := PySem.W.mg_none_of X G z_abs
  have m_range := PySem.W.mg_none_of X G z_range
  have m_min := PySem.W.mg_none_of X G z_min
  have m_max := PySem.W.mg_none_of X G z_max
  have m_sorted := PySem.W.mg_none_of X G z_sorted
  have m_set := PySem.W.mg_none_of X G z_set
  have m_all := PySem.W.mg_none_of X G z_all
  have self : ∀ c : Addr, PySem.W.kitOne K (.ref c) (.ref c) = some true := fun c => by simp [PySem.W.kitOne]
  have kcls : ∀ t : Value, ∀ c : Addr, PySem.W.isClsIn K c = true → PySem.W.typeIn K (.ref c) = some (.type "type") → PySem.W.kitCls K t (.ref c) = PySem.W.subIn K t (.ref c) := fun t c i y => by
    have e1 : ((PySem.W.clsIn K c).isSome && PySem.W.typeIn K (.ref c) == some (.type "type")) = true := by rw [show (PySem.W.clsIn K c).isSome = true from i, y] <;> rfl
    show (if ((PySem.W.clsIn K c).isSome && PySem.W.typeIn K (.ref c) == some (.type "type")) = true then PySem.W.subIn K t (.ref c) else none) = _
    rw [if_pos e1]
  have kT : ∀ t c : Addr, PySem.W.isClsIn K c = true → PySem.W.typeIn K (.ref c) = some (.type "type") → PySem.W.subIn K (.ref t) (.ref c) = some true → PySem.W.kitOne K (.ref t) (.ref c) = some true := fun t c i y s => by
    unfold PySem.W.kitOne
    rw [kcls _ c i y, s]
    split <;> rfl
  have kF : ∀ t c : Addr, PySem.W.isClsIn K c = true → PySem.W.typeIn K (.ref c) = some (.type "type") → PySem.W.subIn K (.ref t) (.ref c) = some false → PySem.W.subIn K (.ref t) (.ref t) = some true → PySem.W.kitOne K (.ref t) (.ref c) = some false := fun t c i y s ss => by
    have hn : ¬ ((Value.ref t == Value.ref c) = true) := fun e => by
      have e' : t = c := by simpa using e
      subst e'
      rw [ss] at s
      cases s
    unfold PySem.W.kitOne
    rw [if_neg hn, kcls _ c i y, s]
  have kTy : ∀ t : String, ∀ c : Addr, PySem.W.isClsIn K c = true → PySem.W.typeIn K (.ref c) = some (.type "type") → PySem.W.subIn K (.type t) (.ref c) = some false → PySem.W.kitOne K (.type t) (.ref c) = some false := fun t c i y s => by
    have e1 : ((PySem.W.clsIn K c).isSome && PySem.W.typeIn K (.ref c) == some (.type "type")) = true := by rw [show (PySem.W.clsIn K c).isSome = true from i, y] <;> rfl
    show (if ((PySem.W.clsIn K c).isSome && PySem.W.typeIn K (.ref c) == some (.type "type")) = true then PySem.W.subIn K (.type t) (.ref c) else none) = some false
    rw [if_pos e1]
    exact s
  have TL : Tl K mg ⟨LC, B, f_iB⟩ :=
    { gC := gcLC, cl := clsLC, gB := gcB, oxB := oxB, iCB := a_iB, tIB := t_iB, nB := noB, nA := fun f hf => by
        simp only [lfields, List.mem_cons, List.not_mem_nil, or_false] at hf
        rcases hf with rfl | rfl | rfl | rfl | rfl
        · exact n_LC_cells
        · exact n_LC_neighbours
        · exact n_LC_roads
        · exact n_LC_nearby
        · exact n_LC__couples }
  have TS : Ts K mg S f_iS := ⟨gcS, oxS, a_iS, t_iS, noS⟩
  have T2 : Tk K LC f_eq := ⟨haLC, hnO, htO, hmLC, self LC, a_eq, i_eq, neLC⟩
  have T3 : Te K mg S L := ⟨gcL, ⟨hgS, hkS, exS, hdS, haS, hnO, htO, hmS⟩, ⟨hgS, hkS, exS, hdS⟩, PySem.W.exm_ref eL dL tL suS, self S⟩
  refine ⟨PySem.W.fnOf "law" "law" (defArgs s_law) (defBody s_law) (defScope s_law) .none kV_la dc_la pm_la an_la cd_la ct_la, fun s u => .of_eq rfl, fun base _ _ => ?_⟩
  have G_mi := ok_mix (P := P) (w := w) (mg := mg) (base := base)  F_mi m_int
  have G_ha := ok_hand (P := P) (w := w) (mg := mg) (base := base)  F_ha m_int m_abs m_enumerate
  have G_dr := ok_draw (P := P) (w := w) (mg := mg) (base := base)  F_dr F_mi g_mi b_mi m_int m_len
  have G_pk := ok_pick (P := P) (w := w) (mg := mg) (base := base)  F_pk k_dr G_dr g_dr b_dr m_len
  have G_lo := ok_lots (P := P) (w := w) (mg := mg) (base := base)  F_lo m_range m_len m_list
  have G_ld := ok_land (P := P) (w := w) (mg := mg) (base := base)  F_ld G_dr g_dr k_dr b_dr G_pk g_pk k_pk b_pk G_lo g_lo k_lo b_lo m_range m_len m_list m_min m_max m_sorted
  have G_isw := ok_whole (P := P) (w := w) (mg := mg) (base := base)  F_isw m_isinstance m_int m_bool
  have G_sq := ok_seq (P := P) (w := w) (mg := mg) (base := base)  F_sq m_isinstance m_list m_tuple
  have G_ac := ok_cells (P := P) (w := w) (mg := mg) (base := base)  F_ac G_sq g_sq k_sq b_sq G_isw g_isw k_isw b_isw m_len m_set m_all
  have G_a2 := ok_two (P := P) (w := w) (mg := mg) (base := base)  F_a2 G_ac g_ac k_ac b_ac m_len
  have G_sp := ok_spread (P := P) (w := w) (mg := mg) (base := base)  F_sp m_len
  have G_ny := ok_near (P := P) (w := w) (mg := mg) (base := base)  F_ny m_range m_tuple
  have G_ht := ok_hang (P := P) (w := w) (mg := mg) (base := base)  F_ht G_ny g_ny k_ny b_ny G_sp g_sp k_sp b_sp m_len m_list m_range
  have G_nb := ok_nbrs (P := P) (w := w) (mg := mg) (base := base)  F_nb G_sq g_sq k_sq b_sq G_a2 g_a2 k_a2 b_a2 m_len m_all m_tuple m_sorted
  have G_cI := ok_landI (P := P) (w := w) (mg := mg) (base := base)  TL g_M F_cI G_isw g_isw k_isw b_isw G_nb g_nb k_nb b_nb G_ac g_ac k_ac b_ac G_ht g_ht k_ht b_ht G_ny g_ny k_ny b_ny m_len m_sorted m_tuple m_range
  have G_cp := ok_couples (P := P) (w := w) (mg := mg) (base := base)  TL F_cp
  have G_eq := ok_eqL (P := P) (w := w) (mg := mg) (base := base)  TL T2 F_eq m_isinstance
  have G_ao := ok_allo (P := P) (w := w) (mg := mg) (base := base)  F_ao m_range m_tuple
  have G_lor := ok_lord (P := P) (w := w) (mg := mg) (base := base)  F_lor m_range m_list
  have G_lt := ok_ledl (P := P) (w := w) (mg := mg) (base := base)  F_lt m_sorted m_tuple
  have G_lcp := ok_ledc (P := P) (w := w) (mg := mg) (base := base)  F_lcp
  have G_lp := ok_parts (P := P) (w := w) (mg := mg) (base := base)  TL F_lp G_lt g_lt k_lt b_lt m_sorted m_tuple
  have G_co := ok_cko (P := P) (w := w) (mg := mg) (base := base)  TS F_co G_ac g_ac k_ac b_ac F_iS b_iS
  have G_rn := ok_ren (P := P) (w := w) (mg := mg) (base := base)  TL F_rn G_co g_co k_co b_co G_lp g_lp k_lp b_lp M_LC G_cI b_cI
  have G_lk := ok_like (P := P) (w := w) (mg := mg) (base := base)  T2 F_lk G_ao g_ao k_ao b_ao G_rn g_rn k_rn b_rn TL G_eq b_eq
  have G_lf := ok_leastf (P := P) (w := w) (mg := mg) (base := base)  TL F_lf G_ao g_ao k_ao b_ao G_lp g_lp k_lp b_lp M_LC G_cI b_cI m_min
  have G_ll := ok_lled (P := P) (w := w) (mg := mg) (base := base)  F_ll m_sorted m_tuple m_min m_max
  have G_rf := ok_refd (P := P) (w := w) (mg := mg) (base := base)  TS T3 F_rf G_rn g_rn k_rn b_rn m_isinstance
  have G_lm := ok_lleast (P := P) (w := w) (mg := mg) (base := base)  F_lm G_lor g_lor k_lor b_lor G_ll g_ll k_ll b_ll m_min
  exact ok_law TL T2 F_la G_ha g_ha k_ha b_ha G_ld g_ld k_ld b_ld G_pk g_pk k_pk b_pk G_dr g_dr k_dr b_dr G_lo g_lo k_lo b_lo G_lor g_lor k_lor b_lor G_ao g_ao k_ao b_ao G_ll g_ll k_ll b_ll G_lm g_lm k_lm b_lm G_lf g_lf k_lf b_lf G_lt g_lt k_lt b_lt G_lcp g_lcp k_lcp b_lcp G_rf g_rf k_rf b_rf G_rn g_rn k_rn b_rn G_lk g_lk k_lk b_lk M_LC G_cI b_cI G_eq b_eq p_cp G_cp b_cp m_list m_range m_tuple m_sorted
end K7
end
open PySem PySem.W PyProof.Rows
set_option maxHeartbeats 0 in
theorem PySem.Challenge.cw_landways_k04_renumbered_lands_and_likene_holds : PySem.Challenge.rw_landways_k04_renumbered_lands_and_likene.Holds := by
  w_on; o_law; k_head; (case hw => w_witness2)
  k_fill
  refine K7E.walk_ofG (l := PySem.Challenge.rw_landways_k04_renumbered_lands_and_likene) (n := 63) (k := 13) (x := "_law_script") (CX := fun _ => L2.CX0) (sp := fun w => K7.spLaw _) rfl (by decide) rfl ⟨rfl, by decide, by decide⟩ (fun w h Y => PySem.W.kIn_of Y) ?F (fun _ _ a ns hl _ _ hS => ⟨a, ns, rfl, hS, hl, fun _ => rfl⟩) (fun _ _ _ _ _ h => h)
  case F =>
    intro w mg fa h KX G hmg
    refine' K7.all_mk KX G hmg ?a_sq ?l_sq ?c_sq ?k_sq ?a_isw ?l_isw ?c_isw ?k_isw ?a_ac ?l_ac ?c_ac ?k_ac ?a_a2 ?l_a2 ?c_a2 ?k_a2 ?a_sp ?l_sp ?c_sp ?k_sp ?a_ny ?l_ny ?c_ny ?k_ny ?a_ht ?l_ht ?c_ht ?k_ht ?a_nb ?l_nb ?c_nb ?k_nb ?a_ao ?l_ao ?c_ao ?k_ao ?a_co ?l_co ?c_co ?k_co ?a_lt ?l_lt ?c_lt ?k_lt ?a_lcp ?l_lcp ?c_lcp ?k_lcp ?a_lp ?l_lp ?c_lp ?k_lp ?a_rn ?l_rn ?c_rn ?k_rn ?a_lk ?l_lk ?c_lk ?k_lk ?a_lf ?l_lf ?c_lf ?k_lf ?a_mi ?l_mi ?c_mi ?k_mi ?a_ha ?l_ha ?c_ha ?k_ha ?a_dr ?l_dr ?c_dr ?k_dr ?a_pk ?l_pk ?c_pk ?k_pk ?a_lo ?l_lo ?c_lo ?k_lo ?a_ld ?l_ld ?c_ld ?k_ld ?a_lor ?l_lor ?c_lor ?k_lor ?a_ll ?l_ll ?c_ll ?k_ll ?a_rf ?l_rf ?c_rf ?k_rf ?a_lm ?l_lm ?c_lm ?k_lm ?a_la ?l_la ?c_la ?k_la ?aL ?eL ?dL ?tL ?icL ?hnO ?htO ?aLC ?pgLC ?hdLC ?poLC ?saLC ?mkLC ?kcLC ?haLC ?hmLC ?neLC ?n_LC_cells ?n_LC_neighbours ?n_LC_roads ?n_LC_nearby ?n_LC__couples ?a_cI ?i_cI ?l_cI ?c_cI ?k_cI ?a_eq ?i_eq ?l_eq ?c_eq ?k_eq ?a_cp ?gp_cp ?tp_cp ?rp_cp ?l_cp ?c_cp ?k_cp ?aB ?xB ?rB ?saB ?exB ?tyB ?kpB ?hgB ?hkB ?hdB ?haB ?hmB ?icB ?ssB ?suB ?noB ?a_iB ?t_iB ?l_iB ?c_iB ?k_iB ?aS ?xS ?rS ?saS ?exS ?tyS ?kpS ?hgS ?hkS ?hdS ?haS ?hmS ?icS ?ssS ?suS ?noS ?a_iS ?t_iS ?l_iS ?c_iS ?k_iS ?a_M ?z_isinstance ?z_int ?z_bool ?z_tuple ?z_list ?z_enumerate ?z_len ?z_abs ?z_range ?z_min ?z_max ?z_sorted ?z_set ?z_all
    (case a_sq => k_is)
    (case l_sq => k_is)
    (case c_sq => k_is)
    (case k_sq => k_is)
    (case a_isw => k_is)
    (case l_isw => k_is)
    (case c_isw => k_is)
    (case k_isw => k_is)
    (case a_ac => k_is)
    (case l_ac => k_is)
    (case c_ac => k_is)
    (case k_ac => k_is)
    (case a_a2 => k_is)
    (case l_a2 => k_is)
    (case c_a2 => k_is)
    (case k_a2 => k_is)
    (case a_sp => k_is)
    (case l_sp => k_is)
    (case c_sp => k_is)
    (case k_sp => k_is)
    (case a_ny => k_is)
    (case l_ny => k_is)
    (case c_ny => k_is)
    (case k_ny => k_is)
    (case a_ht => k_is)
    (case l_ht => k_is)
    (case c_ht => k_is)
    (case k_ht => k_is)
    (case a_nb => k_is)
    (case l_nb => k_is)
    (case c_nb => k_is)
    (case k_nb => k_is)
    (case a_ao => k_is)
    (case l_ao => k_is)
    (case c_ao => k_is)
    (case k_ao => k_is)
    (case a_co => k_is)
    (case l_co => k_is)
    (case c_co => k_is)
    (case k_co => k_is)
    (case a_lt => k_is)
    (case l_lt => k_is)
    (case c_lt => k_is)
    (case k_lt => k_is)
    (case a_lcp => k_is)
    (case l_lcp => k_is)
    (case c_lcp => k_is)
    (case k_lcp => k_is)
    (case a_lp => k_is)
    (case l_lp => k_is)
    (case c_lp => k_is)
    (case k_lp => k_is)
    (case a_rn => k_is)
    (case l_rn => k_is)
    (case c_rn => k_is)
    (case k_rn => k_is)
    (case a_lk => k_is)
    (case l_lk => k_is)
    (case c_lk => k_is)
    (case k_lk => k_is)
    (case a_lf => k_is)
    (case l_lf => k_is)
    (case c_lf => k_is)
    (case k_lf => k_is)
    (case a_mi => k_is)
    (case l_mi => k_is)
    (case c_mi => k_is)
    (case k_mi => k_is)
    (case a_ha => k_is)
    (case l_ha => k_is)
    (case c_ha => k_is)
    (case k_ha => k_is)
    (case a_dr => k_is)
    (case l_dr => k_is)
    (case c_dr => k_is)
    (case k_dr => k_is)
    (case a_pk => k_is)
    (case l_pk => k_is)
    (case c_pk => k_is)
    (case k_pk => k_is)
    (case a_lo => k_is)
    (case l_lo => k_is)
    (case c_lo => k_is)
    (case k_lo => k_is)
    (case a_ld => k_is)
    (case l_ld => k_is)
    (case c_ld => k_is)
    (case k_ld => k_is)
    (case a_lor => k_is)
    (case l_lor => k_is)
    (case c_lor => k_is)
    (case k_lor => k_is)
    (case a_ll => k_is)
    (case l_ll => k_is)
    (case c_ll => k_is)
    (case k_ll => k_is)
    (case a_rf => k_is)
    (case l_rf => k_is)
    (case c_rf => k_is)
    (case k_rf => k_is)
    (case a_lm => k_is)
    (case l_lm => k_is)
    (case c_lm => k_is)
    (case k_lm => k_is)
    (case a_la => k_is)
    (case l_la => k_is)
    (case c_la => k_is)
    (case k_la => k_is)
    (case aL => k_is)
    (case eL => k_is)
    (case dL => k_is)
    (case tL => k_is)
    (case icL => k_is)
    (case hnO => k_is)
    (case htO => k_is)
    (case aLC => k_is)
    (case pgLC => k_is)
    (case hdLC => k_is)
    (case poLC => k_is)
    (case saLC => k_is)
    (case mkLC => k_is)
    (case kcLC => k_is)
    (case haLC => k_is)
    (case hmLC => k_is)
    (case neLC => k_is)
    (case n_LC_cells => k_is)
    (case n_LC_neighbours => k_is)
    (case n_LC_roads => k_is)
    (case n_LC_nearby => k_is)
    (case n_LC__couples => k_is)
    (case a_cI => k_is)
    (case i_cI => k_is)
    (case l_cI => k_is)
    (case c_cI => k_is)
    (case k_cI => k_is)
    (case a_eq => k_is)
    (case i_eq => k_is)
    (case l_eq => k_is)
    (case c_eq => k_is)
    (case k_eq => k_is)
    (case a_cp => k_is)
    (case gp_cp => k_is)
    (case tp_cp => k_is)
    (case rp_cp => k_is)
    (case l_cp => k_is)
    (case c_cp => k_is)
    (case k_cp => k_is)
    (case aB => k_is)
    (case xB => k_is)
    (case rB => decide +kernel)
    (case saB => k_is)
    (case exB => k_is)
    (case tyB => k_is)
    (case kpB => k_is)
    (case hgB => k_is)
    (case hkB => k_is)
    (case hdB => k_is)
    (case haB => k_is)
    (case hmB => k_is)
    (case icB => k_is)
    (case ssB => k_is)
    (case suB => k_is)
    (case noB => k_is)
    (case a_iB => k_is)
    (case t_iB => k_is)
    (case l_iB => k_is)
    (case c_iB => k_is)
    (case k_iB => k_is)
    (case aS => k_is)
    (case xS => k_is)
    (case rS => decide +kernel)
    (case saS => k_is)
    (case exS => k_is)
    (case tyS => k_is)
    (case kpS => k_is)
    (case hgS => k_is)
    (case hkS => k_is)
    (case hdS => k_is)
    (case haS => k_is)
    (case hmS => k_is)
    (case icS => k_is)
    (case ssS => k_is)
    (case suS => k_is)
    (case noS => k_is)
    (case a_iS => k_is)
    (case t_iS => k_is)
    (case l_iS => k_is)
    (case c_iS => k_is)
    (case k_iS => k_is)
    (case a_M => k_is)
    (case z_isinstance => k_is)
    (case z_int => k_is)
    (case z_bool => k_is)
    (case z_tuple => k_is)
    (case z_list => k_is)
    (case z_enumerate => k_is)
    (case z_len => k_is)
    (case z_abs => k_is)
    (case z_range => k_is)
    (case z_min => k_is)
    (case z_max => k_is)
    (case z_sorted => k_is)
    (case z_set => k_is)
    (case z_all => k_is)

