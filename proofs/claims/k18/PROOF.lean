import PyProof.Rows.All
import Wide.All
import OpenK.AllK
import Wide.FinOn
import PySem.Challenge.RW_landways_k18_views_refused_and_texts_of
import HandS.ForMost
import HandS.Wide
import HandS.Evl
import HandS.Walk
import HandS.Zip
import HandS.TupAny
import HandS.Sort
import PyProof.ListRange
import HandS.Deep
import HandS.SortRule
import HandS.Star
import HandS.IsInst
import HandS.TupSets
import HandS.SetFor
import HandS.SetBool
import PyProof.TupleOfSeq
import HandS.Property
import HandS.ExcIs
import HandS.ExcField
import HandS.ForExc
import HandS.ExcInit
import KE.DataMinMax
import KE.SortData
import KE.LtData
import HandS.SlotsOwn
import HandS.OwnEq
import PyProof.InstEq
import HandS.MakeKw
import HandS.Iter
import KE.GoesMore
import KE.GoesEnum
import HandS.Style
import HandS.RaiseMore
import KE.KExcIs
import PyProof.FactsAll.dict_1
import HandS.Flow
import HandS.Strs
import HandS.Codes
import HandS.StrMore
import HandS.FStr
import PyProof.Rows.ChunkEnd
import HandS.Text
import HandS.EndBits
set_option Elab.async false
set_option linter.all false
set_option maxRecDepth 100000
set_option maxHeartbeats 4000000
/-! ## P1 -/
section
open PySem PySem.Spec PyProof.Rows L2
namespace K7

def topS (i : Nat) : Stmt := PySem.Challenge.pw_landways_k18_views_refused_and_texts_of.main.body.getD i (.Pass ⟨0, 0, 0, 0⟩)
abbrev N__law_mix : List Str := ["_law_number", "_law_turn", "_law_once", "_law_twice"]
abbrev s__law_mix : Stmt := topS 42
theorem sc__law_mix : FnScope ["_law_number", "_law_turn", "_law_once", "_law_twice"] ["_law_number", "_law_turn"] (defScope s__law_mix) := ⟨rfl, rfl, rfl, by decide +kernel, rfl, by decide +kernel, by decide +kernel⟩

abbrev N__law_draw : List Str := ["_law_hand_here", "_law_many", "_law_cell", "_law_rest"]
abbrev s__law_draw : Stmt := topS 44
theorem sc__law_draw : FnScope ["_law_hand_here", "_law_many", "_law_cell", "_law_rest"] ["_law_hand_here", "_law_many"] (defScope s__law_draw) := ⟨rfl, rfl, rfl, by decide +kernel, rfl, by decide +kernel, by decide +kernel⟩

abbrev N__law_pick : List Str := ["_law_hand_here", "_law_things"]
abbrev s__law_pick : Stmt := topS 45
theorem sc__law_pick : FnScope ["_law_hand_here", "_law_things"] ["_law_hand_here", "_law_things"] (defScope s__law_pick) := ⟨rfl, rfl, rfl, by decide +kernel, rfl, by decide +kernel, by decide +kernel⟩

abbrev N__law_hand : List Str := ["_law_script", "_law_total", "_law_k", "_law_cell"]
abbrev s__law_hand : Stmt := topS 43
theorem sc__law_hand : FnScope ["_law_script", "_law_total", "_law_k", "_law_cell"] ["_law_script"] (defScope s__law_hand) := ⟨rfl, rfl, rfl, by decide +kernel, rfl, by decide +kernel, by decide +kernel⟩

section
variable {P : Program} {w : World} {K : PySem.W.Frag} {mg : Str → Option Value} {base : Heap}
/-! mix: some number from 0 on -/
def spMix : Sp := fun vs H Q _ => ∃ n t : Int, vs = [.int n, .int t] ∧ ∀ r : Int, 0 ≤ r → Q (.int r) H
theorem ok_mix {f : Addr} {fd : FuncData} (F : Fun K "_law_mix" "_law_mix" s__law_mix f fd) (m_int : mg "int" = none) : FnOk P w K mg base CX0 1 f fd ["_law_number", "_law_turn"] spMix := by
  refine F.ok sc__law_mix (fun vs H Q E h => ?_) (fun cdv A outer s H vs Q E hr h => ?_)
  · obtain ⟨n, t, rfl, _⟩ := h
    rfl
  · obtain ⟨n, t, rfl, q⟩ := h
    refine ⟨_, (pss_cons (ps_set (i := 2) sc__law_mix.nd rfl (by first | exact Or.inl rfl | exact Or.inr rfl) (pe_op op_mod (pe_callTy call_int1 (by rfl) m_int boot_int (pa_cons (pe_op op_add (pe_op op_add (pe_op op_mul (pv 0) pe_int) (pe_op op_mul (pv 1) pe_int)) pe_int) pa_nil)) pe_int))
 (pss_cons (ps_set (i := 3) sc__law_mix.nd rfl (by first | exact Or.inl rfl | exact Or.inr rfl) (pe_op op_mod (pe_callTy call_int1 (by rfl) m_int boot_int (pa_cons (pe_op op_add (pe_op op_add (pe_op op_mul (pv 2) (pv 2)) (pe_op op_mul (pe_op op_fdiv (pv 2) pe_int) pe_int)) (pe_op op_mul (pv 1) pe_int)) pa_nil)) pe_int))
 (pss_one (ps_ret (pe_op op_fdiv (pe_op op_mod (pe_callTy call_int1 (by rfl) m_int boot_int (pa_cons (pe_op op_add (pe_op op_fdiv (pe_op op_mul (pv 3) (pv 3)) pe_int) (pv 2)) pa_nil)) pe_int) pe_int))))), ?_⟩
    have e1 : ∀ z : Int, 0 ≤ z % 2147483647 ∧ z % 2147483647 < 2147483647 := fun z => ⟨Int.emod_nonneg _ (by decide), Int.emod_lt_of_pos _ (by decide)⟩
    have e2 : ∀ z : Int, 0 ≤ z % 2147483399 ∧ z % 2147483399 < 2147483399 := fun z => ⟨Int.emod_nonneg _ (by decide), Int.emod_lt_of_pos _ (by decide)⟩
    refine ⟨_, rfl, _, _, rfl, rfl, .inr ⟨by decide, by decide⟩, _, rfl, _, _, rfl, rfl, .inr ⟨by decide, by decide⟩, _, _, rfl, rfl, _, _, rfl, rfl, .inl ⟨_, rfl, ?_⟩⟩
    refine ⟨_, _, rfl, rfl, show (0 : Int) < _ by decide, ?_⟩
    have b1 := e1 (n * 48271 + t * 16807 + 11)
    refine ⟨_, rfl, _, rfl, _, _, rfl, rfl, .inl ⟨by omega, by omega⟩, _, rfl, _, _, rfl, rfl, ⟨by decide, by decide⟩, _, _, rfl, rfl, .inr ⟨by decide, by decide⟩, _, _, rfl, rfl, _, rfl, _, _, rfl, rfl, .inr ⟨by decide, by decide⟩, _, _, rfl, rfl, .inl ⟨_, rfl, ?_⟩⟩
    refine ⟨_, _, rfl, rfl, show (0 : Int) < _ by decide, ?_⟩
    refine ⟨_, rfl, _, rfl, _, _, rfl, rfl, .inl ⟨by omega, by omega⟩, _, _, rfl, rfl, ⟨by decide, by decide⟩, _, rfl, _, _, rfl, rfl, .inl ⟨_, rfl, _, _, rfl, rfl, show (0 : Int) < _ by decide, _, _, rfl, rfl, ⟨by decide, by decide⟩, ?_⟩⟩
    exact q _ (Int.ediv_nonneg (Int.emod_nonneg _ (by decide)) (by decide))
/-! the hand -/
structure HandB (ns : List Int) (i x t : Int) : Prop where
  len : ns.length ≤ 63
  lo : 0 ≤ i
  hi : i ≤ ns.length
  x0 : 0 ≤ x
  t0 : 0 ≤ t
  pos : ∀ n ∈ ns, 0 ≤ n
def HandO (c : Addr) (i x t : Int) : HO := .lst [.ref c, .int i, .int x, .int t]
def Hand (H : Hp) (a c : Addr) : Prop := ∃ ns i x t, H a = some (HandO c i x t) ∧ H c = some (.lst (ns.map V.int)) ∧ HandB ns i x t
/-- H' is H but for the hand at a, which is a hand still -/
structure Drawn (H H' : Hp) (a c : Addr) : Prop where
  but : ∀ b, b ≠ a → H' b = H b
  hand : Hand H' a c
def spDraw : Sp := fun vs H Q _ => ∃ (a c : Addr) (many : Int), vs = [.ref a, .int many] ∧ Hand H a c ∧ 0 < many ∧ many < 2 ^ 200 ∧ ∀ H' r, Drawn H H' a c → 0 ≤ r → r < many → Q (.int r) H'
theorem hand_ne {H : Hp} {a c : Addr} {ns : List Int} {i x t : Int} (h1 : H a = some (HandO c i x t)) (h2 : H c = some (.lst (ns.map V.int))) : c ≠ a := by
  intro e
  subst e
  rw [h1] at h2
  unfold HandO at h2
  injection h2 with h2
  injection h2 with h2
  cases ns with
  | nil => cases h2
  | cons n r => rw [List.map_cons] at h2; injection h2 with h3 h4; cases h3
theorem drawn_of {H H0 : Hp} {a c : Addr} {ns : List Int} {i x t : Int} (hb : ∀ b, b ≠ a → H0 b = H b) (hc : c ≠ a) (h2 : H c = some (.lst (ns.map V.int))) (B : HandB ns i x t) : Drawn H (upd H0 a (HandO c i x t)) a c :=
  ⟨fun b h => by rw [upd_ne h]; exact hb b h, ⟨ns, i, x, t, upd_same, by rw [upd_ne hc, hb c hc]; exact h2, B⟩⟩
theorem wide200 {many : Int} (h0 : 0 < many) (h1 : many < 2 ^ 200) (i : Int) : CDivW i many := wide_div (b := 200) h0 (by omega) (by decide) (by decide)
theorem ok_draw {f fM : Addr} {fd fdM : FuncData} (F : Fun K "_law_draw" "_law_draw" s__law_draw f fd) (FM : Fun K "_law_mix" "_law_mix" s__law_mix fM fdM) (g_law_mix : mg "_law_mix" = some (.ref fM)) (b_law_mix : Binds K fdM ["_law_number", "_law_turn"] [])
    (m_int : mg "int" = none) (m_len : mg "len" = none) : FnOk P w K mg base CX0 2 f fd ["_law_hand_here", "_law_many"] spDraw := by
  have G_law_mix : FnOk P w K mg base CX0 1 fM fdM ["_law_number", "_law_turn"] spMix := ok_mix FM m_int
  have k_law_mix := FM.kp
  refine F.ok sc__law_draw (fun vs H Q E h => ?_) (fun cdv A outer s H vs Q E hr h => ?_)
  · obtain ⟨a, c, n, rfl, _⟩ := h
    rfl
  · obtain ⟨a, c, many, rfl, ⟨ns, i, x, t, h1, h2, B⟩, hm0, hm1, q⟩ := h
    have hr_law_mix := hr
    have hc := hand_ne h1 h2
    refine ⟨_, (Evl.pss_cut (ps_if (pw_and (pt_cmpR op_eq (pe_ix ix_list (pv 0) pe_int (fun _ _ => rfl)) pe_int (nomark _)) (pw_and1 (pt_cmpR op_lt (pe_ix ix_list (pv 0) pe_int (fun _ _ => rfl)) (pe_callB call_len_seq (by rfl) m_len boot_len (pa_cons (pe_ix ix_list (pv 0) pe_int (fun _ _ => rfl)) pa_nil)) (nomark _)))).pt
  (pss_cons (ps_set (i := 2) sc__law_draw.nd rfl (by first | exact Or.inl rfl | exact Or.inr rfl) (pe_ix ix_list (pe_ix ix_list (pv 0) pe_int (fun _ _ => rfl)) (pe_ix ix_list (pv 0) pe_int (fun _ _ => rfl)) (fun _ _ => rfl)))
 (pss_cons (ps_asg (pe_op op_add (pe_ix ix_list (pv 0) pe_int (fun _ _ => rfl)) pe_int) (pg_sub (pv 0) pe_int set_list))
 (pss_cons (ps_if (pt_cmpR op_lt (pv 2) (pe_op op_pow pe_int pe_int) (nomark _))
  (pss_one (ps_ret (pe_op op_mod (pe_callTy call_int1 (by rfl) m_int boot_int (pa_cons (pe_call G_law_mix hr_law_mix (by rfl) g_law_mix k_law_mix b_law_mix .nil pass0 (pa_cons (pe_op op_mod (pe_callTy call_int1 (by rfl) m_int boot_int (pa_cons (pv 2) pa_nil)) pe_int) (pa_cons (pe_ix ix_list (pv 0) pe_int (fun _ _ => rfl)) pa_nil))) pa_nil)) (pv 1))))
  pss_nil)
 (pss_one (ps_asg (pv 2) (pg_sub (pv 0) pe_int set_list))))))
  pss_nil)
 (pss_cons (ps_if (pt_cmpR op_gt (pe_ix ix_list (pv 0) pe_int (fun _ _ => rfl)) pe_int (nomark _))
  (pss_cons (ps_set (i := 3) sc__law_draw.nd rfl (by first | exact Or.inl rfl | exact Or.inr rfl) (pe_ix ix_list (pv 0) pe_int (fun _ _ => rfl)))
 (pss_cons (ps_asg (pe_op op_fdivW (pv 3) (pv 1)) (pg_sub (pv 0) pe_int set_list))
 (pss_one (ps_ret (pe_op op_mod (pe_callTy call_int1 (by rfl) m_int boot_int (pa_cons (pv 3) pa_nil)) (pv 1))))))
  pss_nil)
 (pss_cons (ps_asg (pe_op op_mod (pe_callTy call_int1 (by rfl) m_int boot_int (pa_cons (pe_op op_add (pe_ix ix_list (pv 0) pe_int (fun _ _ => rfl)) pe_int) pa_nil)) pe_int) (pg_sub (pv 0) pe_int set_list))
 (pss_one (ps_ret (pe_op op_mod (pe_callTy call_int1 (by rfl) m_int boot_int (pa_cons (pe_call G_law_mix hr_law_mix (by rfl) g_law_mix k_law_mix b_law_mix .nil pass0 (pa_cons (pe_ix ix_list (pv 0) pe_int (fun _ _ => rfl)) (pa_cons (pe_ix ix_list (pv 0) pe_int (fun _ _ => rfl)) pa_nil))) pa_nil)) (pv 1))))))), ?_⟩
    have hS : SqL K H a [.ref c, .int i, .int x, .int t] := .inl (.inl h1)
    have hC : SqL K H c (ns.map V.int) := .inl (.inl h2)
    have last : ∀ (i' : Int) (σ : L2.St) , 0 ≤ i' → i' ≤ ns.length → True := fun _ _ _ _ => trivial
    refine ⟨fun σ' H' => ∃ i' x' y2, σ' = [some (.ref a), some (.int many), y2, none] ∧ (∀ b, b ≠ a → H' b = H b) ∧ H' a = some (HandO c i' x' t) ∧ HandB ns i' x' t, ?_, fun σ' H' hM => ?_⟩
    refine ⟨.ref a, rfl, a, _, _, _, rfl, rfl, hS, rfl, rfl, _, rfl, ite2 (fun e => ?_) (fun e => ?_)⟩
    · have ex : x = 0 := V.int.inj (of_decide_eq_true e)
      subst ex
      refine ⟨.ref a, rfl, a, _, _, _, rfl, rfl, hS, rfl, .ref a, rfl, a, _, _, _, rfl, rfl, hS, rfl, c, _, rfl, .inl hC, _, _, rfl, rfl, _, rfl, ite2 (fun e => ?_) (fun e => ?_)⟩
      · have hi : i < ((ns.map V.int).length : Int) := of_decide_eq_true e
        rw [List.length_map] at hi
        have hlo := B.lo
        obtain ⟨j, rfl⟩ : ∃ j : Nat, i = (j : Int) := ⟨i.toNat, by omega⟩
        have hj : j < ns.length := by omega
        have gj : (ns.map V.int)[j]? = some (.int ns[j]) := by
          rw [List.getElem?_map, List.getElem?_eq_getElem hj]
          rfl
        have p0 : 0 ≤ ns[j] := B.pos _ (List.getElem_mem hj)
        refine ⟨.ref a, rfl, a, _, _, _, rfl, rfl, hS, rfl, .ref a, rfl, a, _, _, _, rfl, rfl, hS, rfl, c, _, _, _, rfl, rfl, hC, atI_nat gj, ?_⟩
        refine ⟨.ref a, rfl, a, _, _, _, rfl, rfl, hS, rfl, _, _, rfl, rfl, .ref a, rfl, a, _, _, _, rfl, rfl, h1, rfl, ?_⟩
        have hS2 : SqL K (upd H a (HandO c (j + 1) 0 t)) a [.ref c, .int (j + 1), .int 0, .int t] := .inl (.inl upd_same)
        refine ⟨_, rfl, _, _, rfl, rfl, ⟨by decide, by decide, by decide⟩, _, _, rfl, rfl, _, rfl, ite2 (fun e => ?_) (fun e => ?_)⟩
        · refine ⟨_, rfl, .inl ⟨_, rfl, _, _, rfl, rfl, show (0 : Int) < _ by decide, .ref a, rfl, a, _, _, _, rfl, rfl, hS2, rfl, _, _, rfl, fun r r0 => .inl ⟨_, rfl, _, rfl, _, _, rfl, rfl, hm0, ?_⟩⟩⟩
          exact q _ _ (drawn_of (H0 := H) (fun _ _ => rfl) hc h2 ⟨B.len, by omega, by omega, by decide, B.t0, B.pos⟩) (Int.emod_nonneg _ (by omega)) (Int.emod_lt_of_pos _ hm0)
        · refine ⟨_, rfl, .ref a, rfl, a, _, _, _, rfl, rfl, upd_same, rfl, ?_⟩
          refine ⟨_, _, _, rfl, fun b hb => by rw [upd_ne hb, upd_ne hb], upd_same, ⟨B.len, by omega, by omega, p0, B.t0, B.pos⟩⟩
      · exact ⟨i, 0, none, rfl, fun _ _ => rfl, h1, B⟩
    · exact ⟨i, x, none, rfl, fun _ _ => rfl, h1, B⟩
    · obtain ⟨i', x', y2, rfl, hb, h1', B'⟩ := hM
      have h2' : H' c = some (.lst (ns.map V.int)) := by rw [hb c hc]; exact h2
      have hS' : SqL K H' a [.ref c, .int i', .int x', .int t] := .inl (.inl h1')
      refine ⟨.ref a, rfl, a, _, _, _, rfl, rfl, hS', rfl, _, _, rfl, rfl, _, rfl, ite2 (fun e => ?_) (fun e => ?_)⟩
      · refine ⟨.ref a, rfl, a, _, _, _, rfl, rfl, hS', rfl, _, rfl, _, rfl, _, _, rfl, rfl, wide200 hm0 hm1 _, .ref a, rfl, a, _, _, _, rfl, rfl, h1', rfl, ?_⟩
        refine ⟨_, rfl, .inl ⟨_, rfl, _, rfl, _, _, rfl, rfl, hm0, ?_⟩⟩
        exact q _ _ (drawn_of (H0 := H') hb hc h2 ⟨B.len, B'.lo, B'.hi, Int.ediv_nonneg B'.x0 (by omega), B.t0, B.pos⟩) (Int.emod_nonneg _ (by omega)) (Int.emod_lt_of_pos _ hm0)
      · refine ⟨.ref a, rfl, a, _, _, _, rfl, rfl, hS', rfl, _, _, rfl, rfl, .inl ⟨_, rfl, _, _, rfl, rfl, show (0 : Int) < _ by decide, .ref a, rfl, a, _, _, _, rfl, rfl, h1', rfl, ?_⟩⟩
        have hS3 : SqL K (upd H' a (HandO c i' x' ((t + 1) % 2147483629))) a [.ref c, .int i', .int x', .int ((t + 1) % 2147483629)] := .inl (.inl upd_same)
        refine ⟨.ref a, rfl, a, _, _, _, rfl, rfl, hS3, rfl, .ref a, rfl, a, _, _, _, rfl, rfl, hS3, rfl, _, _, rfl, fun r r0 => .inl ⟨_, rfl, _, rfl, _, _, rfl, rfl, hm0, ?_⟩⟩
        exact q _ _ (drawn_of (H0 := H') hb hc h2 ⟨B.len, B'.lo, B'.hi, B'.x0, Int.emod_nonneg _ (by decide), B.pos⟩) (Int.emod_nonneg _ (by omega)) (Int.emod_lt_of_pos _ hm0)
theorem Hand.same {H H' : Hp} {a c : Addr} (h : Hand H a c) (e : Same H H') : Hand H' a c := by
  obtain ⟨ns, i, x, t, h1, h2, B⟩ := h
  exact ⟨ns, i, x, t, e _ _ h1, e _ _ h2, B⟩
theorem Hand.upd {H : Hp} {a c l : Addr} {o : HO} (h : Hand H a c) (h1 : l ≠ a) (h2 : l ≠ c) : Hand (upd H l o) a c := by
  obtain ⟨ns, i, x, t, e1, e2, B⟩ := h
  exact ⟨ns, i, x, t, by rw [upd_ne h1.symm]; exact e1, by rw [upd_ne h2.symm]; exact e2, B⟩
theorem Hand.ne {H : Hp} {a c l : Addr} (h : Hand H a c) (n : H l = none) : l ≠ a ∧ l ≠ c := by
  obtain ⟨ns, i, x, t, e1, e2, B⟩ := h
  exact ⟨(ne_of_none e1 n).symm, (ne_of_none e2 n).symm⟩
/-- an item of a list -/
def spPick : Sp := fun vs H Q _ => ∃ (a c l : Addr) (xs : List V), vs = [.ref a, .ref l] ∧ Hand H a c ∧ l ≠ a ∧ H l = some (.lst xs) ∧ 0 < xs.length ∧ xs.length ≤ 1000 ∧ ∀ H' (j : Nat) v, Drawn H H' a c → xs[j]? = some v → Q v H'
theorem ok_pick {f fD : Addr} {fd fdD : FuncData} (F : Fun K "_law_pick" "_law_pick" s__law_pick f fd) (k_law_draw : PySem.W.keepIn K (.ref fD) = true) (G_law_draw : FnOk P w K mg base CX0 2 fD fdD ["_law_hand_here", "_law_many"] spDraw) (g_law_draw : mg "_law_draw" = some (.ref fD)) (b_law_draw : Binds K fdD ["_law_hand_here", "_law_many"] [])
    (m_len : mg "len" = none) : FnOk P w K mg base CX0 3 f fd ["_law_hand_here", "_law_things"] spPick := by
  refine F.ok sc__law_pick (fun vs H Q E h => ?_) (fun cdv A outer s H vs Q E hr h => ?_)
  · obtain ⟨a, c, l, xs, rfl, _⟩ := h
    rfl
  · obtain ⟨a, c, l, xs, rfl, hh, hla, hl, h0, h1, q⟩ := h
    have hr_law_draw := hr
    refine ⟨_, (pss_one (ps_ret (pe_ix ix_list (pv 1) (pe_call G_law_draw hr_law_draw (by rfl) g_law_draw k_law_draw b_law_draw .nil pass0 (pa_cons (pv 0) (pa_cons (pe_callB call_len_seq (by rfl) m_len boot_len (pa_cons (pv 1) pa_nil)) pa_nil))) (fun _ _ => rfl)))), ?_⟩
    have hm : ((xs.length : Nat) : Int) < 2 ^ 200 := Int.lt_of_le_of_lt (show ((xs.length : Nat) : Int) ≤ 1000 by omega) (by decide)
    refine ⟨.ref l, rfl, .ref a, rfl, .ref l, rfl, l, _, rfl, .inl (.inl (.inl hl)), a, c, _, rfl, hh, by omega, hm, fun H' r d r0 r1 => ?_⟩
    obtain ⟨j, rfl⟩ : ∃ j : Nat, r = (j : Int) := ⟨r.toNat, by omega⟩
    have hj : j < xs.length := by omega
    have e : xs[j]? = some xs[j] := List.getElem?_eq_getElem hj
    have hl' : H' l = some (.lst xs) := by rw [d.but l hla]; exact hl
    exact ⟨l, xs, _, _, rfl, rfl, .inl (.inl hl'), atI_nat e, q H' j _ d e⟩
/-- the hand of a script -/
def spHand (K : PySem.W.Frag) : Sp := fun vs H Q _ => ∃ (s : Addr) (ns : List Int), vs = [.ref s] ∧ SqL K H s (ns.map V.int) ∧ ns.length ≤ 63 ∧ ∀ H' a c, Same H H' → H a = none → H c = none → Hand H' a c → Q (.ref a) H'
theorem ok_hand {f : Addr} {fd : FuncData} (F : Fun K "_law_hand" "_law_hand" s__law_hand f fd) (m_int : mg "int" = none) (m_abs : mg "abs" = none) (m_enumerate : mg "enumerate" = none) : FnOk P w K mg base CX0 1 f fd ["_law_script"] (spHand K) := by
  refine F.ok sc__law_hand (fun vs H Q E h => ?_) (fun cdv A outer s H vs Q E hr h => ?_)
  · obtain ⟨a, ns, rfl, _⟩ := h
    rfl
  · obtain ⟨a, ns, rfl, hS, hlen, q⟩ := h
    refine ⟨_, (pss_cons (ps_set (i := 1) sc__law_hand.nd rfl (by first | exact Or.inl rfl | exact Or.inr rfl) pe_int)
 (pss_cons (ps_for PassesOwn.never rfl (pi_enum (by rfl) m_enumerate (pa_cons (pv 0) pa_nil)) (pg_tup rfl (pgs_cons (pg_name (i := 2) sc__law_hand.nd rfl (by first | exact Or.inl rfl | exact Or.inr rfl)) (pgs_cons (pg_name (i := 3) sc__law_hand.nd rfl (by first | exact Or.inl rfl | exact Or.inr rfl)) pgs_nil)))
  (pss_one (ps_set (i := 1) sc__law_hand.nd rfl (by first | exact Or.inl rfl | exact Or.inr rfl) (pe_op op_mod (pe_callTy call_int1 (by rfl) m_int boot_int (pa_cons (pe_op op_add (pe_op op_mul (pv 1) pe_int) (pe_op op_mul (pe_callTy call_int1 (by rfl) m_int boot_int (pa_cons (pv 3) pa_nil)) (pe_op op_add (pv 2) pe_int))) pa_nil)) pe_int))))
 (pss_one (ps_ret (pe_lst (pa_cons (pe_lc (own := [("_law_cell", 3)]) (g := gName 3) (tt := tYes) rfl sc__law_hand.nd (pi_list (pv 0)) (blkOk_by (own := [("_law_cell", 3)]) (N := N__law_hand) (sc := defScope s__law_hand) (by decide +kernel)) (fun _ _ _ _ _ => (pg_name (i := 3) sc__law_hand.nd rfl (by first | exact Or.inl rfl | exact Or.inr rfl))) (fun _ _ _ _ _ => pts_nil) (fun _ _ _ _ _ => (pe_callB call_abs (by rfl) m_abs boot_abs (pa_cons (pe_callTy call_int1 (by rfl) m_int boot_int (pa_cons (pv 3) pa_nil)) pa_nil)))) (pa_cons pe_int (pa_cons pe_int (pa_cons (pv 1) pa_nil))))))))), ?_⟩
    have hlen' : (ns.map V.int).length = ns.length := List.length_map ..
    refine ⟨.ref a, rfl, a, _, rfl, hS, for_it (walk_enum (xs := ns.map V.int)) (fun i σ H' => ∃ tot y2 y3, σ = [some (.ref a), some (.int tot), y2, y3] ∧ 0 ≤ tot ∧ tot < 2147483629 ∧ Same H H') ⟨0, none, none, rfl, by decide, by decide, Same.refl H⟩ (fun i σ H' _ p => ?_) (fun i v σ H' H'' hi p y => ?_) (fun σ H1 p => ?_)⟩
    · obtain ⟨tot, y2, y3, rfl, _, _, e⟩ := p
      exact e.seq hS
    · obtain ⟨tot, y2, y3, rfl, t0, t1, e⟩ := p
      obtain ⟨T, x, y, rfl, nT, rfl, ex, ey⟩ := y
      rw [hlen'] at hi
      obtain rfl : .int (i : Nat) = x := Option.some.inj ex
      obtain ⟨n, rfl⟩ : ∃ n : Int, y = .int n := by
        have ey : (ns.map V.int)[i]? = some y := ey
        rw [List.getElem?_map, List.getElem?_eq_getElem hi] at ey
        exact ⟨_, (Option.some.inj ey).symm⟩
      refine ⟨T, _, rfl, .inl (.inl upd_same), rfl, _, _, rfl, _, _, rfl, rfl, ?_⟩
      refine ⟨_, rfl, _, _, rfl, rfl, .inr ⟨by decide, by decide⟩, _, rfl, .inl ⟨_, rfl, _, rfl, _, _, rfl, rfl, _, _, rfl, rfl, .inr ⟨by omega, by omega⟩, _, _, rfl, rfl, .inl ⟨_, rfl, _, _, rfl, rfl, show (0 : Int) < _ by decide, ?_⟩⟩⟩
      refine ⟨_, _, _, rfl, Int.emod_nonneg _ (by decide), Int.emod_lt_of_pos _ (by decide), e.trans fun b z hz => ?_⟩
      rw [upd_ne (ne_of_none hz nT)]
      exact hz
    · obtain ⟨tot, y2, y3, rfl, t0, t1, e⟩ := p
      have hS1 : SqL K H1 a (ns.map V.int) := e.seq hS
      refine ⟨.ref a, rfl, a, rfl, ⟨_, hS1⟩, fun D hD => lc_list (xs := ns.map V.int) (fun i H2 => Same H1 H2 ∧ H2 D = some (.lst ((ns.take i).map fun n => .int (if n < 0 then -n else n)))) ⟨fun b z hz => ?_, upd_same⟩ (fun i H2 _ p => p.1.seq hS1) (fun i x H2 hx p => ?_) (fun H2 p => ?_)⟩
      · rw [upd_ne (ne_of_none hz hD)]
        exact hz
      · obtain ⟨e2, hd⟩ := p
        rw [List.getElem?_map] at hx
        obtain ⟨n, hn, rfl⟩ := Option.map_eq_some_iff.mp hx
        refine ⟨rfl, ?_⟩
        refine ⟨_, rfl, .inl ⟨_, rfl, _, rfl, _, hd, ?_, fun b z hz => ?_, ?_⟩⟩
        · rw [List.length_map, List.length_take]
          exact Nat.lt_of_le_of_lt (Nat.min_le_right _ _) (small1000 (by omega))
        · rw [upd_ne (ne_of_none hz hD)]
          exact e2 _ _ hz
        · rw [upd_same, List.take_add_one, hn, List.map_append]
          rfl
      · obtain ⟨e2, hd⟩ := p
        rw [hlen', List.take_length] at hd
        refine ⟨_, rfl, by show 4 ≤ sizeLine; decide, fun p hp => ?_⟩
        have npD : D ≠ p := ne_of_none hd hp
        refine q _ p D ?_ ((e.trans e2).free hp) (e.free hD) ⟨ns.map fun n => if n < 0 then -n else n, 0, 0, tot, upd_same, ?_, ?_⟩
        · exact fun b z hz => by
            rw [upd_ne (ne_of_none ((e.trans e2) _ _ hz) hp)]
            exact (e.trans e2) _ _ hz
        · rw [upd_ne npD, hd, List.map_map]
          rfl
        · refine ⟨by rw [List.length_map]; exact hlen, by decide, by omega, by decide, t0, fun n hn => ?_⟩
          obtain ⟨m, _, rfl⟩ := List.mem_map.mp hn
          split <;> omega
end
end K7
end
/-! ## P2 -/
section
open PySem PySem.Spec PyProof.Rows L2
namespace K7
abbrev N__law_lots : List Str := ["_law_cells", "_law_found", "_law_last", "_law_turn", "_law_grown", "_law_lot", "_law_cell"]
abbrev s__law_lots : Stmt := topS 46
theorem sc__law_lots : FnScope ["_law_cells", "_law_found", "_law_last", "_law_turn", "_law_grown", "_law_lot", "_law_cell"] ["_law_cells"] (defScope s__law_lots) := ⟨rfl, rfl, rfl, by decide +kernel, rfl, by decide +kernel, by decide +kernel⟩

theorem same_new {H H' : Hp} {p : Addr} {o : HO} (e : Same H H') (h : H' p = none) : Same H (upd H' p o) := fun b z hz => by
  have h2 := e _ _ hz
  rw [upd_ne (ne_of_none h2 h)]
  exact h2
def But (x : Addr) (H H' : Hp) : Prop := ∀ b o, b ≠ x → H b = some o → H' b = some o
/-! ### all lots of the cells -/
def grow1 (cells lot : List Nat) : List (List Nat) := (cells.filter fun c => lot.isEmpty || decide (lot.getLastD 0 < c)).map fun c => lot ++ [c]
def level (cells : List Nat) : Nat → List (List Nat)
  | 0 => [[]]
  | k + 1 => (level cells k).flatMap (grow1 cells)
def lotsTo (cells : List Nat) : Nat → List (List Nat)
  | 0 => [[]]
  | k + 1 => lotsTo cells k ++ level cells (k + 1)
theorem level_len : ∀ n : Fin 6, ∀ k : Fin 7, (level (List.range n.val) k.val).length ≤ 10 ∧ (lotsTo (List.range n.val) k.val).length ≤ 32 := by decide +kernel
theorem level_lot : ∀ n : Fin 6, ∀ k : Fin 7, (level (List.range n.val) k.val).all (fun l => decide (l.length ≤ 990)) = true := by decide +kernel
theorem lot_len {n t i : Nat} {lot : List Nat} (hn : n ≤ 5) (ht : t ≤ 6) (h : (level (List.range n) t)[i]? = some lot) : lot.length ≤ 990 := by
  have := List.all_eq_true.mp (level_lot ⟨n, by omega⟩ ⟨t, by omega⟩) lot (List.mem_of_getElem? h)
  exact of_decide_eq_true this
/-- tuples of cells at these places -/
inductive TAt (H : Hp) : List Addr → List (List Nat) → Prop
  | nil : TAt H [] []
  | cons {t : Addr} {l : List Nat} {ts : List Addr} {ls : List (List Nat)} (h : H t = some (.tup (l.map fun c => .int (c : Nat)))) (r : TAt H ts ls) : TAt H (t :: ts) (l :: ls)
theorem TAt.same {H H' : Hp} (e : Same H H') : ∀ {ts ls}, TAt H ts ls → TAt H' ts ls
  | _, _, .nil => .nil
  | _, _, .cons h r => .cons (e _ _ h) (r.same e)
theorem TAt.mono {H H' : Hp} (e : ∀ b xs, H b = some (.tup xs) → H' b = some (.tup xs)) : ∀ {ts ls}, TAt H ts ls → TAt H' ts ls
  | _, _, .nil => .nil
  | _, _, .cons h r => .cons (e _ _ h) (r.mono e)
theorem TAt.append {H : Hp} : ∀ {ts ls us ms}, TAt H ts ls → TAt H us ms → TAt H (ts ++ us) (ls ++ ms)
  | _, _, _, _, .nil, r => r
  | _, _, _, _, .cons h q, r => .cons h (q.append r)
theorem TAt.len {H : Hp} : ∀ {ts ls}, TAt H ts ls → ts.length = ls.length
  | _, _, .nil => rfl
  | _, _, .cons _ r => congrArg Nat.succ r.len
theorem TAt.get {H : Hp} : ∀ {ts ls} {i : Nat} {t : Addr}, TAt H ts ls → ts[i]? = some t → ∃ l, ls[i]? = some l ∧ H t = some (.tup (l.map fun c => .int (c : Nat)))
  | _, _, 0, _, .cons h r, e => by
    cases e
    exact ⟨_, rfl, h⟩
  | _, _, i + 1, _, .cons h r, e => r.get (i := i) e
def ints_ (l : List Nat) : List V := l.map fun c => .int (c : Nat)
def intD (l : List Nat) : PyData := .tuple (l.map fun c => .int (c : Nat))
theorem dp_ints {K : PySem.W.Frag} {H : Hp} : ∀ l : List Nat, DpAll K H (l.map fun c => .int (c : Nat)) (l.map fun c => PyData.int (c : Nat))
  | [] => .nil
  | x :: l => .cons (.int _) (dp_ints l)
theorem shaped_ints (l : List Nat) : SeqAt.shaped (intD l) = true := by
  have h1 : ∀ l : List Nat, PyData.canLayAll0 (l.map fun c => PyData.int (c : Nat)) = true ∧ PyData.depthAll (l.map fun c => PyData.int (c : Nat)) = 0 := fun l => by
    induction l with
    | nil => exact ⟨by simp [PyData.canLayAll0], by simp [PyData.depthAll]⟩
    | cons x r ih => exact ⟨by simp [PyData.canLayAll0, PyData.canLay0, ih.1], by simp [PyData.depthAll, PyData.depth, ih.2]⟩
  show ((PyData.canLay0 (intD l)) && decide (PyData.depth (intD l) ≤ 64)) = true
  simp [intD, PyData.canLay0, PyData.depth, (h1 l).1, (h1 l).2]
theorem eqv_empty (l : List Nat) : PyData.eqv (intD l) (.tuple []) = l.isEmpty := by
  cases l with
  | nil => simp [intD, PyData.eqv, PyData.eqvAll]
  | cons x r => simp [intD, PyData.eqv, PyData.eqvAll]
theorem last_get : ∀ (r : List Nat) (x : Nat), (x :: r)[r.length]? = some (r.getLastD x)
  | [], x => rfl
  | y :: r, x => by
    rw [List.getLastD_cons]
    exact last_get r y
theorem last_at {l : List Nat} (h : l.isEmpty = false) : atI (ints_ l) (-1) = some (.int (l.getLastD 0 : Nat)) := by
  cases l with
  | nil => cases h
  | cons x r =>
    have hl : (ints_ (x :: r)).length = r.length + 1 := by unfold ints_; rw [List.length_map]; rfl
    unfold atI
    rw [hl]
    have e : ixN (r.length + 1) (-1) = some r.length := by
      unfold ixN
      simp
      omega
    rw [e]
    show (ints_ (x :: r))[r.length]? = _
    unfold ints_
    rw [List.getElem?_map]
    have e2 : (x :: r)[r.length]? = some ((x :: r).getLastD 0) := by
      rw [List.getLastD_cons]
      exact last_get r x
    rw [e2]
    rfl
section
variable {P : Program} {w : World} {K : PySem.W.Frag} {mg : Str → Option Value} {base : Heap}
def spLots : Sp := fun vs H Q _ => ∃ (r : Addr) (n : Nat), vs = [.ref r] ∧ n ≤ 5 ∧ H r = some (.lst (ints_ (List.range n))) ∧ ∀ H' q ts, Same H H' → H q = none → H' q = some (.lst (ts.map V.ref)) → TAt H' ts (lotsTo (List.range n) n) → Q (.ref q) H'
theorem ok_lots {f : Addr} {fd : FuncData} (F : Fun K "_law_lots" "_law_lots" s__law_lots f fd) (m_range : mg "range" = none) (m_len : mg "len" = none) (m_list : mg "list" = none) : FnOk P w K mg base CX0 1 f fd ["_law_cells"] spLots := by
  refine F.ok sc__law_lots (fun vs H Q E h => ?_) (fun cdv A outer s H vs Q E hr h => ?_)
  · obtain ⟨r, n, rfl, _⟩ := h
    rfl
  · obtain ⟨r, n, rfl, hn, hr0, q⟩ := h
    refine ⟨_, (pss_cons (ps_par (by rfl) sc__law_lots.nd (i := 1) (j := 2) rfl rfl (by decide) rfl rfl (pa_cons (pe_lst (pa_cons (pe_tup pa_nil) pa_nil)) (pa_cons (pe_lst (pa_cons (pe_tup pa_nil) pa_nil)) pa_nil)) (by rfl))
 (pss_cons (ps_for PassesOwn.never rfl (pi_range1 rfl m_range (pa_cons (pe_callB call_len_seq (by rfl) m_len boot_len (pa_cons (pv 0) pa_nil)) pa_nil)) (pg_name (i := 3) sc__law_lots.nd rfl (by first | exact Or.inl rfl | exact Or.inr rfl))
  (pss_cons (ps_set (i := 4) sc__law_lots.nd rfl (by first | exact Or.inl rfl | exact Or.inr rfl) (pe_lst pa_nil))
 (pss_cons (ps_for PassesOwn.never rfl (pi_list (pv 2)) (pg_name (i := 5) sc__law_lots.nd rfl (by first | exact Or.inl rfl | exact Or.inr rfl))
  (pss_one (ps_for PassesOwn.never rfl (pi_list (pv 0)) (pg_name (i := 6) sc__law_lots.nd rfl (by first | exact Or.inl rfl | exact Or.inr rfl))
  (pss_one (ps_if (pw_or (pt_cmpR (op_eqD hr.units) (pv 5) (pe_tup pa_nil) (nomark _)) (pw_or1 (pt_cmpR op_gt (pv 6) (pe_ix ix_tup (pv 5) (pe_un un_neg pe_int) (fun _ _ => rfl)) (nomark _)))).pt
  (pss_one (ps_expr (pe_bm PySem.F.plainAttrs_list PySem.F.slot_list_append PySem.F.type_list_append mt_append (pv 4) (pa_cons (pe_op op_catA (pv 5) (pe_tup (pa_cons (pv 6) pa_nil))) pa_nil))))
  pss_nil)))))
 (pss_cons (ps_expr (pe_bm PySem.F.plainAttrs_list PySem.F.slot_list_extend PySem.F.type_list_extend mt_extend (pv 1) (pa_cons (pv 4) pa_nil)))
 (pss_one (ps_set (i := 2) sc__law_lots.nd rfl (by first | exact Or.inl rfl | exact Or.inr rfl) (pe_callTy call_list_of (by rfl) m_list boot_list (pa_cons (pv 4) pa_nil))))))))
 (pss_one (ps_ret (pv 1))))), ?_⟩
    have hlen : (ints_ (List.range n)).length = n := by unfold ints_; rw [List.length_map, List.length_range]
    refine ⟨by show 0 ≤ sizeLine; decide, fun e0 ne0 => ⟨by show 1 ≤ sizeLine; decide, fun F0 nF0 => ⟨by show 0 ≤ sizeLine; decide, fun e1 ne1 => ⟨by show 1 ≤ sizeLine; decide, fun L0 nL0 => ?_⟩⟩⟩⟩
    have s1 : Same H (upd H e0 (.tup [])) := same_new (Same.refl H) ne0
    have s2 : Same (upd H e0 (.tup [])) (upd (upd H e0 (.tup [])) F0 (.lst [.ref e0])) := same_new (Same.refl _) nF0
    generalize hA : upd (upd H e0 (.tup [])) F0 (.lst [.ref e0]) = HA at s2 ne1 nL0 ⊢
    have hF : HA F0 = some (.lst [.ref e0]) := by rw [← hA]; exact upd_same
    have he0 : HA e0 = some (.tup []) := s2 _ _ upd_same
    have s3 : Same HA (upd HA e1 (.tup [])) := same_new (Same.refl _) ne1
    have s4 : Same (upd HA e1 (.tup [])) (upd (upd HA e1 (.tup [])) L0 (.lst [.ref e1])) := same_new (Same.refl _) nL0
    have hL : upd (upd HA e1 (.tup [])) L0 (.lst [.ref e1]) L0 = some (.lst [.ref e1]) := upd_same
    have he1 := s4 _ _ (show upd HA e1 (.tup []) e1 = some (.tup []) from upd_same)
    have hFL : F0 ≠ L0 := ne_of_none (s3 _ _ hF) nL0
    have hF2 := s4 _ _ (s3 _ _ hF)
    have he02 := s4 _ _ (s3 _ _ he0)
    have sB := s1.trans (s2.trans (s3.trans s4))
    generalize upd (upd HA e1 (.tup [])) L0 (.lst [.ref e1]) = HB at hL he1 hF2 he02 sB ⊢
    refine ⟨_, _, rfl, ?_⟩
    have hFn : H F0 = none := s1.free nF0
    refine ⟨_, rfl, r, _, rfl, .inl (.inl (.inl (sB _ _ hr0))), _, rfl, by omega, by omega, for_range (fun t σ H' => t ≤ n ∧ ∃ La fs las y3 y4 y5 y6, σ = [some (.ref r), some (.ref F0), some (.ref La), y3, y4, y5, y6] ∧ Same H H' ∧ H' F0 = some (.lst (fs.map V.ref)) ∧ H' La = some (.lst (las.map V.ref)) ∧ La ≠ F0 ∧ TAt H' fs (lotsTo (List.range n) t) ∧ TAt H' las (level (List.range n) t)) ⟨Nat.zero_le _, L0, [e0], [e1], none, none, none, none, rfl, sB, hF2, hL, hFL.symm, .cons he02 .nil, .cons he1 .nil⟩ (fun t σ H' ht pv => ?_) (fun σ H' pv => ?_)⟩
    · obtain ⟨_, La, fs, las, y3, y4, y5, y6, rfl, e, hF', hLa, nLF, tF, tL⟩ := pv
      rw [hlen] at ht
      have ht : t < n := by simpa using ht
      refine ⟨by show 0 ≤ sizeLine; decide, fun G nG => ?_⟩
      have gF : F0 ≠ G := ne_of_none hF' nG
      have gL : La ≠ G := ne_of_none hLa nG
      have eG : Same H' (upd H' G (.lst [])) := same_new (Same.refl H') nG
      obtain ⟨lv, lt5⟩ := level_len ⟨n, by omega⟩ ⟨t, by omega⟩
      obtain ⟨lv2, lt6⟩ := level_len ⟨n, by omega⟩ ⟨t + 1, by omega⟩
      have lv : (level (List.range n) t).length ≤ 10 := lv
      refine ⟨_, rfl, La, rfl, ⟨_, .inl (.inl (eG _ _ hLa))⟩, for_list (xs := las.map V.ref) (fun i σ H2 => ∃ gs y5 y6, σ = [some (.ref r), some (.ref F0), some (.ref La), some (.int (0 + (t : Nat))), some (.ref G), y5, y6] ∧ But G H' H2 ∧ H2 G = some (.lst (gs.map V.ref)) ∧ TAt H2 gs (((level (List.range n) t).take i).flatMap (grow1 (List.range n))) ∧ gs.length ≤ 5 * i)
        ⟨[], y5, y6, rfl, fun b o hb hz => by rw [upd_ne hb]; exact hz, upd_same, .nil, Nat.le_refl _⟩ (fun i σ H2 _ pv => ?_) (fun i x σ H2 hx pv => ?_) (fun σ H2 pv => ?_)⟩
      · obtain ⟨gs, y5, y6, rfl, bt, hG, tG, hg⟩ := pv
        exact .inl (.inl (bt _ _ gL hLa))
      · obtain ⟨gs, y5, y6, rfl, bt, hG, tG, hg⟩ := pv
        rw [List.getElem?_map] at hx
        obtain ⟨ti, hti, rfl⟩ := Option.map_eq_some_iff.mp hx
        obtain ⟨lot, elot, hlot⟩ := tL.get hti
        have hi10 : i < 10 := by
          have := (List.getElem?_eq_some_iff.mp elot).1
          omega
        have tG' : ∀ {b : Addr} {xs : List V}, H' b = some (.tup xs) → H2 b = some (.tup xs) := fun {b xs} hb => bt b _ (ne_of_none hb nG) hb
        have hr2 : H2 r = some (.lst (ints_ (List.range n))) := bt _ _ (ne_of_none (e _ _ hr0) nG) (e _ _ hr0)
        have nrG : r ≠ G := ne_of_none (e _ _ hr0) nG
        refine ⟨_, rfl, r, rfl, ⟨_, .inl (.inl hr2)⟩, for_list (xs := ints_ (List.range n)) (fun j σ H3 => ∃ gs' y6, σ = [some (.ref r), some (.ref F0), some (.ref La), some (.int (0 + (t : Nat))), some (.ref G), some (.ref ti), y6] ∧ But G H' H3 ∧ H3 G = some (.lst (gs'.map V.ref)) ∧ TAt H3 gs' (((level (List.range n) t).take i).flatMap (grow1 (List.range n)) ++ grow1 ((List.range n).take j) lot) ∧ gs'.length ≤ 5 * i + j)
          ⟨gs, y6, rfl, bt, hG, by simpa [grow1] using tG, by omega⟩ (fun j σ H3 _ pv => ?_) (fun j x σ H3 hx pv => ?_) (fun σ H3 pv => ?_)⟩
        · obtain ⟨gs', y6, rfl, bt3, hG3, tG3, hg3⟩ := pv
          exact .inl (.inl (bt3 _ _ nrG (e _ _ hr0)))
        · obtain ⟨gs', y6, rfl, bt3, hG3, tG3, hg3⟩ := pv
          unfold ints_ at hx
          rw [List.getElem?_map] at hx
          obtain ⟨c, hc, rfl⟩ := Option.map_eq_some_iff.mp hx
          have hj5 : j < 5 := by
            have := (List.getElem?_eq_some_iff.mp hc).1
            rw [List.length_range] at this
            omega
          have hlot3 : H3 ti = some (.tup (lot.map fun c => .int (c : Nat))) := bt3 ti _ (ne_of_none hlot nG) hlot
          have hll : lot.length ≤ 990 := lot_len hn (by omega) elot
          have g1 : grow1 ((List.range n).take (j + 1)) lot = grow1 ((List.range n).take j) lot ++ (if (lot.isEmpty || decide (lot.getLastD 0 < c)) = true then [lot ++ [c]] else []) := by
            unfold grow1
            rw [List.take_add_one, hc, List.filter_append, List.map_append]
            congr 1
            by_cases z : (lot.isEmpty || decide (lot.getLastD 0 < c)) = true
            · rw [if_pos z]
              show List.map _ (List.filter _ [c]) = _
              rw [List.filter_cons, if_pos z]
              rfl
            · rw [if_neg z]
              show List.map _ (List.filter _ [c]) = _
              rw [List.filter_cons, if_neg z]
              rfl
          have endOk : ∀ (Hf : Hp) (v : Addr), Same H3 Hf → Hf v = some (.tup ((lot ++ [c]).map fun c => .int (c : Nat))) → (lot.isEmpty || decide (lot.getLastD 0 < c)) = true →
              But G H' (upd Hf G (.lst (gs'.map V.ref ++ [.ref v]))) ∧ upd Hf G (.lst (gs'.map V.ref ++ [.ref v])) G = some (.lst ((gs' ++ [v]).map V.ref)) ∧
                TAt (upd Hf G (.lst (gs'.map V.ref ++ [.ref v]))) (gs' ++ [v]) (((level (List.range n) t).take i).flatMap (grow1 (List.range n)) ++ grow1 ((List.range n).take (j + 1)) lot) ∧ (gs' ++ [v]).length ≤ 5 * i + (j + 1) := by
            intro Hf v sF hv hcond
            have up : ∀ b xs, Hf b = some (.tup xs) → upd Hf G (.lst (gs'.map V.ref ++ [.ref v])) b = some (.tup xs) := fun b xs hb => by
              have n1 : b ≠ G := fun z => by rw [z, sF _ _ hG3] at hb; cases hb
              rw [upd_ne n1]; exact hb
            refine ⟨fun b o nb hb => by rw [upd_ne nb]; exact sF _ _ (bt3 b o nb hb), by rw [upd_same, List.map_append]; rfl, ?_, by rw [List.length_append, List.length_singleton]; omega⟩
            rw [g1, if_pos hcond, ← List.append_assoc]
            exact ((tG3.same sF).mono up).append (.cons (up _ _ hv) .nil)
          refine ⟨_, rfl, by show 0 ≤ sizeLine; decide, fun em nem => ?_⟩
          have sX := same_new (o := .tup []) (Same.refl H3) nem
          refine ⟨_, _, .tup (.inl (.inl (sX _ _ hlot3))) (dp_ints lot), .tup (.inl (.inl upd_same)) .nil, shaped_ints lot, shaped_ints [], ?_⟩
          rw [show PyData.eqv (.tuple (lot.map fun c => PyData.int (c : Nat))) (.tuple []) = lot.isEmpty from eqv_empty lot]
          refine ⟨_, rfl, ite2 (fun q1 => ?_) (fun q1 => ?_)⟩
          · have hcond : (lot.isEmpty || decide (lot.getLastD 0 < c)) = true := by rw [q1]; rfl
            have hG4 := sX _ _ hG3
            refine ⟨_, rfl, .inl ⟨rfl, _, .inl (.inl hG4)⟩, _, rfl, _, rfl, by show 1 ≤ sizeLine; decide, fun u nu => ?_⟩
            have sU := sX.trans (same_new (o := .tup [.int (c : Nat)]) (Same.refl _) nu)
            refine ⟨ti, u, _, _, rfl, rfl, .inl (.inl (sU _ _ hlot3)), .inl (.inl upd_same), ?_, fun z => ?_, (fun _ z2 => nomatch z2), fun z1 _ p np => ?_⟩
            · rw [List.length_map]
              exact Nat.le_trans (show lot.length + 1 ≤ 1000 by omega) (by decide)
            · have lot0 : lot = [] := by simpa using z
              obtain ⟨k1, k2, k3, k4⟩ := endOk _ u sU (by rw [upd_same, lot0]; rfl) hcond
              exact ⟨G, _, _, rfl, rfl, sU _ _ hG3, by rw [List.length_map]; exact small1000 (by omega), gs' ++ [u], _, rfl, k1, k2, k3, k4⟩
            · obtain ⟨k1, k2, k3, k4⟩ := endOk _ p (sU.trans (same_new (Same.refl _) np)) (by rw [upd_same, List.map_append]) hcond
              exact ⟨G, _, _, rfl, rfl, (sU.trans (same_new (Same.refl _) np)) _ _ hG3, by rw [List.length_map]; exact small1000 (by omega), gs' ++ [p], _, rfl, k1, k2, k3, k4⟩
          · have q1' : lot.isEmpty = false := Bool.eq_false_iff.mpr q1
            refine ⟨_, rfl, _, rfl, _, rfl, ti, _, _, .int (lot.getLastD 0 : Nat), rfl, rfl, .inl (.inl (sX _ _ hlot3)), last_at q1', _, _, rfl, rfl, _, rfl, ite2 (fun q2 => ?_) (fun q2 => ?_)⟩
            · have hcond : (lot.isEmpty || decide (lot.getLastD 0 < c)) = true := by
                rw [q1', Bool.false_or]
                have := of_decide_eq_true q2
                exact decide_eq_true (by omega)
              have hG4 := sX _ _ hG3
              refine ⟨_, rfl, .inl ⟨rfl, _, .inl (.inl hG4)⟩, _, rfl, _, rfl, by show 1 ≤ sizeLine; decide, fun u nu => ?_⟩
              have sU := sX.trans (same_new (o := .tup [.int (c : Nat)]) (Same.refl _) nu)
              refine ⟨ti, u, _, _, rfl, rfl, .inl (.inl (sU _ _ hlot3)), .inl (.inl upd_same), ?_, fun z => ?_, (fun _ z2 => nomatch z2), fun z1 _ p np => ?_⟩
              · rw [List.length_map]
                exact Nat.le_trans (show lot.length + 1 ≤ 1000 by omega) (by decide)
              · have lot0 : lot = [] := by simpa using z
                obtain ⟨k1, k2, k3, k4⟩ := endOk _ u sU (by rw [upd_same, lot0]; rfl) hcond
                exact ⟨G, _, _, rfl, rfl, sU _ _ hG3, by rw [List.length_map]; exact small1000 (by omega), gs' ++ [u], _, rfl, k1, k2, k3, k4⟩
              · obtain ⟨k1, k2, k3, k4⟩ := endOk _ p (sU.trans (same_new (Same.refl _) np)) (by rw [upd_same, List.map_append]) hcond
                exact ⟨G, _, _, rfl, rfl, (sU.trans (same_new (Same.refl _) np)) _ _ hG3, by rw [List.length_map]; exact small1000 (by omega), gs' ++ [p], _, rfl, k1, k2, k3, k4⟩
            · have hcond : ¬ (lot.isEmpty || decide (lot.getLastD 0 < c)) = true := by
                rw [q1', Bool.false_or]
                intro z
                have z' := of_decide_eq_true z
                exact q2 (decide_eq_true (by omega))
              refine ⟨gs', _, rfl, fun b o nb hb => sX _ _ (bt3 b o nb hb), sX _ _ hG3, ?_, by omega⟩
              rw [g1, if_neg hcond, List.append_nil]
              exact tG3.same sX
        · obtain ⟨gs', y6, rfl, bt3, hG3, tG3, hg3⟩ := pv
          refine ⟨gs', _, _, rfl, bt3, hG3, ?_, ?_⟩
          · rw [hlen, show (List.range n).take n = List.range n from List.take_of_length_le (by rw [List.length_range]; exact Nat.le_refl n)] at tG3
            rw [List.take_add_one, elot, List.flatMap_append]
            simpa using tG3
          · rw [hlen] at hg3
            omega
      · obtain ⟨gs, y5, y6, rfl, bt, hG, tG, hg⟩ := pv
        rw [List.length_map] at tG hg
        rw [tL.len, List.take_length] at tG
        have hF3 := bt _ _ gF hF'
        have lfs : fs.length ≤ 32 := by rw [tF.len]; exact (level_len ⟨n, by omega⟩ ⟨t, by omega⟩).2
        have lgs : gs.length ≤ 10 := by rw [tG.len]; exact lv2
        refine ⟨_, rfl, .inl ⟨rfl, _, .inl (.inl hF3)⟩, _, rfl, F0, G, _, _, rfl, rfl, hF3, hG, ?_, ?_⟩
        · rw [List.length_map, List.length_map]
          exact Nat.le_trans (show fs.length + gs.length ≤ 42 by omega) (by decide)
        have hG4 : upd H2 F0 (.lst (fs.map V.ref ++ gs.map V.ref)) G = some (.lst (gs.map V.ref)) := by rw [upd_ne gF.symm]; exact hG
        refine ⟨_, rfl, G, _, rfl, .inl (.inl (.inl hG4)), fun L2 nL2 => ?_⟩
        have hF4 : upd H2 F0 (.lst (fs.map V.ref ++ gs.map V.ref)) F0 = some (.lst ((fs ++ gs).map V.ref)) := by rw [upd_same, List.map_append]
        have nL2F : L2 ≠ F0 := fun z => by rw [z, hF4] at nL2; cases nL2
        have up : ∀ b xs, H2 b = some (.tup xs) → upd (upd H2 F0 (.lst (fs.map V.ref ++ gs.map V.ref))) L2 (.lst (gs.map V.ref)) b = some (.tup xs) := fun b xs hb => by
          have n1 : b ≠ F0 := fun z => by rw [z, hF3] at hb; cases hb
          have h1 : upd H2 F0 (.lst (fs.map V.ref ++ gs.map V.ref)) b = some (.tup xs) := by rw [upd_ne n1]; exact hb
          rw [upd_ne (ne_of_none h1 nL2)]
          exact h1
        have tF' : TAt H2 fs (lotsTo (List.range n) t) := tF.mono fun b xs hb => bt b _ (ne_of_none hb nG) hb
        refine ⟨by omega, L2, fs ++ gs, gs, _, _, _, _, rfl, fun b o hb => ?_, by rw [upd_ne nL2F.symm]; exact hF4, upd_same, nL2F, (tF'.mono up).append (tG.mono up), tG.mono up⟩
        have n0 : b ≠ F0 := ne_of_none hb hFn
        have h1 := e _ _ hb
        have h2 := bt _ _ (ne_of_none h1 nG) h1
        have h3 : upd H2 F0 (.lst (fs.map V.ref ++ gs.map V.ref)) b = some o := by rw [upd_ne n0]; exact h2
        rw [upd_ne (ne_of_none h3 nL2)]
        exact h3
    · obtain ⟨_, La, fs, las, y3, y4, y5, y6, rfl, e, hF', hLa, nLF, tF, tL⟩ := pv
      rw [hlen] at tF
      exact ⟨_, rfl, q H' F0 fs e hFn hF' (by simpa using tF)⟩
end
end K7
end
/-! ## KL -/
section
/-! ## pure facts about drawn lands (no program in them) -/
namespace KL
/-- every set that holds cell 0 and is not left over any couple holds all cells -/
def Conn (n : Nat) (es : List (Nat × Nat)) : Prop := ∀ S : Nat → Bool, S 0 = true → (∀ e ∈ es, S e.1 = S e.2) → ∀ c, c < n → S c = true
theorem erase_perm {α : Type} : ∀ (l : List α) (j : Nat) (h : j < l.length), (l[j] :: l.eraseIdx j).Perm l
  | x :: l, 0, _ => List.Perm.refl _
  | x :: l, j + 1, h => (List.Perm.swap x (l[j]'(Nat.lt_of_succ_lt_succ h)) (l.eraseIdx j)).trans (List.Perm.cons x (erase_perm l j (Nat.lt_of_succ_lt_succ h)))
/-- one item drawn out of what is left -/
theorem pop_perm {names left : List Nat} {j : Nat} (h : j < left.length) : ((names ++ [left[j]]) ++ left.eraseIdx j).Perm (names ++ left) := by
  rw [List.append_assoc]
  refine List.Perm.append_left names ?_
  exact erase_perm left j h
def couple (names : List Nat) (a b : Nat) : Nat × Nat := (min (names.getD a 0) (names.getD b 0), max (names.getD a 0) (names.getD b 0))
theorem couple_mem {names : List Nat} {n : Nat} (hp : names.Perm (List.range n)) {a : Nat} (ha : a < n) : names.getD a 0 < n := by
  have hl : names.length = n := by rw [hp.length_eq, List.length_range]
  have e : names.getD a 0 = names[a]'(by omega) := by
    rw [List.getD_eq_getElem?_getD, List.getElem?_eq_getElem (by omega)]
    rfl
  rw [e]
  exact List.mem_range.mp (hp.mem_iff.mp (List.getElem_mem _))
/-- a tree under drawn names hangs together -/
theorem conn_tree {n : Nat} {names : List Nat} (hp : names.Perm (List.range n)) {es : List (Nat × Nat)} (h : ∀ k, 0 < k → k < n → ∃ d, d < k ∧ couple names k d ∈ es) : Conn n es := by
  intro S h0 hS c hc
  have hl : names.length = n := by rw [hp.length_eq, List.length_range]
  have step : ∀ k d, couple names k d ∈ es → S (names.getD k 0) = S (names.getD d 0) := by
    intro k d m
    have e := hS _ m
    unfold couple at e
    simp only at e
    by_cases q : names.getD k 0 ≤ names.getD d 0
    · rw [Nat.min_eq_left q, Nat.max_eq_right q] at e
      exact e
    · rw [Nat.min_eq_right (by omega), Nat.max_eq_left (by omega)] at e
      exact e.symm
  have all : ∀ k, k < n → S (names.getD k 0) = S (names.getD 0 0) := by
    intro k
    induction k using Nat.strongRecOn with
    | _ k ih =>
      intro hk
      by_cases z : k = 0
      · rw [z]
      · obtain ⟨d, hd, m⟩ := h k (by omega) hk
        rw [step k d m]
        exact ih d hd (by omega)
  have at_ : ∀ x, x < n → ∃ k, k < n ∧ names.getD k 0 = x := by
    intro x hx
    have m : x ∈ names := hp.mem_iff.mpr (List.mem_range.mpr hx)
    obtain ⟨k, hk, e⟩ := List.mem_iff_getElem.mp m
    refine ⟨k, by omega, ?_⟩
    rw [List.getD_eq_getElem?_getD, List.getElem?_eq_getElem hk, e]
    rfl
  obtain ⟨k0, hk0, e0⟩ := at_ 0 (by omega)
  obtain ⟨k, hk, e⟩ := at_ c hc
  have r0 := all k0 hk0
  rw [e0, h0] at r0
  rw [← e, all k hk, ← r0]
/-- a list of cells that is closed under the couples and holds cell 0 holds all cells -/
theorem conn_closed {n : Nat} {es : List (Nat × Nat)} (h : Conn n es) {found : List Nat} (h0 : 0 ∈ found) (hc : ∀ a b, ((a, b) ∈ es ∨ (b, a) ∈ es) → a ∈ found → b ∈ found) : ∀ c, c < n → c ∈ found := by
  intro c hc'
  have := h (fun x => decide (x ∈ found)) (by simpa using h0) (fun e he => by
    have e1 : e.1 ∈ found ↔ e.2 ∈ found := ⟨fun q => hc e.1 e.2 (.inl he) q, fun q => hc e.2 e.1 (.inr he) q⟩
    exact decide_eq_decide.mpr e1) c hc'
  simpa using this
/-- as many as there are cells, none twice: all cells -/
theorem all_len {n : Nat} {found : List Nat} (hn : found.Nodup) (hb : ∀ c ∈ found, c < n) (ha : ∀ c, c < n → c ∈ found) : found.length = n := by
  have hp : found.Perm (List.range n) := by
    rw [List.perm_ext_iff_of_nodup hn List.nodup_range]
    intro a
    exact ⟨fun q => List.mem_range.mpr (hb a q), fun q => ha a (List.mem_range.mp q)⟩
  rw [hp.length_eq, List.length_range]
end KL
namespace KL
theorem couple_inj {names : List Nat} {n : Nat} (hp : names.Perm (List.range n)) {a b a' b' : Nat} (h1 : b < a) (h2 : a < n) (h1' : b' < a') (h2' : a' < n) (e : couple names a b = couple names a' b') : (a, b) = (a', b') := by
  have hl : names.length = n := by rw [hp.length_eq, List.length_range]
  have nd : names.Nodup := hp.nodup_iff.mpr List.nodup_range
  have inj : ∀ x y, x < n → y < n → names.getD x 0 = names.getD y 0 → x = y := by
    intro x y hx hy q
    rw [List.getD_eq_getElem?_getD, List.getD_eq_getElem?_getD, List.getElem?_eq_getElem (by omega), List.getElem?_eq_getElem (by omega)] at q
    exact (List.getElem_inj nd).mp q
  have ne : ∀ x y, x < n → y < n → x ≠ y → names.getD x 0 ≠ names.getD y 0 := fun x y hx hy q z => q (inj x y hx hy z)
  unfold couple at e
  injection e with e1 e2
  have q1 := ne a b h2 (by omega) (by omega)
  have q2 := ne a' b' h2' (by omega) (by omega)
  by_cases c1 : names.getD a 0 ≤ names.getD b 0
  · rw [Nat.min_eq_left c1] at e1
    rw [Nat.max_eq_right c1] at e2
    by_cases c2 : names.getD a' 0 ≤ names.getD b' 0
    · rw [Nat.min_eq_left c2] at e1
      rw [Nat.max_eq_right c2] at e2
      rw [inj a a' h2 h2' e1, inj b b' (by omega) (by omega) e2]
    · rw [Nat.min_eq_right (by omega)] at e1
      rw [Nat.max_eq_left (by omega)] at e2
      have r1 := inj a b' h2 (by omega) e1
      have r2 := inj b a' (by omega) h2' e2
      omega
  · rw [Nat.min_eq_right (by omega)] at e1
    rw [Nat.max_eq_left (by omega)] at e2
    by_cases c2 : names.getD a' 0 ≤ names.getD b' 0
    · rw [Nat.min_eq_left c2] at e1
      rw [Nat.max_eq_right c2] at e2
      have r1 := inj b a' (by omega) h2' e1
      have r2 := inj a b' h2 (by omega) e2
      omega
    · rw [Nat.min_eq_right (by omega)] at e1
      rw [Nat.max_eq_left (by omega)] at e2
      rw [inj a a' h2 h2' e2, inj b b' (by omega) (by omega) e1]
end KL
end
/-! ## ER -/
section
namespace K7E
open PySem PySem.Spec PyProof.Rows L2
theorem cr_range1 {X : Cx} : CallR X (.type "range") (fun vs H Q => ∃ j, vs = [V.int j] ∧ ∀ p, H p = none → Q (.ref p) (upd H p (.rng 0 j))) := by
  intro pins s σ H vs us Q I r h
  obtain ⟨j, rfl, q⟩ := h
  obtain ⟨u1, rfl, t, rfl⟩ := r.one
  refine call_range_1 ⟨.ref s.heap.objs.size, upd H s.heap.objs.size (.rng 0 j), I.laid (t' := s.toks + 1 + 1) (fun b o e => Heap.get?_push_of_some _ e) (Nat.le_refl _) ?_, rfl, q _ (I.hok.fresh (Nat.le_refl _))⟩
  exact ⟨s.toks, t, s.toks + 1, Heap.get?_push_size _ rfl⟩
def upTo (n : Nat) : List V := (List.range n).map fun i => .int (i : Nat)
theorem vals_upTo : ∀ (n : Nat) (us : List Value), us.length = n → (∀ (j : Nat) v, us[j]? = some v → ∃ t, v = .int (j : Nat) t) → Vals (upTo n) us := by
  intro n
  induction n with
  | zero => intro us h _; cases us with | nil => exact .nil | cons => cases h
  | succ n ih =>
    intro us h hv
    have e : us = us.take n ++ [us[n]'(by omega)] := by
      have := List.take_append_getElem (l := us) (i := n) (by omega)
      rw [this, List.take_of_length_le (by omega)]
    have e2 : upTo (n + 1) = upTo n ++ [.int (n : Nat)] := by
      unfold upTo
      rw [List.range_succ, List.map_append]
      rfl
    rw [e, e2]
    refine (ih _ (by rw [List.length_take]; omega) fun j v hj => ?_).append (.cons ?_ .nil)
    · rw [List.getElem?_take] at hj
      split at hj
      · exact hv j v hj
      · cases hj
    · exact hv n _ (List.getElem?_eq_getElem (by omega))
theorem small_all : ∀ k : Fin 1001, Builtin.Range.small 0 (k.val : Int) 1 = true := by decide +kernel
theorem cr_list_rng {X : Cx} (hc : X.calm = true) : CallR X (.type "list") (fun vs H Q => ∃ (r : Addr) (n : Nat), vs = [V.ref r] ∧ H r = some (.rng 0 n) ∧ n ≤ 1000 ∧ ∀ l, H l = none → Q (.ref l) (upd H l (.lst (upTo n)))) := by
  intro pins s σ H vs us Q I rv h
  obtain ⟨r, n, rfl, hr, hn, q⟩ := h
  obtain ⟨u, rfl, ru⟩ := rv.one
  cases ru
  obtain ⟨t, u, v, hg⟩ := I.hok r _ hr
  refine call_list_range (n := n) (I.ok.hd hc) (show IsRange s.heap r 0 n 1 t u v from hg) ?_ ?_ ?_ fun h' tk acc' c' hk hl hi => ?_
  · have h1 : (0 : Int) ≤ n := by omega
    have h2 : (n : Int) ≤ 1000 := by omega
    exact small_all ⟨n, by omega⟩
  · show (if (0 : Int) < (n : Int) then ((n : Int) - 0 - 1) / 1 + 1 else 0) = (n : Int)
    split <;> omega
  · exact Nat.le_trans hn (by decide)
  · refine ⟨.ref s.heap.objs.size, upd H s.heap.objs.size (.lst (upTo n)), I.laid (t' := tk) hk (Nat.le_refl _) ⟨?_, acc'.toList, c', vals_upTo n _ ?_ fun j w hj => ?_, ?_⟩, rfl, q _ (I.hok.fresh (Nat.le_refl _))⟩
    · unfold upTo; rw [List.length_map, List.length_range]; exact Nat.le_trans hn (by decide)
    · simpa using hi.1
    · obtain ⟨t', e⟩ := hi.2 j w (by simpa using hj)
      exact ⟨t', by rw [e]; simp⟩
    · simpa using hl
end K7E
end
/-! ## P3 -/
section
open PySem PySem.Spec PyProof.Rows L2
namespace K7L
theorem hu65 {k : Nat} {A : Around} (hr : Room k A) : A.units + 65 < cLine := by have := hr.un; omega
end K7L
namespace K7
abbrev N__law_land : List Str := ["_law_hand_here", "_law_n", "_law_names", "_law_left", "_law_couples", "_law_k", "_law_high", "_law_low", "_law_rows", "_law_a", "_law_b", "_law_lots_here", "_law_lot"]
abbrev s__law_land : Stmt := topS 47
theorem sc__law_land : FnScope ["_law_hand_here", "_law_n", "_law_names", "_law_left", "_law_couples", "_law_k", "_law_high", "_law_low", "_law_rows", "_law_a", "_law_b", "_law_lots_here", "_law_lot"] ["_law_hand_here", "_law_n"] (defScope s__law_land) := ⟨rfl, rfl, rfl, by decide +kernel, rfl, by decide +kernel, by decide +kernel⟩
/-! ### what stays -/
def notHand : List V → Bool
  | [.ref _, .int _, .int _, .int _] => false
  | _ => true
theorem notHand_strs : ∀ ss : List Str, notHand (ss.map V.str) = true
  | [] => rfl
  | [_] => rfl
  | [_, _] => rfl
  | [_, _, _] => rfl
  | [_, _, _, _] => rfl
  | _ :: _ :: _ :: _ :: _ :: _ => rfl
theorem notHand_len : ∀ xs : List V, xs.length ≠ 4 → notHand xs = true
  | [], _ => rfl
  | [_], _ => by unfold notHand; split <;> first | rfl | (rename_i h; cases h)
  | [_, _], _ => by unfold notHand; split <;> first | rfl | (rename_i h; cases h)
  | [_, _, _], _ => by unfold notHand; split <;> first | rfl | (rename_i h; cases h)
  | [_, _, _, _], h => absurd rfl h
  | _ :: _ :: _ :: _ :: _ :: _, _ => by unfold notHand; split <;> first | rfl | (rename_i h; cases h)
/-- all but the hand at h is as it was, and the hand is a hand -/
structure Stay (h c : Addr) (H H' : Hp) : Prop where
  but : But h H H'
  hand0 : Hand H h c
  hand : Hand H' h c
theorem Stay.of_same {h c : Addr} {H H' : Hp} (hh : Hand H h c) (e : Same H H') : Stay h c H H' := ⟨fun b o _ z => e b o z, hh, hh.same e⟩
theorem Stay.of_drawn {h c : Addr} {H H' : Hp} (hh : Hand H h c) (d : Drawn H H' h c) : Stay h c H H' := ⟨fun b o nb z => by rw [d.but b nb]; exact z, hh, d.hand⟩
theorem Stay.trans {h c : Addr} {H H' H'' : Hp} (x : Stay h c H H') (y : Stay h c H' H'') : Stay h c H H'' := ⟨fun b o nb z => y.but b o nb (x.but b o nb z), x.hand0, y.hand⟩
theorem Stay.same {h c : Addr} {H H' H'' : Hp} (x : Stay h c H H') (e : Same H' H'') : Stay h c H H'' := x.trans (.of_same x.hand e)
theorem Stay.drawn {h c : Addr} {H H' H'' : Hp} (x : Stay h c H H') (e : Drawn H' H'' h c) : Stay h c H H'' := x.trans (.of_drawn x.hand e)
theorem Hand.nel {h c b : Addr} {H : Hp} {xs : List V} (hh : Hand H h c) (hb : H b = some (.lst xs)) (hx : notHand xs = true) : b ≠ h := by
  intro e
  subst e
  obtain ⟨ns, i, x, t, h1, _, _⟩ := hh
  rw [hb] at h1
  injection h1 with h1
  unfold HandO at h1
  injection h1 with h1
  subst h1
  cases hx
theorem Hand.nei {h c b C dx : Addr} {H : Hp} {fs : List (Str × V)} (hh : Hand H h c) (hb : H b = some (.ins C dx fs)) : b ≠ h := by
  intro e
  subst e
  obtain ⟨ns, i, x, t, h1, _, _⟩ := hh
  rw [hb] at h1
  cases h1
theorem Hand.net {h c b : Addr} {H : Hp} {xs : List V} (hh : Hand H h c) (hb : H b = some (.tup xs)) : b ≠ h := by
  intro e
  subst e
  obtain ⟨ns, i, x, t, h1, _, _⟩ := hh
  rw [hb] at h1
  cases h1
theorem Hand.ned {h c b : Addr} {H : Hp} {kvs : List (Key × V)} (hh : Hand H h c) (hb : H b = some (.dK kvs)) : b ≠ h := by
  intro e
  subst e
  obtain ⟨ns, i, x, t, h1, _, _⟩ := hh
  rw [hb] at h1
  cases h1
section
variable {h c : Addr} {H H' : Hp}
theorem Stay.lst {b : Addr} {xs : List V} (x : Stay h c H H') (hb : H b = some (.lst xs)) (hx : notHand xs = true) : H' b = some (.lst xs) := x.but b _ (x.hand0.nel hb hx) hb
theorem Stay.row {b : Addr} {ss : List Str} (x : Stay h c H H') (hb : H b = some (.lst (ss.map V.str))) : H' b = some (.lst (ss.map V.str)) := x.lst hb (notHand_strs ss)
end
theorem map_erase {α β : Type} (f : α → β) : ∀ (l : List α) (j : Nat), (l.map f).eraseIdx j = (l.eraseIdx j).map f
  | [], _ => rfl
  | x :: l, 0 => rfl
  | x :: l, j + 1 => congrArg (f x :: ·) (map_erase f l j)
theorem ixN_nat {n i : Nat} (h : i < n) : ixN n (i : Int) = some i := by
  have e : (List.range n)[i]? = some i := by rw [List.getElem?_range h]
  have := atI_nat e
  unfold atI at this
  rw [List.length_range] at this
  cases q : ixN n (i : Int) with
  | none => rw [q] at this; cases this
  | some j =>
    rw [q] at this
    have h2 : (List.range n)[j]? = some i := this
    rw [List.getElem?_eq_some_iff] at h2
    obtain ⟨h3, h4⟩ := h2
    rw [List.getElem_range] at h4
    rw [h4]
section
variable {P : Program} {w : World} {K : PySem.W.Frag} {mg : Str → Option Value} {base : Heap}
def rLen_ (K : PySem.W.Frag) : List V → Hp → VK → Prop := fun xs H Q => ∃ p ys, xs = [.ref p] ∧ (SqL K H p ys ∨ SqT K H p ys) ∧ Q (.int ys.length) H
def pairs (es : List (Nat × Nat)) : List (List Nat) := es.map fun e => [e.1, e.2]
/-- couples before the cells have their names: each cell below m hangs on a lower one -/
structure Tree (n m : Nat) (cs : List (Nat × Nat)) : Prop where
  lt : ∀ e ∈ cs, e.2 < e.1 ∧ e.1 < m ∧ e.1 < n
  nd : cs.Nodup
  low : ∀ k, 0 < k → k < m → ∃ d, d < k ∧ (k, d) ∈ cs
theorem Tree.nil (n : Nat) : Tree n 1 [] := ⟨fun e h => (nomatch h), List.nodup_nil, fun k h0 h1 => by omega⟩
theorem Tree.add {n k j : Nat} {cs : List (Nat × Nat)} (t : Tree n (k + 1) cs) (hk : k + 1 < n) (hj : j < k + 1) : Tree n (k + 1 + 1) (cs ++ [(k + 1, j)]) := by
  refine ⟨fun e h => ?_, ?_, fun x x0 x1 => ?_⟩
  · rcases List.mem_append.mp h with q | q
    · obtain ⟨a, b, c⟩ := t.lt e q
      exact ⟨a, by omega, c⟩
    · rw [List.mem_singleton.mp q]
      exact ⟨hj, by show k + 1 < k + 1 + 1; omega, hk⟩
  · rw [List.nodup_append]
    refine ⟨t.nd, by simp, fun a ha b hb => ?_⟩
    rw [List.mem_singleton.mp hb]
    intro z
    rw [z] at ha
    have := (t.lt _ ha).2.1
    simp only at this
    omega
  · by_cases z : x = k + 1
    · exact ⟨j, by omega, List.mem_append_right _ (by rw [z]; exact List.mem_singleton.mpr rfl)⟩
    · obtain ⟨d, d1, d2⟩ := t.low x x0 (by omega)
      exact ⟨d, d1, List.mem_append_left _ d2⟩
theorem Tree.more {n a b : Nat} {cs : List (Nat × Nat)} (t : Tree n n cs) (h1 : b < a) (h2 : a < n) (h3 : (a, b) ∉ cs) : Tree n n (cs ++ [(a, b)]) := by
  refine ⟨fun e h => ?_, ?_, fun x x0 x1 => ?_⟩
  · rcases List.mem_append.mp h with q | q
    · exact t.lt e q
    · rw [List.mem_singleton.mp q]
      exact ⟨h1, h2, h2⟩
  · rw [List.nodup_append]
    refine ⟨t.nd, by simp, fun x hx y hy => ?_⟩
    rw [List.mem_singleton.mp hy]
    intro z
    exact h3 (z ▸ hx)
  · obtain ⟨d, d1, d2⟩ := t.low x x0 x1
    exact ⟨d, d1, List.mem_append_left _ d2⟩
/-! ### couples as data -/
theorem dp_pair {K : PySem.W.Frag} {H : Hp} (k j : Nat) : DpAll K H [.int (2 + (k : Nat)), .int (0 + (j : Nat))] [.int ((2 + k : Nat) : Int), .int (j : Nat)] := by
  rw [show (2 : Int) + (k : Nat) = ((2 + k : Nat) : Int) by omega, Int.zero_add]
  exact .cons (.int _) (.cons (.int _) .nil)
theorem dp_rows {K : PySem.W.Frag} {H : Hp} : ∀ {ts : List Addr} {ls : List (List Nat)}, TAt H ts ls → DpAll K H (ts.map V.ref) (ls.map intD)
  | _, _, .nil => .nil
  | _, _, .cons h r => .cons (.tup (.inl (.inl h)) (dp_ints _)) (dp_rows r)
theorem shaped_rows (ls : List (List Nat)) : SeqAt.shaped (.list (ls.map intD)) = true := by
  have h1 : ∀ l : List Nat, PyData.canLay0 (intD l) = true ∧ PyData.depth (intD l) ≤ 1 := fun l => by
    have z := shaped_ints l
    have z : ((PyData.canLay0 (intD l)) && decide (PyData.depth (intD l) ≤ 64)) = true := z
    refine ⟨(Bool.and_eq_true_iff.mp z).1, ?_⟩
    have : ∀ l : List Nat, PyData.depthAll (l.map fun c => PyData.int (c : Nat)) = 0 := fun l => by
      induction l with
      | nil => simp [PyData.depthAll]
      | cons x r ih => simp [PyData.depthAll, PyData.depth, ih]
    simp [intD, PyData.depth, this l]
  have h2 : ∀ ls : List (List Nat), PyData.canLayAll0 (ls.map intD) = true ∧ PyData.depthAll (ls.map intD) ≤ 1 := fun ls => by
    induction ls with
    | nil => exact ⟨by simp [PyData.canLayAll0], by simp [PyData.depthAll]⟩
    | cons x r ih =>
      refine ⟨by simp [PyData.canLayAll0, (h1 x).1, ih.1], ?_⟩
      rw [List.map_cons, PyData.depthAll]
      exact Nat.max_le.mpr ⟨(h1 x).2, ih.2⟩
  show ((PyData.canLay0 (.list (ls.map intD))) && decide (PyData.depth (.list (ls.map intD)) ≤ 64)) = true
  have d : PyData.depth (.list (ls.map intD)) ≤ 64 := by
    rw [PyData.depth]
    have := (h2 ls).2
    omega
  simp [PyData.canLay0, (h2 ls).1, d]
theorem any_rows (cs : List (Nat × Nat)) (a b : Nat) : ((pairs cs).map intD).any (fun z => PyData.eqv z (intD [a, b])) = decide ((a, b) ∈ cs) := by
  induction cs with
  | nil => rfl
  | cons e cs ih =>
    show (PyData.eqv (intD [e.1, e.2]) (intD [a, b]) || ((pairs cs).map intD).any (fun z => PyData.eqv z (intD [a, b]))) = _
    rw [ih]
    have h : PyData.eqv (intD [e.1, e.2]) (intD [a, b]) = decide (e = (a, b)) := by
      obtain ⟨x, y⟩ := e
      simp [intD, PyData.eqv, PyData.eqvAll]
      by_cases z1 : x = a <;> by_cases z2 : y = b <;> simp [z1, z2] <;> omega
    rw [h]
    by_cases z : e = (a, b)
    · simp [z]
    · have z2 : ¬ (a, b) = e := fun q => z q.symm
      simp [z, z2]
structure LandOk (n : Nat) (es : List (Nat × Nat)) : Prop where
  lt : ∀ e ∈ es, e.1 < e.2 ∧ e.2 < n
  nd : es.Nodup
  sorted : es.Pairwise fun a b => a.1 < b.1 ∨ (a.1 = b.1 ∧ a.2 ≤ b.2)
  conn : KL.Conn n es
structure LandOk0 (n : Nat) (es : List (Nat × Nat)) : Prop where
  lt : ∀ e ∈ es, e.1 < e.2 ∧ e.2 < n
  nd : es.Nodup
  conn : KL.Conn n es
theorem tree_land {n : Nat} {nm : List Nat} {cs : List (Nat × Nat)} (hp : nm.Perm (List.range n)) (t : Tree n n cs) : LandOk0 n (cs.map fun e => KL.couple nm e.1 e.2) := by
  have nd : nm.Nodup := hp.nodup_iff.mpr List.nodup_range
  have hl : nm.length = n := by rw [hp.length_eq, List.length_range]
  refine ⟨fun e he => ?_, ?_, ?_⟩
  · obtain ⟨x, hx, rfl⟩ := List.mem_map.mp he
    obtain ⟨t1, t2, t3⟩ := t.lt x hx
    have m1 := KL.couple_mem hp (a := x.1) t3
    have m2 := KL.couple_mem hp (a := x.2) (by omega)
    have ne : nm.getD x.1 0 ≠ nm.getD x.2 0 := by
      intro z
      rw [List.getD_eq_getElem?_getD, List.getD_eq_getElem?_getD, List.getElem?_eq_getElem (by omega), List.getElem?_eq_getElem (by omega)] at z
      have := (List.getElem_inj nd).mp z
      omega
    show min _ _ < max _ _ ∧ max _ _ < n
    omega
  · rw [List.nodup_iff_pairwise_ne, List.pairwise_map]
    refine (List.nodup_iff_pairwise_ne.mp t.nd).imp_of_mem fun {a b} ha hb hab z => ?_
    obtain ⟨a1, a2, a3⟩ := t.lt a ha
    obtain ⟨b1, b2, b3⟩ := t.lt b hb
    exact hab (KL.couple_inj hp a1 a3 b1 b3 z)
  · refine KL.conn_tree hp fun k k0 k1 => ?_
    obtain ⟨d, d1, d2⟩ := t.low k k0 k1
    exact ⟨d, d1, List.mem_map.mpr ⟨(k, d), d2, rfl⟩⟩
/-- the two numbers of a couple's tuple -/
def kfOf (H : Hp) : V → Int × Int
  | .ref a => (match H a with | some (.tup [.int i, .int j]) => (i, j) | _ => (0, 0))
  | _ => (0, 0)
def gOf (H : Hp) (x : V) : Nat × Nat := ((kfOf H x).1.toNat, (kfOf H x).2.toNat)
theorem kf_at {H : Hp} {a : Addr} {x y : Nat} (h : H a = some (.tup [.int (x : Nat), .int (y : Nat)])) : kfOf H (.ref a) = ((x : Int), (y : Int)) := by
  unfold kfOf
  simp only [h]
theorem g_at {H : Hp} {a : Addr} {e : Nat × Nat} (h : H a = some (.tup [.int (e.1 : Nat), .int (e.2 : Nat)])) : gOf H (.ref a) = e := by
  unfold gOf
  rw [kf_at h]
  rfl
theorem g_map {H : Hp} : ∀ {us : List Addr} {es : List (Nat × Nat)}, TAt H us (pairs es) → (us.map V.ref).map (gOf H) = es
  | [], [], _ => rfl
  | _ :: _, [], h => nomatch h
  | [], _ :: _, h => nomatch h
  | u :: us, e :: es, .cons h r => by
    show gOf H (.ref u) :: (us.map V.ref).map (gOf H) = _
    rw [g_at h, g_map r]
theorem g_mem {H : Hp} {us : List Addr} {es : List (Nat × Nat)} (t : TAt H us (pairs es)) : ∀ x ∈ us.map V.ref, ∃ (a : Addr) (e : Nat × Nat), x = V.ref a ∧ H a = some (.tup [.int (e.1 : Nat), .int (e.2 : Nat)]) := by
  intro x hx
  obtain ⟨a, ha, rfl⟩ := List.mem_map.mp hx
  obtain ⟨i, hi, e⟩ := List.mem_iff_getElem.mp ha
  obtain ⟨l, el, hl⟩ := t.get (i := i) (t := a) (by rw [List.getElem?_eq_getElem hi, e])
  unfold pairs at el
  rw [List.getElem?_map] at el
  obtain ⟨ab, eab, rfl⟩ := Option.map_eq_some_iff.mp el
  exact ⟨a, ab, rfl, hl⟩
theorem tat_of {H : Hp} : ∀ ys : List V, (∀ x ∈ ys, ∃ (a : Addr) (e : Nat × Nat), x = V.ref a ∧ H a = some (.tup [.int (e.1 : Nat), .int (e.2 : Nat)])) → ∃ ts, ys = ts.map V.ref ∧ TAt H ts (pairs (ys.map (gOf H)))
  | [], _ => ⟨[], rfl, .nil⟩
  | y :: ys, h => by
    obtain ⟨a, e, rfl, ha⟩ := h y List.mem_cons_self
    obtain ⟨ts, rfl, t⟩ := tat_of ys fun x hx => h x (List.mem_cons_of_mem _ hx)
    refine ⟨a :: ts, rfl, ?_⟩
    show TAt H (a :: ts) ([(gOf H (.ref a)).1, (gOf H (.ref a)).2] :: _)
    rw [g_at ha]
    exact .cons ha t
theorem sorted_of {H : Hp} : ∀ ys : List V, (∀ x ∈ ys, ∃ (a : Addr) (e : Nat × Nat), x = V.ref a ∧ H a = some (.tup [.int (e.1 : Nat), .int (e.2 : Nat)])) → SrtO.Srtd (ltP (kfOf H)) ys → (ys.map (gOf H)).Pairwise fun a b => a.1 < b.1 ∨ (a.1 = b.1 ∧ a.2 ≤ b.2) := by
  intro ys h s
  rw [List.pairwise_map]
  refine List.Pairwise.imp_of_mem (fun {x y} hx hy q => ?_) s
  obtain ⟨a, e, rfl, ha⟩ := h x hx
  obtain ⟨b, e', rfl, hb⟩ := h y hy
  rw [g_at ha, g_at hb]
  have q : SrtO.lexB (kfOf H (.ref b)) (kfOf H (.ref a)) = false := q
  rw [kf_at ha, kf_at hb] at q
  have z : ¬ ((e'.1 : Int) < e.1 ∨ ((e'.1 : Int) = e.1 ∧ (e'.2 : Int) < e.2)) := fun z => by
    rw [SrtO.lexB_iff.mpr z] at q
    cases q
  omega
theorem Stay.free {h c b : Addr} {H H' : Hp} (y : Stay h c H H') (n : H' b = none) : H b = none := by
  cases z : H b with
  | none => rfl
  | some o =>
    by_cases e : b = h
    · subst e
      obtain ⟨ns, i, x, t, h1, _, _⟩ := y.hand
      rw [h1] at n
      cases n
    · rw [y.but b o e z] at n
      cases n
theorem lots_some : ∀ n : Fin 6, 2 ≤ n.val → ((lotsTo (List.range n.val) n.val).filter fun l => decide (0 < l.length) && decide (l.length < n.val)).length ≠ 4 ∧ 0 < ((lotsTo (List.range n.val) n.val).filter fun l => decide (0 < l.length) && decide (l.length < n.val)).length ∧
    ((lotsTo (List.range n.val) n.val).filter fun l => decide (0 < l.length) && decide (l.length < n.val)).length ≤ 32 := by decide +kernel
/-- a drawn land: its number of cells, its couples, its roads -/
structure LandAt (H : Hp) (q : Addr) (n : Nat) (es : List (Nat × Nat)) (lot : List Nat) : Prop where
  at_ : ∃ rA sA ts, H q = some (.tup [.int (n : Nat), .ref rA, .ref sA]) ∧ H rA = some (.lst (ts.map V.ref)) ∧ TAt H ts (pairs es) ∧ H sA = some (.lst (ints_ lot))
  ok : LandOk n es
  lot : lot ∈ lotsTo (List.range n) n ∧ 0 < lot.length ∧ lot.length < n
def spLand : Sp := fun vs H Q _ => ∃ (h c : Addr) (n : Nat), vs = [.ref h, .int (n : Nat)] ∧ Hand H h c ∧ 2 ≤ n ∧ n ≤ 5 ∧ ∀ H' q es lot, Stay h c H H' → H q = none → LandAt H' q n es lot → Q (.ref q) H'
theorem ok_land {f fdr fpk flo : Addr} {fd fddr fdpk fdlo : FuncData} (F : Fun K "_law_land" "_law_land" s__law_land f fd)
    (Gdr : FnOk P w K mg base CX0 2 fdr fddr ["_law_hand_here", "_law_many"] spDraw) (gdr : mg "_law_draw" = some (.ref fdr)) (kdr : PySem.W.keepIn K (.ref fdr) = true) (bdr : Binds K fddr ["_law_hand_here", "_law_many"] [])
    (Gpk : FnOk P w K mg base CX0 3 fpk fdpk ["_law_hand_here", "_law_things"] spPick) (gpk : mg "_law_pick" = some (.ref fpk)) (kpk : PySem.W.keepIn K (.ref fpk) = true) (bpk : Binds K fdpk ["_law_hand_here", "_law_things"] [])
    (Glo : FnOk P w K mg base CX0 1 flo fdlo ["_law_cells"] spLots) (glo : mg "_law_lots" = some (.ref flo)) (klo : PySem.W.keepIn K (.ref flo) = true) (blo : Binds K fdlo ["_law_cells"] [])
    (m_range : mg "range" = none) (m_len : mg "len" = none) (m_list : mg "list" = none) (m_min : mg "min" = none) (m_max : mg "max" = none) (m_sorted : mg "sorted" = none) :
    FnOk P w K mg base CX0 4 f fd ["_law_hand_here", "_law_n"] spLand := by
  refine F.ok sc__law_land (fun vs H Q E h => ?_) (fun cdv A outer s H vs Q E hr h => ?_)
  · obtain ⟨h, c, n, rfl, _⟩ := h
    rfl
  · obtain ⟨h, c, n, rfl, hh, n2, n5, q⟩ := h
    refine ⟨_, (pss_cons (ps_asg (pe_tup (pa_cons (pe_lst pa_nil) (pa_cons (pe_callTy (K7E.cr_list_rng rfl) (by rfl) m_list boot_list (pa_cons (pe_callTy K7E.cr_range1 (by rfl) m_range boot_range (pa_cons (pv 1) pa_nil)) pa_nil)) (pa_cons (pe_lst pa_nil) pa_nil)))) (pg_tup rfl (pgs_cons (pg_name (i := 2) sc__law_land.nd rfl (by first | exact Or.inl rfl | exact Or.inr rfl)) (pgs_cons (pg_name (i := 3) sc__law_land.nd rfl (by first | exact Or.inl rfl | exact Or.inr rfl)) (pgs_cons (pg_name (i := 4) sc__law_land.nd rfl (by first | exact Or.inl rfl | exact Or.inr rfl)) pgs_nil)))))
 (Evl.pss_cut (ps_for PassesOwn.never rfl (pi_range1 rfl m_range (pa_cons (pv 1) pa_nil)) (pg_name (i := 5) sc__law_land.nd rfl (by first | exact Or.inl rfl | exact Or.inr rfl))
  (pss_one (ps_expr (pe_bm PySem.F.plainAttrs_list PySem.F.slot_list_append PySem.F.type_list_append mt_append (pv 2) (pa_cons (pe_bm PySem.F.plainAttrs_list PySem.F.slot_list_pop PySem.F.type_list_pop mt_popAt (pv 3) (pa_cons (pe_call Gdr (hr.mono (by decide)) (by rfl) gdr kdr bdr .nil pass0 (pa_cons (pv 0) (pa_cons (pe_callB call_len_seq (by rfl) m_len boot_len (pa_cons (pv 3) pa_nil)) pa_nil))) pa_nil)) pa_nil)))))
 (Evl.pss_cut (ps_for PassesOwn.never rfl (pi_range2 rfl m_range (pa_cons pe_int (pa_cons (pv 1) pa_nil))) (pg_name (i := 5) sc__law_land.nd rfl (by first | exact Or.inl rfl | exact Or.inr rfl))
  (pss_one (ps_expr (pe_bm PySem.F.plainAttrs_list PySem.F.slot_list_append PySem.F.type_list_append mt_append (pv 4) (pa_cons (pe_tup (pa_cons (pv 5) (pa_cons (pe_call Gdr (hr.mono (by decide)) (by rfl) gdr kdr bdr .nil pass0 (pa_cons (pv 0) (pa_cons (pv 5) pa_nil))) pa_nil))) pa_nil)))))
 (Evl.pss_cut (ps_for PassesOwn.never rfl (pi_range2 rfl m_range (pa_cons pe_int (pa_cons (pv 1) pa_nil))) (pg_name (i := 6) sc__law_land.nd rfl (by first | exact Or.inl rfl | exact Or.inr rfl))
  (pss_one (ps_for PassesOwn.never rfl (pi_range1 rfl m_range (pa_cons (pv 6) pa_nil)) (pg_name (i := 7) sc__law_land.nd rfl (by first | exact Or.inl rfl | exact Or.inr rfl))
  (pss_one (ps_if (pw_and (pt_cmpR (op_notInD (K7L.hu65 hr)) (pe_tup (pa_cons (pv 6) (pa_cons (pv 7) pa_nil))) (pv 4) (by with_unfolding_all rfl)) (pw_and1 (pt_cmpR op_eq (pe_call Gdr (hr.mono (by decide)) (by rfl) gdr kdr bdr .nil pass0 (pa_cons (pv 0) (pa_cons pe_int pa_nil))) pe_int (nomark _)))).pt
  (pss_one (ps_expr (pe_bm PySem.F.plainAttrs_list PySem.F.slot_list_append PySem.F.type_list_append mt_append (pv 4) (pa_cons (pe_tup (pa_cons (pv 6) (pa_cons (pv 7) pa_nil))) pa_nil))))
  pss_nil)))))
 (pss_cons (ps_setLc (i := 8) (own := [("_law_a", 9), ("_law_b", 10)]) (g := gTup K 2 (gCons (gName 9) (gCons (gName 10) (gNil)))) (tt := tYes) rfl sc__law_land.nd rfl rfl (sw_true rfl rfl rfl (by decide +kernel)) (pi_list (pv 4)) (blkOk_by (own := [("_law_a", 9), ("_law_b", 10)]) (N := N__law_land) (sc := defScope s__law_land) (by decide +kernel)) (fun _ _ _ _ _ => (pg_tup rfl (pgs_cons (pg_name (i := 9) sc__law_land.nd rfl (by first | exact Or.inl rfl | exact Or.inr rfl)) (pgs_cons (pg_name (i := 10) sc__law_land.nd rfl (by first | exact Or.inl rfl | exact Or.inr rfl)) pgs_nil)))) (fun _ _ _ _ _ => pts_nil) (fun _ _ _ _ _ => (pe_tup (pa_cons (pe_callB (call_min2 rfl) (by rfl) m_min boot_min (pa_cons (pe_ix (show IxR _ (rIxL K) from ix_list) (pv 2) (pv 9) (fun _ _ => rfl)) (pa_cons (pe_ix (show IxR _ (rIxL K) from ix_list) (pv 2) (pv 10) (fun _ _ => rfl)) pa_nil))) (pa_cons (pe_callB (call_max2 rfl) (by rfl) m_max boot_max (pa_cons (pe_ix (show IxR _ (rIxL K) from ix_list) (pv 2) (pv 9) (fun _ _ => rfl)) (pa_cons (pe_ix (show IxR _ (rIxL K) from ix_list) (pv 2) (pv 10) (fun _ _ => rfl)) pa_nil))) pa_nil)))))
 (pss_cons (ps_setLc (i := 11) (own := [("_law_lot", 12)]) (g := gName 12) rfl sc__law_land.nd rfl rfl (sw_true rfl rfl rfl (by decide +kernel)) (pi_list (pe_call Glo (hr.mono (by decide)) (by rfl) glo klo blo .nil pass0 (pa_cons (pe_callTy (K7E.cr_list_rng rfl) (by rfl) m_list boot_list (pa_cons (pe_callTy K7E.cr_range1 (by rfl) m_range boot_range (pa_cons (pv 1) pa_nil)) pa_nil)) pa_nil))) (blkOk_by (own := [("_law_lot", 12)]) (N := N__law_land) (sc := defScope s__law_land) (by decide +kernel)) (fun _ _ _ _ _ => (pg_name (i := 12) sc__law_land.nd rfl (by first | exact Or.inl rfl | exact Or.inr rfl))) (fun _ _ _ _ _ => (pts_one (pt_chain op_lt op_lt pe_int (pe_callB (show CallR _ (.builtin "len") (rLen_ K) from call_len_seq) (by rfl) m_len boot_len (pa_cons (pv 12) pa_nil)) (pv 1)))) (fun _ _ _ _ _ => (pv 12)))
 (pss_one (ps_ret (pe_tup (pa_cons (pv 1) (pa_cons (pe_callB cr_sortedPO (by rfl) m_sorted boot_sorted (pa_cons (pv 8) pa_nil)) (pa_cons (pe_callTy call_list_of (by rfl) m_list boot_list (pa_cons (pe_call Gpk (hr.mono (by decide)) (by rfl) gpk kpk bpk .nil pass0 (pa_cons (pv 0) (pa_cons (pv 11) pa_nil))) pa_nil)) pa_nil)))))))))))), ?_⟩
    have l10 : ∀ {xs : List Nat} {k : Nat}, xs.length ≤ k → k ≤ 1000 → (ints_ xs).length < sizeLine := fun {xs k} h1 h2 => by
      unfold ints_; rw [List.length_map]; exact small1000 (Nat.le_trans h1 h2)
    refine ⟨by show 0 ≤ sizeLine; decide, fun N0 nN => ?_⟩
    refine ⟨_, rfl, _, rfl, fun rg nrg => ?_⟩
    refine ⟨rg, n, rfl, upd_same, by omega, fun Lf nLf => ?_⟩
    have e1 : Same H (upd H N0 (.lst [])) := same_new (Same.refl H) nN
    have e2 : Same H (upd (upd H N0 (.lst [])) rg (.rng 0 n)) := same_new e1 nrg
    have e3 : Same H (upd (upd (upd H N0 (.lst [])) rg (.rng 0 n)) Lf (.lst (K7E.upTo n))) := same_new e2 nLf
    have hN3 : upd (upd (upd H N0 (.lst [])) rg (.rng 0 n)) Lf (.lst (K7E.upTo n)) N0 = some (.lst []) := same_new (Same.refl _) nLf _ _ (same_new (Same.refl _) nrg _ _ upd_same)
    have hL3 : upd (upd (upd H N0 (.lst [])) rg (.rng 0 n)) Lf (.lst (K7E.upTo n)) Lf = some (.lst (ints_ (List.range n))) := upd_same
    have fN : H N0 = none := nN
    have fL : H Lf = none := e2.free nLf
    have nNL : N0 ≠ Lf := ne_of_none (same_new (o := .rng 0 n) (Same.refl _) nrg _ _ upd_same) nLf
    obtain ⟨hNh, hNc⟩ := hh.ne fN
    obtain ⟨hLh, hLc⟩ := hh.ne fL
    generalize upd (upd (upd H N0 (.lst [])) rg (.rng 0 n)) Lf (.lst (K7E.upTo n)) = H3 at e3 hN3 hL3 ⊢
    refine ⟨by show 0 ≤ sizeLine; decide, fun C0 nC => ?_⟩
    have nNC : N0 ≠ C0 := ne_of_none hN3 nC
    have nLC : Lf ≠ C0 := ne_of_none hL3 nC
    have fC : H C0 = none := e3.free nC
    obtain ⟨hCh, hCc⟩ := hh.ne fC
    have eC := same_new (o := .lst []) (Same.refl H3) nC
    have hC3 : upd H3 C0 (.lst []) C0 = some (.lst []) := upd_same
    have hN3 := eC _ _ hN3
    have hL3 := eC _ _ hL3
    have e3 := e3.trans eC
    generalize upd H3 C0 (.lst []) = H3' at e3 hN3 hL3 hC3 ⊢
    refine ⟨by show 3 ≤ sizeLine; decide, fun t0 nt0 => ?_⟩
    have eT := same_new (o := .tup [.ref N0, .ref Lf, .ref C0]) (Same.refl H3') nt0
    have hN3 := eT _ _ hN3
    have hL3 := eT _ _ hL3
    have hC3 := eT _ _ hC3
    have e3 := e3.trans eT
    have hT3 : upd H3' t0 (.tup [.ref N0, .ref Lf, .ref C0]) t0 = some (.tup [.ref N0, .ref Lf, .ref C0]) := upd_same
    generalize upd H3' t0 (.tup [.ref N0, .ref Lf, .ref C0]) = H3'' at e3 hN3 hL3 hC3 hT3 ⊢
    refine ⟨t0, _, rfl, .inl (.inl hT3), rfl, _, _, rfl, _, _, rfl, _, _, rfl, rfl, ?_⟩
    refine ⟨fun σ' H' => ∃ nm y4, σ' = [some (.ref h), some (.int (n : Nat)), some (.ref N0), some (.ref Lf), some (.ref C0), y4, none, none, none, none, none, none, none] ∧ Stay h c H H' ∧ H' N0 = some (.lst (ints_ nm)) ∧ H' C0 = some (.lst []) ∧ nm.Perm (List.range n), ?_, ?_⟩
    · refine ⟨_, rfl, _, rfl, by omega, by omega, for_range (fun k σ' H' => k ≤ n ∧ ∃ nm lf y4, σ' = [some (.ref h), some (.int (n : Nat)), some (.ref N0), some (.ref Lf), some (.ref C0), y4, none, none, none, none, none, none, none] ∧ Stay h c H H' ∧ H' N0 = some (.lst (ints_ nm)) ∧ H' Lf = some (.lst (ints_ lf)) ∧ H' C0 = some (.lst []) ∧ (nm ++ lf).Perm (List.range n) ∧ nm.length = k)
        ⟨Nat.zero_le _, [], List.range n, none, rfl, .of_same hh e3, hN3, hL3, hC3, List.Perm.refl _, rfl⟩ (fun k σ' H' hk pv => ?_) (fun σ' H' pv => ?_)⟩
      · obtain ⟨_, nm, lf, y4, rfl, st, hN, hL, hC, hp, hl⟩ := pv
        have hk : k < n := by simpa using hk
        have hll : lf.length = n - k := by
          have := hp.length_eq
          rw [List.length_append, List.length_range] at this
          omega
        have hil : (ints_ lf).length = lf.length := by unfold ints_; rw [List.length_map]
        refine ⟨_, rfl, .inl ⟨rfl, _, .inl (.inl hN)⟩, _, rfl, .inl ⟨rfl, _, .inl (.inl hL)⟩, _, rfl, _, rfl, Lf, _, rfl, .inl (.inl (.inl hL)), h, c, _, rfl, st.hand, by omega, ?_, fun H4 x d x0 x1 => ?_⟩
        · exact Int.lt_of_le_of_lt (show (((ints_ lf).length : Nat) : Int) ≤ 1000 by omega) (by decide)
        obtain ⟨j, rfl⟩ : ∃ j : Nat, x = (j : Int) := ⟨x.toNat, by omega⟩
        have hj : j < lf.length := by omega
        have hN4 : H4 N0 = some (.lst (ints_ nm)) := by rw [d.but N0 hNh]; exact hN
        have hL4 : H4 Lf = some (.lst (ints_ lf)) := by rw [d.but Lf hLh]; exact hL
        refine ⟨Lf, _, _, j, .int (lf[j] : Nat), rfl, rfl, hL4, by omega, by omega, (ixN_seq (ixN_nat (by omega))).1, ?_, ?_⟩
        · unfold ints_
          rw [List.getElem?_map, List.getElem?_eq_getElem hj]
          rfl
        have hN5 : upd H4 Lf (.lst ((ints_ lf).eraseIdx j)) N0 = some (.lst (ints_ nm)) := by rw [upd_ne nNL]; exact hN4
        refine ⟨N0, _, _, rfl, rfl, hN5, l10 (Nat.le_of_eq hl) (by omega), ?_⟩
        refine ⟨by omega, nm ++ [lf[j]], lf.eraseIdx j, _, rfl, ⟨fun b o nb hb => ?_, hh, ((d.hand.upd hLh hLc).upd hNh hNc)⟩, ?_, ?_, by rw [upd_ne nNC.symm, upd_ne nLC.symm, d.but C0 hCh]; exact hC, (KL.pop_perm hj).trans hp, by rw [List.length_append, hl]; rfl⟩
        · rw [upd_ne (ne_of_none hb fN), upd_ne (ne_of_none hb fL), d.but b nb]
          exact st.but b o nb hb
        · rw [upd_same]
          unfold ints_
          rw [List.map_append]
          rfl
        · rw [upd_ne nNL.symm, upd_same]
          unfold ints_
          rw [map_erase]
      · obtain ⟨_, nm, lf, y4, rfl, st, hN, hL, hC, hp, hl⟩ := pv
        have hl : nm.length = n := by simpa using hl
        have l0 : lf = [] := by
          have := hp.length_eq
          rw [List.length_append, List.length_range] at this
          exact List.length_eq_zero_iff.mp (by omega)
        subst l0
        rw [List.append_nil] at hp
        exact ⟨nm, y4, rfl, st, hN, hC, hp⟩
    rintro _ H5 ⟨nm, y4, rfl, st5, hN5, hC5, hp⟩
    -- the tree
    refine ⟨fun σ' H' => ∃ ts cs y4, σ' = [some (.ref h), some (.int (n : Nat)), some (.ref N0), some (.ref Lf), some (.ref C0), y4, none, none, none, none, none, none, none] ∧ Stay h c H H' ∧ H' N0 = some (.lst (ints_ nm)) ∧ H' C0 = some (.lst (ts.map V.ref)) ∧ TAt H' ts (pairs cs) ∧ Tree n n cs ∧ cs.length ≤ 10, ?_, ?_⟩
    · refine ⟨_, rfl, 1, _, rfl, ⟨by decide, by decide, by omega, by omega⟩, for_range (lo := 1) (fun k σ' H' => k + 1 ≤ n ∧ ∃ ts cs y4, σ' = [some (.ref h), some (.int (n : Nat)), some (.ref N0), some (.ref Lf), some (.ref C0), y4, none, none, none, none, none, none, none] ∧ Stay h c H H' ∧ H' N0 = some (.lst (ints_ nm)) ∧ H' C0 = some (.lst (ts.map V.ref)) ∧ TAt H' ts (pairs cs) ∧ Tree n (k + 1) cs ∧ cs.length = k)
        ⟨by omega, [], [], y4, rfl, st5, hN5, hC5, .nil, Tree.nil n, rfl⟩ (fun k σ' H' hk pv => ?_) (fun σ' H' pv => ?_)⟩
      · obtain ⟨_, ts, cs, y4, rfl, st, hN, hC, tC, tr, hl⟩ := pv
        have hk : k + 1 < n := by omega
        refine ⟨_, rfl, .inl ⟨rfl, _, .inl (.inl hC)⟩, _, rfl, _, rfl, _, rfl, h, c, _, rfl, st.hand, by omega, ?_, fun H6 x d x0 x1 => ?_⟩
        · exact Int.lt_of_le_of_lt (show (1 : Int) + (k : Nat) ≤ 1000 by omega) (by decide)
        obtain ⟨j, rfl⟩ : ∃ j : Nat, x = (j : Int) := ⟨x.toNat, by omega⟩
        have hj : j < k + 1 := by omega
        refine ⟨by show 2 ≤ sizeLine; decide, fun t nt => ?_⟩
        have y6 := (Stay.of_drawn st.hand d).same (same_new (o := .tup [.int (1 + (k : Nat)), .int (j : Nat)]) (Same.refl H6) nt)
        have hC6 := y6.but C0 _ hCh hC
        have hN6 := y6.but N0 _ hNh hN
        have ltx : ts.length = k := by rw [tC.len]; unfold pairs; rw [List.length_map, hl]
        refine ⟨C0, _, _, rfl, rfl, hC6, by rw [List.length_map, ltx]; exact small1000 (by omega), ?_⟩
        have up : ∀ b xs, upd H6 t (.tup [.int (1 + (k : Nat)), .int (j : Nat)]) b = some (.tup xs) → upd (upd H6 t (.tup [.int (1 + (k : Nat)), .int (j : Nat)])) C0 (.lst (ts.map V.ref ++ [.ref t])) b = some (.tup xs) := fun b xs hb => by
          rw [upd_ne (fun z => by rw [z, hC6] at hb; cases hb)]
          exact hb
        have tC6 : TAt (upd H6 t (.tup [.int (1 + (k : Nat)), .int (j : Nat)])) ts (pairs cs) := tC.mono fun b xs hb => y6.but b _ (st.hand.net hb) hb
        refine ⟨by omega, ts ++ [t], cs ++ [(k + 1, j)], _, rfl, ⟨fun b o nb hb => ?_, hh, y6.hand.upd hCh hCc⟩, ?_, ?_, ?_, tr.add hk hj, by rw [List.length_append, hl]; rfl⟩
        · rw [upd_ne (ne_of_none hb fC)]
          exact y6.but b o nb (st.but b o nb hb)
        · rw [upd_ne nNC]; exact hN6
        · rw [upd_same, List.map_append]; rfl
        · unfold pairs
          rw [List.map_append]
          refine (tC6.mono up).append (.cons (up _ _ ?_) .nil)
          rw [upd_same, show (1 : Int) + (k : Nat) = ((k + 1 : Nat) : Int) by omega]
          rfl
      · obtain ⟨hk, ts, cs, y4, rfl, st, hN, hC, tC, tr, hl⟩ := pv
        refine ⟨ts, cs, y4, rfl, st, hN, hC, tC, ?_, by omega⟩
        have e : ((n : Int) - 1).toNat + 1 = n := by omega
        rw [e] at tr
        exact tr
    rintro _ H6 ⟨ts, cs, y4, rfl, st6, hN6, hC6, tC6, tr6, ln6⟩
    -- more couples
    refine ⟨fun σ' H' => ∃ ts cs y6 y7, σ' = [some (.ref h), some (.int (n : Nat)), some (.ref N0), some (.ref Lf), some (.ref C0), y4, y6, y7, none, none, none, none, none] ∧ Stay h c H H' ∧ H' N0 = some (.lst (ints_ nm)) ∧ H' C0 = some (.lst (ts.map V.ref)) ∧ TAt H' ts (pairs cs) ∧ Tree n n cs ∧ cs.length ≤ 60, ?_, ?_⟩
    · refine ⟨_, rfl, 2, _, rfl, ⟨by decide, by decide, by omega, by omega⟩, for_range (lo := 2) (fun k σ' H' => k ≤ 5 ∧ ∃ ts cs y6 y7, σ' = [some (.ref h), some (.int (n : Nat)), some (.ref N0), some (.ref Lf), some (.ref C0), y4, y6, y7, none, none, none, none, none] ∧ Stay h c H H' ∧ H' N0 = some (.lst (ints_ nm)) ∧ H' C0 = some (.lst (ts.map V.ref)) ∧ TAt H' ts (pairs cs) ∧ Tree n n cs ∧ cs.length ≤ 10 + 10 * k)
        ⟨by omega, ts, cs, none, none, rfl, st6, hN6, hC6, tC6, tr6, ln6⟩ (fun k σ' H' hk pv => ?_) (fun σ' H' pv => ?_)⟩
      · obtain ⟨_, ts, cs, y6, y7, rfl, st, hN, hC, tC, tr, ln⟩ := pv
        have hk : 2 + k < n := by omega
        refine ⟨_, rfl, _, rfl, by omega, by omega, for_range (fun j σ' H' => ∃ ts cs y7, σ' = [some (.ref h), some (.int (n : Nat)), some (.ref N0), some (.ref Lf), some (.ref C0), y4, some (.int (2 + (k : Nat))), y7, none, none, none, none, none] ∧ Stay h c H H' ∧ H' N0 = some (.lst (ints_ nm)) ∧ H' C0 = some (.lst (ts.map V.ref)) ∧ TAt H' ts (pairs cs) ∧ Tree n n cs ∧ cs.length ≤ 10 + 10 * k + j)
          ⟨ts, cs, y7, rfl, st, hN, hC, tC, tr, by omega⟩ (fun j σ' H' hj pv => ?_) (fun σ' H' pv => ?_)⟩
        · obtain ⟨ts, cs, y7, rfl, st, hN, hC, tC, tr, ln⟩ := pv
          have hj : j < 2 + k := by omega
          have ltx : ts.length = cs.length := by rw [tC.len]; unfold pairs; rw [List.length_map]
          refine ⟨_, rfl, _, rfl, by show 2 ≤ sizeLine; decide, fun t nt => ?_⟩
          have sT := same_new (o := .tup [.int (2 + (k : Nat)), .int (0 + (j : Nat))]) (Same.refl H') nt
          have stT := st.same sT
          refine ⟨_, rfl, intD [2 + k, j], _, .tup (xs := [.int (2 + (k : Nat)), .int (0 + (j : Nat))]) (.inl (.inl upd_same)) (dp_pair k j), .lst (.inl (.inl (sT _ _ hC))) (dp_rows (tC.same sT)), shaped_ints _, shaped_rows _, ?_⟩
          rw [any_rows]
          refine ⟨_, rfl, ite2 (fun q1 => ?_) (fun q1 => ?_)⟩
          · have hnm : (2 + k, j) ∉ cs := by
              intro z
              rw [decide_eq_true z] at q1
              cases q1
            refine ⟨_, rfl, h, c, _, rfl, stT.hand, by decide, by decide, fun H7 x d x0 x1 => ?_⟩
            have st7 := stT.drawn d
            have hC7 : H7 C0 = some (.lst (ts.map V.ref)) := by rw [d.but C0 hCh]; exact sT _ _ hC
            have hN7 : H7 N0 = some (.lst (ints_ nm)) := by rw [d.but N0 hNh]; exact sT _ _ hN
            have tC7 : TAt H7 ts (pairs cs) := (tC.same sT).mono fun b xs hb => by rw [d.but b (stT.hand.net hb)]; exact hb
            refine ⟨rfl, _, rfl, ite2 (fun q2 => ?_) (fun q2 => ?_)⟩
            · refine ⟨_, rfl, .inl ⟨rfl, _, .inl (.inl hC7)⟩, _, rfl, _, rfl, by show 2 ≤ sizeLine; decide, fun t2 nt2 => ?_⟩
              have sU := same_new (o := .tup [.int (2 + (k : Nat)), .int (0 + (j : Nat))]) (Same.refl H7) nt2
              refine ⟨C0, _, _, rfl, rfl, sU _ _ hC7, by rw [List.length_map, ltx]; exact small1000 (by omega), ?_⟩
              have up : ∀ b xs, upd H7 t2 (.tup [.int (2 + (k : Nat)), .int (0 + (j : Nat))]) b = some (.tup xs) → upd (upd H7 t2 (.tup [.int (2 + (k : Nat)), .int (0 + (j : Nat))])) C0 (.lst (ts.map V.ref ++ [.ref t2])) b = some (.tup xs) := fun b xs hb => by
                rw [upd_ne (fun z => by rw [z, sU _ _ hC7] at hb; cases hb)]
                exact hb
              refine ⟨ts ++ [t2], cs ++ [(2 + k, j)], _, rfl, ⟨fun b o nb hb => ?_, hh, (st7.same sU).hand.upd hCh hCc⟩, ?_, ?_, ?_, tr.more hj hk hnm, by rw [List.length_append, List.length_singleton]; omega⟩
              · rw [upd_ne (ne_of_none hb fC)]
                exact (st7.same sU).but b o nb hb
              · rw [upd_ne nNC]; exact sU _ _ hN7
              · rw [upd_same, List.map_append]; rfl
              · unfold pairs
                rw [List.map_append]
                refine ((tC7.same sU).mono up).append (.cons (up _ _ ?_) .nil)
                rw [upd_same, show (2 : Int) + (k : Nat) = ((2 + k : Nat) : Int) by omega, Int.zero_add]
                rfl
            · exact ⟨ts, cs, _, rfl, st7, hN7, hC7, tC7, tr, by omega⟩
          · exact ⟨ts, cs, _, rfl, stT, sT _ _ hN, sT _ _ hC, tC.same sT, tr, by omega⟩
        · obtain ⟨ts, cs, y7, rfl, st, hN, hC, tC, tr, ln⟩ := pv
          exact ⟨by omega, ts, cs, _, _, rfl, st, hN, hC, tC, tr, by omega⟩
      · obtain ⟨hk, ts, cs, y6, y7, rfl, st, hN, hC, tC, tr, ln⟩ := pv
        exact ⟨ts, cs, y6, y7, rfl, st, hN, hC, tC, tr, by omega⟩
    rintro _ H8 ⟨ts, cs, y6, y7, rfl, st8, hN8, hC8, tC8, tr8, ln8⟩
    -- under their names
    have nml : nm.length = n := by rw [hp.length_eq, List.length_range]
    have ltx : ts.length = cs.length := by rw [tC8.len]; unfold pairs; rw [List.length_map]
    refine ⟨_, rfl, C0, rfl, ⟨_, .inl (.inl hC8)⟩, fun D hD => lc_list (xs := ts.map V.ref) (fun j H2 => Same H8 H2 ∧ ∃ us, H2 D = some (.lst (us.map V.ref)) ∧ TAt H2 us (pairs ((cs.take j).map fun e => KL.couple nm e.1 e.2)) ∧ us.length ≤ j) ⟨same_new (Same.refl H8) hD, [], upd_same, .nil, Nat.le_refl _⟩ (fun j H2 _ pv => .inl (.inl (pv.1 _ _ hC8))) (fun j x H2 hx pv => ?_) (fun H9 pv => ?_)⟩
    · obtain ⟨e, us, hD2, tD, lu⟩ := pv
      rw [List.getElem?_map] at hx
      obtain ⟨t, ht, rfl⟩ := Option.map_eq_some_iff.mp hx
      obtain ⟨l, el, hl⟩ := tC8.get ht
      unfold pairs at el
      rw [List.getElem?_map] at el
      obtain ⟨ab, eab, rfl⟩ := Option.map_eq_some_iff.mp el
      obtain ⟨a, b'⟩ := ab
      obtain ⟨t1, t2, t3⟩ := tr8.lt _ (List.mem_of_getElem? eab)
      have t1 : b' < a := t1
      have t3 : a < n := t3
      have jl : j < 60 := by
        have := (List.getElem?_eq_some_iff.mp eab).1
        omega
      have at_ : ∀ x, x < n → atI (ints_ nm) ((x : Nat) : Int) = some (.int (nm.getD x 0 : Nat)) := fun x hx' => by
        refine atI_nat ?_
        unfold ints_
        rw [List.getElem?_map, List.getElem?_eq_getElem (by omega), List.getD_eq_getElem?_getD, List.getElem?_eq_getElem (by omega)]
        rfl
      have hN9 := e _ _ hN8
      refine ⟨t, [.int (a : Nat), .int (b' : Nat)], rfl, .inl (.inl (e _ _ hl)), rfl, _, _, rfl, _, _, rfl, rfl, rfl, ?_⟩
      refine ⟨_, rfl, _, rfl, N0, _, _, _, rfl, rfl, .inl (.inl hN9), at_ a t3, _, rfl, _, rfl, N0, _, _, _, rfl, rfl, .inl (.inl hN9), at_ b' (by omega), _, _, rfl, ?_⟩
      refine ⟨_, rfl, _, rfl, N0, _, _, _, rfl, rfl, .inl (.inl hN9), at_ a t3, _, rfl, _, rfl, N0, _, _, _, rfl, rfl, .inl (.inl hN9), at_ b' (by omega), _, _, rfl, ?_⟩
      refine ⟨by show 2 ≤ sizeLine; decide, fun u nu => ?_⟩
      have nDu : D ≠ u := ne_of_none hD2 nu
      refine ⟨_, by rw [upd_ne nDu]; exact hD2, by rw [List.length_map]; exact small1000 (by omega), fun b o hb => ?_, us ++ [u], by rw [upd_same, List.map_append]; rfl, ?_, by rw [List.length_append, List.length_singleton]; omega⟩
      · have h1 := e _ _ hb
        rw [upd_ne (ne_of_none hb hD), upd_ne (ne_of_none h1 nu)]
        exact h1
      · rw [List.take_add_one, eab, List.map_append]
        unfold pairs at tD ⊢
        rw [List.map_append]
        refine (tD.mono fun b xs hb => ?_).append (.cons ?_ .nil)
        · rw [upd_ne (fun z => by rw [z, hD2] at hb; cases hb), upd_ne (ne_of_none hb nu)]
          exact hb
        · have m1 : ∀ x y : Nat, (if (y : Int) < (x : Int) then (y : Int) else (x : Int)) = ((min x y : Nat) : Int) := fun x y => by split <;> omega
          have m2 : ∀ x y : Nat, (if (y : Int) > (x : Int) then (y : Int) else (x : Int)) = ((max x y : Nat) : Int) := fun x y => by split <;> omega
          rw [upd_ne nDu.symm, upd_same, m1, m2]
          rfl
    obtain ⟨e9, us, hD9, tD9, lu9⟩ := pv
    rw [List.length_map, ltx, List.take_length] at tD9
    rw [List.length_map, ltx] at lu9
    have st9 := st8.same e9
    -- the lots
    refine ⟨_, rfl, _, rfl, fun rg nrg => ?_⟩
    refine ⟨rg, n, rfl, upd_same, by omega, fun l0 nl0 => ?_⟩
    have s10 : Same H9 (upd (upd H9 rg (.rng 0 n)) l0 (.lst (K7E.upTo n))) := same_new (same_new (Same.refl H9) nrg) nl0
    refine ⟨l0, n, rfl, n5, upd_same, fun H11 lo ls e11 nlo hlo tlo => ?_⟩
    have e11 := s10.trans e11
    refine ⟨lo, rfl, ⟨_, .inl (.inl hlo)⟩, fun D2 hD2 => lc_list (xs := ls.map V.ref) (fun j H2 => Same H11 H2 ∧ ∃ us, H2 D2 = some (.lst (us.map V.ref)) ∧ TAt H2 us (((lotsTo (List.range n) n).take j).filter fun l => decide (0 < l.length) && decide (l.length < n)) ∧ us.length ≤ j) ⟨same_new (Same.refl H11) hD2, [], upd_same, .nil, Nat.le_refl _⟩ (fun j H2 _ pv => .inl (.inl (pv.1 _ _ hlo))) (fun j x H2 hx pv => ?_) (fun H12 pv => ?_)⟩
    · obtain ⟨e, us, hD3, tD, lu⟩ := pv
      rw [List.getElem?_map] at hx
      obtain ⟨t, ht, rfl⟩ := Option.map_eq_some_iff.mp hx
      obtain ⟨l, el, hl⟩ := tlo.get ht
      have jl : j < 32 := by
        have h1 := (List.getElem?_eq_some_iff.mp el).1
        have h2 : (lotsTo (List.range n) n).length ≤ 32 := (level_len ⟨n, by omega⟩ ⟨n, by omega⟩).2
        omega
      have hll : (l.map fun c => V.int (c : Nat)).length = l.length := List.length_map ..
      have hl2 := e _ _ hl
      have f1 : ((lotsTo (List.range n) n).take (j + 1)).filter (fun l => decide (0 < l.length) && decide (l.length < n)) = ((lotsTo (List.range n) n).take j).filter (fun l => decide (0 < l.length) && decide (l.length < n)) ++ (if (decide (0 < l.length) && decide (l.length < n)) = true then [l] else []) := by
        rw [List.take_add_one, el, List.filter_append]
        congr 1
        show List.filter _ [l] = _
        rw [List.filter_cons]
        rfl
      refine ⟨rfl, _, rfl, t, _, rfl, .inr (.inl (.inl hl2)), _, _, rfl, rfl, _, rfl, ite2 (fun q1 => ?_) (fun q1 => ?_)⟩
      · have q1' : 0 < l.length := by
          have z : (0 : Int) < (((l.map fun c => V.int (c : Nat)).length : Nat) : Int) := of_decide_eq_true q1
          omega
        refine ⟨_, rfl, _, _, rfl, rfl, _, rfl, ite2 (fun q2 => ?_) (fun q2 => ?_)⟩
        · have q2' : l.length < n := by
            have z : (((l.map fun c => V.int (c : Nat)).length : Nat) : Int) < (n : Nat) := of_decide_eq_true q2
            omega
          refine ⟨_, rfl, _, hD3, by rw [List.length_map]; exact small1000 (by omega), fun b o hb => ?_, us ++ [t], by rw [upd_same, List.map_append]; rfl, ?_, by rw [List.length_append, List.length_singleton]; omega⟩
          · rw [upd_ne (ne_of_none hb hD2)]
            exact e _ _ hb
          · rw [f1, if_pos (by rw [decide_eq_true q1', decide_eq_true q2']; rfl)]
            have up : ∀ b xs, H2 b = some (.tup xs) → upd H2 D2 (.lst (us.map V.ref ++ [.ref t])) b = some (.tup xs) := fun b xs hb => by
              rw [upd_ne (fun z => by rw [z, hD3] at hb; cases hb)]
              exact hb
            exact (tD.mono up).append (.cons (up _ _ hl2) .nil)
        · have q2' : ¬ l.length < n := fun z => q2 (decide_eq_true (by omega))
          refine ⟨e, us, hD3, ?_, by omega⟩
          rw [f1, if_neg (by rw [decide_eq_false q2', Bool.and_false]; decide), List.append_nil]
          exact tD
      · have q1' : ¬ 0 < l.length := fun z => q1 (decide_eq_true (by omega))
        refine ⟨_, rfl, iteF ?_⟩
        refine ⟨e, us, hD3, ?_, by omega⟩
        rw [f1, if_neg (by rw [decide_eq_false q1', Bool.false_and]; decide), List.append_nil]
        exact tD
    obtain ⟨e12, vs, hD12, tD12, lv12⟩ := pv
    have e12 := e11.trans e12
    have lsl : ls.length = (lotsTo (List.range n) n).length := tlo.len
    rw [List.length_map, lsl, List.take_length] at tD12
    have st12 := st9.same e12
    have hR12 := e12 _ _ hD9
    have tR12 := tD9.same e12
    -- the land
    have okl : LandOk0 n (cs.map fun e => KL.couple nm e.1 e.2) := tree_land hp tr8
    refine ⟨_, rfl, _, rfl, D, _, kfOf H12, rfl, .inl (.inl hR12), fun x hx => ?_, fun ys p srt stb np => ?_⟩
    · obtain ⟨a, e, rfl, ha⟩ := g_mem tR12 x hx
      exact ⟨a, rfl, by rw [kf_at ha]; exact ha⟩
    have hys := fun x (hx : x ∈ ys) => g_mem tR12 x (stb.perm.mem_iff.mp hx)
    obtain ⟨ts', rfl, tY⟩ := tat_of ys hys
    have pe : ((ts'.map V.ref).map (gOf H12)).Perm (cs.map fun e => KL.couple nm e.1 e.2) := by
      rw [← g_map tR12]
      exact stb.perm.map _
    have ok : LandOk n ((ts'.map V.ref).map (gOf H12)) := ⟨fun e he => okl.lt e (pe.mem_iff.mp he), pe.nodup_iff.mpr okl.nd, sorted_of _ hys srt, fun S h0 hS => okl.conn S h0 fun e he => hS e (pe.mem_iff.mpr he)⟩
    have s13 := same_new (o := .lst (ts'.map V.ref)) (Same.refl H12) np
    obtain ⟨hph, _⟩ := st12.hand.ne np
    have st13 := st12.same s13
    have hp13 : upd H12 p (.lst (ts'.map V.ref)) p = some (.lst (ts'.map V.ref)) := upd_same
    have tY13 := tY.same s13
    have hD13 := s13 _ _ hD12
    have tD13 := tD12.same s13
    generalize (ts'.map V.ref).map (gOf H12) = es at ok tY13 pe tY
    generalize upd H12 p (.lst (ts'.map V.ref)) = H13 at s13 st13 hp13 tY13 hD13 tD13 ⊢
    obtain ⟨k4, k0, k32⟩ := lots_some ⟨n, by omega⟩ n2
    have hvl : vs.length = ((lotsTo (List.range n) n).filter fun l => decide (0 < l.length) && decide (l.length < n)).length := tD13.len
    have k4 : vs.length ≠ 4 := by rw [hvl]; exact k4
    have k0 : 0 < vs.length := by rw [hvl]; exact k0
    have k32 : vs.length ≤ 32 := by rw [hvl]; exact k32
    refine ⟨_, rfl, _, rfl, h, c, D2, _, rfl, st13.hand, st13.hand.nel hD13 (notHand_len _ (by rw [List.length_map]; exact k4)), hD13, by rw [List.length_map]; exact k0, by rw [List.length_map]; omega, fun H14 j v d ej => ?_⟩
    rw [List.getElem?_map] at ej
    obtain ⟨t, ht, rfl⟩ := Option.map_eq_some_iff.mp ej
    obtain ⟨lot, elot, hlot⟩ := tD13.get ht
    have st14 := st13.drawn d
    have keep : ∀ {b : Addr} {xs : List V}, H13 b = some (.tup xs) → H14 b = some (.tup xs) := fun {b xs} hb => by rw [d.but b (st13.hand.net hb)]; exact hb
    have hp14 : H14 p = some (.lst (ts'.map V.ref)) := by rw [d.but p hph]; exact hp13
    have tY14 := tY13.mono fun b xs hb => keep hb
    refine ⟨t, _, rfl, .inr (.inl (.inl (keep hlot))), fun sA nsA => ?_⟩
    refine ⟨by show 3 ≤ sizeLine; decide, fun q0 nq0 => ?_⟩
    have s15 := same_new (o := .lst (lot.map fun c => .int (c : Nat))) (Same.refl H14) nsA
    have s16 := same_new (o := .tup [.int (n : Nat), .ref p, .ref sA]) s15 nq0
    have nsq : sA ≠ q0 := ne_of_none (show upd H14 sA (.lst (lot.map fun c => .int (c : Nat))) sA = some (.lst (lot.map fun c => .int (c : Nat))) from upd_same) nq0
    have hmem := List.mem_filter.mp (List.mem_of_getElem? elot)
    obtain ⟨hm1, hm2⟩ := hmem
    have hm2 := Bool.and_eq_true_iff.mp hm2
    exact q _ q0 es lot (st14.same s16) ((st14.same s15).free nq0) ⟨⟨p, sA, ts', upd_same, s16 _ _ hp14, tY14.same s16, by rw [upd_ne nsq, upd_same]; rfl⟩, ok, hm1, of_decide_eq_true hm2.1, of_decide_eq_true hm2.2⟩
end
end K7
end
/-! ## P4 -/
section
open PySem PySem.Spec PyProof.Rows L2
namespace K7
abbrev N_is_whole : List Str := ["thing", "low", "high"]
abbrev s_is_whole : Stmt := topS 11
theorem sc_is_whole : FnScope ["thing", "low", "high"] ["thing", "low", "high"] (defScope s_is_whole) := ⟨rfl, rfl, rfl, by decide +kernel, rfl, by decide +kernel, by decide +kernel⟩
abbrev N_is_sequence : List Str := ["thing"]
abbrev s_is_sequence : Stmt := topS 10
theorem sc_is_sequence : FnScope ["thing"] ["thing"] (defScope s_is_sequence) := ⟨rfl, rfl, rfl, by decide +kernel, rfl, by decide +kernel, by decide +kernel⟩
section
variable {P : Program} {w : World} {K : PySem.W.Frag} {mg : Str → Option Value} {base : Heap}
/-! is_whole -/
def wholeV (x : V) (lo hi : Int) : Bool := match x with
  | .int i => decide (lo ≤ i) && decide (i ≤ hi)
  | _ => false
theorem wholeV_int (i lo hi : Int) : wholeV (.int i) lo hi = (decide (lo ≤ i) && decide (i ≤ hi)) := rfl
inductive Flat4 : V → Prop where
  | non : Flat4 .non
  | bl (b : Bool) : Flat4 (.bl b)
  | int (i : Int) : Flat4 (.int i)
  | str (z : Str) : Flat4 (.str z)
/-- what a row of the law holds -/
inductive Thing (H : Hp) : V → Prop where
  | flat {x : V} (h : Flat4 x) : Thing H x
  | tup {a : Addr} {xs : List V} (h : H a = some (.tup xs)) : Thing H (.ref a)
  | lst {a : Addr} {xs : List V} (h : H a = some (.lst xs)) : Thing H (.ref a)
theorem Thing.same {H H' : Hp} {x : V} (h : Thing H x) (e : Same H H') : Thing H' x := by
  cases h with
  | flat h => exact .flat h
  | tup h => exact .tup (e _ _ h)
  | lst h => exact .lst (e _ _ h)
def spWhole : Sp := fun vs H Q _ => ∃ (x : V) (lo hi : Int), vs = [x, .int lo, .int hi] ∧ Thing H x ∧ Q (.bl (wholeV x lo hi)) H
theorem ok_whole {f : Addr} {fd : FuncData} (F : Fun K "is_whole" "is_whole" s_is_whole f fd) (m_isinstance : mg "isinstance" = none) (m_int : mg "int" = none) (m_bool : mg "bool" = none) : FnOk P w K mg base CX0 1 f fd ["thing", "low", "high"] spWhole := by
  refine F.ok sc_is_whole (fun vs H Q E h => ?_) (fun cdv A outer s H vs Q E hr h => ?_)
  · obtain ⟨x, lo, hi, rfl, _⟩ := h
    rfl
  · obtain ⟨x, lo, hi, rfl, hx, q⟩ := h
    refine ⟨_, (pss_one (ps_ret (pe_and (pe_callB call_isi (by rfl) m_isinstance boot_isinstance (pa_cons (pv 0) (pa_cons (pe_bltn (v := .ty "int") (by rfl) m_int boot_int rfl) pa_nil))) (pe_and (pe_not (pe_callB call_isi (by rfl) m_isinstance boot_isinstance (pa_cons (pv 0) (pa_cons (pe_bltn (v := .ty "bool") (by rfl) m_bool boot_bool rfl) pa_nil)))) (pe_one (pe_chain op_le op_le (pv 1) (pv 0) (pv 2))))))), ?_⟩
    rcases hx with ⟨hx⟩ | hx | hx
    rotate_left
    · exact ⟨_, rfl, _, _, _, _, _, rfl, .ty _, .base (.tup hx), kit_ty (r := false) (by decide +kernel), false, rfl, q⟩
    · exact ⟨_, rfl, _, _, _, _, _, rfl, .ty _, .base (.lst hx), kit_ty (r := false) (by decide +kernel), false, rfl, q⟩
    cases hx with
    | non => exact ⟨_, rfl, _, _, _, _, _, rfl, .ty _, .base .non, kit_ty (r := false) (by decide +kernel), false, rfl, q⟩
    | bl b => 
      refine ⟨_, rfl, _, _, _, _, _, rfl, .ty _, .base (.bl b), kit_ty (r := true) (by decide +kernel), true, rfl, ?_⟩
      exact ⟨_, rfl, _, _, _, _, _, rfl, .ty _, .base (.bl b), kit_ty (r := true) (by decide +kernel), _, rfl, _, rfl, q⟩
    | str z => exact ⟨_, rfl, _, _, _, _, _, rfl, .ty _, .base (.str z), kit_ty (r := false) (by decide +kernel), false, rfl, q⟩
    | int i =>
      refine ⟨_, rfl, _, _, _, _, _, rfl, .ty _, .base (.int i), kit_ty (r := true) (by decide +kernel), true, rfl, ?_⟩
      refine ⟨_, rfl, _, _, _, _, _, rfl, .ty _, .base (.int i), kit_ty (r := false) (by decide +kernel), _, rfl, _, rfl, ?_⟩
      refine ⟨_, rfl, _, rfl, _, _, rfl, rfl, _, rfl, ite2 (fun e => ?_) (fun e => ?_)⟩
      · rw [wholeV_int, e, Bool.true_and] at q
        exact ⟨_, rfl, _, _, rfl, rfl, q⟩
      · rw [wholeV_int, Bool.eq_false_iff.mpr e, Bool.false_and] at q
        exact q

/-! is_sequence -/
/-- a tuple or a list -/
def SqA (K : PySem.W.Frag) (H : Hp) (a : Addr) (xs : List V) : Prop := SqL K H a xs ∨ SqT K H a xs
def spSeq (K : PySem.W.Frag) : Sp := fun vs H Q _ => ∃ (x : V) (t : String) (b : Bool), vs = [x] ∧ (∀ H1, Same H H1 → TyX K H1 x (.type t)) ∧ PySem.W.kitAny K (.type t) [.type "list", .type "tuple"] = some b ∧ ∀ H1, Same H H1 → Q (.bl b) H1
theorem ok_seq {f : Addr} {fd : FuncData} (F : Fun K "is_sequence" "is_sequence" s_is_sequence f fd) (m_isinstance : mg "isinstance" = none) (m_list : mg "list" = none) (m_tuple : mg "tuple" = none) : FnOk P w K mg base CX0 1 f fd ["thing"] (spSeq K) := by
  refine F.ok sc_is_sequence (fun vs H Q E h => ?_) (fun cdv A outer s H vs Q E hr h => ?_)
  · obtain ⟨x, t, b, rfl, _⟩ := h
    rfl
  · obtain ⟨x, t, b, rfl, ty, k, q⟩ := h
    refine ⟨_, (pss_one (ps_ret (pe_callB call_isiT (by rfl) m_isinstance boot_isinstance (pa_cons (pv 0) (pa_cons (pe_tup (pa_cons (pe_bltn (v := .ty "list") (by rfl) m_list boot_list rfl) (pa_cons (pe_bltn (v := .ty "tuple") (by rfl) m_tuple boot_tuple rfl) pa_nil))) pa_nil))))), ?_⟩
    refine ⟨_, rfl, by show 2 ≤ sizeLine; decide, fun tp np => ?_⟩
    have s1 := same_new (o := .tup [.ty "list", .ty "tuple"]) (Same.refl H) np
    exact ⟨x, tp, _, .type t, _, b, rfl, upd_same, .cons (.ty _) (.cons (.ty _) .nil), ty _ s1, k, q _ s1⟩
theorem any_tup : PySem.W.kitAny K (.type "tuple") [.type "list", .type "tuple"] = some true := kitAny_cons (b := false) (kit_ty (by decide +kernel)) (fun _ => kitAny_cons (b := true) (kit_ty (by decide +kernel)) (fun z => nomatch z) (fun _ => rfl)) (fun z => nomatch z)
theorem any_lst : PySem.W.kitAny K (.type "list") [.type "list", .type "tuple"] = some true := kitAny_cons (b := true) (kit_ty (by decide +kernel)) (fun z => nomatch z) (fun _ => rfl)
theorem any_int : PySem.W.kitAny K (.type "int") [.type "list", .type "tuple"] = some false := kitAny_cons (b := false) (kit_ty (by decide +kernel)) (fun _ => kitAny_cons (b := false) (kit_ty (by decide +kernel)) (fun _ => kitAny_nil) (fun z => nomatch z)) (fun z => nomatch z)
theorem any_str : PySem.W.kitAny K (.type "str") [.type "list", .type "tuple"] = some false := kitAny_cons (b := false) (kit_ty (by decide +kernel)) (fun _ => kitAny_cons (b := false) (kit_ty (by decide +kernel)) (fun _ => kitAny_nil) (fun z => nomatch z)) (fun z => nomatch z)
theorem any_non : PySem.W.kitAny K (.type "NoneType") [.type "list", .type "tuple"] = some false := kitAny_cons (b := false) (kit_ty (by decide +kernel)) (fun _ => kitAny_cons (b := false) (kit_ty (by decide +kernel)) (fun _ => kitAny_nil) (fun z => nomatch z)) (fun z => nomatch z)
theorem any_bool : PySem.W.kitAny K (.type "bool") [.type "list", .type "tuple"] = some false := kitAny_cons (b := false) (kit_ty (by decide +kernel)) (fun _ => kitAny_cons (b := false) (kit_ty (by decide +kernel)) (fun _ => kitAny_nil) (fun z => nomatch z)) (fun z => nomatch z)
end
end K7
end
/-! ## EL -/
section
open PySem PySem.Spec PyProof.Rows L2
namespace K7E
theorem nodup_le {α : Type} [DecidableEq α] : ∀ (l D : List α), l.Nodup → (∀ x ∈ l, x ∈ D) → l.length ≤ D.length
  | [], _, _, _ => Nat.zero_le _
  | x :: l, D, h, m => by
    obtain ⟨h1, h2⟩ := List.nodup_cons.mp h
    have hx := m x List.mem_cons_self
    have z := nodup_le l (D.erase x) h2 fun y hy => (List.mem_erase_of_ne (fun (e : y = x) => h1 (by rw [← e]; exact hy))).mpr (m y (List.mem_cons_of_mem _ hy))
    rw [List.length_erase_of_mem hx] at z
    have := List.length_pos_of_mem hx
    rw [List.length_cons]
    omega
theorem nodup_of_le {α : Type} [DecidableEq α] : ∀ (l D : List α), l.Nodup → (∀ x ∈ l, x ∈ D) → D.length ≤ l.length → D.Nodup
  | [], [], _, _, _ => List.nodup_nil
  | [], _ :: _, _, _, z => absurd z (by rw [List.length_cons, List.length_nil]; omega)
  | x :: l, D, h, m, z => by
    obtain ⟨h1, h2⟩ := List.nodup_cons.mp h
    have hx := m x List.mem_cons_self
    have hl := List.length_erase_of_mem hx
    have sub : ∀ y ∈ l, y ∈ D.erase x := fun y hy => (List.mem_erase_of_ne (fun (e : y = x) => h1 (by rw [← e]; exact hy))).mpr (m y (List.mem_cons_of_mem _ hy))
    rw [List.length_cons] at z
    have hp := List.length_pos_of_mem hx
    have hd := nodup_of_le l (D.erase x) h2 sub (by omega)
    rw [(List.perm_cons_erase hx).nodup_iff, List.nodup_cons]
    refine ⟨fun hm => ?_, hd⟩
    have w := nodup_le (x :: l) (D.erase x) h fun y hy => by
      rcases List.mem_cons.mp hy with rfl | hy
      · exact hm
      · exact sub y hy
    rw [List.length_cons] at w
    omega
section
variable {X : Cx}
/-- len(set(x)), x a tuple of ints: how many there are of them, and all of them only if no two are the same -/
def tLenSetT (K : PySem.W.Frag) (ta : TE) : TE := fun σ H Q => ta σ H fun x H1 => ∃ (l : Addr) (ns : List Int), x = V.ref l ∧ SqT K H1 l (ns.map V.int) ∧ ns.length < 64 ∧ ∀ c : Nat, c ≤ ns.length → (c = ns.length ↔ ns.Nodup) → Q (.int c) H1
theorem pe_lenSetT {a : Expr} {ta : TE} {p p2 q pos : Pos} (hc : X.calm = true) (hg : Gl X "len") (hm : X.mg "len" = none) (hg2 : Gl X "set") (hm2 : X.mg "set" = none) (ha : PE X a ta)
    (na : starEach [a] X.env = (false, eval a X.env) :: starEach [] X.env := by rfl) : PE X (.Call (.Name "len" p) [.Call (.Name "set" p2) [a] [] q] [] pos) (tLenSetT X.K ta) := by
  refine ⟨fun pins s σ H Q I h => ?_⟩
  refine Call_ (ld_blt I hg hm PySem.boot_len ?_)
  refine PyProof.Rows.callWith_builtin1 (PyProof.Rows.args_cons ?_ rfl) rfl rfl
  refine Call_ (ld_blt I hg2 hm2 PyProof.Rows.boot_set ?_)
  refine PyProof.Rows.callWith_type1 (PyProof.Rows.args_cons (thn (ha.run pins s σ H _ I h) fun v s1 ⟨x, H1, I1, r1, q1⟩ => PyProof.Rows.args_nil ?_) na) na rfl
  obtain ⟨l, ns, rfl, hq, h1, q1⟩ := q1
  cases r1
  obtain ⟨its, r, pl, hz⟩ := I1.tuple hq
  have hi : IntsAre its.toArray.toList ns := ints_of_vals r
  refine call_set_tupI ns (I1.ok.hd hc) (show s1.heap.IsTuple l its.toArray from pl) hi (by unfold scanBound; omega) fun h' tk c hS hcn hk => ?_
  refine PyProof.Rows.args_nil ?_
  obtain ⟨o, es, ep, t, ho, hex, hd, g, nd, hm2, hb, hf, hn, hr, hl2⟩ := hS
  have I2 : Inv X pins σ H1 { s1 with heap := h', toks := tk } := I1.kept fun b o e => hk b o e
  have hmem : ∀ k, k ∈ es.toList.map keyOf ↔ k ∈ ns := fun k => by rw [← hm2 k, decide_eq_true_eq]
  have hlen : (es.toList.map keyOf).length = c := by rw [List.length_map, Array.length_toList, hn]
  have key : c = ns.length ↔ ns.Nodup := by
    constructor
    · intro e
      exact nodup_of_le _ _ nd (fun k hk => (hmem k).mp hk) (by rw [hlen, e]; exact Nat.le_refl _)
    · intro hn2
      have w := nodup_le _ _ hn2 fun k hk => (hmem k).mpr hk
      rw [hlen] at w
      omega
  refine call_len_set ho hex hd hf (by rw [hn] <;> omega) ⟨.int c, H1, I2.tok _, ⟨_, by rw [hn]⟩, q1 c hcn key⟩
/-- the same over a list -/
theorem firstMet_nd (val : Nat → Int) : ∀ i, (firstMet val i).Nodup
  | 0 => List.nodup_nil
  | i + 1 => by
    rw [firstMet_succ]
    unfold step_dedup
    split
    · exact firstMet_nd val i
    · rename_i h
      refine List.nodup_append.mpr ⟨firstMet_nd val i, List.nodup_cons.mpr ⟨List.not_mem_nil, List.nodup_nil⟩, fun a ha b hb e => h ?_⟩
      rw [List.mem_singleton] at hb
      exact List.any_eq_true.mpr ⟨a, ha, by rw [e, hb]; exact beq_self_eq_true _⟩
theorem firstMet_mem (ns : List Int) (k : Int) : k ∈ firstMet (fun i => ns.getD i 0) ns.length ↔ k ∈ ns := by
  have e := firstMet_any (fun i => ns.getD i 0) ns.length k
  have em : (List.range ns.length).map (fun i => ns.getD i 0) = ns := by
    refine List.ext_getElem (by rw [List.length_map, List.length_range]) fun j h1 h2 => ?_
    rw [List.getElem_map, List.getElem_range, List.getD_eq_getElem?_getD, List.getElem?_eq_getElem h2]
    rfl
  rw [em] at e
  have w : ∀ l : List Int, l.any (· == k) = true ↔ k ∈ l := fun l => by
    rw [List.any_eq_true]
    exact ⟨fun ⟨x, hx, ex⟩ => by rw [← beq_iff_eq.mp ex]; exact hx, fun hx => ⟨k, hx, beq_self_eq_true _⟩⟩
  rw [← w, ← w, e]
def tLenSetL (K : PySem.W.Frag) (ta : TE) : TE := fun σ H Q => ta σ H fun x H1 => ∃ (l : Addr) (ns : List Int), x = V.ref l ∧ SqL K H1 l (ns.map V.int) ∧ ns.length < 64 ∧ ∀ c : Nat, c ≤ ns.length → (c = ns.length ↔ ns.Nodup) → Q (.int c) H1
theorem pe_lenSetL {a : Expr} {ta : TE} {p p2 q pos : Pos} (hc : X.calm = true) (hg : Gl X "len") (hm : X.mg "len" = none) (hg2 : Gl X "set") (hm2 : X.mg "set" = none) (ha : PE X a ta)
    (na : starEach [a] X.env = (false, eval a X.env) :: starEach [] X.env := by rfl) : PE X (.Call (.Name "len" p) [.Call (.Name "set" p2) [a] [] q] [] pos) (tLenSetL X.K ta) := by
  refine ⟨fun pins s σ H Q I h => ?_⟩
  refine Call_ (ld_blt I hg hm PySem.boot_len ?_)
  refine PyProof.Rows.callWith_builtin1 (PyProof.Rows.args_cons ?_ rfl) rfl rfl
  refine Call_ (ld_blt I hg2 hm2 PyProof.Rows.boot_set ?_)
  refine PyProof.Rows.callWith_type1 (PyProof.Rows.args_cons (thn (ha.run pins s σ H _ I h) fun v s1 ⟨x, H1, I1, r1, q1⟩ => PyProof.Rows.args_nil ?_) na) na rfl
  obtain ⟨l, ns, rfl, hq, h1, q1⟩ := q1
  cases r1
  obtain ⟨its, r, pl, hz⟩ := I1.list hq
  have hl : its.toArray.size = ns.length := by rw [List.size_toArray, ← r.length, List.length_map]
  refine call_set_list (I1.ok.hd hc) pl.isList (ns := ns) (by simpa using r.ints) (by unfold scanBound; omega) fun h' tk hS hk => ?_
  rw [hl] at hS
  have nd := firstMet_nd (fun i => ns.getD i 0) ns.length
  have mm := firstMet_mem ns
  have hcn := firstMet_length_le (fun i => ns.getD i 0) ns.length
  generalize firstMet (fun i => ns.getD i 0) ns.length = L at hS nd mm hcn
  refine PyProof.Rows.args_nil ?_
  obtain ⟨o, es, ep, t, ho, hex, hd, _, _, _, hf, hn⟩ := hS
  have I2 : Inv X pins σ H1 { s1 with heap := h', toks := tk } := I1.kept fun b o e => hk b o (Heap.lt_size e) e
  have key : L.length = ns.length ↔ ns.Nodup := by
    constructor
    · intro e
      exact nodup_of_le _ _ nd (fun k hk => (mm k).mp hk) (by rw [e]; exact Nat.le_refl _)
    · intro hn2
      have w := nodup_le _ _ hn2 fun k hk => (mm k).mpr hk
      omega
  refine call_len_set ho hex hd hf (by rw [hn] <;> omega) ⟨.int L.length, H1, I2.tok _, ⟨_, by rw [hn]⟩, q1 _ hcn key⟩
/-- one of two readings -/
theorem pe_either {e : Expr} {t1 t2 : TE} (a : PE X e t1) (b : PE X e t2) : PE X e (fun σ H Q => t1 σ H Q ∨ t2 σ H Q) := ⟨fun pins s σ H Q I h => h.elim (a.run pins s σ H Q I) (b.run pins s σ H Q I)⟩
theorem pi_either {tg e : Expr} {t1 t2 : TI} (a : PI X tg e t1) (b : PI X tg e t2) : PI X tg e (fun σ H R => t1 σ H R ∨ t2 σ H R) := ⟨fun pins s σ H R I h => h.elim (a.run pins s σ H R I) (b.run pins s σ H R I)⟩
end
end K7E
end
/-! ## P5 -/
section
open PySem PySem.Spec PyProof.Rows L2
namespace K7
abbrev N_are_cells : List Str := ["many", "thing", "least", "cell"]
abbrev s_are_cells : Stmt := topS 12
theorem sc_are_cells : FnScope ["many", "thing", "least", "cell"] ["many", "thing", "least"] (defScope s_are_cells) := ⟨rfl, rfl, rfl, by decide +kernel, rfl, by decide +kernel, by decide +kernel⟩
section
variable {P : Program} {w : World} {K : PySem.W.Frag} {mg : Str → Option Value} {base : Heap}
def intOf : V → Int | .int i => i | _ => 0
/-- what are_cells says of a row -/
def cellsV (many : Int) (xs : List V) (least : Int) : Bool := decide (least ≤ (xs.length : Nat)) && xs.all (fun x => wholeV x 0 (many - 1)) && decide (xs.map intOf).Nodup
theorem whole_int {x : V} {lo hi : Int} (h : wholeV x lo hi = true) : x = .int (intOf x) := by
  unfold wholeV at h
  split at h
  · rfl
  · cases h
def spCells (K : PySem.W.Frag) : Sp := fun vs H Q _ => ∃ (many : Int) (x : V) (least : Int), vs = [.int many, x, .int least] ∧
  ((∃ t : String, (∀ H1, Same H H1 → TyX K H1 x (.type t)) ∧ PySem.W.kitAny K (.type t) [.type "list", .type "tuple"] = some false ∧ ∀ H1, Same H H1 → Q (.bl false) H1) ∨
   (∃ (a : Addr) (xs : List V), x = .ref a ∧ (H a = some (.tup xs) ∨ H a = some (.lst xs)) ∧ (∀ y ∈ xs, Thing H y) ∧ xs.length < 64 ∧ ∀ H1, Same H H1 → Q (.bl (cellsV many xs least)) H1))
theorem ok_cells {f fS fW : Addr} {fd fdS fdW : FuncData} (F : Fun K "are_cells" "are_cells" s_are_cells f fd)
    (Gsq : FnOk P w K mg base CX0 1 fS fdS ["thing"] (spSeq K)) (gsq : mg "is_sequence" = some (.ref fS)) (ksq : PySem.W.keepIn K (.ref fS) = true) (bsq : Binds K fdS ["thing"] [])
    (Giw : FnOk P w K mg base CX0 1 fW fdW ["thing", "low", "high"] spWhole) (giw : mg "is_whole" = some (.ref fW)) (kiw : PySem.W.keepIn K (.ref fW) = true) (biw : Binds K fdW ["thing", "low", "high"] [])
    (m_len : mg "len" = none) (m_set : mg "set" = none) (m_all : mg "all" = none) : FnOk P w K mg base CX0 2 f fd ["many", "thing", "least"] (spCells K) := by
  refine F.ok sc_are_cells (fun vs H Q E h => ?_) (fun cdv A outer s H vs Q E hr h => ?_)
  · obtain ⟨m, x, l, rfl, _⟩ := h
    rfl
  · obtain ⟨m, x, l, rfl, h⟩ := h
    refine ⟨_, (pss_cons (ps_if (pw_or (pt_not (pt_val (pe_call Gsq (hr.mono (by decide)) (by rfl) gsq ksq bsq .nil pass0 (pa_cons (pv 1) pa_nil)))) (pw_or1 (pt_cmpR op_lt (pe_callB call_len_seq (by rfl) m_len boot_len (pa_cons (pv 1) pa_nil)) (pv 2) (nomark _)))).pt
  (pss_one (ps_ret pe_bl))
  pss_nil)
 (pss_cons (ps_if (pt_not (pt_val (pe_callB (cr_all rfl) (by rfl) m_all boot_all (pa_cons (pe_lc (own := [("cell", 3)]) (g := gName 3) (tt := tYes) rfl sc_are_cells.nd (K7E.pi_either (pi_tup (pv 1)) (pi_list (pv 1))) (blkOk_by (own := [("cell", 3)]) (N := N_are_cells) (sc := defScope s_are_cells) (by decide +kernel)) (fun _ _ _ _ _ => (pg_name (i := 3) sc_are_cells.nd rfl (by first | exact Or.inl rfl | exact Or.inr rfl))) (fun _ _ _ _ _ => pts_nil) (fun _ _ _ _ _ => (pe_call Giw (hr.mono (by decide)) (by rfl) giw kiw biw .nil pass0 (pa_cons (pv 3) (pa_cons pe_int (pa_cons (pe_op op_sub (pv 0) pe_int) pa_nil)))))) pa_nil))))
  (pss_one (ps_ret pe_bl))
  pss_nil)
 (pss_one (ps_ret (pe_cmpR op_eq (K7E.pe_either (K7E.pe_lenSetT rfl (by rfl) m_len (by rfl) m_set (pv 1)) (K7E.pe_lenSetL rfl (by rfl) m_len (by rfl) m_set (pv 1))) (pe_callB call_len_seq (by rfl) m_len boot_len (pa_cons (pv 1) pa_nil)) (nomark _)))))), ?_⟩
    rcases h with ⟨t, ty, k, q⟩ | ⟨a, xs, rfl, ha, th, h64, q⟩
    · refine ⟨_, rfl, x, t, false, rfl, ty, k, fun H1 e1 => ?_⟩
      exact ⟨_, rfl, q H1 e1⟩
    · have sq : ∀ H1, Same H H1 → (SqL K H1 a xs ∨ SqT K H1 a xs) := fun H1 e1 => ha.elim (fun z => .inr (.inl (.inl (e1 _ _ z)))) (fun z => .inl (.inl (.inl (e1 _ _ z))))
      have ex : ∃ t : String, (∀ H1, Same H H1 → TyX K H1 (.ref a) (.type t)) ∧ PySem.W.kitAny K (.type t) [.type "list", .type "tuple"] = some true := by
        rcases ha with z | z
        · exact ⟨"tuple", fun H1 e1 => .base (.tup (e1 _ _ z)), any_tup⟩
        · exact ⟨"list", fun H1 e1 => .base (.lst (e1 _ _ z)), any_lst⟩
      obtain ⟨t, ty, kk⟩ := ex
      refine ⟨_, rfl, _, t, true, rfl, ty, kk, fun H1 e1 => ⟨_, rfl, ?_⟩⟩
      refine ⟨_, rfl, a, xs, rfl, sq H1 e1, _, rfl, _, _, rfl, rfl, _, rfl, ite2 (fun c1 => ?_) (fun c1 => ?_)⟩
      · have c1' : ((xs.length : Nat) : Int) < l := of_decide_eq_true c1
        have z := q H1 e1
        have e0 : cellsV m xs l = false := by
          unfold cellsV
          rw [decide_eq_false (show ¬ l ≤ ((xs.length : Nat) : Int) by omega), Bool.false_and, Bool.false_and]
        rw [e0] at z
        exact z
      · have c1' : ¬ ((xs.length : Nat) : Int) < l := fun z => c1 (decide_eq_true z)
        have c2 : decide (l ≤ ((xs.length : Nat) : Int)) = true := decide_eq_true (by omega)
        rcases ha with z | z
        · refine .inl ⟨_, rfl, a, rfl, ⟨xs, .inl (.inl (e1 _ _ z))⟩, fun D hD => lc_tup (xs := xs) (fun j H2 => Same H1 H2 ∧ H2 D = some (.lst (((xs.take j).map fun x => wholeV x 0 (m - 1)).map V.bl))) ⟨same_new (Same.refl H1) hD, upd_same⟩ (fun j H2 _ pv => .inl (.inl (pv.1 _ _ (e1 _ _ z)))) (fun j x H2 hx pv => ?_) (fun H2 pv => ?_)⟩
          · obtain ⟨e2, hD2⟩ := pv
            have hm := th x (List.mem_of_getElem? hx)
            have hj : j < xs.length := (List.getElem?_eq_some_iff.mp hx).1
            refine ⟨rfl, _, rfl, _, rfl, _, _, rfl, rfl, x, 0, m - 1, rfl, hm.same (e1.trans e2), _, hD2, by rw [List.length_map, List.length_map, List.length_take]; exact small1000 (by omega), fun b o hb => ?_, ?_⟩
            · rw [upd_ne (ne_of_none hb hD)]
              exact e2 _ _ hb
            · rw [upd_same, List.take_add_one, hx, List.map_append, List.map_append]
              rfl
          · obtain ⟨e2, hD2⟩ := pv
            rw [List.take_length] at hD2
            refine ⟨D, xs.map fun x => wholeV x 0 (m - 1), rfl, .inl (.inl hD2), _, rfl, ?_⟩
            have call_ : (xs.map fun x => wholeV x 0 (m - 1)).all id = xs.all fun x => wholeV x 0 (m - 1) := by rw [List.all_map]; rfl
            refine ite2 (fun c3 => ?_) (fun c3 => ?_)
            rotate_left
            · have w : xs.all (fun x => wholeV x 0 (m - 1)) = true := by
                rw [← call_]
                cases hq : (xs.map fun x => wholeV x 0 (m - 1)).all id with
                | true => rfl
                | false => exact absurd (by rw [hq]; rfl) c3
              have exs : xs = (xs.map intOf).map V.int := by
                rw [List.map_map]
                refine (List.map_id xs).symm.trans (List.map_congr_left fun y hy => ?_)
                exact whole_int (List.all_eq_true.mp w y hy)
              refine Or.inl ⟨_, rfl, a, xs.map intOf, rfl, by rw [← exs]; exact .inl (.inl (e2 _ _ (e1 _ _ z))), by rw [List.length_map]; exact h64, fun c hc1 hc2 => ?_⟩
              refine ⟨_, rfl, a, xs, rfl, sq H2 (e1.trans e2), rfl, ?_⟩
              have zz := q H2 (e1.trans e2)
              unfold cellsV at zz
              rw [c2, w, Bool.true_and, Bool.true_and] at zz
              rw [List.length_map] at hc2
              have ee : decide (V.int (c : Nat) = V.int (xs.length : Nat)) = decide (xs.map intOf).Nodup := by
                refine decide_eq_decide.mpr ⟨fun e => hc2.mp ?_, fun e => by rw [hc2.mpr e]⟩
                injection e with e
                omega
              rw [← ee] at zz
              exact zz
            · have w : xs.all (fun x => wholeV x 0 (m - 1)) = false := by
                rw [← call_]
                cases hq : (xs.map fun x => wholeV x 0 (m - 1)).all id with
                | false => rfl
                | true => rw [hq] at c3; cases c3
              have zz := q H2 (e1.trans e2)
              unfold cellsV at zz
              rw [w, Bool.and_false, Bool.false_and] at zz
              exact zz
        · refine .inr ⟨_, rfl, a, rfl, ⟨xs, .inl (.inl (e1 _ _ z))⟩, fun D hD => lc_list (xs := xs) (fun j H2 => Same H1 H2 ∧ H2 D = some (.lst (((xs.take j).map fun x => wholeV x 0 (m - 1)).map V.bl))) ⟨same_new (Same.refl H1) hD, upd_same⟩ (fun j H2 _ pv => .inl (.inl (pv.1 _ _ (e1 _ _ z)))) (fun j x H2 hx pv => ?_) (fun H2 pv => ?_)⟩
          · obtain ⟨e2, hD2⟩ := pv
            have hm := th x (List.mem_of_getElem? hx)
            have hj : j < xs.length := (List.getElem?_eq_some_iff.mp hx).1
            refine ⟨rfl, _, rfl, _, rfl, _, _, rfl, rfl, x, 0, m - 1, rfl, hm.same (e1.trans e2), _, hD2, by rw [List.length_map, List.length_map, List.length_take]; exact small1000 (by omega), fun b o hb => ?_, ?_⟩
            · rw [upd_ne (ne_of_none hb hD)]
              exact e2 _ _ hb
            · rw [upd_same, List.take_add_one, hx, List.map_append, List.map_append]
              rfl
          · obtain ⟨e2, hD2⟩ := pv
            rw [List.take_length] at hD2
            refine ⟨D, xs.map fun x => wholeV x 0 (m - 1), rfl, .inl (.inl hD2), _, rfl, ?_⟩
            have call_ : (xs.map fun x => wholeV x 0 (m - 1)).all id = xs.all fun x => wholeV x 0 (m - 1) := by rw [List.all_map]; rfl
            refine ite2 (fun c3 => ?_) (fun c3 => ?_)
            rotate_left
            · have w : xs.all (fun x => wholeV x 0 (m - 1)) = true := by
                rw [← call_]
                cases hq : (xs.map fun x => wholeV x 0 (m - 1)).all id with
                | true => rfl
                | false => exact absurd (by rw [hq]; rfl) c3
              have exs : xs = (xs.map intOf).map V.int := by
                rw [List.map_map]
                refine (List.map_id xs).symm.trans (List.map_congr_left fun y hy => ?_)
                exact whole_int (List.all_eq_true.mp w y hy)
              refine Or.inr ⟨_, rfl, a, xs.map intOf, rfl, by rw [← exs]; exact .inl (.inl (e2 _ _ (e1 _ _ z))), by rw [List.length_map]; exact h64, fun c hc1 hc2 => ?_⟩
              refine ⟨_, rfl, a, xs, rfl, sq H2 (e1.trans e2), rfl, ?_⟩
              have zz := q H2 (e1.trans e2)
              unfold cellsV at zz
              rw [c2, w, Bool.true_and, Bool.true_and] at zz
              rw [List.length_map] at hc2
              have ee : decide (V.int (c : Nat) = V.int (xs.length : Nat)) = decide (xs.map intOf).Nodup := by
                refine decide_eq_decide.mpr ⟨fun e => hc2.mp ?_, fun e => by rw [hc2.mpr e]⟩
                injection e with e
                omega
              rw [← ee] at zz
              exact zz
            · have w : xs.all (fun x => wholeV x 0 (m - 1)) = false := by
                rw [← call_]
                cases hq : (xs.map fun x => wholeV x 0 (m - 1)).all id with
                | false => rfl
                | true => rw [hq] at c3; cases c3
              have zz := q H2 (e1.trans e2)
              unfold cellsV at zz
              rw [w, Bool.and_false, Bool.false_and] at zz
              exact zz
end
end K7
end
/-! ## P6 -/
section
open PySem PySem.Spec PyProof.Rows L2
namespace K7
abbrev N_are_two_cells : List Str := ["many", "thing"]
abbrev s_are_two_cells : Stmt := topS 13
theorem sc_are_two_cells : FnScope ["many", "thing"] ["many", "thing"] (defScope s_are_two_cells) := ⟨rfl, rfl, rfl, by decide +kernel, rfl, by decide +kernel, by decide +kernel⟩
section
variable {P : Program} {w : World} {K : PySem.W.Frag} {mg : Str → Option Value} {base : Heap}
/-- what are_two_cells says of a row -/
def twoV (many : Int) (xs : List V) : Bool := cellsV many xs 2 && decide (xs.length = 2)
def spTwo (K : PySem.W.Frag) : Sp := fun vs H Q _ => ∃ (many : Int) (x : V), vs = [.int many, x] ∧
  ((∃ t : String, (∀ H1, Same H H1 → TyX K H1 x (.type t)) ∧ PySem.W.kitAny K (.type t) [.type "list", .type "tuple"] = some false ∧ ∀ H1, Same H H1 → Q (.bl false) H1) ∨
   (∃ (a : Addr) (xs : List V), x = .ref a ∧ (H a = some (.tup xs) ∨ H a = some (.lst xs)) ∧ (∀ y ∈ xs, Thing H y) ∧ xs.length < 64 ∧ ∀ H1, Same H H1 → Q (.bl (twoV many xs)) H1))
theorem ok_two {f fC : Addr} {fd fdC : FuncData} (F : Fun K "are_two_cells" "are_two_cells" s_are_two_cells f fd)
    (Gac : FnOk P w K mg base CX0 2 fC fdC ["many", "thing", "least"] (spCells K)) (gac : mg "are_cells" = some (.ref fC)) (kac : PySem.W.keepIn K (.ref fC) = true) (bac : Binds K fdC ["many", "thing", "least"] [])
    (m_len : mg "len" = none) : FnOk P w K mg base CX0 3 f fd ["many", "thing"] (spTwo K) := by
  refine F.ok sc_are_two_cells (fun vs H Q E h => ?_) (fun cdv A outer s H vs Q E hr h => ?_)
  · obtain ⟨m, x, rfl, _⟩ := h
    rfl
  · obtain ⟨m, x, rfl, h⟩ := h
    refine ⟨_, (pss_one (ps_ret (pe_and (pe_call Gac (hr.mono (by decide)) (by rfl) gac kac bac .nil pass0 (pa_cons (pv 0) (pa_cons (pv 1) (pa_cons pe_int pa_nil)))) (pe_one (pe_cmpR op_eq (pe_callB call_len_seq (by rfl) m_len boot_len (pa_cons (pv 1) pa_nil)) pe_int (nomark _)))))), ?_⟩
    refine ⟨_, rfl, _, rfl, m, x, 2, rfl, ?_⟩
    rcases h with ⟨t, ty, k, q⟩ | ⟨a, xs, rfl, ha, th, h64, q⟩
    · exact .inl ⟨t, ty, k, fun H1 e1 => ⟨false, rfl, q H1 e1⟩⟩
    · refine .inr ⟨a, xs, rfl, ha, th, h64, fun H1 e1 => ⟨_, rfl, ite2 (fun c1 => ?_) (fun c1 => ?_)⟩⟩
      · refine ⟨_, rfl, a, xs, rfl, ha.elim (fun z => .inr (.inl (.inl (e1 _ _ z)))) (fun z => .inl (.inl (.inl (e1 _ _ z)))), rfl, ?_⟩
        have zz := q H1 e1
        unfold twoV at zz
        rw [c1, Bool.true_and] at zz
        have ee : decide (V.int (xs.length : Nat) = V.int 2) = decide (xs.length = 2) := by
          refine decide_eq_decide.mpr ⟨fun e => ?_, fun e => by rw [e]; rfl⟩
          injection e with e
          omega
        rw [← ee] at zz
        exact zz
      · have zz := q H1 e1
        unfold twoV at zz
        rw [Bool.eq_false_iff.mpr c1, Bool.false_and] at zz
        exact zz
end
end K7
end
/-! ## KM -/
section
/-! ## more pure facts: couples put in order -/
namespace KL
def srt (c : Nat × Nat) : Nat × Nat := (min c.1 c.2, max c.1 c.2)
theorem srt_le (c : Nat × Nat) : (srt c).1 ≤ (srt c).2 := by unfold srt; simp only; omega
theorem srt_lt {c : Nat × Nat} (h : c.1 ≠ c.2) : (srt c).1 < (srt c).2 := by unfold srt; simp only; omega
theorem srt_of {c : Nat × Nat} (h : c.1 < c.2) : srt c = c := by
  obtain ⟨a, b⟩ := c
  unfold srt
  simp only at h ⊢
  rw [Nat.min_eq_left (by omega), Nat.max_eq_right (by omega)]
/-- two numbers put in order -/
theorem two_sorted {ms : List Int} {x y : Nat} (p : ms.Perm [(x : Int), (y : Int)]) (s : ms.Pairwise (· ≤ ·)) : ms = [((min x y : Nat) : Int), ((max x y : Nat) : Int)] := by
  have hl := p.length_eq
  match ms, hl with
  | [u, v], _ =>
    have huv : u ≤ v := (List.pairwise_cons.mp s).1 v (List.mem_singleton.mpr rfl)
    have hu : u ∈ [(x : Int), (y : Int)] := p.mem_iff.mp List.mem_cons_self
    rcases List.mem_cons.mp hu with e | e
    · subst e
      have := (List.Perm.cons_inv p).eq_singleton
      injection this with e
      subst e
      have hxy : x ≤ y := by omega
      rw [Nat.min_eq_left hxy, Nat.max_eq_right hxy]
    · rw [List.mem_singleton] at e
      subst e
      have p2 : [(y : Int), v].Perm [(y : Int), (x : Int)] := p.trans (List.Perm.swap ..)
      have := (List.Perm.cons_inv p2).eq_singleton
      injection this with e
      subst e
      have hxy : y ≤ x := by omega
      rw [Nat.min_eq_right hxy, Nat.max_eq_left hxy]
def lexLe (a b : Nat × Nat) : Prop := a.1 < b.1 ∨ (a.1 = b.1 ∧ a.2 ≤ b.2)
/-- a sorted list is told by its items -/
theorem uniq {α : Type} {le : α → α → Prop} (anti : ∀ a b, le a b → le b a → a = b) : ∀ {l m : List α}, l.Perm m → l.Pairwise le → m.Pairwise le → l = m
  | [], m, p, _, _ => p.symm.eq_nil.symm
  | x :: l, [], p, _, _ => absurd p.length_eq (by simp)
  | x :: l, y :: m, p, hl, hm => by
    have e : x = y := by
      rcases List.mem_cons.mp (p.mem_iff.mp (List.mem_cons_self (a := x) (l := l))) with e | hx
      · exact e
      · rcases List.mem_cons.mp (p.mem_iff.mpr (List.mem_cons_self (a := y) (l := m))) with e | hy
        · exact e.symm
        · exact anti _ _ ((List.pairwise_cons.mp hl).1 y hy) ((List.pairwise_cons.mp hm).1 x hx)
    subst e
    rw [uniq anti p.cons_inv (List.pairwise_cons.mp hl).2 (List.pairwise_cons.mp hm).2]
theorem lex_anti (a b : Nat × Nat) (h1 : lexLe a b) (h2 : lexLe b a) : a = b := by
  unfold lexLe at h1 h2
  exact Prod.ext (by omega) (by omega)
theorem int_anti (a b : Int) (h1 : a ≤ b) (h2 : b ≤ a) : a = b := by omega
/-- all couples of n cells -/
def allC (n : Nat) : List (Nat × Nat) := (List.range n).flatMap fun a => ((List.range n).filter fun b => decide (a ≠ b)).map fun b => (a, b)
/-- couples taken either way round hang together as the ordered ones do -/
theorem conn_srt {n : Nat} {cs es : List (Nat × Nat)} (h : Conn n cs) (hp : es.Perm (cs.map srt)) : Conn n es := by
  intro S h0 he
  refine h S h0 fun c hc => ?_
  have z := he (srt c) (hp.mem_iff.mpr (List.mem_map.mpr ⟨c, hc, rfl⟩))
  unfold srt at z
  simp only at z
  rcases Nat.le_total c.1 c.2 with q | q
  · rw [Nat.min_eq_left q, Nat.max_eq_right q] at z
    exact z
  · rw [Nat.min_eq_right q, Nat.max_eq_left q] at z
    exact z.symm
/-- what is reached from c over passing cells -/
inductive Rch (E : Nat → Nat → Prop) (ps : List Nat) (c : Nat) : Nat → Prop
  | base : Rch E ps c c
  | step {a b : Nat} (h : Rch E ps c a) (e : E a b) (p : b ∈ ps) : Rch E ps c b
theorem Rch.mono {E E' : Nat → Nat → Prop} {ps ps' : List Nat} {c x : Nat} (h : Rch E ps c x) (he : ∀ a b, E a b → E' a b) (hp : ∀ b ∈ ps, b ∈ ps') : Rch E' ps' c x := by
  induction h with
  | base => exact .base
  | step _ e p ih => exact .step ih (he _ _ e) (hp _ p)
/-- a closed list that holds c holds what is reached -/
theorem Rch.mem {E : Nat → Nat → Prop} {ps : List Nat} {c x : Nat} {fd : List Nat} (h : Rch E ps c x) (h0 : c ∈ fd) (hc : ∀ a b, a ∈ fd → E a b → b ∈ ps → b ∈ fd) : x ∈ fd := by
  induction h with
  | base => exact h0
  | step _ e p ih => exact hc _ _ ih e p
end KL
end
/-! ## P7 -/
section
open PySem PySem.Spec PyProof.Rows L2
namespace K7
abbrev N_spread : List Str := ["nearby", "cell", "passing", "found", "done", "here", "b"]
abbrev s_spread : Stmt := topS 17
theorem sc_spread : FnScope ["nearby", "cell", "passing", "found", "done", "here", "b"] ["nearby", "cell", "passing"] (defScope s_spread) := ⟨rfl, rfl, rfl, by decide +kernel, rfl, by decide +kernel, by decide +kernel⟩
theorem flat_ints : ∀ l : List Nat, (ints_ l).all flatV = true
  | [] => rfl
  | _ :: l => flat_ints l
theorem inV_ints (c : Nat) : ∀ l : List Nat, inV (.int (c : Nat)) (ints_ l) = decide (c ∈ l)
  | [] => rfl
  | y :: l => by
    show (eqV (.int (y : Nat)) (.int (c : Nat)) || inV (.int (c : Nat)) (ints_ l)) = _
    rw [inV_ints c l]
    have e : eqV (.int (y : Nat)) (.int (c : Nat)) = decide (c = y) := by
      show decide ((y : Int) = (c : Int)) = _
      exact decide_eq_decide.mpr (by omega)
    rw [e, ← Bool.decide_or]
    exact decide_eq_decide.mpr List.mem_cons.symm
section
variable {P : Program} {w : World} {K : PySem.W.Frag} {mg : Str → Option Value} {base : Heap}
def SqOf (H : Hp) (a : Addr) (xs : List V) : Prop := H a = some (.tup xs) ∨ H a = some (.lst xs)
theorem SqOf.same {H H' : Hp} {a : Addr} {xs : List V} (h : SqOf H a xs) (e : Same H H') : SqOf H' a xs := h.imp (e _ _) (e _ _)
theorem SqOf.sq {H : Hp} {a : Addr} {xs : List V} (h : SqOf H a xs) : SqL K H a xs ∨ SqT K H a xs := h.elim (fun z => .inr (.inl (.inl z))) fun z => .inl (.inl (.inl z))
def nbE (Nb : List (List Nat)) (a b : Nat) : Prop := ∃ l, Nb[a]? = some l ∧ b ∈ l
def SpInv (H : Hp) (nb pa F0 : Addr) (Nb : List (List Nat)) (ps : List Nat) (c m : Nat) (σ' : L2.St) (H' : Hp) : Prop := ∃ (fd : List Nat) (d : Nat) (y5 y6 : Option V), σ' = [some (.ref nb), some (.int (c : Nat)), some (.ref pa), some (.ref F0), some (.int (d : Nat)), y5, y6] ∧ But F0 H H' ∧ H' F0 = some (.lst (ints_ fd)) ∧ fd.Nodup ∧ c ∈ fd ∧ (∀ x ∈ fd, x < Nb.length) ∧ d ≤ fd.length ∧
      (∀ i a, i < d → fd[i]? = some a → ∀ l, Nb[a]? = some l → ∀ b ∈ l, b ∈ ps → b ∈ fd) ∧ m + d = Nb.length ∧ ∀ x ∈ fd, KL.Rch (nbE Nb) ps c x
/-- what spread finds: the cell, and all that is near to what is found -/
structure Found (Nb : List (List Nat)) (ps : List Nat) (c : Nat) (fd : List Nat) : Prop where
  nd : fd.Nodup
  me : c ∈ fd
  lt : ∀ x ∈ fd, x < Nb.length
  cl : ∀ a ∈ fd, ∀ l, Nb[a]? = some l → ∀ b ∈ l, b ∈ ps → b ∈ fd
  so : ∀ x ∈ fd, KL.Rch (nbE Nb) ps c x
def spSpread : Sp := fun vs H Q _ => ∃ (nb : Addr) (ts : List Addr) (Nb : List (List Nat)) (c : Nat) (pa : Addr) (ps : List Nat), vs = [.ref nb, .int c, .ref pa] ∧ H nb = some (.tup (ts.map V.ref)) ∧ TAt H ts Nb ∧ SqOf H pa (ints_ ps) ∧
  Nb.length ≤ 5 ∧ c < Nb.length ∧ (∀ l ∈ Nb, ∀ x ∈ l, x < Nb.length) ∧ ∀ H' q fd, Same H H' → H q = none → H' q = some (.lst (ints_ fd)) → Found Nb ps c fd → Q (.ref q) H'
theorem ok_spread {f : Addr} {fd : FuncData} (F : Fun K "spread" "spread" s_spread f fd) (m_len : mg "len" = none) : FnOk P w K mg base CX0 1 f fd ["nearby", "cell", "passing"] spSpread := by
  refine F.ok sc_spread (fun vs H Q E h => ?_) (fun cdv A outer s H vs Q E hr h => ?_)
  · obtain ⟨nb, ts, Nb, c, pa, ps, rfl, _⟩ := h
    rfl
  · obtain ⟨nb, ts, Nb, c, pa, ps, rfl, hnb, tN, hpa, h5, hc, hlt, q⟩ := h
    refine ⟨_, (pss_cons (ps_set (i := 3) sc_spread.nd rfl (by first | exact Or.inl rfl | exact Or.inr rfl) (pe_lst (pa_cons (pv 1) pa_nil)))
 (pss_cons (ps_set (i := 4) sc_spread.nd rfl (by first | exact Or.inl rfl | exact Or.inr rfl) pe_int)
 (pss_cons (ps_while PassesOwn.never (pt_cmpR op_lt (pv 4) (pe_callB call_len_seq (by rfl) m_len boot_len (pa_cons (pv 3) pa_nil)) (nomark _))
  (pss_cons (ps_set (i := 5) sc_spread.nd rfl (by first | exact Or.inl rfl | exact Or.inr rfl) (pe_ix ix_list (pv 3) (pv 4) (fun _ _ => rfl)))
 (pss_cons (ps_for PassesOwn.never rfl (pi_tup (pe_ix ix_tup (pv 0) (pv 5) (fun _ _ => rfl))) (pg_name (i := 6) sc_spread.nd rfl (by first | exact Or.inl rfl | exact Or.inr rfl))
  (pss_one (ps_if (pw_and (pt_cmpR op_in_seq (pv 6) (pv 2) (by with_unfolding_all rfl)) (pw_and1 (pt_cmpR op_notIn_seq (pv 6) (pv 3) (by with_unfolding_all rfl)))).pt
  (pss_one (ps_expr (pe_bm PySem.F.plainAttrs_list PySem.F.slot_list_append PySem.F.type_list_append mt_append (pv 3) (pa_cons (pv 6) pa_nil))))
  pss_nil)))
 (pss_one (ps_aug (i := 4) sc_spread.nd rfl (by first | exact Or.inl rfl | exact Or.inr rfl) pe_int ip_add)))))
 (pss_one (ps_ret (pv 3)))))), ?_⟩
    refine ⟨_, rfl, by show 1 ≤ sizeLine; decide, fun F0 nF => ?_⟩
    refine ⟨SpInv H nb pa F0 Nb ps c, ⟨Nb.length, [c], 0, none, none, rfl, ?_, upd_same, ?_, List.mem_singleton.mpr rfl, ?_, Nat.zero_le _, ?_, rfl, fun x hx => by rw [List.mem_singleton.mp hx]; exact .base⟩, fun m σ' H' wv => ?_⟩
    · exact fun b o hb e => by rw [upd_ne hb]; exact e
    · exact List.nodup_cons.mpr ⟨List.not_mem_nil, List.nodup_nil⟩
    · intro x hx
      rw [List.mem_singleton] at hx
      rw [hx]
      exact hc
    · exact fun i a hi => absurd hi (Nat.not_lt_zero _)
    · obtain ⟨fd, d, y5, y6, rfl, bt, hF, nd, hcm, lt, hd, cl, hm, so⟩ := wv
      have h1 : fd.length ≤ Nb.length := by
        have z := K7E.nodup_le fd (List.range Nb.length) nd fun x hx => List.mem_range.mpr (lt x hx)
        rw [List.length_range] at z
        exact z
      refine ⟨_, rfl, _, rfl, F0, _, rfl, .inl (.inl (.inl hF)), _, _, rfl, rfl, _, rfl, ite2 (fun c1 => ?_) (fun c1 => ?_)⟩
      · have c1' : d < fd.length := by
          have z : ((d : Nat) : Int) < (((ints_ fd).length : Nat) : Int) := of_decide_eq_true c1
          rw [show (ints_ fd).length = fd.length from List.length_map ..] at z
          omega
        refine ⟨SpInv H nb pa F0 Nb ps c (m - 1), fun σ2 H2 z => ⟨m - 1, by omega, z⟩, ?_⟩
        obtain ⟨a, ea⟩ : ∃ a, fd[d]? = some a := ⟨_, List.getElem?_eq_getElem c1'⟩
        have ma := List.mem_of_getElem? ea
        have la := lt a ma
        obtain ⟨l, el⟩ : ∃ l, Nb[a]? = some l := ⟨_, List.getElem?_eq_getElem la⟩
        have ltsl : a < ts.length := by rw [tN.len]; exact la
        obtain ⟨t, et⟩ : ∃ t, ts[a]? = some t := ⟨_, List.getElem?_eq_getElem ltsl⟩
        obtain ⟨l', el', ht⟩ := tN.get et
        have : l' = l := by rw [el] at el'; injection el' with e; exact e.symm
        subst this
        have sm : Same H H' := fun b o hb => bt b o (ne_of_none hb nF) hb
        refine ⟨_, rfl, _, rfl, F0, _, _, .int (a : Nat), rfl, rfl, .inl (.inl hF), atI_nat (by unfold ints_; rw [List.getElem?_map, ea]; rfl), ?_⟩
        refine ⟨_, rfl, _, rfl, nb, _, _, .ref t, rfl, rfl, .inl (.inl (sm _ _ hnb)), atI_nat (by rw [List.getElem?_map, et]; rfl), t, rfl, ⟨_, .inl (.inl (sm _ _ ht))⟩, for_tup (xs := ints_ l') (fun j σ2 H2 => ∃ (fd2 r : List Nat) (y6 : Option V), σ2 = [some (.ref nb), some (.int (c : Nat)), some (.ref pa), some (.ref F0), some (.int (d : Nat)), some (.int (a : Nat)), y6] ∧ But F0 H H2 ∧ H2 F0 = some (.lst (ints_ fd2)) ∧ fd2.Nodup ∧ fd2 = fd ++ r ∧ (∀ x ∈ fd2, x < Nb.length) ∧ (∀ b ∈ l'.take j, b ∈ ps → b ∈ fd2) ∧ ∀ x ∈ fd2, KL.Rch (nbE Nb) ps c x)
          ⟨fd, [], y6, rfl, bt, hF, nd, (List.append_nil _).symm, lt, fun b hb => (by cases hb), so⟩ (fun j σ2 H2 _ pv => ?_) (fun j x σ2 H2 hx pv => ?_) (fun σ2 H2 pv => ?_)⟩
        · obtain ⟨fd2, r, y6, _, bt2, _⟩ := pv
          exact .inl (.inl (bt2 t _ (ne_of_none ht nF) ht))
        · obtain ⟨fd2, r, y6, rfl, bt2, hF2, nd2, rfl, lt2, cl2, so2⟩ := pv
          have sm2 : Same H H2 := fun b o hb => bt2 b o (ne_of_none hb nF) hb
          unfold ints_ at hx
          rw [List.getElem?_map] at hx
          obtain ⟨b, eb, rfl⟩ := Option.map_eq_some_iff.mp hx
          have hbl := hlt l' (List.mem_of_getElem? el) b (List.mem_of_getElem? eb)
          have tk : l'.take (j + 1) = l'.take j ++ [b] := by rw [List.take_add_one, eb]; rfl
          refine ⟨_, rfl, _, rfl, pa, _, rfl, (hpa.same sm2).sq, rfl, flat_ints ps, _, rfl, ite2 (fun q1 => ?_) (fun q1 => ?_)⟩
          · have q1' : b ∈ ps := of_decide_eq_true ((inV_ints b ps).symm.trans q1)
            refine ⟨_, rfl, _, rfl, F0, _, rfl, .inl (.inl (.inl hF2)), rfl, flat_ints _, _, rfl, ite2 (fun q2 => ?_) (fun q2 => ?_)⟩
            · have q2' : b ∉ fd ++ r := by
                intro hb2
                have z : (!inV (.int (b : Nat)) (ints_ (fd ++ r))) = true := q2
                rw [inV_ints, decide_eq_true hb2] at z
                cases z
              have hl2 : (fd ++ r).length ≤ 5 := by
                have z := K7E.nodup_le (fd ++ r) (List.range Nb.length) nd2 fun x hx => List.mem_range.mpr (lt2 x hx)
                rw [List.length_range] at z
                omega
              refine ⟨_, rfl, .inl ⟨rfl, _, .inl (.inl hF2)⟩, _, rfl, F0, _, _, rfl, rfl, hF2, by unfold ints_; rw [List.length_map]; exact small1000 (by omega), ?_⟩
              refine ⟨(fd ++ r) ++ [b], r ++ [b], some (.int (b : Nat)), rfl, fun b' o hb' e => by rw [upd_ne hb']; exact bt2 b' o hb' e, by rw [upd_same]; exact congrArg (fun z => some (HO.lst z)) (List.map_append (f := fun c : Nat => V.int (c : Nat)) (l₁ := fd ++ r) (l₂ := [b])).symm, ?_, List.append_assoc .., fun x hx => ?_, fun x hx hp => ?_, fun x hx => ?_⟩
              · exact List.nodup_append.mpr ⟨nd2, List.nodup_cons.mpr ⟨List.not_mem_nil, List.nodup_nil⟩, fun a' ha' b' hb' e => by rw [List.mem_singleton] at hb'; exact q2' (by rw [← hb', ← e]; exact ha')⟩
              · rcases List.mem_append.mp hx with hx | hx
                · exact lt2 x hx
                · rw [List.mem_singleton] at hx
                  rw [hx]
                  exact hbl
              · rw [tk] at hx
                rcases List.mem_append.mp hx with hx | hx
                · exact List.mem_append_left _ (cl2 x hx hp)
                · exact List.mem_append_right _ hx
              · rcases List.mem_append.mp hx with hx | hx
                · exact so2 x hx
                · rw [List.mem_singleton.mp hx]
                  exact .step (so a ma) ⟨_, el, List.mem_of_getElem? eb⟩ q1'
            · have q2' : b ∈ fd ++ r := by
                refine Classical.byContradiction fun hn => q2 ?_
                show (!inV (.int (b : Nat)) (ints_ (fd ++ r))) = true
                rw [inV_ints, decide_eq_false hn]
                rfl
              refine ⟨fd ++ r, r, some (.int (b : Nat)), rfl, bt2, hF2, nd2, rfl, lt2, fun x hx hp => ?_, so2⟩
              rw [tk] at hx
              rcases List.mem_append.mp hx with hx | hx
              · exact cl2 x hx hp
              · rw [List.mem_singleton] at hx
                rw [hx]
                exact q2'
          · have q1' : b ∉ ps := fun hb => q1 ((inV_ints b ps).trans (decide_eq_true hb))
            refine iteF ?_
            refine ⟨fd ++ r, r, some (.int (b : Nat)), rfl, bt2, hF2, nd2, rfl, lt2, fun x hx hp => ?_, so2⟩
            rw [tk] at hx
            rcases List.mem_append.mp hx with hx | hx
            · exact cl2 x hx hp
            · rw [List.mem_singleton] at hx
              rw [hx] at hp
              exact absurd hp q1'
        · obtain ⟨fd2, r, y6, rfl, bt2, hF2, nd2, rfl, lt2, cl2, so2⟩ := pv
          rw [show (ints_ l').length = l'.length from List.length_map .., List.take_length] at cl2
          refine ⟨_, rfl, _, _, rfl, rfl, ?_⟩
          refine ⟨fd ++ r, d + 1, some (.int (a : Nat)), y6, rfl, bt2, hF2, nd2, List.mem_append_left _ hcm, lt2, by rw [List.length_append]; omega, fun i a' hi ea' l2 el2 b hb hp => ?_, by omega, so2⟩
          rw [List.getElem?_append_left (by omega)] at ea'
          rcases Nat.lt_or_ge i d with hid | hid
          · exact List.mem_append_left _ (cl i a' hid ea' l2 el2 b hb hp)
          · have : i = d := by omega
            subst this
            rw [ea] at ea'
            injection ea' with e3
            subst e3
            rw [el] at el2
            injection el2 with e4
            subst e4
            exact cl2 b hb hp
      · have c1' : ¬ d < fd.length := fun z => c1 (decide_eq_true (by rw [show (ints_ fd).length = fd.length from List.length_map ..]; omega))
        refine ⟨_, rfl, q H' F0 fd (fun b o hb => bt b o (ne_of_none hb nF) hb) nF hF ⟨nd, hcm, lt, fun a ha l hl b hb hp => ?_, so⟩⟩
        obtain ⟨i, hi, e⟩ := List.getElem_of_mem ha
        exact cl i a (by omega) (by rw [List.getElem?_eq_getElem hi, e]) l hl b hb hp
end
end K7
end
/-! ## P8 -/
section
open PySem PySem.Spec PyProof.Rows L2
namespace K7
abbrev N_nearby_cells : List Str := ["cells", "couples", "b", "a"]
abbrev s_nearby_cells : Stmt := topS 18
theorem sc_nearby_cells : FnScope ["cells", "couples", "b", "a"] ["cells", "couples"] (defScope s_nearby_cells) := ⟨rfl, rfl, rfl, by decide +kernel, rfl, by decide +kernel, by decide +kernel⟩
abbrev scA : Scope := { kind := ScopeKind.function, names := [(".0", NameKind.local), ("a", NameKind.cell), ("tuple", NameKind.globalImplicit), ("range", NameKind.globalImplicit), ("cells", NameKind.cell), ("couples", NameKind.cell)], isGenerator := false, isCoroutine := false }
def rTup_ (K : PySem.W.Frag) : List V → Hp → VK → Prop := fun xs H Q => ∃ p ys, xs = [V.ref p] ∧ ((SqL K H p ys ∧ ∀ l, H l = none → Q (.ref l) (upd H l (.tup ys))) ∨ SqT K H p ys ∧ Q (.ref p) H)
section
variable {P : Program} {w : World} {K : PySem.W.Frag} {mg : Str → Option Value} {base : Heap}
/-- the neighbours of each cell -/
def nearV (n : Nat) (es : List (Nat × Nat)) : List (List Nat) := (List.range n).map fun a => (List.range n).filter fun b => decide ((a, b) ∈ es) || decide ((b, a) ∈ es)
theorem ints_snoc (l : List Nat) (j : Nat) : ints_ (l ++ [j]) = ints_ l ++ [.int (j : Nat)] := by
  unfold ints_
  rw [List.map_append]
  rfl
theorem range_filter (p : Nat → Bool) (j : Nat) : (List.range (j + 1)).filter p = (List.range j).filter p ++ (if p j = true then [j] else []) := by
  rw [List.range_succ, List.filter_append, List.filter_cons]
  rfl
theorem dp_two {H : Hp} (k j : Nat) : DpAll K H [.int (0 + (k : Nat)), .int (0 + (j : Nat))] [.int (k : Nat), .int (j : Nat)] := by
  rw [Int.zero_add, Int.zero_add]
  exact .cons (.int _) (.cons (.int _) .nil)
def spNear : Sp := fun vs H Q _ => ∃ (n : Nat) (ca : Addr) (ts : List Addr) (es : List (Nat × Nat)), vs = [.int n, .ref ca] ∧ n ≤ 5 ∧ H ca = some (.lst (ts.map V.ref)) ∧ TAt H ts (pairs es) ∧ es.length ≤ 32 ∧
  ∀ H' q us, Same H H' → H q = none → H' q = some (.tup (us.map V.ref)) → TAt H' us (nearV n es) → Q (.ref q) H'
theorem ok_near {f : Addr} {fd : FuncData} (F : Fun K "nearby_cells" "nearby_cells" s_nearby_cells f fd) (m_range : mg "range" = none) (m_tuple : mg "tuple" = none) : FnOk P w K mg base CX0 1 f fd ["cells", "couples"] spNear := by
  refine F.ok sc_nearby_cells (fun vs H Q E h => ?_) (fun cdv A outer s H vs Q E hr h => ?_)
  · obtain ⟨n, ca, ts, es, rfl, _⟩ := h
    rfl
  · obtain ⟨n, ca, ts, es, rfl, hn, hca, tE, h32, q⟩ := h
    refine ⟨_, (pss_one (ps_ret (pe_callTy call_tuple_of (by rfl) m_tuple boot_tuple (pa_cons (pe_lc (own := [("a", 3)]) (g := gName 3) (tt := tYes) rfl sc_nearby_cells.nd (pi_range1 rfl m_range (pa_cons (pv 0) pa_nil)) (blkOk_by (own := [("a", 3)]) (N := N_nearby_cells) (sc := defScope s_nearby_cells) (by decide +kernel)) (fun _ _ _ _ _ => (pg_name (i := 3) sc_nearby_cells.nd rfl (by first | exact Or.inl rfl | exact Or.inr rfl))) (fun _ _ _ _ _ => pts_nil) (fun _ _ _ _ _ => (pe_callTy (show CallR _ (.type "tuple") (rTup_ K) from call_tuple_of) (by rfl) m_tuple boot_tuple (pa_cons (pe_lc (own := [("b", 2)]) (g := gName 2) rfl sc_nearby_cells.nd (pi_range1 rfl m_range (pa_cons (pv 0) pa_nil)) (blkOk_by (own := [("b", 2)]) (N := N_nearby_cells) (sc := scA) (by decide +kernel)) (fun _ _ _ _ _ => (pg_name (i := 2) sc_nearby_cells.nd rfl (by first | exact Or.inl rfl | exact Or.inr rfl))) (fun _ _ _ _ _ => (pts_one (PW.pt (pw_or (pt_cmpR (show OpR _ _ (rInD K) from op_inD (K7L.hu65 hr)) (pe_tup (pa_cons (pv 3) (pa_cons (pv 2) pa_nil))) (pv 1) (by with_unfolding_all rfl)) (pw_or1 (pt_cmpR (show OpR _ _ (rInD K) from op_inD (K7L.hu65 hr)) (pe_tup (pa_cons (pv 2) (pa_cons (pv 3) pa_nil))) (pv 1) (by with_unfolding_all rfl))))))) (fun _ _ _ _ _ => (pv 2))) pa_nil)))) pa_nil)))), ?_⟩
    refine ⟨_, rfl, _, rfl, by omega, by omega, fun D hD => lc_range (lo := 0) (n := n) (fun i H1 => Same H H1 ∧ ∃ us : List Addr, H1 D = some (.lst (us.map V.ref)) ∧ TAt H1 us ((nearV n es).take i) ∧ us.length ≤ i) ⟨same_new (Same.refl H) hD, [], upd_same, .nil, Nat.le_refl _⟩ (fun i H1 hi pv => ?_) (fun H1 pv => ?_)⟩
    · obtain ⟨e1, us, hD1, tU, lu⟩ := pv
      refine ⟨rfl, _, rfl, _, rfl, by omega, by omega, fun D2 hD2 => lc_range (lo := 0) (n := n) (fun j H2 => Same H1 H2 ∧ H2 D2 = some (.lst (ints_ ((List.range j).filter fun b => decide ((i, b) ∈ es) || decide ((b, i) ∈ es))))) ⟨same_new (Same.refl H1) hD2, upd_same⟩ (fun j H2 hj pv => ?_) (fun H2 pv => ?_)⟩
      · obtain ⟨e2, h2⟩ := pv
        have eA := e1.trans e2
        refine ⟨rfl, _, rfl, _, rfl, by show 2 ≤ sizeLine; decide, fun t nt => ?_⟩
        have s3 := same_new (o := .tup [.int (0 + (i : Nat)), .int (0 + (j : Nat))]) (Same.refl H2) nt
        refine ⟨_, rfl, intD [i, j], _, .tup (xs := [.int (0 + (i : Nat)), .int (0 + (j : Nat))]) (.inl (.inl upd_same)) (dp_two i j), .lst (.inl (.inl (s3 _ _ (eA _ _ hca)))) (dp_rows (tE.same (eA.trans s3))), shaped_ints _, shaped_rows _, ?_⟩
        rw [any_rows]
        have e2b := e2
        refine ⟨_, rfl, ite2 (fun q1 => ?_) (fun q1 => ?_)⟩
        · have g : ∀ {b : Addr} {o : HO}, H2 b = some o → upd H2 t (.tup [.int (0 + (i : Nat)), .int (0 + (j : Nat))]) b = some o := fun hb => s3 _ _ hb
          refine ⟨_, rfl, _, g h2, by unfold ints_; rw [List.length_map]; exact small1000 (Nat.le_trans (List.length_filter_le _ _) (by rw [List.length_range]; omega)), fun b o hb => ?_, ?_⟩
          · rw [upd_ne (ne_of_none hb hD2)]
            exact g (e2 _ _ hb)
          · rw [upd_same, range_filter, if_pos (by rw [q1]; rfl), Int.zero_add]
            rw [ints_snoc]
        · refine ⟨_, rfl, _, rfl, by show 2 ≤ sizeLine; decide, fun t2 nt2 => ?_⟩
          have s4 := same_new (o := .tup [.int (0 + (j : Nat)), .int (0 + (i : Nat))]) s3 nt2
          refine ⟨_, rfl, intD [j, i], _, .tup (xs := [.int (0 + (j : Nat)), .int (0 + (i : Nat))]) (.inl (.inl upd_same)) (dp_two j i), .lst (.inl (.inl (s4 _ _ (eA _ _ hca)))) (dp_rows (tE.same (eA.trans s4))), shaped_ints _, shaped_rows _, ?_⟩
          rw [any_rows]
          refine ⟨_, rfl, ite2 (fun q2 => ?_) (fun q2 => ?_)⟩
          · refine ⟨_, rfl, _, s4 _ _ h2, by unfold ints_; rw [List.length_map]; exact small1000 (Nat.le_trans (List.length_filter_le _ _) (by rw [List.length_range]; omega)), fun b o hb => ?_, ?_⟩
            · rw [upd_ne (ne_of_none hb hD2)]
              exact s4 _ _ (e2 _ _ hb)
            · rw [upd_same, range_filter, if_pos (by rw [q2, Bool.or_true]), Int.zero_add]
              rw [ints_snoc]
          · refine ⟨e2.trans s4, ?_⟩
            rw [range_filter, if_neg (by rw [Bool.eq_false_iff.mpr q1, Bool.eq_false_iff.mpr q2]; decide), List.append_nil]
            exact s4 _ _ h2
      · obtain ⟨e2, h2⟩ := pv
        have eA := e1.trans e2
        refine ⟨D2, _, rfl, .inl ⟨.inl (.inl h2), fun l nl => ?_⟩⟩
        have s4 := same_new (o := .tup (ints_ ((List.range n).filter fun b => decide ((i, b) ∈ es) || decide ((b, i) ∈ es)))) (Same.refl H2) nl
        have hD4 := s4 _ _ (e2 _ _ hD1)
        have tk : (nearV n es).take (i + 1) = (nearV n es).take i ++ [(List.range n).filter fun b => decide ((i, b) ∈ es) || decide ((b, i) ∈ es)] := by
          rw [List.take_add_one]
          congr 1
          unfold nearV
          rw [List.getElem?_map, List.getElem?_range hi]
          rfl
        have up : ∀ b xs, upd H2 l (.tup (ints_ ((List.range n).filter fun b => decide ((i, b) ∈ es) || decide ((b, i) ∈ es)))) b = some (.tup xs) → upd (upd H2 l (.tup (ints_ ((List.range n).filter fun b => decide ((i, b) ∈ es) || decide ((b, i) ∈ es))))) D (.lst (us.map V.ref ++ [.ref l])) b = some (.tup xs) := fun b xs hb => by
          rw [upd_ne (fun z => by rw [z, hD4] at hb; cases hb)]
          exact hb
        refine ⟨_, hD4, by rw [List.length_map]; exact small1000 (by omega), fun b o hb => ?_, us ++ [l], by rw [upd_same, List.map_append]; rfl, ?_, by rw [List.length_append, List.length_singleton]; omega⟩
        · rw [upd_ne (ne_of_none hb hD)]
          exact s4 _ _ (eA _ _ hb)
        · rw [tk]
          exact ((tU.same (e2.trans s4)).mono up).append (.cons (up _ _ upd_same) .nil)
    · obtain ⟨e1, us, hD1, tU, lu⟩ := pv
      rw [List.take_of_length_le (by unfold nearV; rw [List.length_map, List.length_range]; exact Nat.le_refl _)] at tU
      refine ⟨D, _, rfl, .inl ⟨.inl (.inl hD1), fun l nl => ?_⟩⟩
      have s3 := same_new (o := .tup (us.map V.ref)) e1 nl
      refine q _ l us s3 (e1.free nl) upd_same (tU.same (same_new (Same.refl H1) nl))
end
end K7
end
/-! ## P9 -/
section
open PySem PySem.Spec PyProof.Rows L2
namespace K7
abbrev N_hang_together : List Str := ["cells", "couples"]
abbrev s_hang_together : Stmt := topS 19
theorem sc_hang_together : FnScope ["cells", "couples"] ["cells", "couples"] (defScope s_hang_together) := ⟨rfl, rfl, rfl, by decide +kernel, rfl, by decide +kernel, by decide +kernel⟩
section
variable {P : Program} {w : World} {K : PySem.W.Frag} {mg : Str → Option Value} {base : Heap}
def spHang : Sp := fun vs H Q _ => ∃ (n : Nat) (ca : Addr) (ts : List Addr) (es : List (Nat × Nat)), vs = [.int n, .ref ca] ∧ 0 < n ∧ n ≤ 5 ∧ H ca = some (.lst (ts.map V.ref)) ∧ TAt H ts (pairs es) ∧ es.length ≤ 32 ∧
  (∀ e ∈ es, e.1 < n ∧ e.2 < n) ∧ KL.Conn n es ∧ ∀ H', Same H H' → Q (.bl true) H'
theorem ok_hang {f fN fS : Addr} {fd fdN fdS : FuncData} (F : Fun K "hang_together" "hang_together" s_hang_together f fd)
    (Gnc : FnOk P w K mg base CX0 1 fN fdN ["cells", "couples"] spNear) (gnc : mg "nearby_cells" = some (.ref fN)) (knc : PySem.W.keepIn K (.ref fN) = true) (bnc : Binds K fdN ["cells", "couples"] [])
    (Gsp : FnOk P w K mg base CX0 1 fS fdS ["nearby", "cell", "passing"] spSpread) (gsp : mg "spread" = some (.ref fS)) (ksp : PySem.W.keepIn K (.ref fS) = true) (bsp : Binds K fdS ["nearby", "cell", "passing"] [])
    (m_len : mg "len" = none) (m_list : mg "list" = none) (m_range : mg "range" = none) : FnOk P w K mg base CX0 2 f fd ["cells", "couples"] spHang := by
  refine F.ok sc_hang_together (fun vs H Q E h => ?_) (fun cdv A outer s H vs Q E hr h => ?_)
  · obtain ⟨n, ca, ts, es, rfl, _⟩ := h
    rfl
  · obtain ⟨n, ca, ts, es, rfl, n0, hn, hca, tE, h32, elt, cn, q⟩ := h
    refine ⟨_, (pss_one (ps_ret (pe_cmpR op_eq (pe_callB call_len_seq (by rfl) m_len boot_len (pa_cons (pe_call Gsp (hr.mono (by decide)) (by rfl) gsp ksp bsp .nil pass0 (pa_cons (pe_call Gnc (hr.mono (by decide)) (by rfl) gnc knc bnc .nil pass0 (pa_cons (pv 0) (pa_cons (pv 1) pa_nil))) (pa_cons pe_int (pa_cons (pe_callTy (K7E.cr_list_rng rfl) (by rfl) m_list boot_list (pa_cons (pe_callTy K7E.cr_range1 (by rfl) m_range boot_range (pa_cons (pv 0) pa_nil)) pa_nil)) pa_nil)))) pa_nil)) (pv 0) (nomark _)))), ?_⟩
    refine ⟨_, rfl, _, rfl, n, ca, ts, es, rfl, hn, hca, tE, h32, fun H1 nb us e1 nf1 hnb tU => ?_⟩
    refine ⟨_, rfl, n, rfl, fun p1 np1 => ?_⟩
    refine ⟨p1, n, rfl, upd_same, by omega, fun p2 np2 => ?_⟩
    have s1 := same_new (o := .rng 0 n) (Same.refl H1) np1
    have s2 := same_new (o := .lst (K7E.upTo n)) s1 np2
    have hps : upd (upd H1 p1 (.rng 0 n)) p2 (.lst (K7E.upTo n)) p2 = some (.lst (ints_ (List.range n))) := upd_same
    generalize upd (upd H1 p1 (.rng 0 n)) p2 (.lst (K7E.upTo n)) = H2 at s2 hps ⊢
    have ln : (nearV n es).length = n := by unfold nearV; rw [List.length_map, List.length_range]
    have hget : ∀ a, a < n → (nearV n es)[a]? = some ((List.range n).filter fun b => decide ((a, b) ∈ es) || decide ((b, a) ∈ es)) := fun a ha => by
      unfold nearV
      rw [List.getElem?_map, List.getElem?_range ha]
      rfl
    refine ⟨nb, us, nearV n es, 0, p2, List.range n, rfl, s2 _ _ hnb, tU.same s2, .inr hps, by rw [ln]; exact hn, by rw [ln]; exact n0, fun l hl x hx => ?_, fun H3 qa fd e3 nq hq fo => ?_⟩
    · rw [ln]
      unfold nearV at hl
      obtain ⟨a, _, rfl⟩ := List.mem_map.mp hl
      exact List.mem_range.mp (List.mem_filter.mp hx).1
    · have hlt : ∀ x ∈ fd, x < n := fun x hx => by have z := fo.lt x hx; rw [ln] at z; exact z
      have all := KL.conn_closed cn fo.me fun a b hab ha => by
        have hb : b < n := by
          rcases hab with z | z
          · exact (elt _ z).2
          · exact (elt _ z).1
        refine fo.cl a ha _ (hget a (hlt a ha)) b (List.mem_filter.mpr ⟨List.mem_range.mpr hb, ?_⟩) (List.mem_range.mpr hb)
        rcases hab with z | z
        · rw [decide_eq_true z]; rfl
        · rw [decide_eq_true z, Bool.or_true]
      have len := KL.all_len fo.nd hlt all
      refine ⟨qa, _, rfl, .inl (.inl (.inl hq)), _, rfl, rfl, ?_⟩
      have lq : (ints_ fd).length = n := by unfold ints_; rw [List.length_map]; exact len
      rw [lq, decide_eq_true rfl]
      exact q H3 (e1.trans (s2.trans e3))
end
end K7
end
/-! ## ES -/
section
/-! A set comprehension of tuples of ints, and how many there are in such a set. -/
namespace K7S
open PySem PySem.Spec PyProof.Rows L2
abbrev eS (w : World) : Obj := { cls := .type "set", dict := none, data := .set #[] 0 (.fresh 0 0 (!w.params.followText "set-order")) }
abbrev eD : Obj := { cls := .type "dict", data := .dict #[] }
section
variable {X : Cx}
/-- one more tuple -/
theorem addT_ok {pins : List (Addr × Obj)} {τ : L2.St} {H : Hp} {s : Shared} {E : Value → Shared → Prop} {D t : Addr} {L : List (Addr × List Int)} {k : List Int} {Q : Value → Shared → Prop} (I : Inv X pins τ H s) (hD : H D = some (SetTO X.prog X.w D L)) (ht : ∀ p ∈ L, SqT X.K H p.1 (p.2.map V.int)) (hy : SqT X.K H t (k.map V.int)) (hf : L.length + 1 < 64) (hu : X.A.units + 1 < cLine)
    (h : ∀ s' L', (k ∈ L.map (·.2) → L' = L) → (k ∉ L.map (·.2) → L'.Perm ((t, k) :: L)) → Inv X pins τ (upd H D (SetTO X.prog X.w D L')) s' → Q .none s') : wpAny (model X.prog X.w) X.A (call (.builtin "set.add") [.ref D, .ref t]) Q E s := by
  obtain ⟨es, ep, tb, R⟩ := SetT0.full (I.hok D _ hD).1 fun p hp => I.isT (ht p hp)
  obtain ⟨o, ho, hex, hd⟩ := id R.ob
  have hT : s.TypeIs (.ref D) "set" := ⟨o, ho, hex.1⟩
  refine wpAny_call_entry F.slot_set_add hT F.entry_set_add ?_ (F.args_set_add_2 _ _)
  unfold Builtin.«set.add» Builtin.Frozenset.oneOther
  simp only [List.isEmpty_nil, bind_assoc]
  unfold Builtin.Frozenset.addrOf setAdd
  refine wpAny_bind (wpAny_pure ?_)
  try dsimp only
  refine wpAny_bind (wpAny_pure ?_)
  try dsimp only
  refine wpAny_bind (wpAny_holding (wpAny_bind (wpAny_pyHash_tuple (show X.A.units + 1 < cLine from hu) (I.isT hy) ?_)))
  refine add_at (s := { s with toks := s.toks + (k.length + 1) }) R (I.isT hy) (show X.A.units + 1 < cLine from hu) hf fun b h' L' es' ep' tb' sb R' c1 c2 => ?_
  show wpAny _ _ (ret Value.none) _ _ _
  obtain ⟨o', ho', _⟩ := id R'.ob
  exact wpAny_pure ⟨_, rfl, h _ L' c1 c2 (I.write (e := D) (t' := s.toks + (k.length + 1)) (by rw [hD]; trivial) (.inl rfl) (fun b u hb hu => (sb.2 b hb).trans hu) ⟨o', ho'⟩ (setTO_new R'.t0))⟩
/-- how many -/
theorem call_lenT : CallR X (.builtin "len") (fun xs H Q => ∃ a L, xs = [V.ref a] ∧ H a = some (SetTO X.prog X.w a L) ∧ (∀ p ∈ L, SqT X.K H p.1 (p.2.map V.int)) ∧ Q (.int (L.length : Nat)) H) := by
  intro pins s τ H xs us Q I r h
  obtain ⟨a, L, rfl, ha, ht, q⟩ := h
  rw [Vals.ref1 r]
  obtain ⟨es, ep, tb, R⟩ := SetT0.full (I.hok a _ ha).1 fun p hp => I.isT (ht p hp)
  obtain ⟨o, ho, hex, hd⟩ := id R.ob
  have n1 := R.size
  have n2 := R.few
  exact call_len_set ho hex hd R.fits (by omega) ⟨.int (L.length : Nat), H, I.tok _, ⟨_, by rw [n1]⟩, q⟩
/-- {elt for target in iter}, elt a tuple of ints: D the new set -/
def tSt (P : Program) (w : World) (K : PySem.W.Frag) (wi : TI) (g : TG) (te : TE) (vs : List Nat) : TE := fun τ H Q => wi τ H fun J H1 => ∀ D, H1 D = none → ∃ W : Nat → Nat → Hp → Prop, (∃ m, W 0 m (upd H1 D (SetTO P w D []))) ∧ ∀ i m H, W i m H →
  (J.stop i H ∧ Q (.ref D) H) ∨ (J.go i H ∧ ∃ Nx : Hp → Prop, (∀ H', Nx H' → ∃ m', m' < m ∧ W (i + 1) m' H') ∧ ∀ x H', J.yld i H x H' → g x (wipe τ vs) H' fun τ2 H3 => wipe τ2 vs = wipe τ vs ∧
    te τ2 H3 fun y H4 => ∃ (t : Addr) (k : List Int) (L : List (Addr × List Int)), y = .ref t ∧ SqT K H4 t (k.map V.int) ∧ H4 D = some (SetTO P w D L) ∧ (∀ p ∈ L, SqT K H4 p.1 (p.2.map V.int)) ∧ L.length + 1 < 64 ∧
      ∀ L', (k ∈ L.map (·.2) → L' = L) → (k ∉ L.map (·.2) → L'.Perm ((t, k) :: L)) → Nx (upd H4 D (SetTO P w D L')))
theorem fresh0 (P : Program) (w : World) (h : Heap) : SetT0 P w (h.push (eS w)) h.objs.size [] := (setTR_fresh (P := P) (w := w) (h := h.push (eS w)) (a := h.objs.size) (Heap.get?_push_size _ rfl)).t0
/-- as a value -/
theorem pe_st {elt tg iter : Expr} {scope : Scope} {own : List (PySem.Str × Nat)} {pos : Pos} {wi : TI} {g : TG} {te : TE} (hc : X.calm = true) (hu : X.A.units + 1 < cLine) (hN : X.N.Nodup) (hi : PI X tg iter wi) (ok : BlkOk X.N X.env.scope scope own)
    (hg : ∀ (s : Shared) (H : Hp) (C : Addr) (cl : List (PySem.Str × Addr)) (fp : List Addr), PG (X.blk s H scope (compEnvC scope cl C X.env) fp) tg g) (he : ∀ (s : Shared) (H : Hp) (C : Addr) (cl : List (PySem.Str × Addr)) (fp : List Addr), PE (X.blk s H scope (compEnvC scope cl C X.env) fp) elt te)
    (hs : ∀ x, foldedSetIterable iter X.env x = pure x := by intro _; rfl) : PE X (.SetComp elt [⟨tg, iter, [], 0⟩] scope pos) (tSt X.prog X.w X.K wi g te (own.map (·.2))) := by
  refine ⟨fun pins s τ H Q I h => ?_⟩
  rw [PpSet.eval_SetComp]
  have hfree : ∀ z ∈ scope.names, z.2 = .free → ∃ c, X.env.cells.lookup z.1 = some c := fun z hz e => (ok.free z hz e).elim (fun k => I.ok.has _ (.inl k)) fun k => I.ok.has _ (.inr k)
  refine wpAny_comprehension_free (use := none) rfl hs (closure_ok hfree) ok.kind (fun z hz e => by rw [ok.uniq z hz, e]) (thn (hi.run pins s τ H _ I h) fun xv s1 hx => thn hx fun itv s2 z2 => ?_)
  obtain ⟨it, fp, tn, J, H2, rfl, I2, T, st2, f2, q⟩ := z2
  refine PpSet.newSet_ok (newEnv_comp ?_)
  show codeAny _ _ (.compStart (.SetComp elt [⟨tg, iter, [], 0⟩] scope pos) 0 (.ref it) (.ref s2.heap.objs.size) (compEnvC scope (cellsFrom ((s2.heap.push (eS X.w)).objs.size + 1) scope.names (cloFrom X.env.cells scope.names [])) (s2.heap.push (eS X.w)).objs.size X.env)) _ { s2 with heap := pushCells ((s2.heap.push (eS X.w)).push eD) scope.names }
  have nD : H2 s2.heap.objs.size = none := I2.hok.fresh (Nat.le_refl _)
  have IS : Inv X pins τ (upd H2 s2.heap.objs.size (SetTO X.prog X.w s2.heap.objs.size [])) { s2 with heap := s2.heap.push (eS X.w) } := I2.laid (t' := s2.toks) (fun b o e => Heap.get?_push_of_some _ e) (Nat.le_refl _) (setTO_new (fresh0 _ _ _))
  have stS : tn 0 (s2.heap.push (eS X.w)) := T.keep _ _ _ st2 fun b _ o e => Heap.get?_push_of_some _ e
  have fS : ∀ b ∈ fp, FpOk X pins (upd H2 s2.heap.objs.size (SetTO X.prog X.w s2.heap.objs.size [])) b ∧ b < (s2.heap.push (eS X.w)).objs.size := fun b hb => by
    obtain ⟨o, e, _⟩ := T.obj _ _ st2 b hb
    have l1 := Heap.lt_size e
    exact ⟨⟨by rw [upd_ne (Nat.ne_of_lt l1)]; exact (f2 b hb).1, (f2 b hb).2⟩, by rw [Heap.size_push]; exact Nat.lt_succ_of_lt l1⟩
  obtain ⟨W, ⟨m0, w0⟩, turn⟩ := q _ nD
  have IB := block_start IS ok hN fS
  have stB : tn 0 (pushCells ((s2.heap.push (eS X.w)).push eD) scope.names) := T.keep _ _ _ stS fun b _ o e => pushCells_keeps _ _ _ _ (Heap.get?_push_of_some _ e)
  generalize s2.heap.objs.size = D at *
  generalize upd H2 D (SetTO X.prog X.w D []) = HS at IS IB w0 fS
  generalize eS3 : ({ s2 with heap := s2.heap.push (eS X.w) } : Shared) = s3 at IS IB
  have e3 : s2.heap.push (eS X.w) = s3.heap := by rw [← eS3]
  rw [e3] at fS stS stB ⊢
  have e4 : ({ s2 with heap := pushCells (s3.heap.push eD) scope.names } : Shared) = { s3 with heap := pushCells (s3.heap.push eD) scope.names } := by rw [← eS3]
  rw [e4]
  have pg := hg s3 HS s3.heap.objs.size (cellsFrom (s3.heap.objs.size + 1) scope.names (cloFrom X.env.cells scope.names [])) fp
  have pe := he s3 HS s3.heap.objs.size (cellsFrom (s3.heap.objs.size + 1) scope.names (cloFrom X.env.cells scope.names [])) fp
  generalize hce : compEnvC scope (cellsFrom (s3.heap.objs.size + 1) scope.names (cloFrom X.env.cells scope.names [])) s3.heap.objs.size X.env = ce at IB pg pe ⊢
  have cL : ce.locals = s3.heap.objs.size := by rw [← hce]; rfl
  generalize hs4 : ({ s3 with heap := pushCells (s3.heap.push eD) scope.names } : Shared) = s4 at IB ⊢
  have st4 : tn 0 s4.heap := by rw [← hs4]; exact stB
  have nf : ∀ b ∈ fp, HS b = none := fun b hb => (fS b hb).1.1
  have stat : ∀ {τ' : L2.St} {H' : Hp} {s' : Shared}, Inv (X.blk s3 HS scope ce fp) [] τ' H' s' → (∀ b ∈ fp, H' b = none) → ∀ b ∈ fp, FpOk (X.blk s3 HS scope ce fp) [] H' b := fun {τ' H' s'} I' hn b hb =>
    ⟨hn b hb, (I'.ok.exf b hb).1, I'.ok.exfs b hb, .inl hb, fun x c e => (I'.ok.exf b hb).2 x c e, fun p hp => absurd (show p ∈ ([] : List (Addr × Obj)) ++ [] from hp) (by simp)⟩
  suffices loop : codeAny (model X.prog X.w) X.A (.compLoop (.SetComp elt [⟨tg, iter, [], 0⟩] scope pos) 0 (.ref it) (.ref D) ce) (compPost (model X.prog X.w) X.A X.xe none (EP X pins τ Q) (.ref D) s3.heap.objs.size) s4 from PpSet.codeAny_compStart_set loop (T.self X.A 0 _ _ _ st4 loop)
  refine PpSet.compLoopS_any (fun n s' => ∃ i H', Inv (X.blk s3 HS scope ce fp) [] (wipe τ (own.map (·.2))) H' s' ∧ tn i s'.heap ∧ (∀ b ∈ fp, H' b = none) ∧ W i n H') (fun n s5 z5 => ?_) m0 ⟨0, HS, IB, st4, nf, w0⟩
  obtain ⟨i, H5, I5, st5, n5, w5⟩ := z5
  rcases turn i n H5 w5 with ⟨stop, qq⟩ | ⟨go, Nx, hNx, step⟩
  · refine thnF (T.done (X.blk s3 HS scope ce fp) rfl rfl rfl hc i [] s5 _ H5 (fun _ _ => False) I5 (stat I5 n5) st5 stop) fun r s6 ⟨hr, I6⟩ => ?_
    subst hr
    have I7 : Inv X pins τ H5 s6 := IS.call' (ch := fp) I6.os I6.base I6.hok I6.bare fun b hb => ⟨(fS b hb).1.2.2.2.1, (fS b hb).1.2.1, (fS b hb).1.2.2.2.2.1, (fS b hb).1.2.2.2.2.2⟩
    have nC : H5 s3.heap.objs.size = none := by rw [← cL]; exact I6.free
    obtain ⟨m, hn, _⟩ := I6.loc
    have hn : s6.heap.Ns s3.heap.objs.size m := by rw [← cL]; exact hn
    obtain ⟨f0, f1, f2', f3, f4, f5⟩ := IS.fpOk (Nat.le_refl _) nC
    exact ⟨m, hn, fun h'' sb => ⟨.ref D, H5, I7.turned (t' := s6.toks) (fun b o hb e => (sb.2 b hb).trans e) f0 f1 f3 f4 f5, rfl, qq⟩⟩
  · refine thnF (T.item (X.blk s3 HS scope ce fp) rfl rfl rfl hc i [] s5 _ H5 (fun _ _ => False) I5 (stat I5 n5) st5 go) fun r s6 ⟨u, hr, h6⟩ => ?_
    subst hr
    refine thnF h6 fun _ s7 ⟨x, H7, I7, r7, y7, st7, n7⟩ => ?_
    refine thnF (pg.run _ s7 _ H7 x u _ (I7.pinned (stat I7 n7) (T.obj _ _ st7)) r7 (step x H7 y7)) fun _ s8 ⟨τ8, H8, I8, hw8, q8⟩ => ?_
    refine wpAny_tests_nil ?_
    rw [if_pos rfl]
    refine thnF (pe.run _ s8 τ8 H8 _ I8 q8) fun z s10 ⟨yv, H10, I10, r10, t, k, L, ey, hy, hD10, hL, hlt, nx⟩ => ?_
    subst ey
    cases (show z = Value.ref t from r10)
    refine addT_ok (X := X.blk s3 HS scope ce fp) I10 hD10 hL hy hlt hu fun s11 L' c1 c2 I11 => ?_
    obtain ⟨m', hm, w'⟩ := hNx _ (nx L' c1 c2)
    have pin' : ∀ b ∈ fp, ∀ o, s7.heap.get? b = some o → s11.heap.get? b = some o ∧ (upd H10 D (SetTO X.prog X.w D L')) b = none := fun b hb o e =>
      let z := I11.pin (b, o) (List.mem_append_right _ (List.mem_append_right _ (mem_pinsAt hb e)))
      ⟨z.1, z.2.1⟩
    refine ⟨m', hm, i + 1, _, (I11.unpinned (pins := [])).weak (by rw [← hw8, wipe_length]) (fun j v e => (wipe_some (by rw [hw8]; exact e)).1), T.keep _ _ _ st7 fun b hb o e => (pin' b hb o e).1, fun b hb => ?_, w'⟩
    obtain ⟨o, e, _⟩ := T.obj _ _ st7 b hb
    exact (pin' b hb o e).2
/-- over a list that the block leaves as it is -/
theorem st_list {P : Program} {w : World} {K : PySem.W.Frag} {a : Addr} {xs : List V} {g : TG} {te : TE} {vs : List Nat} {τ : L2.St} {H1 : Hp} {D : Addr} {Qd : Hp → Prop} (Pv : Nat → Hp → Prop) (h0 : Pv 0 (upd H1 D (SetTO P w D []))) (hl : ∀ i H, i ≤ xs.length → Pv i H → SqL K H a xs)
    (hs : ∀ i x H, xs[i]? = some x → Pv i H → g x (wipe τ vs) H fun τ2 H3 => wipe τ2 vs = wipe τ vs ∧
      te τ2 H3 fun y H4 => ∃ (t : Addr) (k : List Int) (L : List (Addr × List Int)), y = .ref t ∧ SqT K H4 t (k.map V.int) ∧ H4 D = some (SetTO P w D L) ∧ (∀ p ∈ L, SqT K H4 p.1 (p.2.map V.int)) ∧ L.length + 1 < 64 ∧
      ∀ L', (k ∈ L.map (·.2) → L' = L) → (k ∉ L.map (·.2) → L'.Perm ((t, k) :: L)) → Pv (i + 1) (upd H4 D (SetTO P w D L'))) (hd : ∀ H, Pv xs.length H → Qd H) :
    ∃ W : Nat → Nat → Hp → Prop, (∃ m, W 0 m (upd H1 D (SetTO P w D []))) ∧ ∀ i m H, W i m H →
      ((Itl K a).stop i H ∧ Qd H) ∨ ((Itl K a).go i H ∧ ∃ Nx : Hp → Prop, (∀ H', Nx H' → ∃ m', m' < m ∧ W (i + 1) m' H') ∧ ∀ x H', (Itl K a).yld i H x H' → g x (wipe τ vs) H' fun τ2 H3 => wipe τ2 vs = wipe τ vs ∧
        te τ2 H3 fun y H4 => ∃ (t : Addr) (k : List Int) (L : List (Addr × List Int)), y = .ref t ∧ SqT K H4 t (k.map V.int) ∧ H4 D = some (SetTO P w D L) ∧ (∀ p ∈ L, SqT K H4 p.1 (p.2.map V.int)) ∧ L.length + 1 < 64 ∧
      ∀ L', (k ∈ L.map (·.2) → L' = L) → (k ∉ L.map (·.2) → L'.Perm ((t, k) :: L)) → Nx (upd H4 D (SetTO P w D L'))) := by
  refine ⟨fun i m H => m + i = xs.length ∧ Pv i H, ⟨xs.length, rfl, h0⟩, fun i m H z => ?_⟩
  obtain ⟨hm, p⟩ := z
  have q := hl i H (by omega) p
  rcases Nat.lt_or_ge i xs.length with lt | ge
  · refine .inr ⟨⟨xs, xs[i], q, List.getElem?_eq_getElem lt⟩, Pv (i + 1), fun H' p' => ⟨m - 1, by omega, by omega, p'⟩, fun x H' y => ?_⟩
    obtain ⟨rfl, y⟩ := y
    exact hs i x _ (y xs q) p
  · obtain rfl : i = xs.length := by omega
    exact .inl ⟨⟨xs, q, Nat.le_refl _⟩, hd H p⟩
/-- over a tuple that the block leaves as it is -/
theorem st_tup {P : Program} {w : World} {K : PySem.W.Frag} {a : Addr} {xs : List V} {g : TG} {te : TE} {vs : List Nat} {τ : L2.St} {H1 : Hp} {D : Addr} {Qd : Hp → Prop} (Pv : Nat → Hp → Prop) (h0 : Pv 0 (upd H1 D (SetTO P w D []))) (hl : ∀ i H, i ≤ xs.length → Pv i H → SqT K H a xs)
    (hs : ∀ i x H, xs[i]? = some x → Pv i H → g x (wipe τ vs) H fun τ2 H3 => wipe τ2 vs = wipe τ vs ∧
      te τ2 H3 fun y H4 => ∃ (t : Addr) (k : List Int) (L : List (Addr × List Int)), y = .ref t ∧ SqT K H4 t (k.map V.int) ∧ H4 D = some (SetTO P w D L) ∧ (∀ p ∈ L, SqT K H4 p.1 (p.2.map V.int)) ∧ L.length + 1 < 64 ∧
      ∀ L', (k ∈ L.map (·.2) → L' = L) → (k ∉ L.map (·.2) → L'.Perm ((t, k) :: L)) → Pv (i + 1) (upd H4 D (SetTO P w D L'))) (hd : ∀ H, Pv xs.length H → Qd H) :
    ∃ W : Nat → Nat → Hp → Prop, (∃ m, W 0 m (upd H1 D (SetTO P w D []))) ∧ ∀ i m H, W i m H →
      ((Itt K a).stop i H ∧ Qd H) ∨ ((Itt K a).go i H ∧ ∃ Nx : Hp → Prop, (∀ H', Nx H' → ∃ m', m' < m ∧ W (i + 1) m' H') ∧ ∀ x H', (Itt K a).yld i H x H' → g x (wipe τ vs) H' fun τ2 H3 => wipe τ2 vs = wipe τ vs ∧
        te τ2 H3 fun y H4 => ∃ (t : Addr) (k : List Int) (L : List (Addr × List Int)), y = .ref t ∧ SqT K H4 t (k.map V.int) ∧ H4 D = some (SetTO P w D L) ∧ (∀ p ∈ L, SqT K H4 p.1 (p.2.map V.int)) ∧ L.length + 1 < 64 ∧
      ∀ L', (k ∈ L.map (·.2) → L' = L) → (k ∉ L.map (·.2) → L'.Perm ((t, k) :: L)) → Nx (upd H4 D (SetTO P w D L'))) := by
  refine ⟨fun i m H => m + i = xs.length ∧ Pv i H, ⟨xs.length, rfl, h0⟩, fun i m H z => ?_⟩
  obtain ⟨hm, p⟩ := z
  have q := hl i H (by omega) p
  rcases Nat.lt_or_ge i xs.length with lt | ge
  · refine .inr ⟨⟨xs, xs[i], q, List.getElem?_eq_getElem lt⟩, Pv (i + 1), fun H' p' => ⟨m - 1, by omega, by omega, p'⟩, fun x H' y => ?_⟩
    obtain ⟨rfl, y⟩ := y
    exact hs i x _ (y xs q) p
  · obtain rfl : i = xs.length := by omega
    exact .inl ⟨⟨xs, q, Nat.le_refl _⟩, hd H p⟩
theorem hu1 {k : Nat} {A : Around} (hr : Room k A) : A.units + 1 < cLine := by have := hr.un; omega
end
end K7S
end
/-! ## ET -/
section
/-! sorted of a tuple, or of a list, of ints. -/
namespace K7S
open PySem PySem.Spec PyProof.Rows L2
section
variable {X : Cx}
def rSortA (K : PySem.W.Frag) : List V → Hp → VK → Prop := fun vs H Q => ∃ (a : Addr) (ns : List Int), vs = [V.ref a] ∧ (SqL K H a (ns.map V.int) ∨ SqT K H a (ns.map V.int)) ∧ ns.length < 64 ∧ ∀ (ms : List Int) (p : Addr), ms.Perm ns → ms.Pairwise (· ≤ ·) → H p = none → Q (.ref p) (upd H p (.lst (ms.map V.int)))
theorem cr_sortA : CallR X (.builtin "sorted") (rSortA X.K) := by
  intro pins s τ H vs us Q I r h
  obtain ⟨a, ns, rfl, hs, h64, q⟩ := h
  rw [Vals.ref1 r]
  have got : ∃ (its : List Value) (o : Obj) (n : Nat) (T : String), Vals (ns.map V.int) its ∧ (T = "list" ∨ T = "tuple") ∧ s.heap.get? a = some o ∧ o.cls = .type T ∧ o.data = .seq its.toArray n := by
    rcases hs with z | z
    · obtain ⟨its, rv, pl, _⟩ := I.list z
      obtain ⟨o, ho, hc, n, hd⟩ := pl.isList
      exact ⟨its, o, n, "list", rv, .inl rfl, ho, hc, hd⟩
    · obtain ⟨its, rv, ⟨o, ho, hc, n, hd⟩, _⟩ := I.tuple z
      exact ⟨its, o, n, "tuple", rv, .inr rfl, ho, hc, hd⟩
  obtain ⟨its, o, n, T, rv, hT, ho, hc, hd⟩ := got
  have hi := rv.ints
  have h64' : its.length < 64 := by rw [hi.length]; exact h64
  refine Calls.call_function_entry kind_sorted plain_sorted entry_sorted (args_sorted1 _) ?_
  unfold Builtin.«sorted»
  refine wpAny_bind (m := checkCount "sorted" 1 1 _) (wpAny_pure (wpAny_bind (wpAny_collect_seq a hT ho hc hd (fun h' kp => ?_) (by rw [List.size_toArray, sizeLine_eq]; omega))))
  have hoL : (h'.push (seqObj "list" its.toArray 0)).get? h'.objs.size = some (seqObj "list" its.toArray 0) := Heap.get?_push_size _ rfl
  refine wpAny_bind (wpAny_newList ?_ (by rw [sizeLine_eq]; show its.length ≤ _; omega))
  show wpAny _ _ _ _ _ { s with heap := h'.push (seqObj "list" its.toArray 0) }
  refine wpAny_bind (wpAny_holding (wpAny_call_entry slot_list_sort ⟨_, hoL, rfl⟩ entry_list_sort (list_sort_tree hoL hi h64' fun out ms a1 a2 a3 => ⟨_, rfl, wpAny_pure ⟨_, rfl, ?_⟩⟩) (args_list_sort _)))
  obtain ⟨e, he⟩ := sortedHeap_at (vs := its) (out := out) hoL
  have hlen : (ms.map V.int).length ≤ sizeLine := by rw [List.length_map, a2.length_eq]; exact small64 h64
  have I1 : Inv X pins τ H { s with heap := h' } := I.kept (t' := s.toks) kp
  refine ⟨.ref h'.objs.size, upd H h'.objs.size (.lst (ms.map V.int)), I1.laid (t' := s.toks) (fun b u hb => ?_) (Nat.le_refl _) ⟨hlen, out.toList, e, vals_of_ints a1, he⟩, rfl, q ms _ a2 a3 (I1.hok.fresh (Nat.le_refl _))⟩
  have lt := Heap.lt_size hb
  exact (sortedHeap_old (Nat.ne_of_lt lt) (by rw [size_push']; exact Nat.lt_succ_of_lt lt)).trans (Heap.get?_push_of_some _ hb)
end
end K7S
end
/-! ## P10 -/
section
open PySem PySem.Spec PyProof.Rows L2
namespace K7
abbrev N__are_neighbours : List Str := ["cells", "thing", "couple"]
abbrev s__are_neighbours : Stmt := topS 20
theorem sc__are_neighbours : FnScope ["cells", "thing", "couple"] ["cells", "thing"] (defScope s__are_neighbours) := ⟨rfl, rfl, rfl, by decide +kernel, rfl, by decide +kernel, by decide +kernel⟩
section
variable {P : Program} {w : World} {K : PySem.W.Frag} {mg : Str → Option Value} {base : Heap}
/-! ### couples that are handed in: rows of two cells, either way round, tuples or lists -/
theorem SqOf.ty {H : Hp} {a : Addr} {xs : List V} (h : SqOf H a xs) : ∃ t : String, (∀ H1, Same H H1 → TyX K H1 (.ref a) (.type t)) ∧ PySem.W.kitAny K (.type t) [.type "list", .type "tuple"] = some true := by
  rcases h with z | z
  · exact ⟨"tuple", fun H1 e1 => .base (.tup (e1 _ _ z)), any_tup⟩
  · exact ⟨"list", fun H1 e1 => .base (.lst (e1 _ _ z)), any_lst⟩
def CoAt (H : Hp) (t : Addr) (c : Nat × Nat) : Prop := SqOf H t (ints_ [c.1, c.2])
def CoAll (H : Hp) (ts : List Addr) (cs : List (Nat × Nat)) : Prop := ts.length = cs.length ∧ ∀ (i : Nat) t c, ts[i]? = some t → cs[i]? = some c → CoAt H t c
theorem CoAll.same {H H' : Hp} {ts : List Addr} {cs : List (Nat × Nat)} (h : CoAll H ts cs) (e : Same H H') : CoAll H' ts cs := ⟨h.1, fun i t c h1 h2 => (h.2 i t c h1 h2).same e⟩
structure Cos (n : Nat) (cs : List (Nat × Nat)) : Prop where
  lt : ∀ c ∈ cs, c.1 < n ∧ c.2 < n ∧ c.1 ≠ c.2
  nd : (cs.map KL.srt).Nodup
  len : cs.length ≤ 32
theorem two_co {n : Nat} {c : Nat × Nat} (h : c.1 < n ∧ c.2 < n ∧ c.1 ≠ c.2) : twoV (n : Nat) (ints_ [c.1, c.2]) = true := by
  obtain ⟨h1, h2, h3⟩ := h
  unfold twoV cellsV
  have e1 : wholeV (.int (c.1 : Nat)) 0 (((n : Nat) : Int) - 1) = true := by rw [wholeV_int, decide_eq_true (by omega), decide_eq_true (by omega)]; rfl
  have e2 : wholeV (.int (c.2 : Nat)) 0 (((n : Nat) : Int) - 1) = true := by rw [wholeV_int, decide_eq_true (by omega), decide_eq_true (by omega)]; rfl
  have e3 : (ints_ [c.1, c.2]).all (fun x => wholeV x 0 (((n : Nat) : Int) - 1)) = true := by
    show (wholeV (.int (c.1 : Nat)) 0 (((n : Nat) : Int) - 1) && (wholeV (.int (c.2 : Nat)) 0 (((n : Nat) : Int) - 1) && true)) = true
    rw [e1, e2]; rfl
  have e4 : ((ints_ [c.1, c.2]).map intOf).Nodup := by
    show [((c.1 : Nat) : Int), ((c.2 : Nat) : Int)].Nodup
    refine List.nodup_cons.mpr ⟨fun m => ?_, List.nodup_cons.mpr ⟨List.not_mem_nil, List.nodup_nil⟩⟩
    rw [List.mem_singleton] at m
    omega
  rw [e3, decide_eq_true e4, decide_eq_true (show (2 : Int) ≤ (((ints_ [c.1, c.2]).length : Nat) : Int) from (by decide : (2 : Int) ≤ ((2 : Nat) : Int))), decide_eq_true (show (ints_ [c.1, c.2]).length = 2 from rfl)]
  rfl
def keyOf (c : Nat × Nat) : List Int := [((KL.srt c).1 : Int), ((KL.srt c).2 : Int)]
theorem keyOf_inj {c d : Nat × Nat} (h : keyOf c = keyOf d) : KL.srt c = KL.srt d := by
  unfold keyOf at h
  injection h with h1 h2
  injection h2 with h2
  exact Prod.ext (by omega) (by omega)
theorem keys_nd {cs : List (Nat × Nat)} (h : (cs.map KL.srt).Nodup) : (cs.map keyOf).Nodup := by
  induction cs with
  | nil => exact List.nodup_nil
  | cons c cs ih =>
    rw [List.map_cons, List.nodup_cons] at h
    rw [List.map_cons, List.nodup_cons]
    refine ⟨fun m => ?_, ih h.2⟩
    obtain ⟨d, hd, e⟩ := List.mem_map.mp m
    exact h.1 (List.mem_map.mpr ⟨d, hd, keyOf_inj e⟩)
theorem key_ints (c : Nat × Nat) : (keyOf c).map V.int = ints_ [(KL.srt c).1, (KL.srt c).2] := rfl
def spNbrs : Sp := fun vs H Q _ => ∃ (n : Nat) (a : Addr) (ts : List Addr) (cs : List (Nat × Nat)), vs = [.int (n : Nat), .ref a] ∧ SqOf H a (ts.map V.ref) ∧ CoAll H ts cs ∧ Cos n cs ∧ ∀ H', Same H H' → Q (.bl true) H'
theorem ok_nbrs {f fS fT : Addr} {fd fdS fdT : FuncData} (F : Fun K "_are_neighbours" "_are_neighbours" s__are_neighbours f fd)
    (Gsq : FnOk P w K mg base CX0 1 fS fdS ["thing"] (spSeq K)) (gsq : mg "is_sequence" = some (.ref fS)) (ksq : PySem.W.keepIn K (.ref fS) = true) (bsq : Binds K fdS ["thing"] [])
    (Ga2 : FnOk P w K mg base CX0 3 fT fdT ["many", "thing"] (spTwo K)) (ga2 : mg "are_two_cells" = some (.ref fT)) (ka2 : PySem.W.keepIn K (.ref fT) = true) (ba2 : Binds K fdT ["many", "thing"] [])
    (m_len : mg "len" = none) (m_all : mg "all" = none) (m_tuple : mg "tuple" = none) (m_sorted : mg "sorted" = none) : FnOk P w K mg base CX0 4 f fd ["cells", "thing"] spNbrs := by
  refine F.ok sc__are_neighbours (fun vs H Q E h => ?_) (fun cdv A outer s H vs Q E hr h => ?_)
  · obtain ⟨n, a, ts, cs, rfl, _⟩ := h
    rfl
  · obtain ⟨n, a, ts, cs, rfl, ha, hT, hc, q⟩ := h
    refine ⟨_, (pss_cons (ps_if (pw_or (pt_not (pt_val (pe_call Gsq (hr.mono (by decide)) (by rfl) gsq ksq bsq .nil pass0 (pa_cons (pv 1) pa_nil)))) (pw_or1 (pt_not (pt_val (pe_callB (cr_all rfl) (by rfl) m_all boot_all (pa_cons (pe_lc (own := [("couple", 2)]) (g := gName 2) (tt := tYes) rfl sc__are_neighbours.nd (K7E.pi_either (pi_tup (pv 1)) (pi_list (pv 1))) (blkOk_by (own := [("couple", 2)]) (N := N__are_neighbours) (sc := defScope s__are_neighbours) (by decide +kernel)) (fun _ _ _ _ _ => (pg_name (i := 2) sc__are_neighbours.nd rfl (by first | exact Or.inl rfl | exact Or.inr rfl))) (fun _ _ _ _ _ => pts_nil) (fun _ _ _ _ _ => (pe_call Ga2 (hr.mono (by decide)) (by rfl) ga2 ka2 ba2 .nil pass0 (pa_cons (pv 0) (pa_cons (pv 2) pa_nil))))) pa_nil)))))).pt
  (pss_one (ps_ret pe_bl))
  pss_nil)
 (pss_one (ps_ret (pe_cmpR op_eq (pe_callB K7S.call_lenT (by rfl) m_len boot_len (pa_cons (K7S.pe_st (own := [("couple", 2)]) (g := gName 2) rfl (K7S.hu1 hr) sc__are_neighbours.nd (K7E.pi_either (pi_tup (pv 1)) (pi_list (pv 1))) (blkOk_by (own := [("couple", 2)]) (N := N__are_neighbours) (sc := defScope s__are_neighbours) (by decide +kernel)) (fun _ _ _ _ _ => (pg_name (i := 2) sc__are_neighbours.nd rfl (by first | exact Or.inl rfl | exact Or.inr rfl))) (fun _ _ _ _ _ => (pe_callTy (show CallR _ (.type "tuple") (rTup_ K) from call_tuple_of) (by rfl) m_tuple boot_tuple (pa_cons (pe_callB (show CallR _ (.builtin "sorted") (K7S.rSortA K) from K7S.cr_sortA) (by rfl) m_sorted boot_sorted (pa_cons (pv 2) pa_nil)) pa_nil)))) pa_nil)) (pe_callB call_len_seq (by rfl) m_len boot_len (pa_cons (pv 1) pa_nil)) (nomark _))))), ?_⟩
    obtain ⟨t, ty, kk⟩ := ha.ty (K := K)
    have hl : ts.length = cs.length := hT.1
    have h32 := hc.len
    refine ⟨_, rfl, _, t, true, rfl, ty, kk, fun H1 e1 => ⟨_, rfl, ?_⟩⟩
    have ha1 := ha.same e1
    have hT1 := hT.same e1
    -- the second half: the set, behind any heap
    have half : ∀ H2, Same H1 H2 → ∀ D, H2 D = none → ∀ (j : Nat) (x : V) (H3 : Hp), (ts.map V.ref)[j]? = some x → (Same H2 H3 ∧ ∃ L : List (Addr × List Int), H3 D = some (SetTO P w D L) ∧ (∀ p ∈ L, H3 p.1 = some (.tup (p.2.map V.int))) ∧ (L.map (·.2)).Perm ((cs.take j).map keyOf)) →
        ∃ c t', x = .ref t' ∧ cs[j]? = some c ∧ CoAt H3 t' c ∧ keyOf c ∉ (cs.take j).map keyOf := by
      intro H2 e2 D hD j x H3 hx pv
      rw [List.getElem?_map] at hx
      obtain ⟨t', ht', rfl⟩ := Option.map_eq_some_iff.mp hx
      have hj : j < cs.length := by rw [← hl]; exact (List.getElem?_eq_some_iff.mp ht').1
      refine ⟨cs[j], t', rfl, List.getElem?_eq_getElem hj, (hT1.2 j t' _ ht' (List.getElem?_eq_getElem hj)).same (e2.trans pv.1), fun m => ?_⟩
      have nd := keys_nd hc.nd
      have e3 : cs.map keyOf = (cs.take j).map keyOf ++ (cs.drop j).map keyOf := by rw [← List.map_append, List.take_append_drop]
      rw [e3, List.nodup_append] at nd
      exact nd.2.2 _ m _ (List.mem_map.mpr ⟨cs[j], by rw [List.drop_eq_getElem_cons hj]; exact List.mem_cons_self, rfl⟩) rfl
    have fin : ∀ H2, Same H1 H2 → ∀ L : List (Addr × List Int), (L.map (·.2)).Perm ((cs.take (ts.map V.ref).length).map keyOf) → (Same H H2 → decide (V.int (L.length : Nat) = V.int ((ts.map V.ref).length : Nat)) = true) := by
      intro H2 e2 L p _
      have z := p.length_eq
      rw [List.length_map, List.length_map, List.length_map, hl, List.take_length] at z
      rw [List.length_map, z, hl]
      exact decide_eq_true rfl
    have Q2 : ∀ H2, Same H1 H2 → Q (.bl true) H2 := fun H2 e2 => q H2 (e1.trans e2)
    have sz : (ts.map V.ref).length = cs.length := by rw [List.length_map, hl]
    rcases ha1 with z | z
    · refine .inl ⟨_, rfl, a, rfl, ⟨_, .inl (.inl z)⟩, fun D hD => lc_tup (xs := ts.map V.ref) (fun j H2 => Same H1 H2 ∧ ∃ bs : List Bool, H2 D = some (.lst (bs.map V.bl)) ∧ bs.all id = true ∧ bs.length = j) ⟨same_new (Same.refl H1) hD, [], upd_same, rfl, rfl⟩ (fun j H2 _ pv => .inl (.inl (pv.1 _ _ z))) (fun j x H2 hx pv => ?_) (fun H2 pv => ?_)⟩
      · obtain ⟨e2, bs, hD2, hb, lb⟩ := pv
        have hjx := (List.getElem?_eq_some_iff.mp hx).1
        rw [List.getElem?_map] at hx
        obtain ⟨t', ht', rfl⟩ := Option.map_eq_some_iff.mp hx
        have hj : j < cs.length := by rw [← sz]; exact hjx
        have hco := hc.lt cs[j] (List.getElem_mem hj)
        refine ⟨rfl, _, rfl, _, rfl, n, .ref t', rfl, .inr ⟨t', _, rfl, (hT1.2 j t' cs[j] ht' (List.getElem?_eq_getElem hj)).same e2, fun y hy => ?_, by show 2 < 64; decide, fun H3 e3 => ?_⟩⟩
        · obtain ⟨k, _, rfl⟩ := List.mem_map.mp hy
          exact .flat (.int _)
        · rw [two_co hco]
          refine ⟨_, e3 _ _ hD2, by rw [List.length_map]; exact small1000 (by omega), fun b o hb => ?_, bs ++ [true], ?_, ?_, by rw [List.length_append, lb]; rfl⟩
          · rw [upd_ne (ne_of_none hb hD)]
            exact e3 _ _ (e2 _ _ hb)
          · rw [upd_same, List.map_append]
            rfl
          · rw [List.all_append, hb]
            rfl
      · obtain ⟨e2, bs, hD2, hb, lb⟩ := pv
        refine ⟨D, bs, rfl, .inl (.inl hD2), _, rfl, ?_⟩
        rw [hb]
        refine iteF ?_
        refine .inl ⟨_, rfl, a, rfl, ⟨_, .inl (.inl (e2 _ _ z))⟩, fun D2 hD2 => K7S.st_tup (xs := ts.map V.ref) (fun j H3 => Same H2 H3 ∧ ∃ L : List (Addr × List Int), H3 D2 = some (SetTO P w D2 L) ∧ (∀ p ∈ L, H3 p.1 = some (.tup (p.2.map V.int))) ∧ (L.map (·.2)).Perm ((cs.take j).map keyOf)) ⟨same_new (Same.refl H2) hD2, [], upd_same, fun p hp => (nomatch hp), List.Perm.refl _⟩ (fun j H3 _ pv => .inl (.inl (pv.1 _ _ (e2 _ _ z)))) (fun j x H3 hx pv => ?_) (fun H3 pv => ?_)⟩
        · obtain ⟨c, t', rfl, hcj, hco, hnew⟩ := half H2 e2 D2 hD2 j x H3 hx pv
          obtain ⟨e3, L, hL, hLt, pm⟩ := pv
          have ll : L.length = j := by
            have z := pm.length_eq
            rw [List.length_map, List.length_map, List.length_take, Nat.min_eq_left (Nat.le_of_lt (List.getElem?_eq_some_iff.mp hcj).1)] at z
            exact z
          have hjc := (List.getElem?_eq_some_iff.mp hcj).1
          refine ⟨rfl, _, rfl, t', [(c.1 : Int), (c.2 : Int)], rfl, hco.sq, by show 2 < 64; decide, fun ms p pm2 so np => ?_⟩
          have em := KL.two_sorted pm2 so
          subst em
          refine ⟨p, _, rfl, .inl ⟨.inl (.inl upd_same), fun l nl => ?_⟩⟩
          have s1 := same_new (o := .lst ([((min c.1 c.2 : Nat) : Int), ((max c.1 c.2 : Nat) : Int)].map V.int)) (Same.refl H3) np
          have s2 := same_new (o := .tup ([((min c.1 c.2 : Nat) : Int), ((max c.1 c.2 : Nat) : Int)].map V.int)) s1 nl
          refine ⟨l, keyOf c, L, rfl, .inl (.inl upd_same), s2 _ _ hL, fun p hp => .inl (.inl (s2 _ _ (hLt p hp))), by omega, fun L' _ c2 => ?_⟩
          have pm' := c2 (fun m => hnew (pm.mem_iff.mp m))
          have nlD : l ≠ D2 := fun e => by rw [e, s1 _ _ hL] at nl; cases nl
          refine ⟨fun b o hb => ?_, L', upd_same, fun p hp => ?_, ?_⟩
          · rw [upd_ne (ne_of_none hb hD2)]
            exact s2 _ _ (e3 _ _ hb)
          · have tp : ∀ p ∈ L', (upd (upd H3 _ _) l (.tup ((keyOf c).map V.int))) p.1 = some (.tup (p.2.map V.int)) := fun p hp => by
              rcases List.mem_cons.mp (pm'.mem_iff.mp hp) with rfl | hp
              · exact upd_same
              · exact s2 _ _ (hLt p hp)
            have z := tp p hp
            rw [upd_ne (fun e => by rw [e] at z; exact absurd (z.symm.trans (s2 _ _ hL)) (fun w => by cases w))]
            exact z
          · refine (pm'.map (·.2)).trans ?_
            rw [List.take_add_one, hcj, List.map_append]
            exact ((List.perm_append_singleton _ _).trans (pm.symm.cons _)).symm
        · obtain ⟨e3, L, hL, hLt, pm⟩ := pv
          have eq2 := fin H3 (e2.trans e3) L pm (e1.trans (e2.trans e3))
          refine ⟨D2, L, rfl, hL, fun p hp => .inl (.inl (hLt p hp)), _, rfl, a, ts.map V.ref, rfl, ?_, rfl, ?_⟩
          · exact (SqOf.sq (K := K) (H := H3) (show SqOf H3 a (ts.map V.ref) from (ha.same e1).same (e2.trans e3)))
          · rw [eq2]
            exact Q2 H3 (e2.trans e3)
    · refine .inr ⟨_, rfl, a, rfl, ⟨_, .inl (.inl z)⟩, fun D hD => lc_list (xs := ts.map V.ref) (fun j H2 => Same H1 H2 ∧ ∃ bs : List Bool, H2 D = some (.lst (bs.map V.bl)) ∧ bs.all id = true ∧ bs.length = j) ⟨same_new (Same.refl H1) hD, [], upd_same, rfl, rfl⟩ (fun j H2 _ pv => .inl (.inl (pv.1 _ _ z))) (fun j x H2 hx pv => ?_) (fun H2 pv => ?_)⟩
      · obtain ⟨e2, bs, hD2, hb, lb⟩ := pv
        have hjx := (List.getElem?_eq_some_iff.mp hx).1
        rw [List.getElem?_map] at hx
        obtain ⟨t', ht', rfl⟩ := Option.map_eq_some_iff.mp hx
        have hj : j < cs.length := by rw [← sz]; exact hjx
        have hco := hc.lt cs[j] (List.getElem_mem hj)
        refine ⟨rfl, _, rfl, _, rfl, n, .ref t', rfl, .inr ⟨t', _, rfl, (hT1.2 j t' cs[j] ht' (List.getElem?_eq_getElem hj)).same e2, fun y hy => ?_, by show 2 < 64; decide, fun H3 e3 => ?_⟩⟩
        · obtain ⟨k, _, rfl⟩ := List.mem_map.mp hy
          exact .flat (.int _)
        · rw [two_co hco]
          refine ⟨_, e3 _ _ hD2, by rw [List.length_map]; exact small1000 (by omega), fun b o hb => ?_, bs ++ [true], ?_, ?_, by rw [List.length_append, lb]; rfl⟩
          · rw [upd_ne (ne_of_none hb hD)]
            exact e3 _ _ (e2 _ _ hb)
          · rw [upd_same, List.map_append]
            rfl
          · rw [List.all_append, hb]
            rfl
      · obtain ⟨e2, bs, hD2, hb, lb⟩ := pv
        refine ⟨D, bs, rfl, .inl (.inl hD2), _, rfl, ?_⟩
        rw [hb]
        refine iteF ?_
        refine .inr ⟨_, rfl, a, rfl, ⟨_, .inl (.inl (e2 _ _ z))⟩, fun D2 hD2 => K7S.st_list (xs := ts.map V.ref) (fun j H3 => Same H2 H3 ∧ ∃ L : List (Addr × List Int), H3 D2 = some (SetTO P w D2 L) ∧ (∀ p ∈ L, H3 p.1 = some (.tup (p.2.map V.int))) ∧ (L.map (·.2)).Perm ((cs.take j).map keyOf)) ⟨same_new (Same.refl H2) hD2, [], upd_same, fun p hp => (nomatch hp), List.Perm.refl _⟩ (fun j H3 _ pv => .inl (.inl (pv.1 _ _ (e2 _ _ z)))) (fun j x H3 hx pv => ?_) (fun H3 pv => ?_)⟩
        · obtain ⟨c, t', rfl, hcj, hco, hnew⟩ := half H2 e2 D2 hD2 j x H3 hx pv
          obtain ⟨e3, L, hL, hLt, pm⟩ := pv
          have ll : L.length = j := by
            have z := pm.length_eq
            rw [List.length_map, List.length_map, List.length_take, Nat.min_eq_left (Nat.le_of_lt (List.getElem?_eq_some_iff.mp hcj).1)] at z
            exact z
          have hjc := (List.getElem?_eq_some_iff.mp hcj).1
          refine ⟨rfl, _, rfl, t', [(c.1 : Int), (c.2 : Int)], rfl, hco.sq, by show 2 < 64; decide, fun ms p pm2 so np => ?_⟩
          have em := KL.two_sorted pm2 so
          subst em
          refine ⟨p, _, rfl, .inl ⟨.inl (.inl upd_same), fun l nl => ?_⟩⟩
          have s1 := same_new (o := .lst ([((min c.1 c.2 : Nat) : Int), ((max c.1 c.2 : Nat) : Int)].map V.int)) (Same.refl H3) np
          have s2 := same_new (o := .tup ([((min c.1 c.2 : Nat) : Int), ((max c.1 c.2 : Nat) : Int)].map V.int)) s1 nl
          refine ⟨l, keyOf c, L, rfl, .inl (.inl upd_same), s2 _ _ hL, fun p hp => .inl (.inl (s2 _ _ (hLt p hp))), by omega, fun L' _ c2 => ?_⟩
          have pm' := c2 (fun m => hnew (pm.mem_iff.mp m))
          have nlD : l ≠ D2 := fun e => by rw [e, s1 _ _ hL] at nl; cases nl
          refine ⟨fun b o hb => ?_, L', upd_same, fun p hp => ?_, ?_⟩
          · rw [upd_ne (ne_of_none hb hD2)]
            exact s2 _ _ (e3 _ _ hb)
          · have tp : ∀ p ∈ L', (upd (upd H3 _ _) l (.tup ((keyOf c).map V.int))) p.1 = some (.tup (p.2.map V.int)) := fun p hp => by
              rcases List.mem_cons.mp (pm'.mem_iff.mp hp) with rfl | hp
              · exact upd_same
              · exact s2 _ _ (hLt p hp)
            have z := tp p hp
            rw [upd_ne (fun e => by rw [e] at z; exact absurd (z.symm.trans (s2 _ _ hL)) (fun w => by cases w))]
            exact z
          · refine (pm'.map (·.2)).trans ?_
            rw [List.take_add_one, hcj, List.map_append]
            exact ((List.perm_append_singleton _ _).trans (pm.symm.cons _)).symm
        · obtain ⟨e3, L, hL, hLt, pm⟩ := pv
          have eq2 := fin H3 (e2.trans e3) L pm (e1.trans (e2.trans e3))
          refine ⟨D2, L, rfl, hL, fun p hp => .inl (.inl (hLt p hp)), _, rfl, a, ts.map V.ref, rfl, ?_, rfl, ?_⟩
          · exact (SqOf.sq (K := K) (H := H3) (show SqOf H3 a (ts.map V.ref) from (ha.same e1).same (e2.trans e3)))
          · rw [eq2]
            exact Q2 H3 (e2.trans e3)
end
end K7
end
/-! ## EU -/
section
namespace K7E
open PySem PySem.Spec PyProof.Rows L2
section
variable {X : Cx} {CX : CXT} {k : Nat} {f : Addr} {sp : Sp} {E : XK} {x : Str} {e : Expr} {es : List Expr} {t : TA} {p pos : Pos}
/-- x(e, ..) by a positional promise -/
theorem pe_callR0 (F : FnR X.prog X.w X.K X.mg X.base CX k f sp) (hr : Room k X.A) (hg : Gl X x) (hm : X.mg x = some (.ref f)) (hk : PySem.W.keepIn X.K (.ref f) = true) (hx : Passes CX X E) (ha : PA X (e :: es) t) (hd : (x == ("__debug__" : Str)) = false := by decide)
    (h1 : starEach (e :: es) X.env = (false, eval e X.env) :: starEach es X.env := by rfl) (h2 : (backTo pos (starEach es X.env)).any (·.1) = false := by rfl) : PE X (.Call (.Name x p) (e :: es) [] pos) (fun τ H Q => t τ H fun vs H1 => sp vs H1 Q E) := by
  refine ⟨fun pins s τ H Q I h => wpAny_Call_Name_kw (ld_glob I hg hm (PySem.W.callWith_K (h₀ := X.base) I.ok.mod.kin hk (thn (ha.run pos pins s τ H _ I h) fun us s1 ⟨vs, H1, I1, r, q⟩ => ⟨I1.kIn, ?_⟩) h1 h2) hd)⟩
  exact wpAny_call (run_fnR F hr hx I1 r q)
end
end K7E
end
/-! ## P11 -/
section
open PySem PySem.Spec PyProof.Rows L2
namespace K7
abbrev N_BadCell___init__ : List Str := ["self", "cell"]
abbrev s_BadCell___init__ : Stmt := inClass (topS 4) 0
theorem sc_BadCell___init__ : FnScope ["self", "cell"] ["self", "cell"] (defScope s_BadCell___init__) := ⟨rfl, rfl, rfl, by decide +kernel, rfl, by decide +kernel, by decide +kernel⟩
abbrev N_is_cell : List Str := ["land", "thing"]
abbrev s_is_cell : Stmt := topS 14
theorem sc_is_cell : FnScope ["land", "thing"] ["land", "thing"] (defScope s_is_cell) := ⟨rfl, rfl, rfl, by decide +kernel, rfl, by decide +kernel, by decide +kernel⟩
abbrev N_is_lot : List Str := ["land", "thing", "least"]
abbrev s_is_lot : Stmt := topS 15
theorem sc_is_lot : FnScope ["land", "thing", "least"] ["land", "thing", "least"] (defScope s_is_lot) := ⟨rfl, rfl, rfl, by decide +kernel, rfl, by decide +kernel, by decide +kernel⟩
abbrev N_check_cells : List Str := ["land", "things", "thing"]
abbrev s_check_cells : Stmt := topS 16
theorem sc_check_cells : FnScope ["land", "things", "thing"] ["land", "things"] (defScope s_check_cells) := ⟨rfl, rfl, rfl, by decide +kernel, rfl, by decide +kernel, by decide +kernel⟩
/-! ### a land that stands, and what the top says of it -/
def landFs (n : Int) (an ar ay ac : Addr) : List (Str × V) := putF "_couples" (.ref ac) (putF "nearby" (.ref ay) (putF "roads" (.ref ar) (putF "neighbours" (.ref an) (putF "cells" (.int n) []))))
def lfields : List Str := ["cells", "neighbours", "roads", "nearby", "_couples"]
structure AdL where
  (C B iB : Addr)
structure Tl (K : PySem.W.Frag) (mg : Str → Option Value) (a : AdL) : Prop where
  gC : mg "Land" = some (.ref a.C)
  cl : Cls K a.C
  nA : ∀ f ∈ lfields, NoAttr K a.C f
  gB : mg "BadCell" = some (.ref a.B)
  oxB : OexC K a.B
  iCB : PySem.W.findIn K (.ref a.B) "__init__" = some (some (.ref a.iB))
  tIB : PySem.W.typeIn K (.ref a.iB) = some (.type "function")
  nB : PySem.W.findIn K (.ref a.B) "cell" = some none
/-- an error of the class C with one field is raised -/
def Flies (H : Hp) (C : Addr) (f : Str) (v : V) (E : XK) : Prop := ∀ H' d, Same H H' → H d = none → H' d = some (.xd [(f, v)]) → E (.ref C) (some d) H'
theorem Flies.later {H H1 : Hp} {C : Addr} {f : Str} {v : V} {E : XK} (h : Flies H C f v E) (e : Same H H1) : Flies H1 C f v E := fun H' d e' n q => h H' d (e.trans e') (e.free n) q
/-- an instance with a number of cells -/
def LandC (C : Addr) (H : Hp) (p : Addr) (n : Nat) : Prop := ∃ dx fs, H p = some (.ins C dx fs) ∧ fs.lookup ("cells" : Str) = some (V.int (n : Nat))
theorem LandC.same {C : Addr} {H H' : Hp} {p : Addr} {n : Nat} (h : LandC C H p n) (e : Same H H') : LandC C H' p n := by
  obtain ⟨dx, fs, h1, h2⟩ := h
  exact ⟨dx, fs, e _ _ h1, h2⟩
section
variable {P : Program} {w : World} {K : PySem.W.Frag} {mg : Str → Option Value} {base : Heap} {a : AdL}
def spX (C : Addr) (f : Str) : Sp := fun vs H Q _ => ∃ (e : Addr) (y : V), vs = [.ref e, y] ∧ H e = some (exo e C none) ∧ ∀ d, H d = none → d ≠ e → Q .non (upd (upd H d (exd d [(f, y)])) e (exo e C (some d)))
theorem ok_iB (T : Tl K mg a) {f : Addr} {fd : FuncData} (F : Fun K "__init__" "BadCell.__init__" s_BadCell___init__ f fd) : FnOk P w K mg base (L2.CX P w) 1 f fd ["self", "cell"] (spX a.B "cell") := by
  refine F.okX sc_BadCell___init__ (fun vs H Q E h => ?_) (fun cdv A outer s H vs Q E hr h => ?_)
  · obtain ⟨e, y, rfl, _⟩ := h
    rfl
  · obtain ⟨e, y, rfl, he, q⟩ := h
    refine ⟨_, (pss_one (ps_ost (pv 0) (pv 1))), ?_⟩
    exact ⟨y, rfl, .ref e, rfl, e, a.B, rfl, T.oxB, T.nB, .inl ⟨he, fun d hd hn => q d hd hn⟩⟩
/-- the reading of «raise X(y)» -/
theorem flies_go {H : Hp} {C : Addr} {f : Str} {y : V} {E : XK} (h : Flies H C f y E) :
    ∀ e, H e = none → spX C f (.ref e :: ([y] ++ [])) (upd H e (exo e C none)) (fun v H2 => v = .non ∧ ∃ (d : Addr) (fs : List (Str × V)), H2 e = some (exo e C (some d)) ∧ H2 d = some (exd d fs) ∧ H d = none ∧ E (.ref C) (some d) (upd (del H2 e) d (.xd fs))) (fun _ _ _ => False) := by
  intro e he
  refine ⟨e, y, rfl, upd_same, fun d hd hne => ⟨rfl, d, _, upd_same, by rw [upd_ne hne, upd_same], ?_, ?_⟩⟩
  · rw [upd_ne hne] at hd
    exact hd
  · rw [upd_ne hne] at hd
    refine h _ d (fun b o hb => ?_) hd upd_same
    have h1 : b ≠ d := ne_of_none hb hd
    have h2 : b ≠ e := ne_of_none hb he
    rw [upd_ne h1, del_ne h2, upd_ne h2, upd_ne h1, upd_ne h2]
    exact hb
/-! is_cell -/
def spIsCell (C : Addr) : Sp := fun vs H Q _ => ∃ (p : Addr) (n : Nat) (x : V), vs = [.ref p, x] ∧ LandC C H p n ∧ Thing H x ∧ Q (.bl (wholeV x 0 ((n : Nat) - 1))) H
theorem ok_iscell (T : Tl K mg a) {f fW : Addr} {fd fdW : FuncData} (F : Fun K "is_cell" "is_cell" s_is_cell f fd)
    (Giw : FnOk P w K mg base CX0 1 fW fdW ["thing", "low", "high"] spWhole) (giw : mg "is_whole" = some (.ref fW)) (kiw : PySem.W.keepIn K (.ref fW) = true) (biw : Binds K fdW ["thing", "low", "high"] []) : FnOk P w K mg base CX0 2 f fd ["land", "thing"] (spIsCell a.C) := by
  refine F.ok sc_is_cell (fun vs H Q E h => ?_) (fun cdv A outer s H vs Q E hr h => ?_)
  · obtain ⟨p, n, x, rfl, _⟩ := h
    rfl
  · obtain ⟨p, n, x, rfl, ⟨dx, fs, hp, hl⟩, hx, q⟩ := h
    refine ⟨_, (pss_one (ps_ret (pe_call Giw (hr.mono (by decide)) (by rfl) giw kiw biw .nil pass0 (pa_cons (pv 1) (pa_cons pe_int (pa_cons (pe_op op_sub (pe_fld (pv 0) rfl) pe_int) pa_nil)))))), ?_⟩
    exact ⟨_, rfl, .ref p, rfl, p, a.C, dx, fs, _, rfl, hp, T.cl, T.nA _ (by decide), hl, _, _, rfl, rfl, x, 0, _, rfl, hx, q⟩
/-! check_cells -/
def AllIn (n : Nat) (xs : List V) : Prop := ∀ x ∈ xs, wholeV x 0 ((n : Nat) - 1) = true
def spCheck (a : AdL) : Sp := fun vs H Q E => ∃ (p : Addr) (n : Nat) (xs : List V), vs = .ref p :: xs ∧ LandC a.C H p n ∧ xs.length < 64 ∧
  (((∀ x ∈ xs, Thing H x) ∧ AllIn n xs ∧ ∀ H', Same H H' → Q .non H') ∨ (∃ ys x zs, xs = ys ++ x :: zs ∧ (∀ x ∈ ys, Thing H x) ∧ AllIn n ys ∧ Thing H x ∧ wholeV x 0 ((n : Nat) - 1) = false ∧ Flies H a.B "cell" x E))
theorem ok_check (T : Tl K mg a) {f fI : Addr} {fd fdI fdB : FuncData} (F : Fun K "check_cells" "check_cells" s_check_cells f fd)
    (Gic : FnOk P w K mg base CX0 2 fI fdI ["land", "thing"] (spIsCell a.C)) (gic : mg "is_cell" = some (.ref fI)) (kic : PySem.W.keepIn K (.ref fI) = true) (bic : Binds K fdI ["land", "thing"] [])
    (FB0 : Fun K "__init__" "BadCell.__init__" s_BadCell___init__ a.iB fdB) (bB : Binds K fdB ["self", "cell"] []) : FnR P w K mg base (L2.CX P w) 4 f (spCheck a) := by
  have FB : FnOk P w K mg base (L2.CX P w) 1 a.iB fdB ["self", "cell"] (spX a.B "cell") := ok_iB T FB0
  obtain ⟨oc, od, kV, doc, pm, an, cdv, ct, osl, rfl, lk, hcd⟩ := F.ex
  have G := StX.fn_star (CX := L2.CX P w) (P := P) (w := w) (mg := mg) (base := base) (k := 3) (ps := ["land"]) (pv := "things") (sp := fun vs H Q E => ∃ (p t : Addr) (n : Nat) (xs : List V), vs = [.ref p, .ref t] ∧ H t = some (.tup xs) ∧ LandC a.C H p n ∧ xs.length < 64 ∧
    (((∀ x ∈ xs, Thing H x) ∧ AllIn n xs ∧ ∀ H', Same H H' → Q .non H') ∨ (∃ ys x zs, xs = ys ++ x :: zs ∧ (∀ x ∈ ys, Thing H x) ∧ AllIn n ys ∧ Thing H x ∧ wholeV x 0 ((n : Nat) - 1) = false ∧ Flies H a.B "cell" x E))) lk hcd sc_check_cells StX.cxUp (StX.bind_star1 (B := fun l => bindArgs (PySem.W.fnOf "check_cells" "check_cells" (defArgs s_check_cells) (defBody s_check_cells) (defScope s_check_cells) .none kV doc pm an cdv ct) ⟨l, []⟩) (p1 := "land") (pv := "things") (fun _ => rfl) fun _ _ _ => rfl) ?_
  · refine G.imp fun vs H Q E h => ?_
    obtain ⟨p, n, xs, rfl, hl, h64, hh⟩ := h
    refine ⟨[.ref p], xs, rfl, rfl, by rw [sizeLine_eq]; omega, fun t ht => ⟨p, t, n, xs, rfl, upd_same, hl.same (same_new (Same.refl H) ht), h64, ?_⟩⟩
    have e := same_new (o := .tup xs) (Same.refl H) ht
    rcases hh with ⟨h1, h2, h3⟩ | ⟨ys, x, zs, h1, h2, h3, h4, h5, h6⟩
    · exact .inl ⟨fun x hx => (h1 x hx).same e, h2, fun H' e' => h3 H' (e.trans e')⟩
    · exact .inr ⟨ys, x, zs, h1, fun x hx => (h2 x hx).same e, h3, h4.same e, h5, h6.later e⟩
  · intro A outer s H vs Q E hr h
    obtain ⟨p, t, n, xs, rfl, ht, hl, h64, hh⟩ := h
    have hrx : Room (1 + 1) _ := hr.mono (by decide)
    refine ⟨_, (pss_one (ps_for (passes_of rfl) rfl (pi_tup (pv 1)) (pg_name (i := 2) sc_check_cells.nd rfl (by first | exact Or.inl rfl | exact Or.inr rfl))
  (pss_one (ps_if (pt_not (pt_val (pe_call Gic (hr.mono (by decide)) (by rfl) gic kic bic .nil pass0 (pa_cons (pv 0) (pa_cons (pv 2) pa_nil)))))
  (pss_one (ps_raise rfl (takes_of rfl rfl rfl rfl) (pmk_oex T.oxB T.iCB T.tIB FB hrx bB .nil passL (by rfl) T.gB (pa_cons (pv 2) pa_nil))))
  pss_nil)))), ?_⟩
    refine ⟨_, rfl, t, rfl, ⟨xs, .inl (.inl ht)⟩, for_tup (xs := xs) (fun j τ H1 => H1 = H ∧ AllIn n (xs.take j) ∧ ∃ y, τ = [some (.ref p), some (.ref t), y]) ⟨rfl, fun x hx => (nomatch hx), none, rfl⟩ (fun j τ H1 _ pv => ?_) (fun j x τ H1 hx pv => ?_) (fun τ H1 pv => ?_)⟩
    · obtain ⟨rfl, _⟩ := pv
      exact .inl (.inl ht)
    · obtain ⟨rfl, al, y, rfl⟩ := pv
      have fin : ∀ b, wholeV x 0 ((n : Nat) - 1) = b → Thing H1 x ∧ (b = false → Flies H1 a.B "cell" x E) := by
        intro b hb
        rcases hh with ⟨h1, h2, h3⟩ | ⟨ys, x', zs, rfl, h2, h3, h4, h5, h6⟩
        · refine ⟨h1 x (List.mem_of_getElem? hx), fun e => ?_⟩
          rw [h2 x (List.mem_of_getElem? hx)] at hb
          rw [← hb] at e
          cases e
        · rcases Nat.lt_trichotomy j ys.length with lt | e | gt
          · rw [List.getElem?_append_left lt] at hx
            have m := List.mem_of_getElem? hx
            refine ⟨h2 x m, fun e => ?_⟩
            rw [h3 x m] at hb
            rw [← hb] at e
            cases e
          · rw [List.getElem?_append_right (by omega), e, Nat.sub_self] at hx
            obtain rfl : x' = x := Option.some.inj hx
            exact ⟨h4, fun _ => h6⟩
          · have m : x' ∈ (ys ++ x' :: zs).take j := by
              rw [List.take_append, List.take_of_length_le (by omega)]
              exact List.mem_append_right _ (by
                obtain ⟨k, hk⟩ : ∃ k, j - ys.length = k + 1 := ⟨j - ys.length - 1, by omega⟩
                rw [hk]
                exact List.mem_cons_self)
            rw [al x' m] at h5
            cases h5
      obtain ⟨hth, hfl⟩ := fin _ rfl
      refine ⟨_, rfl, _, rfl, p, n, x, rfl, hl, hth, _, rfl, ?_⟩
      cases hb : wholeV x 0 ((n : Nat) - 1) with
      | true =>
        refine iteF ⟨rfl, fun z hz => ?_, _, rfl⟩
        rw [List.take_add_one, hx] at hz
        rcases List.mem_append.mp hz with hz | hz
        · exact al z hz
        · rw [List.mem_singleton.mp hz]
          exact hb
      | false => exact iteT ⟨_, rfl, by show 1 ≤ 1000; decide, flies_go (hfl hb)⟩
    · obtain ⟨rfl, al, y, rfl⟩ := pv
      rcases hh with ⟨h1, h2, h3⟩ | ⟨ys, x', zs, rfl, h2, h3, h4, h5, h6⟩
      · exact h3 _ (Same.refl _)
      · rw [List.take_length] at al
        rw [al x' (List.mem_append_right _ List.mem_cons_self)] at h5
        cases h5
end
end K7
end
/-! ## EV -/
section
namespace K7E
open PySem PySem.Spec PyProof.Rows L2
/-- the inner range of a comprehension of two -/
theorem in_range {lo : Int} {n : Nat} {g : TG} {tt : TT} {te : TE} {vs : List Nat} {τ : L2.St} {H4 : Hp} {D : Addr} {Nx : Hp → Prop} (Pw : Nat → Hp → Prop) (h0 : Pw 0 H4)
    (hs : ∀ j H, j < n → Pw j H → g (.int (lo + j)) (wipe τ vs) H fun t3 H5 => wipe t3 vs = wipe τ vs ∧ tt t3 H5 fun b H6 => if b = true then te t3 H6 fun y H7 => ∃ acc, H7 D = some (.lst acc) ∧ acc.length < sizeLine ∧ Pw (j + 1) (upd H7 D (.lst (acc ++ [y]))) else Pw (j + 1) H6) (hd : ∀ H, Pw n H → Nx H) :
    ∃ W1 : Nat → Nat → Hp → Prop, (∃ m, W1 0 m H4) ∧ ∀ j k H, W1 j k H → ((Itr lo n).stop j H ∧ Nx H) ∨ ((Itr lo n).go j H ∧ ∃ N1 : Hp → Prop, (∀ H', N1 H' → ∃ k', k' < k ∧ W1 (j + 1) k' H') ∧
      ∀ x H', (Itr lo n).yld j H x H' → g x (wipe τ vs) H' fun t3 H5 => wipe t3 vs = wipe τ vs ∧ tt t3 H5 fun b H6 => if b = true then te t3 H6 fun y H7 => ∃ acc, H7 D = some (.lst acc) ∧ acc.length < sizeLine ∧ N1 (upd H7 D (.lst (acc ++ [y]))) else N1 H6) := by
  refine ⟨fun j k H => k + j = n ∧ Pw j H, ⟨n, rfl, h0⟩, fun j k H z => ?_⟩
  obtain ⟨hk, p⟩ := z
  rcases Nat.lt_or_ge j n with lt | ge
  · refine .inr ⟨lt, Pw (j + 1), fun H' p' => ⟨k - 1, by omega, by omega, p'⟩, fun x H' y => ?_⟩
    obtain ⟨rfl, rfl⟩ := y
    exact hs j _ lt p
  · obtain rfl : j = n := by omega
    exact .inl ⟨Nat.le_refl _, hd H p⟩
/-- the outer one -/
theorem out_range {lo : Int} {n : Nat} {g : TG} {tt : TT} {inner : (Hp → Prop) → L2.St → Hp → Prop} {vs : List Nat} {τ : L2.St} {H1 : Hp} {D : Addr} {Qd : Hp → Prop} (Pv : Nat → Hp → Prop) (h0 : Pv 0 (upd H1 D (.lst [])))
    (hs : ∀ i H, i < n → Pv i H → g (.int (lo + i)) (wipe τ vs) H fun t2 H2 => wipe t2 vs = wipe τ vs ∧ tt t2 H2 fun b H3 => if b = true then inner (Pv (i + 1)) t2 H3 else Pv (i + 1) H3) (hd : ∀ H, Pv n H → Qd H) :
    ∃ W : Nat → Nat → Hp → Prop, (∃ m, W 0 m (upd H1 D (.lst []))) ∧ ∀ i m H, W i m H → ((Itr lo n).stop i H ∧ Qd H) ∨ ((Itr lo n).go i H ∧ ∃ Nx : Hp → Prop, (∀ H', Nx H' → ∃ m', m' < m ∧ W (i + 1) m' H') ∧
      ∀ x H', (Itr lo n).yld i H x H' → g x (wipe τ vs) H' fun t2 H2 => wipe t2 vs = wipe τ vs ∧ tt t2 H2 fun b H3 => if b = true then inner Nx t2 H3 else Nx H3) := by
  refine ⟨fun i m H => m + i = n ∧ Pv i H, ⟨n, rfl, h0⟩, fun i m H z => ?_⟩
  obtain ⟨hm, p⟩ := z
  rcases Nat.lt_or_ge i n with lt | ge
  · refine .inr ⟨lt, Pv (i + 1), fun H' p' => ⟨m - 1, by omega, by omega, p'⟩, fun x H' y => ?_⟩
    obtain ⟨rfl, rfl⟩ := y
    exact hs i _ lt p
  · obtain rfl : i = n := by omega
    exact .inl ⟨Nat.le_refl _, hd H p⟩
end K7E
end
/-! ## P12 -/
section
open PySem PySem.Spec PyProof.Rows L2
namespace K7
abbrev N_Land___init__ : List Str := ["self", "cells", "neighbours", "roads", "couples", "couple", "a", "b"]
abbrev s_Land___init__ : Stmt := inClass (topS 21) 0
theorem sc_Land___init__ : FnScope ["self", "cells", "neighbours", "roads", "couples", "couple", "a", "b"] ["self", "cells", "neighbours", "roads"] (defScope s_Land___init__) := ⟨rfl, rfl, rfl, by decide +kernel, rfl, by decide +kernel, by decide +kernel⟩
/-! ### a land is made -/
structure LandO (C : Addr) (H : Hp) (p : Addr) (n : Nat) (es : List (Nat × Nat)) (rd : List Nat) : Prop where
  at_ : ∃ dx an ar ay ac tn ty tc, H p = some (.ins C dx (landFs (n : Nat) an ar ay ac)) ∧ H an = some (.tup (tn.map V.ref)) ∧ TAt H tn (pairs es) ∧ H ar = some (.tup (ints_ rd)) ∧ H ay = some (.tup (ty.map V.ref)) ∧ TAt H ty (nearV n es) ∧ H ac = some (.tup (tc.map V.ref)) ∧ TAt H tc (pairs (KL.allC n))
  n2 : 2 ≤ n
  n5 : n ≤ 5
  ok : LandOk n es
  rlt : ∀ c ∈ rd, c < n
  rnd : rd.Nodup
  rso : rd.Pairwise (· ≤ ·)
  r0 : 0 < rd.length
  rn : rd.length < n
theorem LandO.same {C : Addr} {H H' : Hp} {p : Addr} {n : Nat} {es : List (Nat × Nat)} {rd : List Nat} (h : LandO C H p n es rd) (e : Same H H') : LandO C H' p n es rd := by
  obtain ⟨dx, an, ar, ay, ac, tn, ty, tc, h1, h2, h3, h4, h5, h6, h7, h8⟩ := h.at_
  exact ⟨⟨dx, an, ar, ay, ac, tn, ty, tc, e _ _ h1, e _ _ h2, h3.same e, e _ _ h4, e _ _ h5, h6.same e, e _ _ h7, h8.same e⟩, h.n2, h.n5, h.ok, h.rlt, h.rnd, h.rso, h.r0, h.rn⟩
theorem LandO.c {C : Addr} {H : Hp} {p : Addr} {n : Nat} {es : List (Nat × Nat)} {rd : List Nat} (h : LandO C H p n es rd) : LandC C H p n := by
  obtain ⟨dx, an, ar, ay, ac, tn, ty, tc, h1, _⟩ := h.at_
  exact ⟨dx, _, h1, rfl⟩
/-- a land is written while an object is made: what is not an instance stays -/
theorem keepNI {C dx x : Addr} {fs : List (Str × V)} {H : Hp} (hx : H x = some (.ins C dx fs)) {b : Addr} {o o' : HO} (hb : H b = some o) (no : ∀ C dx fs, o ≠ .ins C dx fs) : upd H x o' b = some o := by
  rw [upd_ne (fun e => by rw [e, hx] at hb; exact no _ _ _ (Option.some.inj hb).symm)]
  exact hb
theorem cells_lot {n : Nat} {lot : List Nat} (h1 : ∀ c ∈ lot, c < n) (h2 : lot.Nodup) (h3 : 0 < lot.length) : cellsV (n : Nat) (ints_ lot) 1 = true := by
  unfold cellsV
  have e1 : (ints_ lot).all (fun x => wholeV x 0 (((n : Nat) : Int) - 1)) = true := by
    refine List.all_eq_true.mpr fun x hx => ?_
    obtain ⟨c, hc, rfl⟩ := List.mem_map.mp hx
    have := h1 c hc
    rw [wholeV_int, decide_eq_true (by omega), decide_eq_true (by omega)]
    rfl
  have e2 : ((ints_ lot).map intOf).Nodup := by
    unfold ints_
    rw [List.map_map, List.nodup_iff_pairwise_ne, List.pairwise_map]
    refine (List.nodup_iff_pairwise_ne.mp h2).imp fun {a b} ne e => ne ?_
    have e : ((a : Nat) : Int) = ((b : Nat) : Int) := e
    omega
  have e3 : (ints_ lot).length = lot.length := List.length_map ..
  rw [e1, decide_eq_true e2, e3, decide_eq_true (by omega)]
  rfl
theorem ints_back {ms : List Int} {lot : List Nat} (p : ms.Perm (lot.map fun c => ((c : Nat) : Int))) : ms = (ms.map Int.toNat).map fun c => ((c : Nat) : Int) := by
  rw [List.map_map]
  refine (List.map_id ms).symm.trans (List.map_congr_left fun x hx => ?_)
  obtain ⟨c, _, rfl⟩ := List.mem_map.mp (p.mem_iff.mp hx)
  rfl
/-- one more couple of the comprehension of all of them -/
def rowC (n i j : Nat) : List (Nat × Nat) := ((List.range j).filter fun b => decide (i ≠ b)).map fun b => (i, b)
def upC (n i : Nat) : List (Nat × Nat) := (List.range i).flatMap fun a => rowC n a n
theorem upC_succ (n i : Nat) : upC n (i + 1) = upC n i ++ rowC n i n := by
  unfold upC
  rw [List.range_succ, List.flatMap_append, List.flatMap_cons, List.flatMap_nil, List.append_nil]
theorem rowC_succ (n i j : Nat) : rowC n i (j + 1) = rowC n i j ++ (if i ≠ j then [(i, j)] else []) := by
  unfold rowC
  rw [range_filter, List.map_append]
  by_cases h : i = j
  · rw [if_neg (by rw [decide_eq_false (by simpa using h)]; decide), if_neg (by simpa using h)]
    rfl
  · rw [if_pos (decide_eq_true h), if_pos h]
    rfl
theorem rowC_len (n i j : Nat) : (rowC n i j).length ≤ j := by
  unfold rowC
  rw [List.length_map]
  exact Nat.le_trans (List.length_filter_le _ _) (by rw [List.length_range]; exact Nat.le_refl _)
theorem upC_len (n : Nat) : ∀ i, (upC n i).length ≤ i * n
  | 0 => Nat.zero_le _
  | i + 1 => by
    rw [upC_succ, List.length_append, Nat.succ_mul]
    exact Nat.add_le_add (upC_len n i) (rowC_len n i n)
theorem SqOf.ni {C dx x : Addr} {fs : List (Str × V)} {H : Hp} (hx : H x = some (.ins C dx fs)) {b : Addr} {xs : List V} (h : SqOf H b xs) (o' : HO) : SqOf (upd H x o') b xs :=
  h.imp (fun z => keepNI hx z fun _ _ _ e => by cases e) fun z => keepNI hx z fun _ _ _ e => by cases e
theorem TAt.ni {C dx x : Addr} {fs : List (Str × V)} {H : Hp} (hx : H x = some (.ins C dx fs)) {ts : List Addr} {ls : List (List Nat)} (h : TAt H ts ls) (o' : HO) : TAt (upd H x o') ts ls := h.mono fun b xs hb => keepNI hx hb fun _ _ _ e => by cases e
theorem But.put {x : Addr} {H H' : Hp} (h : But x H H') (o : HO) : But x H (upd H' x o) := fun b o' nb hb => by rw [upd_ne nb]; exact h b o' nb hb
theorem But.new {x p : Addr} {H H' : Hp} (h : But x H H') (np : H' p = none) (o : HO) : But x H (upd H' p o) := fun b o' nb hb => by
  have z := h b o' nb hb
  rw [upd_ne (ne_of_none z np)]
  exact z
theorem But.same {x : Addr} {H H' H'' : Hp} (h : But x H H') (e : Same H' H'') : But x H H'' := fun b o nb hb => e _ _ (h b o nb hb)
theorem iteTo {c : Prop} [Decidable c] {p q : Prop} (h : c) (x : p) : if c then p else q := by rw [if_pos h]; exact x
theorem iteFo {b : Bool} {p q : Prop} (h : b = false) (x : q) : if b = true then p else q := by rw [h]; exact x
theorem ints_map (lot : List Nat) : ints_ lot = (lot.map fun c => ((c : Nat) : Int)).map V.int := by
  unfold ints_
  rw [List.map_map]
  rfl
section
variable {P : Program} {w : World} {K : PySem.W.Frag} {mg : Str → Option Value} {base : Heap} {a : AdL}
def spLandI (a : AdL) : Sp := fun vs H Q _ => ∃ (x dx : Addr) (n : Nat) (an : Addr) (ts : List Addr) (cs : List (Nat × Nat)) (ar : Addr) (lot : List Nat), vs = [.ref x, .int (n : Nat), .ref an, .ref ar] ∧ H x = some (.ins a.C dx []) ∧ 2 ≤ n ∧ n ≤ 5 ∧
  SqOf H an (ts.map V.ref) ∧ CoAll H ts cs ∧ Cos n cs ∧ KL.Conn n cs ∧ SqOf H ar (ints_ lot) ∧ (∀ c ∈ lot, c < n) ∧ lot.Nodup ∧ 0 < lot.length ∧ lot.length < n ∧
  ∀ H' es rd, But x H H' → LandO a.C H' x n es rd → es.Perm (cs.map KL.srt) → rd.Perm lot → Q .non H'
theorem ok_landI (T : Tl K mg a) {tM : Tok} (gM : mg "MOST_CELLS" = some (.int 5 tM)) {f fW fB fC fH fN : Addr} {fd fdW fdB fdC fdH fdN : FuncData} (F : Fun K "__init__" "Land.__init__" s_Land___init__ f fd)
    (Giw : FnOk P w K mg base CX0 1 fW fdW ["thing", "low", "high"] spWhole) (giw : mg "is_whole" = some (.ref fW)) (kiw : PySem.W.keepIn K (.ref fW) = true) (biw : Binds K fdW ["thing", "low", "high"] [])
    (Gnb : FnOk P w K mg base CX0 4 fB fdB ["cells", "thing"] spNbrs) (gnb : mg "_are_neighbours" = some (.ref fB)) (knb : PySem.W.keepIn K (.ref fB) = true) (bnb : Binds K fdB ["cells", "thing"] [])
    (Gac : FnOk P w K mg base CX0 2 fC fdC ["many", "thing", "least"] (spCells K)) (gac : mg "are_cells" = some (.ref fC)) (kac : PySem.W.keepIn K (.ref fC) = true) (bac : Binds K fdC ["many", "thing", "least"] [])
    (Ght : FnOk P w K mg base CX0 2 fH fdH ["cells", "couples"] spHang) (ght : mg "hang_together" = some (.ref fH)) (kht : PySem.W.keepIn K (.ref fH) = true) (bht : Binds K fdH ["cells", "couples"] [])
    (Gnc : FnOk P w K mg base CX0 1 fN fdN ["cells", "couples"] spNear) (gnc : mg "nearby_cells" = some (.ref fN)) (knc : PySem.W.keepIn K (.ref fN) = true) (bnc : Binds K fdN ["cells", "couples"] [])
    (m_len : mg "len" = none) (m_sorted : mg "sorted" = none) (m_tuple : mg "tuple" = none) (m_range : mg "range" = none) : FnOk P w K mg base CX0 5 f fd ["self", "cells", "neighbours", "roads"] (spLandI a) := by
  refine F.ok sc_Land___init__ (fun vs H Q E h => ?_) (fun cdv A outer s H vs Q E hr h => ?_)
  · obtain ⟨x, dx, n, an, ts, cs, ar, lot, rfl, _⟩ := h
    rfl
  · obtain ⟨x, dx, n, an, ts, cs, ar, lot, rfl, hx, n2, n5, han, hT, hc, cn, har, llt, lnd, l0, ln, q⟩ := h
    refine ⟨_, (pss_cons (ps_if (pt_not (pt_val (pe_call Giw (hr.mono (by decide)) (by rfl) giw kiw biw .nil pass0 (pa_cons (pv 1) (pa_cons pe_int (pa_cons (pe_glob (v := .int 5) rfl gM ⟨_, rfl⟩) pa_nil))))))
  (pss_one ps_never)
  pss_nil)
 (pss_cons (ps_if (pt_not (pt_val (pe_call Gnb (hr.mono (by decide)) (by rfl) gnb knb bnb .nil pass0 (pa_cons (pv 1) (pa_cons (pv 2) pa_nil)))))
  (pss_one ps_never)
  pss_nil)
 (pss_cons (ps_if (pw_or (pt_not (pt_val (pe_call Gac (hr.mono (by decide)) (by rfl) gac kac bac .nil pass0 (pa_cons (pv 1) (pa_cons (pv 3) (pa_cons pe_int pa_nil)))))) (pw_or1 (pt_cmpR op_eq (pe_callB call_len_seq (by rfl) m_len boot_len (pa_cons (pv 3) pa_nil)) (pv 1) (nomark _)))).pt
  (pss_one ps_never)
  pss_nil)
 (Evl.pss_cut (ps_set (i := 4) sc_Land___init__.nd rfl (by first | exact Or.inl rfl | exact Or.inr rfl) (pe_callB cr_sortedPO (by rfl) m_sorted boot_sorted (pa_cons (pe_lc (own := [("couple", 5)]) (g := gName 5) (tt := tYes) rfl sc_Land___init__.nd (K7E.pi_either (pi_tup (pv 2)) (pi_list (pv 2))) (blkOk_by (own := [("couple", 5)]) (N := N_Land___init__) (sc := defScope s_Land___init__) (by decide +kernel)) (fun _ _ _ _ _ => (pg_name (i := 5) sc_Land___init__.nd rfl (by first | exact Or.inl rfl | exact Or.inr rfl))) (fun _ _ _ _ _ => pts_nil) (fun _ _ _ _ _ => (pe_callTy (show CallR _ (.type "tuple") (rTup_ K) from call_tuple_of) (by rfl) m_tuple boot_tuple (pa_cons (pe_callB (show CallR _ (.builtin "sorted") (K7S.rSortA K) from K7S.cr_sortA) (by rfl) m_sorted boot_sorted (pa_cons (pv 5) pa_nil)) pa_nil)))) pa_nil)))
 (pss_cons (ps_if (pt_not (pt_val (pe_call Ght (hr.mono (by decide)) (by rfl) ght kht bht .nil pass0 (pa_cons (pv 1) (pa_cons (pv 4) pa_nil)))))
  (pss_one ps_never)
  pss_nil)
 (pss_cons (ps_fld (pv 0) (pv 1) rfl)
 (pss_cons (ps_fld (pv 0) (pe_callTy call_tuple_of (by rfl) m_tuple boot_tuple (pa_cons (pv 4) pa_nil)) rfl)
 (pss_cons (ps_fld (pv 0) (pe_callTy call_tuple_of (by rfl) m_tuple boot_tuple (pa_cons (pe_callB K7S.cr_sortA (by rfl) m_sorted boot_sorted (pa_cons (pv 3) pa_nil)) pa_nil)) rfl)
 (pss_cons (ps_fld (pv 0) (pe_call Gnc (hr.mono (by decide)) (by rfl) gnc knc bnc .nil pass0 (pa_cons (pv 1) (pa_cons (pv 4) pa_nil))) rfl)
 (pss_one (ps_fld (pv 0) (pe_callTy call_tuple_of (by rfl) m_tuple boot_tuple (pa_cons (pe_lc2 (own := [("a", 6), ("b", 7)]) (vs1 := [7]) (g := gName 6) (g1 := gName 7) (tt := tYes) rfl sc_Land___init__.nd (pi_range1 rfl m_range (pa_cons (pv 1) pa_nil)) (blkOk_by (own := [("a", 6), ("b", 7)]) (N := N_Land___init__) (sc := defScope s_Land___init__) (by decide +kernel)) (by decide) (fun _ _ _ _ _ => (pg_name (i := 6) sc_Land___init__.nd rfl (by first | exact Or.inl rfl | exact Or.inr rfl))) (fun _ _ _ _ _ => pts_nil) (fun _ _ _ _ _ => (pi_range1 rfl m_range (pa_cons (pv 1) pa_nil))) (fun _ _ _ _ _ => (pg_name (i := 7) sc_Land___init__.nd rfl (by first | exact Or.inl rfl | exact Or.inr rfl))) (fun _ _ _ _ _ => (pts_one (pt_cmpR op_ne (pv 6) (pv 7) (nomark _)))) (fun _ _ _ _ _ => (pe_tup (pa_cons (pv 6) (pa_cons (pv 7) pa_nil))))) pa_nil)) rfl))))))))))), ?_⟩
    have hl : ts.length = cs.length := hT.1
    have h32 := hc.len
    have lilen : (ints_ lot).length = lot.length := List.length_map ..
    refine ⟨_, rfl, .int (n : Nat), 2, 5, rfl, .flat (.int _), _, rfl, ?_⟩
    rw [wholeV_int, decide_eq_true (by omega), decide_eq_true (by omega)]
    refine iteF ?_
    refine ⟨_, rfl, _, rfl, n, an, ts, cs, rfl, han, hT, hc, fun H1 e1 => ⟨_, rfl, iteF ?_⟩⟩
    refine ⟨_, rfl, _, rfl, n, .ref ar, 1, rfl, .inr ⟨ar, ints_ lot, rfl, har.same e1, fun y hy => ?_, by rw [lilen]; omega, fun H2 e2 => ?_⟩⟩
    · obtain ⟨k, _, rfl⟩ := List.mem_map.mp hy
      exact .flat (.int _)
    rw [cells_lot llt lnd l0]
    have e02 := e1.trans e2
    refine ⟨_, rfl, _, rfl, ar, ints_ lot, rfl, (har.same e02).sq, _, rfl, rfl, _, rfl, ?_⟩
    rw [lilen, decide_eq_false (fun e => by injection e with e; omega)]
    refine iteF ?_
    have han2 := han.same e02
    have hT2 := hT.same e02
    -- the couples, in order
    refine ⟨fun σ' H' => ∃ p us es y5 y6 y7, σ' = [some (.ref x), some (.int (n : Nat)), some (.ref an), some (.ref ar), some (.ref p), y5, y6, y7] ∧ Same H H' ∧ H' p = some (.lst (us.map V.ref)) ∧ TAt H' us (pairs es) ∧ LandOk n es ∧ es.Perm (cs.map KL.srt), ?_, fun σ' H' hM => ?_⟩
    · rcases han2 with z | z
      · refine .inl ⟨_, rfl, an, rfl, ⟨_, .inl (.inl z)⟩, fun D hD => lc_tup (xs := ts.map V.ref) (fun j H3 => Same H2 H3 ∧ ∃ us, H3 D = some (.lst (us.map V.ref)) ∧ TAt H3 us (pairs ((cs.take j).map KL.srt)) ∧ us.length ≤ j) ⟨same_new (Same.refl H2) hD, [], upd_same, .nil, Nat.le_refl _⟩ (fun j H3 _ pv => .inl (.inl (pv.1 _ _ z))) (fun j y H3 hy pv => ?_) (fun H3 pv => ?_)⟩
        · obtain ⟨e3, us, hD3, tD, lu⟩ := pv
          rw [List.getElem?_map] at hy
          obtain ⟨t', ht', rfl⟩ := Option.map_eq_some_iff.mp hy
          have hj : j < cs.length := by rw [← hl]; exact (List.getElem?_eq_some_iff.mp ht').1
          have hco := (hT2.2 j t' _ ht' (List.getElem?_eq_getElem hj)).same e3
          refine ⟨rfl, _, rfl, t', [(cs[j].1 : Int), (cs[j].2 : Int)], rfl, hco.sq, by show 2 < 64; decide, fun ms p pm so np => ?_⟩
          have em := KL.two_sorted pm so
          subst em
          refine ⟨p, _, rfl, .inl ⟨.inl (.inl upd_same), fun l nl => ?_⟩⟩
          have s1 := same_new (o := .lst ([((min cs[j].1 cs[j].2 : Nat) : Int), ((max cs[j].1 cs[j].2 : Nat) : Int)].map V.int)) (Same.refl H3) np
          have s2 := same_new (o := .tup ([((min cs[j].1 cs[j].2 : Nat) : Int), ((max cs[j].1 cs[j].2 : Nat) : Int)].map V.int)) s1 nl
          have hD4 := s2 _ _ hD3
          refine ⟨_, hD4, by rw [List.length_map]; exact small1000 (by omega), fun b o hb => ?_, us ++ [l], by rw [upd_same, List.map_append]; rfl, ?_, by rw [List.length_append, List.length_singleton]; omega⟩
          · rw [upd_ne (ne_of_none hb hD)]
            exact s2 _ _ (e3 _ _ hb)
          · rw [List.take_add_one, List.getElem?_eq_getElem hj, List.map_append]
            unfold pairs
            rw [List.map_append]
            have up : ∀ b xs, upd (upd H3 p (.lst ([((min cs[j].1 cs[j].2 : Nat) : Int), ((max cs[j].1 cs[j].2 : Nat) : Int)].map V.int))) l (.tup ([((min cs[j].1 cs[j].2 : Nat) : Int), ((max cs[j].1 cs[j].2 : Nat) : Int)].map V.int)) b = some (.tup xs) → upd (upd (upd H3 p (.lst ([((min cs[j].1 cs[j].2 : Nat) : Int), ((max cs[j].1 cs[j].2 : Nat) : Int)].map V.int))) l (.tup ([((min cs[j].1 cs[j].2 : Nat) : Int), ((max cs[j].1 cs[j].2 : Nat) : Int)].map V.int))) D (.lst (us.map V.ref ++ [.ref l])) b = some (.tup xs) := fun b xs hb => by
              rw [upd_ne (fun e => by rw [e, hD4] at hb; cases hb)]
              exact hb
            exact ((tD.same s2).mono up).append (.cons (up _ _ upd_same) .nil)
        · obtain ⟨e3, us, hD3, tD, lu⟩ := pv
          rw [List.length_map, hl, List.take_length] at tD
          refine ⟨D, us.map V.ref, kfOf H3, rfl, .inl (.inl hD3), fun y hy => ?_, fun ys p srt stb np => ?_⟩
          · obtain ⟨b, e, rfl, hb⟩ := g_mem tD y hy
            exact ⟨b, rfl, by rw [kf_at hb]; exact hb⟩
          · have hys := fun y (hy : y ∈ ys) => g_mem tD y (stb.perm.mem_iff.mp hy)
            obtain ⟨us', rfl, tY⟩ := tat_of ys hys
            have pe : ((us'.map V.ref).map (gOf H3)).Perm (cs.map KL.srt) := by
              have z := stb.perm.map (gOf H3)
              rw [g_map tD] at z
              exact z
            have s4 := same_new (o := .lst (us'.map V.ref)) (Same.refl H3) np
            refine ⟨p, us', _, _, _, _, rfl, e02.trans (e3.trans s4), upd_same, tY.same s4, ⟨fun e he => ?_, pe.nodup_iff.mpr hc.nd, sorted_of _ hys srt, KL.conn_srt cn pe⟩, pe⟩
            obtain ⟨c, hcm, rfl⟩ := List.mem_map.mp (pe.mem_iff.mp he)
            obtain ⟨c1, c2, c3⟩ := hc.lt c hcm
            refine ⟨KL.srt_lt c3, ?_⟩
            unfold KL.srt
            simp only
            omega
      · refine .inr ⟨_, rfl, an, rfl, ⟨_, .inl (.inl z)⟩, fun D hD => lc_list (xs := ts.map V.ref) (fun j H3 => Same H2 H3 ∧ ∃ us, H3 D = some (.lst (us.map V.ref)) ∧ TAt H3 us (pairs ((cs.take j).map KL.srt)) ∧ us.length ≤ j) ⟨same_new (Same.refl H2) hD, [], upd_same, .nil, Nat.le_refl _⟩ (fun j H3 _ pv => .inl (.inl (pv.1 _ _ z))) (fun j y H3 hy pv => ?_) (fun H3 pv => ?_)⟩
        · obtain ⟨e3, us, hD3, tD, lu⟩ := pv
          rw [List.getElem?_map] at hy
          obtain ⟨t', ht', rfl⟩ := Option.map_eq_some_iff.mp hy
          have hj : j < cs.length := by rw [← hl]; exact (List.getElem?_eq_some_iff.mp ht').1
          have hco := (hT2.2 j t' _ ht' (List.getElem?_eq_getElem hj)).same e3
          refine ⟨rfl, _, rfl, t', [(cs[j].1 : Int), (cs[j].2 : Int)], rfl, hco.sq, by show 2 < 64; decide, fun ms p pm so np => ?_⟩
          have em := KL.two_sorted pm so
          subst em
          refine ⟨p, _, rfl, .inl ⟨.inl (.inl upd_same), fun l nl => ?_⟩⟩
          have s1 := same_new (o := .lst ([((min cs[j].1 cs[j].2 : Nat) : Int), ((max cs[j].1 cs[j].2 : Nat) : Int)].map V.int)) (Same.refl H3) np
          have s2 := same_new (o := .tup ([((min cs[j].1 cs[j].2 : Nat) : Int), ((max cs[j].1 cs[j].2 : Nat) : Int)].map V.int)) s1 nl
          have hD4 := s2 _ _ hD3
          refine ⟨_, hD4, by rw [List.length_map]; exact small1000 (by omega), fun b o hb => ?_, us ++ [l], by rw [upd_same, List.map_append]; rfl, ?_, by rw [List.length_append, List.length_singleton]; omega⟩
          · rw [upd_ne (ne_of_none hb hD)]
            exact s2 _ _ (e3 _ _ hb)
          · rw [List.take_add_one, List.getElem?_eq_getElem hj, List.map_append]
            unfold pairs
            rw [List.map_append]
            have up : ∀ b xs, upd (upd H3 p (.lst ([((min cs[j].1 cs[j].2 : Nat) : Int), ((max cs[j].1 cs[j].2 : Nat) : Int)].map V.int))) l (.tup ([((min cs[j].1 cs[j].2 : Nat) : Int), ((max cs[j].1 cs[j].2 : Nat) : Int)].map V.int)) b = some (.tup xs) → upd (upd (upd H3 p (.lst ([((min cs[j].1 cs[j].2 : Nat) : Int), ((max cs[j].1 cs[j].2 : Nat) : Int)].map V.int))) l (.tup ([((min cs[j].1 cs[j].2 : Nat) : Int), ((max cs[j].1 cs[j].2 : Nat) : Int)].map V.int))) D (.lst (us.map V.ref ++ [.ref l])) b = some (.tup xs) := fun b xs hb => by
              rw [upd_ne (fun e => by rw [e, hD4] at hb; cases hb)]
              exact hb
            exact ((tD.same s2).mono up).append (.cons (up _ _ upd_same) .nil)
        · obtain ⟨e3, us, hD3, tD, lu⟩ := pv
          rw [List.length_map, hl, List.take_length] at tD
          refine ⟨D, us.map V.ref, kfOf H3, rfl, .inl (.inl hD3), fun y hy => ?_, fun ys p srt stb np => ?_⟩
          · obtain ⟨b, e, rfl, hb⟩ := g_mem tD y hy
            exact ⟨b, rfl, by rw [kf_at hb]; exact hb⟩
          · have hys := fun y (hy : y ∈ ys) => g_mem tD y (stb.perm.mem_iff.mp hy)
            obtain ⟨us', rfl, tY⟩ := tat_of ys hys
            have pe : ((us'.map V.ref).map (gOf H3)).Perm (cs.map KL.srt) := by
              have z := stb.perm.map (gOf H3)
              rw [g_map tD] at z
              exact z
            have s4 := same_new (o := .lst (us'.map V.ref)) (Same.refl H3) np
            refine ⟨p, us', _, _, _, _, rfl, e02.trans (e3.trans s4), upd_same, tY.same s4, ⟨fun e he => ?_, pe.nodup_iff.mpr hc.nd, sorted_of _ hys srt, KL.conn_srt cn pe⟩, pe⟩
            obtain ⟨c, hcm, rfl⟩ := List.mem_map.mp (pe.mem_iff.mp he)
            obtain ⟨c1, c2, c3⟩ := hc.lt c hcm
            refine ⟨KL.srt_lt c3, ?_⟩
            unfold KL.srt
            simp only
            omega
    · obtain ⟨p, us, es, y5, y6, y7, rfl, eM, hp, tU, ok, pe⟩ := hM
      have esl : es.length = cs.length := by rw [pe.length_eq, List.length_map]
      refine ⟨_, rfl, _, rfl, n, p, us, es, rfl, by omega, n5, hp, tU, by omega, fun e he => ?_, ok.conn, fun H5 e5 => ⟨_, rfl, iteF ?_⟩⟩
      · obtain ⟨l1, l2⟩ := ok.lt e he
        exact ⟨by omega, l2⟩
      have b5 : But x H H5 := fun b o _ hb => e5 _ _ (eM _ _ hb)
      have hx5 := e5 _ _ (eM _ _ hx)
      have hp5 := e5 _ _ hp
      have tU5 := tU.same e5
      have har5 := (har.same eM).same e5
      -- cells
      refine ⟨_, rfl, _, rfl, x, a.C, dx, _, rfl, hx5, T.cl, T.nA _ (by decide), by show 0 < 1000; decide, ?_⟩
      have b6 := b5.put (.ins a.C dx (putF "cells" (.int (n : Nat)) []))
      have hx6 : upd H5 x (.ins a.C dx (putF "cells" (.int (n : Nat)) [])) x = _ := upd_same
      have hp6 := keepNI (o' := .ins a.C dx (putF "cells" (.int (n : Nat)) [])) hx5 hp5 fun _ _ _ e => by cases e
      have tU6 := tU5.ni hx5 (.ins a.C dx (putF "cells" (.int (n : Nat)) []))
      have har6 := har5.ni hx5 (.ins a.C dx (putF "cells" (.int (n : Nat)) []))
      generalize upd H5 x (.ins a.C dx (putF "cells" (.int (n : Nat)) [])) = H6 at b6 hx6 hp6 tU6 har6 ⊢
      -- neighbours
      refine ⟨_, rfl, p, us.map V.ref, rfl, .inl ⟨.inl (.inl hp6), fun tn ntn => ?_⟩⟩
      have s7 := same_new (o := .tup (us.map V.ref)) (Same.refl H6) ntn
      have b7 := b6.same s7
      have hx7 := s7 _ _ hx6
      refine ⟨_, rfl, x, a.C, dx, _, rfl, hx7, T.cl, T.nA _ (by decide), by show 1 < 1000; decide, ?_⟩
      have b8 := b7.put (.ins a.C dx (putF "neighbours" (.ref tn) (putF "cells" (.int (n : Nat)) [])))
      have hx8 : upd (upd H6 tn (.tup (us.map V.ref))) x (.ins a.C dx (putF "neighbours" (.ref tn) (putF "cells" (.int (n : Nat)) []))) x = _ := upd_same
      have hp8 := keepNI (o' := .ins a.C dx (putF "neighbours" (.ref tn) (putF "cells" (.int (n : Nat)) []))) hx7 (s7 _ _ hp6) fun _ _ _ e => by cases e
      have tU8 := (tU6.same s7).ni hx7 (.ins a.C dx (putF "neighbours" (.ref tn) (putF "cells" (.int (n : Nat)) [])))
      have har8 := (har6.same s7).ni hx7 (.ins a.C dx (putF "neighbours" (.ref tn) (putF "cells" (.int (n : Nat)) [])))
      have hn8 := keepNI (o' := .ins a.C dx (putF "neighbours" (.ref tn) (putF "cells" (.int (n : Nat)) []))) hx7 (show upd H6 tn (.tup (us.map V.ref)) tn = _ from upd_same) fun _ _ _ e => by cases e
      generalize upd (upd H6 tn (.tup (us.map V.ref))) x (.ins a.C dx (putF "neighbours" (.ref tn) (putF "cells" (.int (n : Nat)) []))) = H8 at b8 hx8 hp8 tU8 har8 hn8 ⊢
      -- roads
      have harI : SqOf H8 ar ((lot.map fun c => ((c : Nat) : Int)).map V.int) := by rw [← ints_map]; exact har8
      refine ⟨_, rfl, ar, lot.map fun c => ((c : Nat) : Int), rfl, harI.sq, by rw [List.length_map]; omega, fun ms pl pm so npl => ⟨pl, _, rfl, .inl ⟨.inl (.inl upd_same), fun tr ntr => ?_⟩⟩⟩
      have ems := ints_back pm
      have e12 : ms.map V.int = ints_ (ms.map Int.toNat) := by rw [ints_map, ← ems]
      rw [e12] at ntr ⊢
      have prd : (ms.map Int.toNat).Perm lot := by
        have z := pm.map Int.toNat
        rw [List.map_map] at z
        exact z.trans (List.Perm.of_eq ((List.map_congr_left fun c _ => rfl).trans (List.map_id lot)))
      have srd : (ms.map Int.toNat).Pairwise (· ≤ ·) := by
        rw [List.pairwise_map]
        exact so.imp fun {a b} h => by omega
      generalize ms.map Int.toNat = rd at prd srd ntr ⊢
      have s9 := same_new (o := .lst (ints_ rd)) (Same.refl H8) npl
      have s10 := same_new (o := .tup (ints_ rd)) s9 ntr
      have hr10 : upd (upd H8 pl (.lst (ints_ rd))) tr (.tup (ints_ rd)) tr = some (.tup (ints_ rd)) := upd_same
      generalize upd (upd H8 pl (.lst (ints_ rd))) tr (.tup (ints_ rd)) = H10 at s10 hr10 ⊢
      have hx10 := s10 _ _ hx8
      refine ⟨_, rfl, x, a.C, dx, _, rfl, hx10, T.cl, T.nA _ (by decide), by show 2 < 1000; decide, ?_⟩
      have b11 := (b8.same s10).put (.ins a.C dx (putF "roads" (.ref tr) (putF "neighbours" (.ref tn) (putF "cells" (.int (n : Nat)) []))))
      have hx11 : upd H10 x (.ins a.C dx (putF "roads" (.ref tr) (putF "neighbours" (.ref tn) (putF "cells" (.int (n : Nat)) [])))) x = _ := upd_same
      have hp11 := keepNI (o' := .ins a.C dx (putF "roads" (.ref tr) (putF "neighbours" (.ref tn) (putF "cells" (.int (n : Nat)) [])))) hx10 (s10 _ _ hp8) fun _ _ _ e => by cases e
      have tU11 := (tU8.same s10).ni hx10 (.ins a.C dx (putF "roads" (.ref tr) (putF "neighbours" (.ref tn) (putF "cells" (.int (n : Nat)) []))))
      have hn11 := keepNI (o' := .ins a.C dx (putF "roads" (.ref tr) (putF "neighbours" (.ref tn) (putF "cells" (.int (n : Nat)) [])))) hx10 (s10 _ _ hn8) fun _ _ _ e => by cases e
      have hr11 := keepNI (o' := .ins a.C dx (putF "roads" (.ref tr) (putF "neighbours" (.ref tn) (putF "cells" (.int (n : Nat)) [])))) hx10 hr10 fun _ _ _ e => by cases e
      generalize upd H10 x (.ins a.C dx (putF "roads" (.ref tr) (putF "neighbours" (.ref tn) (putF "cells" (.int (n : Nat)) [])))) = H11 at b11 hx11 hp11 tU11 hn11 hr11 ⊢
      -- nearby
      refine ⟨_, rfl, _, rfl, n, p, us, es, rfl, n5, hp11, tU11, by omega, fun H12 ty uy s12 nty hy12 tY12 => ?_⟩
      have hx12 := s12 _ _ hx11
      refine ⟨_, rfl, x, a.C, dx, _, rfl, hx12, T.cl, T.nA _ (by decide), by show 3 < 1000; decide, ?_⟩
      have b13 := (b11.same s12).put (.ins a.C dx (putF "nearby" (.ref ty) (putF "roads" (.ref tr) (putF "neighbours" (.ref tn) (putF "cells" (.int (n : Nat)) [])))))
      have hx13 : upd H12 x (.ins a.C dx (putF "nearby" (.ref ty) (putF "roads" (.ref tr) (putF "neighbours" (.ref tn) (putF "cells" (.int (n : Nat)) []))))) x = _ := upd_same
      have tU13 := (tU11.same s12).ni hx12 (.ins a.C dx (putF "nearby" (.ref ty) (putF "roads" (.ref tr) (putF "neighbours" (.ref tn) (putF "cells" (.int (n : Nat)) [])))))
      have tY13 := tY12.ni hx12 (.ins a.C dx (putF "nearby" (.ref ty) (putF "roads" (.ref tr) (putF "neighbours" (.ref tn) (putF "cells" (.int (n : Nat)) [])))))
      have hn13 := keepNI (o' := .ins a.C dx (putF "nearby" (.ref ty) (putF "roads" (.ref tr) (putF "neighbours" (.ref tn) (putF "cells" (.int (n : Nat)) []))))) hx12 (s12 _ _ hn11) fun _ _ _ e => by cases e
      have hr13 := keepNI (o' := .ins a.C dx (putF "nearby" (.ref ty) (putF "roads" (.ref tr) (putF "neighbours" (.ref tn) (putF "cells" (.int (n : Nat)) []))))) hx12 (s12 _ _ hr11) fun _ _ _ e => by cases e
      have hy13 := keepNI (o' := .ins a.C dx (putF "nearby" (.ref ty) (putF "roads" (.ref tr) (putF "neighbours" (.ref tn) (putF "cells" (.int (n : Nat)) []))))) hx12 hy12 fun _ _ _ e => by cases e
      generalize upd H12 x (.ins a.C dx (putF "nearby" (.ref ty) (putF "roads" (.ref tr) (putF "neighbours" (.ref tn) (putF "cells" (.int (n : Nat)) []))))) = H13 at b13 hx13 tU13 hn13 hr13 hy13 tY13 ⊢
      -- couples
      refine ⟨_, rfl, _, rfl, by omega, by omega, fun D hD => K7E.out_range (lo := 0) (n := n) (fun i H' => Same H13 H' ∧ ∃ vs, H' D = some (.lst (vs.map V.ref)) ∧ TAt H' vs (pairs (upC n i)) ∧ vs.length ≤ i * n) ⟨same_new (Same.refl H13) hD, [], upd_same, .nil, Nat.zero_le _⟩ (fun i H' hi pv => ?_) (fun H' pv => ?_)⟩
      · obtain ⟨e14, vs, hD14, tV, lv⟩ := pv
        refine ⟨rfl, _, rfl, _, rfl, by omega, by omega, K7E.in_range (lo := 0) (n := n) (fun j H'' => Same H13 H'' ∧ ∃ vs, H'' D = some (.lst (vs.map V.ref)) ∧ TAt H'' vs (pairs (upC n i ++ rowC n i j)) ∧ vs.length ≤ i * n + j) ⟨e14, vs, hD14, ?_, lv⟩ (fun j H'' hj pv => ?_) (fun H'' pv => ?_)⟩
        · show TAt H' vs (pairs (upC n i ++ []))
          rw [List.append_nil]
          exact tV
        · obtain ⟨e15, vs, hD15, tV, lv⟩ := pv
          refine ⟨rfl, _, rfl, _, rfl, rfl, _, rfl, ?_⟩
          by_cases hij : i = j
          · subst hij
            have er : rowC n i (i + 1) = rowC n i i := by rw [rowC_succ, if_neg (fun h => h rfl), List.append_nil]
            have e16 : (!decide (V.int (0 + (i : Nat)) = V.int (0 + (i : Nat)))) = false := by rw [decide_eq_true rfl]; rfl
            rw [e16]
            refine iteF ⟨e15, vs, hD15, ?_, by omega⟩
            rw [er]
            exact tV
          · have er : rowC n i (j + 1) = rowC n i j ++ [(i, j)] := by rw [rowC_succ, if_pos hij]
            have e16 : (!decide (V.int (0 + (i : Nat)) = V.int (0 + (j : Nat)))) = true := by
              rw [decide_eq_false (fun h => by injection h with h; exact hij (by omega))]
              rfl
            have hin : i * n ≤ 25 := Nat.le_trans (Nat.mul_le_mul (Nat.le_of_lt (Nat.lt_of_lt_of_le hi n5)) n5) (by decide)
            rw [e16]
            refine iteT ⟨_, rfl, _, rfl, by show 2 ≤ sizeLine; decide, fun t nt => ?_⟩
            rw [er]
            have sT := same_new (o := .tup [.int (0 + (i : Nat)), .int (0 + (j : Nat))]) (Same.refl H'') nt
            have up : ∀ b xs, upd H'' t (.tup [.int (0 + (i : Nat)), .int (0 + (j : Nat))]) b = some (.tup xs) → upd (upd H'' t (.tup [.int (0 + (i : Nat)), .int (0 + (j : Nat))])) D (.lst (vs.map V.ref ++ [.ref t])) b = some (.tup xs) := fun b xs hb => by
              rw [upd_ne (fun z => by rw [z, sT _ _ hD15] at hb; cases hb)]
              exact hb
            refine ⟨_, sT _ _ hD15, by rw [List.length_map]; exact small1000 (by omega), fun b o hb => ?_, vs ++ [t], by rw [upd_same, List.map_append]; rfl, ?_, by rw [List.length_append, List.length_singleton]; omega⟩
            · rw [upd_ne (ne_of_none hb hD)]
              exact sT _ _ (e15 _ _ hb)
            · rw [← List.append_assoc]
              unfold pairs
              rw [List.map_append]
              refine ((tV.same sT).mono up).append (.cons (up _ _ ?_) .nil)
              rw [upd_same, Int.zero_add, Int.zero_add]
              rfl
        · obtain ⟨e15, vs, hD15, tV, lv⟩ := pv
          exact ⟨e15, vs, hD15, by rw [upC_succ]; exact tV, by rw [Nat.succ_mul]; exact lv⟩
      · obtain ⟨e14, vs, hD14, tV, lv⟩ := pv
        refine ⟨D, vs.map V.ref, rfl, .inl ⟨.inl (.inl hD14), fun tc ntc => ?_⟩⟩
        have sC := same_new (o := .tup (vs.map V.ref)) e14 ntc
        have hc14 : upd H' tc (.tup (vs.map V.ref)) tc = some (.tup (vs.map V.ref)) := upd_same
        have tV14 := tV.same (same_new (o := .tup (vs.map V.ref)) (Same.refl H') ntc)
        generalize upd H' tc (.tup (vs.map V.ref)) = H15 at sC hc14 tV14 ⊢
        have hx15 := sC _ _ hx13
        refine ⟨_, rfl, x, a.C, dx, _, rfl, hx15, T.cl, T.nA _ (by decide), by show 4 < 1000; decide, ?_⟩
        have no : ∀ (xs : List V) (C dx : Addr) fs, HO.tup xs ≠ .ins C dx fs := fun _ _ _ _ e => by cases e
        exact q _ es rd ((b13.same sC).put _) ⟨⟨dx, tn, tr, ty, tc, us, uy, vs, upd_same, keepNI hx15 (sC _ _ hn13) (no _), (tU13.same sC).ni hx15 _, keepNI hx15 (sC _ _ hr13) (no _), keepNI hx15 (sC _ _ hy13) (no _), (tY13.same sC).ni hx15 _, keepNI hx15 hc14 (no _), tV14.ni hx15 _⟩,
          n2, n5, ok, fun c hc => llt c (prd.mem_iff.mp hc), prd.nodup_iff.mpr lnd, srd, by rw [prd.length_eq]; exact l0, by rw [prd.length_eq]; exact ln⟩ pe prd
end
end K7
end
/-! ## P13 -/
section
open PySem PySem.Spec PyProof.Rows L2
namespace K7
theorem near_get {n : Nat} {es : List (Nat × Nat)} {c : Nat} (h : c < n) : (nearV n es)[c]? = some ((List.range n).filter fun b => decide ((c, b) ∈ es) || decide ((b, c) ∈ es)) := by
  unfold nearV
  rw [List.getElem?_map, List.getElem?_range h]
  rfl
def nearOf (n : Nat) (es : List (Nat × Nat)) (c : Nat) : List Nat := (List.range n).filter fun b => decide ((c, b) ∈ es) || decide ((b, c) ∈ es)
/-- a cell, or what is no cell and is told so -/
def CellOr (B : Addr) (n : Nat) (H : Hp) (x : V) (E : XK) (q : Nat → Prop) : Prop := (∃ c, x = .int (c : Nat) ∧ c < n ∧ q c) ∨ (Thing H x ∧ wholeV x 0 ((n : Nat) - 1) = false ∧ Flies H B "cell" x E)
theorem whole_cell {n c : Nat} (h : c < n) : wholeV (.int (c : Nat)) 0 (((n : Nat) : Int) - 1) = true := by
  rw [wholeV_int, decide_eq_true (by omega), decide_eq_true (by omega)]
  rfl
theorem one_in {n c : Nat} (h : c < n) : AllIn n [.int (c : Nat)] := fun x hx => by
  rw [List.mem_singleton.mp hx]
  exact whole_cell h
section
variable {P : Program} {w : World} {K : PySem.W.Frag} {mg : Str → Option Value} {base : Heap} {a : AdL}
def NoSeq (K : PySem.W.Frag) (H : Hp) (x : V) : Prop := ∃ t : String, (∀ H1, Same H H1 → TyX K H1 x (.type t)) ∧ PySem.W.kitAny K (.type t) [.type "list", .type "tuple"] = some false
def spIsLot (K : PySem.W.Frag) (C : Addr) : Sp := fun vs H Q _ => ∃ (p : Addr) (n : Nat) (x : V) (least : Int), vs = [.ref p, x, .int least] ∧ LandC C H p n ∧
  ((NoSeq K H x ∧ ∀ H1, Same H H1 → Q (.bl false) H1) ∨ (∃ (b : Addr) (xs : List V), x = .ref b ∧ SqOf H b xs ∧ (∀ y ∈ xs, Thing H y) ∧ xs.length < 64 ∧ ∀ H1, Same H H1 → Q (.bl (cellsV (n : Nat) xs least)) H1))
theorem ok_islot (T : Tl K mg a) {f fC : Addr} {fd fdC : FuncData} (F : Fun K "is_lot" "is_lot" s_is_lot f fd)
    (Gac : FnOk P w K mg base CX0 2 fC fdC ["many", "thing", "least"] (spCells K)) (gac : mg "are_cells" = some (.ref fC)) (kac : PySem.W.keepIn K (.ref fC) = true) (bac : Binds K fdC ["many", "thing", "least"] []) : FnOk P w K mg base CX0 3 f fd ["land", "thing", "least"] (spIsLot K a.C) := by
  refine F.ok sc_is_lot (fun vs H Q E h => ?_) (fun cdv A outer s H vs Q E hr h => ?_)
  · obtain ⟨p, n, x, l, rfl, _⟩ := h
    rfl
  · obtain ⟨p, n, x, l, rfl, ⟨dx, fs, hp, hl⟩, h⟩ := h
    refine ⟨_, (pss_one (ps_ret (pe_call Gac (hr.mono (by decide)) (by rfl) gac kac bac .nil pass0 (pa_cons (pe_fld (pv 0) rfl) (pa_cons (pv 1) (pa_cons (pv 2) pa_nil)))))), ?_⟩
    refine ⟨_, rfl, p, a.C, dx, fs, _, rfl, hp, T.cl, T.nA _ (by decide), hl, _, rfl, _, rfl, (n : Nat), x, l, rfl, ?_⟩
    rcases h with ⟨⟨t, ty, k⟩, q⟩ | ⟨b, xs, rfl, hb, th, h64, q⟩
    · exact .inl ⟨t, ty, k, q⟩
    · exact .inr ⟨b, xs, rfl, hb, th, h64, q⟩
end
end K7
end
/-! ## MN -/
section
/-! min of a list of data that can be compared with one another. -/
namespace K7S
open PySem PySem.Spec PyProof.Rows L2
section
variable {X : Cx}
def rMinD (K : PySem.W.Frag) : List V → Hp → VK → Prop := fun vs H Q => ∃ (a : Addr) (xs : List V) (d : PyData) (ds : List PyData), vs = [V.ref a] ∧ SqL K H a xs ∧ DpAll K H xs (d :: ds) ∧
  PySem.W.AlikeAll (d :: ds) ∧ PyData.canLayAll0 (d :: ds) = true ∧ PyData.depthAll (d :: ds) ≤ 64 ∧ ∀ (i : Nat) (v : V), xs[i]? = some v → (d :: ds)[i]? = some (PySem.W.minD d ds) → Q v H
theorem vals_back {vs : List V} {us : List Value} (r : Vals vs us) : ∀ {i : Nat} {u : Value}, us[i]? = some u → ∃ v, vs[i]? = some v ∧ RelV v u := by
  induction r with
  | nil => exact fun {i u} h => nomatch h
  | cons r1 _ ih =>
    intro i u h
    cases i with
    | zero =>
      obtain rfl := Option.some.inj h
      exact ⟨_, rfl, r1⟩
    | succ i => exact ih (i := i) h
theorem minD_mem (d : PyData) : ∀ ds : List PyData, PySem.W.minD d ds ∈ d :: ds := by
  intro ds
  have z : ∀ (ds : List PyData) (a : PyData), ds.foldl (fun a y => if PySem.W.dataLt y a then y else a) a ∈ a :: ds := by
    intro ds
    induction ds with
    | nil => exact fun a => List.mem_cons_self ..
    | cons y ds ih =>
      intro a
      rcases List.mem_cons.mp (ih (if PySem.W.dataLt y a then y else a)) with e | e
      · rw [List.foldl_cons, e]
        split
        · exact List.mem_cons_of_mem _ (List.mem_cons_self ..)
        · exact List.mem_cons_self ..
      · exact List.mem_cons_of_mem _ (List.mem_cons_of_mem _ e)
  exact z ds d
theorem cr_minD (hc : X.calm = true) (hu : X.A.units + 65 < cLine) : CallR X (.builtin "min") (rMinD X.K) := by
  intro pins s τ H vs us Q I r h
  obtain ⟨a, xs, d, ds, rfl, hs, hd, hal, hlay, hdep, q⟩ := h
  obtain ⟨its, rv, hl, _⟩ := I.list hs
  rw [Vals.ref1 r]
  obtain ⟨as, hr⟩ := Dp.readsAll I (d :: ds) _ its hd rv
  have hmap : its.map (SeqAt.readOf s.heap) = d :: ds := SeqAt.readsAll_map (d :: ds) its as hlay hr
  refine PySem.W.min_list_data (I.ok.hd hc) hl.isList hr hal (by omega) fun i v h' tk bs hv hrd hk => ?_
  have hv : its[i]? = some v := by simpa using hv
  obtain ⟨x, hx, rx⟩ := vals_back rv hv
  have hi := congrArg (fun l : List PyData => l[i]?) hmap
  simp only [List.getElem?_map, hv, Option.map_some] at hi
  have all : ∀ (l : List PyData), PyData.canLayAll0 l = true → ∀ z ∈ l, z.canLay0 = true := by
    intro l
    induction l with
    | nil => exact fun _ z hz => nomatch hz
    | cons y l ih =>
      intro h z hz
      rw [PyData.canLayAll0, Bool.and_eq_true] at h
      rcases List.mem_cons.mp hz with rfl | hz
      · exact h.1
      · exact ih h.2 z hz
  obtain ⟨cs, r1, _, m1, _⟩ := PySem.W.readsAll_at hr i v hv
  have e1 := SeqAt.readOf_eq (all _ hlay _ m1) (PySem.W.reads_keeps hk r1)
  have e2 := SeqAt.readOf_eq (all _ hlay _ (minD_mem d ds)) hrd
  have e3 := SeqAt.readOf_eq (all _ hlay _ m1) r1
  refine ⟨x, H, I.kept (t' := tk) hk, rx, q i x hx (hi.symm.trans ?_)⟩
  rw [e3, ← e1, e2]
end
end K7S
end
/-! ## OR -/
section
open PySem PySem.Spec PyProof.Rows L2
namespace K7
/-! ### orders of cells -/
def at_ (o : List Nat) (c : Nat) : Nat := o.getD c 0
structure IsOrd (n : Nat) (o : List Nat) : Prop where
  len : o.length = n
  lt : ∀ c ∈ o, c < n
  nd : o.Nodup
def rowO (n : Nat) (o : List Nat) (j : Nat) : List (List Nat) := ((List.range j).filter fun c => !decide (c ∈ o)).map fun c => o ++ [c]
def stepO (n : Nat) (rows : List (List Nat)) : List (List Nat) := rows.flatMap fun o => rowO n o n
def itO (n : Nat) : Nat → List (List Nat)
  | 0 => [[]]
  | k + 1 => stepO n (itO n k)
def ords (n : Nat) : List (List Nat) := itO n n
theorem rowO_succ (n : Nat) (o : List Nat) (j : Nat) : rowO n o (j + 1) = rowO n o j ++ (if (!decide (j ∈ o)) = true then [o ++ [j]] else []) := by
  unfold rowO
  rw [range_filter, List.map_append]
  congr 1
  by_cases h : (!decide (j ∈ o)) = true
  · rw [if_pos h, if_pos h]; rfl
  · rw [if_neg h, if_neg h]; rfl
theorem rowO_len (n : Nat) (o : List Nat) (j : Nat) : (rowO n o j).length ≤ j := by
  unfold rowO
  rw [List.length_map]
  exact Nat.le_trans (List.length_filter_le _ _) (by rw [List.length_range]; exact Nat.le_refl _)
theorem step_snoc (n : Nat) (rows : List (List Nat)) (o : List Nat) : stepO n (rows ++ [o]) = stepO n rows ++ rowO n o n := by
  unfold stepO
  rw [List.flatMap_append, List.flatMap_cons, List.flatMap_nil, List.append_nil]
theorem step_len (n : Nat) : ∀ rows : List (List Nat), (stepO n rows).length ≤ rows.length * n
  | [] => Nat.zero_le _
  | o :: rows => by
    have h := step_len n rows
    have h2 := rowO_len n o n
    show (rowO n o n ++ stepO n rows).length ≤ _
    rw [List.length_append, List.length_cons, Nat.succ_mul]
    omega
theorem itO_len : ∀ n : Fin 6, ∀ k : Fin 6, k.val ≤ n.val → (itO n.val k.val).length ≤ 120 := by decide +kernel
theorem mem_rowO {n : Nat} {o x : List Nat} {j : Nat} : x ∈ rowO n o j ↔ ∃ c, c < j ∧ c ∉ o ∧ x = o ++ [c] := by
  unfold rowO
  rw [List.mem_map]
  constructor
  · rintro ⟨c, hc, rfl⟩
    rw [List.mem_filter, List.mem_range] at hc
    exact ⟨c, hc.1, by simpa using hc.2, rfl⟩
  · rintro ⟨c, h1, h2, rfl⟩
    exact ⟨c, List.mem_filter.mpr ⟨List.mem_range.mpr h1, by simpa using h2⟩, rfl⟩
theorem mem_itO (n : Nat) : ∀ (k : Nat) (x : List Nat), x ∈ itO n k ↔ x.length = k ∧ (∀ c ∈ x, c < n) ∧ x.Nodup
  | 0, x => by
    show x ∈ [[]] ↔ _
    rw [List.mem_singleton]
    constructor
    · rintro rfl
      exact ⟨rfl, fun c hc => (nomatch hc), List.nodup_nil⟩
    · exact fun h => List.length_eq_zero_iff.mp h.1
  | k + 1, x => by
    show x ∈ stepO n (itO n k) ↔ _
    unfold stepO
    rw [List.mem_flatMap]
    constructor
    · rintro ⟨o, ho, hx⟩
      obtain ⟨c, hc, hno, rfl⟩ := mem_rowO.mp hx
      obtain ⟨h1, h2, h3⟩ := (mem_itO n k o).mp ho
      refine ⟨by rw [List.length_append, h1]; rfl, fun d hd => ?_, ?_⟩
      · rcases List.mem_append.mp hd with hd | hd
        · exact h2 d hd
        · rw [List.mem_singleton.mp hd]; exact hc
      · rw [List.nodup_append]
        exact ⟨h3, List.nodup_cons.mpr ⟨List.not_mem_nil, List.nodup_nil⟩, fun a ha b hb e => hno (by rw [← List.mem_singleton.mp hb, ← e]; exact ha)⟩
    · rintro ⟨h1, h2, h3⟩
      have ne : x ≠ [] := fun e => by rw [e] at h1; cases h1
      have ex := List.dropLast_concat_getLast ne
      refine ⟨x.dropLast, (mem_itO n k _).mpr ⟨by rw [List.length_dropLast, h1]; rfl, fun c hc => h2 c (List.dropLast_subset x hc), h3.sublist (List.dropLast_sublist x)⟩, mem_rowO.mpr ⟨x.getLast ne, h2 _ (List.getLast_mem ne), fun m => ?_, ex.symm⟩⟩
      rw [← ex, List.nodup_append] at h3
      exact h3.2.2 _ m _ (List.mem_singleton.mpr rfl) rfl
theorem mem_ords {n : Nat} {x : List Nat} : x ∈ ords n ↔ IsOrd n x := (mem_itO n n x).trans ⟨fun h => ⟨h.1, h.2.1, h.2.2⟩, fun h => ⟨h.len, h.lt, h.nd⟩⟩
theorem IsOrd.perm {n : Nat} {o : List Nat} (h : IsOrd n o) : o.Perm (List.range n) := by
  refine (List.perm_ext_iff_of_nodup h.nd List.nodup_range).mpr fun d => ⟨fun m => List.mem_range.mpr (h.lt d m), fun m => ?_⟩
  refine Classical.byContradiction fun no => ?_
  have z := List.Nodup.length_le_of_subset (l₁ := d :: o) (l₂ := List.range n) (List.nodup_cons.mpr ⟨no, h.nd⟩) fun c hc => by
    rcases List.mem_cons.mp hc with rfl | hc
    · exact m
    · exact List.mem_range.mpr (h.lt c hc)
  rw [List.length_cons, List.length_range, h.len] at z
  omega
theorem at_get {o : List Nat} {c : Nat} (h : c < o.length) : at_ o c = o[c] := by
  unfold at_
  rw [List.getD_eq_getElem?_getD, List.getElem?_eq_getElem h]
  rfl
theorem IsOrd.at_lt {n : Nat} {o : List Nat} (h : IsOrd n o) {c : Nat} (hc : c < n) : at_ o c < n := by
  have l : c < o.length := by rw [h.len]; exact hc
  rw [at_get l]
  exact h.lt _ (List.getElem_mem l)
theorem IsOrd.inj {n : Nat} {o : List Nat} (h : IsOrd n o) {c d : Nat} (hc : c < n) (hd : d < n) (e : at_ o c = at_ o d) : c = d := by
  have l1 : c < o.length := by rw [h.len]; exact hc
  have l2 : d < o.length := by rw [h.len]; exact hd
  rw [at_get l1, at_get l2] at e
  exact (List.getElem_inj h.nd).mp e
theorem IsOrd.surj {n : Nat} {o : List Nat} (h : IsOrd n o) {d : Nat} (hd : d < n) : ∃ c, c < n ∧ at_ o c = d := by
  have m : d ∈ o := h.perm.mem_iff.mpr (List.mem_range.mpr hd)
  obtain ⟨c, hc, e⟩ := List.getElem_of_mem m
  exact ⟨c, by rw [← h.len]; exact hc, by rw [at_get hc]; exact e⟩
theorem ord_map {n : Nat} (f : Nat → Nat) (h1 : ∀ c, c < n → f c < n) (h2 : ∀ c d, c < n → d < n → f c = f d → c = d) : IsOrd n ((List.range n).map f) ∧ ∀ c, c < n → at_ ((List.range n).map f) c = f c := by
  refine ⟨⟨by rw [List.length_map, List.length_range], fun c hc => ?_, ?_⟩, fun c hc => ?_⟩
  · obtain ⟨d, hd, rfl⟩ := List.mem_map.mp hc
    exact h1 d (List.mem_range.mp hd)
  · rw [List.nodup_iff_pairwise_ne, List.pairwise_map]
    refine (List.nodup_iff_pairwise_ne.mp (List.nodup_range (n := n))).imp_of_mem fun {a b} ha hb ne e => ne (h2 a b (List.mem_range.mp ha) (List.mem_range.mp hb) e)
  · rw [at_get (by rw [List.length_map, List.length_range]; exact hc), List.getElem_map, List.getElem_range]
/-- one order behind another -/
theorem ord_comp {n : Nat} {o p : List Nat} (ho : IsOrd n o) (hp : IsOrd n p) : ∃ q, IsOrd n q ∧ ∀ c, c < n → at_ q c = at_ p (at_ o c) := by
  obtain ⟨h1, h2⟩ := ord_map (n := n) (fun c => at_ p (at_ o c)) (fun c hc => hp.at_lt (ho.at_lt hc)) fun c d hc hd e => ho.inj hc hd (hp.inj (ho.at_lt hc) (ho.at_lt hd) e)
  exact ⟨_, h1, h2⟩
/-- the order that leads back -/
theorem ord_inv {n : Nat} {o : List Nat} (ho : IsOrd n o) : ∃ q, IsOrd n q ∧ ∀ c, c < n → at_ q (at_ o c) = c := by
  have hx : ∀ d, d < n → o.idxOf d < n ∧ at_ o (o.idxOf d) = d := fun d hd => by
    have m : d ∈ o := ho.perm.mem_iff.mpr (List.mem_range.mpr hd)
    have l := List.idxOf_lt_length_of_mem m
    refine ⟨by rw [← ho.len]; exact l, ?_⟩
    rw [at_get l]
    exact List.getElem_idxOf l
  obtain ⟨h1, h2⟩ := ord_map (n := n) (fun d => o.idxOf d) (fun d hd => (hx d hd).1) fun c d hc hd e => by
    rw [← (hx c hc).2, ← (hx d hd).2]
    exact congrArg (at_ o) e
  refine ⟨_, h1, fun c hc => ?_⟩
  rw [h2 _ (ho.at_lt hc)]
  exact ho.inj ((hx _ (ho.at_lt hc)).1) hc (hx _ (ho.at_lt hc)).2
/-! ### lands led -/
abbrev Part := List (Nat × Nat) × List Nat
def leB (a b : Nat × Nat) : Bool := decide (a.1 < b.1 ∨ (a.1 = b.1 ∧ a.2 ≤ b.2))
def ledE (o : List Nat) (es : List (Nat × Nat)) : List (Nat × Nat) := (es.map fun e => KL.srt (at_ o e.1, at_ o e.2)).mergeSort leB
def ledR (o : List Nat) (rd : List Nat) : List Nat := (rd.map (at_ o)).mergeSort fun a b => decide (a ≤ b)
def led (o : List Nat) (x : Part) : Part := (ledE o x.1, ledR o x.2)
theorem ledE_perm (o : List Nat) (es : List (Nat × Nat)) : (ledE o es).Perm (es.map fun e => KL.srt (at_ o e.1, at_ o e.2)) := List.mergeSort_perm _ _
theorem ledR_perm (o rd : List Nat) : (ledR o rd).Perm (rd.map (at_ o)) := List.mergeSort_perm _ _
theorem ledE_sorted (o : List Nat) (es : List (Nat × Nat)) : (ledE o es).Pairwise KL.lexLe := by
  have h := List.pairwise_mergeSort (le := leB) (fun a b c h1 h2 => by unfold leB at *; simp only [decide_eq_true_eq] at *; omega) (fun a b => by unfold leB; simp only [Bool.or_eq_true, decide_eq_true_eq]; omega) (es.map fun e => KL.srt (at_ o e.1, at_ o e.2))
  exact h.imp fun {a b} e => of_decide_eq_true e
theorem ledR_sorted (o rd : List Nat) : (ledR o rd).Pairwise (· ≤ ·) := by
  have h := List.pairwise_mergeSort (le := fun a b : Nat => decide (a ≤ b)) (fun a b c h1 h2 => by simp only [decide_eq_true_eq] at *; omega) (fun a b => by simp only [Bool.or_eq_true, decide_eq_true_eq]; omega) (rd.map (at_ o))
  exact h.imp fun {a b} e => of_decide_eq_true e
theorem ledE_is {o : List Nat} {es ys : List (Nat × Nat)} (p : ys.Perm (es.map fun e => KL.srt (at_ o e.1, at_ o e.2))) (hs : ys.Pairwise KL.lexLe) : ys = ledE o es :=
  KL.uniq KL.lex_anti (p.trans (ledE_perm o es).symm) hs (ledE_sorted o es)
theorem ledR_is {o rd ys : List Nat} (p : ys.Perm (rd.map (at_ o))) (hs : ys.Pairwise (· ≤ ·)) : ys = ledR o rd :=
  KL.uniq (fun a b (h1 : a ≤ b) (h2 : b ≤ a) => Nat.le_antisymm h1 h2) (p.trans (ledR_perm o rd).symm) hs (ledR_sorted o rd)
/-- the parts that a land has -/
structure PartOk (n : Nat) (x : Part) : Prop where
  ok : LandOk n x.1
  rlt : ∀ c ∈ x.2, c < n
  rnd : x.2.Nodup
  rso : x.2.Pairwise (· ≤ ·)
  r0 : 0 < x.2.length
  rn : x.2.length < n
theorem srt_srt (o : List Nat) (a b : Nat) : KL.srt (at_ o (KL.srt (a, b)).1, at_ o (KL.srt (a, b)).2) = KL.srt (at_ o a, at_ o b) := by
  unfold KL.srt
  simp only
  rcases Nat.le_total a b with h | h
  · rw [Nat.min_eq_left h, Nat.max_eq_right h]
  · rw [Nat.min_eq_right h, Nat.max_eq_left h, Nat.min_comm, Nat.max_comm]
theorem led_led {n : Nat} {o p q : List Nat} {x : Part} (hx : PartOk n x) (hq : ∀ c, c < n → at_ q c = at_ p (at_ o c)) : led p (led o x) = led q x := by
  obtain ⟨es, rd⟩ := x
  refine Prod.ext ?_ ?_
  · refine ledE_is ?_ (ledE_sorted _ _)
    refine (ledE_perm p (ledE o es)).trans (((ledE_perm o es).map _).trans ?_)
    rw [List.map_map]
    refine List.Perm.of_eq (List.map_congr_left fun e he => ?_)
    obtain ⟨h1, h2⟩ := hx.ok.lt e he
    show KL.srt (at_ p (KL.srt (at_ o e.1, at_ o e.2)).1, at_ p (KL.srt (at_ o e.1, at_ o e.2)).2) = _
    rw [srt_srt, hq _ (by omega), hq _ h2]
  · refine ledR_is ?_ (ledR_sorted _ _)
    refine (ledR_perm p (ledR o rd)).trans (((ledR_perm o rd).map _).trans ?_)
    rw [List.map_map]
    exact List.Perm.of_eq (List.map_congr_left fun c hc => (hq c (hx.rlt c hc)).symm)
theorem led_back {n : Nat} {o : List Nat} {x : Part} (hx : PartOk n x) (ho : ∀ c, c < n → at_ o c = c) : led o x = x := by
  obtain ⟨es, rd⟩ := x
  refine Prod.ext ?_ ?_
  · refine (ledE_is ?_ (hx.ok.sorted.imp fun h => h)).symm
    refine List.Perm.of_eq ((List.map_id es).symm.trans (List.map_congr_left fun e he => ?_))
    obtain ⟨h1, h2⟩ := hx.ok.lt e he
    rw [ho _ (by omega), ho _ h2, KL.srt_of h1]
    rfl
  · refine (ledR_is ?_ hx.rso).symm
    exact List.Perm.of_eq ((List.map_id rd).symm.trans (List.map_congr_left fun c hc => (ho c (hx.rlt c hc)).symm))
theorem led_conn {n : Nat} {o : List Nat} {es : List (Nat × Nat)} (ho : IsOrd n o) (n2 : 0 < n) (h : KL.Conn n es) (lt : ∀ e ∈ es, e.1 < e.2 ∧ e.2 < n) : KL.Conn n (ledE o es) := by
  intro S h0 he c hc
  have edge : ∀ e ∈ es, S (at_ o e.1) = S (at_ o e.2) := fun e m => by
    have z := he (KL.srt (at_ o e.1, at_ o e.2)) ((ledE_perm o es).mem_iff.mpr (List.mem_map.mpr ⟨e, m, rfl⟩))
    unfold KL.srt at z
    simp only at z
    rcases Nat.le_total (at_ o e.1) (at_ o e.2) with y | y
    · rw [Nat.min_eq_left y, Nat.max_eq_right y] at z; exact z
    · rw [Nat.min_eq_right y, Nat.max_eq_left y] at z; exact z.symm
  have all := h (fun c => S (at_ o c) == S (at_ o 0)) (by simp) fun e m => by
    show (S (at_ o e.1) == S (at_ o 0)) = (S (at_ o e.2) == S (at_ o 0))
    rw [edge e m]
  obtain ⟨c0, k0, e0⟩ := ho.surj n2
  have z0 := all c0 k0
  rw [e0, h0] at z0
  obtain ⟨c1, k1, e1⟩ := ho.surj hc
  have z1 := all c1 k1
  rw [e1] at z1
  have z0 : true = S (at_ o 0) := by simpa using z0
  have z1 : S c = S (at_ o 0) := by simpa using z1
  rw [z1, ← z0]
theorem led_cos {n : Nat} {o : List Nat} {es : List (Nat × Nat)} (ho : IsOrd n o) (n5 : n ≤ 5) (ok : LandOk n es) (h32 : es.length ≤ 32) : Cos n (ledE o es) ∧ (ledE o es).map KL.srt = ledE o es := by
  have mem : ∀ c ∈ ledE o es, ∃ e ∈ es, c = KL.srt (at_ o e.1, at_ o e.2) := fun c hc => by
    obtain ⟨e, he, rfl⟩ := List.mem_map.mp ((ledE_perm o es).mem_iff.mp hc)
    exact ⟨e, he, rfl⟩
  have lt : ∀ c ∈ ledE o es, c.1 < c.2 ∧ c.2 < n := fun c hc => by
    obtain ⟨e, he, rfl⟩ := mem c hc
    obtain ⟨h1, h2⟩ := ok.lt e he
    have a := ho.at_lt (c := e.1) (by omega)
    have b := ho.at_lt h2
    have ne : at_ o e.1 ≠ at_ o e.2 := fun z => by
      have := ho.inj (by omega) h2 z
      omega
    refine ⟨KL.srt_lt ne, ?_⟩
    unfold KL.srt
    simp only
    omega
  have em : (ledE o es).map KL.srt = ledE o es := (List.map_congr_left fun c hc => KL.srt_of (lt c hc).1).trans (List.map_id _)
  refine ⟨⟨fun c hc => ⟨by have := lt c hc; omega, (lt c hc).2, by have := lt c hc; omega⟩, ?_, by rw [(ledE_perm o es).length_eq, List.length_map]; exact h32⟩, em⟩
  rw [em, (ledE_perm o es).nodup_iff, List.nodup_iff_pairwise_ne, List.pairwise_map]
  refine (List.nodup_iff_pairwise_ne.mp ok.nd).imp_of_mem fun {a b} ha hb ne e => ne ?_
  obtain ⟨a1, a2⟩ := ok.lt a ha
  obtain ⟨b1, b2⟩ := ok.lt b hb
  unfold KL.srt at e
  injection e with e1 e2
  simp only at e1 e2
  have i1 := fun z => ho.inj (c := a.1) (d := b.1) (by omega) (by omega) z
  have i2 := fun z => ho.inj (c := a.2) (d := b.2) (by omega) (by omega) z
  have i3 := fun z => ho.inj (c := a.1) (d := b.2) (by omega) (by omega) z
  have i4 := fun z => ho.inj (c := a.2) (d := b.1) (by omega) (by omega) z
  have cs : (at_ o a.1 = at_ o b.1 ∧ at_ o a.2 = at_ o b.2) ∨ (at_ o a.1 = at_ o b.2 ∧ at_ o a.2 = at_ o b.1) := by omega
  rcases cs with ⟨z1, z2⟩ | ⟨z1, z2⟩
  · exact Prod.ext (i1 z1) (i2 z2)
  · have := i3 z1
    have := i4 z2
    omega
theorem led_ok {n : Nat} {o : List Nat} {x : Part} (ho : IsOrd n o) (n2 : 0 < n) (n5 : n ≤ 5) (h32 : x.1.length ≤ 32) (hx : PartOk n x) : PartOk n (led o x) := by
  obtain ⟨es, rd⟩ := x
  obtain ⟨c, em⟩ := led_cos ho n5 hx.ok h32
  have rp := ledR_perm o rd
  refine ⟨⟨fun e he => ?_, ?_, ledE_sorted o es, led_conn ho n2 hx.ok.conn hx.ok.lt⟩, fun c hc => ?_, ?_, ledR_sorted o rd, ?_, ?_⟩
  · have z := c.lt e he
    have := KL.srt_le e
    have e1 : KL.srt e = e := by
      obtain ⟨e', he', rfl⟩ := List.mem_map.mp ((ledE_perm o es).mem_iff.mp he)
      unfold KL.srt
      simp only
      refine Prod.ext ?_ ?_ <;> simp only <;> omega
    rw [e1] at this
    omega
  · have := c.nd
    rw [em] at this
    exact this
  · obtain ⟨d, hd, rfl⟩ := List.mem_map.mp (rp.mem_iff.mp hc)
    exact ho.at_lt (hx.rlt d hd)
  · show (ledR o rd).Nodup
    rw [rp.nodup_iff, List.nodup_iff_pairwise_ne, List.pairwise_map]
    exact (List.nodup_iff_pairwise_ne.mp hx.rnd).imp_of_mem fun {a b} ha hb ne e => ne (ho.inj (hx.rlt a ha) (hx.rlt b hb) e)
  · show 0 < (ledR o rd).length
    rw [rp.length_eq, List.length_map]
    exact hx.r0
  · show (ledR o rd).length < n
    rw [rp.length_eq, List.length_map]
    exact hx.rn
/-- alike: an order leads the one to the other -/
def AlikeP (n : Nat) (x y : Part) : Prop := ∃ o ∈ ords n, led o x = y
theorem alike_symm {n : Nat} {x y : Part} (hx : PartOk n x) (h : AlikeP n x y) : AlikeP n y x := by
  obtain ⟨o, ho, rfl⟩ := h
  have io := mem_ords.mp ho
  obtain ⟨q, iq, e⟩ := ord_inv io
  refine ⟨q, mem_ords.mpr iq, ?_⟩
  obtain ⟨h1, h2⟩ := ord_map (n := n) (fun c => c) (fun c hc => hc) (fun c d _ _ e => e)
  rw [led_led hx (q := (List.range n).map fun c => c) fun c hc => by rw [h2 c hc, e c hc]]
  exact led_back hx h2
theorem alike_trans {n : Nat} {x y z : Part} (hx : PartOk n x) (h : AlikeP n x y) (h' : AlikeP n y z) : AlikeP n x z := by
  obtain ⟨o, ho, rfl⟩ := h
  obtain ⟨p, hp, rfl⟩ := h'
  obtain ⟨q, iq, e⟩ := ord_comp (mem_ords.mp ho) (mem_ords.mp hp)
  exact ⟨q, mem_ords.mpr iq, (led_led hx e).symm⟩
end K7
end
/-! ## ORM -/
section
open PySem PySem.Spec PyProof.Rows L2
namespace K7
/-! ### data of lands -/
theorem eqv_ints : ∀ l m : List Nat, PyData.eqvAll (l.map fun c => PyData.int (c : Nat)) (m.map fun c => PyData.int (c : Nat)) = decide (l = m)
  | [], [] => rfl
  | [], _ :: _ => by simp [PyData.eqvAll]
  | _ :: _, [] => by simp [PyData.eqvAll]
  | x :: l, y :: m => by
    rw [List.map_cons, List.map_cons, PyData.eqvAll, eqv_ints l m]
    by_cases e : x = y
    · subst e
      simp [PyData.eqv]
    · have e2 : ¬ ((x : Nat) : Int) = (y : Nat) := by omega
      simp [PyData.eqv, e, e2]
theorem eqv_intD (l m : List Nat) : PyData.eqv (intD l) (intD m) = decide (l = m) := by
  unfold intD
  rw [PyData.eqv, eqv_ints]
theorem eqvAll_rows : ∀ us vs : List (List Nat), PyData.eqvAll (us.map intD) (vs.map intD) = decide (us = vs)
  | [], [] => rfl
  | [], _ :: _ => by simp [PyData.eqvAll]
  | _ :: _, [] => by simp [PyData.eqvAll]
  | u :: us, v :: vs => by
    rw [List.map_cons, List.map_cons, PyData.eqvAll, eqv_intD, eqvAll_rows us vs]
    by_cases h1 : u = v <;> by_cases h2 : us = vs <;> simp [h1, h2]
theorem pairs_inj : ∀ {es fs : List (Nat × Nat)}, pairs es = pairs fs → es = fs
  | [], [], _ => rfl
  | [], _ :: _, h => by cases h
  | _ :: _, [], h => by cases h
  | (a, b) :: es, (c, d) :: fs, h => by
    have h : [a, b] :: pairs es = [c, d] :: pairs fs := h
    injection h with h1 h2
    injection h1 with h1 h3
    injection h3 with h3
    rw [h1, h3, pairs_inj h2]
theorem eqv_rows (es fs : List (Nat × Nat)) : PyData.eqvAll ((pairs es).map intD) ((pairs fs).map intD) = decide (es = fs) := by
  rw [eqvAll_rows]
  exact decide_eq_decide.mpr ⟨pairs_inj, fun h => by rw [h]⟩
theorem shapedT_rows (ls : List (List Nat)) : SeqAt.shaped (.tuple (ls.map intD)) = true := by
  have z : ((PyData.canLay0 (.list (ls.map intD))) && decide (PyData.depth (.list (ls.map intD)) ≤ 64)) = true := shaped_rows ls
  show ((PyData.canLay0 (.tuple (ls.map intD))) && decide (PyData.depth (.tuple (ls.map intD)) ≤ 64)) = true
  simpa [PyData.canLay0, PyData.depth] using z
def rowsT (us : List (List Nat)) : PyData := .tuple (us.map intD)
def partD (x : Part) : PyData := .tuple [rowsT (pairs x.1), intD x.2]
theorem eqv_part (x y : Part) : PyData.eqv (partD x) (partD y) = decide (x = y) := by
  unfold partD rowsT
  rw [PyData.eqv, PyData.eqvAll, PyData.eqvAll, PyData.eqvAll, PyData.eqv, eqv_rows, eqv_intD]
  obtain ⟨a, b⟩ := x
  obtain ⟨c, d⟩ := y
  by_cases h1 : a = c <;> by_cases h2 : b = d <;> simp [h1, h2]
theorem canLay_rows (us : List (List Nat)) : PyData.canLayAll0 (us.map intD) = true ∧ PyData.depthAll (us.map intD) ≤ 1 := by
  induction us with
  | nil => exact ⟨rfl, Nat.zero_le _⟩
  | cons u us ih =>
    have hu : ∀ l : List Nat, PyData.canLayAll0 (l.map fun c => PyData.int (c : Nat)) = true ∧ PyData.depthAll (l.map fun c => PyData.int (c : Nat)) = 0 := by
      intro l
      induction l with
      | nil => exact ⟨rfl, rfl⟩
      | cons a l ih => exact ⟨by simp [PyData.canLayAll0, PyData.canLay0, ih.1], by simp [PyData.depthAll, PyData.depth, ih.2]⟩
    refine ⟨?_, ?_⟩
    · rw [List.map_cons, PyData.canLayAll0, ih.1, Bool.and_true]
      unfold intD
      simpa [PyData.canLay0] using (hu u).1
    · rw [List.map_cons, PyData.depthAll]
      have : PyData.depth (intD u) = 1 := by unfold intD; simp [PyData.depth, (hu u).2]
      omega
theorem lay_part (x : Part) : PyData.canLay0 (partD x) = true ∧ PyData.depth (partD x) ≤ 3 := by
  obtain ⟨h1, h2⟩ := canLay_rows (pairs x.1)
  obtain ⟨h3, h4⟩ := canLay_rows [x.2]
  have e1 : PyData.canLay0 (intD x.2) = true := by
    rw [List.map_cons, PyData.canLayAll0, Bool.and_eq_true] at h3
    exact h3.1
  have e2 : PyData.depth (intD x.2) ≤ 1 := by
    rw [List.map_cons, PyData.depthAll] at h4
    omega
  unfold partD rowsT
  refine ⟨?_, ?_⟩
  · rw [PyData.canLay0, PyData.canLayAll0, PyData.canLayAll0, PyData.canLayAll0, PyData.canLay0, h1, e1]
    rfl
  · simp only [PyData.depth, PyData.depthAll]
    omega
theorem shaped_part (x : Part) : SeqAt.shaped (partD x) = true := by
  obtain ⟨h1, h2⟩ := lay_part x
  show (PyData.canLay0 (partD x) && decide (PyData.depth (partD x) ≤ 64)) = true
  rw [h1, decide_eq_true (by omega)]
  rfl
theorem lay_parts : ∀ xs : List Part, PyData.canLayAll0 (xs.map partD) = true ∧ PyData.depthAll (xs.map partD) ≤ 64
  | [] => ⟨rfl, Nat.zero_le _⟩
  | x :: xs => by
    obtain ⟨h1, h2⟩ := lay_parts xs
    obtain ⟨h3, h4⟩ := lay_part x
    refine ⟨by rw [List.map_cons, PyData.canLayAll0, h3, h1]; rfl, ?_⟩
    rw [List.map_cons, PyData.depthAll]
    omega
theorem alike_ints : ∀ u v : List Nat, PySem.W.alikeAll (u.map fun c => PyData.int (c : Nat)) (v.map fun c => PyData.int (c : Nat)) = true
  | [], _ => by cases ‹List Nat› <;> rfl
  | _ :: _, [] => rfl
  | a :: u, b :: v => by
    show (PySem.W.alike (.int a) (.int b) && PySem.W.alikeAll _ _) = true
    rw [alike_ints u v]
    rfl
theorem alike_intD (u v : List Nat) : PySem.W.alike (intD u) (intD v) = true := alike_ints u v
theorem alike_rowsT : ∀ us vs : List (List Nat), PySem.W.alikeAll (us.map intD) (vs.map intD) = true
  | [], _ => by cases ‹List (List Nat)› <;> rfl
  | _ :: _, [] => rfl
  | a :: u, b :: v => by
    show (PySem.W.alike (intD a) (intD b) && PySem.W.alikeAll _ _) = true
    rw [alike_rowsT u v, alike_intD]
    rfl
theorem alike_part (x y : Part) : PySem.W.alike (partD x) (partD y) = true := by
  show (PySem.W.alikeAll _ _ && (PySem.W.alike (intD x.2) (intD y.2) && true)) = true
  rw [alike_rowsT, alike_intD]
  rfl
theorem alike_parts (xs : List Part) : PySem.W.AlikeAll (xs.map partD) := by
  refine ⟨fun x hx y hy => ?_, fun x hx => ?_⟩
  · obtain ⟨u, _, rfl⟩ := List.mem_map.mp hx
    obtain ⟨v, _, rfl⟩ := List.mem_map.mp hy
    exact alike_part u v
  · obtain ⟨u, _, rfl⟩ := List.mem_map.mp hx
    intro e
    cases e
/-! ### the least -/
open PySem.W in
theorem minD_low : ∀ (ds : List PyData) (d : PyData), ∀ y ∈ d :: ds, dataLt y (minD d ds) = false
  | [], d, y, hy => by
    rw [List.mem_singleton.mp hy]
    exact lex_irrefl _
  | e :: ds, d, y, hy => by
    have step : minD d (e :: ds) = minD (if dataLt e d then e else d) ds := rfl
    rw [step]
    by_cases h : dataLt e d = true
    · rw [if_pos h]
      have ih := minD_low ds e
      rcases List.mem_cons.mp hy with rfl | hy
      · refine Bool.eq_false_iff.mpr fun z => ?_
        have t : dataLt e (minD e ds) = true := lex_trans _ _ _ h z
        rw [ih e (List.mem_cons_self ..)] at t
        cases t
      · exact ih y hy
    · rw [if_neg h]
      have ih := minD_low ds d
      rcases List.mem_cons.mp hy with rfl | hy
      · exact ih _ (List.mem_cons_self ..)
      · rcases List.mem_cons.mp hy with rfl | hy
        · refine Bool.eq_false_iff.mpr fun z => ?_
          have low := ih d (List.mem_cons_self ..)
          by_cases h2 : dataLt d y = true
          · have t : dataLt d (minD d ds) = true := lex_trans _ _ _ h2 z
            rw [low] at t
            cases t
          · have eq : keyToks d = keyToks y := lex_total _ _ (Bool.eq_false_iff.mpr h2) (Bool.eq_false_iff.mpr h)
            have t : dataLt d (minD d ds) = dataLt y (minD d ds) := by unfold dataLt; rw [eq]
            rw [low, z] at t
            cases t
        · exact ih y (List.mem_cons_of_mem _ hy)
open PySem.W in
theorem minD_same {d e : PyData} {ds es : List PyData} (h1 : ∀ y ∈ d :: ds, y ∈ e :: es) (h2 : ∀ y ∈ e :: es, y ∈ d :: ds) (al : alike (minD d ds) (minD e es) = true) : PyData.eqv (minD d ds) (minD e es) = true := by
  have m1 := K7S.minD_mem d ds
  have m2 := K7S.minD_mem e es
  have eq : keyToks (minD d ds) = keyToks (minD e es) := lex_total _ _ (minD_low es e _ (h1 _ m1)) (minD_low ds d _ (h2 _ m2))
  refine Classical.byContradiction fun no => ?_
  have z := (toks_eqv _ _ al).2 (Bool.eq_false_iff.mpr no) [] [Sum.inl 0]
  rw [eq, lex_pre, lex_irrefl] at z
  cases z
/-- the least of parts -/
def minPart (v : Part) (ws : List Part) : Part := ws.foldl (fun a y => if PySem.W.dataLt (partD y) (partD a) then y else a) v
theorem minD_part : ∀ (ws : List Part) (v : Part), PySem.W.minD (partD v) (ws.map partD) = partD (minPart v ws)
  | [], v => rfl
  | y :: ws, v => by
    show PySem.W.minD (if PySem.W.dataLt (partD y) (partD v) then partD y else partD v) (ws.map partD) = partD (minPart (if PySem.W.dataLt (partD y) (partD v) then y else v) ws)
    rw [← minD_part ws]
    congr 1
    split <;> rfl
theorem partD_inj {x y : Part} (h : partD x = partD y) : x = y := by
  have z := eqv_part x y
  rw [h] at z
  have w := eqv_part y y
  rw [decide_eq_true rfl] at w
  rw [w] at z
  exact of_decide_eq_true z.symm
theorem minPart_mem (v : Part) (ws : List Part) : minPart v ws ∈ v :: ws := by
  have z := K7S.minD_mem (partD v) (ws.map partD)
  rw [minD_part] at z
  obtain ⟨y, hy, e⟩ := List.mem_map.mp (show partD (minPart v ws) ∈ (v :: ws).map partD from z)
  rw [← partD_inj e]
  exact hy
theorem minPart_same {v u : Part} {ws us : List Part} (h1 : ∀ y ∈ v :: ws, y ∈ u :: us) (h2 : ∀ y ∈ u :: us, y ∈ v :: ws) : minPart v ws = minPart u us := by
  have z := minD_same (d := partD v) (ds := ws.map partD) (e := partD u) (es := us.map partD) (fun y hy => ?_) (fun y hy => ?_) (by rw [minD_part, minD_part]; exact alike_part _ _)
  · rw [minD_part, minD_part, eqv_part] at z
    exact of_decide_eq_true z
  · obtain ⟨x, hx, rfl⟩ := List.mem_map.mp (show y ∈ (v :: ws).map partD from hy)
    exact List.mem_map.mpr ⟨x, h1 x hx, rfl⟩
  · obtain ⟨x, hx, rfl⟩ := List.mem_map.mp (show y ∈ (u :: us).map partD from hy)
    exact List.mem_map.mpr ⟨x, h2 x hx, rfl⟩
/-- all that a land can be led to -/
def leds (n : Nat) (x : Part) : List Part := (ords n).map fun o => led o x
def leastP (n : Nat) (x : Part) : Part := match leds n x with
  | [] => x
  | v :: ws => minPart v ws
theorem leds_ne (n : Nat) (x : Part) : leds n x ≠ [] := by
  obtain ⟨h1, _⟩ := ord_map (n := n) (fun c => c) (fun c hc => hc) (fun c d _ _ e => e)
  intro e
  have m : led ((List.range n).map fun c => c) x ∈ leds n x := List.mem_map.mpr ⟨_, mem_ords.mpr h1, rfl⟩
  rw [e] at m
  cases m
theorem mem_leds {n : Nat} {x y : Part} : y ∈ leds n x ↔ AlikeP n x y := by
  unfold leds AlikeP
  rw [List.mem_map]
theorem leastP_mem (n : Nat) (x : Part) : AlikeP n x (leastP n x) := by
  rw [← mem_leds]
  unfold leastP
  cases h : leds n x with
  | nil => exact absurd h (leds_ne n x)
  | cons v ws => exact minPart_mem v ws
theorem leastP_same {n : Nat} {x y : Part} (hx : PartOk n x) (h : AlikeP n x y) (hy : PartOk n y) : leastP n x = leastP n y := by
  have h1 : ∀ z ∈ leds n x, z ∈ leds n y := fun z hz => mem_leds.mpr (alike_trans hy (alike_symm hx h) (mem_leds.mp hz))
  have h2 : ∀ z ∈ leds n y, z ∈ leds n x := fun z hz => mem_leds.mpr (alike_trans hx h (mem_leds.mp hz))
  unfold leastP
  cases e1 : leds n x with
  | nil => exact absurd e1 (leds_ne n x)
  | cons v ws =>
    cases e2 : leds n y with
    | nil => exact absurd e2 (leds_ne n y)
    | cons u us =>
      rw [e1, e2] at h1 h2
      exact minPart_same h1 h2
theorem least_iff {n : Nat} {x y : Part} (n2 : 0 < n) (n5 : n ≤ 5) (x32 : x.1.length ≤ 32) (hx : PartOk n x) (hy : PartOk n y) : leastP n x = leastP n y ↔ AlikeP n x y := by
  refine ⟨fun e => ?_, fun h => leastP_same hx h hy⟩
  have a := leastP_mem n x
  have b := leastP_mem n y
  rw [← e] at b
  exact alike_trans hx a (alike_symm hy b)
end K7
end
/-! ## EN -/
section
/-! x == y, x != y by x's own __eq__, x an instance of an own class without a __ne__. -/
namespace K7E
open PySem PySem.Spec PyProof.Rows L2
theorem slot_obj_ne : Slot "object" "__ne__" "object.__ne__" := .of (owner := "object") (n := "__ne__") (by rw [typeLookup_type, builtinLookup_eq_fast]; kernel_rfl) (by decide +kernel) (by decide +kernel) (by decide +kernel) (.inl (by decide +kernel)) (by rw [isSubtype_type]; kernel_rfl)
section
variable {prog : Program} {w : World} {A : Around} {E : Value → Shared → Prop} {s : Shared} {K : PySem.W.Frag} {x C L f : Addr} {h₀ : Heap} {m : Str → Option Value} {ox : Obj} {od : Option Obj} {b tb : Value}
open PySem.W in
theorem ne_K {Q : Value → Shared → Prop} (hu : A.units + 1 < cLine) (FF : Fr h₀ L s.heap m) (X₀ : K.In h₀) (I : InstAt s.heap x ox C od) (hb : Looks (model prog w) s.heap (typeOf b) tb) (hn : notFirst K C tb = true) (hm : mroIn K C (.type "object") = some true)
    (hs : findIn K (.ref C) "__ne__" = some (some (.builtin "object.__ne__"))) (he : findIn K (.ref C) "__eq__" = some (some (.ref f))) (hf : isFn K (.ref f) = true)
    (h : wpAny (model prog w) A.in1 (call (.ref f) [.ref x, b]) (fun v s' => ∃ c, v = .bool c ∧ Q (.bool (!c)) s') E s) : wpAny (model prog w) A (richCompare .NotEq (.ref x) b) Q E s := by
  have X := X₀.keeps FF.keep
  have inner : wpAny (model prog w) A.in1 (Builtin.«object.__ne__» ⟨[.ref x, b], []⟩) (fun fin s' => ∃ c, fin = .done (.ret (.bool (!c))) ∧ Q (.bool (!c)) s') E s := by
    unfold Builtin.«object.__ne__»
    repeat (first
      | with_reducible refine wpAny_cRoomFor (show A.in1.units < cLine from hu) ?_
      | (refine wpAny_bind (m := callSpecialIfBound? (.ref x) (Str.ofString "__eq__") [b]) (ifBound_K X I he hf (wpAny_mono h (fun r s' hr => by
          obtain ⟨c, rfl, hq⟩ := hr
          repeat (first | exact ⟨c, rfl, hq⟩ | exact wpAny_pure ⟨c, rfl, hq⟩ | exact wpAny_truthy_bool ⟨c, rfl, hq⟩ | (refine wpAny_bind (m := truthy (.bool _)) (wpAny_truthy_bool ?_)) | wp_step)) fun _ _ e => e)))
      | wp_step)
  have mid : wpAny (model prog w) A (callSpecialIfBound? (.ref x) "__ne__" [b]) (fun r s' => ∃ c, r = some (.bool (!c)) ∧ Q (.bool (!c)) s') E s := by
    simp only [callSpecialIfBound?, bindSpecialIfBound?]
    refine wpAny_holding (wpAny_bind (wpAny_bind (wpAny_bind (I.type.here ((looks_findIn X hs).here ?_)))))
    simp only [slot_obj_ne.bind]
    refine wpAny_bind (wpAny_askSetting (wpAny_ite ?_))
    have fin : wpAny (model prog w) A (call (.builtin "object.__ne__") ([.ref x] ++ [b]) >>= fun v => pure (some v)) (fun r s' => ∃ c, r = some (.bool (!c)) ∧ Q (.bool (!c)) s') E s := by
      refine wpAny_bind (wpAny_call (codeAny_call_builtin slot_obj_ne.plain F.cmpEntry_ne (check_slot F.cmpKind_ne F.cmpSplit_ne (I.type.andThen (looks_mroIn X hm)) (F.cmpArgs_ne _ _) (wpAny_mono inner (fun fin s' z => ?_) fun _ _ e => e))))
      obtain ⟨c, rfl, hq⟩ := z
      exact wpAny_pure ⟨c, rfl, hq⟩
    split
    · exact wpAny_bind (wpAny_pure (wpAny_pure fin))
    · exact wpAny_tryCatch (wpAny_bind (wpAny_pure (wpAny_pure fin)))
  have one : wpAny (model prog w) A (tryCompare (.ref x) "__ne__" b) (fun r s' => ∃ c, r = some (.bool (!c)) ∧ Q (.bool (!c)) s') E s := by
    simp only [tryCompare]
    refine wpAny_bind (wpAny_mono mid (fun r s' ⟨c, er, hq⟩ => ?_) fun _ _ e => e)
    rw [er]
    exact wpAny_pure ⟨c, rfl, hq⟩
  unfold richCompare
  simp only [oneThing_ref]
  refine wpAny_holding (wpAny_bind (wpAny_cRoomFor (Nat.lt_of_succ_lt hu) (wpAny_bind (I.type.here (wpAny_bind (hb.here ?_))))))
  rw [cmpInfo_NotEq]
  dsimp only
  have last : wpAny (model prog w) A (tryCompare (.ref x) "__ne__" b) (fun r s' => ∃ c, r = some (.bool (!c)) ∧ Q (.bool (!c)) s') E s := one
  split
  · rename_i q
    have e : subIn K tb (.ref C) = some false := by
      rcases Bool.or_eq_true_iff.mp hn with e | e
      · rw [beq_iff_eq.mp e] at q; simp at q
      · exact beq_iff_eq.mp e
    refine wpAny_bind ((looks_subIn X e).here ?_)
    simp only [Bool.false_eq_true, if_false]
    refine wpAny_bind (wpAny_mono last (fun r s' ⟨c, er, hq⟩ => ?_) fun _ _ e => e)
    rw [er]
    exact wpAny_pure hq
  · refine wpAny_bind (wpAny_pure ?_)
    simp only [Bool.false_eq_true, if_false]
    refine wpAny_bind (wpAny_mono last (fun r s' ⟨c, er, hq⟩ => ?_) fun _ _ e => e)
    rw [er]
    exact wpAny_pure hq
end
/-! ### x == y by x's own __eq__ -/
def rEqO (K : PySem.W.Frag) (C : Addr) (sp : Sp) (E : XK) : R2 := fun x y H Q => ∃ (a dx : Addr) (fs : List (Str × V)) (b : Addr) (t : Value), x = .ref a ∧ y = .ref b ∧ H a = some (.ins C dx fs) ∧ TyX K H y t ∧ PySem.W.notFirst K C t = true ∧ sp [x, y] H Q E
section
variable {X : Cx}
theorem op_eqOwn {CX : CXT} {C g : Addr} {fd : FuncData} {ps : List Str} {sp : Sp} {E : XK} {n : Nat} (F : FnOk X.prog X.w X.K X.mg X.base CX n g fd ps sp) (hs : PySem.W.findIn X.K (.ref C) "__eq__" = some (some (.ref g))) (hf : PySem.W.isFn X.K (.ref g) = true) (hb : Binds X.K fd ps [])
    (hr : Room n X.A) (hx : Passes CX X E) : OpR X (compareOp .Eq) (rEqO X.K C sp E) := by
  intro pins s σ H x y v u Q I rx ry h
  obtain ⟨a, dx, fs, b, t, rfl, rfl, ha, ty, hn, q⟩ := h
  cases (show v = Value.ref a from rx)
  cases (show u = Value.ref b from ry)
  obtain ⟨mA, J, _⟩ := ins_get I.hok ha
  obtain ⟨od, J, _⟩ := J.look
  obtain ⟨P, Z, hp, hne⟩ := kit_of I (show RelV (.ref b) (Value.ref b) from rfl) ty
  obtain ⟨m, hF⟩ := I.fr
  have hl := F.len _ _ _ _ q
  have r2 : Vals [V.ref a, V.ref b] [Value.ref a, Value.ref b] := .cons rfl (.cons rfl .nil)
  refine PySem.W.cmp_K (op := .Eq) (tb := t) hr.units0 hF I.ok.mod.kin J (Z.ty _ _ I.kIn hp) hn hs hf ?_
  refine wpAny_mono (wpAny_call (run_fnR (us := [.ref a, .ref b]) (vs := [.ref a, .ref b]) (F.raw hb .nil) hr hx I r2 q)) (fun w s' z => ?_) fun _ _ x => x
  obtain ⟨z', H', I', rz, qz⟩ := z
  exact SlX.cmpback rz ⟨z', H', I', rz, qz⟩
/-- x != y -/
theorem op_neOwn {CX : CXT} {C g : Addr} {fd : FuncData} {ps : List Str} {sp : Sp} {E : XK} {n : Nat} (F : FnOk X.prog X.w X.K X.mg X.base CX n g fd ps sp) (hs : PySem.W.findIn X.K (.ref C) "__ne__" = some (some (.builtin "object.__ne__"))) (hm : PySem.W.mroIn X.K C (.type "object") = some true)
    (he : PySem.W.findIn X.K (.ref C) "__eq__" = some (some (.ref g))) (hf : PySem.W.isFn X.K (.ref g) = true) (hb : Binds X.K fd ps []) (hr : Room (n + 1) X.A) (hx : Passes CX X E) : OpR X (compareOp .NotEq) (fun x y H Q => ∃ (a dx : Addr) (fs : List (Str × V)) (b : Addr) (t : Value), x = .ref a ∧ y = .ref b ∧ H a = some (.ins C dx fs) ∧ TyX X.K H y t ∧ PySem.W.notFirst X.K C t = true ∧ sp [x, y] H (fun z H' => ∃ c, z = .bl c ∧ Q (.bl (!c)) H') E) := by
  intro pins s τ H x y v u Q I rx ry h
  obtain ⟨a, dx, fs, b, t, rfl, rfl, ha, ty, hn, q⟩ := h
  cases (show v = Value.ref a from rx)
  cases (show u = Value.ref b from ry)
  obtain ⟨mA, J, _⟩ := ins_get I.hok ha
  obtain ⟨od, J, _⟩ := J.look
  obtain ⟨P, Z, hp, hne⟩ := kit_of I (show RelV (.ref b) (Value.ref b) from rfl) ty
  obtain ⟨m, hF⟩ := I.fr
  have hl := F.len _ _ _ _ q
  have r2 : Vals [V.ref a, V.ref b] [Value.ref a, Value.ref b] := .cons rfl (.cons rfl .nil)
  have hu : X.A.units + 1 < cLine := by have := hr.un; omega
  refine ne_K (tb := t) hu hF I.ok.mod.kin J (Z.ty _ _ I.kIn hp) hn hm hs he hf ?_
  refine wpAny_call (codeAny_mono (F.run X.A.in1 X.stack s H ⟨[.ref a, .ref b], []⟩ [.ref a, .ref b] [.ref a, .ref b] _ E hr.in1 I.env0.in1 (hb s [.ref a, .ref b] I.kIn hl) r2 q) fun r s' hq => ?_)
  cases r with
  | error e => exact hx pins τ H s e s' I hq
  | ok fl =>
    cases fl with
    | ret u =>
      obtain ⟨z', H', I', rz, c, ez, qz⟩ := I.after hq
      subst ez
      cases (show u = Value.bool c from rz)
      exact ⟨c, rfl, .bl (!c), H', I', rfl, qz⟩
    | next => exact False.elim hq
    | brk => exact False.elim hq
    | cont => exact False.elim hq
end
end K7E
end
/-! ## P14 -/
section
open PySem PySem.Spec PyProof.Rows L2
namespace K7
abbrev N_Land___eq__ : List Str := ["self", "other"]
abbrev s_Land___eq__ : Stmt := inClass (topS 21) 1
theorem sc_Land___eq__ : FnScope ["self", "other"] ["self", "other"] (defScope s_Land___eq__) := ⟨rfl, rfl, rfl, by decide +kernel, rfl, by decide +kernel, by decide +kernel⟩
/-- what the top says of lands, once more -/
structure Tk (K : PySem.W.Frag) (C fE : Addr) : Prop where
  ha : PySem.W.findIn K (.ref C) "__class__" = some (some (.builtin "object.__class__"))
  hn : PySem.W.specialIn K (.builtin "object.__class__") "__get__" = some (some (.builtin "getset_descriptor.__get__"))
  ht : PySem.W.takesIn K (.builtin "object.__class__") = some true
  hm : PySem.W.mroIn K C (.type "object") = some true
  own : PySem.W.kitOne K (.ref C) (.ref C) = some true
  eq : PySem.W.findIn K (.ref C) "__eq__" = some (some (.ref fE))
  eqF : PySem.W.isFn K (.ref fE) = true
  ne : PySem.W.findIn K (.ref C) "__ne__" = some (some (.builtin "object.__ne__"))
theorem nfC (K : PySem.W.Frag) (C : Addr) : PySem.W.notFirst K C (.ref C) = true := by simp [PySem.W.notFirst]
theorem dec_and3 (a b c : Prop) [Decidable a] [Decidable b] [Decidable c] : decide (a ∧ b ∧ c) = (decide a && (decide b && decide c)) := by
  by_cases a <;> by_cases b <;> by_cases c <;> simp_all
section
variable {P : Program} {w : World} {K : PySem.W.Frag} {mg : Str → Option Value} {base : Heap} {a : AdL} {fE : Addr}
def spEqL (C : Addr) : Sp := fun vs H Q _ => ∃ (p q : Addr) (n : Nat) (es : List (Nat × Nat)) (rd : List Nat) (m : Nat) (fs : List (Nat × Nat)) (sd : List Nat), vs = [.ref p, .ref q] ∧ LandO C H p n es rd ∧ LandO C H q m fs sd ∧ Q (.bl (decide (n = m ∧ es = fs ∧ rd = sd))) H
theorem ok_eqL (T : Tl K mg a) (T2 : Tk K a.C fE) {f : Addr} {fd : FuncData} (F : Fun K "__eq__" "Land.__eq__" s_Land___eq__ f fd) (m_isinstance : mg "isinstance" = none) : FnOk P w K mg base CX0 1 f fd ["self", "other"] (spEqL a.C) := by
  refine F.ok sc_Land___eq__ (fun vs H Q E h => ?_) (fun cdv A outer s H vs Q E hr h => ?_)
  · obtain ⟨p, q, n, es, rd, m, fs, sd, rfl, _⟩ := h
    rfl
  · obtain ⟨p, q, n, es, rd, m, fs, sd, rfl, L, M, k⟩ := h
    refine ⟨_, (pss_one (ps_ret (pe_and (pe_callB call_isi (by rfl) m_isinstance boot_isinstance (pa_cons (pv 1) (pa_cons (pe_glob (v := .ref _) rfl T.gC rfl) pa_nil))) (pe_and (pe_cmpR op_eq (pe_fld (pv 0) rfl) (pe_fld (pv 1) rfl) (nomark _)) (pe_and (pe_cmpR (op_eqD hr.units) (pe_fld (pv 0) rfl) (pe_fld (pv 1) rfl) (nomark _)) (pe_one (pe_cmpR (op_eqD hr.units) (pe_fld (pv 0) rfl) (pe_fld (pv 1) rfl) (nomark _)))))))), ?_⟩
    obtain ⟨dx, an, ar, ay, ac, tn, ty, tc, h1, h2, h3, h4, _⟩ := L.at_
    obtain ⟨dx', an', ar', ay', ac', tn', ty', tc', g1, g2, g3, g4, _⟩ := M.at_
    rw [dec_and3] at k
    refine ⟨_, rfl, _, _, _, _, _, rfl, .own _, .base (.ins g1 T.cl T2.ha T2.hn T2.ht T2.hm), T2.own, true, rfl, ?_⟩
    have en : decide (V.int (n : Nat) = V.int (m : Nat)) = decide (n = m) := decide_eq_decide.mpr ⟨fun e => by injection e with e; omega, fun e => by rw [e]⟩
    have e1 : PyData.eqv (.tuple ((pairs es).map intD)) (.tuple ((pairs fs).map intD)) = decide (es = fs) := by rw [PyData.eqv, eqv_rows]
    refine ⟨.ref p, rfl, p, a.C, dx, _, _, rfl, h1, T.cl, T.nA _ (by decide), rfl, .ref q, rfl, q, a.C, dx', _, _, rfl, g1, T.cl, T.nA _ (by decide), rfl, rfl, _, rfl, ?_⟩
    rw [en]
    cases hn : decide (n = m) with
    | false =>
      rw [hn] at k
      exact k
    | true =>
      rw [hn] at k
      refine ⟨.ref p, rfl, p, a.C, dx, _, _, rfl, h1, T.cl, T.nA _ (by decide), rfl, .ref q, rfl, q, a.C, dx', _, _, rfl, g1, T.cl, T.nA _ (by decide), rfl, _, _, .tup (.inl (.inl h2)) (dp_rows h3), .tup (.inl (.inl g2)) (dp_rows g3), shapedT_rows _, shapedT_rows _, _, rfl, ?_⟩
      rw [e1]
      cases he : decide (es = fs) with
      | false =>
        rw [he] at k
        exact k
      | true =>
        rw [he] at k
        refine ⟨.ref p, rfl, p, a.C, dx, _, _, rfl, h1, T.cl, T.nA _ (by decide), rfl, .ref q, rfl, q, a.C, dx', _, _, rfl, g1, T.cl, T.nA _ (by decide), rfl, _, _, .tup (.inl (.inl h4)) (dp_ints rd), .tup (.inl (.inl g4)) (dp_ints sd), shaped_ints rd, shaped_ints sd, ?_⟩
        show Q (.bl (PyData.eqv (intD rd) (intD sd))) H
        rw [eqv_intD]
        exact k
/-! a new land -/
theorem new_land {H1 : Hp} {Q : VK} {E : XK} {n : Nat} {an : Addr} {ts : List Addr} {cs : List (Nat × Nat)} {ar : Addr} {lot : List Nat} (n2 : 2 ≤ n) (n5 : n ≤ 5) (han : SqOf H1 an (ts.map V.ref)) (hT : CoAll H1 ts cs) (hc : Cos n cs) (cn : KL.Conn n cs) (har : SqOf H1 ar (ints_ lot)) (llt : ∀ c ∈ lot, c < n) (lnd : lot.Nodup) (l0 : 0 < lot.length) (ln : lot.length < n)
    (q : ∀ H' x es rd, Same H1 H' → H1 x = none → LandO a.C H' x n es rd → es.Perm (cs.map KL.srt) → rd.Perm lot → Q (.ref x) H') :
    ∀ x dx, H1 x = none → H1 dx = none → dx ≠ x → spLandI a (.ref x :: ([.int (n : Nat), .ref an, .ref ar] ++ [])) (upd (upd H1 dx (.own x)) x (.ins a.C dx [])) (fun v H2 => v = .non ∧ Q (.ref x) H2) E := by
  intro x dx hx hdx hne
  have e : Same H1 (upd (upd H1 dx (.own x)) x (.ins a.C dx [])) := same_new (same_new (Same.refl H1) hdx) (by rw [upd_ne hne.symm]; exact hx)
  refine ⟨x, dx, n, an, ts, cs, ar, lot, rfl, upd_same, n2, n5, han.same e, hT.same e, hc, cn, har.same e, llt, lnd, l0, ln, fun H' es rd b L pe pr => ⟨rfl, q H' x es rd (fun z o hz => ?_) hx L pe pr⟩⟩
  exact b z o (ne_of_none hz hx) (e _ _ hz)
theorem es_is {n : Nat} {es cs : List (Nat × Nat)} (ok : LandOk n es) (p : es.Perm cs) (hs : cs.Pairwise KL.lexLe) : es = cs := KL.uniq KL.lex_anti p (ok.sorted.imp fun h => h) hs
theorem rd_is {rd lot : List Nat} (hr : rd.Pairwise (· ≤ ·)) (p : rd.Perm lot) (hs : lot.Pairwise (· ≤ ·)) : rd = lot := KL.uniq (fun a b (h1 : a ≤ b) (h2 : b ≤ a) => Nat.le_antisymm h1 h2) p hr hs
end
end K7
end
/-! ## SL -/
section
open PySem PySem.Spec PyProof.Rows L2
namespace K7
theorem al {H : Hp} {o : HO} {b : Addr} (nb : H b = none) : Same H (upd H b o) := same_new (Same.refl H) nb
theorem notHand_refs : ∀ ts : List Addr, notHand (ts.map V.ref) = true
  | [] => rfl
  | [_] => rfl
  | [_, _] => rfl
  | [_, _, _] => rfl
  | [_, _, _, _] => rfl
  | _ :: _ :: _ :: _ :: _ :: _ => by rfl
theorem notHand_ints : ∀ ts : List Nat, notHand (ints_ ts) = true
  | [] => rfl
  | [_] => rfl
  | [_, _] => rfl
  | [_, _, _] => rfl
  | [_, _, _, _] => rfl
  | _ :: _ :: _ :: _ :: _ :: _ => by rfl
section
variable {h c : Addr} {H H' : Hp}
theorem Stay.tup {b : Addr} {xs : List V} (x : Stay h c H H') (hb : H b = some (.tup xs)) : H' b = some (.tup xs) := x.but b _ (x.hand0.net hb) hb
theorem Stay.tat (x : Stay h c H H') {ts : List Addr} {ls : List (List Nat)} (t : TAt H ts ls) : TAt H' ts ls := t.mono fun b xs hb => x.tup hb
theorem Stay.la (x : Stay h c H H') {q : Addr} {n : Nat} {es : List (Nat × Nat)} {lot : List Nat} (L : LandAt H q n es lot) : LandAt H' q n es lot := by
  obtain ⟨rA, sA, ts, h1, h2, h3, h4⟩ := L.at_
  exact ⟨⟨rA, sA, ts, x.tup h1, x.lst h2 (notHand_refs _), x.tat h3, x.lst h4 (notHand_ints _)⟩, L.ok, L.lot⟩
theorem Stay.lo (x : Stay h c H H') {C p : Addr} {n : Nat} {es : List (Nat × Nat)} {rd : List Nat} (L : LandO C H p n es rd) : LandO C H' p n es rd := by
  obtain ⟨dx, an, ar, ay, ac, tn, ty, tc, h1, h2, h3, h4, h5, h6, h7, h8⟩ := L.at_
  exact ⟨⟨dx, an, ar, ay, ac, tn, ty, tc, x.but p _ (x.hand0.nei h1) h1, x.tup h2, x.tat h3, x.tup h4, x.tup h5, x.tat h6, x.tup h7, x.tat h8⟩, L.n2, L.n5, L.ok, L.rlt, L.rnd, L.rso, L.r0, L.rn⟩
end
theorem es_len {n : Nat} {es : List (Nat × Nat)} (ok : LandOk n es) (hn : n ≤ 5) : es.length ≤ 32 := by
  have z := K7E.nodup_le es ((List.range 5).flatMap fun a => (List.range 5).map fun b => (a, b)) ok.nd fun e he => by
    obtain ⟨a, b⟩ := e
    obtain ⟨l1, l2⟩ := ok.lt _ he
    have l1 : a < b := l1
    have l2 : b < n := l2
    exact List.mem_flatMap.mpr ⟨a, List.mem_range.mpr (by omega), List.mem_map.mpr ⟨b, List.mem_range.mpr (by omega), rfl⟩⟩
  have e : ((List.range 5).flatMap fun a => (List.range 5).map fun b => (a, b)).length = 25 := by decide
  rw [e] at z
  omega

theorem co_lit {H : Hp} {ts : List Addr} {cs : List (Nat × Nat)} (h : TAt H ts (pairs cs)) : CoAll H ts cs := by
  refine ⟨by rw [h.len]; unfold pairs; rw [List.length_map], fun i t c ht hc => ?_⟩
  obtain ⟨l, el, hl⟩ := h.get ht
  unfold pairs at el
  rw [List.getElem?_map, hc] at el
  obtain rfl := Option.some.inj el
  exact .inl hl
theorem lot_lt {n : Nat} (hn : n ≤ 5) {lot : List Nat} (h : lot ∈ lotsTo (List.range n) n) : (∀ c ∈ lot, c < n) ∧ lot.Pairwise (· < ·) := by
  have all : ∀ n : Fin 6, (lotsTo (List.range n.val) n.val).all (fun l => l.all (fun c => decide (c < n.val)) && decide (l.Pairwise (· < ·))) = true := by decide +kernel
  have z := List.all_eq_true.mp (all ⟨n, by omega⟩) lot h
  obtain ⟨z1, z2⟩ := Bool.and_eq_true_iff.mp z
  exact ⟨fun c hc => of_decide_eq_true (List.all_eq_true.mp z1 c hc), of_decide_eq_true z2⟩
theorem srt_map {n : Nat} {es : List (Nat × Nat)} (ok : LandOk n es) : es.map KL.srt = es := by
  refine (List.map_congr_left fun e he => ?_).trans (List.map_id es)
  exact KL.srt_of (ok.lt e he).1
theorem cos_es {n : Nat} {es : List (Nat × Nat)} (ok : LandOk n es) (hn : n ≤ 5) : Cos n es := by
  refine ⟨fun c hc => ?_, by rw [srt_map ok]; exact ok.nd, es_len ok hn⟩
  obtain ⟨l1, l2⟩ := ok.lt c hc
  exact ⟨by omega, l2, by omega⟩

end K7
end
/-! ## E3 -/
section
namespace PySem
open PySem PySem.Spec PyProof.Rows
theorem k7_meets_enumerate_newT (l : Addr) (items : Array Value) (n : Nat) (dct : Option Addr) (sl : Array (Option Value)) :
    Meets (Builtin.«enumerate.__new__» ⟨[.type "enumerate", .ref l], []⟩) (fun _ R s => s.heap.get? l = some { cls := .type "tuple", dict := dct, data := .seq items n, slots := sl } ∧
      R (.ok (.ret (.ref (s.heap.push { cls := .type "tuple_iterator", data := .fields #[.ref l, .int 0 0] }).objs.size)))
        { s with heap := (s.heap.push { cls := .type "tuple_iterator", data := .fields #[.ref l, .int 0 0] }).push { cls := .type "enumerate", data := .fields #[.none, .bool false, .ref s.heap.objs.size, rawInt 0, .none, .none] } }) :=
  .of_wp fun prog w A R s h => by
    obtain ⟨hp, g, d, tk, os⟩ := s; obtain ⟨hl, h⟩ := h
    have hsub := sub_enumerate
    have hL : Heap.IsTuple (Shared.heap ⟨hp, g, d, tk, os⟩) l items := ⟨_, hl, rfl, n, rfl⟩
    wp_walk using AutoSeq1.wpAny_loadPart' hl
    refine wpAny_stack_any fun st => wpAny_pure ?_
    split
    · rename_i c _ _ _ _ _
      cases (c == Value.type "enumerate")
      · wp_walk using AutoSeq1.wpAny_loadPart' hl, wpAny_pyIter_tuple hL
        exact ⟨_, rfl, h⟩
      · wp_walk using AutoSeq1.wpAny_loadPart' hl, wpAny_pyIter_tuple hL
        exact ⟨_, rfl, h⟩
    · wp_walk using AutoSeq1.wpAny_loadPart' hl, wpAny_pyIter_tuple hL
      exact ⟨_, rfl, h⟩
theorem k7_call_enumerate_tuple {prog : Program} {w : World} {A : Around} {E : Value → Shared → Prop} {s : Shared} {l : Addr} {items : Array Value} {Q : Value → Shared → Prop} (hL : s.heap.IsTuple l items)
    (h : ∀ h', IsEnum h' (s.heap.objs.size + 1) s.heap.objs.size 0 .none → h'.IsTupleIter s.heap.objs.size l 0 → h'.objs.size = s.heap.objs.size + 2 →
      (∀ b o, s.heap.get? b = some o → h'.get? b = some o) → Q (.ref (s.heap.objs.size + 1)) { s with heap := h' }) :
    wpAny (model prog w) A (call (.type "enumerate") [.ref l]) Q E s := by
  obtain ⟨⟨c, dct, dt, sl⟩, hl, hc, n, hd⟩ := hL
  replace hc : c = .type "tuple" := hc
  replace hd : dt = .seq items n := hd
  subst hc hd
  refine callType_new F.called_enumerate (by decide) (F.typeCall_enumerate_1 _) (F.newCall_enumerate_1 _) (fun obj => F.args_object_init_2 obj _) F.entry_enumerate_new
    (k7_meets_enumerate_newT l items n dct sl) ⟨hl, ?_⟩
  have hz : (s.heap.push { cls := .type "tuple_iterator", data := .fields #[.ref l, .int 0 0] }).objs.size = s.heap.objs.size + 1 := Heap.size_push ..
  show _ ∧ _
  rw [hz]
  have he : IsEnum ((s.heap.push { cls := .type "tuple_iterator", data := .fields #[.ref l, .int 0 0] }).push
      { cls := .type "enumerate", data := .fields #[.none, .bool false, .ref s.heap.objs.size, rawInt 0, .none, .none] }) (s.heap.objs.size + 1) s.heap.objs.size 0 .none := by
    have := Heap.get?_push_size (s.heap.push { cls := .type "tuple_iterator", data := .fields #[.ref l, .int 0 0] })
      (o := { cls := .type "enumerate", data := .fields #[.none, .bool false, .ref s.heap.objs.size, rawInt 0, .none, .none] }) rfl
    rw [hz] at this; exact this
  refine ⟨⟨_, he, rfl⟩, h _ he ⟨_, Heap.get?_push_of_some _ (Heap.get?_push_size _ rfl), rfl, rfl⟩ (by rw [Heap.size_push, hz]) fun b o x => Heap.get?_push_of_some _ (Heap.get?_push_of_some _ x)⟩
end PySem
namespace K7E
open PySem PySem.Spec PyProof.Rows L2
/-- the tuple at a as it stands at each turn, each item in a new pair -/
def IteT (K : PySem.W.Frag) (a : Addr) : It :=
  ⟨fun i H => ∃ (xs : List V) (x : V), SqT K H a xs ∧ xs[i]? = some x, fun i H v H' => ∃ T x, v = .ref T ∧ H T = none ∧ H' = upd H T (.tup [.int (i : Nat), x]) ∧ ∀ xs, SqT K H a xs → xs[i]? = some x, fun i H => ∃ xs : List V, SqT K H a xs ∧ xs.length = i⟩
theorem tup_ne {h : Heap} {a it : Addr} {items : Array Value} {i : Nat} (p : h.IsTuple a items) (q : h.IsTupleIter it a i) : a ≠ it := by
  intro e
  subst e
  obtain ⟨o, ho, hc, _⟩ := p
  obtain ⟨o2, ho2, hc2, _⟩ := q
  rw [ho] at ho2
  cases ho2
  rw [hc] at hc2
  exact absurd (Value.type.inj hc2) (by decide)
theorem turn_enumT {P : Program} {w : World} {K : PySem.W.Frag} {elts : List Expr} {kk : Nat} {tpos : Pos} (a e it : Addr) :
    Turn P w K (.Tuple elts kk tpos) (IteT K a) [e, it] e (fun i h => (∃ old, IsEnum h e it ((i : Nat) : Int) old) ∧ h.IsTupleIter it a i ∧ e ≠ it) where
  mem := by simp
  obj := fun i h st b hb => by
    obtain ⟨⟨old, he⟩, ⟨o, ho, hc, hd⟩, _⟩ := st
    have e' : b = e ∨ b = it := by simpa using hb
    rcases e' with z | z
    · rw [z]; exact ⟨_, he, fun v q => nomatch q⟩
    · rw [z]; exact ⟨o, ho, fun v q => by rw [hd] at q; cases q⟩
  keep := fun i h h' st k => let ⟨⟨old, he⟩, hi, hne⟩ := st; ⟨⟨old, k e (by simp) _ he⟩, hi.at fun o q => k it (by simp) o q, hne⟩
  item := by
    intro X hP hw hK hc i pins s σ H E I hf st hg
    subst hP hw hK
    obtain ⟨⟨old, he⟩, hit, hne⟩ := st
    obtain ⟨xs, x, hq, hx⟩ := hg
    obtain ⟨its, rv, p, hz⟩ := I.tuple hq
    obtain ⟨u, hu, ru⟩ := rv.get hx
    have hel : e < s.heap.objs.size := Heap.lt_size he
    have hil : it < s.heap.objs.size := by obtain ⟨_, q, _⟩ := hit; exact Heap.lt_size q
    have hat : a ≠ it := tup_ne p hit
    have hae : e ≠ a := fun q => by
      subst q
      obtain ⟨o, ho, hc', _⟩ := p
      rw [show s.heap.get? e = _ from he] at ho
      cases ho
      exact absurd (Value.type.inj hc') (by decide)
    have hlt : i < its.toArray.size := by
      have := (List.getElem?_eq_some_iff.mp hu).1
      simpa using this
    refine wpAny_pyNext_enum_itemD (Draws.tuple (A := X.A.in1) (I.ok.hd hc) it a hat its.toArray) he ⟨hit, p⟩ hlt hne (by simp [hne, hae]) fun u' h' tk hP ho hit' hT hsz hk => ?_
    have eu : u' = u := by
      have h1 : its.toArray[i]? = some u := by simpa using hu
      exact Option.some.inj (hP.symm.trans h1)
    subst eu
    refine ⟨_, rfl, wpAny_letOwnedTupleGo_enum (s := { s with heap := h', toks := tk + 1 }) ho fun h'' he' sb => ?_⟩
    have hT2 : h''.get? s.heap.objs.size = some { cls := .type "tuple", data := .seq #[.int i tk, u'] } := (sb.2 _ (Nat.ne_of_gt hel)).trans hT
    have new : ObjOk X.prog X.w (upd H s.heap.objs.size (.tup [.int (i : Nat), x])) h'' s.heap.objs.size (.tup [.int (i : Nat), x]) :=
      ⟨by show 2 ≤ sizeLine; decide, [.int i tk, u'], .cons ⟨_, rfl⟩ (.cons ru .nil), ⟨_, hT2, rfl, _, rfl⟩⟩
    have I1 : Inv X pins σ (upd H s.heap.objs.size (.tup [.int (i : Nat), x])) { s with heap := h'', toks := tk + 1 } :=
      I.turnedNew (ch := [e, it]) (fun b ob hb q => (sb.2 b (fun z => hb (by simp [z]))).trans (hk b ob (fun z => hb (by simp [z])) (fun z => hb (by simp [z])) q)) hf (Nat.le_refl _) new
    refine ⟨.ref s.heap.objs.size, _, I1, rfl, ⟨_, x, rfl, I.hok.fresh (Nat.le_refl _), rfl, fun ys hy => by rw [I.tuple_inj hy hq]; exact hx⟩, ⟨⟨u', ?_⟩, hit'.1.at fun o q => (sb.2 it (Ne.symm hne)).trans q, hne⟩, fun b hb => ?_⟩
    · have e1 : ((i + 1 : Nat) : Int) = (i : Int) + 1 := by omega
      rw [e1]; exact he'
    · have hb' : b < s.heap.objs.size := by
        have e' : b = e ∨ b = it := by simpa using hb
        rcases e' with z | z
        · rw [z]; exact hel
        · rw [z]; exact hil
      rw [upd_ne (Nat.ne_of_lt hb')]
      exact (hf b hb).1
  done := by
    intro X hP hw hK hc i pins s σ H E I hf st hg
    subst hP hw hK
    obtain ⟨⟨old, he⟩, hit, hne⟩ := st
    obtain ⟨xs, hq, hx⟩ := hg
    obtain ⟨its, rv, p, hz⟩ := I.tuple hq
    obtain ⟨f0, f1, f2, f3, f4, f5⟩ := hf it (by simp)
    have hl := rv.length
    have hat : a ≠ it := tup_ne p hit
    have en : its.toArray.size = i := by simp; omega
    exact wpAny_pyNext_enum_endD (Draws.tuple (A := X.A.in1) (I.ok.hd hc) it a hat its.toArray) he ⟨by rw [en]; exact hit, p⟩ fun h' eb => ⟨rfl, I.turned (t' := s.toks) (fun b o hb q => eb b o hb q) f0 f1 f3 f4 f5⟩
  self := fun A i s Q E st h => let ⟨⟨_, he⟩, _⟩ := st; wpAny_pyIter_enum he h
def iEnumT (K : PySem.W.Frag) (ta : TA) : TI := fun σ H R => ta σ H fun vs H1 => ∃ a xs, vs = [.ref a] ∧ SqT K H1 a xs ∧ R (IteT K a) H1
theorem pi_enumT {X : Cx} {e : Expr} {ta : TA} {p pos tpos : Pos} {elts : List Expr} {kk : Nat} (hg : Gl X "enumerate") (hm : X.mg "enumerate" = none) (ha : PA X [e] ta) (hs : starEach [e] X.env = [(false, eval e X.env)] := by rfl) :
    PI X (.Tuple elts kk tpos) (.Call (.Name "enumerate" p) [e] [] pos) (iEnumT X.K ta) := by
  refine ⟨fun pins s σ H R I h => ?_⟩
  refine Call_ (ld_blt I hg hm boot_enumerate (PyProof.Rows.callWith_type1 (thn (ha.run pos pins s σ H _ I h) fun us s1 ⟨vs, H1, I1, r1, q1⟩ => ?_) hs rfl))
  obtain ⟨a, xs, ex, hq, q⟩ := q1
  subst ex
  cases r1 with
  | cons r rr =>
    cases rr
    cases r
    obtain ⟨its, rv, p', hz⟩ := I1.tuple hq
    refine k7_call_enumerate_tuple p' fun h' he hit hsz hk => wpAny_pyIter_enum he ?_
    have I2 : Inv X pins σ H1 { s1 with heap := h' } := I1.kept (t' := s1.toks) hk
    refine ⟨s1.heap.objs.size + 1, [s1.heap.objs.size + 1, s1.heap.objs.size], _, _, H1, rfl, I2, turn_enumT a (s1.heap.objs.size + 1) s1.heap.objs.size, ⟨⟨.none, he⟩, hit, Nat.succ_ne_self _⟩, fun b hb => ?_, q⟩
    have e' : b = s1.heap.objs.size + 1 ∨ b = s1.heap.objs.size := by simpa using hb
    have hle : s1.heap.objs.size ≤ b := by
      rcases e' with z | z
      · rw [z]; exact Nat.le_add_right _ _
      · rw [z]; exact Nat.le_refl _
    exact I1.fpOk hle (I1.hok.fresh hle)
theorem walk_enumT {K : PySem.W.Frag} {a : Addr} {xs : List V} : Walk (IteT K a) xs.length (fun H => SqT K H a xs) (YPair (fun i => some (.int (i : Nat))) (fun i => xs[i]?)) :=
  ⟨fun i H hi hq => ⟨xs, _, hq, List.getElem?_eq_getElem hi⟩, fun H hq => ⟨xs, hq, rfl⟩, fun i H v H' hi hq hy => by
    obtain ⟨T, x, rfl, nT, rfl, f⟩ := hy
    exact ⟨T, _, x, rfl, nT, rfl, rfl, f _ hq⟩⟩
end K7E
end
/-! ## EVL -/
section
open PySem PySem.Spec PyProof.Rows L2
namespace K7E
/-- a comprehension of two «for»: the outer one over a list -/
theorem out_list {K : PySem.W.Frag} {a : Addr} {xs : List V} {g : TG} {tt : TT} {inner : (Hp → Prop) → L2.St → Hp → Prop} {vs : List Nat} {τ : L2.St} {H1 : Hp} {D : Addr} {Qd : Hp → Prop} (Pv : Nat → Hp → Prop) (h0 : Pv 0 (upd H1 D (.lst []))) (hl : ∀ i H, i ≤ xs.length → Pv i H → SqL K H a xs)
    (hs : ∀ i x H, xs[i]? = some x → Pv i H → g x (wipe τ vs) H fun t2 H2 => wipe t2 vs = wipe τ vs ∧ tt t2 H2 fun b H3 => if b = true then inner (Pv (i + 1)) t2 H3 else Pv (i + 1) H3) (hd : ∀ H, Pv xs.length H → Qd H) :
    ∃ W : Nat → Nat → Hp → Prop, (∃ m, W 0 m (upd H1 D (.lst []))) ∧ ∀ i m H, W i m H → ((Itl K a).stop i H ∧ Qd H) ∨ ((Itl K a).go i H ∧ ∃ Nx : Hp → Prop, (∀ H', Nx H' → ∃ m', m' < m ∧ W (i + 1) m' H') ∧
      ∀ x H', (Itl K a).yld i H x H' → g x (wipe τ vs) H' fun t2 H2 => wipe t2 vs = wipe τ vs ∧ tt t2 H2 fun b H3 => if b = true then inner Nx t2 H3 else Nx H3) := by
  refine ⟨fun i m H => m = xs.length - i ∧ i ≤ xs.length ∧ Pv i H, ⟨xs.length, by simp, Nat.zero_le _, h0⟩, ?_⟩
  rintro i m H ⟨rfl, hi, p⟩
  have q := hl i H hi p
  by_cases hlt : i < xs.length
  · refine .inr ⟨⟨xs, xs[i], q, by simp [hlt]⟩, Pv (i + 1), fun H' p' => ⟨xs.length - (i + 1), by omega, rfl, hlt, p'⟩, fun x H' y => ?_⟩
    obtain ⟨e, y⟩ := y
    subst e
    exact hs i x _ (y xs q) p
  · have e : i = xs.length := by omega
    subst e
    exact .inl ⟨⟨xs, q, Nat.le_refl _⟩, hd H p⟩
/-- one of two readings, by a name -/
def tEi (t1 t2 : TE) : TE := fun σ H Q => t1 σ H Q ∨ t2 σ H Q
theorem pe_ei {X : Cx} {e : Expr} {t1 t2 : TE} (a : PE X e t1) (b : PE X e t2) : PE X e (tEi t1 t2) := ⟨fun pins s σ H Q I h => h.elim (a.run pins s σ H Q I) (b.run pins s σ H Q I)⟩
end K7E
end
/-! ## EX -/
section
namespace K7E
open PySem PySem.Spec PyProof.Rows L2
/-! a call under try: what it lets out is asked for where it stands -/
section
variable {X : Cx} {W : WX} {k : Nat} {f C : Addr} {fd : FuncData} {ps : List Str} {sp : Sp} {dvs : List V} {ds : List Value} {x m : Str} {p pos apos : Pos} {e o : Expr} {es : List Expr} {ta : TE} {t : TA}
theorem run_fnW {pins : List (Addr × Obj)} {σ : L2.St} {H : Hp} {s : Shared} {Q : VK} {us : List Value} {vs : List V} (F : FnOk X.prog X.w X.K X.mg X.base (L2.CX X.prog X.w) k f fd ps sp) (hr : Room k X.A) (hb : Binds X.K fd ps ds) (hd : Vals dvs ds) (tk : Takes X W)
    (I : Inv X pins σ H s) (r : Vals vs us) (h : sp (vs ++ dvs) H Q (fun cls d H' => W cls d σ H')) : wpAny (model X.prog X.w) X.A (call (.ref f) us) (EP X pins σ Q) X.xe s := by
  have r2 : Vals (vs ++ dvs) (us ++ ds) := r.append hd
  have hl : (us ++ ds).length = ps.length := by rw [← r2.length]; exact F.len _ _ _ _ h
  refine wpAny_call (codeAny_mono (F.run X.A X.stack s H ⟨us, []⟩ (us ++ ds) (vs ++ dvs) Q _ hr I.env0 (hb s us I.kIn hl) r2 h) fun r s' hq => ?_)
  cases r with
  | error e => exact tk e s' (XE.of_call (E := fun cls d H' => W cls d σ H') I (fun cls d H' h => h) hq)
  | ok fl =>
    cases fl with
    | ret u => exact I.after hq
    | next => exact False.elim hq
    | brk => exact False.elim hq
    | cont => exact False.elim hq
theorem pe_callW (F : FnOk X.prog X.w X.K X.mg X.base (L2.CX X.prog X.w) k f fd ps sp) (hr : Room k X.A) (hg : Gl X x) (hm : X.mg x = some (.ref f)) (hk : PySem.W.keepIn X.K (.ref f) = true) (hb : Binds X.K fd ps ds) (hd : Vals dvs ds) (tk : Takes X W)
    (ha : PA X (e :: es) t) (hdb : (x == ("__debug__" : Str)) = false := by decide) (he : starEach (e :: es) X.env = (false, eval e X.env) :: starEach es X.env := by rfl) (hpl : (backTo pos (starEach es X.env)).any (·.1) = false := by rfl) :
    PE X (.Call (.Name x p) (e :: es) [] pos) (fun σ H Q => t σ H fun vs H1 => sp (vs ++ dvs) H1 Q (fun cls d H' => W cls d σ H')) := by
  refine ⟨fun pins s σ H Q I h => ?_⟩
  refine wpAny_Call_Name_kw (ld_glob I hg hm ?_ hdb)
  refine PySem.W.callWith_K (h₀ := X.base) I.ok.mod.kin hk (thn (ha.run pos pins s σ H _ I h) fun us s1 ⟨vs, H1, I1, r, q⟩ => ⟨I1.kIn, ?_⟩) he hpl
  exact run_fnW F hr hb hd tk I1 r q
theorem pe_methW {pl : Sem Bool} (he : PE X o ta) (c : Cls X.K C) (hm : Meth X.K C m f) (F : FnOk X.prog X.w X.K X.mg X.base (L2.CX X.prog X.w) k f fd ps sp) (hr : Room k X.A) (hb : Binds X.K fd ps ds) (hd : Vals dvs ds) (tk : Takes X W) (ha : PA X (e :: es) t)
    (hst : starEach (e :: es) X.env = (false, eval e X.env) :: starEach es X.env := by rfl) (hpl : (backTo pos (starEach es X.env)).any (·.1) = false := by rfl)
    (ht : eval (.Call (.Attribute o m apos) (e :: es) [] pos) X.env = (do
      let ov ← eval o X.env
      standAt apos.atName
      let (f, first) ← holding [ov] (getMethod ov m pl)
      callWith pos f first (backTo pos (starEach (e :: es) X.env)) (backToKw pos (keywordEach [] X.env))) := by rfl) :
    PE X (.Call (.Attribute o m apos) (e :: es) [] pos) (fun σ H Q => ta σ H fun x H1 => ∃ a dx fs, x = .ref a ∧ H1 a = some (.ins C dx fs) ∧ fs.lookup m = none ∧
      t σ H1 fun vs H2 => sp (x :: (vs ++ dvs)) H2 Q (fun cls d H' => W cls d σ H')) := by
  refine ⟨fun pins s σ H Q I h => ?_⟩
  refine PySem.W.methodCall_KW (pl := pl) (thn (he.run pins s σ H _ I h) fun u s1 ⟨x, H1, I1, rx, a, dx, fs, ex, ea, l, q⟩ => ?_) ht
  subst ex
  obtain rfl : u = Value.ref a := rx
  refine getmeth_ok I1 ea c hm l ?_
  refine PySem.W.callWith_K (first := [.ref a]) (h₀ := X.base) I.ok.mod.kin hm.kp (thn (ha.run pos pins s1 σ H1 _ I1 q) fun us s2 ⟨vs, H2, I2, r, q2⟩ => ⟨I2.kIn, ?_⟩) hst hpl
  exact run_fnW (us := .ref a :: us) (vs := .ref a :: vs) F hr hb hd tk I2 (.cons rfl r) q2
end
/-! ### isinstance(e, c), e the exception that the suite holds, with fields of its own -/
section
variable {X : Cx}
theorem call_isEd {a D d : Addr} {oe : Obj} {pn : List (Addr × Obj)} (C : ExcC X.K D) (hz : Zc (.ref D) (some d) oe) (hf : ∃ vs, oe.data = .fields vs) : CallR (X.suite a ((a, oe) :: pn)) (.builtin "isinstance") (fun xs H Q => ∃ (c : V) (cv : Value) (b : Bool) (fs : List (Str × V)), xs = [.ref a, c] ∧ (∀ u, RelV c u → u = cv) ∧ PySem.W.kitOne X.K (.ref D) cv = some b ∧ H d = some (.xd fs) ∧ Q (.bl b) H) := by
  intro pins s σ H xs us Q I r h
  obtain ⟨c, cv, b, fs, rfl, hcv, e, hd, q⟩ := h
  cases r with
  | cons rx rr =>
    cases rr with
    | cons rt rr =>
      cases rr
      cases rx
      have ec := hcv _ rt
      subst ec
      obtain ⟨hget, _⟩ := I.pin (a, oe) (List.mem_append.mpr (.inl List.mem_cons_self))
      obtain ⟨vs, hv⟩ := hf
      have hx : ObjOk X.prog X.w H s.heap d (.xd fs) := I.hok d _ hd
      obtain ⟨mA, hns, hrr⟩ := hx
      obtain ⟨od, ho, hl⟩ := lookIn_ns hns
      have J : PySem.W.InstAt s.heap a oe D (some od) := ⟨hget, hz.1, by unfold PySem.W.notCls; rw [hv] <;> rfl, by rw [hz.2]; exact ho⟩
      obtain ⟨cd, hcc, _⟩ := PySem.W.any_some C.hd
      exact PySem.W.kia_one (PySem.W.kitx_exc (gt := none) (by rw [hcc]; rfl) C.hg C.hk C.hs C.ha C.hn C.ht C.hm) I.kIn J e (fun z => nomatch z) fun tk => ⟨.bl b, H, I.kept (t' := tk) fun _ _ z => z, rfl, q⟩
end
theorem call_isEdX {X : Cx} {a D : Addr} {cls : Value} {d : Option Addr} {oe : Obj} {pn : List (Addr × Obj)} (C : ExcC X.K D) (hz : Zc cls d oe) (hf : ∃ vs, oe.data = .fields vs) : CallR (X.suite a ((a, oe) :: pn)) (.builtin "isinstance") (fun xs H Q => cls = .ref D ∧ ∃ dd, d = some dd ∧ ∃ (c : V) (cv : Value) (b : Bool) (fs : List (Str × V)), xs = [.ref a, c] ∧ (∀ u, RelV c u → u = cv) ∧ PySem.W.kitOne X.K (.ref D) cv = some b ∧ H dd = some (.xd fs) ∧ Q (.bl b) H) := by
  intro pins s σ H xs us Q I r h
  obtain ⟨rfl, dd, rfl, h⟩ := h
  exact call_isEd C hz hf pins s σ H xs us Q I r h
/-! repr of a plain thing -/
def reprV : V → Str
  | .non => "None"
  | .bl b => if b then "True" else "False"
  | .int i => toString i
  | .str z => reprText z
  | _ => ""
def reprOk : V → Prop
  | .non => True
  | .bl b => True
  | .int i => i.natAbs.log2 < 1920
  | .str z => (reprText z).length ≤ sizeLine
  | _ => False
theorem call_reprF {X : Cx} : CallR X (.builtin "repr") (fun xs H Q => ∃ v, xs = [v] ∧ reprOk v ∧ Q (.str (reprV v)) H) := by
  intro pins s σ H xs us Q I r h
  obtain ⟨v, rfl, hz, q⟩ := h
  obtain ⟨u, rfl, ru⟩ := r.one
  cases v with
  | non => cases ru; exact PySem.P.repr_of_none ⟨.str _, H, I.tok _, ⟨_, rfl⟩, q⟩
  | bl b => cases ru; exact PySem.P.repr_of_bool ⟨.str _, H, I.tok _, ⟨_, rfl⟩, q⟩
  | int i => obtain ⟨t, rfl⟩ := ru; exact PySem.P.repr_of_int hz ⟨.str _, H, I.tok _, ⟨_, rfl⟩, q⟩
  | str z => obtain ⟨t, rfl⟩ := ru; exact PySem.P.repr_of_str ⟨.str _, H, I.tok _, ⟨_, rfl⟩, q⟩ hz
  | _ => exact hz.elim
end K7E
end
/-! ## E1 -/
section
namespace K7E
open PySem PySem.SeqAt PySem.MeetsSeq PySem.AutoSeq1
theorem dict_eq_declines_str (l : Addr) (es : Array DictEntry) (n : Nat) (dd : Option Addr) (sl : Array (Option Value)) (b : Str) (u : Tok) :
    Meets (Builtin.«dict.__eq__» ⟨[.ref l, .str b u], []⟩) (fun _ R s => s.heap.get? l = some { cls := .type "dict", dict := dd, data := .dict es n, slots := sl } ∧ R (.ok (.ret .notImplemented)) s) :=
  .of_wp fun prog w A R s h => by obtain ⟨hp, g, d, tk, os⟩ := s; obtain ⟨hl, h⟩ := h; have f1 := F.sub_str_dict; wp_walk using wpAny_loadPart' hl; exact ⟨_, rfl, h⟩
theorem str_eq_declines_dict (b : Str) (u : Tok) (l : Addr) (c : Value) (es : Array DictEntry) (n : Nat) (dd : Option Addr) (sl : Array (Option Value)) :
    Meets (Builtin.«str.__eq__» ⟨[.str b u, .ref l], []⟩) (fun _ R s => s.heap.get? l = some { cls := c, dict := dd, data := .dict es n, slots := sl } ∧ R (.ok (.ret .notImplemented)) s) :=
  .of_wp fun prog w A R s h => by obtain ⟨hp, g, d, tk, os⟩ := s; obtain ⟨hl, h⟩ := h; wp_walk using wpAny_loadPart' hl, wpAny_load hl; exact ⟨_, rfl, h⟩
theorem RcAt.str_dict {A : Around} {s : Shared} {l : Addr} {es : Array DictEntry} {n : Nat} {dd : Option Addr} {sl : Array (Option Value)} (b : Str) (u : Tok) (ho : s.heap.get? l = some { cls := .type "dict", dict := dd, data := .dict es n, slots := sl }) (hu : A.units < cLine) : RcAt A s (.str b u) (.ref l) false := fun prog w E Q h => by
  exact rc_eq_decline_or (k := false) (typeIs_str s b u) ⟨_, ho, rfl⟩ (by decide) F.sub_dict_str F.slot_str_eq F.slot_dict_eq_refl
    (fun _ hq => call_meets F.slot_str_eq (typeIs_str s b u) F.entry_str_eq (F.args_str_eq_2 _ _) (str_eq_declines_dict b u l (.type "dict") es n dd sl) ⟨ho, hq⟩)
    (fun _ hq => call_meets F.slot_dict_eq_refl ⟨_, ho, rfl⟩ F.entry_dict_eq (F.args_dict_eq_2 _ _) (dict_eq_declines_str l es n dd sl b u) ⟨ho, hq⟩)
    (fun _ hq => wpAny_of_eq (rfl : isSame (.str b u) (.ref l) = pure false) hq) (.inr hu) h
theorem EqAt.str_dict {A : Around} {s : Shared} {l : Addr} {es : Array DictEntry} {n : Nat} {dd : Option Addr} {sl : Array (Option Value)} (b : Str) (u : Tok) (ho : s.heap.get? l = some { cls := .type "dict", dict := dd, data := .dict es n, slots := sl }) (hu : A.units < cLine) : EqAt A s (.str b u) (.ref l) false := fun prog w E Q h => by
  unfold eqBool
  refine wpAny_holding ?_
  refine wpAny_ite_split (fun hab => absurd (eq_of_beq hab) nofun) (fun _ => ?_)
  exact wpAny_bind (RcAt.str_dict b u ho hu prog w E _ (wpAny_truthy_bool h))
end K7E
end
/-! ## INW -/
section
open PySem PySem.Spec PyProof.Rows L2
namespace K7
/-! ### x in a tuple of texts, x any thing -/
/-- a thing that is no text -/
inductive Odd (K : PySem.W.Frag) (H : Hp) : V → Prop where
  | non : Odd K H .non
  | bl (b : Bool) : Odd K H (.bl b)
  | int (i : Int) : Odd K H (.int i)
  | lst {a : Addr} {xs : List V} (h : H a = some (.lst xs)) : Odd K H (.ref a)
  | tup {a : Addr} {xs : List V} (h : H a = some (.tup xs)) : Odd K H (.ref a)
  | dct {a : Addr} {kvs : List (Key × V)} (h : H a = some (.dK kvs)) : Odd K H (.ref a)
theorem Odd.same {K : PySem.W.Frag} {H H' : Hp} {x : V} (o : Odd K H x) (e : Same H H') : Odd K H' x := by
  cases o with
  | non => exact .non
  | bl b => exact .bl b
  | int i => exact .int i
  | lst h => exact .lst (e _ _ h)
  | tup h => exact .tup (e _ _ h)
  | dct h => exact .dct (e _ _ h)
/-- whether x is one of the texts -/
inductive InW (K : PySem.W.Frag) (H : Hp) (ss : List Str) : V → Bool → Prop where
  | str (z : Str) : InW K H ss (.str z) (decide (z ∈ ss))
  | odd {x : V} (o : Odd K H x) : InW K H ss x false
def rInW (K : PySem.W.Frag) (neg : Bool) : R2 := fun x y H Q => ∃ p ss b, y = .ref p ∧ SqT K H p (ss.map V.str) ∧ InW K H ss x b ∧ Q (.bl (if neg then !b else b)) H
section
variable {X : Cx}
theorem vals_strs : ∀ {ss : List Str} {us : List Value}, Vals (ss.map V.str) us → ∀ u ∈ us, ∃ z t, u = .str z t ∧ z ∈ ss
  | [], _, r => fun u hu => by cases r; cases hu
  | z :: ss, _, r => fun u hu => by
    rw [List.map_cons] at r
    cases r with
    | cons h r =>
      obtain ⟨t, rfl⟩ := h
      rcases List.mem_cons.mp hu with rfl | hu
      · exact ⟨z, t, rfl, List.mem_cons_self⟩
      · obtain ⟨z', t', e, m⟩ := vals_strs r u hu
        exact ⟨z', t', e, List.mem_cons_of_mem _ m⟩
theorem any_strs (z : Str) : ∀ {ss : List Str} {us : List Value}, Vals (ss.map V.str) us → us.any (fun u => match u with | .str y _ => y == z | _ => false) = decide (z ∈ ss)
  | [], _, r => by cases r; rfl
  | y :: ss, _, r => by
    rw [List.map_cons] at r
    cases r with
    | cons h r =>
      obtain ⟨t, rfl⟩ := h
      rw [List.any_cons, any_strs z r]
      by_cases e : y = z
      · subst e
        simp
      · have e' : (y == z) = false := beq_eq_false_iff_ne.mpr e
        have e2 : ¬ z = y := fun q => e q.symm
        simp only [e', Bool.false_or, List.mem_cons, e2, false_or]
theorem odd_eq {A : Around} {pins : List (Addr × Obj)} {s : Shared} {σ : L2.St} {H : Hp} {x : V} {v : Value} (I : Inv X pins σ H s) (hu : A.units < cLine) (o : Odd X.K H x) (rx : RelV x v) (z : Str) (t : Tok) : SeqAt.EqAt A s (.str z t) v false := by
  cases o with
  | non => cases rx; exact SeqAt.EqAt.str_none z t
  | bl b => cases rx; exact SeqAt.EqAt.str_bool z t b
  | int i => obtain ⟨t', rfl⟩ := rx; exact SeqAt.EqAt.str_int z t i t'
  | @lst a xs h =>
    cases (show v = Value.ref a from rx)
    obtain ⟨_, its, n, _, h1⟩ := (show ObjOk X.prog X.w H s.heap a (.lst xs) from I.hok a _ h)
    exact SeqAt.EqAt.str_list z t ⟨_, h1, rfl, _, rfl⟩ hu
  | @tup a xs h =>
    cases (show v = Value.ref a from rx)
    obtain ⟨_, its, _, pl⟩ := (show ObjOk X.prog X.w H s.heap a (.tup xs) from I.hok a _ h)
    exact SeqAt.EqAt.str_tuple z t pl hu
  | @dct a kvs h =>
    cases (show v = Value.ref a from rx)
    obtain ⟨_, _, vs, _, o, es, ep, h1, h2, h3⟩ := (show ObjOk X.prog X.w H s.heap a (.dK kvs) from I.hok a _ h)
    obtain ⟨oc, od, oda, osl⟩ := o
    have e1 := h2.1
    simp only at e1 h3
    subst e1
    obtain ⟨h3, _⟩ := h3
    subst h3
    exact K7E.EqAt.str_dict z t h1 hu
theorem inW_core {A : Around} {pins : List (Addr × Obj)} {s : Shared} {σ : L2.St} {H : Hp} {x : V} {v : Value} {ss : List Str} {b : Bool} {its : List Value} (I : Inv X pins σ H s) (hu : A.units < cLine) (r : Vals (ss.map V.str) its) (rx : RelV x v) (h : InW X.K H ss x b) :
    ∃ f : Value → Bool, (∀ w ∈ its, SeqAt.EqAt A s w v (f w)) ∧ its.any f = b := by
  cases h with
  | str z =>
    obtain ⟨t', rfl⟩ := rx
    refine ⟨fun u => match u with | .str y _ => y == z | _ => false, fun w hw => ?_, any_strs z r⟩
    obtain ⟨y, t, rfl, _⟩ := vals_strs r w hw
    exact SeqAt.EqAt.str_str y t z t'
  | odd o =>
    refine ⟨fun _ => false, fun w hw => ?_, by simp⟩
    obtain ⟨y, t, rfl, _⟩ := vals_strs r w hw
    exact odd_eq I hu o rx y t
theorem op_inW (hu : X.A.units + 1 < cLine) : OpR X (compareOp .In) (rInW X.K false) := by
  intro pins s σ H x y v u Q I rx ry h
  obtain ⟨p, ss, b, rfl, hq, hi, q⟩ := h
  cases ry
  obtain ⟨its, r, pl, hz⟩ := I.tuple hq
  obtain ⟨f, hf, e⟩ := inW_core (A := X.A.in1) I hu r rx hi
  refine SeqAt.in_tupleAt f pl (fun w hw => hf w (by simpa using hw)) ⟨.bl _, H, I, rfl, ?_⟩
  rw [show its.toArray.any f = its.any f by simp, e]
  exact q
theorem op_notInW (hu : X.A.units + 1 < cLine) : OpR X (compareOp .NotIn) (rInW X.K true) := by
  intro pins s σ H x y v u Q I rx ry h
  obtain ⟨p, ss, b, rfl, hq, hi, q⟩ := h
  cases ry
  obtain ⟨its, r, pl, hz⟩ := I.tuple hq
  obtain ⟨f, hf, e⟩ := inW_core (A := X.A.in1) I hu r rx hi
  refine SeqAt.notIn_tupleAt f pl (fun w hw => hf w (by simpa using hw)) ⟨.bl _, H, I, rfl, ?_⟩
  rw [show its.toArray.any f = its.any f by simp, e]
  exact q
end
end K7
end
/-! ## P15 -/
section
open PySem PySem.Spec PyProof.Rows L2
namespace K7
abbrev N_is_row : List Str := ["land", "a", "thing", "word"]
abbrev s_is_row : Stmt := topS 25
theorem sc_is_row : FnScope ["land", "a", "thing", "word"] ["land", "a", "thing"] (defScope s_is_row) := ⟨rfl, rfl, rfl, by decide +kernel, rfl, by decide +kernel, by decide +kernel⟩
/-! ### words of standings -/
def wd : Nat → Str
  | 0 => "none"
  | 1 => "awake"
  | 2 => "needed"
  | _ => "asleep"
def wds (row : List Nat) : List V := row.map fun k => .str (wd k)
def stds : List V := [.str "none", .str "awake", .str "needed", .str "asleep"]
theorem wds_snoc (l : List Nat) (k : Nat) : wds (l ++ [k]) = wds l ++ [.str (wd k)] := by
  unfold wds
  rw [List.map_append]
  rfl
theorem wd_in (k : Nat) : inV (.str (wd k)) stds = true := by
  match k with
  | 0 => decide +kernel
  | 1 => decide +kernel
  | 2 => decide +kernel
  | k + 3 =>
    show inV (.str "asleep") stds = true
    decide +kernel
def digs : List Str := ["own", "asleep", "none", "awake", "needed"]
/-- what the top says of views -/
structure T5s (K : PySem.W.Frag) (mg : Str → Option Value) (aST aRI aDG aOW : Addr) : Prop where
  gST : mg "STANDINGS" = some (.ref aST)
  gRI : mg "RIGHTS" = some (.ref aRI)
  gDG : mg "DIGITS" = some (.ref aDG)
  gOW : mg "_OWN" = some (.ref aOW)
  sST : ∀ H, SqT K H aST stds
  sRI : ∀ H, SqT K H aRI [.str "awake", .str "needed"]
  sDG : ∀ H, SqT K H aDG (digs.map V.str)
  yDG : ∀ H, tyV K "tuple" (.ref aDG) H
  sOW : ∀ H, SqT K H aOW [.str "own", .str "asleep"]
/-! ### things of every kind -/
def words4 : List Str := ["none", "awake", "needed", "asleep"]
theorem stds_words : stds = words4.map V.str := rfl
/-- flat, or a list -/
def Leaf (H : Hp) (y : V) : Prop := Flat4 y ∨ ∃ c zs, y = .ref c ∧ H c = some (.lst zs)
theorem Leaf.same {H H' : Hp} {y : V} (l : Leaf H y) (e : Same H H') : Leaf H' y := l.imp id fun ⟨c, zs, h1, h2⟩ => ⟨c, zs, h1, e _ _ h2⟩
def isWord : V → Bool
  | .str z => decide (z ∈ words4)
  | _ => false
theorem leaf_word {K : PySem.W.Frag} {H : Hp} {y : V} (l : Leaf H y) : InW K H words4 y (isWord y) := by
  rcases l with f | ⟨c, zs, rfl, h⟩
  · cases f with
    | non => exact .odd .non
    | bl b => exact .odd (.bl b)
    | int i => exact .odd (.int i)
    | str z => exact .str z
  · exact .odd (.lst h)
/-- what is no sequence -/
def NoRow (H : Hp) (v : V) : Prop := Flat4 v ∨ ∃ b kvs, v = .ref b ∧ H b = some (.dK kvs)
theorem NoRow.same {H H' : Hp} {y : V} (l : NoRow H y) (e : Same H H') : NoRow H' y := l.imp id fun ⟨c, kvs, h1, h2⟩ => ⟨c, kvs, h1, e _ _ h2⟩
section
variable {K : PySem.W.Frag}
theorem any_dict : PySem.W.kitAny K (.type "dict") [.type "list", .type "tuple"] = some false := kitAny_cons (b := false) (kit_ty (by decide +kernel)) (fun _ => kitAny_cons (b := false) (kit_ty (by decide +kernel)) (fun _ => kitAny_nil) (fun z => nomatch z)) (fun z => nomatch z)
theorem NoRow.ty {H : Hp} {v : V} (h : NoRow H v) : ∃ t : String, (∀ H1, Same H H1 → TyX K H1 v (.type t)) ∧ PySem.W.kitAny K (.type t) [.type "list", .type "tuple"] = some false := by
  rcases h with f | ⟨b, kvs, rfl, h⟩
  · cases f with
    | non => exact ⟨"NoneType", fun _ _ => .base .non, any_non⟩
    | bl b => exact ⟨"bool", fun _ _ => .base (.bl b), any_bool⟩
    | int i => exact ⟨"int", fun _ _ => .base (.int i), any_int⟩
    | str z => exact ⟨"str", fun _ _ => .base (.str z), any_str⟩
  · exact ⟨"dict", fun H1 e => .base (.dK (e _ _ h)), any_dict⟩
end
/-- what is_row says of a thing -/
inductive RwV (n a : Nat) (H : Hp) : V → Bool → Prop
  | no {v : V} (h : NoRow H v) : RwV n a H v false
  | row {b : Addr} {vs : List V} (h : SqOf H b vs) (it : ∀ y ∈ vs, Leaf H y) (l : vs.length ≤ 10) : RwV n a H (.ref b) (decide (vs.length = n) && (vs.all isWord && decide (vs[a]? = some (.str "none"))))
theorem RwV.same {n a : Nat} {H H' : Hp} {v : V} {b : Bool} (h : RwV n a H v b) (e : Same H H') : RwV n a H' v b := by
  cases h with
  | no h => exact .no (h.same e)
  | row h it l => exact .row (h.same e) (fun y hy => (it y hy).same e) l
section
variable {P : Program} {w : World} {K : PySem.W.Frag} {mg : Str → Option Value} {base : Heap} {a : AdL} {aST aRI aDG aOW : Addr}
theorem wds_flat (row : List Nat) : (wds row).all flatV = true := by
  refine List.all_eq_true.mpr fun x hx => ?_
  obtain ⟨k, _, rfl⟩ := List.mem_map.mp hx
  rfl
theorem str_eqv : PyData.eqv (.str (wd 0)) (.str "none") = true := by decide +kernel
theorem none_shaped : SeqAt.shaped (.str (wd 0)) = true := by decide +kernel
def spIsRow (C : Addr) : Sp := fun vs H Q _ => ∃ (l : Addr) (n i : Nat) (v : V) (b : Bool), vs = [.ref l, .int (i : Nat), v] ∧ LandC C H l n ∧ i < n ∧ RwV n i H v b ∧ ∀ H', Same H H' → Q (.bl b) H'
theorem none_eqv (z : Str) : PyData.eqv (.str z) (.str "none") = decide (z = "none") := by
  by_cases h : z = "none"
  · subst h; simp [PyData.eqv]
  · simp [PyData.eqv, h]
theorem word_shaped {z : Str} (h : z ∈ words4) : SeqAt.shaped (.str z) = true := by
  unfold words4 at h
  simp only [List.mem_cons, List.not_mem_nil, or_false] at h
  rcases h with rfl | rfl | rfl | rfl <;> decide +kernel
theorem ok_isrow (T : Tl K mg a) (T5 : T5s K mg aST aRI aDG aOW) {f fS : Addr} {fd fdS : FuncData} (F : Fun K "is_row" "is_row" s_is_row f fd)
    (Gsq : FnOk P w K mg base CX0 1 fS fdS ["thing"] (spSeq K)) (gsq : mg "is_sequence" = some (.ref fS)) (ksq : PySem.W.keepIn K (.ref fS) = true) (bsq : Binds K fdS ["thing"] [])
    (m_len : mg "len" = none) (m_all : mg "all" = none) : FnOk P w K mg base CX0 2 f fd ["land", "a", "thing"] (spIsRow a.C) := by
  refine F.ok sc_is_row (fun vs H Q E h => ?_) (fun cdv A outer s H vs Q E hr h => ?_)
  · obtain ⟨l, n, i, v, b, rfl, _⟩ := h
    rfl
  · obtain ⟨l, n, i, v, b, rfl, ⟨dx, fs, hp, hlk⟩, hin, hv, q⟩ := h
    refine ⟨_, (pss_cons (ps_if (pw_or (pt_not (pt_val (pe_call Gsq (hr.mono (by decide)) (by rfl) gsq ksq bsq .nil pass0 (pa_cons (pv 2) pa_nil)))) (pw_or1 (pt_cmpR op_ne (pe_callB call_len_seq (by rfl) m_len boot_len (pa_cons (pv 2) pa_nil)) (pe_fld (pv 0) rfl) (nomark _)))).pt
  (pss_one (ps_ret pe_bl))
  pss_nil)
 (pss_one (ps_ret (pe_and (pe_callB (cr_all rfl) (by rfl) m_all boot_all (pa_cons (pe_lc (own := [("word", 3)]) (g := gName 3) (tt := tYes) rfl sc_is_row.nd (K7E.pi_either (pi_tup (pv 2)) (pi_list (pv 2))) (blkOk_by (own := [("word", 3)]) (N := N_is_row) (sc := defScope s_is_row) (by decide +kernel)) (fun _ _ _ _ _ => (pg_name (i := 3) sc_is_row.nd rfl (by first | exact Or.inl rfl | exact Or.inr rfl))) (fun _ _ _ _ _ => pts_nil) (fun _ _ _ _ _ => (pe_cmpR (show OpR _ _ (rInW K false) from op_inW (hu_of hr)) (pv 3) (pe_glob (v := .ref _) rfl T5.gST rfl) (by with_unfolding_all rfl)))) pa_nil)) (pe_one (pe_cmpR (op_eqD hr.units) (K7E.pe_ei (pe_ix ix_tup (pv 2) (pv 1) (fun _ _ => rfl)) (pe_ix ix_list (pv 2) (pv 1) (fun _ _ => rfl))) pe_str (nomark _))))))), ?_⟩
    cases hv with
    | no hv =>
      obtain ⟨ty, tyx, kk⟩ := hv.ty (K := K)
      exact ⟨_, rfl, _, ty, false, rfl, tyx, kk, fun H1 e1 => ⟨_, rfl, iteT (q _ e1)⟩⟩
    | @row t vs ht it l10 =>
      obtain ⟨ty, tyx, kk⟩ := ht.ty (K := K)
      refine ⟨_, rfl, _, ty, true, rfl, tyx, kk, fun H1 e1 => ⟨_, rfl, ?_⟩⟩
      refine iteF ⟨_, rfl, t, _, rfl, (ht.same e1).sq, _, rfl, l, a.C, dx, fs, _, rfl, e1 _ _ hp, T.cl, T.nA _ (by decide), hlk, rfl, _, rfl, ?_⟩
      rw [show decide (V.int ((vs.length : Nat) : Int) = V.int ((n : Nat) : Int)) = decide (vs.length = n) from decide_eq_decide.mpr ⟨fun h => by injection h with h; omega, fun h => by rw [h]⟩]
      by_cases hl : vs.length = n
      · rw [decide_eq_true hl, Bool.true_and] at q
        rw [decide_eq_true hl]
        refine iteFo rfl ?_
        have ht1 := ht.same e1
        rcases ht1 with z | z
        · refine .inl ⟨_, rfl, t, rfl, ⟨_, .inl (.inl z)⟩, fun D hD => lc_tup (xs := vs) (fun j H2 => Same H1 H2 ∧ H2 D = some (.lst (((vs.take j).map isWord).map V.bl))) ⟨al hD, upd_same⟩ (fun j H2 _ pv => .inl (.inl (pv.1 _ _ z))) (fun j x H2 hx pv => ?_) (fun H2 pv => ?_)⟩
          · obtain ⟨e2, hD2⟩ := pv
            have lx := it x (List.mem_of_getElem? hx)
            refine ⟨rfl, _, rfl, aST, words4, isWord x, rfl, T5.sST _, leaf_word ((lx.same e1).same e2), ?_⟩
            refine ⟨_, hD2, by rw [List.length_map, List.length_map, List.length_take]; exact small1000 (by omega), fun b o hb => ?_, ?_⟩
            · rw [upd_ne (ne_of_none hb hD)]
              exact e2 _ _ hb
            · rw [upd_same, List.take_add_one, hx, List.map_append, List.map_append]
              rfl
          · obtain ⟨e2, hD2⟩ := pv
            rw [List.take_length] at hD2
            refine ⟨D, _, rfl, .inl (.inl hD2), _, rfl, ?_⟩
            rw [List.all_map, show (vs.all (id ∘ isWord)) = vs.all isWord from rfl]
            by_cases hw : vs.all isWord = true
            · rw [hw, Bool.true_and] at q
              rw [hw]
              refine iteTo rfl ?_
              have hi : i < vs.length := by omega
              have hx : vs[i]? = some vs[i] := List.getElem?_eq_getElem hi
              have wx := List.all_eq_true.mp hw vs[i] (List.getElem_mem hi)
              obtain ⟨zz, ez⟩ : ∃ zz, vs[i] = .str zz := by
                cases e : vs[i] with
                | str zz => exact ⟨zz, rfl⟩
                | _ => rw [e] at wx; cases wx
              have wz : zz ∈ words4 := by
                rw [ez] at wx
                exact of_decide_eq_true wx
              rw [ez] at hx
              refine .inl ⟨_, rfl, _, rfl, t, _, _, _, rfl, rfl, .inl (.inl (e2 _ _ z)), atI_nat hx, ?_⟩
              refine ⟨.str zz, .str "none", .str _, .str _, word_shaped wz, word_shaped (by decide), ?_⟩
              rw [none_eqv]
              have eq : decide (vs[i]? = some (V.str "none")) = decide (zz = "none") := by
                rw [hx]
                exact decide_eq_decide.mpr ⟨fun h => by injection h with h; injection h, fun h => by rw [h]⟩
              rw [eq] at q
              exact q _ (e1.trans e2)
            · rw [Bool.eq_false_iff.mpr hw, Bool.false_and] at q
              rw [Bool.eq_false_iff.mpr hw]
              exact iteFo rfl (q _ (e1.trans e2))
        · refine .inr ⟨_, rfl, t, rfl, ⟨_, .inl (.inl z)⟩, fun D hD => lc_list (xs := vs) (fun j H2 => Same H1 H2 ∧ H2 D = some (.lst (((vs.take j).map isWord).map V.bl))) ⟨al hD, upd_same⟩ (fun j H2 _ pv => .inl (.inl (pv.1 _ _ z))) (fun j x H2 hx pv => ?_) (fun H2 pv => ?_)⟩
          · obtain ⟨e2, hD2⟩ := pv
            have lx := it x (List.mem_of_getElem? hx)
            refine ⟨rfl, _, rfl, aST, words4, isWord x, rfl, T5.sST _, leaf_word ((lx.same e1).same e2), ?_⟩
            refine ⟨_, hD2, by rw [List.length_map, List.length_map, List.length_take]; exact small1000 (by omega), fun b o hb => ?_, ?_⟩
            · rw [upd_ne (ne_of_none hb hD)]
              exact e2 _ _ hb
            · rw [upd_same, List.take_add_one, hx, List.map_append, List.map_append]
              rfl
          · obtain ⟨e2, hD2⟩ := pv
            rw [List.take_length] at hD2
            refine ⟨D, _, rfl, .inl (.inl hD2), _, rfl, ?_⟩
            rw [List.all_map, show (vs.all (id ∘ isWord)) = vs.all isWord from rfl]
            by_cases hw : vs.all isWord = true
            · rw [hw, Bool.true_and] at q
              rw [hw]
              refine iteTo rfl ?_
              have hi : i < vs.length := by omega
              have hx : vs[i]? = some vs[i] := List.getElem?_eq_getElem hi
              have wx := List.all_eq_true.mp hw vs[i] (List.getElem_mem hi)
              obtain ⟨zz, ez⟩ : ∃ zz, vs[i] = .str zz := by
                cases e : vs[i] with
                | str zz => exact ⟨zz, rfl⟩
                | _ => rw [e] at wx; cases wx
              have wz : zz ∈ words4 := by
                rw [ez] at wx
                exact of_decide_eq_true wx
              rw [ez] at hx
              refine .inr ⟨_, rfl, _, rfl, t, _, _, _, rfl, rfl, .inl (.inl (e2 _ _ z)), atI_nat hx, ?_⟩
              refine ⟨.str zz, .str "none", .str _, .str _, word_shaped wz, word_shaped (by decide), ?_⟩
              rw [none_eqv]
              have eq : decide (vs[i]? = some (V.str "none")) = decide (zz = "none") := by
                rw [hx]
                exact decide_eq_decide.mpr ⟨fun h => by injection h with h; injection h, fun h => by rw [h]⟩
              rw [eq] at q
              exact q _ (e1.trans e2)
            · rw [Bool.eq_false_iff.mpr hw, Bool.false_and] at q
              rw [Bool.eq_false_iff.mpr hw]
              exact iteFo rfl (q _ (e1.trans e2))
      · rw [decide_eq_false hl, Bool.false_and] at q
        rw [decide_eq_false hl]
        exact iteTo rfl (q _ e1)
theorem ei_gen {t : TE} {σ : L2.St} {H : Hp} {Q : VK} {r : Addr} {ys : List V} {j k : Nat} {v : V} (inner : ∀ Q' : VK, Q' (.ref r) H → t σ H Q') (h2 : tVar k σ H fun y H' => y = .int (j : Nat) ∧ H' = H) (h : SqOf H r ys) (hx : ys[j]? = some v) (q : Q v H) :
    K7E.tEi (tOp (rIxT K) t (tVar k)) (tOp (rIxL K) t (tVar k)) σ H Q := by
  obtain ⟨w, hw, rfl, _⟩ := h2
  rcases h with z | z
  · exact .inl (inner _ ⟨_, hw, r, ys, _, v, rfl, rfl, .inl (.inl z), atI_nat hx, q⟩)
  · exact .inr (inner _ ⟨_, hw, r, ys, _, v, rfl, rfl, .inl (.inl z), atI_nat hx, q⟩)
end
theorem wds_asleep {ks : List Nat} (h : ∀ k ∈ ks, k < 3) : inV (.str "asleep") (wds ks) = false := by
  refine Bool.eq_false_iff.mpr fun e => ?_
  obtain ⟨x, hx, he⟩ := List.any_eq_true.mp e
  obtain ⟨k, hk, rfl⟩ := List.mem_map.mp hx
  have := h k hk
  match k, this with
  | 0, _ => exact absurd he (by decide +kernel)
  | 1, _ => exact absurd he (by decide +kernel)
  | 2, _ => exact absurd he (by decide +kernel)
theorem wds_awake {ks : List Nat} (h : ∀ k ∈ ks, k = 0 ∨ 3 ≤ k) : inV (.str "awake") (wds ks) = false ∧ inV (.str "needed") (wds ks) = false := by
  refine ⟨Bool.eq_false_iff.mpr fun e => ?_, Bool.eq_false_iff.mpr fun e => ?_⟩
  all_goals
    obtain ⟨x, hx, he⟩ := List.any_eq_true.mp e
    obtain ⟨k, hk, rfl⟩ := List.mem_map.mp hx
    have z := h k hk
    match k with
    | 0 => exact absurd he (by decide +kernel)
    | 1 => omega
    | 2 => omega
    | k + 3 =>
      have he : eqV (.str "asleep") _ = true := he
      exact absurd he (by decide +kernel)
theorem iteB {b : Bool} {p q : Prop} (h1 : b = true → p) (h2 : b = false → q) : if b = true then p else q := by
  cases b with
  | true => exact h1 rfl
  | false => exact h2 rfl
theorem CellOr.mono {B : Addr} {n : Nat} {H : Hp} {x : V} {E : XK} {q q' : Nat → Prop} (h : CellOr B n H x E q) (i : ∀ c, x = .int (c : Nat) → c < n → q c → q' c) : CellOr B n H x E q' := by
  rcases h with ⟨c, rfl, h1, h2⟩ | h
  · exact .inl ⟨c, rfl, h1, i c rfl h1 h2⟩
  · exact .inr h
/-- a right that is awake or needed -/
def rightV (k : Nat) : Bool := decide (k = 1 ∨ k = 2)
theorem wd_right (k : Nat) : inV (.str (wd k)) [.str "awake", .str "needed"] = rightV k := by
  match k with
  | 0 => decide +kernel
  | 1 => decide +kernel
  | 2 => decide +kernel
  | k + 3 =>
    have e : rightV (k + 3) = false := decide_eq_false (by omega)
    rw [e]
    show inV (.str "asleep") [.str "awake", .str "needed"] = false
    decide +kernel
theorem wds_strs (row : List Nat) : wds row = (row.map wd).map V.str := by unfold wds; rw [List.map_map]; rfl
/-! ### states compared -/
theorem dp_strs {K : PySem.W.Frag} {H : Hp} : ∀ ss : List Str, DpAll K H (ss.map V.str) (ss.map PyData.str)
  | [] => .nil
  | z :: ss => .cons (.str z) (dp_strs ss)
theorem eqv_strs : ∀ ss tt : List Str, PyData.eqvAll (ss.map PyData.str) (tt.map PyData.str) = decide (ss = tt)
  | [], [] => rfl
  | [], _ :: _ => by simp [PyData.eqvAll]
  | _ :: _, [] => by simp [PyData.eqvAll]
  | x :: ss, y :: tt => by
    rw [List.map_cons, List.map_cons, PyData.eqvAll, eqv_strs ss tt]
    by_cases e : x = y
    · subst e
      simp [PyData.eqv]
    · simp [PyData.eqv, e]
theorem wd_ok (k : Nat) : PyData.strOk (wd k) = true := by
  match k with
  | 0 => decide +kernel
  | 1 => decide +kernel
  | 2 => decide +kernel
  | k + 3 =>
    show PyData.strOk "asleep" = true
    decide +kernel
theorem dp_wds {K : PySem.W.Frag} {H : Hp} (row : List Nat) : DpAll K H (wds row) ((row.map wd).map PyData.str) := by
  rw [wds_strs]
  exact dp_strs _
theorem lay_wds (l : List Nat) : PyData.canLayAll0 ((l.map wd).map PyData.str) = true ∧ PyData.depthAll ((l.map wd).map PyData.str) = 0 := by
  induction l with
  | nil => exact ⟨rfl, rfl⟩
  | cons a l ih => exact ⟨by simp only [List.map_cons, PyData.canLayAll0, PyData.canLay0, ih.1, wd_ok]; rfl, by simp only [List.map_cons, PyData.depthAll, PyData.depth, ih.2]; rfl⟩
theorem dec_int (x y : Nat) : decide (V.int (x : Nat) = V.int (y : Nat)) = decide (x = y) := decide_eq_decide.mpr ⟨fun h => by injection h with h; omega, fun h => by rw [h]⟩
def rLst (K : PySem.W.Frag) : List V → Hp → VK → Prop := fun xs H Q => ∃ p ys, xs = [.ref p] ∧ (SqL K H p ys ∨ SqT K H p ys) ∧ ∀ l, H l = none → Q (.ref l) (upd H l (.lst ys))
theorem pw_nodup {l : List Nat} (h : l.Pairwise (· < ·)) : l.Nodup := h.imp fun h => Nat.ne_of_lt h
theorem wds_len (row : List Nat) : (wds row).length = row.length := List.length_map ..
theorem ints_len (l : List Nat) : (ints_ l).length = l.length := List.length_map ..
end K7
end
/-! ## P17 -/
section
open PySem PySem.Spec PyProof.Rows L2
namespace K7
abbrev N_number_of_row : List Str := ["cell", "own", "row", "number", "b", "word", "way"]
abbrev s_number_of_row : Stmt := topS 29
theorem sc_number_of_row : FnScope ["cell", "own", "row", "number", "b", "word", "way"] ["cell", "own", "row"] (defScope s_number_of_row) := ⟨rfl, rfl, rfl, by decide +kernel, rfl, by decide +kernel, by decide +kernel⟩
abbrev N__check_places : List Str := ["own", "standings", "b", "word", "words"]
abbrev s__check_places : Stmt := topS 30
theorem sc__check_places : FnScope ["own", "standings", "b", "word", "words"] ["own", "standings"] (defScope s__check_places) := ⟨rfl, rfl, rfl, by decide +kernel, rfl, by decide +kernel, by decide +kernel⟩
abbrev N_BadView___init__ : List Str := ["self", "what"]
abbrev s_BadView___init__ : Stmt := inClass (topS 7) 0
theorem sc_BadView___init__ : FnScope ["self", "what"] ["self", "what"] (defScope s_BadView___init__) := ⟨rfl, rfl, rfl, by decide +kernel, rfl, by decide +kernel, by decide +kernel⟩
/-! ### the number of a row -/
def wayK (o : Bool) (k : Nat) : Nat := if k = 0 then (if o = true then 0 else 2) else if k = 1 then 3 else if k = 2 then 4 else 1
def wayS (o : Bool) (k : Nat) : Str := if (decide (k = 0) && o) = true then "own" else wd k
theorem wd3 (k : Nat) : wd (k + 3) = "asleep" := rfl
theorem way_at (o : Bool) (k : Nat) : digs[wayK o k]? = some (wayS o k) ∧ ∀ m, m < wayK o k → digs[m]? ≠ some (wayS o k) := by
  have all : ∀ o : Bool, ∀ k : Fin 4, digs[wayK o k.val]? = some (wayS o k.val) ∧ ∀ m : Fin 5, m.val < wayK o k.val → digs[m.val]? ≠ some (wayS o k.val) := by decide +kernel
  have lt5 : ∀ o : Bool, ∀ k : Fin 4, wayK o k.val < 5 := by decide +kernel
  have z : ∃ k' : Fin 4, wayK o k = wayK o k'.val ∧ wayS o k = wayS o k'.val := by
    match k with
    | 0 => exact ⟨0, rfl, rfl⟩
    | 1 => exact ⟨1, rfl, rfl⟩
    | 2 => exact ⟨2, rfl, rfl⟩
    | k + 3 => exact ⟨3, rfl, by unfold wayS; rw [decide_eq_false (by omega)]; rfl⟩
  obtain ⟨k', e1, e2⟩ := z
  rw [e1, e2]
  exact ⟨(all o k').1, fun m hm => (all o k').2 ⟨m, Nat.lt_trans hm (lt5 o k')⟩ hm⟩
theorem wayK_lt (o : Bool) (k : Nat) : wayK o k < 5 := by
  unfold wayK
  repeat' split
  all_goals omega
def numR (own row : List Nat) (c : Nat) : Nat → Nat
  | 0 => 0
  | j + 1 => if j = c then numR own row c j else numR own row c j * 5 + wayK (decide (j ∈ own)) (row.getD j 0)
theorem numR_lt (own row : List Nat) (c : Nat) : ∀ j, numR own row c j < 5 ^ j
  | 0 => by show 0 < 1; decide
  | j + 1 => by
    have ih := numR_lt own row c j
    have w := wayK_lt (decide (j ∈ own)) (row.getD j 0)
    show (if j = c then numR own row c j else numR own row c j * 5 + wayK (decide (j ∈ own)) (row.getD j 0)) < 5 ^ (j + 1)
    rw [Nat.pow_succ]
    split
    · omega
    · omega
theorem numR_small {own row : List Nat} {c j : Nat} (h : j ≤ 5) : numR own row c j < 3126 := by
  have z := numR_lt own row c j
  have z2 : 5 ^ j ≤ 5 ^ 5 := Nat.pow_le_pow_right (by decide) h
  have z3 : (5 : Nat) ^ 5 = 3125 := by decide
  omega
theorem wds_at {row : List Nat} {n b : Nat} (rl : row.length = n) (h : b < n) : (wds row)[b]? = some (.str (wd (row.getD b 0))) := by
  unfold wds
  rw [List.getElem?_map, List.getElem?_eq_getElem (by rw [rl]; exact h), List.getD_eq_getElem?_getD, List.getElem?_eq_getElem (by rw [rl]; exact h)]
  rfl
theorem wd_none (k : Nat) : decide (V.str (wd k) = V.str "none") = decide (k = 0) := by
  match k with
  | 0 => decide +kernel
  | 1 => decide +kernel
  | 2 => decide +kernel
  | k + 3 =>
    rw [decide_eq_false (p := k + 3 = 0) (by omega)]
    show decide (V.str "asleep" = V.str "none") = false
    decide +kernel
section
variable {P : Program} {w : World} {K : PySem.W.Frag} {mg : Str → Option Value} {base : Heap} {a : AdL} {aST aRI aDG aOW : Addr}
def spNumR : Sp := fun vs H Q _ => ∃ (to tr : Addr) (n c : Nat) (own row : List Nat), vs = [.int (c : Nat), .ref to, .ref tr] ∧ H to = some (.tup (ints_ own)) ∧ H tr = some (.tup (wds row)) ∧ row.length = n ∧ n ≤ 5 ∧ ∀ H', Same H H' → Q (.int (numR own row c n : Nat)) H'
theorem ok_numr (T5 : T5s K mg aST aRI aDG aOW) {f : Addr} {fd : FuncData} (F : Fun K "number_of_row" "number_of_row" s_number_of_row f fd) (m_enumerate : mg "enumerate" = none) : FnOk P w K mg base CX0 1 f fd ["cell", "own", "row"] spNumR := by
  refine F.ok sc_number_of_row (fun vs H Q E h => ?_) (fun cdv A outer s H vs Q E hr h => ?_)
  · obtain ⟨to, tr, n, c, own, row, rfl, _⟩ := h
    rfl
  · obtain ⟨to, tr, n, c, own, row, rfl, ho, ht, rl, n5, q⟩ := h
    refine ⟨_, (pss_cons (ps_set (i := 3) sc_number_of_row.nd rfl (by first | exact Or.inl rfl | exact Or.inr rfl) pe_int)
 (pss_cons (ps_for PassesOwn.never rfl (K7E.pi_enumT (by rfl) m_enumerate (pa_cons (pv 2) pa_nil)) (pg_tup rfl (pgs_cons (pg_name (i := 4) sc_number_of_row.nd rfl (by first | exact Or.inl rfl | exact Or.inr rfl)) (pgs_cons (pg_name (i := 5) sc_number_of_row.nd rfl (by first | exact Or.inl rfl | exact Or.inr rfl)) pgs_nil)))
  (pss_one (ps_if (pt_cmpR op_ne (pv 4) (pv 0) (nomark _))
  (pss_cons (ps_set (i := 6) sc_number_of_row.nd rfl (by first | exact Or.inl rfl | exact Or.inr rfl) (pe_ifExp (pw_and (pt_cmpR op_eq (pv 5) pe_str (nomark _)) (pw_and1 (pt_cmpR op_in_seq (pv 4) (pv 1) (by with_unfolding_all rfl)))).pt pe_str (pv 5)))
 (pss_one (ps_set (i := 3) sc_number_of_row.nd rfl (by first | exact Or.inl rfl | exact Or.inr rfl) (pe_op op_add (pe_op op_mul (pv 3) pe_int) (pe_bm PySem.F.plainAttrs_tuple PySem.F.slot_tuple_index PySem.F.type_tuple_index mt_tup_index (pe_glob (v := .ref _) rfl T5.gDG rfl) (pa_cons (pv 6) pa_nil))))))
  pss_nil)))
 (pss_one (ps_ret (pv 3))))), ?_⟩
    have wl : (wds row).length = n := by rw [wds_len, rl]
    refine ⟨_, rfl, tr, _, rfl, .inl (.inl ht), for_it (K7E.walk_enumT (xs := wds row)) (fun j σ H2 => ∃ y4 y5 y6, σ = [some (.int (c : Nat)), some (.ref to), some (.ref tr), some (.int (numR own row c j : Nat)), y4, y5, y6] ∧ Same H H2)
      ⟨none, none, none, rfl, Same.refl H⟩ (fun j σ H2 _ pv => ?_) (fun j x σ H2 H3 hj pv hy => ?_) (fun σ H2 pv => ?_)⟩
    · obtain ⟨y4, y5, y6, rfl, e2⟩ := pv
      exact .inl (.inl (e2 _ _ ht))
    · obtain ⟨y4, y5, y6, rfl, e2⟩ := pv
      obtain ⟨T', x', y', rfl, nT, rfl, e3, e4⟩ := hy
      obtain rfl := Option.some.inj e3
      have jn : j < n := by rw [← wl]; exact hj
      obtain rfl := Option.some.inj ((wds_at rl jn).symm.trans e4)
      have sT := al (o := .tup [.int (j : Nat), .str (wd (row.getD j 0))]) nT
      have e23 := e2.trans sT
      refine ⟨T', _, rfl, .inl (.inl upd_same), rfl, _, _, rfl, _, _, rfl, rfl, ?_⟩
      generalize upd H2 T' (.tup [.int (j : Nat), .str (wd (row.getD j 0))]) = H3 at sT e23 ⊢
      refine ⟨_, rfl, _, rfl, rfl, _, rfl, ?_⟩
      rw [dec_int]
      have st : numR own row c (j + 1) = if j = c then numR own row c j else numR own row c j * 5 + wayK (decide (j ∈ own)) (row.getD j 0) := rfl
      by_cases hc : j = c
      · rw [decide_eq_true hc]
        rw [if_pos hc] at st
        refine iteF ⟨some (.int (j : Nat)), some (.str (wd (row.getD j 0))), y6, ?_, e23⟩
        rw [st]
        rfl
      · rw [decide_eq_false hc]
        rw [if_neg hc] at st
        refine iteT ?_
        have sm := numR_small (own := own) (row := row) (c := c) (j := j) (by omega)
        obtain ⟨w1, w2⟩ := way_at (decide (j ∈ own)) (row.getD j 0)
        have fin : ∀ H4, Same H3 H4 → ∀ v, v = V.str (wayS (decide (j ∈ own)) (row.getD j 0)) → ∃ i j_1, V.int (numR own row c j : Nat) = .int i ∧ True := fun _ _ _ _ => ⟨_, 0, rfl, trivial⟩
        clear fin
        have step : ((numR own row c j : Nat) : Int) * 5 + ((wayK (decide (j ∈ own)) (row.getD j 0) : Nat) : Int) = ((numR own row c (j + 1) : Nat) : Int) := by rw [st]; omega
        refine ⟨_, rfl, rfl, _, rfl, ?_⟩
        rw [wd_none]
        refine iteB (fun t => ?_) (fun t => ?_)
        · refine ⟨_, rfl, _, rfl, to, _, rfl, .inr (.inl (.inl (e23 _ _ ho))), rfl, flat_ints own, _, rfl, ?_⟩
          rw [show inV (.int (j : Nat)) (ints_ own) = decide (j ∈ own) from inV_ints j own]
          refine iteB (fun t2 => ?_) (fun t2 => ?_)
          · have t2 : decide (j ∈ own) = true := t2
            rw [t2] at w1 w2 step
            have e5 : wayS true (row.getD j 0) = "own" := by unfold wayS; rw [t]; rfl
            rw [e5] at w1 w2
            refine ⟨_, rfl, _, _, rfl, rfl, .inl ⟨by omega, by omega⟩, T5.yDG _, _, rfl, aDG, digs, "own", _, rfl, rfl, T5.sDG _, w1, w2, _, _, rfl, rfl, some (.int (j : Nat)), some (.str (wd (row.getD j 0))), some (.str "own"), ?_, e23⟩
            exact congrArg (fun z : Int => [some (V.int (c : Nat)), some (V.ref to), some (V.ref tr), some (V.int z), some (V.int (j : Nat)), some (V.str (wd (row.getD j 0))), some (V.str "own")]) step
          · have t2 : decide (j ∈ own) = false := t2
            rw [t2] at w1 w2 step
            have e5 : wayS false (row.getD j 0) = wd (row.getD j 0) := by unfold wayS; rw [Bool.and_false]; rfl
            rw [e5] at w1 w2
            refine ⟨_, rfl, _, rfl, _, _, rfl, rfl, .inl ⟨by omega, by omega⟩, T5.yDG _, _, rfl, aDG, digs, _, _, rfl, rfl, T5.sDG _, w1, w2, _, _, rfl, rfl, some (.int (j : Nat)), some (.str (wd (row.getD j 0))), some (.str (wd (row.getD j 0))), ?_, e23⟩
            exact congrArg (fun z : Int => [some (V.int (c : Nat)), some (V.ref to), some (V.ref tr), some (V.int z), some (V.int (j : Nat)), some (V.str (wd (row.getD j 0))), some (V.str (wd (row.getD j 0)))]) step
        · have e5 : wayS (decide (j ∈ own)) (row.getD j 0) = wd (row.getD j 0) := by unfold wayS; rw [t]; rfl
          rw [e5] at w1 w2
          refine iteF ⟨_, rfl, _, rfl, _, _, rfl, rfl, .inl ⟨by omega, by omega⟩, T5.yDG _, _, rfl, aDG, digs, _, _, rfl, rfl, T5.sDG _, w1, w2, _, _, rfl, rfl, some (.int (j : Nat)), some (.str (wd (row.getD j 0))), some (.str (wd (row.getD j 0))), ?_, e23⟩
          exact congrArg (fun z : Int => [some (V.int (c : Nat)), some (V.ref to), some (V.ref tr), some (V.int z), some (V.int (j : Nat)), some (V.str (wd (row.getD j 0))), some (V.str (wd (row.getD j 0)))]) step
    · obtain ⟨y4, y5, y6, rfl, e2⟩ := pv
      rw [wl]
      exact ⟨_, rfl, q _ e2⟩
/-! places of a view -/
/-- own cells and a row that are lawful -/
structure VwOk (n c : Nat) (own row : List Nat) : Prop where
  cn : c < n
  lt : ∀ b ∈ own, b < n
  nd : own.Nodup
  me : c ∈ own
  rl : row.length = n
  r0 : row.getD c 0 = 0
  inn : ∀ b ∈ own, row.getD b 0 = 0 ∨ 3 ≤ row.getD b 0
  out : ∀ b, b < n → b ∉ own → row.getD b 0 < 3
/-- own cells and a row that may be unlawful beside each other -/
structure VwPre (n c : Nat) (own row : List Nat) : Prop where
  cn : c < n
  lt : ∀ b ∈ own, b < n
  nd : own.Nodup
  me : c ∈ own
  rl : row.length = n
  r0 : row.getD c 0 = 0
def outR (own row : List Nat) (j : Nat) : List Nat := ((List.range j).filter fun b => !decide (b ∈ own)).map fun b => row.getD b 0
/-- a right that sleeps in another's cell -/
def slpB (n : Nat) (own row : List Nat) : Bool := (outR own row n).any fun k => decide (3 ≤ k)
/-- a right that is awake in an own cell -/
def awkB (own row : List Nat) : Bool := (own.map fun b => row.getD b 0).any fun k => decide (k = 1 ∨ k = 2)
theorem VwPre.ok {n c : Nat} {own row : List Nat} (h : VwPre n c own row) (s : slpB n own row = false) (w : awkB own row = false) : VwOk n c own row := by
  refine ⟨h.cn, h.lt, h.nd, h.me, h.rl, h.r0, fun b hb => ?_, fun b hb hn => ?_⟩
  · have z := List.any_eq_false.mp w (row.getD b 0) (List.mem_map.mpr ⟨b, hb, rfl⟩)
    have z : ¬ (row.getD b 0 = 1 ∨ row.getD b 0 = 2) := fun e => z (decide_eq_true e)
    omega
  · have z := List.any_eq_false.mp s (row.getD b 0) (List.mem_map.mpr ⟨b, List.mem_filter.mpr ⟨List.mem_range.mpr hb, by rw [decide_eq_false hn]; rfl⟩, rfl⟩)
    have z : ¬ (3 ≤ row.getD b 0) := fun e => z (decide_eq_true e)
    omega
theorem outR_succ (own row : List Nat) (j : Nat) : outR own row (j + 1) = outR own row j ++ (if j ∈ own then [] else [row.getD j 0]) := by
  unfold outR
  rw [List.range_succ, List.filter_append, List.map_append]
  by_cases h : j ∈ own
  · rw [if_pos h, List.filter_cons, decide_eq_true h]; rfl
  · rw [if_neg h, List.filter_cons, decide_eq_false h]; rfl
theorem outR_len (own row : List Nat) (j : Nat) : (outR own row j).length ≤ j := by
  unfold outR
  rw [List.length_map]
  have := List.length_filter_le (fun b => !decide (b ∈ own)) (List.range j)
  rw [List.length_range] at this
  exact this
theorem inV_wds (w : Str) (ks : List Nat) : inV (.str w) (wds ks) = ks.any fun k => eqV (.str (wd k)) (.str w) := by
  unfold inV wds
  rw [List.any_map]
  rfl
theorem eq_slp (k : Nat) : eqV (.str (wd k)) (.str "asleep") = decide (3 ≤ k) := by
  match k with
  | 0 => decide +kernel
  | 1 => decide +kernel
  | 2 => decide +kernel
  | k + 3 =>
    rw [decide_eq_true (p := 3 ≤ k + 3) (by omega)]
    show eqV (.str "asleep") (.str "asleep") = true
    decide +kernel
theorem eq_awk (k : Nat) : (eqV (.str (wd k)) (.str "awake") || eqV (.str (wd k)) (.str "needed")) = decide (k = 1 ∨ k = 2) := by
  match k with
  | 0 => decide +kernel
  | 1 => decide +kernel
  | 2 => decide +kernel
  | k + 3 =>
    rw [decide_eq_false (p := k + 3 = 1 ∨ k + 3 = 2) (by omega)]
    show (eqV (.str "asleep") (.str "awake") || eqV (.str "asleep") (.str "needed")) = false
    decide +kernel
theorem inV_slp (ks : List Nat) : inV (.str "asleep") (wds ks) = ks.any fun k => decide (3 ≤ k) := by
  rw [inV_wds]
  exact congrArg (fun f => ks.any f) (funext eq_slp)
theorem any_or (l : List Nat) (p q : Nat → Bool) : (l.any p || l.any q) = l.any fun k => p k || q k := by
  induction l with
  | nil => rfl
  | cons x r ih => 
    show ((p x || r.any p) || (q x || r.any q)) = ((p x || q x) || r.any fun k => p k || q k)
    rw [← ih]
    cases p x <;> cases q x <;> cases r.any p <;> cases r.any q <;> rfl
theorem inV_awk (ks : List Nat) : (inV (.str "awake") (wds ks) || inV (.str "needed") (wds ks)) = ks.any fun k => decide (k = 1 ∨ k = 2) := by
  rw [inV_wds, inV_wds, any_or]
  exact congrArg (fun f => ks.any f) (funext eq_awk)
/-- what the top says of BadView -/
structure Bv (K : PySem.W.Frag) (mg : Str → Option Value) (B iB : Addr) : Prop where
  g : mg "BadView" = some (.ref B)
  ox : OexC K B
  iC : PySem.W.findIn K (.ref B) "__init__" = some (some (.ref iB))
  tI : PySem.W.typeIn K (.ref iB) = some (.type "function")
  no : PySem.W.findIn K (.ref B) "what" = some none
theorem ok_iV {BV iV : Addr} (TB : Bv K mg BV iV) {f : Addr} {fd : FuncData} (F : Fun K "__init__" "BadView.__init__" s_BadView___init__ f fd) : FnOk P w K mg base (L2.CX P w) 1 f fd ["self", "what"] (spX BV "what") := by
  refine F.okX sc_BadView___init__ (fun vs H Q E h => ?_) (fun cdv A outer s H vs Q E hr h => ?_)
  · obtain ⟨e, y, rfl, _⟩ := h
    rfl
  · obtain ⟨e, y, rfl, he, q⟩ := h
    refine ⟨_, (pss_one (ps_ost (pv 0) (pv 1))), ?_⟩
    exact ⟨y, rfl, .ref e, rfl, e, BV, rfl, TB.ox, TB.no, .inl ⟨he, fun d hd hn => q d hd hn⟩⟩
def spChV (BV : Addr) : Sp := fun vs H Q E => ∃ (o t : Addr) (n c : Nat) (own row : List Nat), vs = [.ref o, .ref t] ∧ SqOf H o (ints_ own) ∧ SqOf H t (wds row) ∧ VwPre n c own row ∧ n ≤ 5 ∧
  (slpB n own row = true → Flies H BV "what" (.str "asleep") E) ∧ (slpB n own row = false → awkB own row = true → Flies H BV "what" (.str "awake") E) ∧ (slpB n own row = false → awkB own row = false → ∀ H', Same H H' → Q .non H')
theorem ok_chv {BV iV : Addr} (TB : Bv K mg BV iV) {f : Addr} {fd fdB : FuncData} (F : Fun K "_check_places" "_check_places" s__check_places f fd) (FB0 : Fun K "__init__" "BadView.__init__" s_BadView___init__ iV fdB) (bB : Binds K fdB ["self", "what"] []) (m_enumerate : mg "enumerate" = none) : FnOk P w K mg base (L2.CX P w) 3 f fd ["own", "standings"] (spChV BV) := by
  have FB : FnOk P w K mg base (L2.CX P w) 1 iV fdB ["self", "what"] (spX BV "what") := ok_iV TB FB0
  refine F.okX sc__check_places (fun vs H Q E h => ?_) (fun cdv A outer s H vs Q E hr h => ?_)
  · obtain ⟨o, t, n, c, own, row, rfl, _⟩ := h
    rfl
  · obtain ⟨o, t, n, c, own, row, rfl, ho, ht, ok, n5, q1, q2, q3⟩ := h
    have hrx : Room (1 + 1) _ := hr.mono (by decide)
    refine ⟨_, (Evl.pss_cut (ps_if (pt_cmpR op_in_seq pe_str (pe_lc (own := [("b", 2), ("word", 3)]) (g := gTup K 2 (gCons (gName 2) (gCons (gName 3) (gNil)))) rfl sc__check_places.nd (K7E.pi_either (K7E.pi_enumT (by rfl) m_enumerate (pa_cons (pv 1) pa_nil)) (pi_enum (by rfl) m_enumerate (pa_cons (pv 1) pa_nil))) (blkOk_by (own := [("b", 2), ("word", 3)]) (N := N__check_places) (sc := defScope s__check_places) (by decide +kernel)) (fun _ _ _ _ _ => (pg_tup rfl (pgs_cons (pg_name (i := 2) sc__check_places.nd rfl (by first | exact Or.inl rfl | exact Or.inr rfl)) (pgs_cons (pg_name (i := 3) sc__check_places.nd rfl (by first | exact Or.inl rfl | exact Or.inr rfl)) pgs_nil)))) (fun _ _ _ _ _ => (pts_one (pt_cmpR (show OpR _ _ (rIn K true) from op_notIn_seq) (pv 2) (pv 0) (by with_unfolding_all rfl)))) (fun _ _ _ _ _ => (pv 3))) (by with_unfolding_all rfl))
  (pss_one (ps_raise rfl (takes_of rfl rfl rfl rfl) (pmk_oex TB.ox TB.iC TB.tI FB hrx bB .nil passL (by rfl) TB.g (pa_cons pe_str pa_nil))))
  pss_nil)
 (pss_cons (ps_setLc (i := 4) (own := [("b", 2)]) (g := gName 2) (tt := tYes) rfl sc__check_places.nd rfl rfl (sw_true rfl rfl rfl (by decide +kernel)) (K7E.pi_either (pi_tup (pv 0)) (pi_list (pv 0))) (blkOk_by (own := [("b", 2)]) (N := N__check_places) (sc := defScope s__check_places) (by decide +kernel)) (fun _ _ _ _ _ => (pg_name (i := 2) sc__check_places.nd rfl (by first | exact Or.inl rfl | exact Or.inr rfl))) (fun _ _ _ _ _ => pts_nil) (fun _ _ _ _ _ => (K7E.pe_ei (pe_ix (show IxR _ (rIxT K) from ix_tup) (pv 1) (pv 2) (fun _ _ => rfl)) (pe_ix (show IxR _ (rIxL K) from ix_list) (pv 1) (pv 2) (fun _ _ => rfl)))))
 (pss_one (ps_if (pw_or (pt_cmpR op_in_seq pe_str (pv 4) (by with_unfolding_all rfl)) (pw_or1 (pt_cmpR op_in_seq pe_str (pv 4) (by with_unfolding_all rfl)))).pt
  (pss_one (ps_raise rfl (takes_of rfl rfl rfl rfl) (pmk_oex TB.ox TB.iC TB.tI FB hrx bB .nil passL (by rfl) TB.g (pa_cons pe_str pa_nil))))
  pss_nil)))), ?_⟩
    have wl : (wds row).length = n := by rw [wds_len, ok.rl]
    have ol : own.length ≤ 5 := by
      have z := K7E.nodup_le own (List.range n) ok.nd fun x hx => List.mem_range.mpr (ok.lt x hx)
      rw [List.length_range] at z
      omega
    refine ⟨fun τ H' => τ = [some (.ref o), some (.ref t), none, none, none] ∧ Same H H' ∧ slpB n own row = false, ?_, fun τ H1 hM => ?_⟩
    · rcases ht with z | z
      · refine .inl ⟨_, rfl, t, _, rfl, .inl (.inl z), fun D hD => lc_it (K7E.walk_enumT (xs := wds row)) (fun j H2 => Same H H2 ∧ H2 D = some (.lst (wds (outR own row j)))) ⟨al hD, upd_same⟩ (fun j H2 _ pv => .inl (.inl (pv.1 _ _ z))) (fun j x H2 H3 hj pv hy => ?_) (fun H2 pv => ?_)⟩
        · obtain ⟨e2, hD2⟩ := pv
          obtain ⟨T', x', y', rfl, nT, rfl, e3, e4⟩ := hy
          obtain rfl := Option.some.inj e3
          have jn : j < n := by rw [← wl]; exact hj
          have e4 : (wds row)[j]? = some y' := e4
          obtain rfl := Option.some.inj ((wds_at ok.rl jn).symm.trans e4)
          have sT := al (o := .tup [.int (j : Nat), .str (wd (row.getD j 0))]) nT
          have e23 := e2.trans sT
          refine ⟨T', _, rfl, .inl (.inl upd_same), rfl, _, _, rfl, _, _, rfl, rfl, rfl, ?_⟩
          refine ⟨_, rfl, _, rfl, o, _, rfl, (ho.same e23).sq, rfl, flat_ints own, _, rfl, ?_⟩
          show if (!inV (.int (j : Nat)) (ints_ own)) = true then _ else _
          rw [inV_ints]
          have oj := outR_succ own row j
          have lk := outR_len own row j
          by_cases hm : j ∈ own
          · rw [if_pos hm, List.append_nil] at oj
            rw [decide_eq_true hm]
            exact iteF ⟨e23, by rw [oj]; exact sT _ _ hD2⟩
          · rw [if_neg hm] at oj
            rw [decide_eq_false hm]
            refine iteT ⟨_, rfl, _, sT _ _ hD2, by rw [wds_len]; exact small1000 (by omega), fun b z hb => ?_, ?_⟩
            · rw [upd_ne (ne_of_none hb hD)]
              exact e23 _ _ hb
            · rw [upd_same, oj, wds_snoc]
        · obtain ⟨e2, hD2⟩ := pv
          rw [wl] at hD2
          refine ⟨D, wds (outR own row n), rfl, .inl (.inl (.inl hD2)), rfl, wds_flat _, _, rfl, ?_⟩
          show if inV (.str "asleep") (wds (outR own row n)) = true then _ else _
          rw [inV_slp]
          refine iteB (fun hs => ?_) (fun hs => ⟨rfl, e2, hs⟩)
          exact ⟨by show 1 ≤ 1000; decide, flies_go ((q1 hs).later e2)⟩
      · refine .inr ⟨_, rfl, t, _, rfl, .inl (.inl z), fun D hD => lc_it (walk_enum (xs := wds row)) (fun j H2 => Same H H2 ∧ H2 D = some (.lst (wds (outR own row j)))) ⟨al hD, upd_same⟩ (fun j H2 _ pv => .inl (.inl (pv.1 _ _ z))) (fun j x H2 H3 hj pv hy => ?_) (fun H2 pv => ?_)⟩
        · obtain ⟨e2, hD2⟩ := pv
          obtain ⟨T', x', y', rfl, nT, rfl, e3, e4⟩ := hy
          obtain rfl := Option.some.inj e3
          have jn : j < n := by rw [← wl]; exact hj
          have e4 : (wds row)[j]? = some y' := e4
          obtain rfl := Option.some.inj ((wds_at ok.rl jn).symm.trans e4)
          have sT := al (o := .tup [.int (j : Nat), .str (wd (row.getD j 0))]) nT
          have e23 := e2.trans sT
          refine ⟨T', _, rfl, .inl (.inl upd_same), rfl, _, _, rfl, _, _, rfl, rfl, rfl, ?_⟩
          refine ⟨_, rfl, _, rfl, o, _, rfl, (ho.same e23).sq, rfl, flat_ints own, _, rfl, ?_⟩
          show if (!inV (.int (j : Nat)) (ints_ own)) = true then _ else _
          rw [inV_ints]
          have oj := outR_succ own row j
          have lk := outR_len own row j
          by_cases hm : j ∈ own
          · rw [if_pos hm, List.append_nil] at oj
            rw [decide_eq_true hm]
            exact iteF ⟨e23, by rw [oj]; exact sT _ _ hD2⟩
          · rw [if_neg hm] at oj
            rw [decide_eq_false hm]
            refine iteT ⟨_, rfl, _, sT _ _ hD2, by rw [wds_len]; exact small1000 (by omega), fun b z hb => ?_, ?_⟩
            · rw [upd_ne (ne_of_none hb hD)]
              exact e23 _ _ hb
            · rw [upd_same, oj, wds_snoc]
        · obtain ⟨e2, hD2⟩ := pv
          rw [wl] at hD2
          refine ⟨D, wds (outR own row n), rfl, .inl (.inl (.inl hD2)), rfl, wds_flat _, _, rfl, ?_⟩
          show if inV (.str "asleep") (wds (outR own row n)) = true then _ else _
          rw [inV_slp]
          refine iteB (fun hs => ?_) (fun hs => ⟨rfl, e2, hs⟩)
          exact ⟨by show 1 ≤ 1000; decide, flies_go ((q1 hs).later e2)⟩
    · obtain ⟨rfl, e1, hs⟩ := hM
      rcases ho with z | z
      · refine .inl ⟨_, rfl, o, rfl, ⟨_, .inl (.inl (e1 _ _ z))⟩, fun D hD => lc_tup (xs := ints_ own) (fun j H2 => Same H1 H2 ∧ H2 D = some (.lst (wds ((own.take j).map fun b => row.getD b 0)))) ⟨al hD, upd_same⟩ (fun j H2 _ pv => .inl (.inl (pv.1 _ _ (e1 _ _ z)))) (fun j x H2 hx pv => ?_) (fun H2 pv => ?_)⟩
        · obtain ⟨e2, hD2⟩ := pv
          have hj := (List.getElem?_eq_some_iff.mp hx).1
          rw [ints_len] at hj
          unfold ints_ at hx
          rw [List.getElem?_map] at hx
          obtain ⟨b, hb, rfl⟩ := Option.map_eq_some_iff.mp hx
          have mb := List.mem_of_getElem? hb
          refine ⟨rfl, ?_⟩
          refine ei_gen (fun Q' q => ⟨_, rfl, q⟩) ⟨_, rfl, rfl, rfl⟩ (ht.same (e1.trans e2)) (wds_at ok.rl (ok.lt b mb)) ?_
          refine ⟨_, hD2, by rw [wds_len, List.length_map, List.length_take]; exact small1000 (by omega), fun b z hb => ?_, ?_⟩
          · rw [upd_ne (ne_of_none hb hD)]
            exact e2 _ _ hb
          · rw [upd_same, List.take_add_one, hb, List.map_append]
            show some (HO.lst (wds _ ++ [_])) = some (HO.lst (wds (_ ++ [row.getD b 0])))
            rw [wds_snoc]
        · obtain ⟨e2, hD2⟩ := pv
          rw [ints_len, List.take_length] at hD2
          have ia := inV_awk (own.map fun b => row.getD b 0)
          have e12 := e1.trans e2
          refine ⟨_, rfl, D, _, rfl, .inl (.inl (.inl hD2)), rfl, wds_flat _, _, rfl, ?_⟩
          refine iteB (fun h1 => ?_) (fun h1 => ?_)
          · refine iteTo rfl ⟨by show 1 ≤ 1000; decide, flies_go ((q2 hs (ia.symm.trans ?_)).later e12)⟩
            rw [show inV (.str "awake") (wds (own.map fun b => row.getD b 0)) = true from h1]
            rfl
          · refine ⟨_, rfl, D, _, rfl, .inl (.inl (.inl hD2)), rfl, wds_flat _, _, rfl, ?_⟩
            refine iteB (fun h2 => ?_) (fun h2 => ?_)
            · refine ⟨by show 1 ≤ 1000; decide, flies_go ((q2 hs (ia.symm.trans ?_)).later e12)⟩
              rw [show inV (.str "needed") (wds (own.map fun b => row.getD b 0)) = true from h2, Bool.or_true]
            · refine q3 hs (ia.symm.trans ?_) _ e12
              rw [show inV (.str "awake") (wds (own.map fun b => row.getD b 0)) = false from h1, show inV (.str "needed") (wds (own.map fun b => row.getD b 0)) = false from h2]
              rfl
      · refine .inr ⟨_, rfl, o, rfl, ⟨_, .inl (.inl (e1 _ _ z))⟩, fun D hD => lc_list (xs := ints_ own) (fun j H2 => Same H1 H2 ∧ H2 D = some (.lst (wds ((own.take j).map fun b => row.getD b 0)))) ⟨al hD, upd_same⟩ (fun j H2 _ pv => .inl (.inl (pv.1 _ _ (e1 _ _ z)))) (fun j x H2 hx pv => ?_) (fun H2 pv => ?_)⟩
        · obtain ⟨e2, hD2⟩ := pv
          have hj := (List.getElem?_eq_some_iff.mp hx).1
          rw [ints_len] at hj
          unfold ints_ at hx
          rw [List.getElem?_map] at hx
          obtain ⟨b, hb, rfl⟩ := Option.map_eq_some_iff.mp hx
          have mb := List.mem_of_getElem? hb
          refine ⟨rfl, ?_⟩
          refine ei_gen (fun Q' q => ⟨_, rfl, q⟩) ⟨_, rfl, rfl, rfl⟩ (ht.same (e1.trans e2)) (wds_at ok.rl (ok.lt b mb)) ?_
          refine ⟨_, hD2, by rw [wds_len, List.length_map, List.length_take]; exact small1000 (by omega), fun b z hb => ?_, ?_⟩
          · rw [upd_ne (ne_of_none hb hD)]
            exact e2 _ _ hb
          · rw [upd_same, List.take_add_one, hb, List.map_append]
            show some (HO.lst (wds _ ++ [_])) = some (HO.lst (wds (_ ++ [row.getD b 0])))
            rw [wds_snoc]
        · obtain ⟨e2, hD2⟩ := pv
          rw [ints_len, List.take_length] at hD2
          have ia := inV_awk (own.map fun b => row.getD b 0)
          have e12 := e1.trans e2
          refine ⟨_, rfl, D, _, rfl, .inl (.inl (.inl hD2)), rfl, wds_flat _, _, rfl, ?_⟩
          refine iteB (fun h1 => ?_) (fun h1 => ?_)
          · refine iteTo rfl ⟨by show 1 ≤ 1000; decide, flies_go ((q2 hs (ia.symm.trans ?_)).later e12)⟩
            rw [show inV (.str "awake") (wds (own.map fun b => row.getD b 0)) = true from h1]
            rfl
          · refine ⟨_, rfl, D, _, rfl, .inl (.inl (.inl hD2)), rfl, wds_flat _, _, rfl, ?_⟩
            refine iteB (fun h2 => ?_) (fun h2 => ?_)
            · refine ⟨by show 1 ≤ 1000; decide, flies_go ((q2 hs (ia.symm.trans ?_)).later e12)⟩
              rw [show inV (.str "needed") (wds (own.map fun b => row.getD b 0)) = true from h2, Bool.or_true]
            · refine q3 hs (ia.symm.trans ?_) _ e12
              rw [show inV (.str "awake") (wds (own.map fun b => row.getD b 0)) = false from h1, show inV (.str "needed") (wds (own.map fun b => row.getD b 0)) = false from h2]
              rfl
end
end K7
end
/-! ## P18 -/
section
open PySem PySem.Spec PyProof.Rows L2
namespace K7
abbrev N_View___init__ : List Str := ["self", "land", "cell", "own", "standings", "b"]
abbrev s_View___init__ : Stmt := inClass (topS 31) 0
theorem sc_View___init__ : FnScope ["self", "land", "cell", "own", "standings", "b"] ["self", "land", "cell", "own", "standings"] (defScope s_View___init__) := ⟨rfl, rfl, rfl, by decide +kernel, rfl, by decide +kernel, by decide +kernel⟩
/-! ### a view is made -/
def outF (n : Nat) (own : List Nat) : List Nat := (List.range n).filter fun b => !decide (b ∈ own)
def rigF (n : Nat) (own row : List Nat) : List Nat := (outF n own).filter fun b => rightV (row.getD b 0)
def neeF (n : Nat) (own row : List Nat) : List Nat := (rigF n own row).filter fun b => decide (row.getD b 0 = 2)
def sleF (own row : List Nat) : List Nat := own.filter fun b => decide (3 ≤ row.getD b 0)
def vwFs (l : Addr) (c : Nat) (to ts t1 t2 t3 t4 : Addr) (k : Nat) : List (Str × V) := [("land", .ref l), ("cell", .int (c : Nat)), ("own", .ref to), ("standings", .ref ts), ("outside", .ref t1), ("rights", .ref t2), ("needed", .ref t3), ("sleeping", .ref t4), ("number", .int (k : Nat))]
def vfields : List Str := ["land", "cell", "own", "standings", "outside", "rights", "needed", "sleeping", "number"]
structure VwO (C VC : Addr) (H : Hp) (p l : Addr) (n : Nat) (es : List (Nat × Nat)) (rd : List Nat) (c : Nat) (own row : List Nat) : Prop where
  at_ : ∃ dx to ts t1 t2 t3 t4, H p = some (.ins VC dx (vwFs l c to ts t1 t2 t3 t4 (numR own row c n))) ∧ H to = some (.tup (ints_ own)) ∧ H ts = some (.tup (wds row)) ∧ H t1 = some (.tup (ints_ (outF n own))) ∧ H t2 = some (.tup (ints_ (rigF n own row))) ∧ H t3 = some (.tup (ints_ (neeF n own row))) ∧ H t4 = some (.tup (ints_ (sleF own row)))
  ld : LandO C H l n es rd
  ok : VwOk n c own row
  so : own.Pairwise (· < ·)
theorem VwO.same {C VC : Addr} {H H' : Hp} {p l : Addr} {n : Nat} {es : List (Nat × Nat)} {rd : List Nat} {c : Nat} {own row : List Nat} (h : VwO C VC H p l n es rd c own row) (e : Same H H') : VwO C VC H' p l n es rd c own row := by
  obtain ⟨dx, to, ts, t1, t2, t3, t4, h1, h2, h3, h4, h5, h6, h7⟩ := h.at_
  exact ⟨⟨dx, to, ts, t1, t2, t3, t4, e _ _ h1, e _ _ h2, e _ _ h3, e _ _ h4, e _ _ h5, e _ _ h6, e _ _ h7⟩, h.ld.same e, h.ok, h.so⟩
theorem LandO.ni {C S dx x l : Addr} {fs : List (Str × V)} {H : Hp} {n : Nat} {es : List (Nat × Nat)} {rd : List Nat} (h : LandO C H l n es rd) (hx : H x = some (.ins S dx fs)) (ne : l ≠ x) (o' : HO) : LandO C (upd H x o') l n es rd := by
  obtain ⟨dx', an, ar, ay, ac, tn, ty, tc, h1, h2, h3, h4, h5, h6, h7, h8⟩ := h.at_
  have no : ∀ (xs : List V) (C dx : Addr) fs, HO.tup xs ≠ .ins C dx fs := fun _ _ _ _ e => by cases e
  exact ⟨⟨dx', an, ar, ay, ac, tn, ty, tc, by rw [upd_ne ne]; exact h1, keepNI hx h2 (no _), h3.ni hx o', keepNI hx h4 (no _), keepNI hx h5 (no _), h6.ni hx o', keepNI hx h7 (no _), h8.ni hx o'⟩, h.n2, h.n5, h.ok, h.rlt, h.rnd, h.rso, h.r0, h.rn⟩
/-- while its fields are laid -/
structure Rn (C VC : Addr) (H0 H : Hp) (x dx l o t : Addr) (n : Nat) (es : List (Nat × Nat)) (rd own row : List Nat) (fs : List (Str × V)) : Prop where
  bt : But x H0 H
  hx : H x = some (.ins VC dx fs)
  ld : LandO C H l n es rd
  ho : SqOf H o (ints_ own)
  ht : SqOf H t (wds row)
theorem Rn.same {C VC : Addr} {H0 H H' : Hp} {x dx l o t : Addr} {n : Nat} {es : List (Nat × Nat)} {rd own row : List Nat} {fs : List (Str × V)} (h : Rn C VC H0 H x dx l o t n es rd own row fs) (e : Same H H') : Rn C VC H0 H' x dx l o t n es rd own row fs :=
  ⟨h.bt.same e, e _ _ h.hx, h.ld.same e, h.ho.same e, h.ht.same e⟩
theorem Rn.put {C VC : Addr} {H0 H : Hp} {x dx l o t : Addr} {n : Nat} {es : List (Nat × Nat)} {rd own row : List Nat} {fs : List (Str × V)} (h : Rn C VC H0 H x dx l o t n es rd own row fs) (ne : l ≠ x) (fs' : List (Str × V)) : Rn C VC H0 (upd H x (.ins VC dx fs')) x dx l o t n es rd own row fs' :=
  ⟨h.bt.put _, upd_same, h.ld.ni h.hx ne _, h.ho.ni h.hx _, h.ht.ni h.hx _⟩
theorem Rn.tup {C VC : Addr} {H0 H : Hp} {x dx l o t : Addr} {n : Nat} {es : List (Nat × Nat)} {rd own row : List Nat} {fs : List (Str × V)} (h : Rn C VC H0 H x dx l o t n es rd own row fs) (fs' : List (Str × V)) {b : Addr} {ys : List V} (hb : H b = some (.tup ys)) : upd H x (.ins VC dx fs') b = some (.tup ys) := keepNI h.hx hb fun _ _ _ e => by cases e
theorem wd_needed (k : Nat) : decide (V.str (wd k) = V.str "needed") = decide (k = 2) := by
  match k with
  | 0 => decide +kernel
  | 1 => decide +kernel
  | 2 => decide +kernel
  | k + 3 =>
    rw [decide_eq_false (p := k + 3 = 2) (by omega)]
    show decide (V.str "asleep" = V.str "needed") = false
    decide +kernel
theorem wd_sleeps (k : Nat) : decide (V.str (wd k) = V.str "asleep") = decide (3 ≤ k) := by
  match k with
  | 0 => decide +kernel
  | 1 => decide +kernel
  | 2 => decide +kernel
  | k + 3 =>
    rw [decide_eq_true (p := 3 ≤ k + 3) (by omega)]
    show decide (V.str "asleep" = V.str "asleep") = true
    decide +kernel
theorem numR_perm {own own' row : List Nat} {c : Nat} (h : ∀ b, b ∈ own' ↔ b ∈ own) : ∀ j, numR own' row c j = numR own row c j
  | 0 => rfl
  | j + 1 => by
    have ih := numR_perm (row := row) (c := c) h j
    show (if j = c then numR own' row c j else numR own' row c j * 5 + wayK (decide (j ∈ own')) (row.getD j 0)) = (if j = c then numR own row c j else numR own row c j * 5 + wayK (decide (j ∈ own)) (row.getD j 0))
    rw [ih, show decide (j ∈ own') = decide (j ∈ own) from decide_eq_decide.mpr (h j)]
theorem VwOk.perm {n c : Nat} {own own' row : List Nat} (ok : VwOk n c own row) (p : own'.Perm own) : VwOk n c own' row :=
  ⟨ok.cn, fun b hb => ok.lt b (p.mem_iff.mp hb), p.nodup_iff.mpr ok.nd, p.mem_iff.mpr ok.me, ok.rl, ok.r0, fun b hb => ok.inn b (p.mem_iff.mp hb), fun b hb hn => ok.out b hb fun m => hn (p.mem_iff.mpr m)⟩
theorem VwOk.ol {n c : Nat} {own row : List Nat} (ok : VwOk n c own row) : own.length ≤ n := by
  have z := K7E.nodup_le own (List.range n) ok.nd fun x hx => List.mem_range.mpr (ok.lt x hx)
  rw [List.length_range] at z
  exact z
/-- a thing that is none of this class -/
def NonC (K : PySem.W.Frag) (H : Hp) (VC : Addr) (y : V) : Prop := ∃ t, (∀ H', Same H H' → TyX K H' y t) ∧ PySem.W.kitOne K t (.ref VC) = some false
theorem NonC.same {K : PySem.W.Frag} {H H' : Hp} {VC : Addr} {y : V} (h : NonC K H VC y) (e : Same H H') : NonC K H' VC y := by
  obtain ⟨t, h1, h2⟩ := h
  exact ⟨t, fun H'' e' => h1 H'' (e.trans e'), h2⟩
/-- no own cells of this cell -/
def OwB (K : PySem.W.Frag) (n c : Nat) (H : Hp) (ov : V) : Prop := NoSeq K H ov ∨ ∃ b xs, ov = .ref b ∧ SqOf H b xs ∧ (∀ y ∈ xs, Thing H y) ∧ xs.length < 64 ∧ (cellsV (n : Nat) xs 1 = false ∨ ∃ own : List Nat, xs = ints_ own ∧ cellsV (n : Nat) xs 1 = true ∧ c ∉ own)
theorem NoSeq.same {K : PySem.W.Frag} {H H' : Hp} {y : V} (h : NoSeq K H y) (e : Same H H') : NoSeq K H' y := by
  obtain ⟨t, h1, h2⟩ := h
  exact ⟨t, fun H'' e' => h1 H'' (e.trans e'), h2⟩
theorem OwB.same {K : PySem.W.Frag} {n c : Nat} {H H' : Hp} {y : V} (h : OwB K n c H y) (e : Same H H') : OwB K n c H' y :=
  h.imp (fun h => h.same e) fun ⟨b, xs, h1, h2, h3, h4⟩ => ⟨b, xs, h1, h2.same e, fun y hy => (h3 y hy).same e, h4⟩
/-- the first word that applies to what is to be a view -/
def VwSt (K : PySem.W.Frag) (C l : Addr) (n c : Nat) (H : Hp) (w cv ov tv : V) (F : Str → Prop) (q : List Nat → List Nat → Prop) : Prop :=
  (NonC K H C w ∧ F "land") ∨ (w = .ref l ∧ ((Thing H cv ∧ wholeV cv 0 ((n : Nat) - 1) = false ∧ F "cell") ∨ (cv = .int (c : Nat) ∧ ((OwB K n c H ov ∧ F "own") ∨ ∃ o own, ov = .ref o ∧ SqOf H o (ints_ own) ∧ (∀ b ∈ own, b < n) ∧ own.Nodup ∧ c ∈ own ∧
    ((RwV n c H tv false ∧ F "standings") ∨ ∃ t row, tv = .ref t ∧ SqOf H t (wds row) ∧ row.length = n ∧ row.getD c 0 = 0 ∧
      ((slpB n own row = true ∧ F "asleep") ∨ (slpB n own row = false ∧ awkB own row = true ∧ F "awake") ∨ (slpB n own row = false ∧ awkB own row = false ∧ q own row)))))))
theorem VwSt.imp {K : PySem.W.Frag} {C l : Addr} {n c : Nat} {H H' : Hp} {w cv ov tv : V} {F F' : Str → Prop} {q q' : List Nat → List Nat → Prop} (h : VwSt K C l n c H w cv ov tv F q) (e : Same H H') (f : ∀ z, F z → F' z) (g : ∀ own row, q own row → q' own row) : VwSt K C l n c H' w cv ov tv F' q' := by
  rcases h with ⟨h, k⟩ | ⟨h1, h⟩
  · exact .inl ⟨h.same e, f _ k⟩
  refine .inr ⟨h1, ?_⟩
  rcases h with ⟨h, k, m⟩ | ⟨h1, h⟩
  · exact .inl ⟨h.same e, k, f _ m⟩
  refine .inr ⟨h1, ?_⟩
  rcases h with ⟨h, k⟩ | ⟨o, own, h1, h2, h3, h4, h5, h⟩
  · exact .inl ⟨h.same e, f _ k⟩
  refine .inr ⟨o, own, h1, h2.same e, h3, h4, h5, ?_⟩
  rcases h with ⟨h, k⟩ | ⟨t, row, h1, h2, h3, h4, h⟩
  · exact .inl ⟨h.same e, f _ k⟩
  refine .inr ⟨t, row, h1, h2.same e, h3, h4, ?_⟩
  rcases h with ⟨h, k⟩ | ⟨h1, h2, k⟩ | ⟨h1, h2, k⟩
  · exact .inl ⟨h, f _ k⟩
  · exact .inr (.inl ⟨h1, h2, f _ k⟩)
  · exact .inr (.inr ⟨h1, h2, g _ _ k⟩)
theorem wds_word (row : List Nat) : (wds row).all isWord = true := by
  refine List.all_eq_true.mpr fun x hx => ?_
  unfold wds at hx
  obtain ⟨k, _, rfl⟩ := List.mem_map.mp hx
  match k with
  | 0 => decide +kernel
  | 1 => decide +kernel
  | 2 => decide +kernel
  | k + 3 => show isWord (.str "asleep") = true; decide +kernel
theorem filter_take {p : Nat → Bool} {l : List Nat} {j b : Nat} (h : l[j]? = some b) : (l.take (j + 1)).filter p = (l.take j).filter p ++ (if p b = true then [b] else []) := by
  rw [List.take_add_one, h, List.filter_append]
  show _ ++ ([b].filter p) = _
  rw [List.filter_cons]
  rfl
section
variable {P : Program} {w : World} {K : PySem.W.Frag} {mg : Str → Option Value} {base : Heap} {a : AdL} {VC BV iV fE aST aRI aDG aOW : Addr}
def spVwR (K : PySem.W.Frag) (a : AdL) (VC BV : Addr) : Sp := fun vs H Q E => ∃ (x dx l : Addr) (n : Nat) (es : List (Nat × Nat)) (rd : List Nat) (c : Nat) (w cv ov tv : V), vs = [.ref x, w, cv, ov, tv] ∧ H x = some (.ins VC dx []) ∧ LandO a.C H l n es rd ∧ l ≠ x ∧ c < n ∧
  VwSt K a.C l n c H w cv ov tv (fun z => Flies H BV "what" (.str z) E) (fun own row => ∀ H' own', But x H H' → own'.Perm own → VwO a.C VC H' x l n es rd c own' row → Q .non H')
theorem cells_is {n : Nat} {own : List Nat} {m : Int} (h : cellsV (n : Nat) (ints_ own) m = true) : True := trivial
theorem ok_vwi (TB : Bv K mg BV iV) (T : Tl K mg a) (T2 : Tk K a.C fE) (T5 : T5s K mg aST aRI aDG aOW) (clsV : Cls K VC) (nV : ∀ f ∈ vfields, NoAttr K VC f) {f fic fil fir fcv fnr : Addr} {fd fdic fdil fdir fdcv fdnr fdB : FuncData} (F : Fun K "__init__" "View.__init__" s_View___init__ f fd)
    (Gic : FnOk P w K mg base CX0 2 fic fdic ["land", "thing"] (spIsCell a.C)) (gic : mg "is_cell" = some (.ref fic)) (kic : PySem.W.keepIn K (.ref fic) = true) (bic : Binds K fdic ["land", "thing"] [])
    (Gil : FnOk P w K mg base CX0 3 fil fdil ["land", "thing", "least"] (spIsLot K a.C)) (gil : mg "is_lot" = some (.ref fil)) (kil : PySem.W.keepIn K (.ref fil) = true) (bil : Binds K fdil ["land", "thing", "least"] [])
    (Gir : FnOk P w K mg base CX0 2 fir fdir ["land", "a", "thing"] (spIsRow a.C)) (gir : mg "is_row" = some (.ref fir)) (kir : PySem.W.keepIn K (.ref fir) = true) (bir : Binds K fdir ["land", "a", "thing"] [])
    (Gcv : FnOk P w K mg base (L2.CX P w) 3 fcv fdcv ["own", "standings"] (spChV BV)) (gcv : mg "_check_places" = some (.ref fcv)) (kcv : PySem.W.keepIn K (.ref fcv) = true) (bcv : Binds K fdcv ["own", "standings"] [])
    (Gnr : FnOk P w K mg base CX0 1 fnr fdnr ["cell", "own", "row"] spNumR) (gnr : mg "number_of_row" = some (.ref fnr)) (knr : PySem.W.keepIn K (.ref fnr) = true) (bnr : Binds K fdnr ["cell", "own", "row"] [])
    (m_isinstance : mg "isinstance" = none) (m_tuple : mg "tuple" = none) (m_sorted : mg "sorted" = none) (m_range : mg "range" = none)
    (FB0 : Fun K "__init__" "BadView.__init__" s_BadView___init__ iV fdB) (bB : Binds K fdB ["self", "what"] []) : FnOk P w K mg base (L2.CX P w) 4 f fd ["self", "land", "cell", "own", "standings"] (spVwR K a VC BV) := by
  have FB : FnOk P w K mg base (L2.CX P w) 1 iV fdB ["self", "what"] (spX BV "what") := ok_iV TB FB0
  refine F.okX sc_View___init__ (fun vs H Q E h => ?_) (fun cdv A outer s H vs Q E hr h => ?_)
  · obtain ⟨x, dx, l, n, es, rd, c, w', cv, ov, tv, rfl, _⟩ := h
    rfl
  · obtain ⟨x, dx, l, n, es, rd, c, w', cv, ov, tv, rfl, hx, L, nlx, cn, h⟩ := h
    have hrx : Room (1 + 1) _ := hr.mono (by decide)
    refine ⟨_, (Evl.pss_cut (ps_if (pt_not (pt_val (pe_callB call_isi (by rfl) m_isinstance boot_isinstance (pa_cons (pv 1) (pa_cons (pe_glob (v := .ref _) rfl T.gC rfl) pa_nil)))))
  (pss_one (ps_raise rfl (takes_of rfl rfl rfl rfl) (pmk_oex TB.ox TB.iC TB.tI FB hrx bB .nil passL (by rfl) TB.g (pa_cons pe_str pa_nil))))
  pss_nil)
 (Evl.pss_cut (ps_if (pt_not (pt_val (pe_call Gic (hr.mono (by decide)) (by rfl) gic kic bic .nil pass0 (pa_cons (pv 1) (pa_cons (pv 2) pa_nil)))))
  (pss_one (ps_raise rfl (takes_of rfl rfl rfl rfl) (pmk_oex TB.ox TB.iC TB.tI FB hrx bB .nil passL (by rfl) TB.g (pa_cons pe_str pa_nil))))
  pss_nil)
 (Evl.pss_cut (ps_if (pw_or (pt_not (pt_val (pe_call Gil (hr.mono (by decide)) (by rfl) gil kil bil .nil pass0 (pa_cons (pv 1) (pa_cons (pv 3) (pa_cons pe_int pa_nil)))))) (pw_or1 (pt_cmpR op_notIn_seq (pv 2) (pv 3) (by with_unfolding_all rfl)))).pt
  (pss_one (ps_raise rfl (takes_of rfl rfl rfl rfl) (pmk_oex TB.ox TB.iC TB.tI FB hrx bB .nil passL (by rfl) TB.g (pa_cons pe_str pa_nil))))
  pss_nil)
 (Evl.pss_cut (ps_if (pt_not (pt_val (pe_call Gir (hr.mono (by decide)) (by rfl) gir kir bir .nil pass0 (pa_cons (pv 1) (pa_cons (pv 2) (pa_cons (pv 4) pa_nil))))))
  (pss_one (ps_raise rfl (takes_of rfl rfl rfl rfl) (pmk_oex TB.ox TB.iC TB.tI FB hrx bB .nil passL (by rfl) TB.g (pa_cons pe_str pa_nil))))
  pss_nil)
 (Evl.pss_cut (ps_expr (pe_call Gcv (hr.mono (by decide)) (by rfl) gcv kcv bcv .nil (passes_call (E := E) (takes_of rfl rfl rfl rfl) (fun _ _ _ _ h => h)) (pa_cons (pv 3) (pa_cons (pv 4) pa_nil))))
 (Evl.pss_cut (ps_fld (pv 0) (pv 1) rfl)
 (Evl.pss_cut (ps_fld (pv 0) (pv 2) rfl)
 (Evl.pss_cut (ps_fld (pv 0) (pe_callTy call_tuple_of (by rfl) m_tuple boot_tuple (pa_cons (pe_callB K7S.cr_sortA (by rfl) m_sorted boot_sorted (pa_cons (pv 3) pa_nil)) pa_nil)) rfl)
 (Evl.pss_cut (ps_fld (pv 0) (pe_callTy call_tuple_of (by rfl) m_tuple boot_tuple (pa_cons (pv 4) pa_nil)) rfl)
 (Evl.pss_cut (ps_fld (pv 0) (pe_callTy call_tuple_of (by rfl) m_tuple boot_tuple (pa_cons (pe_lc (own := [("b", 5)]) (g := gName 5) rfl sc_View___init__.nd (pi_range1 rfl m_range (pa_cons (pe_fld (pv 1) rfl) pa_nil)) (blkOk_by (own := [("b", 5)]) (N := N_View___init__) (sc := defScope s_View___init__) (by decide +kernel)) (fun _ _ _ _ _ => (pg_name (i := 5) sc_View___init__.nd rfl (by first | exact Or.inl rfl | exact Or.inr rfl))) (fun _ _ _ _ _ => (pts_one (pt_cmpR (show OpR _ _ (rIn K true) from op_notIn_seq) (pv 5) (pv 3) (by with_unfolding_all rfl)))) (fun _ _ _ _ _ => (pv 5))) pa_nil)) rfl)
 (Evl.pss_cut (ps_fld (pv 0) (pe_callTy call_tuple_of (by rfl) m_tuple boot_tuple (pa_cons (pe_lc (own := [("b", 5)]) (g := gName 5) rfl sc_View___init__.nd (pi_tup (pe_fld (pv 0) rfl)) (blkOk_by (own := [("b", 5)]) (N := N_View___init__) (sc := defScope s_View___init__) (by decide +kernel)) (fun _ _ _ _ _ => (pg_name (i := 5) sc_View___init__.nd rfl (by first | exact Or.inl rfl | exact Or.inr rfl))) (fun _ _ _ _ _ => (pts_one (pt_cmpR (show OpR _ _ (rIn K false) from op_in_seq) (K7E.pe_ei (pe_ix (show IxR _ (rIxT K) from ix_tup) (pv 4) (pv 5) (fun _ _ => rfl)) (pe_ix (show IxR _ (rIxL K) from ix_list) (pv 4) (pv 5) (fun _ _ => rfl))) (pe_glob (v := .ref _) rfl T5.gRI rfl) (by with_unfolding_all rfl)))) (fun _ _ _ _ _ => (pv 5))) pa_nil)) rfl)
 (Evl.pss_cut (ps_fld (pv 0) (pe_callTy call_tuple_of (by rfl) m_tuple boot_tuple (pa_cons (pe_lc (own := [("b", 5)]) (g := gName 5) rfl sc_View___init__.nd (pi_tup (pe_fld (pv 0) rfl)) (blkOk_by (own := [("b", 5)]) (N := N_View___init__) (sc := defScope s_View___init__) (by decide +kernel)) (fun _ _ _ _ _ => (pg_name (i := 5) sc_View___init__.nd rfl (by first | exact Or.inl rfl | exact Or.inr rfl))) (fun _ _ _ _ _ => (pts_one (pt_cmpR op_eq (K7E.pe_ei (pe_ix (show IxR _ (rIxT K) from ix_tup) (pv 4) (pv 5) (fun _ _ => rfl)) (pe_ix (show IxR _ (rIxL K) from ix_list) (pv 4) (pv 5) (fun _ _ => rfl))) pe_str (nomark _)))) (fun _ _ _ _ _ => (pv 5))) pa_nil)) rfl)
 (Evl.pss_cut (ps_fld (pv 0) (pe_callTy call_tuple_of (by rfl) m_tuple boot_tuple (pa_cons (pe_lc (own := [("b", 5)]) (g := gName 5) rfl sc_View___init__.nd (pi_tup (pe_fld (pv 0) rfl)) (blkOk_by (own := [("b", 5)]) (N := N_View___init__) (sc := defScope s_View___init__) (by decide +kernel)) (fun _ _ _ _ _ => (pg_name (i := 5) sc_View___init__.nd rfl (by first | exact Or.inl rfl | exact Or.inr rfl))) (fun _ _ _ _ _ => (pts_one (pt_cmpR op_eq (K7E.pe_ei (pe_ix (show IxR _ (rIxT K) from ix_tup) (pv 4) (pv 5) (fun _ _ => rfl)) (pe_ix (show IxR _ (rIxL K) from ix_list) (pv 4) (pv 5) (fun _ _ => rfl))) pe_str (nomark _)))) (fun _ _ _ _ _ => (pv 5))) pa_nil)) rfl)
 (pss_one (ps_fld (pv 0) (pe_call Gnr (hr.mono (by decide)) (by rfl) gnr knr bnr .nil pass0 (pa_cons (pv 2) (pa_cons (pe_fld (pv 0) rfl) (pa_cons (pe_fld (pv 0) rfl) pa_nil)))) rfl))))))))))))))), ?_⟩
    obtain ⟨dl, an, ar, ay, ac, tn, ty, tc, m1, _⟩ := L.at_
    have n5 := L.n5
    rcases h with ⟨⟨ty', tyx, kt⟩, fl⟩ | ⟨rfl, h⟩
    · refine ⟨fun _ _ => False, ?_, fun _ _ h => h.elim⟩
      exact ⟨_, rfl, _, _, _, _, _, rfl, .own _, tyx _ (Same.refl H), kt, false, rfl, iteT ⟨by show 1 ≤ 1000; decide, flies_go fl⟩⟩
    refine ⟨fun σ H' => σ = [some (.ref x), some (.ref l), some cv, some ov, some tv, none] ∧ Same H H', ?_, fun σ H1 hM => ?_⟩
    · refine ⟨_, rfl, _, _, _, _, _, rfl, .own _, .base (.ins m1 T.cl T2.ha T2.hn T2.ht T2.hm), T2.own, true, rfl, ?_⟩
      exact iteF ⟨rfl, Same.refl H⟩
    obtain ⟨rfl, e1⟩ := hM
    rcases h with ⟨th, wf, fl⟩ | ⟨rfl, h⟩
    · refine ⟨fun _ _ => False, ?_, fun _ _ h => h.elim⟩
      refine ⟨_, rfl, _, rfl, l, n, _, rfl, (L.same e1).c, th.same e1, _, rfl, ?_⟩
      rw [wf]
      exact iteT ⟨by show 1 ≤ 1000; decide, flies_go (fl.later e1)⟩
    refine ⟨fun σ H' => σ = [some (.ref x), some (.ref l), some (.int (c : Nat)), some ov, some tv, none] ∧ Same H H', ?_, fun σ H2 hM => ?_⟩
    · refine ⟨_, rfl, _, rfl, l, n, _, rfl, (L.same e1).c, .flat (.int _), _, rfl, ?_⟩
      rw [whole_cell cn]
      exact iteF ⟨rfl, e1⟩
    obtain ⟨rfl, e2⟩ := hM
    rcases h with ⟨h, fl⟩ | ⟨o, own, rfl, ho, lt, nd, me, h⟩
    · refine ⟨fun _ _ => False, ?_, fun _ _ h => h.elim⟩
      rcases h with ns | ⟨b, xs, rfl, sq, th, l64, h⟩
      · refine ⟨_, rfl, _, rfl, l, n, _, 1, rfl, (L.same e2).c, .inl ⟨ns.same e2, fun H3 e3 => ⟨_, rfl, ?_⟩⟩⟩
        exact iteT ⟨by show 1 ≤ 1000; decide, flies_go (fl.later (e2.trans e3))⟩
      · refine ⟨_, rfl, _, rfl, l, n, _, 1, rfl, (L.same e2).c, .inr ⟨b, xs, rfl, sq.same e2, fun y hy => (th y hy).same e2, l64, fun H3 e3 => ⟨_, rfl, ?_⟩⟩⟩
        rcases h with cf | ⟨own, rfl, ct, nm⟩
        · rw [cf]
          exact iteT ⟨by show 1 ≤ 1000; decide, flies_go (fl.later (e2.trans e3))⟩
        · rw [ct]
          refine iteF ⟨_, rfl, _, rfl, b, _, rfl, (sq.same (e2.trans e3)).sq, rfl, flat_ints own, _, rfl, ?_⟩
          show if (!inV (.int (c : Nat)) (ints_ own)) = true then _ else _
          rw [inV_ints, decide_eq_false nm]
          exact iteT ⟨by show 1 ≤ 1000; decide, flies_go (fl.later (e2.trans e3))⟩
    have ol : own.length ≤ n := by
      have z := K7E.nodup_le own (List.range n) nd fun x hx => List.mem_range.mpr (lt x hx)
      rw [List.length_range] at z
      exact z
    refine ⟨fun σ H' => σ = [some (.ref x), some (.ref l), some (.int (c : Nat)), some (.ref o), some tv, none] ∧ Same H H', ?_, fun σ H3 hM => ?_⟩
    · refine ⟨_, rfl, _, rfl, l, n, _, 1, rfl, (L.same e2).c, .inr ⟨o, ints_ own, rfl, ho.same e2, fun y hy => ?_, by rw [ints_len]; omega, fun H3 e3 => ⟨_, rfl, ?_⟩⟩⟩
      · unfold ints_ at hy
        obtain ⟨b, _, rfl⟩ := List.mem_map.mp hy
        exact .flat (.int _)
      rw [cells_lot lt nd (List.length_pos_of_mem me)]
      refine iteF ⟨_, rfl, _, rfl, o, _, rfl, (ho.same (e2.trans e3)).sq, rfl, flat_ints own, _, rfl, ?_⟩
      show if (!inV (.int (c : Nat)) (ints_ own)) = true then _ else _
      rw [inV_ints, decide_eq_true me]
      exact iteF ⟨rfl, e2.trans e3⟩
    obtain ⟨rfl, e3⟩ := hM
    rcases h with ⟨rv, fl⟩ | ⟨t, row, rfl, ht, rl, r0, h⟩
    · refine ⟨fun _ _ => False, ?_, fun _ _ h => h.elim⟩
      refine ⟨_, rfl, _, rfl, _, rfl, l, n, c, tv, false, rfl, (L.same e3).c, cn, rv.same e3, fun H4 e4 => ⟨_, rfl, ?_⟩⟩
      exact iteT ⟨by show 1 ≤ 1000; decide, flies_go (fl.later (e3.trans e4))⟩
    refine ⟨fun σ H' => σ = [some (.ref x), some (.ref l), some (.int (c : Nat)), some (.ref o), some (.ref t), none] ∧ Same H H', ?_, fun σ H4 hM => ?_⟩
    · have rv : RwV n c H (.ref t) true := by
        have z := RwV.row (n := n) (a := c) ht (fun y hy => by
          unfold wds at hy
          obtain ⟨k, _, rfl⟩ := List.mem_map.mp hy
          exact .inl (.str _)) (by rw [wds_len, rl]; omega)
        rw [wds_len, rl, decide_eq_true rfl, wds_word, wds_at rl cn, r0, decide_eq_true (show some (V.str (wd 0)) = some (V.str "none") from rfl)] at z
        exact z
      exact ⟨_, rfl, _, rfl, _, rfl, l, n, c, .ref t, true, rfl, (L.same e3).c, cn, rv.same e3, fun H4 e4 => ⟨_, rfl, iteF ⟨rfl, e3.trans e4⟩⟩⟩
    obtain ⟨rfl, e4⟩ := hM
    have vp : VwPre n c own row := ⟨cn, lt, nd, me, rl, r0⟩
    rcases h with ⟨s, fl⟩ | ⟨s, wk, fl⟩ | ⟨s, wk, q⟩
    · refine ⟨fun _ _ => False, ?_, fun _ _ h => h.elim⟩
      exact ⟨_, rfl, _, rfl, o, t, n, c, own, row, rfl, ho.same e4, ht.same e4, vp, n5, fun _ => fl.later e4, fun s' => (by rw [s] at s'; cases s'), fun s' => (by rw [s] at s'; cases s')⟩
    · refine ⟨fun _ _ => False, ?_, fun _ _ h => h.elim⟩
      exact ⟨_, rfl, _, rfl, o, t, n, c, own, row, rfl, ho.same e4, ht.same e4, vp, n5, fun s' => (by rw [s] at s'; cases s'), fun _ _ => fl.later e4, fun _ w' => (by rw [wk] at w'; cases w')⟩
    have ok := vp.ok s wk
    refine ⟨fun σ H' => σ = [some (.ref x), some (.ref l), some (.int (c : Nat)), some (.ref o), some (.ref t), none] ∧ Same H H', ?_, fun σ H5 hM => ?_⟩
    · exact ⟨_, rfl, _, rfl, o, t, n, c, own, row, rfl, ho.same e4, ht.same e4, vp, n5, fun s' => (by rw [s] at s'; cases s'), fun _ w' => (by rw [wk] at w'; cases w'), fun _ _ H5 e5 => ⟨rfl, e4.trans e5⟩⟩
    obtain ⟨rfl, e5⟩ := hM
    have R5 : Rn a.C VC H H5 x dx l o t n es rd own row [] := ⟨fun b o _ hb => e5 _ _ hb, e5 _ _ hx, L.same e5, ho.same e5, ht.same e5⟩
    clear e1 e2 e3 e4
    refine ⟨fun σ H' => σ = [some (.ref x), some (.ref l), some (.int (c : Nat)), some (.ref o), some (.ref t), none] ∧ Rn a.C VC H H' x dx l o t n es rd own row [("land", .ref l)], ?_, fun σ H6 hM => ?_⟩
    · exact ⟨_, rfl, _, rfl, x, VC, dx, _, rfl, R5.hx, clsV, nV _ (by decide), by show 0 < 1000; decide, rfl, R5.put nlx _⟩
    obtain ⟨rfl, R6⟩ := hM
    refine ⟨fun σ H' => σ = [some (.ref x), some (.ref l), some (.int (c : Nat)), some (.ref o), some (.ref t), none] ∧ Rn a.C VC H H' x dx l o t n es rd own row [("land", .ref l), ("cell", .int (c : Nat))], ?_, fun σ H7 hM => ?_⟩
    · exact ⟨_, rfl, _, rfl, x, VC, dx, _, rfl, R6.hx, clsV, nV _ (by decide), by show 1 < 1000; decide, rfl, R6.put nlx _⟩
    obtain ⟨rfl, R7⟩ := hM
    refine ⟨fun σ H' => ∃ (own' : List Nat) (to : Addr), σ = [some (.ref x), some (.ref l), some (.int (c : Nat)), some (.ref o), some (.ref t), none] ∧ Rn a.C VC H H' x dx l o t n es rd own row [("land", .ref l), ("cell", .int (c : Nat)), ("own", .ref to)] ∧ own'.Perm own ∧ own'.Pairwise (· < ·) ∧ H' to = some (.tup (ints_ own')), ?_, fun σ H8 hM => ?_⟩
    · have e3 : own.map (fun c => ((c : Nat) : Int)) = own.map fun c => ((c : Nat) : Int) := rfl
      refine ⟨_, rfl, o, own.map (fun c => ((c : Nat) : Int)), rfl, ?_, by rw [List.length_map]; omega, fun ms p pm sm np => ?_⟩
      · rw [← ints_map]
        exact R7.ho.sq
      have e8 := al (o := .lst (ms.map V.int)) np
      have hp8 : upd H7 p (.lst (ms.map V.int)) p = some (.lst (ms.map V.int)) := upd_same
      generalize upd H7 p (.lst (ms.map V.int)) = H8 at e8 hp8 ⊢
      have back := ints_back pm
      have pm' : (ms.map Int.toNat).Perm own := by
        have z := pm.map Int.toNat
        rw [List.map_map] at z
        exact z.trans (List.Perm.of_eq ((List.map_congr_left fun c _ => rfl).trans (List.map_id own)))
      have so' : (ms.map Int.toNat).Pairwise (· < ·) := by
        have nd := pm'.nodup_iff.mpr ok.nd
        rw [back, List.pairwise_map] at sm
        exact (sm.and (List.nodup_iff_pairwise_ne.mp nd)).imp fun h => by have h1 := h.1; have h2 := h.2; omega
      have vi : ms.map V.int = ints_ (ms.map Int.toNat) := by rw [ints_map, ← back]
      rw [vi] at hp8
      refine ⟨p, _, rfl, .inl ⟨.inl (.inl hp8), fun u nu => ?_⟩⟩
      have e9 := al (o := .tup (ints_ (ms.map Int.toNat))) nu
      have R9 := (R7.same e8).same e9
      have hu9 : upd H8 u (.tup (ints_ (ms.map Int.toNat))) u = some (.tup (ints_ (ms.map Int.toNat))) := upd_same
      exact ⟨_, rfl, x, VC, dx, _, rfl, R9.hx, clsV, nV _ (by decide), by show 2 < 1000; decide, ms.map Int.toNat, u, rfl, R9.put nlx _, pm', so', R9.tup _ hu9⟩
    obtain ⟨own', to, rfl, R8, pm, so, h_to⟩ := hM
    refine ⟨fun σ H' => ∃ (ts : Addr), σ = [some (.ref x), some (.ref l), some (.int (c : Nat)), some (.ref o), some (.ref t), none] ∧ Rn a.C VC H H' x dx l o t n es rd own row [("land", .ref l), ("cell", .int (c : Nat)), ("own", .ref to), ("standings", .ref ts)] ∧ H' to = some (.tup (ints_ own')) ∧ H' ts = some (.tup (wds row)), ?_, fun σ H9 hM => ?_⟩
    · refine ⟨_, rfl, t, wds row, rfl, ?_⟩
      rcases R8.ht with z | z
      · exact .inr ⟨.inl (.inl z), _, rfl, x, VC, dx, _, rfl, R8.hx, clsV, nV _ (by decide), by show 3 < 1000; decide, t, rfl, R8.put nlx _, R8.tup _ h_to, R8.tup _ z⟩
      · refine .inl ⟨.inl (.inl z), fun u nu => ?_⟩
        have e9 := al (o := .tup (wds row)) nu
        have R9 := R8.same e9
        have hu9 : upd H8 u (.tup (wds row)) u = some (.tup (wds row)) := upd_same
        exact ⟨_, rfl, x, VC, dx, _, rfl, R9.hx, clsV, nV _ (by decide), by show 3 < 1000; decide, u, rfl, R9.put nlx _, R9.tup _ (e9 _ _ h_to), R9.tup _ hu9⟩
    obtain ⟨ts, rfl, R9, h_to, h_ts⟩ := hM
    have lo' : ∀ b ∈ own', b < n := fun b hb => ok.lt b (pm.mem_iff.mp hb)
    have ol' : own'.length ≤ 5 := by rw [pm.length_eq]; omega
    refine ⟨fun σ H' => ∃ (t1 : Addr), σ = [some (.ref x), some (.ref l), some (.int (c : Nat)), some (.ref o), some (.ref t), none] ∧ Rn a.C VC H H' x dx l o t n es rd own row [("land", .ref l), ("cell", .int (c : Nat)), ("own", .ref to), ("standings", .ref ts), ("outside", .ref t1)] ∧ H' to = some (.tup (ints_ own')) ∧ H' ts = some (.tup (wds row)) ∧ H' t1 = some (.tup (ints_ (outF n own'))), ?_, fun σ HA hM => ?_⟩
    · obtain ⟨dl2, _, _, _, _, _, _, _, m2, _⟩ := R9.ld.at_
      refine ⟨_, rfl, l, a.C, dl2, _, _, rfl, m2, T.cl, T.nA _ (by decide), rfl, _, rfl, by omega, by omega, fun D hD => lc_range (lo := 0) (n := n) (fun i H2 => Same H9 H2 ∧ H2 D = some (.lst (ints_ ((List.range i).filter fun b => !decide (b ∈ own'))))) ⟨al hD, upd_same⟩ (fun i H2 hi pv => ?_) (fun H2 pv => ?_)⟩
      · obtain ⟨e2, hD2⟩ := pv
        rw [show (0 : Int) + ((i : Nat) : Int) = (i : Nat) from Int.zero_add _]
        refine ⟨rfl, _, rfl, _, rfl, o, _, rfl, (R9.ho.same e2).sq, rfl, flat_ints own, _, rfl, ?_⟩
        show if (!inV (.int (i : Nat)) (ints_ own)) = true then _ else _
        rw [inV_ints, show decide (i ∈ own) = decide (i ∈ own') from decide_eq_decide.mpr (pm.mem_iff (a := i)).symm]
        refine iteB (fun t => ?_) (fun t => ?_)
        · refine ⟨_, rfl, _, hD2, by rw [ints_len]; exact small1000 (Nat.le_trans (List.length_filter_le _ _) (by rw [List.length_range]; omega)), fun b z hb => ?_, ?_⟩
          · rw [upd_ne (ne_of_none hb hD)]
            exact e2 _ _ hb
          · rw [upd_same, range_filter, if_pos t, ints_snoc]
        · refine ⟨e2, ?_⟩
          rw [range_filter, if_neg (by rw [t]; decide), List.append_nil]
          exact hD2
      · obtain ⟨e2, hD2⟩ := pv
        refine ⟨D, _, rfl, .inl ⟨.inl (.inl hD2), fun u nu => ?_⟩⟩
        have e3 := e2.trans (al (o := .tup (ints_ (outF n own'))) nu)
        have R10 := R9.same e3
        have hu : upd H2 u (.tup (ints_ (outF n own'))) u = some (.tup (ints_ (outF n own'))) := upd_same
        exact ⟨_, rfl, x, VC, dx, _, rfl, R10.hx, clsV, nV _ (by decide), by show 4 < 1000; decide, u, rfl, R10.put nlx _, R10.tup _ (e3 _ _ h_to), R10.tup _ (e3 _ _ h_ts), R10.tup _ hu⟩
    obtain ⟨t1, rfl, RA, h_to, h_ts, h_t1⟩ := hM
    have lout : ∀ b ∈ outF n own', b < n := fun b hb => List.mem_range.mp (List.mem_filter.mp hb).1
    have out5 : (outF n own').length ≤ 5 := Nat.le_trans (List.length_filter_le _ _) (by rw [List.length_range]; omega)
    refine ⟨fun σ H' => ∃ (t2 : Addr), σ = [some (.ref x), some (.ref l), some (.int (c : Nat)), some (.ref o), some (.ref t), none] ∧ Rn a.C VC H H' x dx l o t n es rd own row [("land", .ref l), ("cell", .int (c : Nat)), ("own", .ref to), ("standings", .ref ts), ("outside", .ref t1), ("rights", .ref t2)] ∧ H' to = some (.tup (ints_ own')) ∧ H' ts = some (.tup (wds row)) ∧ H' t1 = some (.tup (ints_ (outF n own'))) ∧ H' t2 = some (.tup (ints_ (rigF n own' row))), ?_, fun σ HB hM => ?_⟩
    · refine ⟨_, rfl, x, VC, dx, _, _, rfl, RA.hx, clsV, nV _ (by decide), rfl, t1, rfl, ⟨_, .inl (.inl h_t1)⟩, fun D hD => lc_tup (xs := ints_ (outF n own')) (fun j H2 => Same HA H2 ∧ H2 D = some (.lst (ints_ (((outF n own').take j).filter (fun b => rightV (row.getD b 0)))))) ⟨al hD, upd_same⟩ (fun j H2 _ pv => .inl (.inl (pv.1 _ _ h_t1))) (fun j z H2 hz pv => ?_) (fun H2 pv => ?_)⟩
      · obtain ⟨e2, hD2⟩ := pv
        have hj := (List.getElem?_eq_some_iff.mp hz).1
        rw [ints_len] at hj
        unfold ints_ at hz
        rw [List.getElem?_map] at hz
        obtain ⟨b, hb, rfl⟩ := Option.map_eq_some_iff.mp hz
        have mb := List.mem_of_getElem? hb
        have ft := filter_take (p := (fun b => rightV (row.getD b 0))) hb
        refine ⟨rfl, ?_⟩
        refine ei_gen (fun Q' q => ⟨_, rfl, q⟩) ⟨_, rfl, rfl, rfl⟩ (RA.ht.same e2) (wds_at ok.rl (lout b mb)) ?_
        refine ⟨aRI, _, rfl, .inr (T5.sRI _), rfl, rfl, _, rfl, ?_⟩
        show if inV (.str (wd (row.getD b 0))) [.str "awake", .str "needed"] = true then _ else _
        rw [wd_right]
        refine iteB (fun t => ?_) (fun t => ?_)
        · refine ⟨_, rfl, _, hD2, by rw [ints_len]; exact small1000 (Nat.le_trans (List.length_filter_le _ _) (by rw [List.length_take]; omega)), fun b z hb => ?_, ?_⟩
          · rw [upd_ne (ne_of_none hb hD)]
            exact e2 _ _ hb
          · rw [upd_same, ft, if_pos t, ints_snoc]
        · refine ⟨e2, ?_⟩
          rw [ft, if_neg (by rw [t]; decide), List.append_nil]
          exact hD2
      · obtain ⟨e2, hD2⟩ := pv
        rw [ints_len, List.take_length] at hD2
        refine ⟨D, _, rfl, .inl ⟨.inl (.inl hD2), fun u nu => ?_⟩⟩
        have e3 := e2.trans (al (o := .tup (ints_ (rigF n own' row))) nu)
        have RZ := RA.same e3
        have hu : upd H2 u (.tup (ints_ (rigF n own' row))) u = some (.tup (ints_ (rigF n own' row))) := upd_same
        exact ⟨_, rfl, x, VC, dx, _, rfl, RZ.hx, clsV, nV _ (by decide), by show 5 < 1000; decide, u, rfl, RZ.put nlx _, RZ.tup _ (e3 _ _ h_to), RZ.tup _ (e3 _ _ h_ts), RZ.tup _ (e3 _ _ h_t1), RZ.tup _ hu⟩
    obtain ⟨t2, rfl, RB, h_to, h_ts, h_t1, h_t2⟩ := hM
    have lrig : ∀ b ∈ rigF n own' row, b < n := fun b hb => lout b (List.mem_filter.mp hb).1
    have rig5 : (rigF n own' row).length ≤ 5 := Nat.le_trans (List.length_filter_le _ _) out5
    refine ⟨fun σ H' => ∃ (t3 : Addr), σ = [some (.ref x), some (.ref l), some (.int (c : Nat)), some (.ref o), some (.ref t), none] ∧ Rn a.C VC H H' x dx l o t n es rd own row [("land", .ref l), ("cell", .int (c : Nat)), ("own", .ref to), ("standings", .ref ts), ("outside", .ref t1), ("rights", .ref t2), ("needed", .ref t3)] ∧ H' to = some (.tup (ints_ own')) ∧ H' ts = some (.tup (wds row)) ∧ H' t1 = some (.tup (ints_ (outF n own'))) ∧ H' t2 = some (.tup (ints_ (rigF n own' row))) ∧ H' t3 = some (.tup (ints_ (neeF n own' row))), ?_, fun σ HC hM => ?_⟩
    · refine ⟨_, rfl, x, VC, dx, _, _, rfl, RB.hx, clsV, nV _ (by decide), rfl, t2, rfl, ⟨_, .inl (.inl h_t2)⟩, fun D hD => lc_tup (xs := ints_ (rigF n own' row)) (fun j H2 => Same HB H2 ∧ H2 D = some (.lst (ints_ (((rigF n own' row).take j).filter (fun b => decide (row.getD b 0 = 2)))))) ⟨al hD, upd_same⟩ (fun j H2 _ pv => .inl (.inl (pv.1 _ _ h_t2))) (fun j z H2 hz pv => ?_) (fun H2 pv => ?_)⟩
      · obtain ⟨e2, hD2⟩ := pv
        have hj := (List.getElem?_eq_some_iff.mp hz).1
        rw [ints_len] at hj
        unfold ints_ at hz
        rw [List.getElem?_map] at hz
        obtain ⟨b, hb, rfl⟩ := Option.map_eq_some_iff.mp hz
        have mb := List.mem_of_getElem? hb
        have ft := filter_take (p := (fun b => decide (row.getD b 0 = 2))) hb
        refine ⟨rfl, ?_⟩
        refine ei_gen (fun Q' q => ⟨_, rfl, q⟩) ⟨_, rfl, rfl, rfl⟩ (RB.ht.same e2) (wds_at ok.rl (lrig b mb)) ?_
        refine ⟨rfl, _, rfl, ?_⟩
        rw [wd_needed]
        refine iteB (fun t => ?_) (fun t => ?_)
        · refine ⟨_, rfl, _, hD2, by rw [ints_len]; exact small1000 (Nat.le_trans (List.length_filter_le _ _) (by rw [List.length_take]; omega)), fun b z hb => ?_, ?_⟩
          · rw [upd_ne (ne_of_none hb hD)]
            exact e2 _ _ hb
          · rw [upd_same, ft, if_pos t, ints_snoc]
        · refine ⟨e2, ?_⟩
          rw [ft, if_neg (by rw [t]; decide), List.append_nil]
          exact hD2
      · obtain ⟨e2, hD2⟩ := pv
        rw [ints_len, List.take_length] at hD2
        refine ⟨D, _, rfl, .inl ⟨.inl (.inl hD2), fun u nu => ?_⟩⟩
        have e3 := e2.trans (al (o := .tup (ints_ (neeF n own' row))) nu)
        have RZ := RB.same e3
        have hu : upd H2 u (.tup (ints_ (neeF n own' row))) u = some (.tup (ints_ (neeF n own' row))) := upd_same
        exact ⟨_, rfl, x, VC, dx, _, rfl, RZ.hx, clsV, nV _ (by decide), by show 6 < 1000; decide, u, rfl, RZ.put nlx _, RZ.tup _ (e3 _ _ h_to), RZ.tup _ (e3 _ _ h_ts), RZ.tup _ (e3 _ _ h_t1), RZ.tup _ (e3 _ _ h_t2), RZ.tup _ hu⟩
    obtain ⟨t3, rfl, RC, h_to, h_ts, h_t1, h_t2, h_t3⟩ := hM
    refine ⟨fun σ H' => ∃ (t4 : Addr), σ = [some (.ref x), some (.ref l), some (.int (c : Nat)), some (.ref o), some (.ref t), none] ∧ Rn a.C VC H H' x dx l o t n es rd own row [("land", .ref l), ("cell", .int (c : Nat)), ("own", .ref to), ("standings", .ref ts), ("outside", .ref t1), ("rights", .ref t2), ("needed", .ref t3), ("sleeping", .ref t4)] ∧ H' to = some (.tup (ints_ own')) ∧ H' ts = some (.tup (wds row)) ∧ H' t1 = some (.tup (ints_ (outF n own'))) ∧ H' t2 = some (.tup (ints_ (rigF n own' row))) ∧ H' t3 = some (.tup (ints_ (neeF n own' row))) ∧ H' t4 = some (.tup (ints_ (sleF own' row))), ?_, fun σ HD hM => ?_⟩
    · refine ⟨_, rfl, x, VC, dx, _, _, rfl, RC.hx, clsV, nV _ (by decide), rfl, to, rfl, ⟨_, .inl (.inl h_to)⟩, fun D hD => lc_tup (xs := ints_ (own')) (fun j H2 => Same HC H2 ∧ H2 D = some (.lst (ints_ (((own').take j).filter (fun b => decide (3 ≤ row.getD b 0)))))) ⟨al hD, upd_same⟩ (fun j H2 _ pv => .inl (.inl (pv.1 _ _ h_to))) (fun j z H2 hz pv => ?_) (fun H2 pv => ?_)⟩
      · obtain ⟨e2, hD2⟩ := pv
        have hj := (List.getElem?_eq_some_iff.mp hz).1
        rw [ints_len] at hj
        unfold ints_ at hz
        rw [List.getElem?_map] at hz
        obtain ⟨b, hb, rfl⟩ := Option.map_eq_some_iff.mp hz
        have mb := List.mem_of_getElem? hb
        have ft := filter_take (p := (fun b => decide (3 ≤ row.getD b 0))) hb
        refine ⟨rfl, ?_⟩
        refine ei_gen (fun Q' q => ⟨_, rfl, q⟩) ⟨_, rfl, rfl, rfl⟩ (RC.ht.same e2) (wds_at ok.rl (lo' b mb)) ?_
        refine ⟨rfl, _, rfl, ?_⟩
        rw [wd_sleeps]
        refine iteB (fun t => ?_) (fun t => ?_)
        · refine ⟨_, rfl, _, hD2, by rw [ints_len]; exact small1000 (Nat.le_trans (List.length_filter_le _ _) (by rw [List.length_take]; omega)), fun b z hb => ?_, ?_⟩
          · rw [upd_ne (ne_of_none hb hD)]
            exact e2 _ _ hb
          · rw [upd_same, ft, if_pos t, ints_snoc]
        · refine ⟨e2, ?_⟩
          rw [ft, if_neg (by rw [t]; decide), List.append_nil]
          exact hD2
      · obtain ⟨e2, hD2⟩ := pv
        rw [ints_len, List.take_length] at hD2
        refine ⟨D, _, rfl, .inl ⟨.inl (.inl hD2), fun u nu => ?_⟩⟩
        have e3 := e2.trans (al (o := .tup (ints_ (sleF own' row))) nu)
        have RZ := RC.same e3
        have hu : upd H2 u (.tup (ints_ (sleF own' row))) u = some (.tup (ints_ (sleF own' row))) := upd_same
        exact ⟨_, rfl, x, VC, dx, _, rfl, RZ.hx, clsV, nV _ (by decide), by show 7 < 1000; decide, u, rfl, RZ.put nlx _, RZ.tup _ (e3 _ _ h_to), RZ.tup _ (e3 _ _ h_ts), RZ.tup _ (e3 _ _ h_t1), RZ.tup _ (e3 _ _ h_t2), RZ.tup _ (e3 _ _ h_t3), RZ.tup _ hu⟩
    obtain ⟨t4, rfl, RD, h_to, h_ts, h_t1, h_t2, h_t3, h_t4⟩ := hM
    -- the number
    refine ⟨_, rfl, _, rfl, x, VC, dx, _, _, rfl, RD.hx, clsV, nV _ (by decide), rfl, _, rfl, x, VC, dx, _, _, rfl, RD.hx, clsV, nV _ (by decide), rfl, to, ts, n, c, own', row, rfl, h_to, h_ts, ok.rl, n5, fun HE eE => ?_⟩
    have RE := RD.same eE
    refine ⟨_, rfl, x, VC, dx, _, rfl, RE.hx, clsV, nV _ (by decide), by show 8 < 1000; decide, ?_⟩
    have RF := RE.put nlx [("land", .ref l), ("cell", .int (c : Nat)), ("own", .ref to), ("standings", .ref ts), ("outside", .ref t1), ("rights", .ref t2), ("needed", .ref t3), ("sleeping", .ref t4), ("number", .int (numR own' row c n : Nat))]
    exact q _ own' RF.bt pm ⟨⟨dx, to, ts, t1, t2, t3, t4, RF.hx, RE.tup _ (eE _ _ h_to), RE.tup _ (eE _ _ h_ts), RE.tup _ (eE _ _ h_t1), RE.tup _ (eE _ _ h_t2), RE.tup _ (eE _ _ h_t3), RE.tup _ (eE _ _ h_t4)⟩, RF.ld, ok.perm pm, so⟩
end
end K7
end
/-! ## EQV -/
section
/-! x == y by x's own __eq__, y any thing (a number, None, a text too) -/
namespace K7E
open PySem PySem.Spec PyProof.Rows L2
def rEqV (K : PySem.W.Frag) (C : Addr) (sp : Sp) (E : XK) : R2 := fun x y H Q => ∃ (a dx : Addr) (fs : List (Str × V)) (t : Value), x = .ref a ∧ H a = some (.ins C dx fs) ∧ TyX K H y t ∧ PySem.W.notFirst K C t = true ∧ sp [x, y] H Q E
section
variable {X : Cx}
theorem op_eqOwnV {CX : CXT} {C g : Addr} {fd : FuncData} {ps : List Str} {sp : Sp} {E : XK} {n : Nat} (F : FnOk X.prog X.w X.K X.mg X.base CX n g fd ps sp) (hs : PySem.W.findIn X.K (.ref C) "__eq__" = some (some (.ref g))) (hf : PySem.W.isFn X.K (.ref g) = true) (hb : Binds X.K fd ps [])
    (hr : Room n X.A) (hx : Passes CX X E) : OpR X (compareOp .Eq) (rEqV X.K C sp E) := by
  intro pins s σ H x y v u Q I rx ry h
  obtain ⟨a, dx, fs, t, rfl, ha, ty, hn, q⟩ := h
  cases (show v = Value.ref a from rx)
  obtain ⟨mA, J, _⟩ := ins_get I.hok ha
  obtain ⟨od, J, _⟩ := J.look
  obtain ⟨P, Z, hp, hne⟩ := kit_of I ry ty
  obtain ⟨m, hF⟩ := I.fr
  have hl := F.len _ _ _ _ q
  have r2 : Vals [V.ref a, y] [Value.ref a, u] := .cons rfl (.cons ry .nil)
  refine PySem.W.cmp_K (op := .Eq) (tb := t) hr.units0 hF I.ok.mod.kin J (Z.ty _ _ I.kIn hp) hn hs hf ?_
  refine wpAny_mono (wpAny_call (run_fnR (us := [.ref a, u]) (vs := [.ref a, y]) (F.raw hb .nil) hr hx I r2 q)) (fun w s' z => ?_) fun _ _ x => x
  obtain ⟨z', H', I', rz, qz⟩ := z
  exact SlX.cmpback rz ⟨z', H', I', rz, qz⟩
end
end K7E
end
/-! ## P19 -/
section
open PySem PySem.Spec PyProof.Rows L2
namespace K7
abbrev N_View___eq__ : List Str := ["self", "other"]
abbrev s_View___eq__ : Stmt := inClass (topS 31) 1
theorem sc_View___eq__ : FnScope ["self", "other"] ["self", "other"] (defScope s_View___eq__) := ⟨rfl, rfl, rfl, by decide +kernel, rfl, by decide +kernel, by decide +kernel⟩
abbrev N_Land_others : List Str := ["self", "cell", "b"]
abbrev s_Land_others : Stmt := inClass (topS 21) 5
theorem sc_Land_others : FnScope ["self", "cell", "b"] ["self", "cell"] (defScope s_Land_others) := ⟨rfl, rfl, rfl, by decide +kernel, rfl, by decide +kernel, by decide +kernel⟩
/-! ### views compared, open, at the start -/
theorem notHand_any {xs : List V} (h : xs.length ≠ 4) : notHand xs = true := notHand_len xs h
/-- what the top says of views, once more -/
structure Tv (K : PySem.W.Frag) (mg : Str → Option Value) (VC fQ : Addr) : Prop where
  g : mg "View" = some (.ref VC)
  cl : Cls K VC
  nV : ∀ f ∈ vfields, NoAttr K VC f
  ha : PySem.W.findIn K (.ref VC) "__class__" = some (some (.builtin "object.__class__"))
  hn : PySem.W.specialIn K (.builtin "object.__class__") "__get__" = some (some (.builtin "getset_descriptor.__get__"))
  ht : PySem.W.takesIn K (.builtin "object.__class__") = some true
  hm : PySem.W.mroIn K VC (.type "object") = some true
  own : PySem.W.kitOne K (.ref VC) (.ref VC) = some true
  eq : PySem.W.findIn K (.ref VC) "__eq__" = some (some (.ref fQ))
  eqF : PySem.W.isFn K (.ref fQ) = true
  ne : PySem.W.findIn K (.ref VC) "__ne__" = some (some (.builtin "object.__ne__"))
def eqVw (n : Nat) (es : List (Nat × Nat)) (rd : List Nat) (c : Nat) (own row : List Nat) (n' : Nat) (es' : List (Nat × Nat)) (rd' : List Nat) (c' : Nat) (own' row' : List Nat) : Bool :=
  decide (c = c') && (decide (own = own') && (decide (row.map wd = row'.map wd) && decide (n = n' ∧ es = es' ∧ rd = rd')))
theorem eqVw_refl (n : Nat) (es : List (Nat × Nat)) (rd : List Nat) (c : Nat) (own row : List Nat) : eqVw n es rd c own row n es rd c own row = true := by
  unfold eqVw
  rw [decide_eq_true rfl, decide_eq_true rfl, decide_eq_true rfl, decide_eq_true ⟨rfl, rfl, rfl⟩]
  rfl
theorem shaped_wds (l : List Nat) : SeqAt.shaped (.tuple ((l.map wd).map PyData.str)) = true := by
  obtain ⟨h1, h2⟩ := lay_wds l
  show ((PyData.canLay0 (.tuple ((l.map wd).map PyData.str))) && decide (PyData.depth (.tuple ((l.map wd).map PyData.str)) ≤ 64)) = true
  rw [PyData.canLay0, h1, PyData.depth, decide_eq_true (by omega)]
  rfl
section
variable {P : Program} {w : World} {K : PySem.W.Frag} {mg : Str → Option Value} {base : Heap} {a : AdL} {VC BV fE fQ aST aRI aDG aOW : Addr}
theorem VwO.ty (TV : Tv K mg VC fQ) {C : Addr} {H : Hp} {p l : Addr} {n : Nat} {es : List (Nat × Nat)} {rd : List Nat} {c : Nat} {own row : List Nat} (W : VwO C VC H p l n es rd c own row) : TyX K H (.ref p) (.ref VC) := by
  obtain ⟨dx, to, ts, t1, t2, t3, t4, h1, _⟩ := W.at_
  exact .base (.ins h1 TV.cl TV.ha TV.hn TV.ht TV.hm)
def spEqV (a : AdL) (VC : Addr) : Sp := fun vs H Q _ => ∃ (p q l l' : Addr) (n : Nat) (es : List (Nat × Nat)) (rd : List Nat) (c : Nat) (own row : List Nat) (n' : Nat) (es' : List (Nat × Nat)) (rd' : List Nat) (c' : Nat) (own' row' : List Nat), vs = [.ref p, .ref q] ∧ VwO a.C VC H p l n es rd c own row ∧ VwO a.C VC H q l' n' es' rd' c' own' row' ∧
  Q (.bl (eqVw n es rd c own row n' es' rd' c' own' row')) H
theorem ok_eqV (T : Tl K mg a) (TV : Tv K mg VC fQ) (T2 : Tk K a.C fE) {f : Addr} {fd fdLe : FuncData} (F : Fun K "__eq__" "View.__eq__" s_View___eq__ f fd) (m_isinstance : mg "isinstance" = none)
    (Gle : FnOk P w K mg base CX0 1 fE fdLe ["self", "other"] (spEqL a.C)) (ble : Binds K fdLe ["self", "other"] []) : FnOk P w K mg base CX0 2 f fd ["self", "other"] (spEqV a VC) := by
  refine F.ok sc_View___eq__ (fun vs H Q E h => ?_) (fun cdv A outer s H vs Q E hr h => ?_)
  · obtain ⟨p, q, l, l', n, es, rd, c, own, row, n', es', rd', c', own', row', rfl, _⟩ := h
    rfl
  · obtain ⟨p, q, l, l', n, es, rd, c, own, row, n', es', rd', c', own', row', rfl, W, W', k⟩ := h
    refine ⟨_, (pss_one (ps_ret (pe_and (pe_callB call_isi (by rfl) m_isinstance boot_isinstance (pa_cons (pv 1) (pa_cons (pe_glob (v := .ref _) (by rfl) TV.g rfl) pa_nil))) (pe_and (pe_cmpR op_eq (pe_fld (pv 0) rfl) (pe_fld (pv 1) rfl) (nomark _)) (pe_and (pe_cmpR (op_eqD hr.units) (pe_fld (pv 0) rfl) (pe_fld (pv 1) rfl) (nomark _)) (pe_and (pe_cmpR (op_eqD hr.units) (pe_fld (pv 0) rfl) (pe_fld (pv 1) rfl) (nomark _)) (pe_one (pe_cmpR (K7E.op_eqOwn Gle T2.eq T2.eqF ble (hr.mono (by decide)) pass0) (pe_fld (pv 0) rfl) (pe_fld (pv 1) rfl) (nomark _))))))))), ?_⟩
    obtain ⟨dx, to, ts, t1, t2, t3, t4, h1, h2, h3, _⟩ := W.at_
    obtain ⟨dx', to', ts', t1', t2', t3', t4', g1, g2, g3, _⟩ := W'.at_
    obtain ⟨dl, an, ar, ay, ac, tn, ty, tc, m1, _⟩ := W.ld.at_
    obtain ⟨dl', an', ar', ay', ac', tn', ty', tc', m1', _⟩ := W'.ld.at_
    unfold eqVw at k
    refine ⟨_, rfl, _, _, _, _, _, rfl, .own _, W'.ty TV, TV.own, true, rfl, ?_⟩
    refine ⟨.ref p, rfl, p, VC, dx, _, _, rfl, h1, TV.cl, TV.nV _ (by decide), rfl, .ref q, rfl, q, VC, dx', _, _, rfl, g1, TV.cl, TV.nV _ (by decide), rfl, rfl, _, rfl, ?_⟩
    rw [dec_int]
    cases c1 : decide (c = c') with
    | false =>
      rw [c1] at k
      exact k
    | true =>
      rw [c1] at k
      refine iteT ?_
      refine ⟨.ref p, rfl, p, VC, dx, _, _, rfl, h1, TV.cl, TV.nV _ (by decide), rfl, .ref q, rfl, q, VC, dx', _, _, rfl, g1, TV.cl, TV.nV _ (by decide), rfl, _, _, .tup (.inl (.inl h2)) (dp_ints own), .tup (.inl (.inl g2)) (dp_ints own'), shaped_ints own, shaped_ints own', _, rfl, ?_⟩
      rw [show PyData.eqv (.tuple (own.map fun c => PyData.int (c : Nat))) (.tuple (own'.map fun c => PyData.int (c : Nat))) = decide (own = own') from eqv_intD own own']
      cases c2 : decide (own = own') with
      | false =>
        rw [c2] at k
        exact k
      | true =>
        rw [c2] at k
        refine iteT ?_
        refine ⟨.ref p, rfl, p, VC, dx, _, _, rfl, h1, TV.cl, TV.nV _ (by decide), rfl, .ref q, rfl, q, VC, dx', _, _, rfl, g1, TV.cl, TV.nV _ (by decide), rfl, _, _, .tup (.inl (.inl h3)) (dp_wds row), .tup (.inl (.inl g3)) (dp_wds row'), shaped_wds row, shaped_wds row', _, rfl, ?_⟩
        rw [show PyData.eqv (.tuple ((row.map wd).map PyData.str)) (.tuple ((row'.map wd).map PyData.str)) = decide (row.map wd = row'.map wd) by rw [PyData.eqv, eqv_strs]]
        cases c3 : decide (row.map wd = row'.map wd) with
        | false =>
          rw [c3] at k
          exact k
        | true =>
          rw [c3] at k
          refine iteT ?_
          exact ⟨.ref p, rfl, p, VC, dx, _, _, rfl, h1, TV.cl, TV.nV _ (by decide), rfl, .ref q, rfl, q, VC, dx', _, _, rfl, g1, TV.cl, TV.nV _ (by decide), rfl, l, dl, _, l', .ref a.C, rfl, rfl, m1, .base (.ins m1' T.cl T2.ha T2.hn T2.ht T2.hm), nfC K a.C, l, l', n, es, rd, n', es', rd', rfl, W.ld, W'.ld, k⟩
/-! a new view -/
theorem VwOk.st {n c : Nat} {own row : List Nat} (ok : VwOk n c own row) : slpB n own row = false ∧ awkB own row = false := by
  refine ⟨List.any_eq_false.mpr fun k hk => ?_, List.any_eq_false.mpr fun k hk => ?_⟩
  · obtain ⟨b, hb, rfl⟩ := List.mem_map.mp hk
    obtain ⟨h1, h2⟩ := List.mem_filter.mp hb
    have nb : b ∉ own := fun h => by rw [decide_eq_true h] at h2; cases h2
    have := ok.out b (List.mem_range.mp h1) nb
    rw [decide_eq_false (by omega)]
    decide
  · obtain ⟨b, hb, rfl⟩ := List.mem_map.mp hk
    have := ok.inn b hb
    rw [decide_eq_false (by omega)]
    decide
theorem new_viewR {H1 : Hp} {Q : VK} {E : XK} {l : Addr} {n : Nat} {es : List (Nat × Nat)} {rd : List Nat} {c : Nat} {w' cv ov tv : V} (L : LandO a.C H1 l n es rd) (cn : c < n)
    (h : VwSt K a.C l n c H1 w' cv ov tv (fun z => Flies H1 BV "what" (.str z) E) (fun own row => ∀ H' x own', Same H1 H' → H1 x = none → own'.Perm own → VwO a.C VC H' x l n es rd c own' row → Q (.ref x) H')) :
    ∀ x dx, H1 x = none → H1 dx = none → dx ≠ x → spVwR K a VC BV (.ref x :: ([w', cv, ov, tv] ++ [])) (upd (upd H1 dx (.own x)) x (.ins VC dx [])) (fun v H2 => v = .non ∧ Q (.ref x) H2) E := by
  intro x dx hx hdx hne
  have e : Same H1 (upd (upd H1 dx (.own x)) x (.ins VC dx [])) := same_new (same_new (Same.refl H1) hdx) (by rw [upd_ne hne.symm]; exact hx)
  obtain ⟨dl, an, ar, ay, ac, tn, ty, tc, m1, _⟩ := L.at_
  refine ⟨x, dx, l, n, es, rd, c, w', cv, ov, tv, rfl, upd_same, L.same e, ne_of_none m1 hx, cn, h.imp e (fun z f => f.later e) fun own row q H' own' b p W => ⟨rfl, q H' x own' (fun z o hz => ?_) hx p W⟩⟩
  exact b z o (ne_of_none hz hx) (e _ _ hz)
theorem new_view {H1 : Hp} {Q : VK} {E : XK} {l o t : Addr} {n : Nat} {es : List (Nat × Nat)} {rd : List Nat} {c : Nat} {own row : List Nat} (L : LandO a.C H1 l n es rd) (ho : SqOf H1 o (ints_ own)) (ht : SqOf H1 t (wds row)) (ok : VwOk n c own row)
    (q : ∀ H' x own', Same H1 H' → H1 x = none → own'.Perm own → VwO a.C VC H' x l n es rd c own' row → Q (.ref x) H') :
    ∀ x dx, H1 x = none → H1 dx = none → dx ≠ x → spVwR K a VC BV (.ref x :: ([.ref l, .int (c : Nat), .ref o, .ref t] ++ [])) (upd (upd H1 dx (.own x)) x (.ins VC dx [])) (fun v H2 => v = .non ∧ Q (.ref x) H2) E :=
  new_viewR L ok.cn (.inr ⟨rfl, .inr ⟨rfl, .inr ⟨o, own, rfl, ho, ok.lt, ok.nd, ok.me, .inr ⟨t, row, rfl, ht, ok.rl, ok.r0, .inr (.inr ⟨ok.st.1, ok.st.2, q⟩)⟩⟩⟩⟩)
theorem srt_uniq {l m : List Nat} (hl : l.Pairwise (· < ·)) (hm : m.Pairwise (· < ·)) (p : l.Perm m) : l = m := KL.uniq (fun a b (h1 : a ≤ b) (h2 : b ≤ a) => Nat.le_antisymm h1 h2) p (hl.imp fun h => Nat.le_of_lt h) (hm.imp fun h => Nat.le_of_lt h)
def spOthers (a : AdL) : Sp := fun vs H Q E => ∃ (p : Addr) (n : Nat) (es : List (Nat × Nat)) (rd : List Nat) (x : V), vs = [.ref p, x] ∧ LandO a.C H p n es rd ∧ CellOr a.B n H x E fun c => ∀ H' u, Same H H' → H' u = some (.tup (ints_ ((List.range n).filter fun b => decide (b ≠ c)))) → Q (.ref u) H'
variable {fk : Addr} (Gck : FnR P w K mg base (L2.CX P w) 4 fk (spCheck a)) (gck : mg "check_cells" = some (.ref fk)) (kck : PySem.W.keepIn K (.ref fk) = true)
include Gck gck kck in
theorem ok_others (T : Tl K mg a) {f : Addr} {fd : FuncData} (F : Fun K "others" "Land.others" s_Land_others f fd) (m_tuple : mg "tuple" = none) (m_range : mg "range" = none) : FnOk P w K mg base (L2.CX P w) 5 f fd ["self", "cell"] (spOthers a) := by
  refine F.okX sc_Land_others (fun vs H Q E h => ?_) (fun cdv A outer s H vs Q E hr h => ?_)
  · obtain ⟨p, n, es, rd, x, rfl, _⟩ := h
    rfl
  · obtain ⟨p, n, es, rd, x, rfl, L, h⟩ := h
    refine ⟨_, (pss_cons (ps_expr (K7E.pe_callR0 Gck (hr.mono (by decide)) (by rfl) gck kck (passes_call (E := E) (takes_of rfl rfl rfl rfl) (fun _ _ _ _ h => h)) (pa_cons (pv 0) (pa_cons (pv 1) pa_nil))))
 (pss_one (ps_ret (pe_callTy call_tuple_of (by rfl) m_tuple boot_tuple (pa_cons (pe_lc (own := [("b", 2)]) (g := gName 2) rfl sc_Land_others.nd (pi_range1 rfl m_range (pa_cons (pe_fld (pv 0) rfl) pa_nil)) (blkOk_by (own := [("b", 2)]) (N := N_Land_others) (sc := defScope s_Land_others) (by decide +kernel)) (fun _ _ _ _ _ => (pg_name (i := 2) sc_Land_others.nd rfl (by first | exact Or.inl rfl | exact Or.inr rfl))) (fun _ _ _ _ _ => (pts_one (pt_cmpR op_ne (pv 2) (pv 1) (nomark _)))) (fun _ _ _ _ _ => (pv 2))) pa_nil))))), ?_⟩
    rcases h with ⟨c, rfl, hc, q⟩ | ⟨th, wf, fl⟩
    · refine ⟨_, rfl, _, rfl, p, n, [.int (c : Nat)], rfl, L.c, by show 1 < 64; decide, .inl ⟨fun y hy => by rw [List.mem_singleton.mp hy]; exact .flat (.int _), one_in hc, fun H1 e1 => ?_⟩⟩
      have n5 := L.n5
      obtain ⟨dx, an, ar, ay, ac, tn, ty, tc, h1, h2, h3, h4, h5, h6, h7, h8⟩ := (L.same e1).at_
      refine ⟨_, rfl, p, a.C, dx, _, _, rfl, h1, T.cl, T.nA _ (by decide), rfl, _, rfl, by omega, by omega, fun D hD => lc_range (lo := 0) (n := n) (fun i H2 => Same H1 H2 ∧ H2 D = some (.lst (ints_ ((List.range i).filter fun b => decide (b ≠ c))))) ⟨same_new (Same.refl H1) hD, upd_same⟩ (fun i H2 hi pv => ?_) (fun H2 pv => ?_)⟩
      · obtain ⟨e2, hD2⟩ := pv
        refine ⟨rfl, _, rfl, _, rfl, rfl, _, rfl, ?_⟩
        by_cases hic : i = c
        · have e16 : (!decide (V.int (0 + (i : Nat)) = V.int (c : Nat))) = false := by rw [decide_eq_true (by rw [hic, Int.zero_add])]; rfl
          rw [e16]
          refine iteF ⟨e2, ?_⟩
          rw [range_filter, if_neg (by rw [decide_eq_false (by simpa using hic)]; decide), List.append_nil]
          exact hD2
        · have e16 : (!decide (V.int (0 + (i : Nat)) = V.int (c : Nat))) = true := by
            rw [decide_eq_false (fun h => by injection h with h; exact hic (by omega))]
            rfl
          rw [e16]
          refine iteT ⟨_, rfl, _, hD2, by unfold ints_; rw [List.length_map]; exact small1000 (Nat.le_trans (List.length_filter_le _ _) (by rw [List.length_range]; omega)), fun b o hb => ?_, ?_⟩
          · rw [upd_ne (ne_of_none hb hD)]
            exact e2 _ _ hb
          · rw [upd_same, range_filter, if_pos (decide_eq_true hic), Int.zero_add, ints_snoc]
      · obtain ⟨e2, hD2⟩ := pv
        exact ⟨D, _, rfl, .inl ⟨.inl (.inl hD2), fun l nl => q _ l (e1.trans (same_new e2 nl)) upd_same⟩⟩
    · exact ⟨_, rfl, _, rfl, p, n, [x], rfl, L.c, by show 1 < 64; decide, .inr ⟨[], x, [], rfl, fun y hy => (nomatch hy), fun y hy => (nomatch hy), th, wf, fl⟩⟩
end
end K7
end
/-! ## P20 -/
section
open PySem PySem.Spec PyProof.Rows L2
namespace K7
abbrev N_view_by_ways : List Str := ["land", "cell", "ways", "words", "own", "b", "word"]
abbrev s_view_by_ways : Stmt := topS 33
theorem sc_view_by_ways : FnScope ["land", "cell", "ways", "words", "own", "b", "word"] ["land", "cell", "ways"] (defScope s_view_by_ways) := ⟨rfl, rfl, rfl, by decide +kernel, rfl, by decide +kernel, by decide +kernel⟩
/-! ### digits of a view -/
def dwS : Nat → Str
  | 0 => "own"
  | 1 => "asleep"
  | 2 => "none"
  | 3 => "awake"
  | _ => "needed"
def dk : Nat → Nat
  | 0 => 0
  | 1 => 3
  | 2 => 0
  | 3 => 1
  | _ => 2
def wayL (ws : List Nat) : List V := ws.map fun d => .str (dwS d)
/-- the digits of all cells, those of the cell's own place with them -/
def fullW (c : Nat) (ws : List Nat) : List Nat := ws.take c ++ 0 :: ws.drop c
def ownD (W : List Nat) : List Nat := (List.range W.length).filter fun b => decide (W.getD b 0 < 2)
def rowD (W : List Nat) : List Nat := W.map dk
theorem wayL_len (ws : List Nat) : (wayL ws).length = ws.length := List.length_map ..
theorem wayL_app (a b : List Nat) : wayL (a ++ b) = wayL a ++ wayL b := List.map_append ..
theorem wayL_at {W : List Nat} {j : Nat} (h : j < W.length) : (wayL W)[j]? = some (.str (dwS (W.getD j 0))) := by
  unfold wayL
  rw [List.getElem?_map, List.getD_eq_getElem?_getD, List.getElem?_eq_getElem h]
  rfl
theorem full_len {c n : Nat} {ws : List Nat} (hl : ws.length + 1 = n) (hc : c < n) : (fullW c ws).length = n := by
  unfold fullW
  rw [List.length_append, List.length_cons, List.length_take, List.length_drop]
  omega
theorem full_c {c n : Nat} {ws : List Nat} (hl : ws.length + 1 = n) (hc : c < n) : (fullW c ws).getD c 0 = 0 := by
  unfold fullW
  rw [List.getD_eq_getElem?_getD, List.getElem?_append_right (by rw [List.length_take]; omega), List.length_take, Nat.min_eq_left (by omega), Nat.sub_self]
  rfl
theorem rowD_at {W : List Nat} {b : Nat} (h : b < W.length) : (rowD W).getD b 0 = dk (W.getD b 0) := by
  unfold rowD
  rw [List.getD_eq_getElem?_getD, List.getElem?_map, List.getD_eq_getElem?_getD, List.getElem?_eq_getElem h]
  rfl
theorem dk_low {d : Nat} (h : d < 2) : dk d = 0 ∨ 3 ≤ dk d := by
  match d, h with
  | 0, _ => exact .inl rfl
  | 1, _ => exact .inr (Nat.le_refl 3)
theorem dk_high {d : Nat} (h : ¬ d < 2) : dk d < 3 := by
  match d with
  | 0 => omega
  | 1 => omega
  | 2 => decide
  | 3 => decide
  | d + 4 => show 2 < 3; decide
theorem ownD_mem {W : List Nat} {b : Nat} : b ∈ ownD W ↔ b < W.length ∧ W.getD b 0 < 2 := by
  unfold ownD
  rw [List.mem_filter, List.mem_range]
  exact and_congr Iff.rfl decide_eq_true_iff
theorem ownD_up (W : List Nat) : (ownD W).Pairwise (· < ·) := List.Pairwise.filter _ List.pairwise_lt_range
theorem vw_ok {n c : Nat} {ws : List Nat} (hl : ws.length + 1 = n) (hc : c < n) : VwOk n c (ownD (fullW c ws)) (rowD (fullW c ws)) := by
  have fl := full_len hl hc
  refine ⟨hc, fun b hb => ?_, pw_nodup (ownD_up _), ownD_mem.mpr ⟨by rw [fl]; exact hc, by rw [full_c hl hc]; decide⟩, by unfold rowD; rw [List.length_map, fl], ?_, fun b hb => ?_, fun b hb hn => ?_⟩
  · have := (ownD_mem.mp hb).1
    omega
  · rw [rowD_at (by rw [fl]; exact hc), full_c hl hc]
    rfl
  · obtain ⟨h1, h2⟩ := ownD_mem.mp hb
    rw [rowD_at h1]
    exact dk_low h2
  · have hb' : b < (fullW c ws).length := by rw [fl]; exact hb
    rw [rowD_at hb']
    exact dk_high fun h => hn (ownD_mem.mpr ⟨hb', h⟩)
theorem dw_own (d : Nat) : inV (.str (dwS d)) [.str "own", .str "asleep"] = decide (d < 2) := by
  match d with
  | 0 => decide +kernel
  | 1 => decide +kernel
  | 2 => decide +kernel
  | 3 => decide +kernel
  | d + 4 =>
    rw [decide_eq_false (p := d + 4 < 2) (by omega)]
    show inV (.str "needed") [.str "own", .str "asleep"] = false
    decide +kernel
theorem dw_is (d : Nat) : decide (V.str (dwS d) = V.str "own") = decide (d = 0) := by
  match d with
  | 0 => decide +kernel
  | 1 => decide +kernel
  | 2 => decide +kernel
  | 3 => decide +kernel
  | d + 4 =>
    rw [decide_eq_false (p := d + 4 = 0) (by omega)]
    show decide (V.str "needed" = V.str "own") = false
    decide +kernel
theorem dw_wd {d : Nat} (h : d ≠ 0) : dwS d = wd (dk d) := by
  match d with
  | 0 => exact absurd rfl h
  | 1 => rfl
  | 2 => rfl
  | 3 => rfl
  | d + 4 => rfl
theorem cut_way {ws : List Nat} {c : Nat} (h : c ≤ ws.length) : cutV (wayL ws) none (some ((c : Nat) : Int)) = wayL (ws.take c) ∧ cutV (wayL ws) (some ((c : Nat) : Int)) none = wayL (ws.drop c) := by
  unfold cutV
  simp only [HT.sIx_nat, HT.sIx_none, wayL_len]
  refine ⟨?_, ?_⟩
  · rw [List.drop_zero, Nat.sub_zero, Nat.min_eq_left h]
    exact List.map_take.symm
  · rw [Nat.min_eq_left h]
    unfold wayL
    rw [← List.map_drop]
    exact List.take_of_length_le (by rw [List.length_map, List.length_drop]; exact Nat.le_refl _)
section
variable {P : Program} {w : World} {K : PySem.W.Frag} {mg : Str → Option Value} {base : Heap} {a : AdL} {VC BV fE fQ aST aRI aDG aOW : Addr}
def spVByW (a : AdL) (VC : Addr) : Sp := fun vs H Q _ => ∃ (l t : Addr) (n : Nat) (es : List (Nat × Nat)) (rd : List Nat) (c : Nat) (ws : List Nat), vs = [.ref l, .int (c : Nat), .ref t] ∧ LandO a.C H l n es rd ∧ c < n ∧ H t = some (.lst (wayL ws)) ∧ ws.length + 1 = n ∧
  ∀ H' p, Same H H' → H p = none → VwO a.C VC H' p l n es rd c (ownD (fullW c ws)) (rowD (fullW c ws)) → Q (.ref p) H'
theorem ok_vbyw (TV : Tv K mg VC fQ) (T5 : T5s K mg aST aRI aDG aOW) {f fI : Addr} {fd fdI : FuncData} (F : Fun K "view_by_ways" "view_by_ways" s_view_by_ways f fd)
    (MV : Mk K VC fI) (GV : FnOk P w K mg base (L2.CX P w) 4 fI fdI ["self", "land", "cell", "own", "standings"] (spVwR K a VC BV)) (bV : Binds K fdI ["self", "land", "cell", "own", "standings"] []) (m_list : mg "list" = none) (m_enumerate : mg "enumerate" = none) : FnOk P w K mg base CX0 6 f fd ["land", "cell", "ways"] (spVByW a VC) := by
  refine F.ok sc_view_by_ways (fun vs H Q E h => ?_) (fun cdv A outer s H vs Q E hr h => ?_)
  · obtain ⟨l, t, n, es, rd, c, ws, rfl, _⟩ := h
    rfl
  · obtain ⟨l, t, n, es, rd, c, ws, rfl, L, hc, ht, hl, q⟩ := h
    refine ⟨_, (Evl.pss_cut (ps_set (i := 3) sc_view_by_ways.nd rfl (by first | exact Or.inl rfl | exact Or.inr rfl) (pe_op op_cat (pe_op op_cat (pe_callTy call_list_of (by rfl) m_list boot_list (pa_cons (pe_slice sl_list (pv 2) po_none (po_some (pv 1))) pa_nil)) (pe_lst (pa_cons pe_str pa_nil))) (pe_callTy call_list_of (by rfl) m_list boot_list (pa_cons (pe_slice sl_list (pv 2) (po_some (pv 1)) po_none) pa_nil))))
 (Evl.pss_cut (ps_setLc (i := 4) (own := [("b", 5), ("word", 6)]) (g := gTup K 2 (gCons (gName 5) (gCons (gName 6) (gNil)))) rfl sc_view_by_ways.nd rfl rfl (sw_true rfl rfl rfl (by decide +kernel)) (pi_enum (by rfl) m_enumerate (pa_cons (pv 3) pa_nil)) (blkOk_by (own := [("b", 5), ("word", 6)]) (N := N_view_by_ways) (sc := defScope s_view_by_ways) (by decide +kernel)) (fun _ _ _ _ _ => (pg_tup rfl (pgs_cons (pg_name (i := 5) sc_view_by_ways.nd rfl (by first | exact Or.inl rfl | exact Or.inr rfl)) (pgs_cons (pg_name (i := 6) sc_view_by_ways.nd rfl (by first | exact Or.inl rfl | exact Or.inr rfl)) pgs_nil)))) (fun _ _ _ _ _ => (pts_one (pt_cmpR (show OpR _ _ (rIn K false) from op_in_seq) (pv 6) (pe_glob (v := .ref _) rfl T5.gOW rfl) (by with_unfolding_all rfl)))) (fun _ _ _ _ _ => (pv 5)))
 (pss_one (ps_ret (pe_make MV GV (hr.mono (by decide)) (by rfl) TV.g bV .nil passL (pa_cons (pv 0) (pa_cons (pv 1) (pa_cons (pv 4) (pa_cons (pe_lc (own := [("word", 6)]) (g := gName 6) (tt := tYes) rfl sc_view_by_ways.nd (pi_list (pv 3)) (blkOk_by (own := [("word", 6)]) (N := N_view_by_ways) (sc := defScope s_view_by_ways) (by decide +kernel)) (fun _ _ _ _ _ => (pg_name (i := 6) sc_view_by_ways.nd rfl (by first | exact Or.inl rfl | exact Or.inr rfl))) (fun _ _ _ _ _ => pts_nil) (fun _ _ _ _ _ => (pe_ifExp (pt_cmpR op_eq (pv 6) pe_str (nomark _)) pe_str (pv 6)))) pa_nil))))))))), ?_⟩
    have n5 := L.n5
    have fl := full_len hl hc
    obtain ⟨cu1, cu2⟩ := cut_way (ws := ws) (c := c) (by omega)
    refine ⟨fun τ H' => ∃ W, τ = [some (.ref l), some (.int (c : Nat)), some (.ref t), some (.ref W), none, none, none] ∧ Same H H' ∧ H' W = some (.lst (wayL (fullW c ws))), ?_, fun τ H1 hM => ?_⟩
    · refine ⟨_, rfl, _, rfl, _, rfl, t, _, rfl, .inl (.inl ht), fun p1 np1 => ?_⟩
      rw [cu1]
      have e1 := al (o := .lst (wayL (ws.take c))) np1
      refine ⟨p1, _, rfl, .inl (.inl (.inl upd_same)), fun p2 np2 => ?_⟩
      have e2 := e1.trans (al (o := .lst (wayL (ws.take c))) np2)
      have h2 : upd (upd H p1 (.lst (wayL (ws.take c)))) p2 (.lst (wayL (ws.take c))) p2 = some (.lst (wayL (ws.take c))) := upd_same
      generalize upd (upd H p1 (.lst (wayL (ws.take c)))) p2 (.lst (wayL (ws.take c))) = H2 at e2 h2 ⊢
      refine ⟨by show 1 ≤ sizeLine; decide, fun p3 np3 => ?_⟩
      have e3 := al (o := .lst [.str "own"]) np3
      refine ⟨p2, p3, _, _, rfl, rfl, e3 _ _ h2, upd_same, ?_, fun p4 np4 => ?_⟩
      · rw [wayL_len, List.length_take]
        exact Nat.le_of_lt (small1000 (by show min c ws.length + 1 ≤ 1000; omega))
      have e4 := e2.trans (e3.trans (al (o := .lst (wayL (ws.take c) ++ [.str "own"])) np4))
      have h4 : upd (upd H2 p3 (.lst [.str "own"])) p4 (.lst (wayL (ws.take c) ++ [.str "own"])) p4 = some (.lst (wayL (ws.take c ++ [0]))) := by rw [upd_same, wayL_app]; rfl
      generalize upd (upd H2 p3 (.lst [.str "own"])) p4 (.lst (wayL (ws.take c) ++ [.str "own"])) = H4 at e4 h4 ⊢
      refine ⟨_, rfl, _, rfl, _, rfl, t, _, rfl, .inl (.inl (e4 _ _ ht)), fun p5 np5 => ?_⟩
      rw [cu2]
      have e5 := al (o := .lst (wayL (ws.drop c))) np5
      refine ⟨p5, _, rfl, .inl (.inl (.inl upd_same)), fun p6 np6 => ?_⟩
      have e6 := e5.trans (al (o := .lst (wayL (ws.drop c))) np6)
      have h6 : upd (upd H4 p5 (.lst (wayL (ws.drop c)))) p6 (.lst (wayL (ws.drop c))) p6 = some (.lst (wayL (ws.drop c))) := upd_same
      generalize upd (upd H4 p5 (.lst (wayL (ws.drop c)))) p6 (.lst (wayL (ws.drop c))) = H6 at e6 h6 ⊢
      refine ⟨p4, p6, _, _, rfl, rfl, e6 _ _ h4, h6, ?_, fun p7 np7 => ?_⟩
      · rw [wayL_len, wayL_len, List.length_append, List.length_take, List.length_drop]
        exact Nat.le_of_lt (small1000 (by show min c ws.length + 1 + (ws.length - c) ≤ 1000; omega))
      refine ⟨p7, rfl, (e4.trans e6).trans (al np7), ?_⟩
      rw [upd_same, ← wayL_app, List.append_assoc]
      rfl
    · obtain ⟨W, rfl, e1, hW⟩ := hM
      generalize hFW : fullW c ws = FW at fl hW q
      have wl : (wayL FW).length = n := by rw [wayL_len, fl]
      refine ⟨fun τ H' => ∃ O, τ = [some (.ref l), some (.int (c : Nat)), some (.ref t), some (.ref W), some (.ref O), none, none] ∧ Same H1 H' ∧ H' O = some (.lst (ints_ (ownD FW))), ?_, fun τ H2 hM => ?_⟩
      · refine ⟨_, rfl, W, _, rfl, .inl (.inl hW), fun D hD => lc_it (walk_enum (xs := wayL FW)) (fun j H2 => Same H1 H2 ∧ H2 D = some (.lst (ints_ ((List.range j).filter fun b => decide (FW.getD b 0 < 2))))) ⟨al hD, upd_same⟩ (fun j H2 _ pv => .inl (.inl (pv.1 _ _ hW))) (fun j x H2 H3 hj pv hy => ?_) (fun H2 pv => ?_)⟩
        · obtain ⟨e2, hD2⟩ := pv
          obtain ⟨T', x', y', rfl, nT, rfl, e3, e4⟩ := hy
          obtain rfl := Option.some.inj e3
          have jn : j < n := by rw [← wl]; exact hj
          have e4 : (wayL FW)[j]? = some y' := e4
          obtain rfl := Option.some.inj ((wayL_at (by rw [fl]; exact jn)).symm.trans e4)
          have sT := al (o := .tup [.int (j : Nat), .str (dwS (FW.getD j 0))]) nT
          refine ⟨T', _, rfl, .inl (.inl upd_same), rfl, _, _, rfl, _, _, rfl, rfl, rfl, ?_⟩
          refine ⟨_, rfl, aOW, _, rfl, .inr (T5.sOW _), rfl, rfl, _, rfl, ?_⟩
          show if inV (.str (dwS (FW.getD j 0))) [.str "own", .str "asleep"] = true then _ else _
          rw [dw_own]
          refine iteB (fun t => ?_) (fun t => ?_)
          · refine ⟨_, rfl, _, sT _ _ hD2, by rw [ints_len]; exact small1000 (Nat.le_trans (List.length_filter_le _ _) (by rw [List.length_range]; omega)), fun b z hb => ?_, ?_⟩
            · rw [upd_ne (ne_of_none hb hD)]
              exact sT _ _ (e2 _ _ hb)
            · rw [upd_same, range_filter, if_pos t, ints_snoc]
          · refine ⟨e2.trans sT, ?_⟩
            rw [range_filter, if_neg (by rw [t]; decide), List.append_nil]
            exact sT _ _ hD2
        · obtain ⟨e2, hD2⟩ := pv
          rw [wl] at hD2
          refine ⟨D, rfl, e2, ?_⟩
          unfold ownD
          rw [fl]
          exact hD2
      · obtain ⟨O, rfl, e2, hO⟩ := hM
        have e12 := e1.trans e2
        refine ⟨_, rfl, _, rfl, _, rfl, _, rfl, W, rfl, ⟨_, .inl (.inl (e2 _ _ hW))⟩, fun D hD => lc_list (xs := wayL FW) (fun j H3 => Same H2 H3 ∧ H3 D = some (.lst (wds ((FW.take j).map dk)))) ⟨al hD, upd_same⟩ (fun j H3 _ pv => .inl (.inl (pv.1 _ _ (e2 _ _ hW)))) (fun j x H3 hx pv => ?_) (fun H3 pv => ?_)⟩
        · obtain ⟨e3, hD3⟩ := pv
          have jn : j < n := by rw [← wl]; exact (List.getElem?_eq_some_iff.mp hx).1
          have jn' : j < FW.length := by rw [fl]; exact jn
          obtain rfl := Option.some.inj ((wayL_at jn').symm.trans hx)
          have tk : (FW.take (j + 1)).map dk = (FW.take j).map dk ++ [dk (FW.getD j 0)] := by
            rw [List.take_add_one, List.getD_eq_getElem?_getD, List.getElem?_eq_getElem jn', List.map_append]
            rfl
          have lim : (wds ((FW.take j).map dk)).length < sizeLine := by
            rw [wds_len, List.length_map, List.length_take]
            exact small1000 (by omega)
          refine ⟨rfl, _, rfl, rfl, _, rfl, ?_⟩
          show if decide (V.str (dwS (FW.getD j 0)) = V.str "own") = true then _ else _
          rw [dw_is]
          refine iteB (fun z => ?_) (fun z => ?_)
          · refine ⟨_, hD3, lim, fun b o hb => ?_, ?_⟩
            · rw [upd_ne (ne_of_none hb hD)]
              exact e3 _ _ hb
            · rw [upd_same, tk, of_decide_eq_true z, wds_snoc]
              rfl
          · refine ⟨_, rfl, _, hD3, lim, fun b o hb => ?_, ?_⟩
            · rw [upd_ne (ne_of_none hb hD)]
              exact e3 _ _ hb
            · rw [upd_same, tk, wds_snoc, dw_wd (of_decide_eq_false z)]
        · obtain ⟨e3, hD3⟩ := pv
          rw [wl, ← fl, List.take_length] at hD3
          have e13 := e12.trans e3
          have ok := vw_ok (c := c) hl hc
          rw [hFW] at ok
          refine new_view (a := a) (VC := VC) (BV := BV) (Q := Q) (L.same e13) (.inr (e3 _ _ hO)) (.inr hD3) ok fun H' x own' e nx pm W => ?_
          obtain rfl := srt_uniq W.so (ownD_up FW) pm
          exact q H' x (e13.trans e) (e13.free nx) W
end
end K7
end
/-! ## P21 -/
section
open PySem PySem.Spec PyProof.Rows L2
namespace K7
abbrev N__numbered : List Str := ["land", "cell", "number", "ways", "rest", "_"]
abbrev s__numbered : Stmt := topS 34
theorem sc__numbered : FnScope ["land", "cell", "number", "ways", "rest", "_"] ["land", "cell", "number"] (defScope s__numbered) := ⟨rfl, rfl, rfl, by decide +kernel, rfl, by decide +kernel, by decide +kernel⟩
abbrev N_number_of_views : List Str := ["land", "many", "_"]
abbrev s_number_of_views : Stmt := topS 32
theorem sc_number_of_views : FnScope ["land", "many", "_"] ["land"] (defScope s_number_of_views) := ⟨rfl, rfl, rfl, by decide +kernel, rfl, by decide +kernel, by decide +kernel⟩
abbrev N_view_at : List Str := ["land", "cell", "number"]
abbrev s_view_at : Stmt := topS 35
theorem sc_view_at : FnScope ["land", "cell", "number"] ["land", "cell", "number"] (defScope s_view_at) := ⟨rfl, rfl, rfl, by decide +kernel, rfl, by decide +kernel, by decide +kernel⟩
/-! ### the view of a number -/
/-- the m lowest digits of k by fives, the highest first -/
def dgs : Nat → Nat → List Nat
  | 0, _ => []
  | m + 1, k => (k / 5 ^ m % 5) :: dgs m k
theorem dgs_len (k : Nat) : ∀ m, (dgs m k).length = m
  | 0 => rfl
  | m + 1 => congrArg (· + 1) (dgs_len k m)
theorem dgs_lt (k : Nat) : ∀ m, ∀ d ∈ dgs m k, d < 5
  | 0, d, h => nomatch h
  | m + 1, d, h => by
    rcases List.mem_cons.mp h with rfl | h
    · exact Nat.mod_lt _ (by decide)
    · exact dgs_lt k m d h
theorem digs_at {d : Nat} (h : d < 5) : atI (digs.map V.str) ((d : Nat) : Int) = some (.str (dwS d)) := by
  refine atI_nat ?_
  match d, h with
  | 0, _ => rfl
  | 1, _ => rfl
  | 2, _ => rfl
  | 3, _ => rfl
  | 4, _ => rfl
theorem pow5 {m : Nat} (h : m ≤ 5) : 5 ^ m ≤ 3125 := Nat.pow_le_pow_right (by decide) h
section
variable {P : Program} {w : World} {K : PySem.W.Frag} {mg : Str → Option Value} {base : Heap} {a : AdL} {VC BN iN aST aRI aDG aOW : Addr}
def spNumK (a : AdL) (VC : Addr) : Sp := fun vs H Q _ => ∃ (l : Addr) (n : Nat) (es : List (Nat × Nat)) (rd : List Nat) (c k : Nat), vs = [.ref l, .int (c : Nat), .int (k : Nat)] ∧ LandO a.C H l n es rd ∧ c < n ∧ k < 5000 ∧
  ∀ H' p, Same H H' → H p = none → VwO a.C VC H' p l n es rd c (ownD (fullW c (dgs (n - 1) k))) (rowD (fullW c (dgs (n - 1) k))) → Q (.ref p) H'
theorem ok_numk (T : Tl K mg a) (T5 : T5s K mg aST aRI aDG aOW) {f fv : Addr} {fd fdv : FuncData} (F : Fun K "_numbered" "_numbered" s__numbered f fd)
    (Gvb : FnOk P w K mg base CX0 6 fv fdv ["land", "cell", "ways"] (spVByW a VC)) (gvb : mg "view_by_ways" = some (.ref fv)) (kvb : PySem.W.keepIn K (.ref fv) = true) (bvb : Binds K fdv ["land", "cell", "ways"] []) (m_range : mg "range" = none) : FnOk P w K mg base CX0 7 f fd ["land", "cell", "number"] (spNumK a VC) := by
  refine F.ok sc__numbered (fun vs H Q E h => ?_) (fun cdv A outer s H vs Q E hr h => ?_)
  · obtain ⟨l, n, es, rd, c, k, rfl, _⟩ := h
    rfl
  · obtain ⟨l, n, es, rd, c, k, rfl, L, hc, hk, q⟩ := h
    refine ⟨_, (pss_cons (ps_set (i := 3) sc__numbered.nd rfl (by first | exact Or.inl rfl | exact Or.inr rfl) (pe_lst pa_nil))
 (pss_cons (ps_set (i := 4) sc__numbered.nd rfl (by first | exact Or.inl rfl | exact Or.inr rfl) (pv 2))
 (pss_cons (ps_for PassesOwn.never rfl (pi_range1 rfl m_range (pa_cons (pe_op op_sub (pe_fld (pv 0) rfl) pe_int) pa_nil)) (pg_name (i := 5) sc__numbered.nd rfl (by first | exact Or.inl rfl | exact Or.inr rfl))
  (pss_cons (ps_set (i := 3) sc__numbered.nd rfl (by first | exact Or.inl rfl | exact Or.inr rfl) (pe_op op_cat (pe_lst (pa_cons (pe_ix ix_tup (pe_glob (v := .ref _) rfl T5.gDG rfl) (pe_op op_mod (pv 4) pe_int) (fun _ _ => rfl)) pa_nil)) (pv 3)))
 (pss_one (ps_set (i := 4) sc__numbered.nd rfl (by first | exact Or.inl rfl | exact Or.inr rfl) (pe_op op_fdiv (pv 4) pe_int)))))
 (pss_one (ps_ret (pe_call Gvb (hr.mono (by decide)) (by rfl) gvb kvb bvb .nil pass0 (pa_cons (pv 0) (pa_cons (pv 1) (pa_cons (pv 3) pa_nil))))))))), ?_⟩
    have n5 := L.n5
    have n2 := L.n2
    refine ⟨by show 0 ≤ sizeLine; decide, fun W nW => ?_⟩
    have e1 := al (o := .lst []) nW
    refine ⟨_, rfl, ?_⟩
    obtain ⟨dl, an, ar, ay, ac, tn, ty, tc, m1, _⟩ := (L.same e1).at_
    refine ⟨_, rfl, l, a.C, dl, _, _, rfl, m1, T.cl, T.nA _ (by decide), rfl, _, _, rfl, rfl, _, rfl, by omega, by omega, ?_⟩
    have tn1 : (((n : Nat) : Int) - 1).toNat = n - 1 := by omega
    refine for_range (lo := 0) (n := (((n : Nat) : Int) - 1).toNat) (fun i σ H' => ∃ R y5, σ = [some (.ref l), some (.int (c : Nat)), some (.int (k : Nat)), some (.ref R), some (.int ((k / 5 ^ i : Nat) : Nat)), y5] ∧ Same H H' ∧ H' R = some (.lst (wayL (dgs i k)))) ⟨W, none, by rw [Nat.pow_zero, Nat.div_one]; rfl, e1, upd_same⟩ (fun i σ H2 hi pv => ?_) (fun σ H2 pv => ?_)
    · obtain ⟨R, y5, rfl, e2, hR⟩ := pv
      rw [tn1] at hi
      have md : (((k / 5 ^ i : Nat) : Nat) : Int) % 5 = ((k / 5 ^ i % 5 : Nat) : Int) := by omega
      have dv : (((k / 5 ^ i : Nat) : Nat) : Int) / 5 = ((k / 5 ^ (i + 1) : Nat) : Int) := by
        rw [Nat.pow_succ, ← Nat.div_div_eq_div_mul]
        omega
      have ks : k / 5 ^ i < 5000 := Nat.lt_of_le_of_lt (Nat.div_le_self _ _) hk
      have dat : atI (digs.map V.str) ((((k / 5 ^ i : Nat) : Nat) : Int) % 5) = some (.str (dwS (k / 5 ^ i % 5))) := by
        rw [md]
        exact digs_at (Nat.mod_lt _ (by decide))
      refine ⟨_, rfl, _, _, rfl, rfl, by show (0 : Int) < 5; decide, aDG, _, _, _, rfl, rfl, T5.sDG _, dat, by show 1 ≤ sizeLine; decide, fun u nu => ?_⟩
      have e3 := al (o := .lst [.str (dwS (k / 5 ^ i % 5))]) nu
      refine ⟨_, rfl, u, R, _, _, rfl, rfl, upd_same, e3 _ _ hR, ?_, fun v nv => ?_⟩
      · rw [wayL_len, dgs_len]
        exact Nat.le_of_lt (small1000 (by show 1 + i ≤ 1000; omega))
      have e4 := (e2.trans e3).trans (al (o := .lst ([.str (dwS (k / 5 ^ i % 5))] ++ wayL (dgs i k))) nv)
      refine ⟨_, rfl, _, _, rfl, rfl, ⟨by omega, by decide⟩, v, some (.int (0 + (i : Nat))), ?_, e4, by rw [upd_same]; rfl⟩
      show [some (V.ref l), some (.int (c : Nat)), some (.int (k : Nat)), some (.ref v), some (.int ((((k / 5 ^ i : Nat) : Nat) : Int) / 5)), some (.int (0 + (i : Nat)))] = _
      rw [dv]
    · obtain ⟨R, y5, rfl, e2, hR⟩ := pv
      rw [tn1] at hR
      exact ⟨_, rfl, _, rfl, _, rfl, l, R, n, es, rd, c, dgs (n - 1) k, rfl, L.same e2, hc, hR, by rw [dgs_len]; omega, fun H' p e np W => q H' p (e2.trans e) (e2.free np) W⟩
def spNv (a : AdL) : Sp := fun vs H Q _ => ∃ (l : Addr) (n : Nat) (es : List (Nat × Nat)) (rd : List Nat), vs = [.ref l] ∧ LandO a.C H l n es rd ∧ Q (.int ((5 ^ (n - 1) : Nat) : Nat)) H
theorem ok_nv (T : Tl K mg a) {f : Addr} {fd : FuncData} (F : Fun K "number_of_views" "number_of_views" s_number_of_views f fd) (m_range : mg "range" = none) : FnOk P w K mg base CX0 1 f fd ["land"] (spNv a) := by
  refine F.ok sc_number_of_views (fun vs H Q E h => ?_) (fun cdv A outer s H vs Q E hr h => ?_)
  · obtain ⟨l, n, es, rd, rfl, _⟩ := h
    rfl
  · obtain ⟨l, n, es, rd, rfl, L, q⟩ := h
    refine ⟨_, (pss_cons (ps_set (i := 1) sc_number_of_views.nd rfl (by first | exact Or.inl rfl | exact Or.inr rfl) pe_int)
 (pss_cons (ps_for PassesOwn.never rfl (pi_range1 rfl m_range (pa_cons (pe_op op_sub (pe_fld (pv 0) rfl) pe_int) pa_nil)) (pg_name (i := 2) sc_number_of_views.nd rfl (by first | exact Or.inl rfl | exact Or.inr rfl))
  (pss_one (ps_set (i := 1) sc_number_of_views.nd rfl (by first | exact Or.inl rfl | exact Or.inr rfl) (pe_op op_mul (pv 1) pe_int))))
 (pss_one (ps_ret (pv 1))))), ?_⟩
    have n5 := L.n5
    have n2 := L.n2
    obtain ⟨dl, an, ar, ay, ac, tn, ty, tc, m1, _⟩ := L.at_
    refine ⟨_, rfl, l, a.C, dl, _, _, rfl, m1, T.cl, T.nA _ (by decide), rfl, _, _, rfl, rfl, _, rfl, by omega, by omega, ?_⟩
    have tn1 : (((n : Nat) : Int) - 1).toNat = n - 1 := by omega
    refine for_range (lo := 0) (n := (((n : Nat) : Int) - 1).toNat) (fun i σ H' => ∃ y2, σ = [some (.ref l), some (.int ((5 ^ i : Nat) : Nat)), y2] ∧ H' = H) ⟨none, rfl, rfl⟩ (fun i σ H2 hi pv => ?_) (fun σ H2 pv => ?_)
    · obtain ⟨y2, rfl, rfl⟩ := pv
      rw [tn1] at hi
      refine ⟨_, rfl, _, _, rfl, rfl, .inr ⟨by decide, by decide⟩, some (.int (0 + (i : Nat))), ?_, rfl⟩
      show [some (V.ref l), some (.int (((5 ^ i : Nat) : Int) * 5)), some (.int (0 + (i : Nat)))] = _
      rw [show ((5 ^ i : Nat) : Int) * 5 = ((5 ^ (i + 1) : Nat) : Int) by rw [Nat.pow_succ]; omega]
    · obtain ⟨y2, rfl, rfl⟩ := pv
      rw [tn1]
      exact ⟨_, rfl, q⟩
variable {fk : Addr} (Gck : FnR P w K mg base (L2.CX P w) 4 fk (spCheck a)) (gck : mg "check_cells" = some (.ref fk)) (kck : PySem.W.keepIn K (.ref fk) = true)
def spVAt (a : AdL) (VC : Addr) : Sp := fun vs H Q _ => ∃ (l : Addr) (n : Nat) (es : List (Nat × Nat)) (rd : List Nat) (c k : Nat), vs = [.ref l, .int (c : Nat), .int (k : Nat)] ∧ LandO a.C H l n es rd ∧ c < n ∧ k < 5 ^ (n - 1) ∧
  ∀ H' p, Same H H' → H p = none → VwO a.C VC H' p l n es rd c (ownD (fullW c (dgs (n - 1) k))) (rowD (fullW c (dgs (n - 1) k))) → Q (.ref p) H'
include Gck gck kck in
theorem ok_vat {f fn fv fiw : Addr} {fd fdn fdv fdiw : FuncData} (F : Fun K "view_at" "view_at" s_view_at f fd)
    (Giw : FnOk P w K mg base CX0 1 fiw fdiw ["thing", "low", "high"] spWhole) (giw : mg "is_whole" = some (.ref fiw)) (kiw : PySem.W.keepIn K (.ref fiw) = true) (biw : Binds K fdiw ["thing", "low", "high"] [])
    (Gnv : FnOk P w K mg base CX0 1 fv fdv ["land"] (spNv a)) (gnv : mg "number_of_views" = some (.ref fv)) (knv : PySem.W.keepIn K (.ref fv) = true) (bnv : Binds K fdv ["land"] [])
    (Gnu : FnOk P w K mg base CX0 7 fn fdn ["land", "cell", "number"] (spNumK a VC)) (gnu : mg "_numbered" = some (.ref fn)) (knu : PySem.W.keepIn K (.ref fn) = true) (bnu : Binds K fdn ["land", "cell", "number"] []) : FnOk P w K mg base (L2.CX P w) 8 f fd ["land", "cell", "number"] (spVAt a VC) := by
  refine F.okX sc_view_at (fun vs H Q E h => ?_) (fun cdv A outer s H vs Q E hr h => ?_)
  · obtain ⟨l, n, es, rd, c, k, rfl, _⟩ := h
    rfl
  · obtain ⟨l, n, es, rd, c, k, rfl, L, hc, hk, q⟩ := h
    refine ⟨_, (pss_cons (ps_expr (K7E.pe_callR0 Gck (hr.mono (by decide)) (by rfl) gck kck (passes_call (E := E) (takes_of rfl rfl rfl rfl) (fun _ _ _ _ h => h)) (pa_cons (pv 0) (pa_cons (pv 1) pa_nil))))
 (pss_cons (ps_if (pt_not (pt_val (pe_call Giw (hr.mono (by decide)) (by rfl) giw kiw biw .nil pass0 (pa_cons (pv 2) (pa_cons pe_int (pa_cons (pe_op op_sub (pe_call Gnv (hr.mono (by decide)) (by rfl) gnv knv bnv .nil pass0 (pa_cons (pv 0) pa_nil)) pe_int) pa_nil))))))
  (pss_one ps_never)
  pss_nil)
 (pss_one (ps_ret (pe_call Gnu (hr.mono (by decide)) (by rfl) gnu knu bnu .nil pass0 (pa_cons (pv 0) (pa_cons (pv 1) (pa_cons (pv 2) pa_nil)))))))), ?_⟩
    have n5 := L.n5
    refine ⟨_, rfl, _, rfl, l, n, [.int (c : Nat)], rfl, L.c, by show 1 < 64; decide, .inl ⟨fun y hy => by rw [List.mem_singleton.mp hy]; exact .flat (.int _), one_in hc, fun H1 e1 => ?_⟩⟩
    refine ⟨_, rfl, _, rfl, l, n, es, rd, rfl, L.same e1, ?_⟩
    refine ⟨_, _, rfl, rfl, .int (k : Nat), 0, ((5 ^ (n - 1) : Nat) : Int) - 1, rfl, .flat (.int _), ?_⟩
    refine ⟨_, rfl, ?_⟩
    rw [show wholeV (.int (k : Nat)) 0 (((5 ^ (n - 1) : Nat) : Int) - 1) = true by rw [wholeV_int, decide_eq_true (by omega), decide_eq_true (by omega)]; rfl]
    refine iteF ?_
    exact ⟨_, rfl, _, rfl, _, rfl, l, n, es, rd, c, k, rfl, L.same e1, hc, Nat.lt_of_lt_of_le hk (Nat.le_trans (pow5 (by omega)) (by decide)), fun H' p e np W => q H' p (e1.trans e) (e1.free np) W⟩
end
end K7
end
/-! ## TC -/
section
open PySem PySem.Spec PyProof.Rows L2
namespace K7T
/-! ### rows of digits -/
def dec : List Nat → Option (List Nat)
  | [] => some []
  | [_] => none
  | s :: c :: r => if s = 32 ∧ 48 ≤ c ∧ c ≤ 57 then (dec r).map fun l => (c - 48) :: l else none
def enc (ds : List Nat) : List Nat := ds.flatMap fun d => [32, 48 + d]
def digs (w row : List Nat) : Option (List Nat) := if row.take w.length = w then dec (row.drop w.length) else none
theorem enc_cons (d : Nat) (ds : List Nat) : enc (d :: ds) = 32 :: (48 + d) :: enc ds := rfl
theorem dec_enc : ∀ {ds : List Nat}, (∀ d ∈ ds, d < 10) → dec (enc ds) = some ds
  | [], _ => rfl
  | d :: ds, h => by
    have hd := h d (List.mem_cons_self ..)
    rw [enc_cons]
    show (if (32 : Nat) = 32 ∧ 48 ≤ 48 + d ∧ 48 + d ≤ 57 then (dec (enc ds)).map fun l => (48 + d - 48) :: l else none) = _
    rw [if_pos ⟨rfl, by omega, by omega⟩, dec_enc fun x hx => h x (List.mem_cons_of_mem _ hx)]
    show some ((48 + d - 48) :: ds) = some (d :: ds)
    rw [Nat.add_sub_cancel_left]
theorem enc_dec : ∀ {l ds : List Nat}, dec l = some ds → l = enc ds ∧ ∀ d ∈ ds, d < 10
  | [], ds, h => by
    cases h
    exact ⟨rfl, fun d hd => nomatch hd⟩
  | [_], ds, h => nomatch h
  | s :: c :: r, ds, h => by
    have h : (if s = 32 ∧ 48 ≤ c ∧ c ≤ 57 then (dec r).map fun l => (c - 48) :: l else none) = some ds := h
    by_cases hc : s = 32 ∧ 48 ≤ c ∧ c ≤ 57
    · rw [if_pos hc] at h
      obtain ⟨l, hl, rfl⟩ := Option.map_eq_some_iff.mp h
      obtain ⟨e, k⟩ := enc_dec hl
      refine ⟨?_, fun d hd => ?_⟩
      · rw [enc_cons, ← e, hc.1]
        congr 2
        omega
      · rcases List.mem_cons.mp hd with rfl | hd
        · omega
        · exact k d hd
    · rw [if_neg hc] at h
      cases h
theorem digs_enc {w row ds : List Nat} : digs w row = some ds ↔ row = w ++ enc ds ∧ ∀ d ∈ ds, d < 10 := by
  unfold digs
  constructor
  · intro h
    by_cases hw : row.take w.length = w
    · rw [if_pos hw] at h
      obtain ⟨e, k⟩ := enc_dec h
      exact ⟨by rw [← e]; conv => lhs; rw [← List.take_append_drop w.length row, hw], k⟩
    · rw [if_neg hw] at h
      cases h
  · rintro ⟨rfl, k⟩
    rw [if_pos List.take_left, List.drop_left]
    exact dec_enc k
/-! ### split and join back -/
theorem joinL_cons (s : Nat) (p : List Nat) : ∀ ps : List (List Nat), TL.joinL [s] (p :: ps) = p ++ ps.flatMap fun q => s :: q
  | [] => by rw [List.flatMap_nil, List.append_nil]; rfl
  | q :: ps => by
    show p ++ ([s] ++ TL.joinL [s] (q :: ps)) = _
    rw [joinL_cons s q ps, List.flatMap_cons]
    rfl
theorem spl_parts (s : Nat) : ∀ (l acc : List Nat), s ∉ acc → ∃ p ps, TL.spl [s] 0 acc l = p :: ps ∧ acc ++ l = p ++ (ps.flatMap fun q => s :: q) ∧ ∀ q ∈ p :: ps, s ∉ q
  | [], acc, h => ⟨acc, [], TL.spl_nil _ _ _, rfl, fun q hq => by rw [List.mem_singleton.mp hq]; exact h⟩
  | c :: r, acc, h => by
    by_cases hc : c = s
    · subst hc
      rw [TL.spl_hit (show TL.pre [c] (c :: r) = true from TL.pre_self [c] r)]
      obtain ⟨p, ps, e1, e2, e3⟩ := spl_parts c r [] (fun m => nomatch m)
      refine ⟨acc, p :: ps, by rw [show ([c] : List Nat).length - 1 = 0 from rfl, e1], ?_, fun q hq => ?_⟩
      · rw [List.flatMap_cons]
        rw [List.nil_append] at e2
        rw [e2]
        rfl
      · rcases List.mem_cons.mp hq with rfl | hq
        · exact h
        · exact e3 q hq
    · rw [TL.spl_miss (TL.pre_of_head [] r hc)]
      obtain ⟨p, ps, e1, e2, e3⟩ := spl_parts s r (acc ++ [c]) (fun m => (List.mem_append.mp m).elim h fun m => hc (List.mem_singleton.mp m).symm)
      exact ⟨p, ps, e1, by rw [← e2, List.append_assoc]; rfl, e3⟩
theorem join_spl (s : Nat) (l : List Nat) : TL.joinL [s] (TL.spl [s] 0 [] l) = l ∧ TL.spl [s] 0 [] l ≠ [] ∧ ∀ q ∈ TL.spl [s] 0 [] l, s ∉ q := by
  obtain ⟨p, ps, e1, e2, e3⟩ := spl_parts s l [] (fun m => nomatch m)
  rw [e1, joinL_cons, ← e2]
  exact ⟨rfl, by simp, e3⟩
theorem flat_len (s : Nat) {q : List Nat} : ∀ {ps : List (List Nat)}, q ∈ ps → q.length ≤ (ps.flatMap fun q => s :: q).length
  | p :: ps, h => by
    rw [List.flatMap_cons, List.length_append, List.length_cons]
    rcases List.mem_cons.mp h with rfl | h
    · omega
    · have := flat_len s h
      omega
theorem spl_len (s : Nat) {l q : List Nat} (h : q ∈ TL.spl [s] 0 [] l) : q.length ≤ l.length := by
  obtain ⟨p, ps, e1, e2, e3⟩ := spl_parts s l [] (fun m => nomatch m)
  rw [e1] at h
  rw [List.nil_append] at e2
  rw [e2, List.length_append]
  rcases List.mem_cons.mp h with rfl | h
  · omega
  · have := flat_len s h
    omega
theorem spl_flat (s : Nat) {p : List Nat} {ps : List (List Nat)} (h : ∀ q ∈ p :: ps, s ∉ q) : TL.spl [s] 0 [] (p ++ ps.flatMap fun q => s :: q) = p :: ps := by
  rw [← joinL_cons]
  exact TL.spl_join (by simp) h
/-! ### the program's way -/
def okD : List Nat → Bool
  | [c] => decide (48 ≤ c) && decide (c ≤ 57)
  | _ => false
def valD (p : List Nat) : Nat := p.headD 0 - 48
def progD (w : List Nat) : List (List Nat) → Option (List Nat)
  | [] => none
  | p :: ps => if p = w ∧ ps.all okD = true then some (ps.map valD) else none
theorem ok_is {p : List Nat} (h : okD p = true) : p = [48 + valD p] ∧ valD p < 10 := by
  match p, h with
  | [c], h =>
    obtain ⟨h1, h2⟩ := Bool.and_eq_true_iff.mp h
    have h1 := of_decide_eq_true h1
    have h2 := of_decide_eq_true h2
    refine ⟨?_, ?_⟩
    · show [c] = [48 + (c - 48)]
      congr 1
      omega
    · show c - 48 < 10
      omega
theorem enc_flat (ds : List Nat) : enc ds = (ds.map fun d => [48 + d]).flatMap fun q => 32 :: q := by
  induction ds with
  | nil => rfl
  | cons d ds ih => rw [enc_cons, ih]; rfl
theorem progD_digs {w : List Nat} (hw : 32 ∉ w) (row : List Nat) : progD w (TL.spl [32] 0 [] row) = digs w row := by
  obtain ⟨p, ps, e1, e2, e3⟩ := spl_parts 32 row [] (fun m => nomatch m)
  rw [List.nil_append] at e2
  rw [e1]
  show (if p = w ∧ ps.all okD = true then some (ps.map valD) else none) = _
  by_cases h : p = w ∧ ps.all okD = true
  · rw [if_pos h]
    refine (digs_enc.mpr ⟨?_, fun d hd => ?_⟩).symm
    · rw [enc_flat, List.map_map, e2, h.1]
      congr 2
      exact ((List.map_congr_left fun q hq => (ok_is (List.all_eq_true.mp h.2 q hq)).1.symm).trans (List.map_id ps)).symm
    · obtain ⟨q, hq, rfl⟩ := List.mem_map.mp hd
      exact (ok_is (List.all_eq_true.mp h.2 q hq)).2
  · rw [if_neg h]
    cases hd : digs w row with
    | none => rfl
    | some ds =>
      obtain ⟨k1, k2⟩ := digs_enc.mp hd
      rw [enc_flat] at k1
      have z := spl_flat 32 (p := w) (ps := ds.map fun d => [48 + d]) (fun q hq => by
        rcases List.mem_cons.mp hq with rfl | hq
        · exact hw
        · obtain ⟨d, hd, rfl⟩ := List.mem_map.mp hq
          intro m
          have := List.mem_singleton.mp m
          omega)
      rw [← k1, e1] at z
      injection z with z1 z2
      refine absurd ⟨z1, ?_⟩ h
      rw [z2]
      refine List.all_eq_true.mpr fun q hq => ?_
      obtain ⟨d, hd, rfl⟩ := List.mem_map.mp hq
      have := k2 d hd
      show (decide (48 ≤ 48 + d) && decide (48 + d ≤ 57)) = true
      rw [decide_eq_true (by omega), decide_eq_true (by omega)]
      rfl
/-! ### one sign -/
theorem ascii_one (c : Nat) : Txt.isascii (SX.S [c]) = decide (c < 128) := by
  show (#[c] : Array Nat).all (· < 128) = _
  simp
theorem digit_all : ∀ c : Fin 128, PySem.Unicode.isDigit c.val = (decide (48 ≤ c.val) && decide (c.val ≤ 57)) := by decide +kernel
theorem digit_one {c : Nat} (h : c < 128) : Txt.isdigit (SX.S [c]) = (decide (48 ≤ c) && decide (c ≤ 57)) := by
  show (decide ((SX.S [c]).length > 0) && (#[c] : Array Nat).all PySem.Unicode.isDigit) = _
  rw [← digit_all ⟨c, h⟩]
  simp [SX.S_len]
/-! ### couples of rows -/
def lexB (l a : Nat × Nat) : Bool := decide (l.1 < a.1) || (decide (l.1 = a.1) && decide (l.2 < a.2))
def afterB : Option (Nat × Nat) → Nat × Nat → Bool
  | none, _ => true
  | some l, a => lexB l a
/-- one row of a couple -/
def cpF (w : List Nat) (last : Option (Nat × Nat)) (row : List Nat) : Option (Nat × Nat) := match digs w row with
  | some [a, b] => if (decide (a < b) && afterB last (a, b)) = true then some (a, b) else none
  | _ => none
def clF (w row : List Nat) : Option Nat := match digs w row with
  | some [d] => some d
  | _ => none
def rdF (w row : List Nat) : Option (List Nat) := match digs w row with
  | some ds => if ds ≠ [] ∧ ds.Pairwise (· ≤ ·) then some ds else none
  | none => none
def cpl (w : List Nat) : Nat → Option (Nat × Nat) → List (List Nat) → Except Nat (List (Nat × Nat))
  | _, _, [] => .ok []
  | k, last, r :: rs => match cpF w last r with
    | some c => (cpl w (k + 1) (some c) rs).map fun l => c :: l
    | none => .error k
def lstL : Option (Nat × Nat) → List Nat
  | none => []
  | some (a, b) => [a, b]
end K7T
end
/-! ## P22 -/
section
open PySem PySem.Spec PyProof.Rows L2
namespace K7
abbrev N_View_way_of : List Str := ["self", "b"]
abbrev s_View_way_of : Stmt := inClass (topS 31) 4
theorem sc_View_way_of : FnScope ["self", "b"] ["self", "b"] (defScope s_View_way_of) := ⟨rfl, rfl, rfl, by decide +kernel, rfl, by decide +kernel, by decide +kernel⟩
abbrev N_view_text : List Str := ["view", "ways", "b", "way"]
abbrev s_view_text : Stmt := topS 38
theorem sc_view_text : FnScope ["view", "ways", "b", "way"] ["view"] (defScope s_view_text) := ⟨rfl, rfl, rfl, by decide +kernel, rfl, by decide +kernel, by decide +kernel⟩
/-! ### a view's text -/
def letN : Nat → Nat
  | 0 => 111
  | 1 => 115
  | 2 => 46
  | 3 => 97
  | _ => 110
def lets : List Str := ["o", "s", ".", "a", "n"]
def vtL (c : Nat) (ds : List Nat) : List Nat := (48 + c) :: 58 :: 32 :: ds.map letN
def othF (n c : Nat) : List Nat := (List.range n).filter fun b => decide (b ≠ c)
def wayD (n c : Nat) (own row : List Nat) : List Nat := (othF n c).map fun b => wayK (decide (b ∈ own)) (row.getD b 0)
theorem lets_at {d : Nat} (h : d < 5) : lets[d]? = some (SX.S [letN d]) := by
  match d, h with
  | 0, _ => decide +kernel
  | 1, _ => decide +kernel
  | 2, _ => decide +kernel
  | 3, _ => decide +kernel
  | 4, _ => decide +kernel
theorem num_one {d : Nat} (h : d < 10) : (Str.ofString (toString ((d : Nat) : Int))) = SX.S [48 + d] := by rw [SX.num_S, TL.numL_lt h]
theorem small_log {d : Nat} (h : d < 10) : (((d : Nat) : Int)).natAbs.log2 < 1920 := by
  rw [Int.natAbs_natCast]
  have : ∀ d : Fin 10, d.val.log2 < 1920 := by decide
  exact this ⟨d, h⟩
theorem othF_len (n c : Nat) : (othF n c).length ≤ n := by
  have := List.length_filter_le (fun b => decide (b ≠ c)) (List.range n)
  rw [List.length_range] at this
  exact this
theorem oth_full {n c : Nat} {ws : List Nat} (hl : ws.length + 1 = n) (hc : c < n) : (othF n c).map (fun b => (fullW c ws).getD b 0) = ws := by
  have e : othF n c = List.range c ++ (List.range (n - c - 1)).map fun k => k + (c + 1) := by
    unfold othF
    have r : List.range n = List.range c ++ c :: (List.range (n - c - 1)).map fun k => k + (c + 1) := by
      refine List.ext_getElem? fun i => ?_
      rw [List.getElem?_append]
      split
      · rename_i h
        rw [List.length_range] at h
        rw [List.getElem?_range (by omega), List.getElem?_range h]
      · rename_i h
        rw [List.length_range] at h ⊢
        by_cases hi : i = c
        · subst hi
          rw [Nat.sub_self, List.getElem?_range (by omega)]
          rfl
        · obtain ⟨k, rfl⟩ : ∃ k, i = c + 1 + k := ⟨i - (c + 1), by omega⟩
          rw [show c + 1 + k - c = k + 1 by omega, List.getElem?_cons_succ, List.getElem?_map]
          by_cases hk : k < n - c - 1
          · rw [List.getElem?_range (by omega), List.getElem?_range hk]
            show some (c + 1 + k) = some (k + (c + 1))
            rw [Nat.add_comm]
          · rw [List.getElem?_eq_none (by rw [List.length_range]; omega), List.getElem?_eq_none (by rw [List.length_range]; omega)]
            rfl
    rw [r, List.filter_append, List.filter_cons, decide_eq_false (by omega), List.filter_eq_self.mpr (fun b hb => decide_eq_true (by have := List.mem_range.mp hb; omega)), List.filter_eq_self.mpr (fun b hb => ?_)]
    · rfl
    · obtain ⟨k, _, rfl⟩ := List.mem_map.mp hb
      exact decide_eq_true (by omega)
  rw [e, List.map_append, List.map_map]
  have h1 : (List.range c).map (fun b => (fullW c ws).getD b 0) = ws.take c := by
    refine List.ext_getElem? fun i => ?_
    rw [List.getElem?_map]
    by_cases hi : i < c
    · rw [List.getElem?_range hi, List.getElem?_take_of_lt hi]
      show some ((fullW c ws).getD i 0) = _
      unfold fullW
      rw [List.getD_eq_getElem?_getD, List.getElem?_append_left (by rw [List.length_take]; omega), List.getElem?_take_of_lt hi, List.getElem?_eq_getElem (by omega)]
      rfl
    · rw [List.getElem?_eq_none (by rw [List.length_range]; omega), List.getElem?_eq_none (by rw [List.length_take]; omega)]
      rfl
  have h2 : (List.range (n - c - 1)).map ((fun b => (fullW c ws).getD b 0) ∘ fun k => k + (c + 1)) = ws.drop c := by
    refine List.ext_getElem? fun i => ?_
    rw [List.getElem?_map, List.getElem?_drop]
    by_cases hi : i < n - c - 1
    · rw [List.getElem?_range hi]
      show some ((fullW c ws).getD (i + (c + 1)) 0) = _
      unfold fullW
      rw [List.getD_eq_getElem?_getD, List.getElem?_append_right (by rw [List.length_take]; omega), List.length_take, Nat.min_eq_left (by omega), show i + (c + 1) - c = i + 1 by omega, List.getElem?_cons_succ, List.getElem?_drop, List.getElem?_eq_getElem (by omega)]
      rfl
    · rw [List.getElem?_eq_none (by rw [List.length_range]; omega), List.getElem?_eq_none (by omega)]
      rfl
  rw [h1, h2, List.take_append_drop]
theorem wayK_dk {d : Nat} (h : d < 5) : wayK (decide (d < 2)) (dk d) = d := by
  match d, h with
  | 0, _ => rfl
  | 1, _ => rfl
  | 2, _ => rfl
  | 3, _ => rfl
  | 4, _ => rfl
theorem way_full {n c : Nat} {ws : List Nat} (hl : ws.length + 1 = n) (hc : c < n) (h5 : ∀ d ∈ ws, d < 5) : wayD n c (ownD (fullW c ws)) (rowD (fullW c ws)) = ws := by
  refine Eq.trans ?_ (oth_full hl hc)
  refine List.map_congr_left fun b hb => ?_
  have fl := full_len hl hc
  have bl : b < (fullW c ws).length := by rw [fl]; exact List.mem_range.mp (List.mem_filter.mp hb).1
  rw [rowD_at bl, show decide (b ∈ ownD (fullW c ws)) = decide ((fullW c ws).getD b 0 < 2) from decide_eq_decide.mpr (ownD_mem.trans ⟨fun h => h.2, fun h => ⟨bl, h⟩⟩)]
  refine wayK_dk ?_
  rw [List.getD_eq_getElem?_getD, List.getElem?_eq_getElem bl]
  have m := List.getElem_mem bl
  show (fullW c ws)[b] < 5
  generalize (fullW c ws)[b] = x at m
  unfold fullW at m
  rcases List.mem_append.mp m with m | m
  · exact h5 _ (List.mem_of_mem_take m)
  · rcases List.mem_cons.mp m with m | m
    · rw [m]; decide
    · exact h5 _ (List.mem_of_mem_drop m)
def rIdxK (K : PySem.W.Frag) : V → List V → Hp → VK → Prop := fun x xs H Q => ∃ (p : Addr) (ys : List Str) (z : Str) (j : Nat), x = .ref p ∧ xs = [.str z] ∧ SqT K H p (ys.map V.str) ∧ ys[j]? = some z ∧ (∀ m : Nat, m < j → ys[m]? ≠ some z) ∧ Q (.int (j : Nat)) H
theorem join_one (ds : List Nat) : Txt.join (SX.S []) (ds.map fun d => SX.S [letN d]) = SX.S (ds.map letN) := by
  have z := SX.join_S [] (ds.map fun d => [letN d])
  rw [List.map_map] at z
  rw [show (ds.map fun d => SX.S [letN d]) = ds.map (SX.S ∘ fun d => [letN d]) from rfl, z]
  congr 1
  have j : ∀ ps : List (List Nat), TL.joinL [] ps = ps.flatten := fun ps => by
    induction ps with
    | nil => rfl
    | cons p ps ih =>
      cases ps with
      | nil => rw [List.flatten_cons, List.flatten_nil, List.append_nil]; rfl
      | cons q ps => 
        show p ++ ([] ++ TL.joinL [] (q :: ps)) = _
        rw [ih, List.nil_append, List.flatten_cons (l := p)]
  rw [j]
  induction ds with
  | nil => rfl
  | cons d ds ih => 
    have ih := ih (by
      have z := SX.join_S [] (ds.map fun d => [letN d])
      rw [List.map_map] at z
      exact z)
    rw [List.map_cons, List.flatten_cons, ih]
    rfl
theorem sum_one (ds : List Nat) : ((ds.map fun d => SX.S [letN d]).map (·.length)).sum = ds.length := by
  induction ds with
  | nil => rfl
  | cons d ds ih => 
    rw [List.map_cons, List.map_cons, List.sum_cons, ih, List.length_cons]
    show 1 + ds.length = _
    omega
/-- what the top says of letters -/
structure T6s (K : PySem.W.Frag) (mg : Str → Option Value) (aLT : Addr) : Prop where
  gLT : mg "_LETTERS" = some (.ref aLT)
  sLT : ∀ H, SqT K H aLT (lets.map V.str)
  yLT : ∀ H, tyV K "tuple" (.ref aLT) H
section
variable {P : Program} {w : World} {K : PySem.W.Frag} {mg : Str → Option Value} {base : Heap} {a : AdL} {VC fQ aST aRI aDG aOW aLT : Addr}
variable {fk : Addr} (Gck : FnR P w K mg base (L2.CX P w) 4 fk (spCheck a)) (gck : mg "check_cells" = some (.ref fk)) (kck : PySem.W.keepIn K (.ref fk) = true)
def spWay (a : AdL) (VC : Addr) : Sp := fun vs H Q _ => ∃ (p l : Addr) (n : Nat) (es : List (Nat × Nat)) (rd : List Nat) (c : Nat) (own row : List Nat) (b : Nat), vs = [.ref p, .int (b : Nat)] ∧ VwO a.C VC H p l n es rd c own row ∧ b < n ∧ b ≠ c ∧ ∀ H', Same H H' → Q (.str (wayS (decide (b ∈ own)) (row.getD b 0))) H'
include Gck gck kck in
theorem ok_way (TV : Tv K mg VC fQ) {f : Addr} {fd : FuncData} (F : Fun K "way_of" "View.way_of" s_View_way_of f fd) : FnOk P w K mg base (L2.CX P w) 5 f fd ["self", "b"] (spWay a VC) := by
  refine F.okX sc_View_way_of (fun vs H Q E h => ?_) (fun cdv A outer s H vs Q E hr h => ?_)
  · obtain ⟨p, l, n, es, rd, c, own, row, b, rfl, _⟩ := h
    rfl
  · obtain ⟨p, l, n, es, rd, c, own, row, b, rfl, W, hb, hbc, q⟩ := h
    refine ⟨_, (pss_cons (ps_expr (K7E.pe_callR0 Gck (hr.mono (by decide)) (by rfl) gck kck (passes_call (E := E) (takes_of rfl rfl rfl rfl) (fun _ _ _ _ h => h)) (pa_cons (pe_fld (pv 0) rfl) (pa_cons (pv 1) pa_nil))))
 (pss_cons (ps_if (pt_cmpR op_eq (pv 1) (pe_fld (pv 0) rfl) (nomark _))
  (pss_one ps_never)
  pss_nil)
 (pss_one (ps_ret (pe_ifExp (pw_and (pt_cmpR op_eq (pe_ix ix_tup (pe_fld (pv 0) rfl) (pv 1) (fun _ _ => rfl)) pe_str (nomark _)) (pw_and1 (pt_cmpR op_in_seq (pv 1) (pe_fld (pv 0) rfl) (by with_unfolding_all rfl)))).pt pe_str (pe_ix ix_tup (pe_fld (pv 0) rfl) (pv 1) (fun _ _ => rfl))))))), ?_⟩
    obtain ⟨dx, to, ts, t1, t2, t3, t4, h1, h2, h3, _⟩ := W.at_
    refine ⟨_, rfl, p, VC, dx, _, _, rfl, h1, TV.cl, TV.nV _ (by decide), rfl, _, rfl, l, n, [.int (b : Nat)], rfl, W.ld.c, by show 1 < 64; decide, .inl ⟨fun y hy => by rw [List.mem_singleton.mp hy]; exact .flat (.int _), one_in hb, fun H1 e1 => ?_⟩⟩
    refine ⟨_, rfl, _, rfl, p, VC, dx, _, _, rfl, e1 _ _ h1, TV.cl, TV.nV _ (by decide), rfl, rfl, _, rfl, ?_⟩
    rw [dec_int, decide_eq_false hbc]
    refine iteF ?_
    have bl : b < (wds row).length := by rw [wds_len, W.ok.rl]; exact hb
    have wa := wds_at W.ok.rl hb
    refine ⟨_, rfl, p, VC, dx, _, _, rfl, e1 _ _ h1, TV.cl, TV.nV _ (by decide), rfl, _, rfl, ts, _, _, _, rfl, rfl, .inl (.inl (e1 _ _ h3)), atI_nat wa, rfl, _, rfl, ?_⟩
    rw [wd_none]
    refine iteB (fun z => ?_) (fun z => ?_)
    · refine ⟨_, rfl, _, rfl, p, VC, dx, _, _, rfl, e1 _ _ h1, TV.cl, TV.nV _ (by decide), rfl, to, _, rfl, .inr (.inl (.inl (e1 _ _ h2))), rfl, flat_ints own, _, rfl, ?_⟩
      rw [show inV (.int (b : Nat)) (ints_ own) = decide (b ∈ own) from inV_ints b own]
      refine iteB (fun z2 => ?_) (fun z2 => ?_)
      · have z2 : decide (b ∈ own) = true := z2
        have e5 : wayS (decide (b ∈ own)) (row.getD b 0) = "own" := by unfold wayS; rw [z, z2]; rfl
        rw [e5] at q
        exact q _ e1
      · have z2 : decide (b ∈ own) = false := z2
        have e5 : wayS (decide (b ∈ own)) (row.getD b 0) = wd (row.getD b 0) := by unfold wayS; rw [z2, Bool.and_false]; rfl
        rw [e5] at q
        exact ⟨_, rfl, p, VC, dx, _, _, rfl, e1 _ _ h1, TV.cl, TV.nV _ (by decide), rfl, _, rfl, ts, _, _, _, rfl, rfl, .inl (.inl (e1 _ _ h3)), atI_nat wa, q _ e1⟩
    · have e5 : wayS (decide (b ∈ own)) (row.getD b 0) = wd (row.getD b 0) := by unfold wayS; rw [z]; rfl
      rw [e5] at q
      exact ⟨_, rfl, p, VC, dx, _, _, rfl, e1 _ _ h1, TV.cl, TV.nV _ (by decide), rfl, _, rfl, ts, _, _, _, rfl, rfl, .inl (.inl (e1 _ _ h3)), atI_nat wa, q _ e1⟩
def spVt (a : AdL) (VC : Addr) : Sp := fun vs H Q _ => ∃ (p l : Addr) (n : Nat) (es : List (Nat × Nat)) (rd : List Nat) (c : Nat) (own row : List Nat), vs = [.ref p] ∧ VwO a.C VC H p l n es rd c own row ∧ ∀ H', Same H H' → Q (.str (SX.S (vtL c (wayD n c own row)))) H'
theorem ok_vt (T : Tl K mg a) (TV : Tv K mg VC fQ) (T5 : T5s K mg aST aRI aDG aOW) (T6 : T6s K mg aLT) {f fo fw : Addr} {fd fdo fdw : FuncData} (F : Fun K "view_text" "view_text" s_view_text f fd)
    (mo : Meth K a.C "others" fo) (Go : FnOk P w K mg base (L2.CX P w) 5 fo fdo ["self", "cell"] (spOthers a)) (bo : Binds K fdo ["self", "cell"] [])
    (mw : Meth K VC "way_of" fw) (Gw : FnOk P w K mg base (L2.CX P w) 5 fw fdw ["self", "b"] (spWay a VC)) (bw : Binds K fdw ["self", "b"] []) : FnOk P w K mg base CX0 7 f fd ["view"] (spVt a VC) := by
  refine F.ok sc_view_text (fun vs H Q E h => ?_) (fun cdv A outer s H vs Q E hr h => ?_)
  · obtain ⟨p, l, n, es, rd, c, own, row, rfl, _⟩ := h
    rfl
  · obtain ⟨p, l, n, es, rd, c, own, row, rfl, W, q⟩ := h
    refine ⟨_, (pss_cons (ps_setLc (i := 1) (own := [("b", 2)]) (g := gName 2) (tt := tYes) rfl sc_view_text.nd rfl rfl (sw_true rfl rfl rfl (by decide +kernel)) (pi_tup (pe_meth (pe_fld (pv 0) rfl) T.cl mo Go (hr.mono (by decide)) bo .nil passL (pa_cons (pe_fld (pv 0) rfl) pa_nil))) (blkOk_by (own := [("b", 2)]) (N := N_view_text) (sc := defScope s_view_text) (by decide +kernel)) (fun _ _ _ _ _ => (pg_name (i := 2) sc_view_text.nd rfl (by first | exact Or.inl rfl | exact Or.inr rfl))) (fun _ _ _ _ _ => pts_nil) (fun _ _ _ _ _ => (pe_meth (pv 0) TV.cl mw Gw (hr.mono (by decide)) bw .nil passL (pa_cons (pv 2) pa_nil))))
 (pss_one (ps_ret (pe_op op_add_str (pe_joined (.cons (pe_fmt (pe_fld (pv 0) rfl)) (.cons pe_str .nil))) (pe_bm PySem.F.plainAttrs_str PySem.F.slot_str_join PySem.F.type_str_join mt_join pe_str (pa_cons (pe_lc (own := [("way", 3)]) (g := gName 3) (tt := tYes) rfl sc_view_text.nd (pi_list (pv 1)) (blkOk_by (own := [("way", 3)]) (N := N_view_text) (sc := defScope s_view_text) (by decide +kernel)) (fun _ _ _ _ _ => (pg_name (i := 3) sc_view_text.nd rfl (by first | exact Or.inl rfl | exact Or.inr rfl))) (fun _ _ _ _ _ => pts_nil) (fun _ _ _ _ _ => (pe_ix (show IxR _ (rIxT K) from ix_tup) (pe_glob (v := .ref _) (by rfl) T6.gLT rfl) (show PE _ _ (tBM K "tuple" (rIdxK K) (tC (.ref aDG)) (tCons (tVar 3) tNil)) from pe_bm PySem.F.plainAttrs_tuple PySem.F.slot_tuple_index PySem.F.type_tuple_index (show MtR _ _ (rIdxK K) from mt_tup_index) (pe_glob (v := .ref _) (by rfl) T5.gDG rfl) (pa_cons (pv 3) pa_nil)) (fun _ _ => rfl)))) pa_nil)))))), ?_⟩
    obtain ⟨dx, to, ts, t1, t2, t3, t4, h1, h2, h3, _⟩ := W.at_
    have n5 := W.ld.n5
    have cn := W.ok.cn
    refine ⟨_, rfl, p, VC, dx, _, _, rfl, h1, TV.cl, TV.nV _ (by decide), rfl, ?_⟩
    obtain ⟨dl, an, ar, ay, ac, tn, ty, tc, m1, _⟩ := W.ld.at_
    refine ⟨l, dl, _, rfl, m1, rfl, _, rfl, p, VC, dx, _, _, rfl, h1, TV.cl, TV.nV _ (by decide), rfl, l, n, es, rd, .int (c : Nat), rfl, W.ld, .inl ⟨c, rfl, cn, fun H1 u e1 hu => ?_⟩⟩
    have ol := othF_len n c
    have hu : H1 u = some (.tup (ints_ (othF n c))) := hu
    refine ⟨u, rfl, ⟨_, .inl (.inl hu)⟩, fun D hD => lc_tup (xs := ints_ (othF n c)) (fun j H2 => Same H1 H2 ∧ H2 D = some (.lst ((((othF n c).take j).map fun b => wayS (decide (b ∈ own)) (row.getD b 0)).map V.str))) ⟨al hD, upd_same⟩ (fun j H2 _ pv => .inl (.inl (pv.1 _ _ hu))) (fun j x H2 hx pv => ?_) (fun H2 pv => ?_)⟩
    · obtain ⟨e2, hD2⟩ := pv
      have hj := (List.getElem?_eq_some_iff.mp hx).1
      rw [ints_len] at hj
      unfold ints_ at hx
      rw [List.getElem?_map] at hx
      obtain ⟨b, hb, rfl⟩ := Option.map_eq_some_iff.mp hx
      obtain ⟨m1', m2'⟩ := List.mem_filter.mp (List.mem_of_getElem? hb)
      have tk : ((othF n c).take (j + 1)).map (fun b => wayS (decide (b ∈ own)) (row.getD b 0)) = ((othF n c).take j).map (fun b => wayS (decide (b ∈ own)) (row.getD b 0)) ++ [wayS (decide (b ∈ own)) (row.getD b 0)] := by
        rw [List.take_add_one, hb, List.map_append]
        rfl
      refine ⟨rfl, _, rfl, p, dx, _, rfl, e2 _ _ (e1 _ _ h1), rfl, _, rfl, p, l, n, es, rd, c, own, row, b, rfl, W.same (e1.trans e2), List.mem_range.mp m1', of_decide_eq_true m2', fun H4 e4 => ⟨_, e4 _ _ hD2, ?_, fun b' o hb' => ?_, ?_⟩⟩
      · rw [List.length_map, List.length_map, List.length_take]
        exact small1000 (by omega)
      · rw [upd_ne (ne_of_none hb' hD)]
        exact e4 _ _ (e2 _ _ hb')
      · rw [upd_same, tk, List.map_append]
        rfl
    · obtain ⟨e2, hD2⟩ := pv
      rw [ints_len, List.take_length] at hD2
      have e12 := e1.trans e2
      have ec : Str.empty ++ Str.ofString (toString ((c : Nat) : Int)) = SX.S [48 + c] := by
        rw [num_one (by omega), show Str.empty = SX.S [] from by decide +kernel, SX.S_cat]
        rfl
      have ec2 : SX.S [48 + c] ++ (": " : Str) = SX.S [48 + c, 58, 32] := by
        rw [show (": " : Str) = SX.S [58, 32] from by decide +kernel, SX.S_cat]
        rfl
      refine ⟨_, rfl, p, VC, dx, _, _, rfl, e12 _ _ h1, TV.cl, TV.nV _ (by decide), rfl, .inr ⟨((c : Nat) : Int), rfl, small_log (by omega), _, rfl, ?_, ?_⟩⟩
      · rw [ec, SX.S_len, sizeLine_eq]
        show 1 ≤ _
        decide
      rw [ec]
      refine ⟨_, rfl, ?_, ?_⟩
      · rw [ec2, SX.S_len, sizeLine_eq]
        show 3 ≤ _
        decide
      rw [ec2]
      have wl : (wayD n c own row).length = (othF n c).length := List.length_map ..
      have wi : ∀ {j b : Nat}, (othF n c)[j]? = some b → (wayD n c own row)[j]? = some (wayK (decide (b ∈ own)) (row.getD b 0)) := fun {j b} h => by
        unfold wayD
        rw [List.getElem?_map, h]
        rfl
      refine ⟨rfl, _, rfl, D, rfl, ⟨_, .inl (.inl hD2)⟩, fun D2 nD2 => lc_list (xs := ((othF n c).map fun b => wayS (decide (b ∈ own)) (row.getD b 0)).map V.str) (fun j H3 => Same H2 H3 ∧ H3 D2 = some (.lst ((((wayD n c own row).take j).map fun d => SX.S [letN d]).map V.str))) ⟨al nD2, upd_same⟩ (fun j H3 _ pv => .inl (.inl (pv.1 _ _ hD2))) (fun j x H3 hx pv => ?_) (fun H3 pv => ?_)⟩
      · obtain ⟨e3, hD3⟩ := pv
        have hj := (List.getElem?_eq_some_iff.mp hx).1
        rw [List.length_map, List.length_map] at hj
        rw [List.getElem?_map, List.getElem?_map] at hx
        obtain ⟨z, hz, rfl⟩ := Option.map_eq_some_iff.mp hx
        obtain ⟨b, hb, rfl⟩ := Option.map_eq_some_iff.mp hz
        obtain ⟨w1, w2⟩ := way_at (decide (b ∈ own)) (row.getD b 0)
        have w5 := wayK_lt (decide (b ∈ own)) (row.getD b 0)
        have wj := wi hb
        have la : (lets.map V.str)[wayK (decide (b ∈ own)) (row.getD b 0)]? = some (.str (SX.S [letN (wayK (decide (b ∈ own)) (row.getD b 0))])) := by
          rw [List.getElem?_map, lets_at w5]
          rfl
        refine ⟨rfl, T5.yDG _, _, rfl, aDG, digs, _, _, rfl, rfl, T5.sDG _, w1, w2, aLT, _, _, _, rfl, rfl, T6.sLT _, atI_nat la, ?_⟩
        refine ⟨_, hD3, ?_, fun b' o hb' => ?_, ?_⟩
        · rw [List.length_map, List.length_map, List.length_take]
          exact small1000 (by omega)
        · rw [upd_ne (ne_of_none hb' nD2)]
          exact e3 _ _ hb'
        · rw [upd_same, List.take_add_one, wj, List.map_append, List.map_append]
          rfl
      · obtain ⟨e3, hD3⟩ := pv
        rw [List.length_map, List.length_map, ← wl, List.take_length] at hD3
        refine ⟨SX.S [], D2, _, congrArg V.str (show ("" : Str) = SX.S [] by decide +kernel), rfl, .inl (.inl (.inl hD3)), ?_, ?_⟩
        · rw [sum_one, SX.S_len]
          show _ + _ * 0 ≤ _
          omega
        · rw [join_one]
          refine ⟨_, _, rfl, rfl, ?_, ?_⟩
          · rw [SX.S_len, SX.S_len, List.length_map, sizeLine_eq]
            show 3 + _ ≤ _
            omega
          · rw [SX.S_cat]
            exact q _ (e12.trans e3)
end
end K7
end
/-! ## P23 -/
section
open PySem PySem.Spec PyProof.Rows L2
namespace K7
abbrev N_BadText___init__ : List Str := ["self", "row", "what"]
abbrev s_BadText___init__ : Stmt := inClass (topS 6) 0
theorem sc_BadText___init__ : FnScope ["self", "row", "what"] ["self", "row", "what"] (defScope s_BadText___init__) := ⟨rfl, rfl, rfl, by decide +kernel, rfl, by decide +kernel, by decide +kernel⟩
abbrev N__read_cell : List Str := ["land", "text", "sign", "cell"]
abbrev s__read_cell : Stmt := topS 39
theorem sc__read_cell : FnScope ["land", "text", "sign", "cell"] ["land", "text"] (defScope s__read_cell) := ⟨rfl, rfl, rfl, by decide +kernel, rfl, by decide +kernel, by decide +kernel⟩
section
variable {X : L2.Cx} {o : Expr} {to : TE}
theorem pe_isascii {apos pos : Pos} (ho : PE X o to) (hbase : attributeBase o "isascii" X.env (eval o X.env) = eval o X.env := by rfl) (hline : (apos.endLine == pos.line) = true := by rfl) :
    PE X (.Call (.Attribute o "isascii" apos) [] [] pos) (tM0 (fun x xs H Q => ∃ a, x = .str a ∧ xs = [] ∧ True ∧ Q (.bl (Txt.isascii a)) H) to) :=
  pe_m0 F.slot_str_isascii F.type_str_isascii mt_isascii ho hbase hline
theorem pe_isdigit {apos pos : Pos} (ho : PE X o to) (hbase : attributeBase o "isdigit" X.env (eval o X.env) = eval o X.env := by rfl) (hline : (apos.endLine == pos.line) = true := by rfl) :
    PE X (.Call (.Attribute o "isdigit" apos) [] [] pos) (tM0 (fun x xs H Q => ∃ a, x = .str a ∧ xs = [] ∧ True ∧ Q (.bl (Txt.isdigit a)) H) to) :=
  pe_m0 F.slot_str_isdigit F.type_str_isdigit mt_isdigit ho hbase hline
end
/-! ### BadText -/
structure Bx (K : PySem.W.Frag) (mg : Str → Option Value) (B iB : Addr) : Prop where
  g : mg "BadText" = some (.ref B)
  ox : OexC K B
  iC : PySem.W.findIn K (.ref B) "__init__" = some (some (.ref iB))
  tI : PySem.W.typeIn K (.ref iB) = some (.type "function")
  noR : PySem.W.findIn K (.ref B) "row" = some none
  noW : PySem.W.findIn K (.ref B) "what" = some none
/-- a BadText of this row and word is let fly -/
def FliesT (H : Hp) (B : Addr) (r w : V) (E : XK) : Prop := ∀ H' d, Same H H' → H d = none → H' d = some (.xd [("what", w), ("row", r)]) → E (.ref B) (some d) H'
theorem FliesT.later {H H1 : Hp} {B : Addr} {r w : V} {E : XK} (h : FliesT H B r w E) (e : Same H H1) : FliesT H1 B r w E := fun H' d e' n q => h H' d (e.trans e') (e.free n) q
def spX2 (C : Addr) : Sp := fun vs H Q _ => ∃ (e : Addr) (r y : V), vs = [.ref e, r, y] ∧ H e = some (exo e C none) ∧ ∀ d, H d = none → d ≠ e → Q .non (upd (upd (upd H d (exd d [("row", r)])) e (exo e C (some d))) d (exd d [("what", y), ("row", r)]))
section
variable {P : Program} {w : World} {K : PySem.W.Frag} {mg : Str → Option Value} {base : Heap} {a : AdL} {BT iT : Addr}
theorem ok_iT (T : Bx K mg BT iT) {f : Addr} {fd : FuncData} (F : Fun K "__init__" "BadText.__init__" s_BadText___init__ f fd) : FnOk P w K mg base (L2.CX P w) 1 f fd ["self", "row", "what"] (spX2 BT) := by
  refine F.okX sc_BadText___init__ (fun vs H Q E h => ?_) (fun cdv A outer s H vs Q E hr h => ?_)
  · obtain ⟨e, r, y, rfl, _⟩ := h
    rfl
  · obtain ⟨e, r, y, rfl, he, q⟩ := h
    refine ⟨_, (pss_cons (ps_ost (pv 0) (pv 1)) (pss_one (ps_ost (pv 0) (pv 2)))), ?_⟩
    refine ⟨r, rfl, .ref e, rfl, e, BT, rfl, T.ox, T.noR, .inl ⟨he, fun d hd hn => ?_⟩⟩
    refine ⟨y, rfl, .ref e, rfl, e, BT, rfl, T.ox, T.noW, .inr ⟨d, _, upd_same, by rw [upd_ne hn, upd_same], by show 1 ≤ 900; decide, ?_⟩⟩
    exact q d hd hn
theorem fliesT_go {H : Hp} {C : Addr} {r y : V} {E : XK} (h : FliesT H C r y E) :
    ∀ e, H e = none → spX2 C (.ref e :: ([r, y] ++ [])) (upd H e (exo e C none)) (fun v H2 => v = .non ∧ ∃ (d : Addr) (fs : List (Str × V)), H2 e = some (exo e C (some d)) ∧ H2 d = some (exd d fs) ∧ H d = none ∧ E (.ref C) (some d) (upd (del H2 e) d (.xd fs))) (fun _ _ _ => False) := by
  intro e he
  refine ⟨e, r, y, rfl, upd_same, fun d hd hne => ⟨rfl, d, _, by rw [upd_ne hne.symm, upd_same], upd_same, ?_, ?_⟩⟩
  · rw [upd_ne hne] at hd
    exact hd
  · rw [upd_ne hne] at hd
    refine h _ d (fun b o hb => ?_) hd upd_same
    have h1 : b ≠ d := ne_of_none hb hd
    have h2 : b ≠ e := ne_of_none hb he
    rw [upd_ne h1, del_ne h2, upd_ne h1, upd_ne h2, upd_ne h1, upd_ne h2]
    exact hb
/-! ### digits -/
theorem int_one {d : Nat} (h : d < 10) : PySem.intText? (SX.S [48 + d]) = some ((d : Nat) : Int) := by
  have e : SX.S [48 + d] = Str.ofString (toString ((d : Nat) : Int)) := by rw [SX.num_S, TL.numL_lt h]
  rw [e]
  exact TL.int_num (by rw [TL.numL_lt h]; show 1 ≤ 4300; decide)
/-- what is no text -/
def NoTxt (K : PySem.W.Frag) (H : Hp) (v : V) : Prop := ∃ t : String, (∀ H1, Same H H1 → TyX K H1 v (.type t)) ∧ PySem.W.kitOne K (.type t) (.type "str") = some false
end
/-! ### a view's text is read -/
theorem slice13 (a : List Nat) : Txt.slice (SX.S a) (some 1) (some 3) = SX.S ((a.drop 1).take 2) := by
  match a with
  | [] => decide +kernel
  | [x] => rfl
  | [x, y] =>
    have ix : Builtin.Str.strSliceIndices (some 1) (some 3) 1 (SX.S [x, y]).length = [1] := by
      rw [SX.S_len]
      show Builtin.Str.strSliceIndices (some 1) (some 3) 1 2 = [1]
      decide +kernel
    unfold Txt.slice
    rw [ix, SX.S_len]
    rfl
  | x :: y :: z :: r =>
    have ix : Builtin.Str.strSliceIndices (some 1) (some 3) 1 (SX.S (x :: y :: z :: r)).length = [1, 2] := by
      rw [SX.S_len]
      show sliceRange (max 0 (min 1 (((x :: y :: z :: r).length : Nat) : Int))) (max 0 (min 3 (((x :: y :: z :: r).length : Nat) : Int))) 1 = [1, 2]
      have h : (((x :: y :: z :: r).length : Nat) : Int) = (r.length : Int) + 3 := by
        show ((r.length + 1 + 1 + 1 : Nat) : Int) = _
        omega
      rw [h, show max 0 (min 1 ((r.length : Int) + 3)) = 1 by omega, show max 0 (min 3 ((r.length : Int) + 3)) = 3 by omega]
      rfl
    unfold Txt.slice
    rw [ix, SX.S_len]
    have : (([1, 2] : List Nat).length == (x :: y :: z :: r).length) = false := by simp
    rw [this]
    rfl
def letD (x : Nat) : Nat := if x = 111 then 0 else if x = 115 then 1 else if x = 46 then 2 else if x = 97 then 3 else 4
def isLet (x : Nat) : Bool := decide (x ∈ [111, 115, 46, 97, 110])
def cellP (n : Nat) : List Nat → Option Nat
  | [] => none
  | x :: r => if (48 ≤ x ∧ x ≤ 57) ∧ x - 48 < n ∧ r.take 2 = [58, 32] then some (x - 48) else none
def wayP (n : Nat) (l : List Nat) : Option (List Nat) := if (l.drop 3).length + 1 = n ∧ (l.drop 3).all isLet = true then some ((l.drop 3).map letD) else none
theorem let_in (x : Nat) : inV (.str (SX.S [x])) (lets.map V.str) = isLet x := by
  have e : (lets.map V.str) = [V.str (SX.S [111]), V.str (SX.S [115]), V.str (SX.S [46]), V.str (SX.S [97]), V.str (SX.S [110])] := by decide +kernel
  rw [e]
  have q : ∀ y : Nat, eqV (.str (SX.S [y])) (.str (SX.S [x])) = decide (x = y) := fun y => by
    show decide _ = _
    refine decide_eq_decide.mpr ⟨fun h => ?_, fun h => by rw [h]⟩
    have z : [y] = [x] := congrArg TL.tl h
    injection z with z
    exact z.symm
  show (eqV _ _ || (eqV _ _ || (eqV _ _ || (eqV _ _ || (eqV _ _ || false))))) = _
  rw [q, q, q, q, q]
  unfold isLet
  simp only [List.mem_cons, List.not_mem_nil, or_false, Bool.decide_or, Bool.or_false]
theorem let_ix {x : Nat} (h : isLet x = true) : letD x < 5 ∧ lets[letD x]? = some (SX.S [x]) ∧ ∀ m, m < letD x → lets[m]? ≠ some (SX.S [x]) := by
  have h := of_decide_eq_true h
  simp only [List.mem_cons, List.not_mem_nil, or_false] at h
  have f : ∀ y : Fin 5, letD (letN y.val) = y.val ∧ lets[y.val]? = some (SX.S [letN y.val]) ∧ ∀ m : Fin 5, m.val < y.val → lets[m.val]? ≠ some (SX.S [letN y.val]) := by decide +kernel
  have g : ∃ y : Fin 5, x = letN y.val := by
    rcases h with rfl | rfl | rfl | rfl | rfl
    · exact ⟨0, rfl⟩
    · exact ⟨1, rfl⟩
    · exact ⟨2, rfl⟩
    · exact ⟨3, rfl⟩
    · exact ⟨4, rfl⟩
  obtain ⟨y, rfl⟩ := g
  obtain ⟨f1, f2, f3⟩ := f y
  rw [f1]
  exact ⟨y.isLt, f2, fun m hm => f3 ⟨m, Nat.lt_trans hm y.isLt⟩ hm⟩
section
variable {P : Program} {w : World} {K : PySem.W.Frag} {mg : Str → Option Value} {base : Heap} {a : AdL} {VC BT iT fQ aST aRI aDG aOW aLT : Addr}
def spRcl (a : AdL) (BT : Addr) : Sp := fun vs H Q E => ∃ (l : Addr) (n : Nat) (es : List (Nat × Nat)) (rd : List Nat) (ts : List Nat), vs = [.ref l, .str (SX.S ts)] ∧ LandO a.C H l n es rd ∧ ts.length ≤ 1000 ∧
  (cellP n ts = none → FliesT H BT (.int 0) (.str "cell") E) ∧ (∀ c, cellP n ts = some c → ∀ H', Same H H' → Q (.int (c : Nat)) H')
theorem ok_rcl (TX : Bx K mg BT iT) {f fic : Addr} {fd fdic fdB : FuncData} (F : Fun K "_read_cell" "_read_cell" s__read_cell f fd)
    (Gic : FnOk P w K mg base CX0 2 fic fdic ["land", "thing"] (spIsCell a.C)) (gic : mg "is_cell" = some (.ref fic)) (kic : PySem.W.keepIn K (.ref fic) = true) (bic : Binds K fdic ["land", "thing"] [])
    (FB0 : Fun K "__init__" "BadText.__init__" s_BadText___init__ iT fdB) (bB : Binds K fdB ["self", "row", "what"] []) (m_int : mg "int" = none) : FnOk P w K mg base (L2.CX P w) 3 f fd ["land", "text"] (spRcl a BT) := by
  have FB : FnOk P w K mg base (L2.CX P w) 1 iT fdB ["self", "row", "what"] (spX2 BT) := ok_iT TX FB0
  refine F.okX sc__read_cell (fun vs H Q E h => ?_) (fun cdv A outer s H vs Q E hr h => ?_)
  · obtain ⟨l, n, es, rd, ts, rfl, _⟩ := h
    rfl
  · obtain ⟨l, n, es, rd, ts, rfl, L, tl, fl, q⟩ := h
    have hrx : Room (1 + 1) _ := hr.mono (by decide)
    refine ⟨_, (pss_cons (ps_set (i := 2) sc__read_cell.nd rfl (by first | exact Or.inl rfl | exact Or.inr rfl) (pe_slice C8.sl_txt (pv 1) po_none (po_some pe_int)))
 (pss_cons (ps_set (i := 3) sc__read_cell.nd rfl (by first | exact Or.inl rfl | exact Or.inr rfl) (pe_ifExp (pw_and (pt_val (pe_isascii (pv 2))) (pw_and1 (pt_val (pe_isdigit (pv 2))))).pt (pe_callTy call_int_str (by rfl) m_int boot_int (pa_cons (pv 2) pa_nil)) pe_non))
 (pss_cons (ps_if (pw_or (pt_not (pt_val (pe_call Gic (hr.mono (by decide)) (by rfl) gic kic bic .nil pass0 (pa_cons (pv 0) (pa_cons (pv 3) pa_nil))))) (pw_or1 (pt_cmpR op_ne (pe_slice C8.sl_txt (pv 1) (po_some pe_int) (po_some pe_int)) pe_str (nomark _)))).pt
  (pss_one (ps_raise rfl (takes_of rfl rfl rfl rfl) (pmk_oex TX.ox TX.iC TX.tI FB hrx bB .nil passL (by rfl) TX.g (pa_cons pe_int (pa_cons pe_str pa_nil)))))
  pss_nil)
 (pss_one (ps_ret (pv 3)))))), ?_⟩
    have s1 : Txt.slice (SX.S ts) none (some 1) = SX.S (ts.take 1) := SX.slice_to (by decide)
    have zl : ∀ k : List Nat, k.length ≤ 1000 → (SX.S k).length ≤ sizeLine := fun k h => by rw [SX.S_len, sizeLine_eq]; omega
    refine ⟨_, rfl, _, rfl, _, rfl, zl ts tl, ?_⟩
    rw [s1]
    have two : ("" : Str) = SX.S [] ∧ (": " : Str) = SX.S [58, 32] := by decide +kernel
    have up : ∀ (H2 : Hp), Same H H2 → cellP n ts = none → FliesT H2 BT (.int 0) (.str "cell") E := fun H2 e2 h => (fl h).later e2
    clear fl
    match ts, tl, up, q with
    | [], tl, up, q =>
      refine ⟨_, rfl, ⟨_, rfl⟩, _, rfl, rfl, trivial, _, rfl, iteTo (by decide +kernel) ?_⟩
      refine ⟨_, rfl, ⟨_, rfl⟩, _, rfl, rfl, trivial, _, rfl, iteFo (by decide +kernel) ?_⟩
      refine ⟨_, rfl, _, rfl, l, n, _, rfl, L.c, .flat .non, _, rfl, ?_⟩
      exact iteTo rfl (iteTo rfl ⟨by show 2 ≤ 1000; decide, fliesT_go (up _ (Same.refl H) rfl)⟩)
    | x :: r, tl, up, q =>
      have ca : cellP n (x :: r) = if (48 ≤ x ∧ x ≤ 57) ∧ x - 48 < n ∧ r.take 2 = [58, 32] then some (x - 48) else none := rfl
      have t1 : (x :: r).take 1 = [x] := rfl
      rw [t1]
      have nocell : ¬ (48 ≤ x ∧ x ≤ 57) → cellP n (x :: r) = none := fun h => by rw [ca, if_neg fun z => h z.1]
      refine ⟨_, rfl, ⟨_, rfl⟩, _, rfl, rfl, trivial, _, rfl, ?_⟩
      rw [K7T.ascii_one]
      refine iteB (fun hx => ?_) (fun hx => ?_)
      · have hx := of_decide_eq_true hx
        refine ⟨_, rfl, ⟨_, rfl⟩, _, rfl, rfl, trivial, _, rfl, ?_⟩
        rw [K7T.digit_one hx]
        refine iteB (fun hd => ?_) (fun hd => ?_)
        · obtain ⟨d1, d2⟩ := Bool.and_eq_true_iff.mp hd
          have d1 := of_decide_eq_true d1
          have d2 := of_decide_eq_true d2
          obtain ⟨d, rfl⟩ : ∃ d, x = 48 + d := ⟨x - 48, by omega⟩
          have d10 : d < 10 := by omega
          rw [Nat.add_sub_cancel_left] at ca
          refine ⟨_, rfl, _, _, rfl, int_one d10, by rw [SX.S_len]; show 1 ≤ 640; decide, ?_⟩
          refine ⟨_, rfl, _, rfl, l, n, _, rfl, L.c, .flat (.int _), _, rfl, ?_⟩
          by_cases hn : d < n
          · rw [whole_cell hn]
            refine iteFo rfl ?_
            refine ⟨_, rfl, _, rfl, _, rfl, _, rfl, zl _ tl, ?_⟩
            rw [slice13]
            refine ⟨rfl, _, rfl, ?_⟩
            rw [two.2]
            by_cases hs : r.take 2 = [58, 32]
            · refine iteFo ?_ ?_
              · show (!decide (V.str (SX.S (r.take 2)) = V.str (SX.S [58, 32]))) = false
                rw [hs, decide_eq_true rfl]
                rfl
              · rw [if_pos ⟨⟨d1, d2⟩, hn, hs⟩] at ca
                exact ⟨_, rfl, q d ca _ (Same.refl H)⟩
            · refine iteTo ?_ ⟨by show 2 ≤ 1000; decide, fliesT_go (up _ (Same.refl H) ?_)⟩
              · show (!decide (V.str (SX.S (r.take 2)) = V.str (SX.S [58, 32]))) = true
                rw [decide_eq_false fun z => hs (congrArg TL.tl (V.str.inj z))]
                rfl
              · rw [ca, if_neg fun z => hs z.2.2]
          · have wf : wholeV (.int (d : Nat)) 0 ((n : Nat) - 1) = false := by rw [wholeV_int, decide_eq_false (show ¬ ((d : Nat) : Int) ≤ ((n : Nat) : Int) - 1 by omega), Bool.and_false]
            rw [wf]
            exact iteTo rfl (iteTo rfl ⟨by show 2 ≤ 1000; decide, fliesT_go (up _ (Same.refl H) (by rw [ca, if_neg fun z => hn z.2.1]))⟩)
        · refine ⟨_, rfl, _, rfl, l, n, _, rfl, L.c, .flat .non, _, rfl, ?_⟩
          exact iteTo rfl (iteTo rfl ⟨by show 2 ≤ 1000; decide, fliesT_go (up _ (Same.refl H) (nocell fun z => by rw [decide_eq_true z.1, decide_eq_true z.2] at hd; cases hd))⟩)
      · have hx := of_decide_eq_false hx
        refine ⟨_, rfl, _, rfl, l, n, _, rfl, L.c, .flat .non, _, rfl, ?_⟩
        exact iteTo rfl (iteTo rfl ⟨by show 2 ≤ 1000; decide, fliesT_go (up _ (Same.refl H) (nocell fun z => hx (by omega)))⟩)
end
end K7
end
/-! ## P24 -/
section
open PySem PySem.Spec PyProof.Rows L2
namespace K7
abbrev N_parse_view : List Str := ["land", "text", "cell", "letters", "letter"]
abbrev s_parse_view : Stmt := topS 40
theorem sc_parse_view : FnScope ["land", "text", "cell", "letters", "letter"] ["land", "text"] (defScope s_parse_view) := ⟨rfl, rfl, rfl, by decide +kernel, rfl, by decide +kernel, by decide +kernel⟩
section
variable {P : Program} {w : World} {K : PySem.W.Frag} {mg : Str → Option Value} {base : Heap} {a : AdL} {VC BT iT fQ aST aRI aDG aOW aLT : Addr}
def spPv (K : PySem.W.Frag) (a : AdL) (VC BT : Addr) : Sp := fun vs H Q E => ∃ (l : Addr) (n : Nat) (es : List (Nat × Nat)) (rd : List Nat) (v : V), vs = [.ref l, v] ∧ LandO a.C H l n es rd ∧ ((NoTxt K H v ∧ FliesT H BT (.int 0) (.str "text") E) ∨ ∃ ts : List Nat, v = .str (SX.S ts) ∧ ts.length ≤ 1000 ∧
  (cellP n ts = none → FliesT H BT (.int 0) (.str "cell") E) ∧ (∀ c, cellP n ts = some c → wayP n ts = none → FliesT H BT (.int 0) (.str "ways") E) ∧
  (∀ c ws, cellP n ts = some c → wayP n ts = some ws → ∀ H' p, Same H H' → H p = none → VwO a.C VC H' p l n es rd c (ownD (fullW c ws)) (rowD (fullW c ws)) → Q (.ref p) H'))
theorem cellP_lt {n : Nat} {ts : List Nat} {c : Nat} (h : cellP n ts = some c) : c < n := by
  match ts, h with
  | x :: r, h =>
    have h : (if (48 ≤ x ∧ x ≤ 57) ∧ x - 48 < n ∧ r.take 2 = [58, 32] then some (x - 48) else none) = some c := h
    split at h
    · rename_i z
      injection h with h
      omega
    · cases h
theorem ok_pv (T : Tl K mg a) (TX : Bx K mg BT iT) (T5 : T5s K mg aST aRI aDG aOW) (T6 : T6s K mg aLT) {f frcl fvb : Addr} {fd fdrcl fdvb fdB : FuncData} (F : Fun K "parse_view" "parse_view" s_parse_view f fd)
    (Grcl : FnOk P w K mg base (L2.CX P w) 3 frcl fdrcl ["land", "text"] (spRcl a BT)) (grcl : mg "_read_cell" = some (.ref frcl)) (krcl : PySem.W.keepIn K (.ref frcl) = true) (brcl : Binds K fdrcl ["land", "text"] [])
    (Gvb : FnOk P w K mg base CX0 6 fvb fdvb ["land", "cell", "ways"] (spVByW a VC)) (gvb : mg "view_by_ways" = some (.ref fvb)) (kvb : PySem.W.keepIn K (.ref fvb) = true) (bvb : Binds K fdvb ["land", "cell", "ways"] [])
    (FB0 : Fun K "__init__" "BadText.__init__" s_BadText___init__ iT fdB) (bB : Binds K fdB ["self", "row", "what"] []) (m_isinstance : mg "isinstance" = none) (m_str : mg "str" = none) (m_len : mg "len" = none) (m_all : mg "all" = none) : FnOk P w K mg base (L2.CX P w) 7 f fd ["land", "text"] (spPv K a VC BT) := by
  have FB : FnOk P w K mg base (L2.CX P w) 1 iT fdB ["self", "row", "what"] (spX2 BT) := ok_iT TX FB0
  refine F.okX sc_parse_view (fun vs H Q E h => ?_) (fun cdv A outer s H vs Q E hr h => ?_)
  · obtain ⟨l, n, es, rd, v, rfl, _⟩ := h
    rfl
  · obtain ⟨l, n, es, rd, v, rfl, L, h⟩ := h
    have hrx : Room (1 + 1) _ := hr.mono (by decide)
    refine ⟨_, (pss_cons (ps_if (pt_not (pt_val (pe_callB call_isi (by rfl) m_isinstance boot_isinstance (pa_cons (pv 1) (pa_cons (pe_bltn (v := .ty "str") (by rfl) m_str boot_str rfl) pa_nil)))))
  (pss_one (ps_raise rfl (takes_of rfl rfl rfl rfl) (pmk_oex TX.ox TX.iC TX.tI FB hrx bB .nil passL (by rfl) TX.g (pa_cons pe_int (pa_cons pe_str pa_nil)))))
  pss_nil)
 (pss_cons (ps_set (i := 2) sc_parse_view.nd rfl (by first | exact Or.inl rfl | exact Or.inr rfl) (pe_call Grcl (hr.mono (by decide)) (by rfl) grcl krcl brcl .nil (passes_call (E := E) (takes_of rfl rfl rfl rfl) (fun _ _ _ _ h => h)) (pa_cons (pv 0) (pa_cons (pv 1) pa_nil))))
 (pss_cons (ps_set (i := 3) sc_parse_view.nd rfl (by first | exact Or.inl rfl | exact Or.inr rfl) (pe_slice C8.sl_txt (pv 1) (po_some pe_int) po_none))
 (pss_cons (ps_if (pw_or (pt_cmpR op_ne (pe_callB call_len_str (by rfl) m_len boot_len (pa_cons (pv 3) pa_nil)) (pe_op op_sub (pe_fld (pv 0) rfl) pe_int) (nomark _)) (pw_or1 (pt_not (pt_val (pe_callB (cr_all rfl) (by rfl) m_all boot_all (pa_cons (pe_lc (own := [("letter", 4)]) (g := gName 4) (tt := tYes) rfl sc_parse_view.nd (pi_str (pv 3)) (blkOk_by (own := [("letter", 4)]) (N := N_parse_view) (sc := defScope s_parse_view) (by decide +kernel)) (fun _ _ _ _ _ => (pg_name (i := 4) sc_parse_view.nd rfl (by first | exact Or.inl rfl | exact Or.inr rfl))) (fun _ _ _ _ _ => pts_nil) (fun _ _ _ _ _ => (pe_cmpR (show OpR _ _ (rIn K false) from op_in_seq) (pv 4) (pe_glob (v := .ref _) (by rfl) T6.gLT rfl) (by with_unfolding_all rfl)))) pa_nil)))))).pt
  (pss_one (ps_raise rfl (takes_of rfl rfl rfl rfl) (pmk_oex TX.ox TX.iC TX.tI FB hrx bB .nil passL (by rfl) TX.g (pa_cons pe_int (pa_cons pe_str pa_nil)))))
  pss_nil)
 (pss_one (ps_ret (pe_call Gvb (hr.mono (by decide)) (by rfl) gvb kvb bvb .nil pass0 (pa_cons (pv 0) (pa_cons (pv 2) (pa_cons (pe_lc (own := [("letter", 4)]) (g := gName 4) (tt := tYes) rfl sc_parse_view.nd (pi_str (pv 3)) (blkOk_by (own := [("letter", 4)]) (N := N_parse_view) (sc := defScope s_parse_view) (by decide +kernel)) (fun _ _ _ _ _ => (pg_name (i := 4) sc_parse_view.nd rfl (by first | exact Or.inl rfl | exact Or.inr rfl))) (fun _ _ _ _ _ => pts_nil) (fun _ _ _ _ _ => (pe_ix (show IxR _ (rIxT K) from ix_tup) (pe_glob (v := .ref _) (by rfl) T5.gDG rfl) (show PE _ _ (tBM K "tuple" (rIdxK K) (tC (.ref aLT)) (tCons (tVar 4) tNil)) from pe_bm PySem.F.plainAttrs_tuple PySem.F.slot_tuple_index PySem.F.type_tuple_index (show MtR _ _ (rIdxK K) from mt_tup_index) (pe_glob (v := .ref _) (by rfl) T6.gLT rfl) (pa_cons (pv 4) pa_nil)) (fun _ _ => rfl)))) pa_nil)))))))))), ?_⟩
    rcases h with ⟨⟨t, ty, kk⟩, fl⟩ | ⟨ts, rfl, tl, f1, f2, q⟩
    · refine ⟨_, rfl, _, _, _, _, _, rfl, .ty _, ty _ (Same.refl H), kk, false, rfl, ?_⟩
      exact iteTo rfl ⟨by show 2 ≤ 1000; decide, fliesT_go fl⟩
    refine ⟨_, rfl, _, _, _, _, _, rfl, .ty _, .base (.str _), kit_ty (by decide +kernel), true, rfl, iteFo rfl ?_⟩
    refine ⟨_, rfl, _, rfl, l, n, es, rd, ts, rfl, L, tl, f1, fun c hc H1 e1 => ?_⟩
    have cn := cellP_lt hc
    have n5 := L.n5
    have f2 := f2 c hc
    have q := fun ws => q c ws hc
    clear f1
    have zl : ∀ k : List Nat, k.length ≤ 1000 → (SX.S k).length ≤ sizeLine := fun k h => by rw [SX.S_len, sizeLine_eq]; omega
    have s3 : Txt.slice (SX.S ts) (some 3) none = SX.S (ts.drop 3) := SX.slice_from (by decide)
    have wp : wayP n ts = if (ts.drop 3).length + 1 = n ∧ (ts.drop 3).all isLet = true then some ((ts.drop 3).map letD) else none := rfl
    refine ⟨_, rfl, _, rfl, _, rfl, zl _ tl, ?_⟩
    rw [s3]
    have ml : (ts.drop 3).length ≤ 1000 := by rw [List.length_drop]; omega
    generalize ts.drop 3 = m at wp ml ⊢
    obtain ⟨dl, an, ar, ay, ac, tn, tty, tc, m1, _⟩ := (L.same e1).at_
    refine ⟨_, rfl, SX.S m, rfl, zl m ml, _, rfl, l, a.C, dl, _, _, rfl, m1, T.cl, T.nA _ (by decide), rfl, _, _, rfl, rfl, ?_⟩
    refine ⟨rfl, _, rfl, ?_⟩
    rw [SX.S_len, show (V.int ((m.length : Nat) : Int) : V) = V.int ((m.length : Nat) : Int) from rfl]
    by_cases hl : m.length + 1 = n
    · refine iteFo ?_ ?_
      · show (!decide (V.int ((m.length : Nat) : Int) = V.int (((n : Nat) : Int) - 1))) = false
        rw [decide_eq_true (show V.int ((m.length : Nat) : Int) = V.int (((n : Nat) : Int) - 1) by rw [show ((m.length : Nat) : Int) = ((n : Nat) : Int) - 1 by omega])]
        rfl
      have sz : (SX.S m).cps.size = m.length := List.size_toArray ..
      have at_ : ∀ j : Nat, (SX.S m).cps[j]? = m[j]? := fun j => List.getElem?_toArray ..
      refine ⟨_, rfl, _, rfl, fun D hD => lc_it (walk_str (z := SX.S m)) (fun j H2 => Same H1 H2 ∧ H2 D = some (.lst (((m.take j).map isLet).map V.bl))) ⟨al hD, upd_same⟩ (fun _ _ _ _ => trivial) (fun j x H2 H3 hj pv hy => ?_) (fun H2 pv => ?_)⟩
      · obtain ⟨e2, hD2⟩ := pv
        obtain ⟨rfl, z, hz, rfl⟩ := hy
        rw [at_] at hz
        rw [sz] at hj
        refine ⟨rfl, _, rfl, aLT, _, rfl, .inr (T6.sLT _), rfl, rfl, ?_⟩
        refine ⟨_, hD2, ?_, fun b o hb => ?_, ?_⟩
        · rw [List.length_map, List.length_map, List.length_take]
          exact small1000 (by omega)
        · rw [upd_ne (ne_of_none hb hD)]
          exact e2 _ _ hb
        · rw [upd_same, List.take_add_one, hz, List.map_append, List.map_append]
          show some (HO.lst (_ ++ [V.bl (inV (.str (SX.S [z])) (lets.map V.str))])) = some (HO.lst (_ ++ [V.bl (isLet z)]))
          rw [let_in]
      · obtain ⟨e2, hD2⟩ := pv
        rw [sz, List.take_length] at hD2
        refine ⟨D, _, rfl, .inl (.inl hD2), ?_⟩
        refine ⟨_, rfl, ?_⟩
        rw [List.all_map, show (m.all (id ∘ isLet)) = m.all isLet from rfl]
        by_cases ha : m.all isLet = true
        · rw [ha]
          refine iteFo rfl ?_
          rw [if_pos ⟨hl, ha⟩] at wp
          have e12 := e1.trans e2
          refine ⟨_, rfl, _, rfl, _, rfl, _, rfl, fun D2 nD2 => lc_it (walk_str (z := SX.S m)) (fun j H3 => Same H2 H3 ∧ H3 D2 = some (.lst (wayL ((m.take j).map letD)))) ⟨al nD2, upd_same⟩ (fun _ _ _ _ => trivial) (fun j x H3 H4 hj pv hy => ?_) (fun H3 pv => ?_)⟩
          · obtain ⟨e3, hD3⟩ := pv
            obtain ⟨rfl, z, hz, rfl⟩ := hy
            rw [at_] at hz
            rw [sz] at hj
            obtain ⟨w5, w1, w2⟩ := let_ix (List.all_eq_true.mp ha z (List.mem_of_getElem? hz))
            refine ⟨rfl, T6.yLT _, _, rfl, aLT, lets, _, _, rfl, rfl, T6.sLT _, w1, w2, aDG, _, _, _, rfl, rfl, T5.sDG _, digs_at w5, ?_⟩
            refine ⟨_, hD3, ?_, fun b o hb => ?_, ?_⟩
            · rw [wayL_len, List.length_map, List.length_take]
              exact small1000 (by omega)
            · rw [upd_ne (ne_of_none hb nD2)]
              exact e3 _ _ hb
            · rw [upd_same, List.take_add_one, hz, List.map_append, wayL_app]
              rfl
          · obtain ⟨e3, hD3⟩ := pv
            rw [sz, List.take_length] at hD3
            exact ⟨l, D2, n, es, rd, c, m.map letD, rfl, (L.same e12).same e3, cn, hD3, by rw [List.length_map]; exact hl, fun H' p e np W => q _ wp H' p ((e12.trans e3).trans e) ((e12.trans e3).free np) W⟩
        · rw [Bool.eq_false_iff.mpr ha]
          exact iteTo rfl ⟨by show 2 ≤ 1000; decide, fliesT_go ((f2 (by rw [wp, if_neg fun z => ha z.2])).later (e1.trans e2))⟩
    · refine iteTo ?_ (iteTo rfl ⟨by show 2 ≤ 1000; decide, fliesT_go ((f2 (by rw [wp, if_neg fun z => hl z.1])).later e1)⟩)
      show (!decide (V.int ((m.length : Nat) : Int) = V.int (((n : Nat) : Int) - 1))) = true
      rw [decide_eq_false fun z => hl (by have := V.int.inj z; omega)]
      rfl
end
end K7
end
/-! ## P25 -/
section
open PySem PySem.Spec PyProof.Rows L2
namespace K7
abbrev N__law_turned : List Str := ["_law_hand_here", "_law_things", "_law_left", "_law_found", "_law_k"]
abbrev s__law_turned : Stmt := topS 48
theorem sc__law_turned : FnScope ["_law_hand_here", "_law_things", "_law_left", "_law_found", "_law_k"] ["_law_hand_here", "_law_things"] (defScope s__law_turned) := ⟨rfl, rfl, rfl, by decide +kernel, rfl, by decide +kernel, by decide +kernel⟩
section
variable {P : Program} {w : World} {K : PySem.W.Frag} {mg : Str → Option Value} {base : Heap}
/-! ### what the law turns about -/
def spTurn : Sp := fun vs H Q _ => ∃ (h c q : Addr) (own : List Nat), vs = [.ref h, .ref q] ∧ Hand H h c ∧ H q = some (.lst (ints_ own)) ∧ own.length ≤ 10 ∧
  ∀ H' o own', Stay h c H H' → H o = none → SqOf H' o (ints_ own') → own'.Perm own → Q (.ref o) H'
theorem ok_turn {f fdr : Addr} {fd fddr : FuncData} (F : Fun K "_law_turned" "_law_turned" s__law_turned f fd)
    (Gdr : FnOk P w K mg base CX0 2 fdr fddr ["_law_hand_here", "_law_many"] spDraw) (gdr : mg "_law_draw" = some (.ref fdr)) (kdr : PySem.W.keepIn K (.ref fdr) = true) (bdr : Binds K fddr ["_law_hand_here", "_law_many"] [])
    (m_range : mg "range" = none) (m_len : mg "len" = none) (m_list : mg "list" = none) (m_tuple : mg "tuple" = none) : FnOk P w K mg base CX0 3 f fd ["_law_hand_here", "_law_things"] spTurn := by
  refine F.ok sc__law_turned (fun vs H Q E h => ?_) (fun cdv A outer s H vs Q E hr h => ?_)
  · obtain ⟨h, c, q, own, rfl, _⟩ := h
    rfl
  · obtain ⟨h, c, t, own, rfl, hh, ht, l10, q⟩ := h
    refine ⟨_, (pss_cons (ps_par (by rfl) sc__law_turned.nd (i := 2) (j := 3) rfl rfl (by decide) rfl rfl (pa_cons (pe_callTy call_list_of (by rfl) m_list boot_list (pa_cons (pv 1) pa_nil)) (pa_cons (pe_lst pa_nil) pa_nil)) (by rfl))
 (Evl.pss_cut (ps_for PassesOwn.never rfl (pi_range1 rfl m_range (pa_cons (pe_callB call_len_seq (by rfl) m_len boot_len (pa_cons (pv 2) pa_nil)) pa_nil)) (pg_name (i := 4) sc__law_turned.nd rfl (by first | exact Or.inl rfl | exact Or.inr rfl))
  (pss_one (ps_expr (pe_bm PySem.F.plainAttrs_list PySem.F.slot_list_append PySem.F.type_list_append mt_append (pv 3) (pa_cons (pe_bm PySem.F.plainAttrs_list PySem.F.slot_list_pop PySem.F.type_list_pop mt_popAt (pv 2) (pa_cons (pe_call Gdr (hr.mono (by decide)) (by rfl) gdr kdr bdr .nil pass0 (pa_cons (pv 0) (pa_cons (pe_callB call_len_seq (by rfl) m_len boot_len (pa_cons (pv 2) pa_nil)) pa_nil))) pa_nil)) pa_nil)))))
 (pss_one (ps_ret (pe_ifExp (pt_cmpR op_eq (pe_call Gdr (hr.mono (by decide)) (by rfl) gdr kdr bdr .nil pass0 (pa_cons (pv 0) (pa_cons pe_int pa_nil))) pe_int (nomark _)) (pv 3) (pe_callTy call_tuple_of (by rfl) m_tuple boot_tuple (pa_cons (pv 3) pa_nil))))))), ?_⟩
    refine ⟨_, rfl, t, _, rfl, .inl (.inl (.inl ht)), fun Lf nLf => ?_⟩
    have e1 := al (o := .lst (ints_ own)) nLf
    have hL1 : upd H Lf (.lst (ints_ own)) Lf = some (.lst (ints_ own)) := upd_same
    obtain ⟨hLh, hLc⟩ := hh.ne nLf
    generalize upd H Lf (.lst (ints_ own)) = H1 at e1 hL1 ⊢
    refine ⟨by show 0 ≤ sizeLine; decide, fun N0 nN => ?_⟩
    have nNL : N0 ≠ Lf := (ne_of_none hL1 nN).symm
    have fN : H N0 = none := e1.free nN
    obtain ⟨hNh, hNc⟩ := hh.ne fN
    have e2 := e1.trans (al (o := .lst []) nN)
    have hN2 : upd H1 N0 (.lst []) N0 = some (.lst (ints_ [])) := upd_same
    have hL2 : upd H1 N0 (.lst []) Lf = some (.lst (ints_ own)) := (al (o := .lst []) nN) _ _ hL1
    generalize upd H1 N0 (.lst []) = H2 at e2 hN2 hL2 ⊢
    refine ⟨_, _, rfl, ?_⟩
    have lim : ∀ {xs : List Nat} {k : Nat}, xs.length ≤ k → k ≤ 1000 → (ints_ xs).length < sizeLine := fun {xs k} h1 h2 => by rw [ints_len]; exact small1000 (Nat.le_trans h1 h2)
    refine ⟨fun σ' H' => ∃ nm y4, σ' = [some (.ref h), some (.ref t), some (.ref Lf), some (.ref N0), y4] ∧ Stay h c H H' ∧ H' N0 = some (.lst (ints_ nm)) ∧ nm.Perm own, ?_, ?_⟩
    · refine ⟨_, rfl, Lf, _, rfl, .inl (.inl (.inl hL2)), _, rfl, by rw [ints_len]; omega, by rw [ints_len]; omega, ?_⟩
      rw [ints_len]
      refine for_range (fun k σ' H' => k ≤ own.length ∧ ∃ nm lf y4, σ' = [some (.ref h), some (.ref t), some (.ref Lf), some (.ref N0), y4] ∧ Stay h c H H' ∧ H' N0 = some (.lst (ints_ nm)) ∧ H' Lf = some (.lst (ints_ lf)) ∧ (nm ++ lf).Perm own ∧ nm.length = k)
        ⟨Nat.zero_le _, [], own, none, rfl, .of_same hh e2, hN2, hL2, List.Perm.refl _, rfl⟩ (fun k σ' H' hk pv => ?_) (fun σ' H' pv => ?_)
      · obtain ⟨_, nm, lf, y4, rfl, st, hN, hL, hp, hl⟩ := pv
        have hk : k < own.length := by simpa using hk
        have hll : lf.length = own.length - k := by
          have := hp.length_eq
          rw [List.length_append] at this
          omega
        have hil : (ints_ lf).length = lf.length := ints_len lf
        refine ⟨_, rfl, .inl ⟨rfl, _, .inl (.inl hN)⟩, _, rfl, .inl ⟨rfl, _, .inl (.inl hL)⟩, _, rfl, _, rfl, Lf, _, rfl, .inl (.inl (.inl hL)), h, c, _, rfl, st.hand, by omega, ?_, fun H4 x d x0 x1 => ?_⟩
        · exact Int.lt_of_le_of_lt (show (((ints_ lf).length : Nat) : Int) ≤ 1000 by omega) (by decide)
        obtain ⟨j, rfl⟩ : ∃ j : Nat, x = (j : Int) := ⟨x.toNat, by omega⟩
        have hj : j < lf.length := by omega
        have hN4 : H4 N0 = some (.lst (ints_ nm)) := by rw [d.but N0 hNh]; exact hN
        have hL4 : H4 Lf = some (.lst (ints_ lf)) := by rw [d.but Lf hLh]; exact hL
        refine ⟨Lf, _, _, j, .int (lf[j] : Nat), rfl, rfl, hL4, by omega, by omega, (ixN_seq (ixN_nat (by omega))).1, ?_, ?_⟩
        · unfold ints_
          rw [List.getElem?_map, List.getElem?_eq_getElem hj]
          rfl
        have hN5 : upd H4 Lf (.lst ((ints_ lf).eraseIdx j)) N0 = some (.lst (ints_ nm)) := by rw [upd_ne nNL]; exact hN4
        refine ⟨N0, _, _, rfl, rfl, hN5, lim (Nat.le_of_eq hl) (by omega), ?_⟩
        refine ⟨by omega, nm ++ [lf[j]], lf.eraseIdx j, _, rfl, ⟨fun b o nb hb => ?_, hh, ((d.hand.upd hLh hLc).upd hNh hNc)⟩, ?_, ?_, (KL.pop_perm hj).trans hp, by rw [List.length_append, hl]; rfl⟩
        · rw [upd_ne (ne_of_none hb fN), upd_ne (ne_of_none hb nLf), d.but b nb]
          exact st.but b o nb hb
        · rw [upd_same]
          unfold ints_
          rw [List.map_append]
          rfl
        · rw [upd_ne nNL.symm, upd_same]
          unfold ints_
          rw [map_erase]
      · obtain ⟨_, nm, lf, y4, rfl, st, hN, hL, hp, hl⟩ := pv
        have hl : nm.length = own.length := by simpa using hl
        have l0 : lf = [] := by
          have := hp.length_eq
          rw [List.length_append] at this
          exact List.length_eq_zero_iff.mp (by omega)
        subst l0
        rw [List.append_nil] at hp
        exact ⟨nm, y4, rfl, st, hN, hp⟩
    rintro _ H4 ⟨nm, y4, rfl, st4, hN, hp⟩
    refine ⟨_, rfl, h, c, 2, rfl, st4.hand, by decide, by decide, fun H5 r d5 r0 r1 => ?_⟩
    have st5 := st4.drawn d5
    have hN5 : H5 N0 = some (.lst (ints_ nm)) := by rw [d5.but N0 hNh]; exact hN
    refine ⟨rfl, _, rfl, ?_⟩
    refine iteB (fun _ => ?_) (fun _ => ?_)
    · exact ⟨_, rfl, q H5 N0 nm st5 fN (.inr hN5) hp⟩
    · refine ⟨_, rfl, N0, _, rfl, .inl ⟨.inl (.inl hN5), fun u nu => ?_⟩⟩
      exact q _ u nm (st5.same (al nu)) (st5.free nu) (.inl upd_same) hp
end
end K7
end
/-! ## P26 -/
section
open PySem PySem.Spec PyProof.Rows L2
namespace K7
abbrev N__law_number_view : List Str := ["_law_n", "_law_cell", "_law_number", "_law_words", "_law_ways", "_law_rest", "_law_b", "_law_own", "_law_word"]
abbrev s__law_number_view : Stmt := topS 49
theorem sc__law_number_view : FnScope ["_law_n", "_law_cell", "_law_number", "_law_words", "_law_ways", "_law_rest", "_law_b", "_law_own", "_law_word"] ["_law_n", "_law_cell", "_law_number"] (defScope s__law_number_view) := ⟨rfl, rfl, rfl, by decide +kernel, rfl, by decide +kernel, by decide +kernel⟩
/-! ### the law's own digits -/
/-- the j-th of the other cells -/
def oc (c j : Nat) : Nat := if j < c then j else j + 1
theorem othF_at {n c j : Nat} (hc : c < n) (hj : j + 1 < n) : (othF n c)[j]? = some (oc c j) := by
  have r : List.range n = List.range c ++ c :: (List.range (n - c - 1)).map fun k => k + (c + 1) := by
    refine List.ext_getElem? fun i => ?_
    rw [List.getElem?_append]
    split
    · rename_i h
      rw [List.length_range] at h
      rw [List.getElem?_range (by omega), List.getElem?_range h]
    · rename_i h
      rw [List.length_range] at h ⊢
      by_cases hi : i = c
      · subst hi
        rw [Nat.sub_self, List.getElem?_range (by omega)]
        rfl
      · obtain ⟨k, rfl⟩ : ∃ k, i = c + 1 + k := ⟨i - (c + 1), by omega⟩
        rw [show c + 1 + k - c = k + 1 by omega, List.getElem?_cons_succ, List.getElem?_map]
        by_cases hk : k < n - c - 1
        · rw [List.getElem?_range (by omega), List.getElem?_range hk]
          show some (c + 1 + k) = some (k + (c + 1))
          rw [Nat.add_comm]
        · rw [List.getElem?_eq_none (by rw [List.length_range]; omega), List.getElem?_eq_none (by rw [List.length_range]; omega)]
          rfl
  have e : othF n c = List.range c ++ (List.range (n - c - 1)).map fun k => k + (c + 1) := by
    unfold othF
    rw [r, List.filter_append, List.filter_cons, decide_eq_false (by omega), List.filter_eq_self.mpr (fun b hb => decide_eq_true (by have := List.mem_range.mp hb; omega)), List.filter_eq_self.mpr (fun b hb => ?_)]
    · rfl
    · obtain ⟨k, _, rfl⟩ := List.mem_map.mp hb
      exact decide_eq_true (by omega)
  rw [e, List.getElem?_append, List.length_range]
  unfold oc
  split
  · rename_i h
    rw [List.getElem?_range h]
  · rename_i h
    rw [List.getElem?_map, List.getElem?_range (by omega)]
    show some (j - c + (c + 1)) = some (j + 1)
    congr 1
    omega
theorem othF_len' {n c : Nat} (hc : c < n) : (othF n c).length + 1 = n := by
  have h1 : ∀ j, j + 1 < n → j < (othF n c).length := fun j h => (List.getElem?_eq_some_iff.mp (othF_at hc h)).1
  have h2 : (othF n c).length < n := by
    have : (othF n c).length < (List.range n).length := List.length_filter_lt_length_iff_exists.mpr ⟨c, List.mem_range.mpr hc, by simp⟩
    rw [List.length_range] at this
    exact this
  by_cases h : n = 1
  · omega
  · have := h1 (n - 2) (by omega)
    omega
theorem full_at {c : Nat} {ws : List Nat} (hc : c ≤ ws.length) (i : Nat) : (fullW c ws)[i]? = if i < c then ws[i]? else if i = c then some 0 else ws[i - 1]? := by
  unfold fullW
  rw [List.getElem?_append, List.length_take, Nat.min_eq_left hc]
  split
  · rename_i h
    rw [List.getElem?_take_of_lt h]
  · rename_i h
    by_cases hi : i = c
    · subst hi
      rw [Nat.sub_self, if_pos rfl]
      rfl
    · rw [if_neg hi]
      obtain ⟨k, rfl⟩ : ∃ k, i = c + 1 + k := ⟨i - (c + 1), by omega⟩
      rw [show c + 1 + k - c = k + 1 by omega, List.getElem?_cons_succ, List.getElem?_drop, show c + 1 + k - 1 = c + k by omega]
theorem full_set {c j d : Nat} {ws : List Nat} (hc : c ≤ ws.length) (hj : j < ws.length) : (fullW c ws).set (oc c j) d = fullW c (ws.set j d) := by
  have lf : (fullW c ws).length = ws.length + 1 := full_len rfl (by omega)
  refine List.ext_getElem? fun i => ?_
  rw [List.getElem?_set, lf, full_at (c := c) (ws := ws) hc, full_at (c := c) (ws := ws.set j d) (by rw [List.length_set]; exact hc), List.getElem?_set, List.getElem?_set]
  unfold oc
  repeat' split
  all_goals first | rfl | omega | skip
theorem rep_set {m d : Nat} {ds : List Nat} : (List.replicate (m + 1) 0 ++ ds).set m d = List.replicate m 0 ++ d :: ds := by
  rw [List.replicate_succ', List.append_assoc, List.set_append_right _ _ (by rw [List.length_replicate]; exact Nat.le_refl _), List.length_replicate, Nat.sub_self]
  rfl
theorem full_zero {n c : Nat} (hc : c < n) : fullW c (List.replicate (n - 1) 0) = List.replicate n 0 := by
  unfold fullW
  rw [List.take_replicate, List.drop_replicate, Nat.min_eq_left (by omega)]
  show List.replicate c 0 ++ (List.replicate 1 0 ++ List.replicate (n - 1 - c) 0) = _
  rw [List.replicate_append_replicate, List.replicate_append_replicate]
  congr 1
  omega
section
variable {P : Program} {w : World} {K : PySem.W.Frag} {mg : Str → Option Value} {base : Heap}
def spNvw : Sp := fun vs H Q _ => ∃ (n c k : Nat), vs = [.int (n : Nat), .int (c : Nat), .int (k : Nat)] ∧ 2 ≤ n ∧ n ≤ 5 ∧ c < n ∧ k < 5000 ∧
  ∀ H' q o t, Same H H' → H o = none → H t = none → H' q = some (.tup [.ref o, .ref t]) → H' o = some (.lst (ints_ (ownD (fullW c (dgs (n - 1) k))))) → H' t = some (.lst (wds (rowD (fullW c (dgs (n - 1) k))))) → Q (.ref q) H'
theorem ok_nvw {f : Addr} {fd : FuncData} (F : Fun K "_law_number_view" "_law_number_view" s__law_number_view f fd) (m_range : mg "range" = none) (m_int : mg "int" = none) : FnOk P w K mg base CX0 1 f fd ["_law_n", "_law_cell", "_law_number"] spNvw := by
  refine F.ok sc__law_number_view (fun vs H Q E h => ?_) (fun cdv A outer s H vs Q E hr h => ?_)
  · obtain ⟨n, c, k, rfl, _⟩ := h
    rfl
  · obtain ⟨n, c, k, rfl, n2, n5, hc, hk, q⟩ := h
    refine ⟨_, (Evl.pss_cut (ps_asg (pe_tup (pa_cons (pe_lst (pa_cons pe_str (pa_cons pe_str (pa_cons pe_str (pa_cons pe_str (pa_cons pe_str pa_nil)))))) (pa_cons (pe_op op_rep (pe_lst (pa_cons pe_str pa_nil)) (pv 0)) (pa_cons (pv 2) pa_nil)))) (pg_tup rfl (pgs_cons (pg_name (i := 3) sc__law_number_view.nd rfl (by first | exact Or.inl rfl | exact Or.inr rfl)) (pgs_cons (pg_name (i := 4) sc__law_number_view.nd rfl (by first | exact Or.inl rfl | exact Or.inr rfl)) (pgs_cons (pg_name (i := 5) sc__law_number_view.nd rfl (by first | exact Or.inl rfl | exact Or.inr rfl)) pgs_nil)))))
 (Evl.pss_cut (ps_for PassesOwn.never rfl (pi_list (pe_revL (pe_lc (own := [("_law_b", 6)]) (g := gName 6) rfl sc__law_number_view.nd (pi_range1 rfl m_range (pa_cons (pv 0) pa_nil)) (blkOk_by (own := [("_law_b", 6)]) (N := N__law_number_view) (sc := defScope s__law_number_view) (by decide +kernel)) (fun _ _ _ _ _ => (pg_name (i := 6) sc__law_number_view.nd rfl (by first | exact Or.inl rfl | exact Or.inr rfl))) (fun _ _ _ _ _ => (pts_one (pt_cmpR op_ne (pv 6) (pv 1) (nomark _)))) (fun _ _ _ _ _ => (pv 6))))) (pg_name (i := 6) sc__law_number_view.nd rfl (by first | exact Or.inl rfl | exact Or.inr rfl))
  (pss_cons (ps_asg (pe_ix ix_list (pv 3) (pe_op op_mod (pe_callTy call_int1 (by rfl) m_int boot_int (pa_cons (pv 5) pa_nil)) pe_int) (fun _ _ => rfl)) (pg_sub (pv 4) (pv 6) set_list))
 (pss_one (ps_set (i := 5) sc__law_number_view.nd rfl (by first | exact Or.inl rfl | exact Or.inr rfl) (pe_op op_fdiv (pv 5) pe_int)))))
 (Evl.pss_cut (ps_setLc (i := 7) (own := [("_law_b", 6)]) (g := gName 6) rfl sc__law_number_view.nd rfl rfl (sw_true rfl rfl rfl (by decide +kernel)) (pi_range1 rfl m_range (pa_cons (pv 0) pa_nil)) (blkOk_by (own := [("_law_b", 6)]) (N := N__law_number_view) (sc := defScope s__law_number_view) (by decide +kernel)) (fun _ _ _ _ _ => (pg_name (i := 6) sc__law_number_view.nd rfl (by first | exact Or.inl rfl | exact Or.inr rfl))) (fun _ _ _ _ _ => (pts_one (pt_cmpR (show OpR _ _ (rIn K false) from op_in_seq) (pe_ix (show IxR _ (rIxL K) from ix_list) (pv 4) (pv 6) (fun _ _ => rfl)) (pe_tup (pa_cons pe_str (pa_cons pe_str pa_nil))) (by with_unfolding_all rfl)))) (fun _ _ _ _ _ => (pv 6)))
 (pss_one (ps_ret (pe_tup (pa_cons (pv 7) (pa_cons (pe_lc (own := [("_law_word", 8)]) (g := gName 8) (tt := tYes) rfl sc__law_number_view.nd (pi_list (pv 4)) (blkOk_by (own := [("_law_word", 8)]) (N := N__law_number_view) (sc := defScope s__law_number_view) (by decide +kernel)) (fun _ _ _ _ _ => (pg_name (i := 8) sc__law_number_view.nd rfl (by first | exact Or.inl rfl | exact Or.inr rfl))) (fun _ _ _ _ _ => pts_nil) (fun _ _ _ _ _ => (pe_ifExp (pt_cmpR op_eq (pv 8) pe_str (nomark _)) pe_str (pv 8)))) pa_nil)))))))), ?_⟩
    refine ⟨fun τ H' => ∃ Wd Wy, τ = [some (.int (n : Nat)), some (.int (c : Nat)), some (.int (k : Nat)), some (.ref Wd), some (.ref Wy), some (.int (k : Nat)), none, none, none] ∧ Same H H' ∧ H Wy = none ∧ Wd ≠ Wy ∧ H' Wd = some (.lst (digs.map V.str)) ∧ H' Wy = some (.lst (wayL (List.replicate n 0))), ?_, fun τ H1 hM => ?_⟩
    · refine ⟨by show 5 ≤ sizeLine; decide, fun Wd nd => ?_⟩
      have e1 := al (o := .lst [V.str "own", .str "asleep", .str "none", .str "awake", .str "needed"]) nd
      have h1 : upd H Wd (.lst [V.str "own", .str "asleep", .str "none", .str "awake", .str "needed"]) Wd = some (.lst (digs.map V.str)) := upd_same
      generalize upd H Wd (.lst [V.str "own", .str "asleep", .str "none", .str "awake", .str "needed"]) = G1 at e1 h1 ⊢
      refine ⟨by show 1 ≤ sizeLine; decide, fun b1 nb1 => ?_⟩
      have e2 := al (o := .lst [V.str "own"]) nb1
      have h2 : upd G1 b1 (.lst [V.str "own"]) b1 = some (.lst [V.str "own"]) := upd_same
      have h12 := e2 _ _ h1
      have e12 := e1.trans e2
      generalize upd G1 b1 (.lst [V.str "own"]) = G2 at e2 h2 h12 e12 ⊢
      refine ⟨_, rfl, b1, (n : Nat), _, rfl, rfl, h2, by omega, by omega, by rw [Int.toNat_natCast, sizeLine_eq]; show 1 * n ≤ _; omega, fun Wy ny => ?_⟩
      have e3 := al (o := .lst (List.replicate ((n : Nat) : Int).toNat [V.str "own"]).flatten) ny
      have h3 : upd G2 Wy (.lst (List.replicate ((n : Nat) : Int).toNat [V.str "own"]).flatten) Wy = some (.lst (wayL (List.replicate n 0))) := by
        rw [upd_same, Int.toNat_natCast]
        have z : ∀ m : Nat, (List.replicate m [V.str "own"]).flatten = wayL (List.replicate m 0) := fun m => by
          induction m with
          | zero => rfl
          | succ m ih =>
            rw [List.replicate_succ, List.flatten_cons, ih, List.replicate_succ]
            rfl
        rw [z]
      have h13 := e3 _ _ h12
      have e123 := e12.trans e3
      have fy : H Wy = none := e12.free ny
      have ne : Wd ≠ Wy := ne_of_none h12 ny
      generalize upd G2 Wy (.lst (List.replicate ((n : Nat) : Int).toNat [V.str "own"]).flatten) = G3 at h3 h13 e123 ⊢
      refine ⟨_, rfl, by show 3 ≤ sizeLine; decide, fun t nt => ?_⟩
      have e4 := al (o := .tup [V.ref Wd, .ref Wy, .int (k : Nat)]) nt
      exact ⟨t, _, rfl, .inl (.inl upd_same), rfl, _, _, rfl, _, _, rfl, _, _, rfl, rfl, Wd, Wy, rfl, e123.trans e4, fy, ne, e4 _ _ h13, e4 _ _ h3⟩
    · obtain ⟨Wd, Wy, rfl, e1, fy, ne, hW, hY⟩ := hM
      have ol := othF_len' hc
      have ol' := othF_len n c
      refine ⟨fun τ H' => ∃ y5 y6, τ = [some (.int (n : Nat)), some (.int (c : Nat)), some (.int (k : Nat)), some (.ref Wd), some (.ref Wy), y5, y6, none, none] ∧ Same H H' ∧ H' Wy = some (.lst (wayL (fullW c (dgs (n - 1) k)))), ?_, fun τ H2 hM => ?_⟩
      · refine ⟨_, rfl, _, rfl, by omega, by omega, fun D hD => lc_range (lo := 0) (n := n) (fun i H2 => Same H1 H2 ∧ H2 D = some (.lst (ints_ ((List.range i).filter fun b => decide (b ≠ c))))) ⟨al hD, upd_same⟩ (fun i H2 hi pv => ?_) (fun H2 pv => ?_)⟩
        · obtain ⟨e2, hD2⟩ := pv
          rw [show (0 : Int) + ((i : Nat) : Int) = (i : Nat) from Int.zero_add _]
          refine ⟨rfl, _, rfl, _, rfl, rfl, _, rfl, ?_⟩
          show if (!decide (V.int (i : Nat) = V.int (c : Nat))) = true then _ else _
          rw [dec_int, show (!decide (i = c)) = decide (i ≠ c) from (decide_not).symm]
          refine iteB (fun t => ?_) (fun t => ?_)
          · refine ⟨_, rfl, _, hD2, by rw [ints_len]; exact small1000 (Nat.le_trans (List.length_filter_le _ _) (by rw [List.length_range]; omega)), fun b z hb => ?_, ?_⟩
            · rw [upd_ne (ne_of_none hb hD)]
              exact e2 _ _ hb
            · rw [upd_same, range_filter, if_pos t, ints_snoc]
          · refine ⟨e2, ?_⟩
            rw [range_filter, if_neg (by rw [t]; decide), List.append_nil]
            exact hD2
        · obtain ⟨e2, hD2⟩ := pv
          have hD2 : H2 D = some (.lst (ints_ (othF n c))) := hD2
          refine ⟨D, _, rfl, .inl (.inl hD2), fun R nR => ?_⟩
          have e3 := e2.trans (al (o := .lst (ints_ (othF n c)).reverse) nR)
          have hR : upd H2 R (.lst (ints_ (othF n c)).reverse) R = some (.lst (ints_ (othF n c)).reverse) := upd_same
          have hY3 := e3 _ _ hY
          have hW3 := e3 _ _ hW
          have nRY : R ≠ Wy := fun z => by rw [z, e2 _ _ hY] at nR; cases nR
          have e13 := e1.trans e3
          generalize upd H2 R (.lst (ints_ (othF n c)).reverse) = H3 at e3 hR hY3 hW3 e13 ⊢
          refine ⟨R, rfl, ⟨_, .inl (.inl hR)⟩, for_list (xs := (ints_ (othF n c)).reverse) (fun i τ H' => ∃ y6, τ = [some (.int (n : Nat)), some (.int (c : Nat)), some (.int (k : Nat)), some (.ref Wd), some (.ref Wy), some (.int ((k / 5 ^ i : Nat) : Nat)), y6, none, none] ∧ But Wy H3 H' ∧ H' Wy = some (.lst (wayL (fullW c (List.replicate (n - 1 - i) 0 ++ dgs i k)))))
            ⟨none, by rw [Nat.pow_zero, Nat.div_one], fun b o _ hb => hb, ?_⟩ (fun i τ H' _ pv => ?_) (fun i x τ H' hx pv => ?_) (fun τ H' pv => ?_)⟩
          · rw [hY3, Nat.sub_zero]
            show some (HO.lst (wayL (List.replicate n 0))) = some (HO.lst (wayL (fullW c (List.replicate (n - 1) 0 ++ []))))
            rw [List.append_nil, full_zero hc]
          · obtain ⟨y6, rfl, bt, hw⟩ := pv
            exact .inl (.inl (bt R _ nRY hR))
          · obtain ⟨y6, rfl, bt, hw⟩ := pv
            have hi := (List.getElem?_eq_some_iff.mp hx).1
            rw [List.length_reverse, ints_len] at hi
            rw [List.getElem?_reverse (by rw [ints_len]; exact hi), ints_len] at hx
            have hx : (ints_ (othF n c))[n - 1 - 1 - i]? = some x := by
              rw [show n - 1 - 1 - i = (othF n c).length - 1 - i by omega]
              exact hx
            unfold ints_ at hx
            rw [List.getElem?_map, othF_at hc (by omega)] at hx
            obtain rfl := Option.some.inj hx
            have md : (((k / 5 ^ i : Nat) : Nat) : Int) % 5 = ((k / 5 ^ i % 5 : Nat) : Int) := by omega
            have dv : (((k / 5 ^ i : Nat) : Nat) : Int) / 5 = ((k / 5 ^ (i + 1) : Nat) : Int) := by
              rw [Nat.pow_succ, ← Nat.div_div_eq_div_mul]
              omega
            have dat : atI (digs.map V.str) ((((k / 5 ^ i : Nat) : Nat) : Int) % 5) = some (.str (dwS (k / 5 ^ i % 5))) := by
              rw [md]
              exact digs_at (Nat.mod_lt _ (by decide))
            have hW4 : H' Wd = some (.lst (digs.map V.str)) := bt Wd _ ne hW3
            refine ⟨_, rfl, _, rfl, .inl ⟨_, rfl, _, _, rfl, rfl, by show (0 : Int) < 5; decide, Wd, _, _, _, rfl, rfl, .inl (.inl hW4), dat, ?_⟩⟩
            have hc' : c ≤ (List.replicate (n - 1 - i) 0 ++ dgs i k).length := by rw [List.length_append, List.length_replicate, dgs_len]; omega
            have lf : (fullW c (List.replicate (n - 1 - i) 0 ++ dgs i k)).length = n := full_len (by rw [List.length_append, List.length_replicate, dgs_len]; omega) hc
            have ocn : oc c (n - 1 - 1 - i) < n := by unfold oc; split <;> omega
            refine ⟨_, rfl, _, rfl, Wy, _, _, oc c (n - 1 - 1 - i), rfl, rfl, hw, ixN_nat (by rw [wayL_len, lf]; exact ocn), ?_⟩
            refine ⟨_, rfl, _, _, rfl, rfl, ⟨by decide, by decide⟩, some (.int (oc c (n - 1 - 1 - i) : Nat)), ?_, bt.put _, ?_⟩
            · show [some (V.int (n : Nat)), some (.int (c : Nat)), some (.int (k : Nat)), some (.ref Wd), some (.ref Wy), some (.int ((((k / 5 ^ i : Nat) : Nat) : Int) / 5)), some (.int (oc c (n - 1 - 1 - i) : Nat)), none, none] = _
              rw [dv]
            · rw [upd_same]
              have ms : (wayL (fullW c (List.replicate (n - 1 - i) 0 ++ dgs i k))).set (oc c (n - 1 - 1 - i)) (.str (dwS (k / 5 ^ i % 5))) = wayL ((fullW c (List.replicate (n - 1 - i) 0 ++ dgs i k)).set (oc c (n - 1 - 1 - i)) (k / 5 ^ i % 5)) := by
                unfold wayL
                rw [List.map_set]
              rw [ms, full_set hc' (by rw [List.length_append, List.length_replicate, dgs_len]; omega)]
              have e5 : n - 1 - i = (n - 1 - 1 - i) + 1 := by omega
              have e6 : n - 1 - (i + 1) = n - 1 - 1 - i := by omega
              rw [e6]
              have e7 : (List.replicate (n - 1 - i) 0 ++ dgs i k).set (n - 1 - 1 - i) (k / 5 ^ i % 5) = List.replicate (n - 1 - 1 - i) 0 ++ dgs (i + 1) k := by
                rw [e5]
                exact rep_set
              rw [e7]
          · obtain ⟨y6, rfl, bt, hw⟩ := pv
            rw [List.length_reverse, ints_len, show n - 1 - (othF n c).length = 0 by omega, show (othF n c).length = n - 1 by omega] at hw
            refine ⟨_, _, rfl, fun b o hb => bt b o (fun z => by rw [z, fy] at hb; cases hb) (e13 _ _ hb), hw⟩
      · obtain ⟨y5, y6, rfl, e2, hY2⟩ := hM
        have fl := full_len (c := c) (ws := dgs (n - 1) k) (n := n) (by rw [dgs_len]; omega) hc
        generalize fullW c (dgs (n - 1) k) = FW at hY2 fl q
        have wl : (wayL FW).length = n := by rw [wayL_len, fl]
        refine ⟨fun τ H' => ∃ O, τ = [some (.int (n : Nat)), some (.int (c : Nat)), some (.int (k : Nat)), some (.ref Wd), some (.ref Wy), y5, y6, some (.ref O), none] ∧ Same H2 H' ∧ H2 O = none ∧ H' O = some (.lst (ints_ (ownD FW))), ?_, fun τ H3 hM => ?_⟩
        · refine ⟨_, rfl, _, rfl, by omega, by omega, fun D hD => lc_range (lo := 0) (n := n) (fun i H3 => Same H2 H3 ∧ H3 D = some (.lst (ints_ ((List.range i).filter fun b => decide (FW.getD b 0 < 2))))) ⟨al hD, upd_same⟩ (fun i H3 hi pv => ?_) (fun H3 pv => ?_)⟩
          · obtain ⟨e3, hD3⟩ := pv
            rw [show (0 : Int) + ((i : Nat) : Int) = (i : Nat) from Int.zero_add _]
            refine ⟨rfl, _, rfl, _, rfl, Wy, _, _, _, rfl, rfl, .inl (.inl (e3 _ _ hY2)), atI_nat (wayL_at (by rw [fl]; exact hi)), ?_⟩
            refine ⟨by show 2 ≤ sizeLine; decide, fun t nt => ?_⟩
            have e4 := al (o := .tup [V.str "own", .str "asleep"]) nt
            refine ⟨t, _, rfl, .inr (.inl (.inl upd_same)), rfl, rfl, _, rfl, ?_⟩
            show if inV (.str (dwS (FW.getD i 0))) [.str "own", .str "asleep"] = true then _ else _
            rw [dw_own]
            have hD4 := e4 _ _ hD3
            have e34 := e3.trans e4
            refine iteB (fun t => ?_) (fun t => ?_)
            · refine ⟨_, rfl, _, hD4, by rw [ints_len]; exact small1000 (Nat.le_trans (List.length_filter_le _ _) (by rw [List.length_range]; omega)), fun b z hb => ?_, ?_⟩
              · rw [upd_ne (ne_of_none hb hD)]
                exact e34 _ _ hb
              · rw [upd_same, range_filter, if_pos t, ints_snoc]
            · refine ⟨e34, ?_⟩
              rw [range_filter, if_neg (by rw [t]; decide), List.append_nil]
              exact hD4
          · obtain ⟨e3, hD3⟩ := pv
            refine ⟨D, rfl, e3, hD, ?_⟩
            unfold ownD
            rw [fl]
            exact hD3
        · obtain ⟨O, rfl, e3, fO, hO⟩ := hM
          have hY3 := e3 _ _ hY2
          refine ⟨_, rfl, _, rfl, Wy, rfl, ⟨_, .inl (.inl hY3)⟩, fun D hD => lc_list (xs := wayL FW) (fun j H4 => Same H3 H4 ∧ H4 D = some (.lst (wds ((FW.take j).map dk)))) ⟨al hD, upd_same⟩ (fun j H4 _ pv => .inl (.inl (pv.1 _ _ hY3))) (fun j x H4 hx pv => ?_) (fun H4 pv => ?_)⟩
          · obtain ⟨e4, hD4⟩ := pv
            have jn : j < n := by rw [← wl]; exact (List.getElem?_eq_some_iff.mp hx).1
            have jn' : j < FW.length := by rw [fl]; exact jn
            obtain rfl := Option.some.inj ((wayL_at jn').symm.trans hx)
            have tk : (FW.take (j + 1)).map dk = (FW.take j).map dk ++ [dk (FW.getD j 0)] := by
              rw [List.take_add_one, List.getD_eq_getElem?_getD, List.getElem?_eq_getElem jn', List.map_append]
              rfl
            have lim : (wds ((FW.take j).map dk)).length < sizeLine := by
              rw [wds_len, List.length_map, List.length_take]
              exact small1000 (by omega)
            refine ⟨rfl, _, rfl, rfl, _, rfl, ?_⟩
            show if decide (V.str (dwS (FW.getD j 0)) = V.str "own") = true then _ else _
            rw [dw_is]
            refine iteB (fun z => ?_) (fun z => ?_)
            · refine ⟨_, hD4, lim, fun b o hb => ?_, ?_⟩
              · rw [upd_ne (ne_of_none hb hD)]
                exact e4 _ _ hb
              · rw [upd_same, tk, of_decide_eq_true z, wds_snoc]
                rfl
            · refine ⟨_, rfl, _, hD4, lim, fun b o hb => ?_, ?_⟩
              · rw [upd_ne (ne_of_none hb hD)]
                exact e4 _ _ hb
              · rw [upd_same, tk, wds_snoc, dw_wd (of_decide_eq_false z)]
          · obtain ⟨e4, hD4⟩ := pv
            rw [wl, ← fl, List.take_length] at hD4
            have e24 := (e2.trans e3).trans e4
            refine ⟨by show 2 ≤ sizeLine; decide, fun qq nq => ?_⟩
            have e5 := al (o := .tup [V.ref O, .ref D]) nq
            exact q _ qq O D (e24.trans e5) (e2.free fO) ((e2.trans e3).free hD) upd_same (e5 _ _ (e4 _ _ hO)) (e5 _ _ hD4)
end
end K7
end
/-! ## P27 -/
section
open PySem PySem.Spec PyProof.Rows L2
namespace K7
abbrev N__law_spoilt_own : List Str := ["_law_hand_here", "_law_n", "_law_cell", "_law_own", "_law_without", "_law_b", "_law_outside", "_law_things"]
abbrev s__law_spoilt_own : Stmt := topS 50
theorem sc__law_spoilt_own : FnScope ["_law_hand_here", "_law_n", "_law_cell", "_law_own", "_law_without", "_law_b", "_law_outside", "_law_things"] ["_law_hand_here", "_law_n", "_law_cell", "_law_own"] (defScope s__law_spoilt_own) := ⟨rfl, rfl, rfl, by decide +kernel, rfl, by decide +kernel, by decide +kernel⟩
theorem shapedL_ints (l : List Nat) : SeqAt.shaped (.list (l.map fun c => PyData.int (c : Nat))) = true := by
  have z : ((PyData.canLay0 (intD l)) && decide (PyData.depth (intD l) ≤ 64)) = true := shaped_ints l
  show ((PyData.canLay0 (.list (l.map fun c => PyData.int (c : Nat)))) && decide (PyData.depth (.list (l.map fun c => PyData.int (c : Nat))) ≤ 64)) = true
  unfold intD at z
  simpa [PyData.canLay0, PyData.depth] using z
/-! ### own cells that are none -/
theorem whole_flat {v : V} {lo hi : Int} (h : ∀ i, v ≠ .int i) : wholeV v lo hi = false := by
  cases v with
  | int i => exact absurd rfl (h i)
  | _ => rfl
theorem cells_bad {m l : Int} {xs : List V} {x : V} (hx : x ∈ xs) (h : wholeV x 0 (m - 1) = false) : cellsV m xs l = false := by
  unfold cellsV
  rw [show (xs.all fun x => wholeV x 0 (m - 1)) = false from List.all_eq_false.mpr ⟨x, hx, by rw [h]; decide⟩, Bool.and_false, Bool.false_and]
theorem cells_twice {m l : Int} {own : List Nat} {d : Nat} (hd : d ∈ own) : cellsV m (ints_ own ++ [.int (d : Nat)]) l = false := by
  unfold cellsV
  have : ¬ ((ints_ own ++ [V.int (d : Nat)]).map intOf).Nodup := by
    rw [List.map_append]
    intro h
    have z := (List.nodup_append.mp h).2.2 (d : Int) ?_ (d : Int) (List.mem_singleton.mpr rfl)
    · exact z rfl
    · unfold ints_
      rw [List.map_map]
      exact List.mem_map.mpr ⟨d, hd, rfl⟩
  rw [decide_eq_false this, Bool.and_false]
inductive Bd (n c : Nat) (h : Addr) (H : Hp) : V → Prop
  | flat {v : V} (f : Flat4 v) : Bd n c h H v
  | dct {b : Addr} {kvs : List (Key × V)} (hb : H b = some (.dK kvs)) (ne : b ≠ h) : Bd n c h H (.ref b)
  | bad {b : Addr} {xs : List V} (hb : H b = some (.lst xs)) (ne : b ≠ h) (th : ∀ y ∈ xs, Flat4 y ∨ ∃ d ys, y = .ref d ∧ d ≠ h ∧ H d = some (.lst ys)) (l : xs.length < 64) (cv : cellsV (n : Nat) xs 1 = false) : Bd n c h H (.ref b)
  | out {b : Addr} {own : List Nat} (hb : H b = some (.lst (ints_ own))) (ne : b ≠ h) (l : own.length < 64) (nm : c ∉ own) : Bd n c h H (.ref b)
theorem Bd.but {n c : Nat} {h : Addr} {H H' : Hp} {v : V} (b : Bd n c h H v) (e : But h H H') : Bd n c h H' v := by
  cases b with
  | flat f => exact .flat f
  | dct hb ne => exact .dct (e _ _ ne hb) ne
  | bad hb ne th l cv => exact .bad (e _ _ ne hb) ne (fun y hy => (th y hy).imp id fun ⟨d, ys, h1, h2, h3⟩ => ⟨d, ys, h1, h2, e _ _ h2 h3⟩) l cv
  | out hb ne l nm => exact .out (e _ _ ne hb) ne l nm
theorem Bd.same {n c : Nat} {h : Addr} {H H' : Hp} {v : V} (b : Bd n c h H v) (e : Same H H') : Bd n c h H' v := b.but fun _ _ _ hb => e _ _ hb
theorem ints_flat {l : List Nat} : ∀ y ∈ ints_ l, Flat4 y := fun y hy => by
  unfold ints_ at hy
  obtain ⟨k, _, rfl⟩ := List.mem_map.mp hy
  exact .int _
theorem Bd.ow {K : PySem.W.Frag} {n c : Nat} {h : Addr} {H : Hp} {v : V} (b : Bd n c h H v) : OwB K n c H v := by
  cases b with
  | flat f =>
    cases f with
    | non => exact .inl ⟨"NoneType", fun _ _ => .base .non, any_non⟩
    | bl b => exact .inl ⟨"bool", fun _ _ => .base (.bl b), any_bool⟩
    | int i => exact .inl ⟨"int", fun _ _ => .base (.int i), any_int⟩
    | str z => exact .inl ⟨"str", fun _ _ => .base (.str z), any_str⟩
  | dct hb ne => exact .inl ⟨"dict", fun _ e => .base (.dK (e _ _ hb)), any_dict⟩
  | bad hb ne th l cv => exact .inr ⟨_, _, rfl, .inr hb, fun y hy => (th y hy).elim .flat fun ⟨d, ys, h1, h2, h3⟩ => by subst h1; exact .lst h3, l, .inl cv⟩
  | @out b own hb ne l nm =>
    refine .inr ⟨b, ints_ own, rfl, .inr hb, fun y hy => .flat (ints_flat y hy), by rw [ints_len]; exact l, ?_⟩
    by_cases cv : cellsV (n : Nat) (ints_ own) 1 = true
    · exact .inr ⟨own, rfl, cv, nm⟩
    · exact .inl (Bool.eq_false_iff.mpr cv)
/-- own cells and one thing more -/
theorem plus_bd {n c : Nat} {h c0 : Addr} {own : List Nat} {G : Hp} {x : V} {p r : Addr} (hh : Hand G h c0) (l : own.length ≤ 10) (fx : Flat4 x) (cv : cellsV (n : Nat) (ints_ own ++ [x]) 1 = false) (np : G p = none) (nr : upd G p (.lst [x]) r = none) :
    Same G (upd (upd G p (.lst [x])) r (.lst (ints_ own ++ [x]))) ∧ Bd n c h (upd (upd G p (.lst [x])) r (.lst (ints_ own ++ [x]))) (.ref r) := by
  have e1 := al (o := .lst [x]) np
  have e2 := al (o := .lst (ints_ own ++ [x])) nr
  refine ⟨e1.trans e2, .bad upd_same ((hh.same e1).ne nr).1 (fun y hy => .inl ?_) (by rw [List.length_append, ints_len]; show _ + 1 < 64; omega) cv⟩
  rcases List.mem_append.mp hy with hy | hy
  · exact ints_flat y hy
  · rw [List.mem_singleton.mp hy]
    exact fx
theorem plus_sz {own : List Nat} {x : V} (l : own.length ≤ 10) : (ints_ own).length + [x].length ≤ sizeLine := by
  rw [ints_len, sizeLine_eq]
  show _ + 1 ≤ _
  omega
theorem snoc_all {P : V → Prop} {xs : List V} {x : V} (h : ∀ y ∈ xs, P y) (hx : P x) : ∀ y ∈ xs ++ [x], P y := fun y hy => (List.mem_append.mp hy).elim (h y) fun hy => by rw [List.mem_singleton.mp hy]; exact hx
section
variable {P : Program} {w : World} {K : PySem.W.Frag} {mg : Str → Option Value} {base : Heap}
def spSown : Sp := fun vs H Q _ => ∃ (h c0 o : Addr) (n c : Nat) (own : List Nat), vs = [.ref h, .int (n : Nat), .int (c : Nat), .ref o] ∧ Hand H h c0 ∧ H o = some (.lst (ints_ own)) ∧ n ≤ 5 ∧ c ∈ own ∧ own.length ≤ 5 ∧ own.Nodup ∧
  ∀ H' v, Stay h c0 H H' → Bd n c h H' v → Q v H'
theorem ok_sown {f fpk : Addr} {fd fdpk : FuncData} (F : Fun K "_law_spoilt_own" "_law_spoilt_own" s__law_spoilt_own f fd)
    (Gpk : FnOk P w K mg base CX0 3 fpk fdpk ["_law_hand_here", "_law_things"] spPick) (gpk : mg "_law_pick" = some (.ref fpk)) (kpk : PySem.W.keepIn K (.ref fpk) = true) (bpk : Binds K fdpk ["_law_hand_here", "_law_things"] [])
    (m_range : mg "range" = none) (m_len : mg "len" = none) : FnOk P w K mg base CX0 4 f fd ["_law_hand_here", "_law_n", "_law_cell", "_law_own"] spSown := by
  refine F.ok sc__law_spoilt_own (fun vs H Q E h => ?_) (fun cdv A outer s H vs Q E hr h => ?_)
  · obtain ⟨h, c0, o, n, c, own, rfl, _⟩ := h
    rfl
  · obtain ⟨h, c0, o, n, c, own, rfl, hh, ho, n5, me, l5, nd0, q⟩ := h
    refine ⟨_, (Evl.pss_cut (ps_setLc (i := 4) (own := [("_law_b", 5)]) (g := gName 5) rfl sc__law_spoilt_own.nd rfl rfl (sw_true rfl rfl rfl (by decide +kernel)) (pi_list (pv 3)) (blkOk_by (own := [("_law_b", 5)]) (N := N__law_spoilt_own) (sc := defScope s__law_spoilt_own) (by decide +kernel)) (fun _ _ _ _ _ => (pg_name (i := 5) sc__law_spoilt_own.nd rfl (by first | exact Or.inl rfl | exact Or.inr rfl))) (fun _ _ _ _ _ => (pts_one (pt_cmpR op_ne (pv 5) (pv 2) (nomark _)))) (fun _ _ _ _ _ => (pv 5)))
 (Evl.pss_cut (ps_setLc (i := 6) (own := [("_law_b", 5)]) (g := gName 5) rfl sc__law_spoilt_own.nd rfl rfl (sw_true rfl rfl rfl (by decide +kernel)) (pi_range1 rfl m_range (pa_cons (pv 1) pa_nil)) (blkOk_by (own := [("_law_b", 5)]) (N := N__law_spoilt_own) (sc := defScope s__law_spoilt_own) (by decide +kernel)) (fun _ _ _ _ _ => (pg_name (i := 5) sc__law_spoilt_own.nd rfl (by first | exact Or.inl rfl | exact Or.inr rfl))) (fun _ _ _ _ _ => (pts_one (pt_cmpR (show OpR _ _ (rIn K true) from op_notIn_seq) (pv 5) (pv 3) (by with_unfolding_all rfl)))) (fun _ _ _ _ _ => (pv 5)))
 (Evl.pss_cut (ps_set (i := 7) sc__law_spoilt_own.nd rfl (by first | exact Or.inl rfl | exact Or.inr rfl) (pe_lst (pa_cons (pv 4) (pa_cons (pe_op op_cat (pv 3) (pe_lst (pa_cons (pv 2) pa_nil))) (pa_cons (pe_op op_cat (pv 3) (pe_lst (pa_cons (pv 1) pa_nil))) (pa_cons (pe_op op_cat (pv 3) (pe_lst (pa_cons (pe_un un_neg pe_int) pa_nil))) (pa_cons (pe_op op_cat (pv 3) (pe_lst (pa_cons pe_non pa_nil))) (pa_cons pe_non (pa_cons (pv 2) (pa_cons pe_str (pa_cons (pe_disp (pps_cons (pv 2) pe_bl pps_nil) rfl rfl (by intro z; cases z) (by decide)) (pa_cons (pe_lst (pa_cons (pv 3) pa_nil)) pa_nil))))))))))))
 (Evl.pss_cut (ps_if (pt_cmpR op_gt (pe_callB call_len_seq (by rfl) m_len boot_len (pa_cons (pv 3) pa_nil)) pe_int (nomark _))
  (pss_one (ps_set (i := 7) sc__law_spoilt_own.nd rfl (by first | exact Or.inl rfl | exact Or.inr rfl) (pe_op op_cat (pv 7) (pe_lst (pa_cons (pe_op op_cat (pv 3) (pe_lst (pa_cons (pe_ix ix_list (pv 4) pe_int (fun _ _ => rfl)) pa_nil))) (pa_cons (pe_op op_cat (pv 3) (pe_lst (pa_cons pe_bl pa_nil))) pa_nil))))))
  pss_nil)
 (Evl.pss_cut (ps_if (pt_cmpR (op_neD hr.units) (pv 6) (pe_lst pa_nil) (nomark _))
  (pss_one (ps_set (i := 7) sc__law_spoilt_own.nd rfl (by first | exact Or.inl rfl | exact Or.inr rfl) (pe_op op_cat (pv 7) (pe_lst (pa_cons (pe_lc (own := [("_law_b", 5)]) (g := gName 5) rfl sc__law_spoilt_own.nd (pi_range1 rfl m_range (pa_cons (pv 1) pa_nil)) (blkOk_by (own := [("_law_b", 5)]) (N := N__law_spoilt_own) (sc := defScope s__law_spoilt_own) (by decide +kernel)) (fun _ _ _ _ _ => (pg_name (i := 5) sc__law_spoilt_own.nd rfl (by first | exact Or.inl rfl | exact Or.inr rfl))) (fun _ _ _ _ _ => (pts_one (pt_cmpR op_ne (pv 5) (pv 2) (nomark _)))) (fun _ _ _ _ _ => (pv 5))) (pa_cons (pv 6) pa_nil))))))
  pss_nil)
 (pss_one (ps_ret (pe_call Gpk (hr.mono (by decide)) (by rfl) gpk kpk bpk .nil pass0 (pa_cons (pv 0) (pa_cons (pv 7) pa_nil)))))))))), ?_⟩
    refine ⟨fun τ H' => ∃ W, τ = [some (.ref h), some (.int (n : Nat)), some (.int (c : Nat)), some (.ref o), some (.ref W), none, none, none] ∧ Same H H' ∧ W ≠ h ∧ H' W = some (.lst (ints_ (own.filter fun b => decide (b ≠ c)))), ?_, fun τ H1 hM => ?_⟩
    · refine ⟨_, rfl, o, rfl, ⟨_, .inl (.inl ho)⟩, fun D hD => lc_list (xs := ints_ own) (fun j H2 => Same H H2 ∧ H2 D = some (.lst (ints_ ((own.take j).filter fun b => decide (b ≠ c))))) ⟨al hD, upd_same⟩ (fun j H2 _ pv => .inl (.inl (pv.1 _ _ ho))) (fun j x H2 hx pv => ?_) (fun H2 pv => ?_)⟩
      · obtain ⟨e2, hD2⟩ := pv
        have hj := (List.getElem?_eq_some_iff.mp hx).1
        rw [ints_len] at hj
        unfold ints_ at hx
        rw [List.getElem?_map] at hx
        obtain ⟨b, hb, rfl⟩ := Option.map_eq_some_iff.mp hx
        have ft := filter_take (p := fun b => decide (b ≠ c)) hb
        refine ⟨rfl, _, rfl, _, rfl, rfl, _, rfl, ?_⟩
        show if (!decide (V.int (b : Nat) = V.int (c : Nat))) = true then _ else _
        rw [dec_int, show (!decide (b = c)) = decide (b ≠ c) from (decide_not).symm]
        refine iteB (fun t => ?_) (fun t => ?_)
        · refine ⟨_, rfl, _, hD2, by rw [ints_len]; exact small1000 (Nat.le_trans (List.length_filter_le _ _) (by rw [List.length_take]; omega)), fun b z hb => ?_, ?_⟩
          · rw [upd_ne (ne_of_none hb hD)]
            exact e2 _ _ hb
          · rw [upd_same, ft, if_pos t, ints_snoc]
        · refine ⟨e2, ?_⟩
          rw [ft, if_neg (by rw [t]; decide), List.append_nil]
          exact hD2
      · obtain ⟨e2, hD2⟩ := pv
        rw [ints_len, List.take_length] at hD2
        exact ⟨D, rfl, e2, (hh.ne hD).1, hD2⟩
    obtain ⟨W, rfl, e1, nW, hW⟩ := hM
    refine ⟨fun τ H' => ∃ U, τ = [some (.ref h), some (.int (n : Nat)), some (.int (c : Nat)), some (.ref o), some (.ref W), none, some (.ref U), none] ∧ Same H1 H' ∧ U ≠ h ∧ H' U = some (.lst (ints_ (outF n own))), ?_, fun τ H2 hM => ?_⟩
    · refine ⟨_, rfl, _, rfl, by omega, by omega, fun D hD => lc_range (lo := 0) (n := n) (fun i H3 => Same H1 H3 ∧ H3 D = some (.lst (ints_ ((List.range i).filter fun b => !decide (b ∈ own))))) ⟨al hD, upd_same⟩ (fun i H3 hi pv => ?_) (fun H3 pv => ?_)⟩
      · obtain ⟨e3, hD3⟩ := pv
        rw [show (0 : Int) + ((i : Nat) : Int) = (i : Nat) from Int.zero_add _]
        refine ⟨rfl, _, rfl, _, rfl, o, _, rfl, .inl (.inl (.inl (e3 _ _ (e1 _ _ ho)))), rfl, flat_ints own, _, rfl, ?_⟩
        show if (!inV (.int (i : Nat)) (ints_ own)) = true then _ else _
        rw [inV_ints]
        refine iteB (fun t => ?_) (fun t => ?_)
        · refine ⟨_, rfl, _, hD3, by rw [ints_len]; exact small1000 (Nat.le_trans (List.length_filter_le _ _) (by rw [List.length_range]; omega)), fun b z hb => ?_, ?_⟩
          · rw [upd_ne (ne_of_none hb hD)]
            exact e3 _ _ hb
          · rw [upd_same, range_filter, if_pos t, ints_snoc]
        · refine ⟨e3, ?_⟩
          rw [range_filter, if_neg (by rw [t]; decide), List.append_nil]
          exact hD3
      · obtain ⟨e3, hD3⟩ := pv
        exact ⟨D, rfl, e3, ((hh.same e1).ne hD).1, hD3⟩
    obtain ⟨U, rfl, e2, nU, hU⟩ := hM
    have e12 := e1.trans e2
    have ho2 := e12 _ _ ho
    have hW2 := e2 _ _ hW
    have hh2 := hh.same e12
    have noh : o ≠ h := hh.nel ho (notHand_ints own)
    have wl5 : (own.filter fun b => decide (b ≠ c)).length ≤ 5 := Nat.le_trans (List.length_filter_le _ _) l5
    have ul5 : (outF n own).length ≤ 5 := Nat.le_trans (List.length_filter_le _ _) (by rw [List.length_range]; omega)
    have wnc : c ∉ own.filter fun b => decide (b ≠ c) := fun z => by have := (List.mem_filter.mp z).2; simp at this
    have unc : c ∉ outF n own := fun z => by have := (List.mem_filter.mp z).2; rw [decide_eq_true me] at this; cases this
    refine ⟨fun τ H' => ∃ tt xs, τ = [some (.ref h), some (.int (n : Nat)), some (.int (c : Nat)), some (.ref o), some (.ref W), none, some (.ref U), some (.ref tt)] ∧ Same H2 H' ∧ tt ≠ h ∧ H' tt = some (.lst xs) ∧ xs.length = 10 ∧ ∀ x ∈ xs, Bd n c h H' x, ?_, fun τ H3 hM => ?_⟩
    · have g0 : ∀ x ∈ [V.ref W], Bd n c h H2 x := fun x hx => by rw [List.mem_singleton.mp hx]; exact .out hW2 nW (by omega) wnc
      refine ⟨_, rfl, _, rfl, _, rfl, by show 1 ≤ sizeLine; decide, fun p1 np1 => ⟨o, p1, _, _, rfl, rfl, al np1 _ _ ho2, upd_same, plus_sz (by omega), fun r1 nr1 => ?_⟩⟩
      obtain ⟨f1, b1⟩ := plus_bd (n := n) (c := c) (own := own) hh2 (by omega) (.int _) (cells_twice me) np1 nr1
      generalize upd (upd H2 p1 (.lst [V.int (c : Nat)])) r1 (.lst (ints_ own ++ [V.int (c : Nat)])) = G1 at f1 b1 ⊢
      have ho3 := f1 _ _ ho2
      have hh3 := hh2.same f1
      have g1 := snoc_all (fun x hx => (g0 x hx).same f1) b1
      refine ⟨_, rfl, _, rfl, by show 1 ≤ sizeLine; decide, fun p2 np2 => ⟨o, p2, _, _, rfl, rfl, al np2 _ _ ho3, upd_same, plus_sz (by omega), fun r2 nr2 => ?_⟩⟩
      obtain ⟨f2, b2⟩ := plus_bd (n := n) (c := c) (own := own) hh3 (by omega) (.int _) (cells_bad (List.mem_append_right _ (List.mem_singleton.mpr rfl)) (by rw [wholeV_int, decide_eq_false (show ¬ ((n : Nat) : Int) ≤ ((n : Nat) : Int) - 1 by omega), Bool.and_false])) np2 nr2
      generalize upd (upd G1 p2 (.lst [V.int (n : Nat)])) r2 (.lst (ints_ own ++ [V.int (n : Nat)])) = G2 at f2 b2 ⊢
      have ho4 := f2 _ _ ho3
      have hh4 := hh3.same f2
      have g2 := snoc_all (fun x hx => (g1 x hx).same f2) b2
      refine ⟨_, rfl, _, rfl, by show 1 ≤ sizeLine; decide, fun p3 np3 => ⟨o, p3, _, _, rfl, rfl, al np3 _ _ ho4, upd_same, plus_sz (by omega), fun r3 nr3 => ?_⟩⟩
      obtain ⟨f3, b3⟩ := plus_bd (n := n) (c := c) (own := own) (x := (fun i : Int => V.int (-i)) 1) hh4 (by omega) (.int (-1)) (cells_bad (List.mem_append_right _ (List.mem_singleton.mpr rfl)) (by rw [wholeV_int]; rfl)) np3 nr3
      generalize upd (upd G2 p3 (.lst [(fun i : Int => V.int (-i)) 1])) r3 (.lst (ints_ own ++ [(fun i : Int => V.int (-i)) 1])) = G3 at f3 b3 ⊢
      have ho5 := f3 _ _ ho4
      have hh5 := hh4.same f3
      have g3 := snoc_all (fun x hx => (g2 x hx).same f3) b3
      refine ⟨_, rfl, by show 1 ≤ sizeLine; decide, fun p4 np4 => ⟨o, p4, _, _, rfl, rfl, al np4 _ _ ho5, upd_same, plus_sz (by omega), fun r4 nr4 => ?_⟩⟩
      obtain ⟨f4, b4⟩ := plus_bd (n := n) (c := c) (own := own) hh5 (by omega) .non (cells_bad (List.mem_append_right _ (List.mem_singleton.mpr rfl)) rfl) np4 nr4
      generalize upd (upd G3 p4 (.lst [V.non])) r4 (.lst (ints_ own ++ [V.non])) = G4 at f4 b4 ⊢
      have ho6 := f4 _ _ ho5
      have hh6 := hh5.same f4
      have g4 := snoc_all (fun x hx => (g3 x hx).same f4) b4
      have g5 := snoc_all (snoc_all (snoc_all g4 (.flat .non)) (.flat (.int ((c : Nat) : Int)))) (.flat (.str ""))
      refine ⟨_, rfl, fun d nd => ?_⟩
      have f5 := al (o := .dK []) nd
      refine ⟨_, rfl, upd_same, [(.inl ((c : Nat) : Int), .bl true)], rfl, by show 1 ≤ 15; decide, ?_⟩
      have f6 : Same G4 (upd (upd G4 d (.dK [])) d (.dK (mergeK [] [(.inl ((c : Nat) : Int), .bl true)]))) := fun b o hb => by
        rw [upd_ne (ne_of_none hb nd), upd_ne (ne_of_none hb nd)]
        exact hb
      have b6 : Bd n c h (upd (upd G4 d (.dK [])) d (.dK (mergeK [] [(.inl ((c : Nat) : Int), .bl true)]))) (.ref d) := .dct upd_same (hh6.ne nd).1
      generalize upd (upd G4 d (.dK [])) d (.dK (mergeK [] [(.inl ((c : Nat) : Int), .bl true)])) = G6 at f6 b6 ⊢
      have ho7 := f6 _ _ ho6
      have hh7 := hh6.same f6
      have g6 := snoc_all (fun x hx => (g5 x hx).same f6) b6
      refine ⟨_, rfl, by show 1 ≤ sizeLine; decide, fun p7 np7 => ?_⟩
      have f7 := al (o := .lst [V.ref o]) np7
      have b7 : Bd n c h (upd G6 p7 (.lst [V.ref o])) (.ref p7) := .bad upd_same (hh7.ne np7).1 (fun y hy => .inr ⟨o, _, List.mem_singleton.mp hy, noh, f7 _ _ ho7⟩) (by show 1 < 64; decide) (cells_bad (List.mem_singleton.mpr rfl) rfl)
      generalize upd G6 p7 (.lst [V.ref o]) = G7 at f7 b7 ⊢
      have hh8 := hh7.same f7
      have g7 := snoc_all (fun x hx => (g6 x hx).same f7) b7
      refine ⟨by show 10 ≤ sizeLine; decide, fun tt ntt => ?_⟩
      have f8 := al (o := .lst [V.ref W, .ref r1, .ref r2, .ref r3, .ref r4, .non, .int (c : Nat), .str "", .ref d, .ref p7]) ntt
      exact ⟨tt, _, rfl, ((((((f1.trans f2).trans f3).trans f4).trans f6).trans f7).trans f8), (hh8.ne ntt).1, upd_same, rfl, fun x hx => (g7 x hx).same f8⟩
    obtain ⟨tt, xs, rfl, e3, ntt, htt, lxs, all⟩ := hM
    have e13 := e12.trans e3
    have ho3 := e13 _ _ ho
    have hW3 := e3 _ _ hW2
    have hU3 := e3 _ _ hU
    have hh3 := hh.same e13
    refine ⟨fun τ H' => ∃ tt xs, τ = [some (.ref h), some (.int (n : Nat)), some (.int (c : Nat)), some (.ref o), some (.ref W), none, some (.ref U), some (.ref tt)] ∧ Same H3 H' ∧ tt ≠ h ∧ H' tt = some (.lst xs) ∧ 10 ≤ xs.length ∧ xs.length ≤ 12 ∧ ∀ x ∈ xs, Bd n c h H' x, ?_, fun τ H4 hM => ?_⟩
    · refine ⟨_, rfl, o, _, rfl, .inl (.inl (.inl ho3)), _, _, rfl, rfl, _, rfl, ?_⟩
      rw [ints_len]
      refine iteB (fun hl => ?_) (fun _ => ⟨tt, xs, rfl, Same.refl H3, ntt, htt, by omega, by omega, all⟩)
      · have hl : (1 : Int) < ((own.length : Nat) : Int) := of_decide_eq_true hl
        obtain ⟨d0, hd0⟩ : ∃ d0, (own.filter fun b => decide (b ≠ c))[0]? = some d0 := by
          cases hw : (own.filter fun b => decide (b ≠ c)) with
          | cons d0 r => exact ⟨d0, rfl⟩
          | nil =>
            have z : ∀ b ∈ own, b = c := fun b hb => by
              have := List.filter_eq_nil_iff.mp hw b hb
              simpa using this
            match own, nd0, hl, z with
            | x :: y :: r, nd0, hl, z =>
              exfalso
              have h1 := z x (List.mem_cons_self ..)
              have h2 := z y (List.mem_cons_of_mem _ (List.mem_cons_self ..))
              exact (List.nodup_cons.mp nd0).1 (by rw [h1, ← h2]; exact List.mem_cons_self ..)
            | [x], nd0, hl, z => exact absurd hl (show ¬ (1 : Int) < ((1 : Nat) : Int) by decide)
            | [], nd0, hl, z => exact absurd hl (show ¬ (1 : Int) < ((0 : Nat) : Int) by decide)
        have md0 : d0 ∈ own := (List.mem_filter.mp (List.mem_of_getElem? hd0)).1
        have wat : (ints_ (own.filter fun b => decide (b ≠ c)))[0]? = some (.int (d0 : Nat)) := by
          unfold ints_
          rw [List.getElem?_map, hd0]
          rfl
        refine ⟨_, rfl, _, rfl, _, rfl, W, _, _, _, rfl, rfl, .inl (.inl hW3), atI_nat (j := 0) wat, by show 1 ≤ sizeLine; decide, fun p1 np1 => ⟨o, p1, _, _, rfl, rfl, al np1 _ _ ho3, upd_same, plus_sz (by omega), fun r1 nr1 => ?_⟩⟩
        obtain ⟨f1, b1⟩ := plus_bd (n := n) (c := c) (own := own) hh3 (by omega) (.int _) (cells_twice md0) np1 nr1
        generalize upd (upd H3 p1 (.lst [V.int (d0 : Nat)])) r1 (.lst (ints_ own ++ [V.int (d0 : Nat)])) = G1 at f1 b1 ⊢
        have ho4 := f1 _ _ ho3
        have hh4 := hh3.same f1
        refine ⟨_, rfl, by show 1 ≤ sizeLine; decide, fun p2 np2 => ⟨o, p2, _, _, rfl, rfl, al np2 _ _ ho4, upd_same, plus_sz (by omega), fun r2 nr2 => ?_⟩⟩
        obtain ⟨f2, b2⟩ := plus_bd (n := n) (c := c) (own := own) hh4 (by omega) (.bl true) (cells_bad (List.mem_append_right _ (List.mem_singleton.mpr rfl)) rfl) np2 nr2
        generalize upd (upd G1 p2 (.lst [V.bl true])) r2 (.lst (ints_ own ++ [V.bl true])) = G2 at f2 b2 ⊢
        have hh5 := hh4.same f2
        refine ⟨by show 2 ≤ sizeLine; decide, fun p3 np3 => ?_⟩
        have f3 := al (o := .lst [V.ref r1, .ref r2]) np3
        have f13 := (f1.trans f2).trans f3
        refine ⟨tt, p3, _, _, rfl, rfl, f13 _ _ htt, upd_same, by rw [lxs]; show 10 + 2 ≤ sizeLine; decide, fun t2 nt2 => ?_⟩
        have f4 := al (o := .lst (xs ++ [V.ref r1, .ref r2])) nt2
        refine ⟨t2, _, rfl, f13.trans f4, (hh3.same f13).ne nt2 |>.1, upd_same, by rw [List.length_append, lxs]; show 10 ≤ 10 + 2; decide, by rw [List.length_append, lxs]; show 10 + 2 ≤ 12; decide, fun x hx => ?_⟩
        rcases List.mem_append.mp hx with hx | hx
        · exact (all x hx).same (f13.trans f4)
        · rcases List.mem_cons.mp hx with rfl | hx
          · exact ((b1.same f2).same f3).same f4
          · rw [List.mem_singleton.mp hx]
            exact (b2.same f3).same f4
    obtain ⟨t1, ys, rfl, e4, nt1, ht1, l1, l2, all1⟩ := hM
    have e14 := e13.trans e4
    have hU4 := e4 _ _ hU3
    have hh4 := hh.same e14
    refine ⟨fun τ H' => ∃ tt xs, τ = [some (.ref h), some (.int (n : Nat)), some (.int (c : Nat)), some (.ref o), some (.ref W), none, some (.ref U), some (.ref tt)] ∧ Same H4 H' ∧ tt ≠ h ∧ H' tt = some (.lst xs) ∧ 10 ≤ xs.length ∧ xs.length ≤ 14 ∧ ∀ x ∈ xs, Bd n c h H' x, ?_, fun τ H5 hM => ?_⟩
    · refine ⟨_, rfl, by show 0 ≤ sizeLine; decide, fun z nz => ?_⟩
      have f1 := al (o := .lst []) nz
      have hz : upd H4 z (.lst []) z = some (.lst []) := upd_same
      have hU5 := f1 _ _ hU4
      have hh5 := hh4.same f1
      have ht5 := f1 _ _ ht1
      refine ⟨_, _, .lst (.inl (.inl hU5)) (dp_ints _), .lst (.inl (.inl hz)) .nil, shapedL_ints _, shapedL_ints [], _, rfl, ?_⟩
      generalize upd H4 z (.lst []) = G0 at f1 hz hU5 hh5 ht5 ⊢
      refine iteB (fun _ => ?_) (fun _ => ⟨t1, ys, rfl, f1, nt1, ht5, by omega, by omega, fun x hx => (all1 x hx).same f1⟩)
      refine ⟨_, rfl, _, rfl, _, rfl, by omega, by omega, fun D hD => lc_range (lo := 0) (n := n) (fun i H2 => Same G0 H2 ∧ H2 D = some (.lst (ints_ ((List.range i).filter fun b => decide (b ≠ c))))) ⟨al hD, upd_same⟩ (fun i H2 hi pv => ?_) (fun H2 pv => ?_)⟩
      · obtain ⟨e2, hD2⟩ := pv
        rw [show (0 : Int) + ((i : Nat) : Int) = (i : Nat) from Int.zero_add _]
        refine ⟨rfl, _, rfl, _, rfl, rfl, _, rfl, ?_⟩
        show if (!decide (V.int (i : Nat) = V.int (c : Nat))) = true then _ else _
        rw [dec_int, show (!decide (i = c)) = decide (i ≠ c) from (decide_not).symm]
        refine iteB (fun t => ?_) (fun t => ?_)
        · refine ⟨_, rfl, _, hD2, by rw [ints_len]; exact small1000 (Nat.le_trans (List.length_filter_le _ _) (by rw [List.length_range]; omega)), fun b z hb => ?_, ?_⟩
          · rw [upd_ne (ne_of_none hb hD)]
            exact e2 _ _ hb
          · rw [upd_same, range_filter, if_pos t, ints_snoc]
        · refine ⟨e2, ?_⟩
          rw [range_filter, if_neg (by rw [t]; decide), List.append_nil]
          exact hD2
      · obtain ⟨e2, hD2⟩ := pv
        have hD2 : H2 D = some (.lst (ints_ (othF n c))) := hD2
        have nDh := (hh5.ne hD).1
        have hh6 := hh5.same e2
        refine ⟨_, rfl, by show 2 ≤ sizeLine; decide, fun p3 np3 => ?_⟩
        have f3 := al (o := .lst [V.ref D, .ref U]) np3
        have f23 := e2.trans f3
        refine ⟨t1, p3, _, _, rfl, rfl, f23 _ _ ht5, upd_same, by rw [sizeLine_eq]; show ys.length + 2 ≤ _; omega, fun t2 nt2 => ?_⟩
        have f4 := al (o := .lst (ys ++ [V.ref D, .ref U])) nt2
        have f14 := f1.trans (f23.trans f4)
        refine ⟨t2, _, rfl, f14, ((hh6.same f3).ne nt2).1, upd_same, by rw [List.length_append]; omega, by rw [List.length_append]; show _ + 2 ≤ 14; omega, fun x hx => ?_⟩
        rcases List.mem_append.mp hx with hx | hx
        · exact (all1 x hx).same f14
        · rcases List.mem_cons.mp hx with rfl | hx
          · exact .out (f4 _ _ (f3 _ _ hD2)) nDh (by have := othF_len n c; omega) (fun z => by have := (List.mem_filter.mp z).2; simp at this)
          · rw [List.mem_singleton.mp hx]
            exact .out (f4 _ _ (f23 _ _ hU5)) nU (by omega) unc
    · obtain ⟨t2, zs, rfl, e5, nt2, ht2, k1, k2, all2⟩ := hM
      have hh5 := hh4.same e5
      refine ⟨_, rfl, _, rfl, h, c0, t2, zs, rfl, hh5, nt2, ht2, by omega, by omega, fun H6 j v d6 hv => ?_⟩
      have b := (all2 v (List.mem_of_getElem? hv)).but (H' := H6) fun b o nb z => by rw [d6.but b nb]; exact z
      exact q H6 v ((Stay.of_same hh (e14.trans e5)).drawn d6) b
end
end K7
end
/-! ## P28 -/
section
open PySem PySem.Spec PyProof.Rows L2
namespace K7
abbrev N__law_spoilt_words : List Str := ["_law_hand_here", "_law_n", "_law_cell", "_law_words", "_law_place", "_law_row", "_law_mine"]
abbrev s__law_spoilt_words : Stmt := topS 51
theorem sc__law_spoilt_words : FnScope ["_law_hand_here", "_law_n", "_law_cell", "_law_words", "_law_place", "_law_row", "_law_mine"] ["_law_hand_here", "_law_n", "_law_cell", "_law_words"] (defScope s__law_spoilt_words) := ⟨rfl, rfl, rfl, by decide +kernel, rfl, by decide +kernel, by decide +kernel⟩
/-! ### words that are none -/
theorem all_off {vs : List V} {x : V} (hx : x ∈ vs) (h : isWord x = false) : vs.all isWord = false := List.all_eq_false.mpr ⟨x, hx, by rw [h]; decide⟩
inductive Bw (n c : Nat) (h : Addr) (H : Hp) : V → Prop
  | flat {v : V} (f : Flat4 v) : Bw n c h H v
  | row {b : Addr} {vs : List V} (hb : H b = some (.lst vs)) (ne : b ≠ h) (it : ∀ y ∈ vs, Flat4 y ∨ ∃ d ys, y = .ref d ∧ d ≠ h ∧ H d = some (.lst ys)) (l : vs.length ≤ 10)
      (off : (decide (vs.length = n) && (vs.all isWord && decide (vs[c]? = some (.str "none")))) = false) : Bw n c h H (.ref b)
theorem Bw.but {n c : Nat} {h : Addr} {H H' : Hp} {v : V} (b : Bw n c h H v) (e : But h H H') : Bw n c h H' v := by
  cases b with
  | flat f => exact .flat f
  | row hb ne it l off => exact .row (e _ _ ne hb) ne (fun y hy => (it y hy).imp id fun ⟨d, ys, h1, h2, h3⟩ => ⟨d, ys, h1, h2, e _ _ h2 h3⟩) l off
theorem Bw.same {n c : Nat} {h : Addr} {H H' : Hp} {v : V} (b : Bw n c h H v) (e : Same H H') : Bw n c h H' v := b.but fun _ _ _ hb => e _ _ hb
theorem Bw.rw {n c : Nat} {h : Addr} {H : Hp} {v : V} (b : Bw n c h H v) : RwV n c H v false := by
  cases b with
  | flat f => exact .no (.inl f)
  | row hb ne it l off =>
    have z := RwV.row (n := n) (a := c) (.inr hb) (fun y hy => (it y hy).imp id fun ⟨d, ys, h1, _, h3⟩ => ⟨d, ys, h1, h3⟩) l
    rw [off] at z
    exact z
theorem wds_flat4 (r : List Nat) : ∀ y ∈ wds r, Flat4 y := fun y hy => by
  unfold wds at hy
  obtain ⟨k, _, rfl⟩ := List.mem_map.mp hy
  exact .str _
section
variable {P : Program} {w : World} {K : PySem.W.Frag} {mg : Str → Option Value} {base : Heap}
def spSwo : Sp := fun vs H Q _ => ∃ (h c0 t : Addr) (n c : Nat) (r : List Nat), vs = [.ref h, .int (n : Nat), .int (c : Nat), .ref t] ∧ Hand H h c0 ∧ H t = some (.lst (wds r)) ∧ r.length = n ∧ 2 ≤ n ∧ n ≤ 5 ∧ c < n ∧
  ∀ H' v, Stay h c0 H H' → Bw n c h H' v → Q v H'
theorem ok_swo {f fdr fpk : Addr} {fd fddr fdpk : FuncData} (F : Fun K "_law_spoilt_words" "_law_spoilt_words" s__law_spoilt_words f fd)
    (Gdr : FnOk P w K mg base CX0 2 fdr fddr ["_law_hand_here", "_law_many"] spDraw) (gdr : mg "_law_draw" = some (.ref fdr)) (kdr : PySem.W.keepIn K (.ref fdr) = true) (bdr : Binds K fddr ["_law_hand_here", "_law_many"] [])
    (Gpk : FnOk P w K mg base CX0 3 fpk fdpk ["_law_hand_here", "_law_things"] spPick) (gpk : mg "_law_pick" = some (.ref fpk)) (kpk : PySem.W.keepIn K (.ref fpk) = true) (bpk : Binds K fdpk ["_law_hand_here", "_law_things"] [])
    (m_list : mg "list" = none) : FnOk P w K mg base CX0 4 f fd ["_law_hand_here", "_law_n", "_law_cell", "_law_words"] spSwo := by
  refine F.ok sc__law_spoilt_words (fun vs H Q E h => ?_) (fun cdv A outer s H vs Q E hr h => ?_)
  · obtain ⟨h, c0, t, n, c, r, rfl, _⟩ := h
    rfl
  · obtain ⟨h, c0, t, n, c, r, rfl, hh, ht, rl, n2, n5, hc, q⟩ := h
    refine ⟨_, (pss_cons (ps_set (i := 4) sc__law_spoilt_words.nd rfl (by first | exact Or.inl rfl | exact Or.inr rfl) (pe_call Gdr (hr.mono (by decide)) (by rfl) gdr kdr bdr .nil pass0 (pa_cons (pv 0) (pa_cons (pv 1) pa_nil))))
 (pss_cons (ps_set (i := 5) sc__law_spoilt_words.nd rfl (by first | exact Or.inl rfl | exact Or.inr rfl) (pe_callTy call_list_of (by rfl) m_list boot_list (pa_cons (pv 3) pa_nil)))
 (Evl.pss_cut (ps_asg (pe_call Gpk (hr.mono (by decide)) (by rfl) gpk kpk bpk .nil pass0 (pa_cons (pv 0) (pa_cons (pe_lst (pa_cons pe_str (pa_cons pe_str (pa_cons pe_str (pa_cons pe_non (pa_cons pe_bl (pa_cons pe_int (pa_cons (pe_lst (pa_cons pe_str pa_nil)) (pa_cons pe_str pa_nil))))))))) pa_nil))) (pg_sub (pv 5) (pv 4) set_list))
 (pss_cons (ps_set (i := 6) sc__law_spoilt_words.nd rfl (by first | exact Or.inl rfl | exact Or.inr rfl) (pe_callTy call_list_of (by rfl) m_list boot_list (pa_cons (pv 3) pa_nil)))
 (Evl.pss_cut (ps_asg (pe_call Gpk (hr.mono (by decide)) (by rfl) gpk kpk bpk .nil pass0 (pa_cons (pv 0) (pa_cons (pe_lst (pa_cons pe_str (pa_cons pe_str (pa_cons pe_str pa_nil)))) pa_nil))) (pg_sub (pv 6) (pv 2) set_list))
 (pss_one (ps_ret (pe_call Gpk (hr.mono (by decide)) (by rfl) gpk kpk bpk .nil pass0 (pa_cons (pv 0) (pa_cons (pe_lst (pa_cons (pv 5) (pa_cons (pv 5) (pa_cons (pv 6) (pa_cons (pv 6) (pa_cons (pe_op op_cat (pv 3) (pe_lst (pa_cons pe_str pa_nil))) (pa_cons (pe_slice sl_list (pv 3) po_none (po_some (pe_op op_sub (pv 1) pe_int))) (pa_cons pe_non (pa_cons pe_str (pa_cons (pe_lst pa_nil) (pa_cons pe_int (pa_cons (pe_lst (pa_cons (pv 3) pa_nil)) pa_nil)))))))))))) pa_nil)))))))))), ?_⟩
    have nth : t ≠ h := hh.nel ht (by rw [wds_strs]; exact notHand_strs _)
    have wl : (wds r).length = n := by rw [wds_len, rl]
    refine ⟨_, rfl, _, rfl, h, c0, n, rfl, hh, by omega, Int.lt_of_le_of_lt (show ((n : Nat) : Int) ≤ 1000 by omega) (by decide), fun H1 p d1 p0 p1 => ?_⟩
    obtain ⟨k, rfl⟩ : ∃ k : Nat, p = (k : Int) := ⟨p.toNat, by omega⟩
    have hk : k < n := by omega
    have st1 := Stay.of_drawn hh d1
    have ht1 := st1.but t _ nth ht
    refine ⟨_, rfl, t, _, rfl, .inl (.inl (.inl ht1)), fun R nR => ?_⟩
    have fR : H R = none := st1.free nR
    obtain ⟨nRh, nRc⟩ := hh.ne fR
    have st2 := st1.same (al (o := .lst (wds r)) nR)
    have hR2 : upd H1 R (.lst (wds r)) R = some (.lst (wds r)) := upd_same
    have nRt : R ≠ t := (ne_of_none ht fR).symm
    generalize upd H1 R (.lst (wds r)) = H2 at st2 hR2 ⊢
    refine ⟨fun τ H' => τ = [some (.ref h), some (.int (n : Nat)), some (.int (c : Nat)), some (.ref t), some (.int (k : Nat)), some (.ref R), none] ∧ Stay h c0 H H' ∧ Bw n c h H' (.ref R), ?_, fun τ H3 hM => ?_⟩
    · refine ⟨_, rfl, by show 1 ≤ sizeLine; decide, fun b1 nb1 => ?_⟩
      have e1 := al (o := .lst [V.str "none"]) nb1
      have hb1 : upd H2 b1 (.lst [V.str "none"]) b1 = some (.lst [V.str "none"]) := upd_same
      have st3 := st2.same e1
      have hR3 := e1 _ _ hR2
      have nb1h := (hh.ne (st2.free nb1)).1
      have nRb : b1 ≠ R := (ne_of_none hR2 nb1).symm
      generalize upd H2 b1 (.lst [V.str "none"]) = H3 at e1 hb1 st3 hR3 ⊢
      refine ⟨by show 8 ≤ sizeLine; decide, fun lp nlp => ?_⟩
      have e2 := al (o := .lst [V.str "own", .str "", .str "Awake", .non, .bl true, .int 0, .ref b1, .str "awake "]) nlp
      refine ⟨h, c0, lp, _, rfl, st3.hand.same e2, (st3.hand.ne nlp).1, upd_same, by show 0 < 8; decide, by show 8 ≤ 1000; decide, fun H5 j v d5 hv => ?_⟩
      have st5 := (st3.same e2).drawn d5
      have hR5 : H5 R = some (.lst (wds r)) := by rw [d5.but R nRh]; exact e2 _ _ hR3
      have hb5 : H5 b1 = some (.lst [V.str "none"]) := by rw [d5.but b1 nb1h]; exact e2 _ _ hb1
      have off : isWord v = false ∧ (Flat4 v ∨ v = .ref b1) := by
        have m := List.mem_of_getElem? hv
        simp only [List.mem_cons, List.not_mem_nil, or_false] at m
        rcases m with rfl | rfl | rfl | rfl | rfl | rfl | rfl | rfl
        · exact ⟨by decide +kernel, .inl (.str _)⟩
        · exact ⟨by decide +kernel, .inl (.str _)⟩
        · exact ⟨by decide +kernel, .inl (.str _)⟩
        · exact ⟨rfl, .inl .non⟩
        · exact ⟨rfl, .inl (.bl _)⟩
        · exact ⟨rfl, .inl (.int _)⟩
        · exact ⟨rfl, .inr rfl⟩
        · exact ⟨by decide +kernel, .inl (.str _)⟩
      refine ⟨_, rfl, _, rfl, R, _, _, k, rfl, rfl, hR5, ixN_nat (by rw [wl]; exact hk), rfl, ⟨fun b o nb hb => ?_, hh, st5.hand.upd nRh nRc⟩, ?_⟩
      · rw [upd_ne (ne_of_none hb fR)]
        exact st5.but b o nb hb
      · refine .row upd_same nRh (fun y hy => ?_) (by rw [List.length_set, wl]; omega) ?_
        · rcases List.mem_or_eq_of_mem_set hy with hy | rfl
          · exact .inl (wds_flat4 r y hy)
          · exact off.2.imp id fun z => ⟨b1, _, z, nb1h, by rw [upd_ne nRb]; exact hb5⟩
        · rw [all_off (List.mem_set (by rw [wl]; exact hk) v) off.1, Bool.false_and, Bool.and_false]
    obtain ⟨rfl, st3, bR⟩ := hM
    have ht3 := st3.but t _ nth ht
    refine ⟨_, rfl, t, _, rfl, .inl (.inl (.inl ht3)), fun M nM => ?_⟩
    have fM : H M = none := st3.free nM
    obtain ⟨nMh, nMc⟩ := hh.ne fM
    have eM := al (o := .lst (wds r)) nM
    have st4 := st3.same eM
    have hM4 : upd H3 M (.lst (wds r)) M = some (.lst (wds r)) := upd_same
    have bR4 := bR.same eM
    generalize upd H3 M (.lst (wds r)) = H4 at st4 hM4 bR4 ⊢
    clear bR st3 eM ht3
    refine ⟨fun τ H' => τ = [some (.ref h), some (.int (n : Nat)), some (.int (c : Nat)), some (.ref t), some (.int (k : Nat)), some (.ref R), some (.ref M)] ∧ Stay h c0 H H' ∧ Bw n c h H' (.ref R) ∧ Bw n c h H' (.ref M), ?_, fun τ H5 hM => ?_⟩
    · refine ⟨_, rfl, by show 3 ≤ sizeLine; decide, fun lp nlp => ?_⟩
      have e2 := al (o := .lst [V.str "awake", .str "needed", .str "asleep"]) nlp
      refine ⟨h, c0, lp, _, rfl, st4.hand.same e2, (st4.hand.ne nlp).1, upd_same, by show 0 < 3; decide, by show 3 ≤ 1000; decide, fun H5 j v d5 hv => ?_⟩
      have st5 := (st4.same e2).drawn d5
      have hM5 : H5 M = some (.lst (wds r)) := by rw [d5.but M nMh]; exact e2 _ _ hM4
      have bR5 := bR4.but (H' := H5) fun b o nb z => by rw [d5.but b nb]; exact e2 _ _ z
      have off : v ≠ .str "none" ∧ Flat4 v := by
        have m := List.mem_of_getElem? hv
        simp only [List.mem_cons, List.not_mem_nil, or_false] at m
        rcases m with rfl | rfl | rfl <;> exact ⟨by decide +kernel, .str _⟩
      have bM : Bw n c h (upd H5 M (.lst ((wds r).set c v))) (.ref M) := by
        refine .row upd_same nMh (fun y hy => .inl ?_) (by rw [List.length_set, wl]; omega) ?_
        · rcases List.mem_or_eq_of_mem_set hy with hy | rfl
          · exact wds_flat4 r y hy
          · exact off.2
        · have hs : ((wds r).set c v)[c]? = some v := List.getElem?_set_self (by rw [wl]; exact hc)
          rw [hs, decide_eq_false (fun z => off.1 (Option.some.inj z)), Bool.and_false, Bool.and_false]
      have bR6 : Bw n c h (upd H5 M (.lst ((wds r).set c v))) (.ref R) := by
        cases bR5 with
        | row hb ne it l off' =>
          by_cases hRM : R = M
          · subst hRM
            exact bM
          · refine .row (by rw [upd_ne hRM]; exact hb) ne (fun y hy => (it y hy).imp id fun ⟨d, ys, h1, h2, h3⟩ => ?_) l off'
            by_cases hd : d = M
            · exact ⟨d, _, h1, h2, by rw [hd]; exact upd_same⟩
            · exact ⟨d, ys, h1, h2, by rw [upd_ne hd]; exact h3⟩
        | flat f => cases f
      refine ⟨_, rfl, _, rfl, M, _, _, c, rfl, rfl, hM5, ixN_nat (by rw [wl]; exact hc), rfl, ⟨fun b o nb hb => ?_, hh, st5.hand.upd nMh nMc⟩, bR6, bM⟩
      rw [upd_ne (ne_of_none hb fM)]
      exact st5.but b o nb hb
    obtain ⟨rfl, st5, bR5, bM5⟩ := hM
    clear st4 hM4 bR4
    have ht5 := st5.but t _ nth ht
    refine ⟨_, rfl, _, rfl, _, rfl, _, rfl, _, rfl, _, rfl, by show 1 ≤ sizeLine; decide, fun p1 np1 => ?_⟩
    have e1 := al (o := .lst [V.str "none"]) np1
    have h1 : upd H5 p1 (.lst [V.str "none"]) p1 = some (.lst [V.str "none"]) := upd_same
    have st6 := st5.same e1
    have ht6 := e1 _ _ ht5
    generalize upd H5 p1 (.lst [V.str "none"]) = H6 at e1 h1 st6 ht6 ⊢
    refine ⟨t, p1, _, _, rfl, rfl, ht6, h1, by rw [wl, sizeLine_eq]; show n + 1 ≤ _; omega, fun p2 np2 => ?_⟩
    have e2 := al (o := .lst (wds r ++ [V.str "none"])) np2
    have b2 : Bw n c h (upd H6 p2 (.lst (wds r ++ [V.str "none"]))) (.ref p2) := by
      refine .row upd_same ((hh.ne (st6.free np2)).1) (fun y hy => .inl ?_) (by rw [List.length_append, wl]; show n + 1 ≤ 10; omega) ?_
      · rcases List.mem_append.mp hy with hy | hy
        · exact wds_flat4 r y hy
        · rw [List.mem_singleton.mp hy]; exact .str _
      · rw [List.length_append, wl, decide_eq_false (show ¬ n + [V.str "none"].length = n by show ¬ n + 1 = n; omega), Bool.false_and]
    have st7 := st6.same e2
    have ht7 := e2 _ _ ht6
    generalize upd H6 p2 (.lst (wds r ++ [V.str "none"])) = H7 at e2 b2 st7 ht7 ⊢
    have f57 := e1.trans e2
    have cu : cutV (wds r) none (some (((n : Nat) : Int) - 1)) = (wds r).take (n - 1) := by
      rw [show ((n : Nat) : Int) - 1 = ((n - 1 : Nat) : Int) by omega]
      unfold cutV
      simp only [HT.sIx_nat, HT.sIx_none]
      rw [List.drop_zero, Nat.sub_zero, Nat.min_eq_left (by omega)]
    refine ⟨_, rfl, _, rfl, _, _, rfl, rfl, _, rfl, t, _, rfl, .inl (.inl ht7), fun p3 np3 => ?_⟩
    rw [cu]
    have e3 := al (o := .lst ((wds r).take (n - 1))) np3
    have b3 : Bw n c h (upd H7 p3 (.lst ((wds r).take (n - 1)))) (.ref p3) := by
      refine .row upd_same ((hh.ne (st7.free np3)).1) (fun y hy => .inl (wds_flat4 r y (List.mem_of_mem_take hy))) (by rw [List.length_take]; omega) ?_
      rw [List.length_take, wl, decide_eq_false (show ¬ min (n - 1) n = n by omega), Bool.false_and]
    have st8 := st7.same e3
    have ht8 := e3 _ _ ht7
    generalize upd H7 p3 (.lst ((wds r).take (n - 1))) = H8 at e3 b3 st8 ht8 ⊢
    refine ⟨by show 0 ≤ sizeLine; decide, fun p4 np4 => ?_⟩
    have e4 := al (o := .lst []) np4
    have b4 : Bw n c h (upd H8 p4 (.lst [])) (.ref p4) := by
      refine .row upd_same ((hh.ne (st8.free np4)).1) (fun y hy => nomatch hy) (Nat.zero_le _) ?_
      rw [decide_eq_false (show ¬ ([] : List V).length = n by show ¬ 0 = n; omega), Bool.false_and]
    have st9 := st8.same e4
    have ht9 := e4 _ _ ht8
    generalize upd H8 p4 (.lst []) = H9 at e4 b4 st9 ht9 ⊢
    refine ⟨_, rfl, by show 1 ≤ sizeLine; decide, fun p5 np5 => ?_⟩
    have e5 := al (o := .lst [V.ref t]) np5
    have b5 : Bw n c h (upd H9 p5 (.lst [V.ref t])) (.ref p5) := by
      refine .row upd_same ((hh.ne (st9.free np5)).1) (fun y hy => .inr ⟨t, _, List.mem_singleton.mp hy, nth, e5 _ _ ht9⟩) (by show 1 ≤ 10; decide) ?_
      rw [decide_eq_false (show ¬ [V.ref t].length = n by show ¬ 1 = n; omega), Bool.false_and]
    have st10 := st9.same e5
    generalize upd H9 p5 (.lst [V.ref t]) = H10 at e5 b5 st10 ⊢
    refine ⟨by show 11 ≤ sizeLine; decide, fun lp nlp => ?_⟩
    have e6 := al (o := .lst [V.ref R, .ref R, .ref M, .ref M, .ref p2, .ref p3, .non, .str "none", .ref p4, .int 0, .ref p5]) nlp
    have s5 := e5.trans e6
    have s4 := e4.trans s5
    have s3 := e3.trans s4
    refine ⟨h, c0, lp, _, rfl, st10.hand.same e6, (st10.hand.ne nlp).1, upd_same, by show 0 < 11; decide, by show 11 ≤ 1000; decide, fun H12 j v d12 hv => ?_⟩
    refine q H12 v ((st10.same e6).drawn d12) ?_
    have go : ∀ {x : V}, Bw n c h (upd H10 lp (.lst [V.ref R, .ref R, .ref M, .ref M, .ref p2, .ref p3, .non, .str "none", .ref p4, .int 0, .ref p5])) x → Bw n c h H12 x := fun {x} b => b.but (H' := H12) fun b o nb z => by rw [d12.but b nb]; exact z
    have m := List.mem_of_getElem? hv
    simp only [List.mem_cons, List.not_mem_nil, or_false] at m
    rcases m with rfl | rfl | rfl | rfl | rfl | rfl | rfl | rfl | rfl | rfl | rfl
    · exact go (bR5.same (f57.trans s3))
    · exact go (bR5.same (f57.trans s3))
    · exact go (bM5.same (f57.trans s3))
    · exact go (bM5.same (f57.trans s3))
    · exact go (b2.same s3)
    · exact go (b3.same s4)
    · exact go (.flat .non)
    · exact go (.flat (.str _))
    · exact go (b4.same s5)
    · exact go (.flat (.int _))
    · exact go (b5.same e6)
end
end K7
end
/-! ## P29 -/
section
open PySem PySem.Spec PyProof.Rows L2
namespace K7
abbrev N__law_parts : List Str := ["_law_hand_here", "_law_n", "_law_place", "_law_cell", "_law_number", "_law_own", "_law_words", "_law_due", "_law_outside", "_law_others", "_law_b", "_law_row", "_law_lot", "_law_where", "_law_what"]
abbrev s__law_parts : Stmt := topS 52
theorem sc__law_parts : FnScope ["_law_hand_here", "_law_n", "_law_place", "_law_cell", "_law_number", "_law_own", "_law_words", "_law_due", "_law_outside", "_law_others", "_law_b", "_law_row", "_law_lot", "_law_where", "_law_what"] ["_law_hand_here", "_law_n", "_law_place", "_law_cell", "_law_number"] (defScope s__law_parts) := ⟨rfl, rfl, rfl, by decide +kernel, rfl, by decide +kernel, by decide +kernel⟩
/-! ### the parts of what is to be a view -/
theorem getD_set {r : List Nat} {b d x : Nat} (hb : b < r.length) : (r.set b x).getD d 0 = if d = b then x else r.getD d 0 := by
  rw [List.getD_eq_getElem?_getD, List.getElem?_set, List.getD_eq_getElem?_getD]
  by_cases h : b = d
  · subst h
    rw [if_pos rfl, if_pos rfl, if_pos hb]
    rfl
  · rw [if_neg h, if_neg (fun z => h z.symm)]
theorem slp_false {n : Nat} {own row : List Nat} : slpB n own row = false ↔ ∀ b, b < n → b ∉ own → row.getD b 0 < 3 := by
  constructor
  · intro h b hb hn
    have z := List.any_eq_false.mp h (row.getD b 0) (List.mem_map.mpr ⟨b, List.mem_filter.mpr ⟨List.mem_range.mpr hb, by rw [decide_eq_false hn]; rfl⟩, rfl⟩)
    have z : ¬ (3 ≤ row.getD b 0) := fun e => z (decide_eq_true e)
    omega
  · intro h
    refine List.any_eq_false.mpr fun k hk => ?_
    obtain ⟨b, hb, rfl⟩ := List.mem_map.mp hk
    obtain ⟨h1, h2⟩ := List.mem_filter.mp hb
    have nb : b ∉ own := fun h => by rw [decide_eq_true h] at h2; cases h2
    have := h b (List.mem_range.mp h1) nb
    rw [decide_eq_false (by omega)]
    decide
theorem awk_false {own row : List Nat} : awkB own row = false ↔ ∀ b ∈ own, ¬ (row.getD b 0 = 1 ∨ row.getD b 0 = 2) := by
  constructor
  · intro h b hb e
    exact List.any_eq_false.mp h (row.getD b 0) (List.mem_map.mpr ⟨b, hb, rfl⟩) (decide_eq_true e)
  · intro h
    refine List.any_eq_false.mpr fun k hk => ?_
    obtain ⟨b, hb, rfl⟩ := List.mem_map.mp hk
    rw [decide_eq_false (h b hb)]
    decide
theorem slp_perm {n : Nat} {own own' row : List Nat} (p : own'.Perm own) : slpB n own' row = slpB n own row := by
  by_cases h : slpB n own row = false
  · rw [h]
    exact slp_false.mpr fun b hb hn => slp_false.mp h b hb fun m => hn (p.mem_iff.mpr m)
  · by_cases h' : slpB n own' row = false
    · exact absurd (slp_false.mpr fun b hb hn => slp_false.mp h' b hb fun m => hn (p.mem_iff.mp m)) h
    · rw [eq_true_of_ne_false h, eq_true_of_ne_false h']
theorem awk_perm {own own' row : List Nat} (p : own'.Perm own) : awkB own' row = awkB own row := by
  by_cases h : awkB own row = false
  · rw [h]
    exact awk_false.mpr fun b hb => awk_false.mp h b (p.mem_iff.mp hb)
  · by_cases h' : awkB own' row = false
    · exact absurd (awk_false.mpr fun b hb => awk_false.mp h' b (p.mem_iff.mpr hb)) h
    · rw [eq_true_of_ne_false h, eq_true_of_ne_false h']
def D3 (n : Nat) (own row : List Nat) (du : V) : Prop := (slpB n own row = true ∧ du = .str "asleep") ∨ (slpB n own row = false ∧ awkB own row = true ∧ du = .str "awake") ∨ (slpB n own row = false ∧ awkB own row = false ∧ du = .non)
def D4 (n c : Nat) (h : Addr) (H : Hp) (own : List Nat) (rv du : V) : Prop := (Bw n c h H rv ∧ du = .str "standings") ∨ ∃ t row, rv = .ref t ∧ t ≠ h ∧ H t = some (.lst (wds row)) ∧ row.length = n ∧ row.getD c 0 = 0 ∧ D3 n own row du
def D5 (n c : Nat) (h : Addr) (H : Hp) (lv rv du : V) : Prop := (Bd n c h H lv ∧ du = .str "own") ∨ ∃ o own, lv = .ref o ∧ o ≠ h ∧ SqOf H o (ints_ own) ∧ (∀ b ∈ own, b < n) ∧ own.Nodup ∧ c ∈ own ∧ D4 n c h H own rv du
/-- a flat thing, a list or a tuple -/
def Lb (h : Addr) (H : Hp) (v : V) : Prop := Flat4 v ∨ ∃ d xs, v = .ref d ∧ d ≠ h ∧ SqOf H d xs
def D6 (n c : Nat) (h : Addr) (H : Hp) (cv lv rv du : V) : Prop := (Lb h H cv ∧ wholeV cv 0 ((n : Nat) - 1) = false ∧ du = .str "cell") ∨ (cv = .int (c : Nat) ∧ D5 n c h H lv rv du)
def D7 (pl : Addr) (n c : Nat) (h : Addr) (H : Hp) (w cv lv rv du : V) : Prop := (Lb h H w ∧ du = .str "land") ∨ (w = .ref pl ∧ D6 n c h H cv lv rv du)
section
variable {pl : Addr} {n c : Nat} {h : Addr} {H H' : Hp} {own : List Nat} {w cv lv rv du : V}
theorem D4.but (d : D4 n c h H own rv du) (e : But h H H') : D4 n c h H' own rv du := d.imp (fun ⟨b, k⟩ => ⟨b.but e, k⟩) fun ⟨t, row, h1, h2, h3, h4⟩ => ⟨t, row, h1, h2, e _ _ h2 h3, h4⟩
theorem D5.but (d : D5 n c h H lv rv du) (e : But h H H') : D5 n c h H' lv rv du := d.imp (fun ⟨b, k⟩ => ⟨b.but e, k⟩) fun ⟨o, own, h1, h2, h3, h4, h5, h6, h7⟩ => ⟨o, own, h1, h2, h3.imp (e _ _ h2) (e _ _ h2), h4, h5, h6, h7.but e⟩
theorem Lb.but (d : Lb h H w) (e : But h H H') : Lb h H' w := d.imp id fun ⟨d, xs, h1, h2, h3⟩ => ⟨d, xs, h1, h2, h3.imp (e _ _ h2) (e _ _ h2)⟩
theorem D6.but (d : D6 n c h H cv lv rv du) (e : But h H H') : D6 n c h H' cv lv rv du := d.imp (fun ⟨b, k⟩ => ⟨b.but e, k⟩) fun ⟨h1, h2⟩ => ⟨h1, h2.but e⟩
theorem D7.but (d : D7 pl n c h H w cv lv rv du) (e : But h H H') : D7 pl n c h H' w cv lv rv du := d.imp (fun ⟨b, k⟩ => ⟨b.but e, k⟩) fun ⟨h1, h2⟩ => ⟨h1, h2.but e⟩
structure To (K : PySem.W.Frag) (C : Addr) : Prop where
  kn : PySem.W.kitOne K (.type "NoneType") (.ref C) = some false
  kb : PySem.W.kitOne K (.type "bool") (.ref C) = some false
  ki : PySem.W.kitOne K (.type "int") (.ref C) = some false
  ks : PySem.W.kitOne K (.type "str") (.ref C) = some false
  kt : PySem.W.kitOne K (.type "tuple") (.ref C) = some false
  kl : PySem.W.kitOne K (.type "list") (.ref C) = some false
theorem Lb.non {K : PySem.W.Frag} {C : Addr} (TO : To K C) (d : Lb h H w) : NonC K H C w := by
  rcases d with f | ⟨d, xs, rfl, _, k⟩
  · cases f with
    | non => exact ⟨_, fun _ _ => .base .non, TO.kn⟩
    | bl b => exact ⟨_, fun _ _ => .base (.bl b), TO.kb⟩
    | int i => exact ⟨_, fun _ _ => .base (.int i), TO.ki⟩
    | str z => exact ⟨_, fun _ _ => .base (.str z), TO.ks⟩
  · rcases k with k | k
    · exact ⟨_, fun _ e => .base (.tup (e _ _ k)), TO.kt⟩
    · exact ⟨_, fun _ e => .base (.lst (e _ _ k)), TO.kl⟩
theorem Lb.thing (d : Lb h H w) : Thing H w := by
  rcases d with f | ⟨d, xs, rfl, _, k⟩
  · exact .flat f
  · rcases k with k | k
    · exact .tup k
    · exact .lst k
theorem D7.st {K : PySem.W.Frag} {C : Addr} (TO : To K C) (d : D7 pl n c h H w cv lv rv du) : VwSt K C pl n c H w cv lv rv (fun z => du = .str z) (fun _ _ => du = .non) := by
  rcases d with ⟨b, k⟩ | ⟨h1, d⟩
  · exact .inl ⟨b.non TO, k⟩
  refine .inr ⟨h1, ?_⟩
  rcases d with ⟨b, w', k⟩ | ⟨h1, d⟩
  · exact .inl ⟨b.thing, w', k⟩
  refine .inr ⟨h1, ?_⟩
  rcases d with ⟨b, k⟩ | ⟨o, own, h1, _, h3, h4, h5, h6, d⟩
  · exact .inl ⟨b.ow, k⟩
  refine .inr ⟨o, own, h1, h3, h4, h5, h6, ?_⟩
  rcases d with ⟨b, k⟩ | ⟨t, row, h1, _, h3, h4, h5, d⟩
  · exact .inl ⟨b.rw, k⟩
  exact .inr ⟨t, row, h1, .inr h3, h4, h5, d⟩
end
structure Pt (H : Hp) (h c0 O T U X : Addr) (n c : Nat) (own r : List Nat) (H' : Hp) : Prop where
  st : Stay h c0 H H'
  fT : H T = none
  nO : O ≠ h
  nT : T ≠ h
  nU : U ≠ h
  nX : X ≠ h
  OT : O ≠ T
  UT : U ≠ T
  XT : X ≠ T
  hO : H' O = some (.lst (ints_ own))
  hT : H' T = some (.lst (wds r))
  hU : H' U = some (.lst (ints_ (outF n own)))
  hX : H' X = some (.lst (ints_ (own.filter fun b => decide (b ≠ c))))
section
variable {H : Hp} {h c0 O T U X : Addr} {n c : Nat} {own r : List Nat} {H' H'' : Hp}
theorem Pt.stay (p : Pt H h c0 O T U X n c own r H') (d : Stay h c0 H' H'') : Pt H h c0 O T U X n c own r H'' :=
  ⟨p.st.trans d, p.fT, p.nO, p.nT, p.nU, p.nX, p.OT, p.UT, p.XT, d.but _ _ p.nO p.hO, d.but _ _ p.nT p.hT, d.but _ _ p.nU p.hU, d.but _ _ p.nX p.hX⟩
theorem Pt.same (p : Pt H h c0 O T U X n c own r H') (e : Same H' H'') : Pt H h c0 O T U X n c own r H'' := p.stay (.of_same p.st.hand e)
theorem Pt.drawn (p : Pt H h c0 O T U X n c own r H') (e : Drawn H' H'' h c0) : Pt H h c0 O T U X n c own r H'' := p.stay (.of_drawn p.st.hand e)
theorem Pt.put (p : Pt H h c0 O T U X n c own r H') (hc : T ≠ c0) (r' : List Nat) : Pt H h c0 O T U X n c own r' (upd H' T (.lst (wds r'))) :=
  ⟨⟨fun b o nb hb => by rw [upd_ne (ne_of_none hb p.fT)]; exact p.st.but b o nb hb, p.st.hand0, p.st.hand.upd p.nT hc⟩, p.fT, p.nO, p.nT, p.nU, p.nX, p.OT, p.UT, p.XT, by rw [upd_ne p.OT]; exact p.hO, upd_same, by rw [upd_ne p.UT]; exact p.hU, by rw [upd_ne p.XT]; exact p.hX⟩
end
theorem ints_wds {own r : List Nat} (h : own ≠ []) : ints_ own ≠ wds r := fun e => by
  match own, r, h, e with
  | x :: l, y :: m, _, e =>
    have e : V.int (x : Nat) :: ints_ l = V.str (wd y) :: wds m := e
    injection e with e _
    cases e
  | x :: l, [], _, e => cases e
section
variable {P : Program} {w : World} {K : PySem.W.Frag} {mg : Str → Option Value} {base : Heap} {a : AdL}
def spParts (a : AdL) : Sp := fun vs H Q _ => ∃ (h c0 pl : Addr) (n : Nat) (es : List (Nat × Nat)) (rd : List Nat) (c k : Nat), vs = [.ref h, .int (n : Nat), .ref pl, .int (c : Nat), .int (k : Nat)] ∧ Hand H h c0 ∧ LandO a.C H pl n es rd ∧ c < n ∧ k < 5000 ∧
  ∀ H' q w cv lv rv du, Stay h c0 H H' → H' q = some (.tup [w, cv, lv, rv, du]) → D7 pl n c h H' w cv lv rv du → Q (.ref q) H'
theorem ok_parts {f fdr fpk fnvw ftu fsw fso : Addr} {fd fddr fdpk fdnvw fdtu fdsw fdso : FuncData} (F : Fun K "_law_parts" "_law_parts" s__law_parts f fd)
    (Gdr : FnOk P w K mg base CX0 2 fdr fddr ["_law_hand_here", "_law_many"] spDraw) (gdr : mg "_law_draw" = some (.ref fdr)) (kdr : PySem.W.keepIn K (.ref fdr) = true) (bdr : Binds K fddr ["_law_hand_here", "_law_many"] [])
    (Gpk : FnOk P w K mg base CX0 3 fpk fdpk ["_law_hand_here", "_law_things"] spPick) (gpk : mg "_law_pick" = some (.ref fpk)) (kpk : PySem.W.keepIn K (.ref fpk) = true) (bpk : Binds K fdpk ["_law_hand_here", "_law_things"] [])
    (Gnvw : FnOk P w K mg base CX0 1 fnvw fdnvw ["_law_n", "_law_cell", "_law_number"] spNvw) (gnvw : mg "_law_number_view" = some (.ref fnvw)) (knvw : PySem.W.keepIn K (.ref fnvw) = true) (bnvw : Binds K fdnvw ["_law_n", "_law_cell", "_law_number"] [])
    (Gtu : FnOk P w K mg base CX0 3 ftu fdtu ["_law_hand_here", "_law_things"] spTurn) (gtu : mg "_law_turned" = some (.ref ftu)) (ktu : PySem.W.keepIn K (.ref ftu) = true) (btu : Binds K fdtu ["_law_hand_here", "_law_things"] [])
    (Gsw : FnOk P w K mg base CX0 4 fsw fdsw ["_law_hand_here", "_law_n", "_law_cell", "_law_words"] spSwo) (gsw : mg "_law_spoilt_words" = some (.ref fsw)) (ksw : PySem.W.keepIn K (.ref fsw) = true) (bsw : Binds K fdsw ["_law_hand_here", "_law_n", "_law_cell", "_law_words"] [])
    (Gso : FnOk P w K mg base CX0 4 fso fdso ["_law_hand_here", "_law_n", "_law_cell", "_law_own"] spSown) (gso : mg "_law_spoilt_own" = some (.ref fso)) (kso : PySem.W.keepIn K (.ref fso) = true) (bso : Binds K fdso ["_law_hand_here", "_law_n", "_law_cell", "_law_own"] [])
    (m_range : mg "range" = none) : FnOk P w K mg base CX0 5 f fd ["_law_hand_here", "_law_n", "_law_place", "_law_cell", "_law_number"] (spParts a) := by
  refine F.ok sc__law_parts (fun vs H Q E h => ?_) (fun cdv A outer s H vs Q E hr h => ?_)
  · obtain ⟨h, c0, pl, n, es, rd, c, k, rfl, _⟩ := h
    rfl
  · obtain ⟨h, c0, pl, n, es, rd, c, k, rfl, hh, Ld, hc, hk, q⟩ := h
    refine ⟨_, (Evl.pss_cut (ps_asg (pe_call Gnvw (hr.mono (by decide)) (by rfl) gnvw knvw bnvw .nil pass0 (pa_cons (pv 1) (pa_cons (pv 3) (pa_cons (pv 4) pa_nil)))) (pg_tup rfl (pgs_cons (pg_name (i := 5) sc__law_parts.nd rfl (by first | exact Or.inl rfl | exact Or.inr rfl)) (pgs_cons (pg_name (i := 6) sc__law_parts.nd rfl (by first | exact Or.inl rfl | exact Or.inr rfl)) pgs_nil))))
 (Evl.pss_cut (ps_par3 (by rfl) sc__law_parts.nd (i := 7) (j := 8) (l := 9) rfl rfl rfl (by decide) (by decide) (by decide) rfl rfl rfl (pa_cons pe_non (pa_cons (pe_lc (own := [("_law_b", 10)]) (g := gName 10) rfl sc__law_parts.nd (pi_range1 rfl m_range (pa_cons (pv 1) pa_nil)) (blkOk_by (own := [("_law_b", 10)]) (N := N__law_parts) (sc := defScope s__law_parts) (by decide +kernel)) (fun _ _ _ _ _ => (pg_name (i := 10) sc__law_parts.nd rfl (by first | exact Or.inl rfl | exact Or.inr rfl))) (fun _ _ _ _ _ => (pts_one (pt_cmpR (show OpR _ _ (rIn K true) from op_notIn_seq) (pv 10) (pv 5) (by with_unfolding_all rfl)))) (fun _ _ _ _ _ => (pv 10))) (pa_cons (pe_lc (own := [("_law_b", 10)]) (g := gName 10) rfl sc__law_parts.nd (pi_list (pv 5)) (blkOk_by (own := [("_law_b", 10)]) (N := N__law_parts) (sc := defScope s__law_parts) (by decide +kernel)) (fun _ _ _ _ _ => (pg_name (i := 10) sc__law_parts.nd rfl (by first | exact Or.inl rfl | exact Or.inr rfl))) (fun _ _ _ _ _ => (pts_one (pt_cmpR op_ne (pv 10) (pv 3) (nomark _)))) (fun _ _ _ _ _ => (pv 10))) pa_nil))) (by rfl))
 (Evl.pss_cut (ps_if (pw_and (pt_cmpR op_eq (pe_call Gdr (hr.mono (by decide)) (by rfl) gdr kdr bdr .nil pass0 (pa_cons (pv 0) (pa_cons pe_int pa_nil))) pe_int (nomark _)) (pw_and1 (pt_cmpR (op_neD hr.units) (pv 9) (pe_lst pa_nil) (nomark _)))).pt
  (pss_cons (ps_asg (pe_call Gpk (hr.mono (by decide)) (by rfl) gpk kpk bpk .nil pass0 (pa_cons (pv 0) (pa_cons (pe_lst (pa_cons pe_str (pa_cons pe_str pa_nil))) pa_nil))) (pg_sub (pv 6) (pe_call Gpk (hr.mono (by decide)) (by rfl) gpk kpk bpk .nil pass0 (pa_cons (pv 0) (pa_cons (pv 9) pa_nil))) set_list))
 (pss_one (ps_set (i := 7) sc__law_parts.nd rfl (by first | exact Or.inl rfl | exact Or.inr rfl) pe_str)))
  pss_nil)
 (Evl.pss_cut (ps_if (pw_and (pt_cmpR op_eq (pe_call Gdr (hr.mono (by decide)) (by rfl) gdr kdr bdr .nil pass0 (pa_cons (pv 0) (pa_cons pe_int pa_nil))) pe_int (nomark _)) (pw_and1 (pt_cmpR (op_neD hr.units) (pv 8) (pe_lst pa_nil) (nomark _)))).pt
  (pss_cons (ps_asg pe_str (pg_sub (pv 6) (pe_call Gpk (hr.mono (by decide)) (by rfl) gpk kpk bpk .nil pass0 (pa_cons (pv 0) (pa_cons (pv 8) pa_nil))) set_list))
 (pss_one (ps_set (i := 7) sc__law_parts.nd rfl (by first | exact Or.inl rfl | exact Or.inr rfl) pe_str)))
  pss_nil)
 (Evl.pss_cut (ps_par (by rfl) sc__law_parts.nd (i := 11) (j := 12) rfl rfl (by decide) rfl rfl (pa_cons (pv 6) (pa_cons (pe_call Gtu (hr.mono (by decide)) (by rfl) gtu ktu btu .nil pass0 (pa_cons (pv 0) (pa_cons (pv 5) pa_nil))) pa_nil)) (by rfl))
 (Evl.pss_cut (ps_if (pt_cmpR op_eq (pe_call Gdr (hr.mono (by decide)) (by rfl) gdr kdr bdr .nil pass0 (pa_cons (pv 0) (pa_cons pe_int pa_nil))) pe_int (nomark _))
  (pss_one (ps_par (by rfl) sc__law_parts.nd (i := 11) (j := 7) rfl rfl (by decide) rfl rfl (pa_cons (pe_call Gsw (hr.mono (by decide)) (by rfl) gsw ksw bsw .nil pass0 (pa_cons (pv 0) (pa_cons (pv 1) (pa_cons (pv 3) (pa_cons (pv 6) pa_nil))))) (pa_cons pe_str pa_nil)) (by rfl)))
  pss_nil)
 (Evl.pss_cut (ps_if (pt_cmpR op_eq (pe_call Gdr (hr.mono (by decide)) (by rfl) gdr kdr bdr .nil pass0 (pa_cons (pv 0) (pa_cons pe_int pa_nil))) pe_int (nomark _))
  (pss_one (ps_par (by rfl) sc__law_parts.nd (i := 12) (j := 7) rfl rfl (by decide) rfl rfl (pa_cons (pe_call Gso (hr.mono (by decide)) (by rfl) gso kso bso .nil pass0 (pa_cons (pv 0) (pa_cons (pv 1) (pa_cons (pv 3) (pa_cons (pv 5) pa_nil))))) (pa_cons pe_str pa_nil)) (by rfl)))
  pss_nil)
 (Evl.pss_cut (ps_par (by rfl) sc__law_parts.nd (i := 13) (j := 14) rfl rfl (by decide) rfl rfl (pa_cons (pv 3) (pa_cons (pv 2) pa_nil)) (by rfl))
 (Evl.pss_cut (ps_if (pt_cmpR op_eq (pe_call Gdr (hr.mono (by decide)) (by rfl) gdr kdr bdr .nil pass0 (pa_cons (pv 0) (pa_cons pe_int pa_nil))) pe_int (nomark _))
  (pss_one (ps_par (by rfl) sc__law_parts.nd (i := 13) (j := 7) rfl rfl (by decide) rfl rfl (pa_cons (pe_call Gpk (hr.mono (by decide)) (by rfl) gpk kpk bpk .nil pass0 (pa_cons (pv 0) (pa_cons (pe_lst (pa_cons (pv 1) (pa_cons (pe_un un_neg pe_int) (pa_cons pe_non (pa_cons pe_bl (pa_cons pe_str (pa_cons (pe_lst (pa_cons (pv 3) pa_nil)) (pa_cons (pe_op op_pow pe_int pe_int) pa_nil)))))))) pa_nil))) (pa_cons pe_str pa_nil)) (by rfl)))
  pss_nil)
 (Evl.pss_cut (ps_if (pt_cmpR op_eq (pe_call Gdr (hr.mono (by decide)) (by rfl) gdr kdr bdr .nil pass0 (pa_cons (pv 0) (pa_cons pe_int pa_nil))) pe_int (nomark _))
  (pss_one (ps_par (by rfl) sc__law_parts.nd (i := 14) (j := 7) rfl rfl (by decide) rfl rfl (pa_cons (pe_call Gpk (hr.mono (by decide)) (by rfl) gpk kpk bpk .nil pass0 (pa_cons (pv 0) (pa_cons (pe_lst (pa_cons pe_non (pa_cons (pv 1) (pa_cons (pe_lst pa_nil) (pa_cons pe_str (pa_cons (pe_tup (pa_cons (pv 1) (pa_cons (pe_lst pa_nil) (pa_cons (pe_lst pa_nil) pa_nil)))) pa_nil)))))) pa_nil))) (pa_cons pe_str pa_nil)) (by rfl)))
  pss_nil)
 (pss_one (ps_ret (pe_tup (pa_cons (pv 14) (pa_cons (pv 13) (pa_cons (pv 12) (pa_cons (pv 11) (pa_cons (pv 7) pa_nil)))))))))))))))))), ?_⟩
    have n2 := Ld.n2
    have n5 := Ld.n5
    have ok := vw_ok (c := c) (ws := dgs (n - 1) k) (n := n) (by rw [dgs_len]; omega) hc
    refine ⟨fun τ H' => ∃ O T, τ = [some (.ref h), some (.int (n : Nat)), some (.ref pl), some (.int (c : Nat)), some (.int (k : Nat)), some (.ref O), some (.ref T), none, none, none, none, none, none, none, none] ∧ Stay h c0 H H' ∧ H O = none ∧ H T = none ∧
      H' O = some (.lst (ints_ (ownD (fullW c (dgs (n - 1) k))))) ∧ H' T = some (.lst (wds (rowD (fullW c (dgs (n - 1) k))))), ?_, fun τ H1 hM => ?_⟩
    · refine ⟨_, rfl, _, rfl, _, rfl, n, c, k, rfl, n2, n5, hc, hk, fun H1 t O T e1 fO fT ht hO hT => ?_⟩
      exact ⟨t, _, rfl, .inl (.inl ht), rfl, _, _, rfl, _, _, rfl, rfl, O, T, rfl, .of_same hh e1, fO, fT, hO, hT⟩
    obtain ⟨O, T, rfl, st1, fO, fT, hO1, hT1⟩ := hM
    generalize ownD (fullW c (dgs (n - 1) k)) = own at ok hO1
    generalize rowD (fullW c (dgs (n - 1) k)) = r0 at ok hT1
    have ol : own.length ≤ 5 := Nat.le_trans ok.ol n5
    have tc0 : T ≠ c0 := (hh.ne fT).2
    have OT : O ≠ T := fun e => by
      rw [e, hT1] at hO1
      injection hO1 with z
      injection z with z
      exact ints_wds (fun e => by have := ok.me; rw [e] at this; cases this) z.symm
    refine ⟨fun τ H' => ∃ U X, τ = [some (.ref h), some (.int (n : Nat)), some (.ref pl), some (.int (c : Nat)), some (.int (k : Nat)), some (.ref O), some (.ref T), some .non, some (.ref U), some (.ref X), none, none, none, none, none] ∧ Pt H h c0 O T U X n c own r0 H', ?_, fun τ H2 hM => ?_⟩
    · refine ⟨_, rfl, _, rfl, by omega, by omega, fun D hD => lc_range (lo := 0) (n := n) (fun i H2 => Same H1 H2 ∧ H2 D = some (.lst (ints_ ((List.range i).filter fun b => !decide (b ∈ own))))) ⟨al hD, upd_same⟩ (fun i H2 hi pv => ?_) (fun H2 pv => ?_)⟩
      · obtain ⟨e2, hD2⟩ := pv
        rw [show (0 : Int) + ((i : Nat) : Int) = (i : Nat) from Int.zero_add _]
        refine ⟨rfl, _, rfl, _, rfl, O, _, rfl, .inl (.inl (.inl (e2 _ _ hO1))), rfl, flat_ints own, _, rfl, ?_⟩
        show if (!inV (.int (i : Nat)) (ints_ own)) = true then _ else _
        rw [inV_ints]
        refine iteB (fun t => ?_) (fun t => ?_)
        · refine ⟨_, rfl, _, hD2, by rw [ints_len]; exact small1000 (Nat.le_trans (List.length_filter_le _ _) (by rw [List.length_range]; omega)), fun b z hb => ?_, ?_⟩
          · rw [upd_ne (ne_of_none hb hD)]
            exact e2 _ _ hb
          · rw [upd_same, range_filter, if_pos t, ints_snoc]
        · refine ⟨e2, ?_⟩
          rw [range_filter, if_neg (by rw [t]; decide), List.append_nil]
          exact hD2
      · obtain ⟨e2, hD2⟩ := pv
        have hO2 := e2 _ _ hO1
        refine ⟨_, rfl, O, rfl, ⟨_, .inl (.inl hO2)⟩, fun G hG => lc_list (xs := ints_ own) (fun j H3 => Same H2 H3 ∧ H3 G = some (.lst (ints_ ((own.take j).filter fun b => decide (b ≠ c))))) ⟨al hG, upd_same⟩ (fun j H3 _ pv => .inl (.inl (pv.1 _ _ hO2))) (fun j x H3 hx pv => ?_) (fun H3 pv => ?_)⟩
        · obtain ⟨e3, hD3⟩ := pv
          have hj := (List.getElem?_eq_some_iff.mp hx).1
          rw [ints_len] at hj
          unfold ints_ at hx
          rw [List.getElem?_map] at hx
          obtain ⟨b, hb, rfl⟩ := Option.map_eq_some_iff.mp hx
          have ft := filter_take (p := fun b => decide (b ≠ c)) hb
          refine ⟨rfl, _, rfl, _, rfl, rfl, _, rfl, ?_⟩
          show if (!decide (V.int (b : Nat) = V.int (c : Nat))) = true then _ else _
          rw [dec_int, show (!decide (b = c)) = decide (b ≠ c) from (decide_not).symm]
          refine iteB (fun t => ?_) (fun t => ?_)
          · refine ⟨_, rfl, _, hD3, by rw [ints_len]; exact small1000 (Nat.le_trans (List.length_filter_le _ _) (by rw [List.length_take]; omega)), fun b z hb => ?_, ?_⟩
            · rw [upd_ne (ne_of_none hb hG)]
              exact e3 _ _ hb
            · rw [upd_same, ft, if_pos t, ints_snoc]
          · refine ⟨e3, ?_⟩
            rw [ft, if_neg (by rw [t]; decide), List.append_nil]
            exact hD3
        · obtain ⟨e3, hD3⟩ := pv
          rw [ints_len, List.take_length] at hD3
          have hh2 := st1.hand.same e2
          exact ⟨_, _, _, rfl, D, G, rfl, (st1.same e2).same e3, fT, (hh.ne fO).1, (hh.ne fT).1, (st1.hand.ne hD).1, (hh2.ne hG).1, OT, (ne_of_none hT1 hD).symm, (ne_of_none (e2 _ _ hT1) hG).symm, e3 _ _ hO2, e3 _ _ (e2 _ _ hT1), e3 _ _ hD2, hD3⟩
    obtain ⟨U, X, rfl, p2⟩ := hM
    have sl0 := ok.st.1
    have aw0 := ok.st.2
    clear st1 hO1 hT1
    -- a right awake at home
    refine ⟨fun τ H' => ∃ r du, τ = [some (.ref h), some (.int (n : Nat)), some (.ref pl), some (.int (c : Nat)), some (.int (k : Nat)), some (.ref O), some (.ref T), some du, some (.ref U), some (.ref X), none, none, none, none, none] ∧ Pt H h c0 O T U X n c own r H' ∧ r.length = n ∧ r.getD c 0 = 0 ∧ slpB n own r = false ∧ ((awkB own r = true ∧ du = .str "awake") ∨ (awkB own r = false ∧ du = .non)), ?_, fun τ H3 hM => ?_⟩
    · refine ⟨_, rfl, h, c0, 3, rfl, p2.st.hand, by decide, by decide, fun H3 g d3 g0 g1 => ?_⟩
      have p3 := p2.drawn d3
      refine ⟨rfl, _, rfl, iteB (fun _ => ?_) (fun _ => ⟨r0, .non, rfl, p3, ok.rl, ok.r0, sl0, .inr ⟨aw0, rfl⟩⟩)⟩
      refine ⟨_, rfl, by show 0 ≤ sizeLine; decide, fun z nz => ?_⟩
      have f1 := al (o := .lst []) nz
      have hz : upd H3 z (.lst []) z = some (.lst (ints_ [])) := upd_same
      have p4 := p3.same f1
      generalize upd H3 z (.lst []) = H4 at hz p4 ⊢
      refine ⟨_, _, .lst (.inl (.inl p4.hX)) (dp_ints _), .lst (.inl (.inl hz)) (dp_ints []), shapedL_ints _, shapedL_ints [], _, rfl, ?_⟩
      rw [PyData.eqv, eqv_ints]
      refine iteB (fun nx => ?_) (fun _ => ⟨r0, .non, rfl, p4, ok.rl, ok.r0, sl0, .inr ⟨aw0, rfl⟩⟩)
      have nx : (own.filter fun b => decide (b ≠ c)) ≠ [] := fun e => by rw [e, decide_eq_true rfl] at nx; cases nx
      refine ⟨_, rfl, by show 2 ≤ sizeLine; decide, fun lp nlp => ?_⟩
      have p5 := p4.same (al (o := .lst [V.str "awake", .str "needed"]) nlp)
      refine ⟨h, c0, lp, _, rfl, p5.st.hand, (p4.st.hand.ne nlp).1, upd_same, by show 0 < 2; decide, by show 2 ≤ 1000; decide, fun H6 j v d6 hv => ?_⟩
      have p6 := p5.drawn d6
      obtain ⟨x, rfl, hx⟩ : ∃ x : Nat, v = .str (wd x) ∧ (x = 1 ∨ x = 2) := by
        have m := List.mem_of_getElem? hv
        simp only [List.mem_cons, List.not_mem_nil, or_false] at m
        rcases m with rfl | rfl
        · exact ⟨1, rfl, .inl rfl⟩
        · exact ⟨2, rfl, .inr rfl⟩
      refine ⟨_, rfl, _, rfl, _, rfl, h, c0, X, _, rfl, p6.st.hand, p6.nX, p6.hX, by rw [ints_len]; exact List.length_pos_iff.mpr nx, by rw [ints_len]; have := List.length_filter_le (fun b => decide (b ≠ c)) own; omega, fun H7 j2 v2 d7 hv2 => ?_⟩
      have p7 := p6.drawn d7
      unfold ints_ at hv2
      rw [List.getElem?_map] at hv2
      obtain ⟨b, hb, rfl⟩ := Option.map_eq_some_iff.mp hv2
      obtain ⟨mb, bc⟩ := List.mem_filter.mp (List.mem_of_getElem? hb)
      have bc := of_decide_eq_true bc
      have bl : b < r0.length := by rw [ok.rl]; exact ok.lt b mb
      refine ⟨T, _, _, b, rfl, rfl, p7.hT, ixN_nat (by rw [wds_len]; exact bl), ?_⟩
      rw [show (wds r0).set b (.str (wd x)) = wds (r0.set b x) by unfold wds; rw [List.map_set]]
      refine ⟨r0.set b x, .str "awake", rfl, p7.put tc0 _, by rw [List.length_set, ok.rl], by rw [getD_set bl, if_neg (fun e => bc e.symm)]; exact ok.r0, slp_false.mpr fun b' hb' hn => ?_, .inl ⟨?_, rfl⟩⟩
      · rw [getD_set bl, if_neg (fun e => hn (by rw [e]; exact mb))]
        exact ok.out b' hb' hn
      · refine eq_true_of_ne_false fun e => awk_false.mp e b mb ?_
        rw [getD_set bl, if_pos rfl]
        exact hx
    obtain ⟨r1, du1, rfl, p3, rl1, rc1, sl1, aw1⟩ := hM
    clear sl0 aw0 p2
    -- a right asleep with another
    refine ⟨fun τ H' => ∃ r du, τ = [some (.ref h), some (.int (n : Nat)), some (.ref pl), some (.int (c : Nat)), some (.int (k : Nat)), some (.ref O), some (.ref T), some du, some (.ref U), some (.ref X), none, none, none, none, none] ∧ Pt H h c0 O T U X n c own r H' ∧ r.length = n ∧ r.getD c 0 = 0 ∧ D3 n own r du, ?_, fun τ H4 hM => ?_⟩
    · have same : D3 n own r1 du1 := aw1.elim (fun z => .inr (.inl ⟨sl1, z⟩)) fun z => .inr (.inr ⟨sl1, z⟩)
      refine ⟨_, rfl, h, c0, 3, rfl, p3.st.hand, by decide, by decide, fun H4 g d4 g0 g1 => ?_⟩
      have p4 := p3.drawn d4
      refine ⟨rfl, _, rfl, iteB (fun _ => ?_) (fun _ => ⟨r1, du1, rfl, p4, rl1, rc1, same⟩)⟩
      refine ⟨_, rfl, by show 0 ≤ sizeLine; decide, fun z nz => ?_⟩
      have f1 := al (o := .lst []) nz
      have hz : upd H4 z (.lst []) z = some (.lst (ints_ [])) := upd_same
      have p5 := p4.same f1
      generalize upd H4 z (.lst []) = H5 at hz p5 ⊢
      refine ⟨_, _, .lst (.inl (.inl p5.hU)) (dp_ints _), .lst (.inl (.inl hz)) (dp_ints []), shapedL_ints _, shapedL_ints [], _, rfl, ?_⟩
      rw [PyData.eqv, eqv_ints]
      refine iteB (fun nx => ?_) (fun _ => ⟨r1, du1, rfl, p5, rl1, rc1, same⟩)
      have nx : outF n own ≠ [] := fun e => by rw [e, decide_eq_true rfl] at nx; cases nx
      refine ⟨_, rfl, _, rfl, _, rfl, h, c0, U, _, rfl, p5.st.hand, p5.nU, p5.hU, by rw [ints_len]; exact List.length_pos_iff.mpr nx, by rw [ints_len]; have := List.length_filter_le (fun b => !decide (b ∈ own)) (List.range n); rw [List.length_range] at this; show (outF n own).length ≤ 1000; unfold outF; omega, fun H7 j2 v2 d7 hv2 => ?_⟩
      have p7 := p5.drawn d7
      unfold ints_ at hv2
      rw [List.getElem?_map] at hv2
      obtain ⟨b, hb, rfl⟩ := Option.map_eq_some_iff.mp hv2
      obtain ⟨mb, bo⟩ := List.mem_filter.mp (List.mem_of_getElem? hb)
      have bn : b < n := List.mem_range.mp mb
      have bo : b ∉ own := fun m => by rw [decide_eq_true m] at bo; cases bo
      have bl : b < r1.length := by rw [rl1]; exact bn
      refine ⟨T, _, _, b, rfl, rfl, p7.hT, ixN_nat (by rw [wds_len]; exact bl), ?_⟩
      rw [show (wds r1).set b (.str "asleep") = wds (r1.set b 3) by unfold wds; rw [List.map_set]; rfl]
      refine ⟨r1.set b 3, .str "asleep", rfl, p7.put tc0 _, by rw [List.length_set, rl1], by rw [getD_set bl, if_neg (fun e => bo (by rw [← e]; exact ok.me))]; exact rc1, .inl ⟨?_, rfl⟩⟩
      refine eq_true_of_ne_false fun e => ?_
      have := slp_false.mp e b bn bo
      rw [getD_set bl, if_pos rfl] at this
      omega
    obtain ⟨r2, du2, rfl, p4, rl2, rc2, d3⟩ := hM
    clear p3 rl1 rc1 sl1 aw1
    -- the lot turned about
    refine ⟨fun τ H' => ∃ L own', τ = [some (.ref h), some (.int (n : Nat)), some (.ref pl), some (.int (c : Nat)), some (.int (k : Nat)), some (.ref O), some (.ref T), some du2, some (.ref U), some (.ref X), none, some (.ref T), some (.ref L), none, none] ∧ Pt H h c0 O T U X n c own r2 H' ∧ L ≠ h ∧ SqOf H' L (ints_ own') ∧ own'.Perm own, ?_, fun τ H5 hM => ?_⟩
    · refine ⟨_, rfl, _, rfl, _, rfl, h, c0, O, own, rfl, p4.st.hand, p4.hO, by omega, fun H5 L own' s5 nL hL pm => ?_⟩
      exact ⟨_, _, rfl, L, own', rfl, p4.stay s5, (p4.st.hand.ne nL).1, hL, pm⟩
    obtain ⟨L, own', rfl, p5, nLh, hL5, pm⟩ := hM
    have d3' : D3 n own' r2 du2 := by
      unfold D3
      rw [slp_perm pm, awk_perm pm]
      exact d3
    have lt' : ∀ b ∈ own', b < n := fun b hb => ok.lt b (pm.mem_iff.mp hb)
    have nd' : own'.Nodup := pm.nodup_iff.mpr ok.nd
    have me' : c ∈ own' := pm.mem_iff.mpr ok.me
    clear p4 d3
    -- the words spoilt
    refine ⟨fun τ H' => ∃ rv du, τ = [some (.ref h), some (.int (n : Nat)), some (.ref pl), some (.int (c : Nat)), some (.int (k : Nat)), some (.ref O), some (.ref T), some du, some (.ref U), some (.ref X), none, some rv, some (.ref L), none, none] ∧ Pt H h c0 O T U X n c own r2 H' ∧ SqOf H' L (ints_ own') ∧ D4 n c h H' own' rv du, ?_, fun τ H6 hM => ?_⟩
    · refine ⟨_, rfl, h, c0, 5, rfl, p5.st.hand, by decide, by decide, fun H6 g d6 g0 g1 => ?_⟩
      have p6 := p5.drawn d6
      have b6 : But h H5 H6 := fun b o nb z => by rw [d6.but b nb]; exact z
      have hL6 : SqOf H6 L (ints_ own') := hL5.imp (b6 _ _ nLh) (b6 _ _ nLh)
      refine ⟨rfl, _, rfl, iteB (fun _ => ?_) (fun _ => ⟨.ref T, du2, rfl, p6, hL6, .inr ⟨T, r2, rfl, p6.nT, p6.hT, rl2, rc2, d3'⟩⟩)⟩
      refine ⟨_, rfl, _, rfl, _, rfl, _, rfl, h, c0, T, n, c, r2, rfl, p6.st.hand, p6.hT, rl2, n2, n5, hc, fun H7 v s7 bw => ?_⟩
      exact ⟨_, _, rfl, v, .str "standings", rfl, p6.stay s7, hL6.imp (s7.but _ _ nLh) (s7.but _ _ nLh), .inl ⟨bw, rfl⟩⟩
    obtain ⟨rv, du3, rfl, p6, hL6, d4⟩ := hM
    clear p5 hL5
    -- the own cells spoilt
    refine ⟨fun τ H' => ∃ lv du, τ = [some (.ref h), some (.int (n : Nat)), some (.ref pl), some (.int (c : Nat)), some (.int (k : Nat)), some (.ref O), some (.ref T), some du, some (.ref U), some (.ref X), none, some rv, some lv, none, none] ∧ Stay h c0 H H' ∧ D5 n c h H' lv rv du, ?_, fun τ H7 hM => ?_⟩
    · refine ⟨_, rfl, h, c0, 6, rfl, p6.st.hand, by decide, by decide, fun H7 g d7 g0 g1 => ?_⟩
      have p7 := p6.drawn d7
      have b7 : But h H6 H7 := fun b o nb z => by rw [d7.but b nb]; exact z
      refine ⟨rfl, _, rfl, iteB (fun _ => ?_) (fun _ => ⟨.ref L, du3, rfl, p7.st, .inr ⟨L, own', rfl, nLh, hL6.imp (b7 _ _ nLh) (b7 _ _ nLh), lt', nd', me', d4.but b7⟩⟩)⟩
      refine ⟨_, rfl, _, rfl, _, rfl, _, rfl, h, c0, O, n, c, own, rfl, p7.st.hand, p7.hO, n5, ok.me, ol, ok.nd, fun H8 v s8 bd => ?_⟩
      exact ⟨_, _, rfl, v, .str "own", rfl, p7.st.trans s8, .inl ⟨bd, rfl⟩⟩
    obtain ⟨lv, du4, rfl, s7, d5⟩ := hM
    clear p6 hL6 d4
    -- where and what
    refine ⟨fun τ H' => τ = [some (.ref h), some (.int (n : Nat)), some (.ref pl), some (.int (c : Nat)), some (.int (k : Nat)), some (.ref O), some (.ref T), some du4, some (.ref U), some (.ref X), none, some rv, some lv, some (.int (c : Nat)), some (.ref pl)] ∧ H' = H7, ?_, fun τ H8 hM => ?_⟩
    · exact ⟨_, rfl, _, rfl, _, _, rfl, rfl, rfl⟩
    obtain ⟨rfl, rfl⟩ := hM
    refine ⟨fun τ H' => ∃ cv du, τ = [some (.ref h), some (.int (n : Nat)), some (.ref pl), some (.int (c : Nat)), some (.int (k : Nat)), some (.ref O), some (.ref T), some du, some (.ref U), some (.ref X), none, some rv, some lv, some cv, some (.ref pl)] ∧ Stay h c0 H H' ∧ D6 n c h H' cv lv rv du, ?_, fun τ H9 hM => ?_⟩
    · refine ⟨_, rfl, h, c0, 8, rfl, s7.hand, by decide, by decide, fun H9 g d9 g0 g1 => ?_⟩
      have s9 := s7.drawn d9
      have b9 : But h H8 H9 := fun b o nb z => by rw [d9.but b nb]; exact z
      refine ⟨rfl, _, rfl, iteB (fun _ => ?_) (fun _ => ⟨_, du4, rfl, s9, .inr ⟨rfl, d5.but b9⟩⟩)⟩
      refine ⟨_, rfl, _, rfl, _, rfl, _, rfl, by show 1 ≤ sizeLine; decide, fun b1 nb1 => ?_⟩
      have f1 := al (o := .lst [V.int (c : Nat)]) nb1
      have hb1 : upd H9 b1 (.lst [V.int (c : Nat)]) b1 = some (.lst [V.int (c : Nat)]) := upd_same
      have s10 := s9.same f1
      have nb1h := (s9.hand.ne nb1).1
      generalize upd H9 b1 (.lst [V.int (c : Nat)]) = G1 at f1 hb1 s10 ⊢
      refine ⟨_, _, rfl, rfl, ⟨by decide, by decide, by decide +kernel⟩, by show 7 ≤ sizeLine; decide, fun lp nlp => ?_⟩
      refine ⟨h, c0, lp, _, rfl, s10.hand.same (al nlp), (s10.hand.ne nlp).1, upd_same, by show 0 < 7; decide, by show 7 ≤ 1000; decide, fun G2 j v dd hv => ?_⟩
      have s12 := (s10.same (al nlp)).drawn dd
      have hb2 : G2 b1 = some (.lst [V.int (c : Nat)]) := by rw [dd.but b1 nb1h]; exact (al nlp) _ _ hb1
      refine ⟨_, _, rfl, v, .str "cell", rfl, s12, .inl ⟨?_, ?_, rfl⟩⟩
      · have m := List.mem_of_getElem? hv
        simp only [List.mem_cons, List.not_mem_nil, or_false] at m
        rcases m with rfl | rfl | rfl | rfl | rfl | rfl | rfl
        · exact .inl (.int _)
        · exact .inl (.int _)
        · exact .inl .non
        · exact .inl (.bl _)
        · exact .inl (.str _)
        · exact .inr ⟨b1, _, rfl, nb1h, .inr hb2⟩
        · exact .inl (.int _)
      · have m := List.mem_of_getElem? hv
        simp only [List.mem_cons, List.not_mem_nil, or_false] at m
        rcases m with rfl | rfl | rfl | rfl | rfl | rfl | rfl
        · rw [wholeV_int, decide_eq_false (show ¬ ((n : Nat) : Int) ≤ ((n : Nat) : Int) - 1 by omega), Bool.and_false]
        · rw [wholeV_int, decide_eq_false (show ¬ (0 : Int) ≤ -1 by decide), Bool.false_and]
        · rfl
        · rfl
        · rfl
        · rfl
        · have big : (1000 : Int) < (10 : Int) ^ (30 : Int).toNat := by decide
          rw [wholeV_int, decide_eq_false (show ¬ (10 : Int) ^ (30 : Int).toNat ≤ ((n : Nat) : Int) - 1 by omega), Bool.and_false]
    obtain ⟨cv, du5, rfl, s9, d6⟩ := hM
    refine ⟨fun τ H' => ∃ w du, τ = [some (.ref h), some (.int (n : Nat)), some (.ref pl), some (.int (c : Nat)), some (.int (k : Nat)), some (.ref O), some (.ref T), some du, some (.ref U), some (.ref X), none, some rv, some lv, some cv, some w] ∧ Stay h c0 H H' ∧ D7 pl n c h H' w cv lv rv du, ?_, fun τ H10 hM => ?_⟩
    · refine ⟨_, rfl, h, c0, 10, rfl, s9.hand, by decide, by decide, fun H10 g d10 g0 g1 => ?_⟩
      have s10 := s9.drawn d10
      have b10 : But h H9 H10 := fun b o nb z => by rw [d10.but b nb]; exact z
      refine ⟨rfl, _, rfl, iteB (fun _ => ?_) (fun _ => ⟨_, du5, rfl, s10, .inr ⟨rfl, d6.but b10⟩⟩)⟩
      refine ⟨_, rfl, _, rfl, by show 0 ≤ sizeLine; decide, fun b1 nb1 => ?_⟩
      have f1 := al (o := .lst []) nb1
      have hb1 : upd H10 b1 (.lst []) b1 = some (.lst []) := upd_same
      have s11 := s10.same f1
      have nb1h := (s10.hand.ne nb1).1
      generalize upd H10 b1 (.lst []) = G1 at f1 hb1 s11 ⊢
      refine ⟨_, rfl, by show 0 ≤ sizeLine; decide, fun b2 nb2 => ?_⟩
      have f2 := al (o := .lst []) nb2
      have s12 := s11.same f2
      have hb1 := f2 _ _ hb1
      generalize upd G1 b2 (.lst []) = G2 at f2 s12 hb1 ⊢
      refine ⟨by show 0 ≤ sizeLine; decide, fun b3 nb3 => ?_⟩
      have f3 := al (o := .lst []) nb3
      have s13 := s12.same f3
      have hb1 := f3 _ _ hb1
      generalize upd G2 b3 (.lst []) = G3 at f3 s13 hb1 ⊢
      refine ⟨by show 3 ≤ sizeLine; decide, fun b4 nb4 => ?_⟩
      have f4 := al (o := .tup [V.int (n : Nat), .ref b2, .ref b3]) nb4
      have s14 := s13.same f4
      have hb1 := f4 _ _ hb1
      have hb4 : upd G3 b4 (.tup [V.int (n : Nat), .ref b2, .ref b3]) b4 = some (.tup [V.int (n : Nat), .ref b2, .ref b3]) := upd_same
      have nb4h := (s13.hand.ne nb4).1
      generalize upd G3 b4 (.tup [V.int (n : Nat), .ref b2, .ref b3]) = G4 at f4 s14 hb1 hb4 ⊢
      refine ⟨by show 5 ≤ sizeLine; decide, fun lp nlp => ?_⟩
      refine ⟨h, c0, lp, _, rfl, s14.hand.same (al nlp), (s14.hand.ne nlp).1, upd_same, by show 0 < 5; decide, by show 5 ≤ 1000; decide, fun G5 j v dd hv => ?_⟩
      have s15 := (s14.same (al nlp)).drawn dd
      have hc1 : G5 b1 = some (.lst []) := by rw [dd.but b1 nb1h]; exact (al nlp) _ _ hb1
      have hc4 : G5 b4 = some (.tup [V.int (n : Nat), .ref b2, .ref b3]) := by rw [dd.but b4 nb4h]; exact (al nlp) _ _ hb4
      refine ⟨_, _, rfl, v, .str "land", rfl, s15, .inl ⟨?_, rfl⟩⟩
      have m := List.mem_of_getElem? hv
      simp only [List.mem_cons, List.not_mem_nil, or_false] at m
      rcases m with rfl | rfl | rfl | rfl | rfl
      · exact .inl .non
      · exact .inl (.int _)
      · exact .inr ⟨b1, _, rfl, nb1h, .inr hc1⟩
      · exact .inl (.str _)
      · exact .inr ⟨b4, _, rfl, nb4h, .inl hc4⟩
    obtain ⟨w', du6, rfl, s10, d7⟩ := hM
    refine ⟨_, rfl, _, rfl, _, rfl, _, rfl, _, rfl, by show 5 ≤ sizeLine; decide, fun t nt => ?_⟩
    have f := al (o := .tup [w', cv, lv, rv, du6]) nt
    exact q _ t w' cv lv rv du6 (s10.same f) upd_same (d7.but fun b o _ z => f _ _ z)
end
end K7
end
/-! ## EW -/
section
namespace K7E
open PySem PySem.Spec PyProof.Rows L2
/-! a class that is called under try -/
section
variable {X : Cx} {W : WX} {k : Nat} {f C : Addr} {fd : FuncData} {ps : List Str} {sp : Sp} {dvs : List V} {ds : List Value} {x m : Str} {p pos apos : Pos} {e o : Expr} {es : List Expr} {ta : TE} {t : TA}
theorem run_makeW {pins : List (Addr × Obj)} {σ : L2.St} {H : Hp} {s : Shared} {Q : VK} {us : List Value} {vs : List V} (M : Mk X.K C f) (F : FnOk X.prog X.w X.K X.mg X.base (L2.CX X.prog X.w) k f fd ps sp) (hr : Room (k + 1) X.A) (hb : Binds X.K fd ps ds) (hd : Vals dvs ds)
    (tk : Takes X W) (I : Inv X pins σ H s) (r : Vals vs us)
    (h : ∀ x dx, H x = none → H dx = none → dx ≠ x → sp (.ref x :: (vs ++ dvs)) (upd (upd H dx (.own x)) x (.ins C dx [])) (fun v H2 => v = .non ∧ Q (.ref x) H2) (fun cls d H' => W cls d σ H')) :
    wpAny (model X.prog X.w) X.A (call (.ref C) us) (EP X pins σ Q) X.xe s := by
  have hq := h (s.heap.objs.size + 1) s.heap.objs.size (I.hok.fresh (Nat.le_succ _)) (I.hok.fresh (Nat.le_refl _)) (Nat.ne_of_lt (Nat.lt_succ_self _))
  have I2 := Inv.made (C := C) I
  have r2 : Vals (V.ref (s.heap.objs.size + 1) :: (vs ++ dvs)) (Value.ref (s.heap.objs.size + 1) :: (us ++ ds)) := .cons rfl (r.append hd)
  have hl : (Value.ref (s.heap.objs.size + 1) :: us ++ ds).length = ps.length := by
    have e := r2.length
    rw [F.len _ _ _ _ hq] at e
    exact e.symm
  refine wpAny_call (make_map (f := f) I.kIn M.makes M.init (beq_iff_eq.mp M.fn) (codeAny_mono (F.run _ X.stack _ _ ⟨Value.ref (s.heap.objs.size + 1) :: us, []⟩ (Value.ref (s.heap.objs.size + 1) :: (us ++ ds)) _ _ _ (hr.make C us [])
    (I2.env0.make C us []) (hb _ (Value.ref (s.heap.objs.size + 1) :: us) I2.kIn hl) r2 hq) fun r s' hq' => ?_))
  cases r with
  | error e => exact tk e s' (XE.of_call (E := fun cls d H' => W cls d σ H') I2 (fun cls d H' h => h) hq')
  | ok fl =>
    cases fl with
    | ret u =>
      obtain ⟨v, H', I3, rv, ev, q3⟩ := I2.after hq'
      subst ev
      exact ⟨rv, ⟨V.ref (s.heap.objs.size + 1), H', I3, rfl, q3⟩⟩
    | next => exact False.elim hq'
    | brk => exact False.elim hq'
    | cont => exact False.elim hq'
theorem pe_makeW (M : Mk X.K C f) (F : FnOk X.prog X.w X.K X.mg X.base (L2.CX X.prog X.w) k f fd ps sp) (hr : Room (k + 1) X.A) (hg : Gl X x) (hm : X.mg x = some (.ref C)) (hb : Binds X.K fd ps ds) (hd : Vals dvs ds) (tk : Takes X W)
    (ha : PA X (e :: es) t) (hdb : (x == ("__debug__" : Str)) = false := by decide) (he : starEach (e :: es) X.env = (false, eval e X.env) :: starEach es X.env := by rfl) (hpl : (backTo pos (starEach es X.env)).any (·.1) = false := by rfl) :
    PE X (.Call (.Name x p) (e :: es) [] pos) (fun σ H Q => t σ H fun vs H1 => ∀ x dx, H1 x = none → H1 dx = none → dx ≠ x → sp (.ref x :: (vs ++ dvs)) (upd (upd H1 dx (.own x)) x (.ins C dx [])) (fun v H2 => v = .non ∧ Q (.ref x) H2) (fun cls d H' => W cls d σ H')) := by
  refine ⟨fun pins s σ H Q I h => ?_⟩
  refine wpAny_Call_Name_kw (ld_glob I hg hm ?_ hdb)
  refine PySem.W.callWith_K (h₀ := X.base) I.ok.mod.kin M.kp (thn (ha.run pos pins s σ H _ I h) fun us s1 ⟨vs, H1, I1, r, q⟩ => ⟨I1.kIn, ?_⟩) he hpl
  exact run_makeW M F hr hb hd tk I1 r q
end
/-! isinstance(e, (A, B)), e the exception that the suite holds -/
theorem call_isEdT {X : Cx} {a D : Addr} {cls : Value} {d : Option Addr} {oe : Obj} {pn : List (Addr × Obj)} (C : ExcC X.K D) (hz : Zc cls d oe) (hf : ∃ vs, oe.data = .fields vs) : CallR (X.suite a ((a, oe) :: pn)) (.builtin "isinstance") (fun xs H Q => cls = .ref D ∧ ∃ dd, d = some dd ∧ ∃ (tp : Addr) (cs : List V) (ws : List Value) (b : Bool) (fs : List (Str × V)), xs = [.ref a, .ref tp] ∧ H tp = some (.tup cs) ∧ Paired ClsV cs ws ∧ PySem.W.kitAny X.K (.ref D) ws = some b ∧ H dd = some (.xd fs) ∧ Q (.bl b) H) := by
  intro pins s σ H xs us Q I r h
  obtain ⟨rfl, dd, rfl, tp, cs, ws, b, fs, rfl, hT, k, e, hd, q⟩ := h
  obtain ⟨u1, u2, rfl, r1, r2⟩ := vals2 r
  cases r1
  cases (show u2 = Value.ref tp from r2)
  obtain ⟨_, its, rv, o, h1, h2, n, h3⟩ := (show ObjOk X.prog X.w H s.heap tp (.tup cs) from I.hok tp _ hT)
  have e3 := ClsV.all k rv
  subst e3
  obtain ⟨oc, od, dt, sl⟩ := o
  simp only at h2 h3
  subst h2 h3
  obtain ⟨hget, _⟩ := I.pin (a, oe) (List.mem_append.mpr (.inl List.mem_cons_self))
  obtain ⟨vs, hv⟩ := hf
  have hx : ObjOk X.prog X.w H s.heap dd (.xd fs) := I.hok dd _ hd
  obtain ⟨mA, hns, hrr⟩ := hx
  obtain ⟨od', ho, hl⟩ := lookIn_ns hns
  have J : PySem.W.InstAt s.heap a oe D (some od') := ⟨hget, hz.1, by unfold PySem.W.notCls; rw [hv] <;> rfl, by rw [hz.2]; exact ho⟩
  obtain ⟨cd, hcc, _⟩ := PySem.W.any_some C.hd
  exact PySem.W.kia_tup (PySem.W.kitx_exc (gt := none) (by rw [hcc]; rfl) C.hg C.hk C.hs C.ha C.hn C.ht C.hm) I.kIn J h1 e (fun z => nomatch z) fun tk => ⟨.bl b, H, I.kept (t' := tk) fun _ _ z => z, rfl, q⟩
end K7E
end
/-! ## P30 -/
section
open PySem PySem.Spec PyProof.Rows L2
namespace K7
abbrev N__law_made : List Str := ["_law_what", "_law_where", "_law_lot", "_law_row", "e"]
abbrev s__law_made : Stmt := topS 53
theorem sc__law_made : FnScope ["_law_what", "_law_where", "_law_lot", "_law_row", "e"] ["_law_what", "_law_where", "_law_lot", "_law_row"] (defScope s__law_made) := ⟨rfl, rfl, rfl, by decide +kernel, rfl, by decide +kernel, by decide +kernel⟩
abbrev N__law_read : List Str := ["_law_place", "_law_text_here", "e"]
abbrev s__law_read : Stmt := topS 56
theorem sc__law_read : FnScope ["_law_place", "_law_text_here", "e"] ["_law_place", "_law_text_here"] (defScope s__law_read) := ⟨rfl, rfl, rfl, by decide +kernel, rfl, by decide +kernel, by decide +kernel⟩
abbrev N__law_text : List Str := ["_law_n", "_law_cell", "_law_number", "_law_letters", "_law_rest", "_law_k"]
abbrev s__law_text : Stmt := topS 54
theorem sc__law_text : FnScope ["_law_n", "_law_cell", "_law_number", "_law_letters", "_law_rest", "_law_k"] ["_law_n", "_law_cell", "_law_number"] (defScope s__law_text) := ⟨rfl, rfl, rfl, by decide +kernel, rfl, by decide +kernel, by decide +kernel⟩
/-! ### made and read -/
structure Te (K : PySem.W.Frag) (mg : Str → Option Value) (BV BT L : Addr) : Prop where
  gL : mg "LandError" = some (.ref L)
  exV : ExcC K BV
  xfV : XfC K BV
  exT : ExcC K BT
  xfT : XfC K BT
  mV : PySem.W.exmOne K (.ref BV) (.ref BV) = some true
  mT : PySem.W.exmOne K (.ref BT) (.ref BT) = some true
  kVL : PySem.W.kitOne K (.ref BV) (.ref L) = some true
  kTL : PySem.W.kitOne K (.ref BT) (.ref L) = some true
  kVT : PySem.W.kitOne K (.ref BV) (.ref BT) = some false
section
variable {P : Program} {w : World} {K : PySem.W.Frag} {mg : Str → Option Value} {base : Heap} {a : AdL} {VC BV iV BT iT L fQ : Addr}
def spMade (K : PySem.W.Frag) (a : AdL) : Sp := fun vs H Q _ => ∃ (pl : Addr) (n : Nat) (es : List (Nat × Nat)) (rd : List Nat) (c : Nat) (w' cv lv rv du : V), vs = [w', cv, lv, rv] ∧ LandO a.C H pl n es rd ∧ c < n ∧ VwSt K a.C pl n c H w' cv lv rv (fun z => du = .str z) (fun _ _ => du = .non) ∧ ∀ H', Same H H' → Q du H'
theorem ok_made (TB : Bv K mg BV iV) (TX : Bx K mg BT iT) (TV : Tv K mg VC fQ) (T3 : Te K mg BV BT L) {f fI : Addr} {fd fdI : FuncData} (F : Fun K "_law_made" "_law_made" s__law_made f fd)
    (MV : Mk K VC fI) (GV : FnOk P w K mg base (L2.CX P w) 4 fI fdI ["self", "land", "cell", "own", "standings"] (spVwR K a VC BV)) (bV : Binds K fdI ["self", "land", "cell", "own", "standings"] []) (m_isinstance : mg "isinstance" = none) : FnOk P w K mg base CX0 6 f fd ["_law_what", "_law_where", "_law_lot", "_law_row"] (spMade K a) := by
  refine F.ok sc__law_made (fun vs H Q E h => ?_) (fun cdv A outer s H vs Q E hr h => ?_)
  · obtain ⟨pl, n, es, rd, c, w', cv, lv, rv, du, rfl, _⟩ := h
    rfl
  · obtain ⟨pl, n, es, rd, c, w', cv, lv, rv, du, rfl, Ld, hc, hs, q⟩ := h
    refine ⟨_, (pss_cons (ps_try_as (i := 4) rfl rfl sc__law_made.nd rfl rfl ⟨rfl, by decide, .inl TB.g⟩ takes0 (fun W pn xe tk _ => (pss_one (ps_expr (K7E.pe_makeW MV GV (hr.mono (by decide)) (by rfl) TV.g bV .nil tk (pa_cons (pv 0) (pa_cons (pv 1) (pa_cons (pv 2) (pa_cons (pv 3) pa_nil)))))))) (fun b oe cls d pn hz hf => (pss_one (ps_ret (pe_ifExp (pw_and (pt_val (pe_callB (K7E.call_isEdX T3.exV hz hf) (by rfl) m_isinstance boot_isinstance (pa_cons (pv 4) (pa_cons (pe_glob (v := .ref _) (by rfl) T3.gL rfl) pa_nil)))) (pw_and1 (pt_not (pt_val (pe_callB (K7E.call_isEdX T3.exV hz hf) (by rfl) m_isinstance boot_isinstance (pa_cons (pv 4) (pa_cons (pe_glob (v := .ref _) (by rfl) TX.g rfl) pa_nil))))))).pt (pe_xf T3.xfV TB.no hz hf (pv 4)) pe_str)))))
 (pss_one (ps_ret pe_non))), ?_⟩
    refine ⟨_, rfl, _, rfl, _, rfl, _, rfl, ?_⟩
    refine new_viewR (K := K) (VC := VC) (BV := BV) (Q := fun _ H' => Q .non H') Ld hc (hs.imp (Same.refl H) (fun z hz => ?_) (fun own row hdu H' x own' e nx pm W => ?_))
    · subst hz
      intro H1 d e1 nd hd
      refine ⟨true, T3.mV, fun _ b hb => ?_, fun z => nomatch z⟩
      refine ⟨_, rfl, rfl, d, rfl, .ref L, .ref L, true, _, rfl, fun u h => h, T3.kVL, hd, ?_⟩
      refine ⟨_, rfl, iteTo rfl ?_⟩
      refine ⟨_, rfl, rfl, d, rfl, .ref BT, .ref BT, false, _, rfl, fun u h => h, T3.kVT, hd, ?_⟩
      refine ⟨_, rfl, iteTo rfl ?_⟩
      exact ⟨_, rfl, rfl, rfl, d, _, _, rfl, hd, rfl, q _ e1⟩
    · rw [hdu] at q
      exact q _ e
def spRead (K : PySem.W.Frag) (a : AdL) (VC : Addr) : Sp := fun vs H Q _ => ∃ (pl : Addr) (n : Nat) (es : List (Nat × Nat)) (rd : List Nat) (v : V), vs = [.ref pl, v] ∧ LandO a.C H pl n es rd ∧ ((NoTxt K H v ∧ ∀ H', Same H H' → Q (.str "text") H') ∨ ∃ ts : List Nat, v = .str (SX.S ts) ∧ ts.length ≤ 1000 ∧
  (cellP n ts = none → ∀ H', Same H H' → Q (.str "cell") H') ∧ (∀ c, cellP n ts = some c → wayP n ts = none → ∀ H', Same H H' → Q (.str "ways") H') ∧
  (∀ c ws, cellP n ts = some c → wayP n ts = some ws → ∀ H' p, Same H H' → H p = none → VwO a.C VC H' p pl n es rd c (ownD (fullW c ws)) (rowD (fullW c ws)) → Q (.ref p) H'))
theorem ok_read (TX : Bx K mg BT iT) (T3 : Te K mg BV BT L) {f fpv : Addr} {fd fdpv : FuncData} (F : Fun K "_law_read" "_law_read" s__law_read f fd)
    (Gpv : FnOk P w K mg base (L2.CX P w) 7 fpv fdpv ["land", "text"] (spPv K a VC BT)) (gpv : mg "parse_view" = some (.ref fpv)) (kpv : PySem.W.keepIn K (.ref fpv) = true) (bpv : Binds K fdpv ["land", "text"] [])
    (m_isinstance : mg "isinstance" = none) (m_bool : mg "bool" = none) : FnOk P w K mg base CX0 8 f fd ["_law_place", "_law_text_here"] (spRead K a VC) := by
  refine F.ok sc__law_read (fun vs H Q E h => ?_) (fun cdv A outer s H vs Q E hr h => ?_)
  · obtain ⟨pl, n, es, rd, v, rfl, _⟩ := h
    rfl
  · obtain ⟨pl, n, es, rd, v, rfl, Ld, h⟩ := h
    refine ⟨_, (pss_one (ps_try_as (i := 2) rfl rfl sc__law_read.nd rfl rfl ⟨rfl, by decide, .inl TX.g⟩ takes0 (fun W pn xe tk _ => (pss_one (ps_ret (K7E.pe_callW Gpv (hr.mono (by decide)) (by rfl) gpv kpv bpv .nil tk (pa_cons (pv 0) (pa_cons (pv 1) pa_nil)))))) (fun b oe cls d pn hz hf => (pss_cons (ps_if (PW.pt (pw_or (pt_val (pe_callB (show CallR _ (.builtin "isinstance") (rIsi K) from call_isi) (by rfl) m_isinstance boot_isinstance (pa_cons (pe_xf T3.xfT TX.noR hz hf (pv 2)) (pa_cons (pe_bltn (v := .ty "bool") (by rfl) m_bool boot_bool rfl) pa_nil)))) (pw_or (pt_cmpR op_ne (pe_xf T3.xfT TX.noR hz hf (pv 2)) pe_int (nomark _)) (pw_or1 (pt_not (pt_val (pe_callB (K7E.call_isEdX T3.exT hz hf) (by rfl) m_isinstance boot_isinstance (pa_cons (pv 2) (pa_cons (pe_glob (v := .ref _) (by rfl) T3.gL rfl) pa_nil)))))))))
  (pss_one (ps_ret pe_str))
  pss_nil)
 (pss_one (ps_ret (pe_xf T3.xfT TX.noW hz hf (pv 2)))))))), ?_⟩
    refine ⟨_, rfl, _, rfl, pl, n, es, rd, v, rfl, Ld, ?_⟩
    rcases h with ⟨nt, k⟩ | ⟨ts, rfl, tl, k1, k2, k3⟩
    · refine .inl ⟨nt, ?_⟩
      intro H1 d e1 nd hd
      refine ⟨true, T3.mT, fun _ b hb => ?_, fun z => nomatch z⟩
      refine ⟨_, rfl, rfl, rfl, d, _, _, rfl, hd, rfl, _, _, _, _, _, rfl, .ty _, .base (.int _), kit_ty (r := false) (by decide +kernel), _, rfl, iteFo rfl ?_⟩
      refine ⟨_, rfl, rfl, rfl, d, _, _, rfl, hd, rfl, rfl, _, rfl, iteFo (by rw [decide_eq_true rfl]; rfl) ?_⟩
      refine ⟨_, rfl, rfl, d, rfl, .ref L, .ref L, true, _, rfl, fun u h => h, T3.kTL, hd, _, rfl, iteFo rfl ?_⟩
      exact ⟨_, rfl, rfl, rfl, d, _, _, rfl, hd, rfl, k _ e1⟩
    · refine .inr ⟨ts, rfl, tl, fun hc => ?_, fun c hc hw => ?_, fun c ws hc hw H' p e np W => ?_⟩
      · intro H1 d e1 nd hd
        refine ⟨true, T3.mT, fun _ b hb => ?_, fun z => nomatch z⟩
        refine ⟨_, rfl, rfl, rfl, d, _, _, rfl, hd, rfl, _, _, _, _, _, rfl, .ty _, .base (.int _), kit_ty (r := false) (by decide +kernel), _, rfl, iteFo rfl ?_⟩
        refine ⟨_, rfl, rfl, rfl, d, _, _, rfl, hd, rfl, rfl, _, rfl, iteFo (by rw [decide_eq_true rfl]; rfl) ?_⟩
        refine ⟨_, rfl, rfl, d, rfl, .ref L, .ref L, true, _, rfl, fun u h => h, T3.kTL, hd, _, rfl, iteFo rfl ?_⟩
        exact ⟨_, rfl, rfl, rfl, d, _, _, rfl, hd, rfl, k1 hc _ e1⟩
      · intro H1 d e1 nd hd
        refine ⟨true, T3.mT, fun _ b hb => ?_, fun z => nomatch z⟩
        refine ⟨_, rfl, rfl, rfl, d, _, _, rfl, hd, rfl, _, _, _, _, _, rfl, .ty _, .base (.int _), kit_ty (r := false) (by decide +kernel), _, rfl, iteFo rfl ?_⟩
        refine ⟨_, rfl, rfl, rfl, d, _, _, rfl, hd, rfl, rfl, _, rfl, iteFo (by rw [decide_eq_true rfl]; rfl) ?_⟩
        refine ⟨_, rfl, rfl, d, rfl, .ref L, .ref L, true, _, rfl, fun u h => h, T3.kTL, hd, _, rfl, iteFo rfl ?_⟩
        exact ⟨_, rfl, rfl, rfl, d, _, _, rfl, hd, rfl, k2 c hc hw _ e1⟩
      · exact k3 c ws hc hw H' p e np W
def spLtx : Sp := fun vs H Q _ => ∃ (n c k : Nat), vs = [.int (n : Nat), .int (c : Nat), .int (k : Nat)] ∧ 2 ≤ n ∧ n ≤ 5 ∧ c < n ∧ k < 5000 ∧ Q (.str (SX.S (vtL c (dgs (n - 1) k)))) H
theorem ok_ltx {f : Addr} {fd : FuncData} (F : Fun K "_law_text" "_law_text" s__law_text f fd) (m_range : mg "range" = none) (m_int : mg "int" = none) (m_str : mg "str" = none) : FnOk P w K mg base CX0 1 f fd ["_law_n", "_law_cell", "_law_number"] spLtx := by
  refine F.ok sc__law_text (fun vs H Q E h => ?_) (fun cdv A outer s H vs Q E hr h => ?_)
  · obtain ⟨n, c, k, rfl, _⟩ := h
    rfl
  · obtain ⟨n, c, k, rfl, n2, n5, hc, hk, q⟩ := h
    refine ⟨_, (pss_cons (ps_par (by rfl) sc__law_text.nd (i := 3) (j := 4) rfl rfl (by decide) rfl rfl (pa_cons pe_str (pa_cons (pv 2) pa_nil)) (by rfl))
 (pss_cons (ps_for PassesOwn.never rfl (pi_range1 rfl m_range (pa_cons (pe_op op_sub (pv 0) pe_int) pa_nil)) (pg_name (i := 5) sc__law_text.nd rfl (by first | exact Or.inl rfl | exact Or.inr rfl))
  (pss_cons (ps_set (i := 3) sc__law_text.nd rfl (by first | exact Or.inl rfl | exact Or.inr rfl) (pe_op op_add_str (pe_ix ix_str pe_str (pe_op op_mod (pe_callTy call_int1 (by rfl) m_int boot_int (pa_cons (pv 4) pa_nil)) pe_int) (fun _ _ => rfl)) (pv 3)))
 (pss_one (ps_set (i := 4) sc__law_text.nd rfl (by first | exact Or.inl rfl | exact Or.inr rfl) (pe_op op_fdiv (pv 4) pe_int)))))
 (pss_one (ps_ret (pe_op op_add_str (pe_op op_add_str (pe_callTy call_str_int (by rfl) m_str boot_str (pa_cons (pv 1) pa_nil)) pe_str) (pv 3)))))), ?_⟩
    refine ⟨_, rfl, _, _, rfl, ?_⟩
    have tn1 : (((n : Nat) : Int) - 1).toNat = n - 1 := by omega
    have os : ("os.an" : Str) = SX.S [111, 115, 46, 97, 110] ∧ ("" : Str) = SX.S [] ∧ (": " : Str) = SX.S [58, 32] := by decide +kernel
    refine ⟨_, rfl, _, _, rfl, rfl, _, rfl, by omega, by omega, for_range (lo := 0) (n := (((n : Nat) : Int) - 1).toNat) (fun i σ H' => ∃ y5, σ = [some (.int (n : Nat)), some (.int (c : Nat)), some (.int (k : Nat)), some (.str (SX.S ((dgs i k).map letN))), some (.int ((k / 5 ^ i : Nat) : Nat)), y5] ∧ H' = H) ⟨none, by rw [Nat.pow_zero, Nat.div_one, os.2.1]; rfl, rfl⟩ (fun i σ H2 hi pv => ?_) (fun σ H2 pv => ?_)⟩
    · obtain ⟨y5, rfl, rfl⟩ := pv
      rw [tn1] at hi
      have md : (((k / 5 ^ i : Nat) : Nat) : Int) % 5 = ((k / 5 ^ i % 5 : Nat) : Int) := by omega
      have dv : (((k / 5 ^ i : Nat) : Nat) : Int) / 5 = ((k / 5 ^ (i + 1) : Nat) : Int) := by
        rw [Nat.pow_succ, ← Nat.div_div_eq_div_mul]
        omega
      refine ⟨_, rfl, .inl ⟨_, rfl, _, _, rfl, rfl, by show (0 : Int) < 5; decide, ?_⟩⟩
      have m5 : k / 5 ^ i % 5 < 5 := Nat.mod_lt _ (by decide)
      have dat : atI ("os.an" : Str).cps.toList ((((k / 5 ^ i : Nat) : Nat) : Int) % 5) = some (letN (k / 5 ^ i % 5)) := by
        rw [md, os.1]
        refine atI_nat ?_
        show ([111, 115, 46, 97, 110] : List Nat)[k / 5 ^ i % 5]? = some (letN (k / 5 ^ i % 5))
        generalize k / 5 ^ i % 5 = x at m5
        match x, m5 with
        | 0, _ => rfl
        | 1, _ => rfl
        | 2, _ => rfl
        | 3, _ => rfl
        | 4, _ => rfl
      refine ⟨_, _, _, rfl, rfl, by rw [os.1, SX.S_len, sizeLine_eq]; decide, dat, ?_⟩
      refine ⟨_, rfl, _, _, rfl, rfl, ?_, ?_⟩
      · show (SX.S [_]).length + _ ≤ _
        rw [SX.S_len, SX.S_len, List.length_map, dgs_len, sizeLine_eq]
        show 1 + i ≤ _
        omega
      rw [show ({ cps := #[letN (k / 5 ^ i % 5)] } : Str) ++ SX.S ((dgs i k).map letN) = SX.S ((dgs (i + 1) k).map letN) from SX.S_cat [letN (k / 5 ^ i % 5)] _]
      refine ⟨_, rfl, _, _, rfl, rfl, ⟨by decide, by decide⟩, some (.int (0 + (i : Nat))), ?_, rfl⟩
      show [some (V.int (n : Nat)), some (.int (c : Nat)), some (.int (k : Nat)), some (.str (SX.S ((dgs (i + 1) k).map letN))), some (.int ((((k / 5 ^ i : Nat) : Nat) : Int) / 5)), some (.int (0 + (i : Nat)))] = _
      rw [dv]
    · obtain ⟨y5, rfl, rfl⟩ := pv
      rw [tn1]
      have c10 : c < 10 := by omega
      refine ⟨_, rfl, _, rfl, small_log c10, ?_⟩
      rw [num_one c10, os.2.2]
      refine ⟨_, _, rfl, rfl, ?_, _, rfl, _, _, rfl, rfl, ?_, ?_⟩
      · rw [SX.S_len, SX.S_len, sizeLine_eq]
        show 1 + 2 ≤ _
        decide
      · rw [SX.S_cat, SX.S_len, SX.S_len, List.length_map, dgs_len, sizeLine_eq]
        show 3 + (n - 1) ≤ _
        omega
      · rw [SX.S_cat, SX.S_cat]
        exact q
end
end K7
end
/-! ## P31 -/
section
open PySem PySem.Spec PyProof.Rows L2
namespace K7
abbrev N__law_bad_text : List Str := ["_law_hand_here", "_law_n", "_law_text_here", "_law_digits", "_law_letter", "_law_place", "_law_odd", "_law_many", "_law_things"]
abbrev s__law_bad_text : Stmt := topS 55
theorem sc__law_bad_text : FnScope ["_law_hand_here", "_law_n", "_law_text_here", "_law_digits", "_law_letter", "_law_place", "_law_odd", "_law_many", "_law_things"] ["_law_hand_here", "_law_n", "_law_text_here"] (defScope s__law_bad_text) := ⟨rfl, rfl, rfl, by decide +kernel, rfl, by decide +kernel, by decide +kernel⟩
/-! ### texts that are none -/
inductive Bt (n : Nat) (h : Addr) (H : Hp) : V → Prop
  | way {q : Addr} {ts : List Nat} {c : Nat} (hq : H q = some (.tup [.str (SX.S ts), .str "ways"])) (ne : q ≠ h) (l : ts.length ≤ 100) (hc : cellP n ts = some c) (hw : wayP n ts = none) : Bt n h H (.ref q)
  | cel {q : Addr} {ts : List Nat} (hq : H q = some (.tup [.str (SX.S ts), .str "cell"])) (ne : q ≠ h) (l : ts.length ≤ 100) (hc : cellP n ts = none) : Bt n h H (.ref q)
  | flt {q : Addr} {v : V} (hq : H q = some (.tup [v, .str "text"])) (ne : q ≠ h) (nt : v = .non ∨ v = .int 0 ∨ v = .bl true) : Bt n h H (.ref q)
  | lst {q b : Addr} {xs : List V} (hq : H q = some (.tup [.ref b, .str "text"])) (ne : q ≠ h) (hb : H b = some (.lst xs)) (nb : b ≠ h) : Bt n h H (.ref q)
theorem Bt.but {n : Nat} {h : Addr} {H H' : Hp} {v : V} (b : Bt n h H v) (e : But h H H') : Bt n h H' v := by
  cases b with
  | way hq ne l hc hw => exact .way (e _ _ ne hq) ne l hc hw
  | cel hq ne l hc => exact .cel (e _ _ ne hq) ne l hc
  | flt hq ne nt => exact .flt (e _ _ ne hq) ne nt
  | lst hq ne hb nb => exact .lst (e _ _ ne hq) ne (e _ _ nb hb) nb
theorem Bt.same {n : Nat} {h : Addr} {H H' : Hp} {v : V} (b : Bt n h H v) (e : Same H H') : Bt n h H' v := b.but fun _ _ _ hb => e _ _ hb
theorem slice_less {T : List Nat} (h : 1 ≤ T.length) : Txt.slice (SX.S T) none (some (-1)) = SX.S (T.take (T.length - 1)) := by
  have e : Builtin.Str.strSliceIndices none (some (-1)) 1 (SX.S T).length = Builtin.Str.strSliceIndices none (some ((T.length - 1 : Nat) : Int)) 1 (SX.S T).length := by
    rw [SX.S_len]
    show sliceRange 0 (max 0 (min (-1 + ((T.length : Nat) : Int)) ((T.length : Nat) : Int))) 1 = sliceRange 0 (max 0 (min (if ((T.length - 1 : Nat) : Int) < 0 then ((T.length - 1 : Nat) : Int) + ((T.length : Nat) : Int) else ((T.length - 1 : Nat) : Int)) ((T.length : Nat) : Int))) 1
    rw [if_neg (by omega), show -1 + ((T.length : Nat) : Int) = ((T.length - 1 : Nat) : Int) by omega]
  have z : Txt.slice (SX.S T) none (some (-1)) = Txt.slice (SX.S T) none (some ((T.length - 1 : Nat) : Int)) := by
    unfold Txt.slice
    rw [e]
  rw [z, SX.slice_to (by omega), Int.toNat_natCast]
theorem cell_yes {n c : Nat} {r : List Nat} (hc : c < n) (h10 : c < 10) : cellP n ((48 + c) :: 58 :: 32 :: r) = some c := by
  show (if (48 ≤ 48 + c ∧ 48 + c ≤ 57) ∧ 48 + c - 48 < n ∧ (58 :: 32 :: r).take 2 = [58, 32] then some (48 + c - 48) else none) = some c
  rw [Nat.add_sub_cancel_left, if_pos ⟨⟨by omega, by omega⟩, hc, rfl⟩]
theorem cell_no {n x : Nat} {r : List Nat} (h : ¬ ((48 ≤ x ∧ x ≤ 57) ∧ x - 48 < n ∧ r.take 2 = [58, 32])) : cellP n (x :: r) = none := if_neg h
theorem way_no {n a b d : Nat} {m : List Nat} (h : ¬ (m.length + 1 = n ∧ m.all isLet = true)) : wayP n (a :: b :: d :: m) = none := if_neg h
section
variable {P : Program} {w : World} {K : PySem.W.Frag} {mg : Str → Option Value} {base : Heap}
def spBad : Sp := fun vs H Q _ => ∃ (h c0 : Addr) (n c : Nat) (m : List Nat), vs = [.ref h, .int (n : Nat), .str (SX.S ((48 + c) :: 58 :: 32 :: m))] ∧ Hand H h c0 ∧ 2 ≤ n ∧ n ≤ 5 ∧ c < n ∧ m.length + 1 = n ∧ (∀ x ∈ m, isLet x = true) ∧
  ∀ H' v, Stay h c0 H H' → Bt n h H' v → Q v H'
theorem ok_bad {f fdr fpk : Addr} {fd fddr fdpk : FuncData} (F : Fun K "_law_bad_text" "_law_bad_text" s__law_bad_text f fd)
    (Gdr : FnOk P w K mg base CX0 2 fdr fddr ["_law_hand_here", "_law_many"] spDraw) (gdr : mg "_law_draw" = some (.ref fdr)) (kdr : PySem.W.keepIn K (.ref fdr) = true) (bdr : Binds K fddr ["_law_hand_here", "_law_many"] [])
    (Gpk : FnOk P w K mg base CX0 3 fpk fdpk ["_law_hand_here", "_law_things"] spPick) (gpk : mg "_law_pick" = some (.ref fpk)) (kpk : PySem.W.keepIn K (.ref fpk) = true) (bpk : Binds K fdpk ["_law_hand_here", "_law_things"] []) : FnOk P w K mg base CX0 4 f fd ["_law_hand_here", "_law_n", "_law_text_here"] spBad := by
  refine F.ok sc__law_bad_text (fun vs H Q E h => ?_) (fun cdv A outer s H vs Q E hr h => ?_)
  · obtain ⟨h, c0, n, c, m, rfl, _⟩ := h
    rfl
  · obtain ⟨h, c0, n, c, m, rfl, hh, n2, n5, hc, hm, hl, q⟩ := h
    refine ⟨_, (pss_cons (ps_par (by rfl) sc__law_bad_text.nd (i := 3) (j := 4) rfl rfl (by decide) rfl rfl (pa_cons pe_str (pa_cons (pe_call Gpk (hr.mono (by decide)) (by rfl) gpk kpk bpk .nil pass0 (pa_cons (pv 0) (pa_cons (pe_lst (pa_cons pe_str (pa_cons pe_str (pa_cons pe_str (pa_cons pe_str (pa_cons pe_str (pa_cons pe_str pa_nil))))))) pa_nil))) pa_nil)) (by rfl))
 (pss_cons (ps_set (i := 5) sc__law_bad_text.nd rfl (by first | exact Or.inl rfl | exact Or.inr rfl) (pe_op op_add pe_int (pe_call Gdr (hr.mono (by decide)) (by rfl) gdr kdr bdr .nil pass0 (pa_cons (pv 0) (pa_cons (pe_op op_sub (pv 1) pe_int) pa_nil)))))
 (pss_cons (ps_set (i := 6) sc__law_bad_text.nd rfl (by first | exact Or.inl rfl | exact Or.inr rfl) (pe_op op_add_str (pe_op op_add_str (pe_slice C8.sl_txt (pv 2) po_none (po_some (pv 5))) (pv 4)) (pe_slice C8.sl_txt (pv 2) (po_some (pe_op op_add (pv 5) pe_int)) po_none)))
 (pss_cons (ps_set (i := 7) sc__law_bad_text.nd rfl (by first | exact Or.inl rfl | exact Or.inr rfl) (pe_ix ix_str (pv 3) (pe_op op_add (pv 1) (pe_call Gdr (hr.mono (by decide)) (by rfl) gdr kdr bdr .nil pass0 (pa_cons (pv 0) (pa_cons (pe_op op_sub pe_int (pv 1)) pa_nil)))) (fun _ _ => rfl)))
 (Evl.pss_cut (ps_set (i := 8) sc__law_bad_text.nd rfl (by first | exact Or.inl rfl | exact Or.inr rfl) (pe_lst (pa_cons (pe_tup (pa_cons (pv 6) (pa_cons pe_str pa_nil))) (pa_cons (pe_tup (pa_cons (pv 6) (pa_cons pe_str pa_nil))) (pa_cons (pe_tup (pa_cons (pe_op op_add_str (pv 2) pe_str) (pa_cons pe_str pa_nil))) (pa_cons (pe_tup (pa_cons (pe_slice C8.sl_txt (pv 2) po_none (po_some (pe_un un_neg pe_int))) (pa_cons pe_str pa_nil))) (pa_cons (pe_tup (pa_cons (pe_op op_add_str (pv 2) pe_str) (pa_cons pe_str pa_nil))) (pa_cons (pe_tup (pa_cons (pe_slice C8.sl_txt (pv 2) po_none (po_some pe_int)) (pa_cons pe_str pa_nil))) pa_nil))))))))
 (Evl.pss_cut (ps_set (i := 8) sc__law_bad_text.nd rfl (by first | exact Or.inl rfl | exact Or.inr rfl) (pe_op op_cat (pv 8) (pe_lst (pa_cons (pe_tup (pa_cons (pe_op op_add_str (pv 7) (pe_slice C8.sl_txt (pv 2) (po_some pe_int) po_none)) (pa_cons pe_str pa_nil))) (pa_cons (pe_tup (pa_cons (pe_op op_add_str (pv 7) (pe_slice C8.sl_txt (pv 6) (po_some pe_int) po_none)) (pa_cons pe_str pa_nil))) (pa_cons (pe_tup (pa_cons pe_str (pa_cons pe_str pa_nil))) (pa_cons (pe_tup (pa_cons (pe_ix ix_str (pv 2) pe_int (fun _ _ => rfl)) (pa_cons pe_str pa_nil))) (pa_cons (pe_tup (pa_cons (pe_slice C8.sl_txt (pv 2) po_none (po_some pe_int)) (pa_cons pe_str pa_nil))) (pa_cons (pe_tup (pa_cons (pe_slice C8.sl_txt (pv 2) (po_some pe_int) po_none) (pa_cons pe_str pa_nil))) pa_nil)))))))))
 (Evl.pss_cut (ps_set (i := 8) sc__law_bad_text.nd rfl (by first | exact Or.inl rfl | exact Or.inr rfl) (pe_op op_cat (pv 8) (pe_lst (pa_cons (pe_tup (pa_cons (pe_op op_add_str (pe_op op_add_str (pe_ix ix_str (pv 2) pe_int (fun _ _ => rfl)) pe_str) (pe_slice C8.sl_txt (pv 2) (po_some pe_int) po_none)) (pa_cons pe_str pa_nil))) (pa_cons (pe_tup (pa_cons (pe_op op_add_str pe_str (pv 2)) (pa_cons pe_str pa_nil))) (pa_cons (pe_tup (pa_cons (pe_op op_add_str pe_str (pv 2)) (pa_cons pe_str pa_nil))) (pa_cons (pe_tup (pa_cons (pe_op op_add_str (pe_op op_add_str (pe_ix ix_str (pv 2) pe_int (fun _ _ => rfl)) pe_str) (pe_slice C8.sl_txt (pv 2) (po_some pe_int) po_none)) (pa_cons pe_str pa_nil))) pa_nil)))))))
 (Evl.pss_cut (ps_set (i := 8) sc__law_bad_text.nd rfl (by first | exact Or.inl rfl | exact Or.inr rfl) (pe_op op_cat (pv 8) (pe_lst (pa_cons (pe_tup (pa_cons pe_non (pa_cons pe_str pa_nil))) (pa_cons (pe_tup (pa_cons pe_int (pa_cons pe_str pa_nil))) (pa_cons (pe_tup (pa_cons (pe_lst (pa_cons (pv 2) pa_nil)) (pa_cons pe_str pa_nil))) (pa_cons (pe_tup (pa_cons pe_bl (pa_cons pe_str pa_nil))) pa_nil)))))))
 (pss_one (ps_ret (pe_call Gpk (hr.mono (by decide)) (by rfl) gpk kpk bpk .nil pass0 (pa_cons (pv 0) (pa_cons (pv 8) pa_nil))))))))))))), ?_⟩
    have zl : ∀ k : List Nat, k.length ≤ 1000 → (SX.S k).length ≤ sizeLine := fun k h => by rw [SX.S_len, sizeLine_eq]; omega
    have ca : ("o" : Str) = SX.S [111] ∧ (" " : Str) = SX.S [32] ∧ (":" : Str) = SX.S [58] ∧ (" :" : Str) = SX.S [32, 58] ∧ ("0" : Str) = SX.S [48] ∧ ("" : Str) = SX.S [] ∧ ("0123456789" : Str) = SX.S [48, 49, 50, 51, 52, 53, 54, 55, 56, 57] := by decide +kernel
    have cl : ("O" : Str) = SX.S [79] ∧ ("x" : Str) = SX.S [120] ∧ ("-" : Str) = SX.S [45] ∧ ("\n" : Str) = SX.S [10] := by decide +kernel
    -- a letter
    refine ⟨_, rfl, by show 6 ≤ sizeLine; decide, fun lp nlp => ?_⟩
    refine ⟨h, c0, lp, _, rfl, hh.same (al nlp), (hh.ne nlp).1, upd_same, by show 0 < 6; decide, by show 6 ≤ 1000; decide, fun H1 j0 v d1 hv => ?_⟩
    obtain ⟨x, rfl, hx⟩ : ∃ x : Nat, v = .str (SX.S [x]) ∧ isLet x = false := by
      have mm := List.mem_of_getElem? hv
      simp only [List.mem_cons, List.not_mem_nil, or_false] at mm
      rcases mm with rfl | rfl | rfl | rfl | rfl | rfl
      · exact ⟨79, congrArg V.str cl.1, by decide⟩
      · exact ⟨120, congrArg V.str cl.2.1, by decide⟩
      · exact ⟨32, congrArg V.str ca.2.1, by decide⟩
      · exact ⟨48, congrArg V.str ca.2.2.2.2.1, by decide⟩
      · exact ⟨45, congrArg V.str cl.2.2.1, by decide⟩
      · exact ⟨10, congrArg V.str cl.2.2.2, by decide⟩
    have s1 := (Stay.of_same hh (al nlp)).drawn d1
    clear d1 hv
    refine ⟨_, _, rfl, ?_⟩
    rw [ca.2.2.2.2.2.2]
    -- a place
    refine ⟨_, rfl, _, rfl, _, _, rfl, rfl, h, c0, _, rfl, s1.hand, by omega, Int.lt_of_le_of_lt (show ((n : Nat) : Int) - 1 ≤ 1000 by omega) (by decide), fun H2 r d2 r0 r1 => ?_⟩
    obtain ⟨j, rfl⟩ : ∃ j : Nat, r = (j : Int) := ⟨r.toNat, by omega⟩
    have hj : j < m.length := by omega
    have s2 := s1.drawn d2
    clear d2
    refine ⟨_, _, rfl, rfl, ?_⟩
    -- the odd text
    have t1 : Txt.slice (SX.S ((48 + c) :: 58 :: 32 :: m)) none (some (3 + (j : Int))) = SX.S ((48 + c) :: 58 :: 32 :: m.take j) := by
      rw [SX.slice_to (by omega), show (3 + (j : Int)).toNat = j + 1 + 1 + 1 by omega]
      rfl
    have t2 : Txt.slice (SX.S ((48 + c) :: 58 :: 32 :: m)) (some (3 + (j : Int) + 1)) none = SX.S (m.drop (j + 1)) := by
      rw [SX.slice_from (by omega), show (3 + (j : Int) + 1).toNat = j + 1 + 1 + 1 + 1 by omega]
      rfl
    have Tl : ((48 + c) :: 58 :: 32 :: m).length ≤ 1000 := by show m.length + 1 + 1 + 1 ≤ 1000; omega
    have sz : ∀ a b : List Nat, a.length ≤ 1000 → b.length ≤ 1000 → (SX.S a).length + (SX.S b).length ≤ sizeLine := fun a b h1 h2 => by rw [SX.S_len, SX.S_len, sizeLine_eq]; omega
    refine ⟨_, rfl, _, rfl, _, rfl, _, rfl, zl _ Tl, ?_⟩
    rw [t1]
    refine ⟨_, rfl, _, _, rfl, rfl, sz _ _ (by show (m.take j).length + 1 + 1 + 1 ≤ 1000; rw [List.length_take]; omega) (by show 1 ≤ 1000; decide), ?_⟩
    rw [SX.S_cat]
    refine ⟨_, rfl, _, rfl, _, _, rfl, rfl, _, rfl, _, rfl, zl _ Tl, ?_⟩
    rw [t2]
    refine ⟨_, _, rfl, rfl, sz _ _ (by show ((m.take j) ++ [x]).length + 1 + 1 + 1 ≤ 1000; rw [List.length_append, List.length_take]; show min j m.length + 1 + 1 + 1 + 1 ≤ 1000; omega) (by rw [List.length_drop]; omega), ?_⟩
    rw [SX.S_cat, show ((48 + c) :: 58 :: 32 :: m.take j ++ [x]) ++ m.drop (j + 1) = (48 + c) :: 58 :: 32 :: (m.take j ++ x :: m.drop (j + 1)) by simp]
    have odl : (m.take j ++ x :: m.drop (j + 1)).length = m.length := by rw [List.length_append, List.length_cons, List.length_take, List.length_drop]; omega
    have odn : (m.take j ++ x :: m.drop (j + 1)).all isLet = false := List.all_eq_false.mpr ⟨x, List.mem_append_right _ (List.mem_cons_self ..), by rw [hx]; decide⟩
    generalize m.take j ++ x :: m.drop (j + 1) = od at odl odn ⊢
    clear t1 t2
    -- a digit that is no cell
    refine ⟨_, rfl, _, rfl, _, rfl, _, rfl, _, _, rfl, rfl, h, c0, _, rfl, s2.hand, by omega, Int.lt_of_le_of_lt (show (10 : Int) - ((n : Nat) : Int) ≤ 1000 by omega) (by decide), fun H3 r d3 r0' r1' => ?_⟩
    obtain ⟨e, rfl⟩ : ∃ e : Nat, r = (e : Int) := ⟨r.toNat, by omega⟩
    have s3 := s2.drawn d3
    clear d3
    have dat : atI (SX.S [48, 49, 50, 51, 52, 53, 54, 55, 56, 57]).cps.toList (((n : Nat) : Int) + (e : Int)) = some (48 + (n + e)) := by
      rw [show ((n : Nat) : Int) + (e : Int) = ((n + e : Nat) : Int) by omega]
      refine atI_nat ?_
      have hne : n + e < 10 := by omega
      show ([48, 49, 50, 51, 52, 53, 54, 55, 56, 57] : List Nat)[n + e]? = some (48 + (n + e))
      generalize n + e = y at hne
      match y, hne with
      | 0, _ => rfl
      | 1, _ => rfl
      | 2, _ => rfl
      | 3, _ => rfl
      | 4, _ => rfl
      | 5, _ => rfl
      | 6, _ => rfl
      | 7, _ => rfl
      | 8, _ => rfl
      | 9, _ => rfl
    refine ⟨_, _, rfl, rfl, _, _, _, rfl, rfl, zl _ (by decide), dat, ?_⟩
    rw [show (({ cps := #[48 + (n + e)] } : Str)) = SX.S [48 + (n + e)] from rfl]
    have dn : ¬ (48 + (n + e) - 48 < n) := by omega
    generalize 48 + (n + e) = dg at dn ⊢
    have ODl : ((48 + c) :: 58 :: 32 :: od).length ≤ 1000 := by show od.length + 1 + 1 + 1 ≤ 1000; omega
    have c10 : c < 10 := by omega
    have lm := hm
    have ne_m : ∀ k, ¬ k + 1 = n → ¬ (k + 1 = n ∧ True) := fun k h z => h z.1
    have w_od : cellP n ((48 + c) :: 58 :: 32 :: od) = some c ∧ wayP n ((48 + c) :: 58 :: 32 :: od) = none := ⟨cell_yes hc c10, way_no fun z => by rw [odn] at z; cases z.2⟩
    have w_o : cellP n ((48 + c) :: 58 :: 32 :: m ++ [111]) = some c ∧ wayP n ((48 + c) :: 58 :: 32 :: m ++ [111]) = none := ⟨cell_yes hc c10, way_no fun z => by have this : (m ++ [111]).length + 1 = n := z.1; rw [List.length_append] at this; have : m.length + 1 + 1 = n := this; omega⟩
    have w_s : cellP n ((48 + c) :: 58 :: 32 :: m ++ [32]) = some c ∧ wayP n ((48 + c) :: 58 :: 32 :: m ++ [32]) = none := ⟨cell_yes hc c10, way_no fun z => by have this : (m ++ [32]).length + 1 = n := z.1; rw [List.length_append] at this; have : m.length + 1 + 1 = n := this; omega⟩
    have w_3 : cellP n (((48 + c) :: 58 :: 32 :: m).take 3) = some c ∧ wayP n (((48 + c) :: 58 :: 32 :: m).take 3) = none := ⟨cell_yes hc c10, way_no fun z => by have : 0 + 1 = n := z.1; omega⟩
    have w_n : cellP n (((48 + c) :: 58 :: 32 :: m).take (((48 + c) :: 58 :: 32 :: m).length - 1)) = some c ∧ wayP n (((48 + c) :: 58 :: 32 :: m).take (((48 + c) :: 58 :: 32 :: m).length - 1)) = none := by
      have e : ((48 + c) :: 58 :: 32 :: m).take (((48 + c) :: 58 :: 32 :: m).length - 1) = (48 + c) :: 58 :: 32 :: m.take (m.length - 1) := by
        rw [show ((48 + c) :: 58 :: 32 :: m).length - 1 = (m.length - 1) + 1 + 1 + 1 by show m.length + 1 + 1 + 1 - 1 = _; omega]
        rfl
      rw [e]
      exact ⟨cell_yes hc c10, way_no fun z => by have := z.1; rw [List.length_take] at this; omega⟩
    obtain ⟨m0, mr, em⟩ : ∃ m0 mr, m = m0 :: mr := by
      cases hmm : m with
      | nil => rw [hmm] at hm; exact absurd hm (by show ¬ 0 + 1 = n; omega)
      | cons a b => exact ⟨a, b, rfl⟩
    have m0n : m0 ≠ 32 := fun z => by
      have := hl m0 (by rw [em]; exact List.mem_cons_self ..)
      rw [z] at this
      cases this
    have c7 : cellP n ([dg] ++ ((48 + c) :: 58 :: 32 :: m).drop 1) = none := cell_no fun z => dn z.2.1
    have c8 : cellP n ([dg] ++ ((48 + c) :: 58 :: 32 :: od).drop 1) = none := cell_no fun z => dn z.2.1
    have c10' : cellP n [48 + c] = none := cell_no fun z => nomatch z.2.2
    have c11 : cellP n (((48 + c) :: 58 :: 32 :: m).take 2) = none := cell_no fun z => nomatch z.2.2
    have c12 : cellP n (((48 + c) :: 58 :: 32 :: m).drop 1) = none := cell_no fun z => absurd z.1.2 (by decide)
    have c13 : cellP n ([48 + c] ++ [58] ++ ((48 + c) :: 58 :: 32 :: m).drop 3) = none := cell_no fun z => by
      have : ([58] ++ m).take 2 = [58, 32] := z.2.2
      rw [em] at this
      injection this with _ this
      injection this with this _
      exact m0n this
    have c14 : cellP n ([32] ++ ((48 + c) :: 58 :: 32 :: m)) = none := cell_no fun z => absurd z.1.1 (by decide)
    have c15 : cellP n ([48] ++ ((48 + c) :: 58 :: 32 :: m)) = none := cell_no fun z => by
      have : ([48 + c, 58] : List Nat) = [58, 32] := z.2.2
      injection this with _ this
      cases this
    have c16 : cellP n ([48 + c] ++ [32, 58] ++ ((48 + c) :: 58 :: 32 :: m).drop 3) = none := cell_no fun z => by
      have : ([32, 58] : List Nat) = [58, 32] := z.2.2
      cases this
    have at0 : atI (SX.S ((48 + c) :: 58 :: 32 :: m)).cps.toList 0 = some (48 + c) := atI_nat (j := 0) rfl
    have Tl8 : ((48 + c) :: 58 :: 32 :: m).length ≤ 8 := by show m.length + 1 + 1 + 1 ≤ 8; omega
    have Ol8 : ((48 + c) :: 58 :: 32 :: od).length ≤ 8 := by show od.length + 1 + 1 + 1 ≤ 8; omega
    have T1 : 1 ≤ ((48 + c) :: 58 :: 32 :: m).length := by show 1 ≤ m.length + 1 + 1 + 1; omega
    generalize (48 + c) :: 58 :: 32 :: m = T at Tl w_o w_s w_3 w_n c7 c11 c12 c13 c14 c15 c16 at0 Tl8 T1 ⊢
    generalize (48 + c) :: 58 :: 32 :: od = OD at ODl w_od c8 Ol8 ⊢
    generalize 48 + c = c48 at c10' c13 c16 at0 ⊢
    have td : ∀ k, (T.drop k).length ≤ 8 := fun k => by rw [List.length_drop]; omega
    have tt : ∀ k, (T.take k).length ≤ 8 := fun k => by rw [List.length_take]; omega
    have od1 : (OD.drop 1).length ≤ 8 := by rw [List.length_drop]; omega
    have sn := slice_less T1
    have s_3 : Txt.slice (SX.S T) none (some 3) = SX.S (T.take 3) := SX.slice_to (by decide)
    have s_2 : Txt.slice (SX.S T) none (some 2) = SX.S (T.take 2) := SX.slice_to (by decide)
    have s1_ : Txt.slice (SX.S T) (some 1) none = SX.S (T.drop 1) := SX.slice_from (by decide)
    have s3_ : Txt.slice (SX.S T) (some 3) none = SX.S (T.drop 3) := SX.slice_from (by decide)
    have o1_ : Txt.slice (SX.S OD) (some 1) none = SX.S (OD.drop 1) := SX.slice_from (by decide)
    clear lm ne_m
    have cs : ∀ x : Nat, ({ cps := #[x] } : Str) = SX.S [x] := fun _ => rfl
    refine ⟨fun τ H' => ∃ tt xs, τ = [some (.ref h), some (.int (n : Nat)), some (.str (SX.S T)), some (.str (SX.S [48, 49, 50, 51, 52, 53, 54, 55, 56, 57])), some (.str (SX.S [x])), some (.int (3 + (j : Int))), some (.str (SX.S OD)), some (.str (SX.S [dg])), some (.ref tt)] ∧ Stay h c0 H H' ∧ tt ≠ h ∧ H' tt = some (.lst xs) ∧ 0 < xs.length ∧ xs.length ≤ 6 ∧ ∀ x ∈ xs, Bt n h H' x, ?_, fun τ HZ hM => ?_⟩
    · have hh0 := s3.hand
      have e0 := Same.refl H3
      refine ⟨_, rfl, by show 2 ≤ sizeLine; decide, fun q1 nq1 => ?_⟩
      have f1 := al (o := .tup [V.str (SX.S (OD)), .str "ways"]) nq1
      have nh1 := (hh0.ne nq1).1
      have b1 : Bt n h (upd H3 q1 (.tup [V.str (SX.S (OD)), .str "ways"])) (.ref q1) := .way (ts := OD) (c := c) upd_same nh1 (by have := Ol8; omega) w_od.1 w_od.2
      generalize upd H3 q1 (.tup [V.str (SX.S (OD)), .str "ways"]) = G1 at f1 b1 ⊢
      have hh1 := hh0.same f1
      have e1 := e0.trans f1
      refine ⟨_, rfl, by show 2 ≤ sizeLine; decide, fun q2 nq2 => ?_⟩
      have f2 := al (o := .tup [V.str (SX.S (OD)), .str "ways"]) nq2
      have nh2 := (hh1.ne nq2).1
      have b2 : Bt n h (upd G1 q2 (.tup [V.str (SX.S (OD)), .str "ways"])) (.ref q2) := .way (ts := OD) (c := c) upd_same nh2 (by have := Ol8; omega) w_od.1 w_od.2
      generalize upd G1 q2 (.tup [V.str (SX.S (OD)), .str "ways"]) = G2 at f2 b2 ⊢
      have hh2 := hh1.same f2
      have e2 := e1.trans f2
      refine ⟨_, rfl, _, _, rfl, rfl, by rw [ca.1]; exact sz _ _ Tl (by decide), ?_⟩
      rw [ca.1, SX.S_cat]
      refine ⟨by show 2 ≤ sizeLine; decide, fun q3 nq3 => ?_⟩
      have f3 := al (o := .tup [V.str (SX.S (T ++ [111])), .str "ways"]) nq3
      have nh3 := (hh2.ne nq3).1
      have b3 : Bt n h (upd G2 q3 (.tup [V.str (SX.S (T ++ [111])), .str "ways"])) (.ref q3) := .way (ts := T ++ [111]) (c := c) upd_same nh3 (by rw [List.length_append]; have := Tl8; show T.length + 1 ≤ 100; omega) w_o.1 w_o.2
      generalize upd G2 q3 (.tup [V.str (SX.S (T ++ [111])), .str "ways"]) = G3 at f3 b3 ⊢
      have hh3 := hh2.same f3
      have e3 := e2.trans f3
      refine ⟨_, rfl, _, rfl, _, rfl, _, rfl, zl _ Tl, ?_⟩
      rw [sn]
      refine ⟨by show 2 ≤ sizeLine; decide, fun q4 nq4 => ?_⟩
      have f4 := al (o := .tup [V.str (SX.S (T.take (T.length - 1))), .str "ways"]) nq4
      have nh4 := (hh3.ne nq4).1
      have b4 : Bt n h (upd G3 q4 (.tup [V.str (SX.S (T.take (T.length - 1))), .str "ways"])) (.ref q4) := .way (ts := T.take (T.length - 1)) (c := c) upd_same nh4 (by have := tt (T.length - 1); omega) w_n.1 w_n.2
      generalize upd G3 q4 (.tup [V.str (SX.S (T.take (T.length - 1))), .str "ways"]) = G4 at f4 b4 ⊢
      have hh4 := hh3.same f4
      have e4 := e3.trans f4
      refine ⟨_, rfl, _, _, rfl, rfl, by rw [ca.2.1]; exact sz _ _ Tl (by decide), ?_⟩
      rw [ca.2.1, SX.S_cat]
      refine ⟨by show 2 ≤ sizeLine; decide, fun q5 nq5 => ?_⟩
      have f5 := al (o := .tup [V.str (SX.S (T ++ [32])), .str "ways"]) nq5
      have nh5 := (hh4.ne nq5).1
      have b5 : Bt n h (upd G4 q5 (.tup [V.str (SX.S (T ++ [32])), .str "ways"])) (.ref q5) := .way (ts := T ++ [32]) (c := c) upd_same nh5 (by rw [List.length_append]; have := Tl8; show T.length + 1 ≤ 100; omega) w_s.1 w_s.2
      generalize upd G4 q5 (.tup [V.str (SX.S (T ++ [32])), .str "ways"]) = G5 at f5 b5 ⊢
      have hh5 := hh4.same f5
      have e5 := e4.trans f5
      refine ⟨_, rfl, _, rfl, _, rfl, zl _ Tl, ?_⟩
      rw [s_3]
      refine ⟨by show 2 ≤ sizeLine; decide, fun q6 nq6 => ?_⟩
      have f6 := al (o := .tup [V.str (SX.S (T.take 3)), .str "ways"]) nq6
      have nh6 := (hh5.ne nq6).1
      have b6 : Bt n h (upd G5 q6 (.tup [V.str (SX.S (T.take 3)), .str "ways"])) (.ref q6) := .way (ts := T.take 3) (c := c) upd_same nh6 (by have := tt 3; omega) w_3.1 w_3.2
      generalize upd G5 q6 (.tup [V.str (SX.S (T.take 3)), .str "ways"]) = G6 at f6 b6 ⊢
      have hh6 := hh5.same f6
      have e6 := e5.trans f6
      have g6 := Same.refl G6
      have g5 := f6.trans g6
      have g4 := f5.trans g5
      have g3 := f4.trans g4
      have g2 := f3.trans g3
      have g1 := f2.trans g2
      refine ⟨by show 6 ≤ sizeLine; decide, fun ln nln => ?_⟩
      have fl := al (o := .lst [V.ref q1, V.ref q2, V.ref q3, V.ref q4, V.ref q5, V.ref q6]) nln
      have allN : ∀ x ∈ [V.ref q1, V.ref q2, V.ref q3, V.ref q4, V.ref q5, V.ref q6], Bt n h G6 x := fun x hx => by
        simp only [List.mem_cons, List.not_mem_nil, or_false] at hx
        rcases hx with rfl | rfl | rfl | rfl | rfl | rfl
        · exact b1.same g1
        · exact b2.same g2
        · exact b3.same g3
        · exact b4.same g4
        · exact b5.same g5
        · exact b6.same g6
      exact ⟨ln, _, rfl, (s3.same e6).same fl, (hh6.ne nln).1, upd_same, by show 0 < 6; decide, by show 6 ≤ 6; decide, fun x hx => (allN x hx).same fl⟩
    obtain ⟨ttS, xsS, rfl, sS, ntS, htS, l0S, l1S, allS⟩ := hM
    generalize HZ = HS at sS htS allS ⊢
    refine ⟨fun τ H' => ∃ tt xs, τ = [some (.ref h), some (.int (n : Nat)), some (.str (SX.S T)), some (.str (SX.S [48, 49, 50, 51, 52, 53, 54, 55, 56, 57])), some (.str (SX.S [x])), some (.int (3 + (j : Int))), some (.str (SX.S OD)), some (.str (SX.S [dg])), some (.ref tt)] ∧ Stay h c0 H H' ∧ tt ≠ h ∧ H' tt = some (.lst xs) ∧ 0 < xs.length ∧ xs.length ≤ 12 ∧ ∀ x ∈ xs, Bt n h H' x, ?_, fun τ HZ hM => ?_⟩
    · have hh0 := sS.hand
      have e0 := Same.refl HS
      refine ⟨_, rfl, _, rfl, _, rfl, _, rfl, _, rfl, zl _ Tl, ?_⟩
      rw [s1_]
      refine ⟨_, _, rfl, rfl, sz _ _ (by show 1 ≤ 1000; decide) (by have := td 1; omega), ?_⟩
      rw [SX.S_cat]
      refine ⟨by show 2 ≤ sizeLine; decide, fun q1 nq1 => ?_⟩
      have f1 := al (o := .tup [V.str (SX.S ([dg] ++ T.drop 1)), .str "cell"]) nq1
      have nh1 := (hh0.ne nq1).1
      have b1 : Bt n h (upd HS q1 (.tup [V.str (SX.S ([dg] ++ T.drop 1)), .str "cell"])) (.ref q1) := .cel (ts := [dg] ++ T.drop 1) upd_same nh1 (by have := td 1; show (T.drop 1).length + 1 ≤ 100; omega) c7
      generalize upd HS q1 (.tup [V.str (SX.S ([dg] ++ T.drop 1)), .str "cell"]) = G1 at f1 b1 ⊢
      have hh1 := hh0.same f1
      have e1 := e0.trans f1
      refine ⟨_, rfl, _, rfl, _, rfl, _, rfl, zl _ ODl, ?_⟩
      rw [o1_]
      refine ⟨_, _, rfl, rfl, sz _ _ (by show 1 ≤ 1000; decide) (by omega), ?_⟩
      rw [SX.S_cat]
      refine ⟨by show 2 ≤ sizeLine; decide, fun q2 nq2 => ?_⟩
      have f2 := al (o := .tup [V.str (SX.S ([dg] ++ OD.drop 1)), .str "cell"]) nq2
      have nh2 := (hh1.ne nq2).1
      have b2 : Bt n h (upd G1 q2 (.tup [V.str (SX.S ([dg] ++ OD.drop 1)), .str "cell"])) (.ref q2) := .cel (ts := [dg] ++ OD.drop 1) upd_same nh2 (by show (OD.drop 1).length + 1 ≤ 100; omega) c8
      generalize upd G1 q2 (.tup [V.str (SX.S ([dg] ++ OD.drop 1)), .str "cell"]) = G2 at f2 b2 ⊢
      have hh2 := hh1.same f2
      have e2 := e1.trans f2
      refine ⟨by show 2 ≤ sizeLine; decide, fun q3 nq3 => ?_⟩
      have f3 := al (o := .tup [V.str "", .str "cell"]) nq3
      have nh3 := (hh2.ne nq3).1
      have b3 : Bt n h (upd G2 q3 (.tup [V.str "", .str "cell"])) (.ref q3) := .cel (ts := []) (by rw [upd_same, ca.2.2.2.2.2.1]) nh3 (by decide) rfl
      generalize upd G2 q3 (.tup [V.str "", .str "cell"]) = G3 at f3 b3 ⊢
      have hh3 := hh2.same f3
      have e3 := e2.trans f3
      refine ⟨_, rfl, _, _, _, rfl, rfl, zl _ Tl, at0, ?_⟩
      rw [cs]
      refine ⟨by show 2 ≤ sizeLine; decide, fun q4 nq4 => ?_⟩
      have f4 := al (o := .tup [V.str (SX.S ([c48])), .str "cell"]) nq4
      have nh4 := (hh3.ne nq4).1
      have b4 : Bt n h (upd G3 q4 (.tup [V.str (SX.S ([c48])), .str "cell"])) (.ref q4) := .cel (ts := [c48]) upd_same nh4 (by show 1 ≤ 100; decide) c10'
      generalize upd G3 q4 (.tup [V.str (SX.S ([c48])), .str "cell"]) = G4 at f4 b4 ⊢
      have hh4 := hh3.same f4
      have e4 := e3.trans f4
      refine ⟨_, rfl, _, rfl, _, rfl, zl _ Tl, ?_⟩
      rw [s_2]
      refine ⟨by show 2 ≤ sizeLine; decide, fun q5 nq5 => ?_⟩
      have f5 := al (o := .tup [V.str (SX.S (T.take 2)), .str "cell"]) nq5
      have nh5 := (hh4.ne nq5).1
      have b5 : Bt n h (upd G4 q5 (.tup [V.str (SX.S (T.take 2)), .str "cell"])) (.ref q5) := .cel (ts := T.take 2) upd_same nh5 (by have := tt 2; omega) c11
      generalize upd G4 q5 (.tup [V.str (SX.S (T.take 2)), .str "cell"]) = G5 at f5 b5 ⊢
      have hh5 := hh4.same f5
      have e5 := e4.trans f5
      refine ⟨_, rfl, _, rfl, _, rfl, zl _ Tl, ?_⟩
      rw [s1_]
      refine ⟨by show 2 ≤ sizeLine; decide, fun q6 nq6 => ?_⟩
      have f6 := al (o := .tup [V.str (SX.S (T.drop 1)), .str "cell"]) nq6
      have nh6 := (hh5.ne nq6).1
      have b6 : Bt n h (upd G5 q6 (.tup [V.str (SX.S (T.drop 1)), .str "cell"])) (.ref q6) := .cel (ts := T.drop 1) upd_same nh6 (by have := td 1; omega) c12
      generalize upd G5 q6 (.tup [V.str (SX.S (T.drop 1)), .str "cell"]) = G6 at f6 b6 ⊢
      have hh6 := hh5.same f6
      have e6 := e5.trans f6
      have g6 := Same.refl G6
      have g5 := f6.trans g6
      have g4 := f5.trans g5
      have g3 := f4.trans g4
      have g2 := f3.trans g3
      have g1 := f2.trans g2
      refine ⟨by show 6 ≤ sizeLine; decide, fun ln nln => ?_⟩
      have fl := al (o := .lst [V.ref q1, V.ref q2, V.ref q3, V.ref q4, V.ref q5, V.ref q6]) nln
      have allN : ∀ x ∈ [V.ref q1, V.ref q2, V.ref q3, V.ref q4, V.ref q5, V.ref q6], Bt n h G6 x := fun x hx => by
        simp only [List.mem_cons, List.not_mem_nil, or_false] at hx
        rcases hx with rfl | rfl | rfl | rfl | rfl | rfl
        · exact b1.same g1
        · exact b2.same g2
        · exact b3.same g3
        · exact b4.same g4
        · exact b5.same g5
        · exact b6.same g6
      have ftt := (e6.trans fl) _ _ htS
      refine ⟨ttS, ln, _, _, rfl, rfl, ftt, upd_same, by rw [sizeLine_eq]; show xsS.length + 6 ≤ _; omega, fun l2 nl2 => ?_⟩
      have fm := al (o := .lst (xsS ++ [V.ref q1, V.ref q2, V.ref q3, V.ref q4, V.ref q5, V.ref q6])) nl2
      have eA := (e6.trans fl).trans fm
      refine ⟨l2, _, rfl, sS.same eA, ((hh6.same fl).ne nl2).1, upd_same, by rw [List.length_append]; omega, by rw [List.length_append]; show xsS.length + 6 ≤ 12; omega, fun x hx => ?_⟩
      rcases List.mem_append.mp hx with hx | hx
      · exact (allS x hx).same eA
      · exact ((allN x hx).same fl).same fm
    obtain ⟨ttS, xsS, rfl, sS, ntS, htS, l0S, l1S, allS⟩ := hM
    generalize HZ = HS at sS htS allS ⊢
    refine ⟨fun τ H' => ∃ tt xs, τ = [some (.ref h), some (.int (n : Nat)), some (.str (SX.S T)), some (.str (SX.S [48, 49, 50, 51, 52, 53, 54, 55, 56, 57])), some (.str (SX.S [x])), some (.int (3 + (j : Int))), some (.str (SX.S OD)), some (.str (SX.S [dg])), some (.ref tt)] ∧ Stay h c0 H H' ∧ tt ≠ h ∧ H' tt = some (.lst xs) ∧ 0 < xs.length ∧ xs.length ≤ 16 ∧ ∀ x ∈ xs, Bt n h H' x, ?_, fun τ HZ hM => ?_⟩
    · have hh0 := sS.hand
      have e0 := Same.refl HS
      refine ⟨_, rfl, _, rfl, _, _, _, rfl, rfl, zl _ Tl, at0, ?_⟩
      rw [cs]
      refine ⟨_, _, rfl, rfl, by rw [ca.2.2.1]; exact sz _ _ (by show 1 ≤ 1000; decide) (by decide), ?_⟩
      rw [ca.2.2.1, SX.S_cat]
      refine ⟨_, rfl, _, rfl, _, rfl, zl _ Tl, ?_⟩
      rw [s3_]
      refine ⟨_, _, rfl, rfl, sz _ _ (by show 2 ≤ 1000; decide) (by have := td 3; omega), ?_⟩
      rw [SX.S_cat]
      refine ⟨by show 2 ≤ sizeLine; decide, fun q1 nq1 => ?_⟩
      have f1 := al (o := .tup [V.str (SX.S ([c48] ++ [58] ++ T.drop 3)), .str "cell"]) nq1
      have nh1 := (hh0.ne nq1).1
      have b1 : Bt n h (upd HS q1 (.tup [V.str (SX.S ([c48] ++ [58] ++ T.drop 3)), .str "cell"])) (.ref q1) := .cel (ts := [c48] ++ [58] ++ T.drop 3) upd_same nh1 (by have := td 3; show (T.drop 3).length + 1 + 1 ≤ 100; omega) c13
      generalize upd HS q1 (.tup [V.str (SX.S ([c48] ++ [58] ++ T.drop 3)), .str "cell"]) = G1 at f1 b1 ⊢
      have hh1 := hh0.same f1
      have e1 := e0.trans f1
      refine ⟨_, rfl, _, _, rfl, rfl, by rw [ca.2.1]; exact sz _ _ (by decide) Tl, ?_⟩
      rw [ca.2.1, SX.S_cat]
      refine ⟨by show 2 ≤ sizeLine; decide, fun q2 nq2 => ?_⟩
      have f2 := al (o := .tup [V.str (SX.S ([32] ++ T)), .str "cell"]) nq2
      have nh2 := (hh1.ne nq2).1
      have b2 : Bt n h (upd G1 q2 (.tup [V.str (SX.S ([32] ++ T)), .str "cell"])) (.ref q2) := .cel (ts := [32] ++ T) upd_same nh2 (by show T.length + 1 ≤ 100; omega) c14
      generalize upd G1 q2 (.tup [V.str (SX.S ([32] ++ T)), .str "cell"]) = G2 at f2 b2 ⊢
      have hh2 := hh1.same f2
      have e2 := e1.trans f2
      refine ⟨_, rfl, _, _, rfl, rfl, by rw [ca.2.2.2.2.1]; exact sz _ _ (by decide) Tl, ?_⟩
      rw [ca.2.2.2.2.1, SX.S_cat]
      refine ⟨by show 2 ≤ sizeLine; decide, fun q3 nq3 => ?_⟩
      have f3 := al (o := .tup [V.str (SX.S ([48] ++ T)), .str "cell"]) nq3
      have nh3 := (hh2.ne nq3).1
      have b3 : Bt n h (upd G2 q3 (.tup [V.str (SX.S ([48] ++ T)), .str "cell"])) (.ref q3) := .cel (ts := [48] ++ T) upd_same nh3 (by show T.length + 1 ≤ 100; omega) c15
      generalize upd G2 q3 (.tup [V.str (SX.S ([48] ++ T)), .str "cell"]) = G3 at f3 b3 ⊢
      have hh3 := hh2.same f3
      have e3 := e2.trans f3
      refine ⟨_, rfl, _, _, _, rfl, rfl, zl _ Tl, at0, ?_⟩
      rw [cs]
      refine ⟨_, _, rfl, rfl, by rw [ca.2.2.2.1]; exact sz _ _ (by show 1 ≤ 1000; decide) (by decide), ?_⟩
      rw [ca.2.2.2.1, SX.S_cat]
      refine ⟨_, rfl, _, rfl, _, rfl, zl _ Tl, ?_⟩
      rw [s3_]
      refine ⟨_, _, rfl, rfl, sz _ _ (by show 3 ≤ 1000; decide) (by have := td 3; omega), ?_⟩
      rw [SX.S_cat]
      refine ⟨by show 2 ≤ sizeLine; decide, fun q4 nq4 => ?_⟩
      have f4 := al (o := .tup [V.str (SX.S ([c48] ++ [32, 58] ++ T.drop 3)), .str "cell"]) nq4
      have nh4 := (hh3.ne nq4).1
      have b4 : Bt n h (upd G3 q4 (.tup [V.str (SX.S ([c48] ++ [32, 58] ++ T.drop 3)), .str "cell"])) (.ref q4) := .cel (ts := [c48] ++ [32, 58] ++ T.drop 3) upd_same nh4 (by have := td 3; show (T.drop 3).length + 1 + 1 + 1 ≤ 100; omega) c16
      generalize upd G3 q4 (.tup [V.str (SX.S ([c48] ++ [32, 58] ++ T.drop 3)), .str "cell"]) = G4 at f4 b4 ⊢
      have hh4 := hh3.same f4
      have e4 := e3.trans f4
      have g4 := Same.refl G4
      have g3 := f4.trans g4
      have g2 := f3.trans g3
      have g1 := f2.trans g2
      refine ⟨by show 4 ≤ sizeLine; decide, fun ln nln => ?_⟩
      have fl := al (o := .lst [V.ref q1, V.ref q2, V.ref q3, V.ref q4]) nln
      have allN : ∀ x ∈ [V.ref q1, V.ref q2, V.ref q3, V.ref q4], Bt n h G4 x := fun x hx => by
        simp only [List.mem_cons, List.not_mem_nil, or_false] at hx
        rcases hx with rfl | rfl | rfl | rfl
        · exact b1.same g1
        · exact b2.same g2
        · exact b3.same g3
        · exact b4.same g4
      have ftt := (e4.trans fl) _ _ htS
      refine ⟨ttS, ln, _, _, rfl, rfl, ftt, upd_same, by rw [sizeLine_eq]; show xsS.length + 4 ≤ _; omega, fun l2 nl2 => ?_⟩
      have fm := al (o := .lst (xsS ++ [V.ref q1, V.ref q2, V.ref q3, V.ref q4])) nl2
      have eA := (e4.trans fl).trans fm
      refine ⟨l2, _, rfl, sS.same eA, ((hh4.same fl).ne nl2).1, upd_same, by rw [List.length_append]; omega, by rw [List.length_append]; show xsS.length + 4 ≤ 16; omega, fun x hx => ?_⟩
      rcases List.mem_append.mp hx with hx | hx
      · exact (allS x hx).same eA
      · exact ((allN x hx).same fl).same fm
    obtain ⟨ttS, xsS, rfl, sS, ntS, htS, l0S, l1S, allS⟩ := hM
    generalize HZ = HS at sS htS allS ⊢
    refine ⟨fun τ H' => ∃ tt xs, τ = [some (.ref h), some (.int (n : Nat)), some (.str (SX.S T)), some (.str (SX.S [48, 49, 50, 51, 52, 53, 54, 55, 56, 57])), some (.str (SX.S [x])), some (.int (3 + (j : Int))), some (.str (SX.S OD)), some (.str (SX.S [dg])), some (.ref tt)] ∧ Stay h c0 H H' ∧ tt ≠ h ∧ H' tt = some (.lst xs) ∧ 0 < xs.length ∧ xs.length ≤ 20 ∧ ∀ x ∈ xs, Bt n h H' x, ?_, fun τ HZ hM => ?_⟩
    · have hh0 := sS.hand
      have e0 := Same.refl HS
      refine ⟨_, rfl, by show 2 ≤ sizeLine; decide, fun q1 nq1 => ?_⟩
      have f1 := al (o := .tup [V.non, .str "text"]) nq1
      have nh1 := (hh0.ne nq1).1
      have b1 : Bt n h (upd HS q1 (.tup [V.non, .str "text"])) (.ref q1) := .flt upd_same nh1 (.inl rfl)
      generalize upd HS q1 (.tup [V.non, .str "text"]) = G1 at f1 b1 ⊢
      have hh1 := hh0.same f1
      have e1 := e0.trans f1
      refine ⟨by show 2 ≤ sizeLine; decide, fun q2 nq2 => ?_⟩
      have f2 := al (o := .tup [V.int 0, .str "text"]) nq2
      have nh2 := (hh1.ne nq2).1
      have b2 : Bt n h (upd G1 q2 (.tup [V.int 0, .str "text"])) (.ref q2) := .flt upd_same nh2 (.inr (.inl rfl))
      generalize upd G1 q2 (.tup [V.int 0, .str "text"]) = G2 at f2 b2 ⊢
      have hh2 := hh1.same f2
      have e2 := e1.trans f2
      refine ⟨_, rfl, by show 1 ≤ sizeLine; decide, fun bL nbL => ?_⟩
      have fL := al (o := .lst [V.str (SX.S T)]) nbL
      have hbL : upd G2 bL (.lst [V.str (SX.S T)]) bL = some (.lst [V.str (SX.S T)]) := upd_same
      have nhL := (hh2.ne nbL).1
      generalize upd G2 bL (.lst [V.str (SX.S T)]) = GL at fL hbL ⊢
      have hhL := hh2.same fL
      refine ⟨by show 2 ≤ sizeLine; decide, fun q3 nq3 => ?_⟩
      have f3' := al (o := .tup [.ref bL, .str "text"]) nq3
      have nh3 := (hhL.ne nq3).1
      have b3 : Bt n h (upd GL q3 (.tup [.ref bL, .str "text"])) (.ref q3) := .lst upd_same nh3 (f3' _ _ hbL) nhL
      generalize upd GL q3 (.tup [.ref bL, .str "text"]) = G3 at f3' b3 ⊢
      have f3 := fL.trans f3'
      have hh3 := hhL.same f3'
      have e3 := e2.trans f3
      refine ⟨by show 2 ≤ sizeLine; decide, fun q4 nq4 => ?_⟩
      have f4 := al (o := .tup [V.bl true, .str "text"]) nq4
      have nh4 := (hh3.ne nq4).1
      have b4 : Bt n h (upd G3 q4 (.tup [V.bl true, .str "text"])) (.ref q4) := .flt upd_same nh4 (.inr (.inr rfl))
      generalize upd G3 q4 (.tup [V.bl true, .str "text"]) = G4 at f4 b4 ⊢
      have hh4 := hh3.same f4
      have e4 := e3.trans f4
      have g4 := Same.refl G4
      have g3 := f4.trans g4
      have g2 := f3.trans g3
      have g1 := f2.trans g2
      refine ⟨by show 4 ≤ sizeLine; decide, fun ln nln => ?_⟩
      have fl := al (o := .lst [V.ref q1, V.ref q2, V.ref q3, V.ref q4]) nln
      have allN : ∀ x ∈ [V.ref q1, V.ref q2, V.ref q3, V.ref q4], Bt n h G4 x := fun x hx => by
        simp only [List.mem_cons, List.not_mem_nil, or_false] at hx
        rcases hx with rfl | rfl | rfl | rfl
        · exact b1.same g1
        · exact b2.same g2
        · exact b3.same g3
        · exact b4.same g4
      have ftt := (e4.trans fl) _ _ htS
      refine ⟨ttS, ln, _, _, rfl, rfl, ftt, upd_same, by rw [sizeLine_eq]; show xsS.length + 4 ≤ _; omega, fun l2 nl2 => ?_⟩
      have fm := al (o := .lst (xsS ++ [V.ref q1, V.ref q2, V.ref q3, V.ref q4])) nl2
      have eA := (e4.trans fl).trans fm
      refine ⟨l2, _, rfl, sS.same eA, ((hh4.same fl).ne nl2).1, upd_same, by rw [List.length_append]; omega, by rw [List.length_append]; show xsS.length + 4 ≤ 20; omega, fun x hx => ?_⟩
      rcases List.mem_append.mp hx with hx | hx
      · exact (allS x hx).same eA
      · exact ((allN x hx).same fl).same fm
    obtain ⟨ttZ, xsZ, rfl, sZ, ntZ, htZ, l0Z, l1Z, allZ⟩ := hM
    refine ⟨_, rfl, _, rfl, h, c0, ttZ, xsZ, rfl, sZ.hand, ntZ, htZ, l0Z, by omega, fun HF jf v df hv => ?_⟩
    exact q HF v (sZ.drawn df) ((allZ v (List.mem_of_getElem? hv)).but fun b o nb z => by rw [df.but b nb]; exact z)
end
end K7
end
/-! ## P32 -/
section
open PySem PySem.Spec PyProof.Rows L2
namespace K7
abbrev N_law : List Str := ["_law_script", "_law_hand_here", "_law_n", "_law_land_here", "_law_place", "_law_most", "_law_turn", "_law_cell", "_law_number", "_law_what", "_law_where", "_law_lot", "_law_row", "_law_due", "_law_text_here", "_law_told", "_law_bad", "_law_word", "_law_answer"]
abbrev s_law : Stmt := topS 57
theorem sc_law : FnScope ["_law_script", "_law_hand_here", "_law_n", "_law_land_here", "_law_place", "_law_most", "_law_turn", "_law_cell", "_law_number", "_law_what", "_law_where", "_law_lot", "_law_row", "_law_due", "_law_text_here", "_law_told", "_law_bad", "_law_word", "_law_answer"] ["_law_script"] (defScope s_law) := ⟨rfl, rfl, rfl, by decide +kernel, rfl, by decide +kernel, by decide +kernel⟩
/-! ### the law -/
theorem lot_up : ∀ n : Fin 6, (lotsTo (List.range n.val) n.val).all (fun l => l.all (fun c => decide (c < n.val)) && decide (l.Pairwise (· < ·))) = true := by decide +kernel
theorem read_back {n c : Nat} {ws : List Nat} (hc : c < n) (c10 : c < 10) (hl : ws.length + 1 = n) (h5 : ∀ d ∈ ws, d < 5) : cellP n (vtL c ws) = some c ∧ wayP n (vtL c ws) = some ws := by
  refine ⟨cell_yes hc c10, ?_⟩
  have f : ∀ d : Fin 5, isLet (letN d.val) = true ∧ letD (letN d.val) = d.val := by decide +kernel
  have al : (ws.map letN).all isLet = true := List.all_eq_true.mpr fun y hy => by
    obtain ⟨d, hd, rfl⟩ := List.mem_map.mp hy
    exact (f ⟨d, h5 d hd⟩).1
  show (if (ws.map letN).length + 1 = n ∧ (ws.map letN).all isLet = true then some ((ws.map letN).map letD) else none) = some ws
  rw [if_pos ⟨by rw [List.length_map]; exact hl, al⟩, List.map_map]
  congr 1
  refine (List.map_congr_left fun d hd => ?_).trans (List.map_id ws)
  exact (f ⟨d, h5 d hd⟩).2
theorem let_all {ws : List Nat} (h5 : ∀ d ∈ ws, d < 5) : ∀ x ∈ ws.map letN, isLet x = true := fun y hy => by
  have f : ∀ d : Fin 5, isLet (letN d.val) = true := by decide +kernel
  obtain ⟨d, hd, rfl⟩ := List.mem_map.mp hy
  exact f ⟨d, h5 d hd⟩
theorem D7.du {pl : Addr} {n c : Nat} {h : Addr} {H : Hp} {w cv lv rv du : V} (d : D7 pl n c h H w cv lv rv du) : du = .non ∨ ∃ z, du = .str z := by
  rcases d with ⟨_, k⟩ | ⟨_, d⟩
  · exact .inr ⟨_, k⟩
  rcases d with ⟨_, _, k⟩ | ⟨_, d⟩
  · exact .inr ⟨_, k⟩
  rcases d with ⟨_, k⟩ | ⟨o, own, _, _, _, _, _, _, d⟩
  · exact .inr ⟨_, k⟩
  rcases d with ⟨_, k⟩ | ⟨t, row, _, _, _, _, _, d⟩
  · exact .inr ⟨_, k⟩
  rcases d with ⟨_, k⟩ | ⟨_, _, k⟩ | ⟨_, _, k⟩
  · exact .inr ⟨_, k⟩
  · exact .inr ⟨_, k⟩
  · exact .inl k
theorem LandO.stay {C p h c0 : Addr} {H H' : Hp} {n : Nat} {es : List (Nat × Nat)} {rd : List Nat} (L : LandO C H p n es rd) (x : Stay h c0 H H') : LandO C H' p n es rd := by
  obtain ⟨dx, an, ar, ay, ac, tn, ty, tc, h1, h2, h3, h4, h5, h6, h7, h8⟩ := L.at_
  have tu : ∀ b xs, H b = some (.tup xs) → H' b = some (.tup xs) := fun b xs hb => x.but b _ (x.hand0.net hb) hb
  exact ⟨⟨dx, an, ar, ay, ac, tn, ty, tc, x.but _ _ (x.hand0.nei h1) h1, tu _ _ h2, h3.mono tu, tu _ _ h4, tu _ _ h5, h6.mono tu, tu _ _ h7, h8.mono tu⟩, L.n2, L.n5, L.ok, L.rlt, L.rnd, L.rso, L.r0, L.rn⟩
section
variable {P : Program} {w : World} {K : PySem.W.Frag} {mg : Str → Option Value} {base : Heap} {a : AdL} {VC fQ fE : Addr}
def spLaw (K : PySem.W.Frag) : Sp := fun vs H Q _ => ∃ (s : Addr) (ns : List Int), vs = [.ref s] ∧ SqL K H s (ns.map V.int) ∧ ns.length ≤ 63 ∧ ∀ H', Q (.bl true) H'
theorem ok_law (T : Tl K mg a) (TV : Tv K mg VC fQ) (TO : To K a.C) {f fha fld fdr fpk fpt fmd fltx fvt fva frd fbd fI : Addr} {fd fdha fdld fddr fdpk fdpt fdmd fdltx fdvt fdva fdrd fdbd fdI fdQ : FuncData} (F : Fun K "law" "law" s_law f fd)
    (Gha : FnOk P w K mg base CX0 1 fha fdha ["_law_script"] (spHand K)) (gha : mg "_law_hand" = some (.ref fha)) (kha : PySem.W.keepIn K (.ref fha) = true) (bha : Binds K fdha ["_law_script"] [])
    (Gld : FnOk P w K mg base CX0 4 fld fdld ["_law_hand_here", "_law_n"] spLand) (gld : mg "_law_land" = some (.ref fld)) (kld : PySem.W.keepIn K (.ref fld) = true) (bld : Binds K fdld ["_law_hand_here", "_law_n"] [])
    (Gdr : FnOk P w K mg base CX0 2 fdr fddr ["_law_hand_here", "_law_many"] spDraw) (gdr : mg "_law_draw" = some (.ref fdr)) (kdr : PySem.W.keepIn K (.ref fdr) = true) (bdr : Binds K fddr ["_law_hand_here", "_law_many"] [])
    (Gpk : FnOk P w K mg base CX0 3 fpk fdpk ["_law_hand_here", "_law_things"] spPick) (gpk : mg "_law_pick" = some (.ref fpk)) (kpk : PySem.W.keepIn K (.ref fpk) = true) (bpk : Binds K fdpk ["_law_hand_here", "_law_things"] [])
    (Gpt : FnOk P w K mg base CX0 5 fpt fdpt ["_law_hand_here", "_law_n", "_law_place", "_law_cell", "_law_number"] (spParts a)) (gpt : mg "_law_parts" = some (.ref fpt)) (kpt : PySem.W.keepIn K (.ref fpt) = true) (bpt : Binds K fdpt ["_law_hand_here", "_law_n", "_law_place", "_law_cell", "_law_number"] [])
    (Gmd : FnOk P w K mg base CX0 6 fmd fdmd ["_law_what", "_law_where", "_law_lot", "_law_row"] (spMade K a)) (gmd : mg "_law_made" = some (.ref fmd)) (kmd : PySem.W.keepIn K (.ref fmd) = true) (bmd : Binds K fdmd ["_law_what", "_law_where", "_law_lot", "_law_row"] [])
    (Gltx : FnOk P w K mg base CX0 1 fltx fdltx ["_law_n", "_law_cell", "_law_number"] spLtx) (gltx : mg "_law_text" = some (.ref fltx)) (kltx : PySem.W.keepIn K (.ref fltx) = true) (bltx : Binds K fdltx ["_law_n", "_law_cell", "_law_number"] [])
    (Gvt : FnOk P w K mg base CX0 7 fvt fdvt ["view"] (spVt a VC)) (gvt : mg "view_text" = some (.ref fvt)) (kvt : PySem.W.keepIn K (.ref fvt) = true) (bvt : Binds K fdvt ["view"] [])
    (Gva : FnOk P w K mg base (L2.CX P w) 8 fva fdva ["land", "cell", "number"] (spVAt a VC)) (gva : mg "view_at" = some (.ref fva)) (kva : PySem.W.keepIn K (.ref fva) = true) (bva : Binds K fdva ["land", "cell", "number"] [])
    (Grd : FnOk P w K mg base CX0 8 frd fdrd ["_law_place", "_law_text_here"] (spRead K a VC)) (grd : mg "_law_read" = some (.ref frd)) (krd : PySem.W.keepIn K (.ref frd) = true) (brd : Binds K fdrd ["_law_place", "_law_text_here"] [])
    (Gbd : FnOk P w K mg base CX0 4 fbd fdbd ["_law_hand_here", "_law_n", "_law_text_here"] spBad) (gbd : mg "_law_bad_text" = some (.ref fbd)) (kbd : PySem.W.keepIn K (.ref fbd) = true) (bbd : Binds K fdbd ["_law_hand_here", "_law_n", "_law_text_here"] [])
    (MC : Mk K a.C fI) (GI : FnOk P w K mg base CX0 5 fI fdI ["self", "cells", "neighbours", "roads"] (spLandI a)) (bI : Binds K fdI ["self", "cells", "neighbours", "roads"] [])
    (GQ : FnOk P w K mg base CX0 2 fQ fdQ ["self", "other"] (spEqV a VC)) (bQ : Binds K fdQ ["self", "other"] [])
    (m_isinstance : mg "isinstance" = none) (m_str : mg "str" = none) (m_range : mg "range" = none) : FnOk P w K mg base CX0 10 f fd ["_law_script"] (spLaw K) := by
  refine F.ok sc_law (fun vs H Q E h => ?_) (fun cdv A outer s H vs Q E hr h => ?_)
  · obtain ⟨s, ns, rfl, _⟩ := h
    rfl
  · obtain ⟨s0, ns, rfl, hS, hl, q⟩ := h
    refine ⟨_, (pss_cons (ps_set (i := 1) sc_law.nd rfl (by first | exact Or.inl rfl | exact Or.inr rfl) (pe_call Gha (hr.mono (by decide)) (by rfl) gha kha bha .nil pass0 (pa_cons (pv 0) pa_nil)))
 (pss_cons (ps_set (i := 2) sc_law.nd rfl (by first | exact Or.inl rfl | exact Or.inr rfl) (pe_call Gpk (hr.mono (by decide)) (by rfl) gpk kpk bpk .nil pass0 (pa_cons (pv 1) (pa_cons (pe_lst (pa_cons pe_int (pa_cons pe_int (pa_cons pe_int (pa_cons pe_int (pa_cons pe_int (pa_cons pe_int (pa_cons pe_int (pa_cons pe_int pa_nil))))))))) pa_nil))))
 (pss_cons (ps_set (i := 3) sc_law.nd rfl (by first | exact Or.inl rfl | exact Or.inr rfl) (pe_call Gld (hr.mono (by decide)) (by rfl) gld kld bld .nil pass0 (pa_cons (pv 1) (pa_cons (pv 2) pa_nil))))
 (pss_cons (ps_par (by rfl) sc_law.nd (i := 4) (j := 5) rfl rfl (by decide) rfl rfl (pa_cons (pe_make MC GI (hr.mono (by decide)) (by rfl) T.gC bI .nil pass0 (pa_cons (pv 2) (pa_cons (pe_ix ix_tup (pv 3) pe_int (fun _ _ => rfl)) (pa_cons (pe_ix ix_tup (pv 3) pe_int (fun _ _ => rfl)) pa_nil)))) (pa_cons (pe_ix ix_list (pe_lst (pa_cons pe_int (pa_cons pe_int (pa_cons pe_int (pa_cons pe_int (pa_cons pe_int pa_nil)))))) (pe_op op_sub (pv 2) pe_int) (fun _ _ => rfl)) pa_nil)) (by rfl))
 (pss_cons (ps_for PassesOwn.never rfl (pi_range1 rfl m_range (pa_cons pe_int pa_nil)) (pg_name (i := 6) sc_law.nd rfl (by first | exact Or.inl rfl | exact Or.inr rfl))
  (pss_cons (ps_par (by rfl) sc_law.nd (i := 7) (j := 8) rfl rfl (by decide) rfl rfl (pa_cons (pe_call Gdr (hr.mono (by decide)) (by rfl) gdr kdr bdr .nil pass0 (pa_cons (pv 1) (pa_cons (pv 2) pa_nil))) (pa_cons (pe_call Gdr (hr.mono (by decide)) (by rfl) gdr kdr bdr .nil pass0 (pa_cons (pv 1) (pa_cons (pv 5) pa_nil))) pa_nil)) (by rfl))
 (pss_cons (ps_asg (pe_call Gpt (hr.mono (by decide)) (by rfl) gpt kpt bpt .nil pass0 (pa_cons (pv 1) (pa_cons (pv 2) (pa_cons (pv 4) (pa_cons (pv 7) (pa_cons (pv 8) pa_nil)))))) (pg_tup rfl (pgs_cons (pg_name (i := 9) sc_law.nd rfl (by first | exact Or.inl rfl | exact Or.inr rfl)) (pgs_cons (pg_name (i := 10) sc_law.nd rfl (by first | exact Or.inl rfl | exact Or.inr rfl)) (pgs_cons (pg_name (i := 11) sc_law.nd rfl (by first | exact Or.inl rfl | exact Or.inr rfl)) (pgs_cons (pg_name (i := 12) sc_law.nd rfl (by first | exact Or.inl rfl | exact Or.inr rfl)) (pgs_cons (pg_name (i := 13) sc_law.nd rfl (by first | exact Or.inl rfl | exact Or.inr rfl)) pgs_nil)))))))
 (pss_cons (ps_if (pt_cmpR op_ne (pe_call Gmd (hr.mono (by decide)) (by rfl) gmd kmd bmd .nil pass0 (pa_cons (pv 9) (pa_cons (pv 10) (pa_cons (pv 11) (pa_cons (pv 12) pa_nil))))) (pv 13) (nomark _))
  (pss_one (ps_ret pe_bl))
  pss_nil)
 (pss_cons (ps_set (i := 14) sc_law.nd rfl (by first | exact Or.inl rfl | exact Or.inr rfl) (pe_call Gltx (hr.mono (by decide)) (by rfl) gltx kltx bltx .nil pass0 (pa_cons (pv 2) (pa_cons (pv 7) (pa_cons (pv 8) pa_nil)))))
 (pss_cons (ps_set (i := 15) sc_law.nd rfl (by first | exact Or.inl rfl | exact Or.inr rfl) (pe_call Gvt (hr.mono (by decide)) (by rfl) gvt kvt bvt .nil pass0 (pa_cons (pe_call Gva (hr.mono (by decide)) (by rfl) gva kva bva .nil passL (pa_cons (pv 4) (pa_cons (pv 7) (pa_cons (pv 8) pa_nil)))) pa_nil)))
 (pss_cons (ps_if (pw_or (pt_not (pt_val (pe_callB call_isi (by rfl) m_isinstance boot_isinstance (pa_cons (pv 15) (pa_cons (pe_bltn (v := .ty "str") (by rfl) m_str boot_str rfl) pa_nil))))) (pw_or (pt_cmpR op_ne (pv 15) (pv 14) (nomark _)) (pw_or1 (pt_cmpR (K7E.op_neOwn GQ TV.ne TV.hm TV.eq TV.eqF bQ (hr.mono (by decide)) pass0) (pe_call Grd (hr.mono (by decide)) (by rfl) grd krd brd .nil pass0 (pa_cons (pv 4) (pa_cons (pv 14) pa_nil))) (pe_call Gva (hr.mono (by decide)) (by rfl) gva kva bva .nil passL (pa_cons (pv 4) (pa_cons (pv 7) (pa_cons (pv 8) pa_nil)))) (nomark _))))).pt
  (pss_one (ps_ret pe_bl))
  pss_nil)
 (pss_cons (ps_asg (pe_call Gbd (hr.mono (by decide)) (by rfl) gbd kbd bbd .nil pass0 (pa_cons (pv 1) (pa_cons (pv 2) (pa_cons (pv 14) pa_nil)))) (pg_tup rfl (pgs_cons (pg_name (i := 16) sc_law.nd rfl (by first | exact Or.inl rfl | exact Or.inr rfl)) (pgs_cons (pg_name (i := 17) sc_law.nd rfl (by first | exact Or.inl rfl | exact Or.inr rfl)) pgs_nil))))
 (pss_cons (ps_set (i := 18) sc_law.nd rfl (by first | exact Or.inl rfl | exact Or.inr rfl) (pe_call Grd (hr.mono (by decide)) (by rfl) grd krd brd .nil pass0 (pa_cons (pv 4) (pa_cons (pv 16) pa_nil))))
 (pss_one (ps_if (pw_or (pt_not (pt_val (pe_callB call_isi (by rfl) m_isinstance boot_isinstance (pa_cons (pv 18) (pa_cons (pe_bltn (v := .ty "str") (by rfl) m_str boot_str rfl) pa_nil))))) (pw_or1 (pt_cmpR op_ne (pv 18) (pv 17) (nomark _)))).pt
  (pss_one (ps_ret pe_bl))
  pss_nil)))))))))))
 (pss_one (ps_ret pe_bl))))))), ?_⟩
    refine ⟨_, rfl, s0, ns, rfl, hS, hl, fun H1 h c0 e1 nh nc hh1 => ?_⟩
    -- a size
    refine ⟨_, rfl, by show 8 ≤ sizeLine; decide, fun lp nlp => ?_⟩
    refine ⟨h, c0, lp, _, rfl, hh1.same (al nlp), (hh1.ne nlp).1, upd_same, by show 0 < 8; decide, by show 8 ≤ 1000; decide, fun H2 j v d2 hv => ?_⟩
    obtain ⟨n, rfl, n2, n5⟩ : ∃ n : Nat, v = .int (n : Nat) ∧ 2 ≤ n ∧ n ≤ 5 := by
      have m := List.mem_of_getElem? hv
      simp only [List.mem_cons, List.not_mem_nil, or_false] at m
      rcases m with rfl | rfl | rfl | rfl | rfl | rfl | rfl | rfl <;> first | exact ⟨2, rfl, by decide, by decide⟩ | exact ⟨3, rfl, by decide, by decide⟩ | exact ⟨4, rfl, by decide, by decide⟩ | exact ⟨5, rfl, by decide, by decide⟩
    have hh2 := d2.hand
    clear d2 hv
    refine ⟨_, rfl, _, rfl, h, c0, n, rfl, hh2, n2, n5, fun H3 q0 es lot st3 nq La => ?_⟩
    have hh3 := st3.hand
    obtain ⟨rA, sA, ts, l1, l2, l3, l4⟩ := La.at_
    have zz := List.all_eq_true.mp (lot_up ⟨n, by omega⟩) lot La.lot.1
    obtain ⟨z1, z2⟩ := Bool.and_eq_true_iff.mp zz
    refine ⟨_, rfl, _, rfl, q0, _, _, _, rfl, rfl, .inl (.inl l1), atI_nat (j := 1) rfl, _, rfl, q0, _, _, _, rfl, rfl, .inl (.inl l1), atI_nat (j := 2) rfl, ?_⟩
    refine fun x dx hx hdx hne => ?_
    have e : Same H3 (upd (upd H3 dx (.own x)) x (.ins a.C dx [])) := same_new (same_new (Same.refl H3) hdx) (by rw [upd_ne hne.symm]; exact hx)
    refine ⟨x, dx, n, rA, ts, es, sA, lot, rfl, upd_same, n2, n5, .inr (e _ _ l2), (co_lit l3).same e, cos_es La.ok n5, La.ok.conn, .inr (e _ _ l4), fun c hc => of_decide_eq_true (List.all_eq_true.mp z1 c hc), pw_nodup (of_decide_eq_true z2), La.lot.2.1, La.lot.2.2, fun H4 es' rd' b4 Lo pe pr => ⟨rfl, ?_⟩⟩
    have e4 : Same H3 H4 := fun z o hz => b4 z o (ne_of_none hz hx) (e _ _ hz)
    have hh4 := hh3.same e4
    clear l1 l2 l3 l4 La zz z1 z2 e b4 pe pr st3
    refine ⟨by show 5 ≤ sizeLine; decide, fun mp nmp => ?_⟩
    have e5 := al (o := .lst [V.int 1, .int 5, .int 25, .int 125, .int 625]) nmp
    have hmp : upd H4 mp (.lst [V.int 1, .int 5, .int 25, .int 125, .int 625]) mp = some (.lst [V.int 1, .int 5, .int 25, .int 125, .int 625]) := upd_same
    have hh5 := hh4.same e5
    have Lo5 := Lo.same e5
    generalize upd H4 mp (.lst [V.int 1, .int 5, .int 25, .int 125, .int 625]) = H5 at hmp hh5 Lo5 ⊢
    have mat : ([V.int 1, .int 5, .int 25, .int 125, .int 625] : List V)[n - 1]? = some (.int ((5 ^ (n - 1) : Nat) : Nat)) := by
      match n, n2, n5 with
      | 2, _, _ => rfl
      | 3, _, _ => rfl
      | 4, _, _ => rfl
      | 5, _, _ => rfl
    refine ⟨_, rfl, _, _, rfl, rfl, mp, _, _, _, rfl, rfl, .inl (.inl hmp), by rw [show ((n : Nat) : Int) - 1 = ((n - 1 : Nat) : Int) by omega]; exact atI_nat mat, _, _, rfl, ?_⟩
    have p5 : 5 ^ (n - 1) ≤ 625 := Nat.pow_le_pow_right (by decide) (show n - 1 ≤ 4 by omega)
    have p0 : 0 < 5 ^ (n - 1) := Nat.pow_pos (by decide)
    refine ⟨6, rfl, by decide, by decide, for_range (lo := 0) (n := 6) (fun i σ H' => ∃ y6 y7 y8 y9 y10 y11 y12 y13 y14 y15 y16 y17 y18, σ = [some (.ref s0), some (.ref h), some (.int (n : Nat)), some (.ref q0), some (.ref x), some (.int ((5 ^ (n - 1) : Nat) : Nat)), y6, y7, y8, y9, y10, y11, y12, y13, y14, y15, y16, y17, y18] ∧ Hand H' h c0 ∧ LandO a.C H' x n es' rd')
      ⟨none, none, none, none, none, none, none, none, none, none, none, none, none, rfl, hh5, Lo5⟩ (fun i σ H6 hi pv => ?_) (fun σ H6 pv => ?_)⟩
    · obtain ⟨y6, y7, y8, y9, y10, y11, y12, y13, y14, y15, y16, y17, y18, rfl, hh, Ld⟩ := pv
      refine ⟨_, rfl, _, rfl, h, c0, n, rfl, hh, by omega, Int.lt_of_le_of_lt (show ((n : Nat) : Int) ≤ 1000 by omega) (by decide), fun H7 r d7 r0 r1 => ?_⟩
      obtain ⟨c, rfl⟩ : ∃ c : Nat, r = (c : Int) := ⟨r.toNat, by omega⟩
      have hc : c < n := by omega
      have c10 : c < 10 := by omega
      have st7 := Stay.of_drawn hh d7
      refine ⟨_, rfl, _, rfl, h, c0, _, rfl, st7.hand, by omega, Int.lt_of_le_of_lt (show ((5 ^ (n - 1) : Nat) : Int) ≤ 1000 by omega) (by decide), fun H8 r d8 r0' r1' => ?_⟩
      obtain ⟨k, rfl⟩ : ∃ k : Nat, r = (k : Int) := ⟨r.toNat, by omega⟩
      have hk : k < 5 ^ (n - 1) := by omega
      have hk5 : k < 5000 := by omega
      have st8 := st7.drawn d8
      have Ld8 := Ld.stay st8
      have hh8 := st8.hand
      clear d7 d8 st7 st8 hh Ld
      refine ⟨_, _, rfl, ?_⟩
      refine ⟨_, rfl, _, rfl, _, rfl, _, rfl, _, rfl, h, c0, x, n, es', rd', c, k, rfl, hh8, Ld8, hc, hk5, fun H9 t w' cv lv rv du st9 ht d7 => ?_⟩
      have Ld9 := Ld8.stay st9
      have hh9 := st9.hand
      clear Ld8 hh8 st9
      refine ⟨t, _, rfl, .inl (.inl ht), rfl, _, _, rfl, _, _, rfl, _, _, rfl, _, _, rfl, _, _, rfl, rfl, ?_⟩
      refine ⟨_, rfl, _, rfl, _, rfl, _, rfl, x, n, es', rd', c, w', cv, lv, rv, du, rfl, Ld9, hc, d7.st TO, fun H10 e10 => ?_⟩
      have Ld10 := Ld9.same e10
      have hh10 := hh9.same e10
      have sc : scal du du = true := by
        rcases d7.du with rfl | ⟨z, rfl⟩ <;> rfl
      refine ⟨_, rfl, sc, _, rfl, iteFo (by rw [decide_eq_true rfl]; rfl) ?_⟩
      clear Ld9 hh9 ht d7 sc
      refine ⟨_, rfl, _, rfl, _, rfl, n, c, k, rfl, n2, n5, hc, hk5, ?_⟩
      have dl : (dgs (n - 1) k).length + 1 = n := by rw [dgs_len]; omega
      have d5 := dgs_lt k (n - 1)
      obtain ⟨rb1, rb2⟩ := read_back hc c10 dl d5
      have wf := way_full dl hc d5
      refine ⟨_, rfl, _, rfl, _, rfl, x, n, es', rd', c, k, rfl, Ld10, hc, hk, fun H11 p e11 np W => ?_⟩
      refine ⟨p, x, n, es', rd', c, _, _, rfl, W, fun H12 e12 => ?_⟩
      rw [wf]
      have Ld12 := (Ld10.same e11).same e12
      have hh12 := (hh10.same e11).same e12
      clear Ld10 hh10 W
      refine ⟨_, rfl, _, _, _, _, _, rfl, .ty _, .base (.str _), kit_ty (by decide +kernel), true, rfl, iteFo rfl ?_⟩
      refine ⟨_, rfl, _, rfl, rfl, _, rfl, iteFo (by rw [decide_eq_true rfl]; rfl) ?_⟩
      have tl : (vtL c (dgs (n - 1) k)).length ≤ 1000 := by
        show ((dgs (n - 1) k).map letN).length + 1 + 1 + 1 ≤ 1000
        rw [List.length_map, dgs_len]
        omega
      refine ⟨_, rfl, _, rfl, x, n, es', rd', _, rfl, Ld12, .inr ⟨_, rfl, tl, fun z => ?_, fun c' hc' hw' => ?_, fun c' ws' hc' hw' H13 pv e13 npv Wv => ?_⟩⟩
      · rw [rb1] at z
        cases z
      · rw [rb2] at hw'
        cases hw'
      rw [rb1] at hc'
      rw [rb2] at hw'
      cases hc'
      cases hw'
      have Ld13 := Ld12.same e13
      have hh13 := hh12.same e13
      refine ⟨_, rfl, _, rfl, _, rfl, x, n, es', rd', c, k, rfl, Ld13, hc, hk, fun H14 p2 e14 np2 W2 => ?_⟩
      have Wv14 := Wv.same e14
      have Ld14 := Ld13.same e14
      have hh14 := hh13.same e14
      obtain ⟨dxv, to1, ts1, t11, t21, t31, t41, v1, _⟩ := Wv14.at_
      refine ⟨pv, dxv, _, p2, .ref VC, rfl, rfl, v1, W2.ty TV, nfC K VC, pv, p2, x, x, n, es', rd', c, _, _, n, es', rd', c, _, _, rfl, Wv14, W2, ?_⟩
      rw [eqVw_refl]
      refine ⟨true, rfl, _, rfl, iteFo rfl ?_⟩
      clear Wv Wv14 W2 v1
      -- a bad text
      refine ⟨_, rfl, _, rfl, _, rfl, h, c0, n, c, (dgs (n - 1) k).map letN, rfl, hh14, n2, n5, hc, by rw [List.length_map]; exact dl, let_all d5, fun H15 v st15 bt => ?_⟩
      have Ld15 := Ld14.stay st15
      have hh15 := st15.hand
      clear Ld14 hh14 st15
      cases bt with
      | @way b ts c' hq' ne l hc' hw' =>
        refine ⟨b, _, rfl, .inl (.inl hq'), rfl, _, _, rfl, _, _, rfl, rfl, ?_⟩
        refine ⟨_, rfl, _, rfl, x, n, es', rd', _, rfl, Ld15, .inr ⟨ts, rfl, by omega, fun z => ?_, fun c2 _ _ H16 e16 => ?_, fun c2 ws2 _ z => ?_⟩⟩
        · rw [hc'] at z
          cases z
        · refine ⟨_, rfl, _, _, _, _, _, rfl, .ty _, .base (.str _), kit_ty (by decide +kernel), true, rfl, iteFo rfl ?_⟩
          exact ⟨_, rfl, _, rfl, rfl, _, rfl, iteFo (by rw [decide_eq_true rfl]; rfl) ⟨_, _, _, _, _, _, _, _, _, _, _, _, _, rfl, hh15.same e16, Ld15.same e16⟩⟩
        · rw [hw'] at z
          cases z
      | @cel b ts hq' ne l hc' =>
        refine ⟨b, _, rfl, .inl (.inl hq'), rfl, _, _, rfl, _, _, rfl, rfl, ?_⟩
        refine ⟨_, rfl, _, rfl, x, n, es', rd', _, rfl, Ld15, .inr ⟨ts, rfl, by omega, fun _ H16 e16 => ?_, fun c2 z => ?_, fun c2 ws2 z => ?_⟩⟩
        · refine ⟨_, rfl, _, _, _, _, _, rfl, .ty _, .base (.str _), kit_ty (by decide +kernel), true, rfl, iteFo rfl ?_⟩
          exact ⟨_, rfl, _, rfl, rfl, _, rfl, iteFo (by rw [decide_eq_true rfl]; rfl) ⟨_, _, _, _, _, _, _, _, _, _, _, _, _, rfl, hh15.same e16, Ld15.same e16⟩⟩
        · rw [hc'] at z
          cases z
        · rw [hc'] at z
          cases z
      | @flt b v' hq' ne nt =>
        refine ⟨b, _, rfl, .inl (.inl hq'), rfl, _, _, rfl, _, _, rfl, rfl, ?_⟩
        have nt' : NoTxt K H15 v' := by
          rcases nt with rfl | rfl | rfl
          · exact ⟨"NoneType", fun _ _ => .base .non, kit_ty (by decide +kernel)⟩
          · exact ⟨"int", fun _ _ => .base (.int _), kit_ty (by decide +kernel)⟩
          · exact ⟨"bool", fun _ _ => .base (.bl _), kit_ty (by decide +kernel)⟩
        refine ⟨_, rfl, _, rfl, x, n, es', rd', _, rfl, Ld15, .inl ⟨nt', fun H16 e16 => ?_⟩⟩
        refine ⟨_, rfl, _, _, _, _, _, rfl, .ty _, .base (.str _), kit_ty (by decide +kernel), true, rfl, iteFo rfl ?_⟩
        exact ⟨_, rfl, _, rfl, rfl, _, rfl, iteFo (by rw [decide_eq_true rfl]; rfl) ⟨_, _, _, _, _, _, _, _, _, _, _, _, _, rfl, hh15.same e16, Ld15.same e16⟩⟩
      | @lst b b2 xs hq' ne hb nb =>
        refine ⟨b, _, rfl, .inl (.inl hq'), rfl, _, _, rfl, _, _, rfl, rfl, ?_⟩
        have nt' : NoTxt K H15 (.ref b2) := ⟨"list", fun _ e => .base (.lst (e _ _ hb)), kit_ty (by decide +kernel)⟩
        refine ⟨_, rfl, _, rfl, x, n, es', rd', _, rfl, Ld15, .inl ⟨nt', fun H16 e16 => ?_⟩⟩
        refine ⟨_, rfl, _, _, _, _, _, rfl, .ty _, .base (.str _), kit_ty (by decide +kernel), true, rfl, iteFo rfl ?_⟩
        exact ⟨_, rfl, _, rfl, rfl, _, rfl, iteFo (by rw [decide_eq_true rfl]; rfl) ⟨_, _, _, _, _, _, _, _, _, _, _, _, _, rfl, hh15.same e16, Ld15.same e16⟩⟩
    · exact q _
end
end K7
end
/-! ## KT -/
section
open PySem PySem.Spec PyProof.Rows L2
namespace K7
def KTup (K : PySem.W.Frag) (a : Addr) (xs : List V) : Prop := ∃ (o : Obj) (its : Array Value) (n : Nat), K.lookup a = some o ∧ o.cls = .type "tuple" ∧ o.data = .seq its n ∧ its.size ≤ sizeLine ∧ Vals xs its.toList ∧ o.dict = none
theorem KTup.t {K : PySem.W.Frag} {a : Addr} {xs : List V} (h : KTup K a xs) (H : Hp) : SqT K H a xs := by
  obtain ⟨o, its, n, h1, h2, h3, h4, h5, _⟩ := h
  exact .inr ⟨o, its, n, h1, h2, h3, h4, h5⟩
theorem KTup.ty {K : PySem.W.Frag} {a : Addr} {xs : List V} (h : KTup K a xs) (H : Hp) : tyV K "tuple" (.ref a) H := by
  obtain ⟨o, its, n, h1, h2, h3, h4, h5, h6⟩ := h
  exact .inr (.inl ⟨rfl, o, h1, h2, h6⟩)
end K7
end
/-! ## P33 -/
section
open PySem PySem.Spec PyProof.Rows L2
namespace K7
theorem all_mk {P : Program} {w : World} {K : PySem.W.Frag} {h : Heap} {mg : Str → Option Value} {fa : Addr} (X : K.In h) (G : h.Ns mainGlobals mg) (hfa : mg "law" = some (.ref fa))
  {f_sq : Addr}
  (a_sq : PySem.W.nsIn K mainGlobals "is_sequence" = some (some (.ref f_sq)))
  {od_sq an_sq : Option Addr}
  {sl_sq : Array (Option Value)}
  {oc_sq kV_sq dc_sq pm_sq cd_sq ct_sq : Value}
  (l_sq : K.lookup f_sq = some ⟨oc_sq, od_sq, .func (PySem.W.fnOf "is_sequence" "is_sequence" (defArgs s_is_sequence) (defBody s_is_sequence) (defScope s_is_sequence) .none kV_sq dc_sq pm_sq an_sq cd_sq ct_sq), sl_sq⟩)
  (c_sq : PySem.W.codeIn K cd_sq "is_sequence" = true)
  (k_sq : PySem.W.keepIn K (.ref f_sq) = true)
  {f_isw : Addr}
  (a_isw : PySem.W.nsIn K mainGlobals "is_whole" = some (some (.ref f_isw)))
  {od_isw an_isw : Option Addr}
  {sl_isw : Array (Option Value)}
  {oc_isw kV_isw dc_isw pm_isw cd_isw ct_isw : Value}
  (l_isw : K.lookup f_isw = some ⟨oc_isw, od_isw, .func (PySem.W.fnOf "is_whole" "is_whole" (defArgs s_is_whole) (defBody s_is_whole) (defScope s_is_whole) .none kV_isw dc_isw pm_isw an_isw cd_isw ct_isw), sl_isw⟩)
  (c_isw : PySem.W.codeIn K cd_isw "is_whole" = true)
  (k_isw : PySem.W.keepIn K (.ref f_isw) = true)
  {f_ac : Addr}
  (a_ac : PySem.W.nsIn K mainGlobals "are_cells" = some (some (.ref f_ac)))
  {od_ac an_ac : Option Addr}
  {sl_ac : Array (Option Value)}
  {oc_ac kV_ac dc_ac pm_ac cd_ac ct_ac : Value}
  (l_ac : K.lookup f_ac = some ⟨oc_ac, od_ac, .func (PySem.W.fnOf "are_cells" "are_cells" (defArgs s_are_cells) (defBody s_are_cells) (defScope s_are_cells) .none kV_ac dc_ac pm_ac an_ac cd_ac ct_ac), sl_ac⟩)
  (c_ac : PySem.W.codeIn K cd_ac "are_cells" = true)
  (k_ac : PySem.W.keepIn K (.ref f_ac) = true)
  {f_a2 : Addr}
  (a_a2 : PySem.W.nsIn K mainGlobals "are_two_cells" = some (some (.ref f_a2)))
  {od_a2 an_a2 : Option Addr}
  {sl_a2 : Array (Option Value)}
  {oc_a2 kV_a2 dc_a2 pm_a2 cd_a2 ct_a2 : Value}
  (l_a2 : K.lookup f_a2 = some ⟨oc_a2, od_a2, .func (PySem.W.fnOf "are_two_cells" "are_two_cells" (defArgs s_are_two_cells) (defBody s_are_two_cells) (defScope s_are_two_cells) .none kV_a2 dc_a2 pm_a2 an_a2 cd_a2 ct_a2), sl_a2⟩)
  (c_a2 : PySem.W.codeIn K cd_a2 "are_two_cells" = true)
  (k_a2 : PySem.W.keepIn K (.ref f_a2) = true)
  {f_ic : Addr}
  (a_ic : PySem.W.nsIn K mainGlobals "is_cell" = some (some (.ref f_ic)))
  {od_ic an_ic : Option Addr}
  {sl_ic : Array (Option Value)}
  {oc_ic kV_ic dc_ic pm_ic cd_ic ct_ic : Value}
  (l_ic : K.lookup f_ic = some ⟨oc_ic, od_ic, .func (PySem.W.fnOf "is_cell" "is_cell" (defArgs s_is_cell) (defBody s_is_cell) (defScope s_is_cell) .none kV_ic dc_ic pm_ic an_ic cd_ic ct_ic), sl_ic⟩)
  (c_ic : PySem.W.codeIn K cd_ic "is_cell" = true)
  (k_ic : PySem.W.keepIn K (.ref f_ic) = true)
  {f_il : Addr}
  (a_il : PySem.W.nsIn K mainGlobals "is_lot" = some (some (.ref f_il)))
  {od_il an_il : Option Addr}
  {sl_il : Array (Option Value)}
  {oc_il kV_il dc_il pm_il cd_il ct_il : Value}
  (l_il : K.lookup f_il = some ⟨oc_il, od_il, .func (PySem.W.fnOf "is_lot" "is_lot" (defArgs s_is_lot) (defBody s_is_lot) (defScope s_is_lot) .none kV_il dc_il pm_il an_il cd_il ct_il), sl_il⟩)
  (c_il : PySem.W.codeIn K cd_il "is_lot" = true)
  (k_il : PySem.W.keepIn K (.ref f_il) = true)
  {f_ck : Addr}
  (a_ck : PySem.W.nsIn K mainGlobals "check_cells" = some (some (.ref f_ck)))
  {od_ck an_ck : Option Addr}
  {sl_ck : Array (Option Value)}
  {oc_ck kV_ck dc_ck pm_ck cd_ck ct_ck : Value}
  (l_ck : K.lookup f_ck = some ⟨oc_ck, od_ck, .func (PySem.W.fnOf "check_cells" "check_cells" (defArgs s_check_cells) (defBody s_check_cells) (defScope s_check_cells) .none kV_ck dc_ck pm_ck an_ck cd_ck ct_ck), sl_ck⟩)
  (c_ck : PySem.W.codeIn K cd_ck "check_cells" = true)
  (k_ck : PySem.W.keepIn K (.ref f_ck) = true)
  {f_sp : Addr}
  (a_sp : PySem.W.nsIn K mainGlobals "spread" = some (some (.ref f_sp)))
  {od_sp an_sp : Option Addr}
  {sl_sp : Array (Option Value)}
  {oc_sp kV_sp dc_sp pm_sp cd_sp ct_sp : Value}
  (l_sp : K.lookup f_sp = some ⟨oc_sp, od_sp, .func (PySem.W.fnOf "spread" "spread" (defArgs s_spread) (defBody s_spread) (defScope s_spread) .none kV_sp dc_sp pm_sp an_sp cd_sp ct_sp), sl_sp⟩)
  (c_sp : PySem.W.codeIn K cd_sp "spread" = true)
  (k_sp : PySem.W.keepIn K (.ref f_sp) = true)
  {f_ny : Addr}
  (a_ny : PySem.W.nsIn K mainGlobals "nearby_cells" = some (some (.ref f_ny)))
  {od_ny an_ny : Option Addr}
  {sl_ny : Array (Option Value)}
  {oc_ny kV_ny dc_ny pm_ny cd_ny ct_ny : Value}
  (l_ny : K.lookup f_ny = some ⟨oc_ny, od_ny, .func (PySem.W.fnOf "nearby_cells" "nearby_cells" (defArgs s_nearby_cells) (defBody s_nearby_cells) (defScope s_nearby_cells) .none kV_ny dc_ny pm_ny an_ny cd_ny ct_ny), sl_ny⟩)
  (c_ny : PySem.W.codeIn K cd_ny "nearby_cells" = true)
  (k_ny : PySem.W.keepIn K (.ref f_ny) = true)
  {f_ht : Addr}
  (a_ht : PySem.W.nsIn K mainGlobals "hang_together" = some (some (.ref f_ht)))
  {od_ht an_ht : Option Addr}
  {sl_ht : Array (Option Value)}
  {oc_ht kV_ht dc_ht pm_ht cd_ht ct_ht : Value}
  (l_ht : K.lookup f_ht = some ⟨oc_ht, od_ht, .func (PySem.W.fnOf "hang_together" "hang_together" (defArgs s_hang_together) (defBody s_hang_together) (defScope s_hang_together) .none kV_ht dc_ht pm_ht an_ht cd_ht ct_ht), sl_ht⟩)
  (c_ht : PySem.W.codeIn K cd_ht "hang_together" = true)
  (k_ht : PySem.W.keepIn K (.ref f_ht) = true)
  {f_nb : Addr}
  (a_nb : PySem.W.nsIn K mainGlobals "_are_neighbours" = some (some (.ref f_nb)))
  {od_nb an_nb : Option Addr}
  {sl_nb : Array (Option Value)}
  {oc_nb kV_nb dc_nb pm_nb cd_nb ct_nb : Value}
  (l_nb : K.lookup f_nb = some ⟨oc_nb, od_nb, .func (PySem.W.fnOf "_are_neighbours" "_are_neighbours" (defArgs s__are_neighbours) (defBody s__are_neighbours) (defScope s__are_neighbours) .none kV_nb dc_nb pm_nb an_nb cd_nb ct_nb), sl_nb⟩)
  (c_nb : PySem.W.codeIn K cd_nb "_are_neighbours" = true)
  (k_nb : PySem.W.keepIn K (.ref f_nb) = true)
  {f_ir : Addr}
  (a_ir : PySem.W.nsIn K mainGlobals "is_row" = some (some (.ref f_ir)))
  {od_ir an_ir : Option Addr}
  {sl_ir : Array (Option Value)}
  {oc_ir kV_ir dc_ir pm_ir cd_ir ct_ir : Value}
  (l_ir : K.lookup f_ir = some ⟨oc_ir, od_ir, .func (PySem.W.fnOf "is_row" "is_row" (defArgs s_is_row) (defBody s_is_row) (defScope s_is_row) .none kV_ir dc_ir pm_ir an_ir cd_ir ct_ir), sl_ir⟩)
  (c_ir : PySem.W.codeIn K cd_ir "is_row" = true)
  (k_ir : PySem.W.keepIn K (.ref f_ir) = true)
  {f_nr : Addr}
  (a_nr : PySem.W.nsIn K mainGlobals "number_of_row" = some (some (.ref f_nr)))
  {od_nr an_nr : Option Addr}
  {sl_nr : Array (Option Value)}
  {oc_nr kV_nr dc_nr pm_nr cd_nr ct_nr : Value}
  (l_nr : K.lookup f_nr = some ⟨oc_nr, od_nr, .func (PySem.W.fnOf "number_of_row" "number_of_row" (defArgs s_number_of_row) (defBody s_number_of_row) (defScope s_number_of_row) .none kV_nr dc_nr pm_nr an_nr cd_nr ct_nr), sl_nr⟩)
  (c_nr : PySem.W.codeIn K cd_nr "number_of_row" = true)
  (k_nr : PySem.W.keepIn K (.ref f_nr) = true)
  {f_cv : Addr}
  (a_cv : PySem.W.nsIn K mainGlobals "_check_places" = some (some (.ref f_cv)))
  {od_cv an_cv : Option Addr}
  {sl_cv : Array (Option Value)}
  {oc_cv kV_cv dc_cv pm_cv cd_cv ct_cv : Value}
  (l_cv : K.lookup f_cv = some ⟨oc_cv, od_cv, .func (PySem.W.fnOf "_check_places" "_check_places" (defArgs s__check_places) (defBody s__check_places) (defScope s__check_places) .none kV_cv dc_cv pm_cv an_cv cd_cv ct_cv), sl_cv⟩)
  (c_cv : PySem.W.codeIn K cd_cv "_check_places" = true)
  (k_cv : PySem.W.keepIn K (.ref f_cv) = true)
  {f_vb : Addr}
  (a_vb : PySem.W.nsIn K mainGlobals "view_by_ways" = some (some (.ref f_vb)))
  {od_vb an_vb : Option Addr}
  {sl_vb : Array (Option Value)}
  {oc_vb kV_vb dc_vb pm_vb cd_vb ct_vb : Value}
  (l_vb : K.lookup f_vb = some ⟨oc_vb, od_vb, .func (PySem.W.fnOf "view_by_ways" "view_by_ways" (defArgs s_view_by_ways) (defBody s_view_by_ways) (defScope s_view_by_ways) .none kV_vb dc_vb pm_vb an_vb cd_vb ct_vb), sl_vb⟩)
  (c_vb : PySem.W.codeIn K cd_vb "view_by_ways" = true)
  (k_vb : PySem.W.keepIn K (.ref f_vb) = true)
  {f_nu : Addr}
  (a_nu : PySem.W.nsIn K mainGlobals "_numbered" = some (some (.ref f_nu)))
  {od_nu an_nu : Option Addr}
  {sl_nu : Array (Option Value)}
  {oc_nu kV_nu dc_nu pm_nu cd_nu ct_nu : Value}
  (l_nu : K.lookup f_nu = some ⟨oc_nu, od_nu, .func (PySem.W.fnOf "_numbered" "_numbered" (defArgs s__numbered) (defBody s__numbered) (defScope s__numbered) .none kV_nu dc_nu pm_nu an_nu cd_nu ct_nu), sl_nu⟩)
  (c_nu : PySem.W.codeIn K cd_nu "_numbered" = true)
  (k_nu : PySem.W.keepIn K (.ref f_nu) = true)
  {f_nv : Addr}
  (a_nv : PySem.W.nsIn K mainGlobals "number_of_views" = some (some (.ref f_nv)))
  {od_nv an_nv : Option Addr}
  {sl_nv : Array (Option Value)}
  {oc_nv kV_nv dc_nv pm_nv cd_nv ct_nv : Value}
  (l_nv : K.lookup f_nv = some ⟨oc_nv, od_nv, .func (PySem.W.fnOf "number_of_views" "number_of_views" (defArgs s_number_of_views) (defBody s_number_of_views) (defScope s_number_of_views) .none kV_nv dc_nv pm_nv an_nv cd_nv ct_nv), sl_nv⟩)
  (c_nv : PySem.W.codeIn K cd_nv "number_of_views" = true)
  (k_nv : PySem.W.keepIn K (.ref f_nv) = true)
  {f_va : Addr}
  (a_va : PySem.W.nsIn K mainGlobals "view_at" = some (some (.ref f_va)))
  {od_va an_va : Option Addr}
  {sl_va : Array (Option Value)}
  {oc_va kV_va dc_va pm_va cd_va ct_va : Value}
  (l_va : K.lookup f_va = some ⟨oc_va, od_va, .func (PySem.W.fnOf "view_at" "view_at" (defArgs s_view_at) (defBody s_view_at) (defScope s_view_at) .none kV_va dc_va pm_va an_va cd_va ct_va), sl_va⟩)
  (c_va : PySem.W.codeIn K cd_va "view_at" = true)
  (k_va : PySem.W.keepIn K (.ref f_va) = true)
  {f_vt : Addr}
  (a_vt : PySem.W.nsIn K mainGlobals "view_text" = some (some (.ref f_vt)))
  {od_vt an_vt : Option Addr}
  {sl_vt : Array (Option Value)}
  {oc_vt kV_vt dc_vt pm_vt cd_vt ct_vt : Value}
  (l_vt : K.lookup f_vt = some ⟨oc_vt, od_vt, .func (PySem.W.fnOf "view_text" "view_text" (defArgs s_view_text) (defBody s_view_text) (defScope s_view_text) .none kV_vt dc_vt pm_vt an_vt cd_vt ct_vt), sl_vt⟩)
  (c_vt : PySem.W.codeIn K cd_vt "view_text" = true)
  (k_vt : PySem.W.keepIn K (.ref f_vt) = true)
  {f_rcl : Addr}
  (a_rcl : PySem.W.nsIn K mainGlobals "_read_cell" = some (some (.ref f_rcl)))
  {od_rcl an_rcl : Option Addr}
  {sl_rcl : Array (Option Value)}
  {oc_rcl kV_rcl dc_rcl pm_rcl cd_rcl ct_rcl : Value}
  (l_rcl : K.lookup f_rcl = some ⟨oc_rcl, od_rcl, .func (PySem.W.fnOf "_read_cell" "_read_cell" (defArgs s__read_cell) (defBody s__read_cell) (defScope s__read_cell) .none kV_rcl dc_rcl pm_rcl an_rcl cd_rcl ct_rcl), sl_rcl⟩)
  (c_rcl : PySem.W.codeIn K cd_rcl "_read_cell" = true)
  (k_rcl : PySem.W.keepIn K (.ref f_rcl) = true)
  {f_pv : Addr}
  (a_pv : PySem.W.nsIn K mainGlobals "parse_view" = some (some (.ref f_pv)))
  {od_pv an_pv : Option Addr}
  {sl_pv : Array (Option Value)}
  {oc_pv kV_pv dc_pv pm_pv cd_pv ct_pv : Value}
  (l_pv : K.lookup f_pv = some ⟨oc_pv, od_pv, .func (PySem.W.fnOf "parse_view" "parse_view" (defArgs s_parse_view) (defBody s_parse_view) (defScope s_parse_view) .none kV_pv dc_pv pm_pv an_pv cd_pv ct_pv), sl_pv⟩)
  (c_pv : PySem.W.codeIn K cd_pv "parse_view" = true)
  (k_pv : PySem.W.keepIn K (.ref f_pv) = true)
  {f_mi : Addr}
  (a_mi : PySem.W.nsIn K mainGlobals "_law_mix" = some (some (.ref f_mi)))
  {od_mi an_mi : Option Addr}
  {sl_mi : Array (Option Value)}
  {oc_mi kV_mi dc_mi pm_mi cd_mi ct_mi : Value}
  (l_mi : K.lookup f_mi = some ⟨oc_mi, od_mi, .func (PySem.W.fnOf "_law_mix" "_law_mix" (defArgs s__law_mix) (defBody s__law_mix) (defScope s__law_mix) .none kV_mi dc_mi pm_mi an_mi cd_mi ct_mi), sl_mi⟩)
  (c_mi : PySem.W.codeIn K cd_mi "_law_mix" = true)
  (k_mi : PySem.W.keepIn K (.ref f_mi) = true)
  {f_ha : Addr}
  (a_ha : PySem.W.nsIn K mainGlobals "_law_hand" = some (some (.ref f_ha)))
  {od_ha an_ha : Option Addr}
  {sl_ha : Array (Option Value)}
  {oc_ha kV_ha dc_ha pm_ha cd_ha ct_ha : Value}
  (l_ha : K.lookup f_ha = some ⟨oc_ha, od_ha, .func (PySem.W.fnOf "_law_hand" "_law_hand" (defArgs s__law_hand) (defBody s__law_hand) (defScope s__law_hand) .none kV_ha dc_ha pm_ha an_ha cd_ha ct_ha), sl_ha⟩)
  (c_ha : PySem.W.codeIn K cd_ha "_law_hand" = true)
  (k_ha : PySem.W.keepIn K (.ref f_ha) = true)
  {f_dr : Addr}
  (a_dr : PySem.W.nsIn K mainGlobals "_law_draw" = some (some (.ref f_dr)))
  {od_dr an_dr : Option Addr}
  {sl_dr : Array (Option Value)}
  {oc_dr kV_dr dc_dr pm_dr cd_dr ct_dr : Value}
  (l_dr : K.lookup f_dr = some ⟨oc_dr, od_dr, .func (PySem.W.fnOf "_law_draw" "_law_draw" (defArgs s__law_draw) (defBody s__law_draw) (defScope s__law_draw) .none kV_dr dc_dr pm_dr an_dr cd_dr ct_dr), sl_dr⟩)
  (c_dr : PySem.W.codeIn K cd_dr "_law_draw" = true)
  (k_dr : PySem.W.keepIn K (.ref f_dr) = true)
  {f_pk : Addr}
  (a_pk : PySem.W.nsIn K mainGlobals "_law_pick" = some (some (.ref f_pk)))
  {od_pk an_pk : Option Addr}
  {sl_pk : Array (Option Value)}
  {oc_pk kV_pk dc_pk pm_pk cd_pk ct_pk : Value}
  (l_pk : K.lookup f_pk = some ⟨oc_pk, od_pk, .func (PySem.W.fnOf "_law_pick" "_law_pick" (defArgs s__law_pick) (defBody s__law_pick) (defScope s__law_pick) .none kV_pk dc_pk pm_pk an_pk cd_pk ct_pk), sl_pk⟩)
  (c_pk : PySem.W.codeIn K cd_pk "_law_pick" = true)
  (k_pk : PySem.W.keepIn K (.ref f_pk) = true)
  {f_lo : Addr}
  (a_lo : PySem.W.nsIn K mainGlobals "_law_lots" = some (some (.ref f_lo)))
  {od_lo an_lo : Option Addr}
  {sl_lo : Array (Option Value)}
  {oc_lo kV_lo dc_lo pm_lo cd_lo ct_lo : Value}
  (l_lo : K.lookup f_lo = some ⟨oc_lo, od_lo, .func (PySem.W.fnOf "_law_lots" "_law_lots" (defArgs s__law_lots) (defBody s__law_lots) (defScope s__law_lots) .none kV_lo dc_lo pm_lo an_lo cd_lo ct_lo), sl_lo⟩)
  (c_lo : PySem.W.codeIn K cd_lo "_law_lots" = true)
  (k_lo : PySem.W.keepIn K (.ref f_lo) = true)
  {f_ld : Addr}
  (a_ld : PySem.W.nsIn K mainGlobals "_law_land" = some (some (.ref f_ld)))
  {od_ld an_ld : Option Addr}
  {sl_ld : Array (Option Value)}
  {oc_ld kV_ld dc_ld pm_ld cd_ld ct_ld : Value}
  (l_ld : K.lookup f_ld = some ⟨oc_ld, od_ld, .func (PySem.W.fnOf "_law_land" "_law_land" (defArgs s__law_land) (defBody s__law_land) (defScope s__law_land) .none kV_ld dc_ld pm_ld an_ld cd_ld ct_ld), sl_ld⟩)
  (c_ld : PySem.W.codeIn K cd_ld "_law_land" = true)
  (k_ld : PySem.W.keepIn K (.ref f_ld) = true)
  {f_tu : Addr}
  (a_tu : PySem.W.nsIn K mainGlobals "_law_turned" = some (some (.ref f_tu)))
  {od_tu an_tu : Option Addr}
  {sl_tu : Array (Option Value)}
  {oc_tu kV_tu dc_tu pm_tu cd_tu ct_tu : Value}
  (l_tu : K.lookup f_tu = some ⟨oc_tu, od_tu, .func (PySem.W.fnOf "_law_turned" "_law_turned" (defArgs s__law_turned) (defBody s__law_turned) (defScope s__law_turned) .none kV_tu dc_tu pm_tu an_tu cd_tu ct_tu), sl_tu⟩)
  (c_tu : PySem.W.codeIn K cd_tu "_law_turned" = true)
  (k_tu : PySem.W.keepIn K (.ref f_tu) = true)
  {f_nvw : Addr}
  (a_nvw : PySem.W.nsIn K mainGlobals "_law_number_view" = some (some (.ref f_nvw)))
  {od_nvw an_nvw : Option Addr}
  {sl_nvw : Array (Option Value)}
  {oc_nvw kV_nvw dc_nvw pm_nvw cd_nvw ct_nvw : Value}
  (l_nvw : K.lookup f_nvw = some ⟨oc_nvw, od_nvw, .func (PySem.W.fnOf "_law_number_view" "_law_number_view" (defArgs s__law_number_view) (defBody s__law_number_view) (defScope s__law_number_view) .none kV_nvw dc_nvw pm_nvw an_nvw cd_nvw ct_nvw), sl_nvw⟩)
  (c_nvw : PySem.W.codeIn K cd_nvw "_law_number_view" = true)
  (k_nvw : PySem.W.keepIn K (.ref f_nvw) = true)
  {f_so : Addr}
  (a_so : PySem.W.nsIn K mainGlobals "_law_spoilt_own" = some (some (.ref f_so)))
  {od_so an_so : Option Addr}
  {sl_so : Array (Option Value)}
  {oc_so kV_so dc_so pm_so cd_so ct_so : Value}
  (l_so : K.lookup f_so = some ⟨oc_so, od_so, .func (PySem.W.fnOf "_law_spoilt_own" "_law_spoilt_own" (defArgs s__law_spoilt_own) (defBody s__law_spoilt_own) (defScope s__law_spoilt_own) .none kV_so dc_so pm_so an_so cd_so ct_so), sl_so⟩)
  (c_so : PySem.W.codeIn K cd_so "_law_spoilt_own" = true)
  (k_so : PySem.W.keepIn K (.ref f_so) = true)
  {f_sw : Addr}
  (a_sw : PySem.W.nsIn K mainGlobals "_law_spoilt_words" = some (some (.ref f_sw)))
  {od_sw an_sw : Option Addr}
  {sl_sw : Array (Option Value)}
  {oc_sw kV_sw dc_sw pm_sw cd_sw ct_sw : Value}
  (l_sw : K.lookup f_sw = some ⟨oc_sw, od_sw, .func (PySem.W.fnOf "_law_spoilt_words" "_law_spoilt_words" (defArgs s__law_spoilt_words) (defBody s__law_spoilt_words) (defScope s__law_spoilt_words) .none kV_sw dc_sw pm_sw an_sw cd_sw ct_sw), sl_sw⟩)
  (c_sw : PySem.W.codeIn K cd_sw "_law_spoilt_words" = true)
  (k_sw : PySem.W.keepIn K (.ref f_sw) = true)
  {f_pt : Addr}
  (a_pt : PySem.W.nsIn K mainGlobals "_law_parts" = some (some (.ref f_pt)))
  {od_pt an_pt : Option Addr}
  {sl_pt : Array (Option Value)}
  {oc_pt kV_pt dc_pt pm_pt cd_pt ct_pt : Value}
  (l_pt : K.lookup f_pt = some ⟨oc_pt, od_pt, .func (PySem.W.fnOf "_law_parts" "_law_parts" (defArgs s__law_parts) (defBody s__law_parts) (defScope s__law_parts) .none kV_pt dc_pt pm_pt an_pt cd_pt ct_pt), sl_pt⟩)
  (c_pt : PySem.W.codeIn K cd_pt "_law_parts" = true)
  (k_pt : PySem.W.keepIn K (.ref f_pt) = true)
  {f_md : Addr}
  (a_md : PySem.W.nsIn K mainGlobals "_law_made" = some (some (.ref f_md)))
  {od_md an_md : Option Addr}
  {sl_md : Array (Option Value)}
  {oc_md kV_md dc_md pm_md cd_md ct_md : Value}
  (l_md : K.lookup f_md = some ⟨oc_md, od_md, .func (PySem.W.fnOf "_law_made" "_law_made" (defArgs s__law_made) (defBody s__law_made) (defScope s__law_made) .none kV_md dc_md pm_md an_md cd_md ct_md), sl_md⟩)
  (c_md : PySem.W.codeIn K cd_md "_law_made" = true)
  (k_md : PySem.W.keepIn K (.ref f_md) = true)
  {f_ltx : Addr}
  (a_ltx : PySem.W.nsIn K mainGlobals "_law_text" = some (some (.ref f_ltx)))
  {od_ltx an_ltx : Option Addr}
  {sl_ltx : Array (Option Value)}
  {oc_ltx kV_ltx dc_ltx pm_ltx cd_ltx ct_ltx : Value}
  (l_ltx : K.lookup f_ltx = some ⟨oc_ltx, od_ltx, .func (PySem.W.fnOf "_law_text" "_law_text" (defArgs s__law_text) (defBody s__law_text) (defScope s__law_text) .none kV_ltx dc_ltx pm_ltx an_ltx cd_ltx ct_ltx), sl_ltx⟩)
  (c_ltx : PySem.W.codeIn K cd_ltx "_law_text" = true)
  (k_ltx : PySem.W.keepIn K (.ref f_ltx) = true)
  {f_bd : Addr}
  (a_bd : PySem.W.nsIn K mainGlobals "_law_bad_text" = some (some (.ref f_bd)))
  {od_bd an_bd : Option Addr}
  {sl_bd : Array (Option Value)}
  {oc_bd kV_bd dc_bd pm_bd cd_bd ct_bd : Value}
  (l_bd : K.lookup f_bd = some ⟨oc_bd, od_bd, .func (PySem.W.fnOf "_law_bad_text" "_law_bad_text" (defArgs s__law_bad_text) (defBody s__law_bad_text) (defScope s__law_bad_text) .none kV_bd dc_bd pm_bd an_bd cd_bd ct_bd), sl_bd⟩)
  (c_bd : PySem.W.codeIn K cd_bd "_law_bad_text" = true)
  (k_bd : PySem.W.keepIn K (.ref f_bd) = true)
  {f_rd : Addr}
  (a_rd : PySem.W.nsIn K mainGlobals "_law_read" = some (some (.ref f_rd)))
  {od_rd an_rd : Option Addr}
  {sl_rd : Array (Option Value)}
  {oc_rd kV_rd dc_rd pm_rd cd_rd ct_rd : Value}
  (l_rd : K.lookup f_rd = some ⟨oc_rd, od_rd, .func (PySem.W.fnOf "_law_read" "_law_read" (defArgs s__law_read) (defBody s__law_read) (defScope s__law_read) .none kV_rd dc_rd pm_rd an_rd cd_rd ct_rd), sl_rd⟩)
  (c_rd : PySem.W.codeIn K cd_rd "_law_read" = true)
  (k_rd : PySem.W.keepIn K (.ref f_rd) = true)
  {f_la : Addr}
  (a_la : PySem.W.nsIn K mainGlobals "law" = some (some (.ref f_la)))
  {od_la an_la : Option Addr}
  {sl_la : Array (Option Value)}
  {oc_la kV_la dc_la pm_la cd_la ct_la : Value}
  (l_la : K.lookup f_la = some ⟨oc_la, od_la, .func (PySem.W.fnOf "law" "law" (defArgs s_law) (defBody s_law) (defScope s_law) .none kV_la dc_la pm_la an_la cd_la ct_la), sl_la⟩)
  (c_la : PySem.W.codeIn K cd_la "law" = true)
  (k_la : PySem.W.keepIn K (.ref f_la) = true)
  {L : Addr}
  (aL : PySem.W.nsIn K mainGlobals "LandError" = some (some (.ref L)))
  (eL : PySem.W.subIn K (.ref L) (.type "BaseException") = some true)
  (dL : PySem.W.hasDictIn K L = true)
  (tL : PySem.W.typeIn K (.ref L) = some (.type "type"))
  (icL : PySem.W.isClsIn K L = true)
  (hnO : PySem.W.specialIn K (.builtin "object.__class__") "__get__" = some (some (.builtin "getset_descriptor.__get__")))
  (htO : PySem.W.takesIn K (.builtin "object.__class__") = some true)
  {LC : Addr}
  (aLC : PySem.W.nsIn K mainGlobals "Land" = some (some (.ref LC)))
  (pgLC : PySem.W.plainGet K LC Str.empty = true)
  (hdLC : PySem.W.hasDictIn K LC = true)
  (poLC : PySem.W.plainOver K LC = true)
  (saLC : PySem.W.findIn K (.ref LC) "__setattr__" = some (some (.builtin "object.__setattr__")))
  (mkLC : PySem.W.makesIn K LC = true)
  (kcLC : PySem.W.keepIn K (.ref LC) = true)
  (haLC : PySem.W.findIn K (.ref LC) "__class__" = some (some (.builtin "object.__class__")))
  (hmLC : PySem.W.mroIn K LC (.type "object") = some true)
  (neLC : PySem.W.findIn K (.ref LC) "__ne__" = some (some (.builtin "object.__ne__")))
  (icLC : PySem.W.isClsIn K LC = true)
  (tyLC : PySem.W.typeIn K (.ref LC) = some (.type "type"))
  (n_LC_cells : PySem.W.findIn K (.ref LC) "cells" = some none)
  (n_LC_neighbours : PySem.W.findIn K (.ref LC) "neighbours" = some none)
  (n_LC_roads : PySem.W.findIn K (.ref LC) "roads" = some none)
  (n_LC_nearby : PySem.W.findIn K (.ref LC) "nearby" = some none)
  (n_LC__couples : PySem.W.findIn K (.ref LC) "_couples" = some none)
  {f_cI : Addr}
  (a_cI : PySem.W.findIn K (.ref LC) "__init__" = some (some (.ref f_cI)))
  (i_cI : PySem.W.isFn K (.ref f_cI) = true)
  {od_cI an_cI : Option Addr}
  {sl_cI : Array (Option Value)}
  {oc_cI kV_cI dc_cI pm_cI cd_cI ct_cI : Value}
  (l_cI : K.lookup f_cI = some ⟨oc_cI, od_cI, .func (PySem.W.fnOf "__init__" "Land.__init__" (defArgs s_Land___init__) (defBody s_Land___init__) (defScope s_Land___init__) .none kV_cI dc_cI pm_cI an_cI cd_cI ct_cI), sl_cI⟩)
  (c_cI : PySem.W.codeIn K cd_cI "Land.__init__" = true)
  (k_cI : PySem.W.keepIn K (.ref f_cI) = true)
  {f_eq : Addr}
  (a_eq : PySem.W.findIn K (.ref LC) "__eq__" = some (some (.ref f_eq)))
  (i_eq : PySem.W.isFn K (.ref f_eq) = true)
  {od_eq an_eq : Option Addr}
  {sl_eq : Array (Option Value)}
  {oc_eq kV_eq dc_eq pm_eq cd_eq ct_eq : Value}
  (l_eq : K.lookup f_eq = some ⟨oc_eq, od_eq, .func (PySem.W.fnOf "__eq__" "Land.__eq__" (defArgs s_Land___eq__) (defBody s_Land___eq__) (defScope s_Land___eq__) .none kV_eq dc_eq pm_eq an_eq cd_eq ct_eq), sl_eq⟩)
  (c_eq : PySem.W.codeIn K cd_eq "Land.__eq__" = true)
  (k_eq : PySem.W.keepIn K (.ref f_eq) = true)
  {f_ot : Addr}
  (a_ot : PySem.W.findIn K (.ref LC) "others" = some (some (.ref f_ot)))
  (i_ot : PySem.W.isFn K (.ref f_ot) = true)
  {od_ot an_ot : Option Addr}
  {sl_ot : Array (Option Value)}
  {oc_ot kV_ot dc_ot pm_ot cd_ot ct_ot : Value}
  (l_ot : K.lookup f_ot = some ⟨oc_ot, od_ot, .func (PySem.W.fnOf "others" "Land.others" (defArgs s_Land_others) (defBody s_Land_others) (defScope s_Land_others) .none kV_ot dc_ot pm_ot an_ot cd_ot ct_ot), sl_ot⟩)
  (c_ot : PySem.W.codeIn K cd_ot "Land.others" = true)
  (k_ot : PySem.W.keepIn K (.ref f_ot) = true)
  {VC : Addr}
  (aVC : PySem.W.nsIn K mainGlobals "View" = some (some (.ref VC)))
  (pgVC : PySem.W.plainGet K VC Str.empty = true)
  (hdVC : PySem.W.hasDictIn K VC = true)
  (poVC : PySem.W.plainOver K VC = true)
  (saVC : PySem.W.findIn K (.ref VC) "__setattr__" = some (some (.builtin "object.__setattr__")))
  (mkVC : PySem.W.makesIn K VC = true)
  (kcVC : PySem.W.keepIn K (.ref VC) = true)
  (haVC : PySem.W.findIn K (.ref VC) "__class__" = some (some (.builtin "object.__class__")))
  (hmVC : PySem.W.mroIn K VC (.type "object") = some true)
  (neVC : PySem.W.findIn K (.ref VC) "__ne__" = some (some (.builtin "object.__ne__")))
  (icVC : PySem.W.isClsIn K VC = true)
  (tyVC : PySem.W.typeIn K (.ref VC) = some (.type "type"))
  (n_VC_land : PySem.W.findIn K (.ref VC) "land" = some none)
  (n_VC_cell : PySem.W.findIn K (.ref VC) "cell" = some none)
  (n_VC_own : PySem.W.findIn K (.ref VC) "own" = some none)
  (n_VC_standings : PySem.W.findIn K (.ref VC) "standings" = some none)
  (n_VC_outside : PySem.W.findIn K (.ref VC) "outside" = some none)
  (n_VC_rights : PySem.W.findIn K (.ref VC) "rights" = some none)
  (n_VC_needed : PySem.W.findIn K (.ref VC) "needed" = some none)
  (n_VC_sleeping : PySem.W.findIn K (.ref VC) "sleeping" = some none)
  (n_VC_number : PySem.W.findIn K (.ref VC) "number" = some none)
  {f_vI : Addr}
  (a_vI : PySem.W.findIn K (.ref VC) "__init__" = some (some (.ref f_vI)))
  (i_vI : PySem.W.isFn K (.ref f_vI) = true)
  {od_vI an_vI : Option Addr}
  {sl_vI : Array (Option Value)}
  {oc_vI kV_vI dc_vI pm_vI cd_vI ct_vI : Value}
  (l_vI : K.lookup f_vI = some ⟨oc_vI, od_vI, .func (PySem.W.fnOf "__init__" "View.__init__" (defArgs s_View___init__) (defBody s_View___init__) (defScope s_View___init__) .none kV_vI dc_vI pm_vI an_vI cd_vI ct_vI), sl_vI⟩)
  (c_vI : PySem.W.codeIn K cd_vI "View.__init__" = true)
  (k_vI : PySem.W.keepIn K (.ref f_vI) = true)
  {f_vQ : Addr}
  (a_vQ : PySem.W.findIn K (.ref VC) "__eq__" = some (some (.ref f_vQ)))
  (i_vQ : PySem.W.isFn K (.ref f_vQ) = true)
  {od_vQ an_vQ : Option Addr}
  {sl_vQ : Array (Option Value)}
  {oc_vQ kV_vQ dc_vQ pm_vQ cd_vQ ct_vQ : Value}
  (l_vQ : K.lookup f_vQ = some ⟨oc_vQ, od_vQ, .func (PySem.W.fnOf "__eq__" "View.__eq__" (defArgs s_View___eq__) (defBody s_View___eq__) (defScope s_View___eq__) .none kV_vQ dc_vQ pm_vQ an_vQ cd_vQ ct_vQ), sl_vQ⟩)
  (c_vQ : PySem.W.codeIn K cd_vQ "View.__eq__" = true)
  (k_vQ : PySem.W.keepIn K (.ref f_vQ) = true)
  {f_wo : Addr}
  (a_wo : PySem.W.findIn K (.ref VC) "way_of" = some (some (.ref f_wo)))
  (i_wo : PySem.W.isFn K (.ref f_wo) = true)
  {od_wo an_wo : Option Addr}
  {sl_wo : Array (Option Value)}
  {oc_wo kV_wo dc_wo pm_wo cd_wo ct_wo : Value}
  (l_wo : K.lookup f_wo = some ⟨oc_wo, od_wo, .func (PySem.W.fnOf "way_of" "View.way_of" (defArgs s_View_way_of) (defBody s_View_way_of) (defScope s_View_way_of) .none kV_wo dc_wo pm_wo an_wo cd_wo ct_wo), sl_wo⟩)
  (c_wo : PySem.W.codeIn K cd_wo "View.way_of" = true)
  (k_wo : PySem.W.keepIn K (.ref f_wo) = true)
  {B : Addr}
  (aB : PySem.W.nsIn K mainGlobals "BadCell" = some (some (.ref B)))
  {nmB qB : Str}
  {N_B : Addr}
  {bsB bmB subB : List Value}
  {snB : List Str}
  {abB : Bool}
  {colB : Option Bool}
  {ddB : Option Addr}
  {m0B m1B m2B m3B m5B : Option Value}
  (xB : K.lookup B = some (excClassObj nmB qB B N_B bsB bmB true snB subB abB colB ddB m0B m1B m2B m3B m5B "ValueError.__new__"))
  (rB : PySem.HandSPX.refsVE bmB = true)
  (saB : PySem.W.findIn K (.ref B) "__setattr__" = some (some (.builtin "object.__setattr__")))
  (exB : PySem.W.subIn K (.ref B) (.type "BaseException") = some true)
  (tyB : PySem.W.typeIn K (.ref B) = some (.type "type"))
  (kpB : PySem.W.keepIn K (.ref B) = true)
  (hgB : PySem.W.findIn K (.ref B) "__getattribute__" = some (some (.builtin "BaseException.__getattribute__")))
  (hkB : PySem.W.findIn K (.ref B) "__getattr__" = some none)
  (hdB : PySem.W.hasDictIn K B = true)
  (haB : PySem.W.findIn K (.ref B) "__class__" = some (some (.builtin "object.__class__")))
  (hmB : PySem.W.mroIn K B (.type "object") = some true)
  (icB : PySem.W.isClsIn K B = true)
  (ssB : PySem.W.subIn K (.ref B) (.ref B) = some true)
  (suB : PySem.W.subIn K (.ref B) (.ref L) = some true)
  (noB : PySem.W.findIn K (.ref B) "cell" = some none)
  {f_iB : Addr}
  (a_iB : PySem.W.findIn K (.ref B) "__init__" = some (some (.ref f_iB)))
  (t_iB : PySem.W.typeIn K (.ref f_iB) = some (.type "function"))
  {od_iB an_iB : Option Addr}
  {sl_iB : Array (Option Value)}
  {oc_iB kV_iB dc_iB pm_iB cd_iB ct_iB : Value}
  (l_iB : K.lookup f_iB = some ⟨oc_iB, od_iB, .func (PySem.W.fnOf "__init__" "BadCell.__init__" (defArgs s_BadCell___init__) (defBody s_BadCell___init__) (defScope s_BadCell___init__) .none kV_iB dc_iB pm_iB an_iB cd_iB ct_iB), sl_iB⟩)
  (c_iB : PySem.W.codeIn K cd_iB "BadCell.__init__" = true)
  (k_iB : PySem.W.keepIn K (.ref f_iB) = true)
  {BV : Addr}
  (aBV : PySem.W.nsIn K mainGlobals "BadView" = some (some (.ref BV)))
  {nmBV qBV : Str}
  {N_BV : Addr}
  {bsBV bmBV subBV : List Value}
  {snBV : List Str}
  {abBV : Bool}
  {colBV : Option Bool}
  {ddBV : Option Addr}
  {m0BV m1BV m2BV m3BV m5BV : Option Value}
  (xBV : K.lookup BV = some (excClassObj nmBV qBV BV N_BV bsBV bmBV true snBV subBV abBV colBV ddBV m0BV m1BV m2BV m3BV m5BV "ValueError.__new__"))
  (rBV : PySem.HandSPX.refsVE bmBV = true)
  (saBV : PySem.W.findIn K (.ref BV) "__setattr__" = some (some (.builtin "object.__setattr__")))
  (exBV : PySem.W.subIn K (.ref BV) (.type "BaseException") = some true)
  (tyBV : PySem.W.typeIn K (.ref BV) = some (.type "type"))
  (kpBV : PySem.W.keepIn K (.ref BV) = true)
  (hgBV : PySem.W.findIn K (.ref BV) "__getattribute__" = some (some (.builtin "BaseException.__getattribute__")))
  (hkBV : PySem.W.findIn K (.ref BV) "__getattr__" = some none)
  (hdBV : PySem.W.hasDictIn K BV = true)
  (haBV : PySem.W.findIn K (.ref BV) "__class__" = some (some (.builtin "object.__class__")))
  (hmBV : PySem.W.mroIn K BV (.type "object") = some true)
  (icBV : PySem.W.isClsIn K BV = true)
  (ssBV : PySem.W.subIn K (.ref BV) (.ref BV) = some true)
  (suBV : PySem.W.subIn K (.ref BV) (.ref L) = some true)
  (noBV : PySem.W.findIn K (.ref BV) "what" = some none)
  {f_iBV : Addr}
  (a_iBV : PySem.W.findIn K (.ref BV) "__init__" = some (some (.ref f_iBV)))
  (t_iBV : PySem.W.typeIn K (.ref f_iBV) = some (.type "function"))
  {od_iBV an_iBV : Option Addr}
  {sl_iBV : Array (Option Value)}
  {oc_iBV kV_iBV dc_iBV pm_iBV cd_iBV ct_iBV : Value}
  (l_iBV : K.lookup f_iBV = some ⟨oc_iBV, od_iBV, .func (PySem.W.fnOf "__init__" "BadView.__init__" (defArgs s_BadView___init__) (defBody s_BadView___init__) (defScope s_BadView___init__) .none kV_iBV dc_iBV pm_iBV an_iBV cd_iBV ct_iBV), sl_iBV⟩)
  (c_iBV : PySem.W.codeIn K cd_iBV "BadView.__init__" = true)
  (k_iBV : PySem.W.keepIn K (.ref f_iBV) = true)
  {BT : Addr}
  (aBT : PySem.W.nsIn K mainGlobals "BadText" = some (some (.ref BT)))
  {nmBT qBT : Str}
  {N_BT : Addr}
  {bsBT bmBT subBT : List Value}
  {snBT : List Str}
  {abBT : Bool}
  {colBT : Option Bool}
  {ddBT : Option Addr}
  {m0BT m1BT m2BT m3BT m5BT : Option Value}
  (xBT : K.lookup BT = some (excClassObj nmBT qBT BT N_BT bsBT bmBT true snBT subBT abBT colBT ddBT m0BT m1BT m2BT m3BT m5BT "ValueError.__new__"))
  (rBT : PySem.HandSPX.refsVE bmBT = true)
  (saBT : PySem.W.findIn K (.ref BT) "__setattr__" = some (some (.builtin "object.__setattr__")))
  (exBT : PySem.W.subIn K (.ref BT) (.type "BaseException") = some true)
  (tyBT : PySem.W.typeIn K (.ref BT) = some (.type "type"))
  (kpBT : PySem.W.keepIn K (.ref BT) = true)
  (hgBT : PySem.W.findIn K (.ref BT) "__getattribute__" = some (some (.builtin "BaseException.__getattribute__")))
  (hkBT : PySem.W.findIn K (.ref BT) "__getattr__" = some none)
  (hdBT : PySem.W.hasDictIn K BT = true)
  (haBT : PySem.W.findIn K (.ref BT) "__class__" = some (some (.builtin "object.__class__")))
  (hmBT : PySem.W.mroIn K BT (.type "object") = some true)
  (icBT : PySem.W.isClsIn K BT = true)
  (ssBT : PySem.W.subIn K (.ref BT) (.ref BT) = some true)
  (suBT : PySem.W.subIn K (.ref BT) (.ref L) = some true)
  (noBT : PySem.W.findIn K (.ref BT) "row" = some none)
  {f_iBT : Addr}
  (a_iBT : PySem.W.findIn K (.ref BT) "__init__" = some (some (.ref f_iBT)))
  (t_iBT : PySem.W.typeIn K (.ref f_iBT) = some (.type "function"))
  {od_iBT an_iBT : Option Addr}
  {sl_iBT : Array (Option Value)}
  {oc_iBT kV_iBT dc_iBT pm_iBT cd_iBT ct_iBT : Value}
  (l_iBT : K.lookup f_iBT = some ⟨oc_iBT, od_iBT, .func (PySem.W.fnOf "__init__" "BadText.__init__" (defArgs s_BadText___init__) (defBody s_BadText___init__) (defScope s_BadText___init__) .none kV_iBT dc_iBT pm_iBT an_iBT cd_iBT ct_iBT), sl_iBT⟩)
  (c_iBT : PySem.W.codeIn K cd_iBT "BadText.__init__" = true)
  (k_iBT : PySem.W.keepIn K (.ref f_iBT) = true)
  (nwBT : PySem.W.findIn K (.ref BT) "what" = some none)
  (sVT : PySem.W.subIn K (.ref BV) (.ref BT) = some false)
  (sNL : PySem.W.subIn K (.type "NoneType") (.ref LC) = some false)
  (sBL : PySem.W.subIn K (.type "bool") (.ref LC) = some false)
  (sIL : PySem.W.subIn K (.type "int") (.ref LC) = some false)
  (sSL : PySem.W.subIn K (.type "str") (.ref LC) = some false)
  (sTL : PySem.W.subIn K (.type "tuple") (.ref LC) = some false)
  (sLL : PySem.W.subIn K (.type "list") (.ref LC) = some false)
  {t_M : Tok}
  (a_M : PySem.W.nsIn K mainGlobals "MOST_CELLS" = some (some (.int 5 t_M)))
  {ST : Addr}
  (a_ST : PySem.W.nsIn K mainGlobals "STANDINGS" = some (some (.ref ST)))
  {o_ST : Array Value}
  {z_ST : Nat}
  {s_ST : Array (Option Value)}
  (l_ST : K.lookup ST = some ⟨.type "tuple", none, .seq o_ST z_ST, s_ST⟩)
  (v_ST : Vals ([.str "none", .str "awake", .str "needed", .str "asleep"]) o_ST.toList)
  (w_ST : o_ST.size ≤ sizeLine)
  {RI : Addr}
  (a_RI : PySem.W.nsIn K mainGlobals "RIGHTS" = some (some (.ref RI)))
  {o_RI : Array Value}
  {z_RI : Nat}
  {s_RI : Array (Option Value)}
  (l_RI : K.lookup RI = some ⟨.type "tuple", none, .seq o_RI z_RI, s_RI⟩)
  (v_RI : Vals ([.str "awake", .str "needed"]) o_RI.toList)
  (w_RI : o_RI.size ≤ sizeLine)
  {DG : Addr}
  (a_DG : PySem.W.nsIn K mainGlobals "DIGITS" = some (some (.ref DG)))
  {o_DG : Array Value}
  {z_DG : Nat}
  {s_DG : Array (Option Value)}
  (l_DG : K.lookup DG = some ⟨.type "tuple", none, .seq o_DG z_DG, s_DG⟩)
  (v_DG : Vals ([.str "own", .str "asleep", .str "none", .str "awake", .str "needed"]) o_DG.toList)
  (w_DG : o_DG.size ≤ sizeLine)
  {OW : Addr}
  (a_OW : PySem.W.nsIn K mainGlobals "_OWN" = some (some (.ref OW)))
  {o_OW : Array Value}
  {z_OW : Nat}
  {s_OW : Array (Option Value)}
  (l_OW : K.lookup OW = some ⟨.type "tuple", none, .seq o_OW z_OW, s_OW⟩)
  (v_OW : Vals ([.str "own", .str "asleep"]) o_OW.toList)
  (w_OW : o_OW.size ≤ sizeLine)
  {LT : Addr}
  (a_LT : PySem.W.nsIn K mainGlobals "_LETTERS" = some (some (.ref LT)))
  {o_LT : Array Value}
  {z_LT : Nat}
  {s_LT : Array (Option Value)}
  (l_LT : K.lookup LT = some ⟨.type "tuple", none, .seq o_LT z_LT, s_LT⟩)
  (v_LT : Vals ([.str "o", .str "s", .str ".", .str "a", .str "n"]) o_LT.toList)
  (w_LT : o_LT.size ≤ sizeLine)
  (z_isinstance : PySem.W.nsIn K mainGlobals "isinstance" = some none)
  (z_int : PySem.W.nsIn K mainGlobals "int" = some none)
  (z_bool : PySem.W.nsIn K mainGlobals "bool" = some none)
  (z_str : PySem.W.nsIn K mainGlobals "str" = some none)
  (z_tuple : PySem.W.nsIn K mainGlobals "tuple" = some none)
  (z_list : PySem.W.nsIn K mainGlobals "list" = some none)
  (z_enumerate : PySem.W.nsIn K mainGlobals "enumerate" = some none)
  (z_len : PySem.W.nsIn K mainGlobals "len" = some none)
  (z_abs : PySem.W.nsIn K mainGlobals "abs" = some none)
  (z_range : PySem.W.nsIn K mainGlobals "range" = some none)
  (z_min : PySem.W.nsIn K mainGlobals "min" = some none)
  (z_max : PySem.W.nsIn K mainGlobals "max" = some none)
  (z_sorted : PySem.W.nsIn K mainGlobals "sorted" = some none)
  (z_set : PySem.W.nsIn K mainGlobals "set" = some none)
  (z_all : PySem.W.nsIn K mainGlobals "all" = some none) :
    ∃ fd : FuncData, (∀ (s : Shared) (u : Value), BindsTo s fd ⟨[u], []⟩ [("_law_script", u)]) ∧ ∀ base : Heap, K.In base → base.Ns mainGlobals mg → FnOk P w K mg base CX0 10 fa fd ["_law_script"] (spLaw K) := by
  have e := hfa.symm.trans (PySem.W.mg_of X G a_la)
  cases e
  have F_sq := fun_mk (st := s_is_sequence) l_sq c_sq k_sq
  have b_sq := F_sq.binds (ps := ["thing"]) fun _ _ _ _ _ _ us hl => match us, hl with | [_], _ => rfl
  have g_sq := PySem.W.mg_of X G a_sq
  have F_isw := fun_mk (st := s_is_whole) l_isw c_isw k_isw
  have b_isw := F_isw.binds (ps := ["thing", "low", "high"]) fun _ _ _ _ _ _ us hl => match us, hl with | [_, _, _], _ => rfl
  have g_isw := PySem.W.mg_of X G a_isw
  have F_ac := fun_mk (st := s_are_cells) l_ac c_ac k_ac
  have b_ac := F_ac.binds (ps := ["many", "thing", "least"]) fun _ _ _ _ _ _ us hl => match us, hl with | [_, _, _], _ => rfl
  have g_ac := PySem.W.mg_of X G a_ac
  have F_a2 := fun_mk (st := s_are_two_cells) l_a2 c_a2 k_a2
  have b_a2 := F_a2.binds (ps := ["many", "thing"]) fun _ _ _ _ _ _ us hl => match us, hl with | [_, _], _ => rfl
  have g_a2 := PySem.W.mg_of X G a_a2
  have F_ic := fun_mk (st := s_is_cell) l_ic c_ic k_ic
  have b_ic := F_ic.binds (ps := ["land", "thing"]) fun _ _ _ _ _ _ us hl => match us, hl with | [_, _], _ => rfl
  have g_ic := PySem.W.mg_of X G a_ic
  have F_il := fun_mk (st := s_is_lot) l_il c_il k_il
  have b_il := F_il.binds (ps := ["land", "thing", "least"]) fun _ _ _ _ _ _ us hl => match us, hl with | [_, _, _], _ => rfl
  have g_il := PySem.W.mg_of X G a_il
  have F_ck := fun_mk (st := s_check_cells) l_ck c_ck k_ck
  have g_ck := PySem.W.mg_of X G a_ck
  have F_sp := fun_mk (st := s_spread) l_sp c_sp k_sp
  have b_sp := F_sp.binds (ps := ["nearby", "cell", "passing"]) fun _ _ _ _ _ _ us hl => match us, hl with | [_, _, _], _ => rfl
  have g_sp := PySem.W.mg_of X G a_sp
  have F_ny := fun_mk (st := s_nearby_cells) l_ny c_ny k_ny
  have b_ny := F_ny.binds (ps := ["cells", "couples"]) fun _ _ _ _ _ _ us hl => match us, hl with | [_, _], _ => rfl
  have g_ny := PySem.W.mg_of X G a_ny
  have F_ht := fun_mk (st := s_hang_together) l_ht c_ht k_ht
  have b_ht := F_ht.binds (ps := ["cells", "couples"]) fun _ _ _ _ _ _ us hl => match us, hl with | [_, _], _ => rfl
  have g_ht := PySem.W.mg_of X G a_ht
  have F_nb := fun_mk (st := s__are_neighbours) l_nb c_nb k_nb
  have b_nb := F_nb.binds (ps := ["cells", "thing"]) fun _ _ _ _ _ _ us hl => match us, hl with | [_, _], _ => rfl
  have g_nb := PySem.W.mg_of X G a_nb
  have F_ir := fun_mk (st := s_is_row) l_ir c_ir k_ir
  have b_ir := F_ir.binds (ps := ["land", "a", "thing"]) fun _ _ _ _ _ _ us hl => match us, hl with | [_, _, _], _ => rfl
  have g_ir := PySem.W.mg_of X G a_ir
  have F_nr := fun_mk (st := s_number_of_row) l_nr c_nr k_nr
  have b_nr := F_nr.binds (ps := ["cell", "own", "row"]) fun _ _ _ _ _ _ us hl => match us, hl with | [_, _, _], _ => rfl
  have g_nr := PySem.W.mg_of X G a_nr
  have F_cv := fun_mk (st := s__check_places) l_cv c_cv k_cv
  have b_cv := F_cv.binds (ps := ["own", "standings"]) fun _ _ _ _ _ _ us hl => match us, hl with | [_, _], _ => rfl
  have g_cv := PySem.W.mg_of X G a_cv
  have F_vb := fun_mk (st := s_view_by_ways) l_vb c_vb k_vb
  have b_vb := F_vb.binds (ps := ["land", "cell", "ways"]) fun _ _ _ _ _ _ us hl => match us, hl with | [_, _, _], _ => rfl
  have g_vb := PySem.W.mg_of X G a_vb
  have F_nu := fun_mk (st := s__numbered) l_nu c_nu k_nu
  have b_nu := F_nu.binds (ps := ["land", "cell", "number"]) fun _ _ _ _ _ _ us hl => match us, hl with | [_, _, _], _ => rfl
  have g_nu := PySem.W.mg_of X G a_nu
  have F_nv := fun_mk (st := s_number_of_views) l_nv c_nv k_nv
  have b_nv := F_nv.binds (ps := ["land"]) fun _ _ _ _ _ _ us hl => match us, hl with | [_], _ => rfl
  have g_nv := PySem.W.mg_of X G a_nv
  have F_va := fun_mk (st := s_view_at) l_va c_va k_va
  have b_va := F_va.binds (ps := ["land", "cell", "number"]) fun _ _ _ _ _ _ us hl => match us, hl with | [_, _, _], _ => rfl
  have g_va := PySem.W.mg_of X G a_va
  have F_vt := fun_mk (st := s_view_text) l_vt c_vt k_vt
  have b_vt := F_vt.binds (ps := ["view"]) fun _ _ _ _ _ _ us hl => match us, hl with | [_], _ => rfl
  have g_vt := PySem.W.mg_of X G a_vt
  have F_rcl := fun_mk (st := s__read_cell) l_rcl c_rcl k_rcl
  have b_rcl := F_rcl.binds (ps := ["land", "text"]) fun _ _ _ _ _ _ us hl => match us, hl with | [_, _], _ => rfl
  have g_rcl := PySem.W.mg_of X G a_rcl
  have F_pv := fun_mk (st := s_parse_view) l_pv c_pv k_pv
  have b_pv := F_pv.binds (ps := ["land", "text"]) fun _ _ _ _ _ _ us hl => match us, hl with | [_, _], _ => rfl
  have g_pv := PySem.W.mg_of X G a_pv
  have F_mi := fun_mk (st := s__law_mix) l_mi c_mi k_mi
  have b_mi := F_mi.binds (ps := ["_law_number", "_law_turn"]) fun _ _ _ _ _ _ us hl => match us, hl with | [_, _], _ => rfl
  have g_mi := PySem.W.mg_of X G a_mi
  have F_ha := fun_mk (st := s__law_hand) l_ha c_ha k_ha
  have b_ha := F_ha.binds (ps := ["_law_script"]) fun _ _ _ _ _ _ us hl => match us, hl with | [_], _ => rfl
  have g_ha := PySem.W.mg_of X G a_ha
  have F_dr := fun_mk (st := s__law_draw) l_dr c_dr k_dr
  have b_dr := F_dr.binds (ps := ["_law_hand_here", "_law_many"]) fun _ _ _ _ _ _ us hl => match us, hl with | [_, _], _ => rfl
  have g_dr := PySem.W.mg_of X G a_dr
  have F_pk := fun_mk (st := s__law_pick) l_pk c_pk k_pk
  have b_pk := F_pk.binds (ps := ["_law_hand_here", "_law_things"]) fun _ _ _ _ _ _ us hl => match us, hl with | [_, _], _ => rfl
  have g_pk := PySem.W.mg_of X G a_pk
  have F_lo := fun_mk (st := s__law_lots) l_lo c_lo k_lo
  have b_lo := F_lo.binds (ps := ["_law_cells"]) fun _ _ _ _ _ _ us hl => match us, hl with | [_], _ => rfl
  have g_lo := PySem.W.mg_of X G a_lo
  have F_ld := fun_mk (st := s__law_land) l_ld c_ld k_ld
  have b_ld := F_ld.binds (ps := ["_law_hand_here", "_law_n"]) fun _ _ _ _ _ _ us hl => match us, hl with | [_, _], _ => rfl
  have g_ld := PySem.W.mg_of X G a_ld
  have F_tu := fun_mk (st := s__law_turned) l_tu c_tu k_tu
  have b_tu := F_tu.binds (ps := ["_law_hand_here", "_law_things"]) fun _ _ _ _ _ _ us hl => match us, hl with | [_, _], _ => rfl
  have g_tu := PySem.W.mg_of X G a_tu
  have F_nvw := fun_mk (st := s__law_number_view) l_nvw c_nvw k_nvw
  have b_nvw := F_nvw.binds (ps := ["_law_n", "_law_cell", "_law_number"]) fun _ _ _ _ _ _ us hl => match us, hl with | [_, _, _], _ => rfl
  have g_nvw := PySem.W.mg_of X G a_nvw
  have F_so := fun_mk (st := s__law_spoilt_own) l_so c_so k_so
  have b_so := F_so.binds (ps := ["_law_hand_here", "_law_n", "_law_cell", "_law_own"]) fun _ _ _ _ _ _ us hl => match us, hl with | [_, _, _, _], _ => rfl
  have g_so := PySem.W.mg_of X G a_so
  have F_sw := fun_mk (st := s__law_spoilt_words) l_sw c_sw k_sw
  have b_sw := F_sw.binds (ps := ["_law_hand_here", "_law_n", "_law_cell", "_law_words"]) fun _ _ _ _ _ _ us hl => match us, hl with | [_, _, _, _], _ => rfl
  have g_sw := PySem.W.mg_of X G a_sw
  have F_pt := fun_mk (st := s__law_parts) l_pt c_pt k_pt
  have b_pt := F_pt.binds (ps := ["_law_hand_here", "_law_n", "_law_place", "_law_cell", "_law_number"]) fun _ _ _ _ _ _ us hl => match us, hl with | [_, _, _, _, _], _ => rfl
  have g_pt := PySem.W.mg_of X G a_pt
  have F_md := fun_mk (st := s__law_made) l_md c_md k_md
  have b_md := F_md.binds (ps := ["_law_what", "_law_where", "_law_lot", "_law_row"]) fun _ _ _ _ _ _ us hl => match us, hl with | [_, _, _, _], _ => rfl
  have g_md := PySem.W.mg_of X G a_md
  have F_ltx := fun_mk (st := s__law_text) l_ltx c_ltx k_ltx
  have b_ltx := F_ltx.binds (ps := ["_law_n", "_law_cell", "_law_number"]) fun _ _ _ _ _ _ us hl => match us, hl with | [_, _, _], _ => rfl
  have g_ltx := PySem.W.mg_of X G a_ltx
  have F_bd := fun_mk (st := s__law_bad_text) l_bd c_bd k_bd
  have b_bd := F_bd.binds (ps := ["_law_hand_here", "_law_n", "_law_text_here"]) fun _ _ _ _ _ _ us hl => match us, hl with | [_, _, _], _ => rfl
  have g_bd := PySem.W.mg_of X G a_bd
  have F_rd := fun_mk (st := s__law_read) l_rd c_rd k_rd
  have b_rd := F_rd.binds (ps := ["_law_place", "_law_text_here"]) fun _ _ _ _ _ _ us hl => match us, hl with | [_, _], _ => rfl
  have g_rd := PySem.W.mg_of X G a_rd
  have F_la := fun_mk (st := s_law) l_la c_la k_la
  have b_la := F_la.binds (ps := ["_law_script"]) fun _ _ _ _ _ _ us hl => match us, hl with | [_], _ => rfl
  have g_la := PySem.W.mg_of X G a_la
  have gcL := PySem.W.mg_of X G aL
  have F_cI := fun_mk (st := s_Land___init__) l_cI c_cI k_cI
  have b_cI := F_cI.binds (ps := ["self", "cells", "neighbours", "roads"]) fun _ _ _ _ _ _ us hl => match us, hl with | [_, _, _, _], _ => rfl
  have M_LC : Mk K LC f_cI := ⟨mkLC, a_cI, i_cI, kcLC⟩
  have F_eq := fun_mk (st := s_Land___eq__) l_eq c_eq k_eq
  have b_eq := F_eq.binds (ps := ["self", "other"]) fun _ _ _ _ _ _ us hl => match us, hl with | [_, _], _ => rfl
  have F_ot := fun_mk (st := s_Land_others) l_ot c_ot k_ot
  have b_ot := F_ot.binds (ps := ["self", "cell"]) fun _ _ _ _ _ _ us hl => match us, hl with | [_, _], _ => rfl
  have m_ot : Meth K LC "others" f_ot := ⟨a_ot, i_ot, k_ot⟩
  have clsLC : Cls K LC := ⟨pgLC, hdLC, poLC, saLC⟩
  have gcLC := PySem.W.mg_of X G aLC
  have F_vI := fun_mk (st := s_View___init__) l_vI c_vI k_vI
  have b_vI := F_vI.binds (ps := ["self", "land", "cell", "own", "standings"]) fun _ _ _ _ _ _ us hl => match us, hl with | [_, _, _, _, _], _ => rfl
  have M_VC : Mk K VC f_vI := ⟨mkVC, a_vI, i_vI, kcVC⟩
  have F_vQ := fun_mk (st := s_View___eq__) l_vQ c_vQ k_vQ
  have b_vQ := F_vQ.binds (ps := ["self", "other"]) fun _ _ _ _ _ _ us hl => match us, hl with | [_, _], _ => rfl
  have F_wo := fun_mk (st := s_View_way_of) l_wo c_wo k_wo
  have b_wo := F_wo.binds (ps := ["self", "b"]) fun _ _ _ _ _ _ us hl => match us, hl with | [_, _], _ => rfl
  have m_wo : Meth K VC "way_of" f_wo := ⟨a_wo, i_wo, k_wo⟩
  have clsVC : Cls K VC := ⟨pgVC, hdVC, poVC, saVC⟩
  have gcVC := PySem.W.mg_of X G aVC
  have F_iB := fun_mk (st := s_BadCell___init__) l_iB c_iB k_iB
  have b_iB := F_iB.binds (ps := ["self", "cell"]) fun _ _ _ _ _ _ us hl => match us, hl with | [_, _], _ => rfl
  have oxB : OexC K B := ⟨⟨_, _, _, _, _, _, _, _, _, _, _, _, _, _, _, xB, rB⟩, saB, exB, tyB, kpB⟩
  have gcB := PySem.W.mg_of X G aB
  have emB : PySem.W.exmOne K (.ref B) (.ref B) = some true := PySem.W.exm_ref exB hdB tyB ssB
  have F_iBV := fun_mk (st := s_BadView___init__) l_iBV c_iBV k_iBV
  have b_iBV := F_iBV.binds (ps := ["self", "what"]) fun _ _ _ _ _ _ us hl => match us, hl with | [_, _], _ => rfl
  have oxBV : OexC K BV := ⟨⟨_, _, _, _, _, _, _, _, _, _, _, _, _, _, _, xBV, rBV⟩, saBV, exBV, tyBV, kpBV⟩
  have gcBV := PySem.W.mg_of X G aBV
  have emBV : PySem.W.exmOne K (.ref BV) (.ref BV) = some true := PySem.W.exm_ref exBV hdBV tyBV ssBV
  have F_iBT := fun_mk (st := s_BadText___init__) l_iBT c_iBT k_iBT
  have b_iBT := F_iBT.binds (ps := ["self", "row", "what"]) fun _ _ _ _ _ _ us hl => match us, hl with | [_, _, _], _ => rfl
  have oxBT : OexC K BT := ⟨⟨_, _, _, _, _, _, _, _, _, _, _, _, _, _, _, xBT, rBT⟩, saBT, exBT, tyBT, kpBT⟩
  have gcBT := PySem.W.mg_of X G aBT
  have emBT : PySem.W.exmOne K (.ref BT) (.ref BT) = some true := PySem.W.exm_ref exBT hdBT tyBT ssBT
  have g_M := PySem.W.mg_of X G a_M
  have g_ST := PySem.W.mg_of X G a_ST
  have g_RI := PySem.W.mg_of X G a_RI
  have g_DG := PySem.W.mg_of X G a_DG
  have g_OW := PySem.W.mg_of X G a_OW
  have g_LT := PySem.W.mg_of X G a_LT
  have m_isinstance := PySem.W.mg_none_of X G z_isinstance
  have m_int := PySem.W.mg_none_of X G z_int
  have m_bool := PySem.W.mg_none_of X G z_bool
  have m_str := PySem.W.mg_none_of X G z_str
  have m_tuple := PySem.W.mg_none_of X G z_tuple
  have m_list := PySem.W.mg_none_of X G z_list
  have m_enumerate := PySem.W.mg_none_of X G z_enumerate
  have m_len := PySem.W.mg_none_of X G z_len
  have m_abs := PySem.W.mg_none_of X G z_abs
  have m_range := PySem.W.mg_none_of X G z_range
  have m_min := PySem.W.mg_none_of X G z_min
  have m_max := PySem.W.mg_none_of X G z_max
  have m_sorted := PySem.W.mg_none_of X G z_sorted
  have m_set := PySem.W.mg_none_of X G z_set
  have m_all := PySem.W.mg_none_of X G z_all
  have self : ∀ c : Addr, PySem.W.kitOne K (.ref c) (.ref c) = some true := fun c => by simp [PySem.W.kitOne]
  have kcls : ∀ t : Value, ∀ c : Addr, PySem.W.isClsIn K c = true → PySem.W.typeIn K (.ref c) = some (.type "type") → PySem.W.kitCls K t (.ref c) = PySem.W.subIn K t (.ref c) := fun t c i y => by
    have e1 : ((PySem.W.clsIn K c).isSome && PySem.W.typeIn K (.ref c) == some (.type "type")) = true := by rw [show (PySem.W.clsIn K c).isSome = true from i, y] <;> rfl
    show (if ((PySem.W.clsIn K c).isSome && PySem.W.typeIn K (.ref c) == some (.type "type")) = true then PySem.W.subIn K t (.ref c) else none) = _
    rw [if_pos e1]
  have kT : ∀ t c : Addr, PySem.W.isClsIn K c = true → PySem.W.typeIn K (.ref c) = some (.type "type") → PySem.W.subIn K (.ref t) (.ref c) = some true → PySem.W.kitOne K (.ref t) (.ref c) = some true := fun t c i y s => by
    unfold PySem.W.kitOne
    rw [kcls _ c i y, s]
    split <;> rfl
  have kF : ∀ t c : Addr, PySem.W.isClsIn K c = true → PySem.W.typeIn K (.ref c) = some (.type "type") → PySem.W.subIn K (.ref t) (.ref c) = some false → PySem.W.subIn K (.ref t) (.ref t) = some true → PySem.W.kitOne K (.ref t) (.ref c) = some false := fun t c i y s ss => by
    have hn : ¬ ((Value.ref t == Value.ref c) = true) := fun e => by
      have e' : t = c := by simpa using e
      subst e'
      rw [ss] at s
      cases s
    unfold PySem.W.kitOne
    rw [if_neg hn, kcls _ c i y, s]
  have kTy : ∀ t : String, ∀ c : Addr, PySem.W.isClsIn K c = true → PySem.W.typeIn K (.ref c) = some (.type "type") → PySem.W.subIn K (.type t) (.ref c) = some false → PySem.W.kitOne K (.type t) (.ref c) = some false := fun t c i y s => by
    have e1 : ((PySem.W.clsIn K c).isSome && PySem.W.typeIn K (.ref c) == some (.type "type")) = true := by rw [show (PySem.W.clsIn K c).isSome = true from i, y] <;> rfl
    show (if ((PySem.W.clsIn K c).isSome && PySem.W.typeIn K (.ref c) == some (.type "type")) = true then PySem.W.subIn K (.type t) (.ref c) else none) = some false
    rw [if_pos e1]
    exact s
  have TL : Tl K mg ⟨LC, B, f_iB⟩ :=
    { gC := gcLC, cl := clsLC, gB := gcB, oxB := oxB, iCB := a_iB, tIB := t_iB, nB := noB, nA := fun f hf => by
        simp only [lfields, List.mem_cons, List.not_mem_nil, or_false] at hf
        rcases hf with rfl | rfl | rfl | rfl | rfl
        · exact n_LC_cells
        · exact n_LC_neighbours
        · exact n_LC_roads
        · exact n_LC_nearby
        · exact n_LC__couples }
  have T2 : Tk K LC f_eq := ⟨haLC, hnO, htO, hmLC, self LC, a_eq, i_eq, neLC⟩
  have nVC : ∀ f ∈ vfields, NoAttr K VC f := fun f hf => by
        simp only [vfields, List.mem_cons, List.not_mem_nil, or_false] at hf
        rcases hf with rfl | rfl | rfl | rfl | rfl | rfl | rfl | rfl | rfl
        · exact n_VC_land
        · exact n_VC_cell
        · exact n_VC_own
        · exact n_VC_standings
        · exact n_VC_outside
        · exact n_VC_rights
        · exact n_VC_needed
        · exact n_VC_sleeping
        · exact n_VC_number
  have TV : Tv K mg VC f_vQ := ⟨gcVC, clsVC, nVC, haVC, hnO, htO, hmVC, self VC, a_vQ, i_vQ, neVC⟩
  have kDG : KTup K DG (digs.map V.str) := ⟨_, o_DG, z_DG, l_DG, rfl, rfl, w_DG, v_DG, rfl⟩
  have kLT : KTup K LT (lets.map V.str) := ⟨_, o_LT, z_LT, l_LT, rfl, rfl, w_LT, v_LT, rfl⟩
  have T5 : T5s K mg ST RI DG OW := ⟨g_ST, g_RI, g_DG, g_OW, fun _ => .inr ⟨_, o_ST, z_ST, l_ST, rfl, rfl, w_ST, v_ST⟩, fun _ => .inr ⟨_, o_RI, z_RI, l_RI, rfl, rfl, w_RI, v_RI⟩, kDG.t, kDG.ty, fun _ => .inr ⟨_, o_OW, z_OW, l_OW, rfl, rfl, w_OW, v_OW⟩⟩
  have T6 : T6s K mg LT := ⟨g_LT, kLT.t, kLT.ty⟩
  have TB : Bv K mg BV f_iBV := ⟨gcBV, oxBV, a_iBV, t_iBV, noBV⟩
  have TX : Bx K mg BT f_iBT := ⟨gcBT, oxBT, a_iBT, t_iBT, noBT, nwBT⟩
  have T3 : Te K mg BV BT L := ⟨gcL, ⟨hgBV, hkBV, exBV, hdBV, haBV, hnO, htO, hmBV⟩, ⟨hgBV, hkBV, exBV, hdBV⟩, ⟨hgBT, hkBT, exBT, hdBT, haBT, hnO, htO, hmBT⟩, ⟨hgBT, hkBT, exBT, hdBT⟩, emBV, emBT, kT BV L icL tL suBV, kT BT L icL tL suBT, kF BV BT icBT tyBT sVT ssBV⟩
  have TO : To K LC := ⟨kTy "NoneType" LC icLC tyLC sNL, kTy "bool" LC icLC tyLC sBL, kTy "int" LC icLC tyLC sIL, kTy "str" LC icLC tyLC sSL, kTy "tuple" LC icLC tyLC sTL, kTy "list" LC icLC tyLC sLL⟩
  refine ⟨PySem.W.fnOf "law" "law" (defArgs s_law) (defBody s_law) (defScope s_law) .none kV_la dc_la pm_la an_la cd_la ct_la, fun s u => .of_eq rfl, fun base _ _ => ?_⟩
  have G_mi := ok_mix (P := P) (w := w) (mg := mg) (base := base)  F_mi m_int
  have G_ha := ok_hand (P := P) (w := w) (mg := mg) (base := base)  F_ha m_int m_abs m_enumerate
  have G_dr := ok_draw (P := P) (w := w) (mg := mg) (base := base)  F_dr F_mi g_mi b_mi m_int m_len
  have G_pk := ok_pick (P := P) (w := w) (mg := mg) (base := base)  F_pk k_dr G_dr g_dr b_dr m_len
  have G_lo := ok_lots (P := P) (w := w) (mg := mg) (base := base)  F_lo m_range m_len m_list
  have G_ld := ok_land (P := P) (w := w) (mg := mg) (base := base)  F_ld G_dr g_dr k_dr b_dr G_pk g_pk k_pk b_pk G_lo g_lo k_lo b_lo m_range m_len m_list m_min m_max m_sorted
  have G_isw := ok_whole (P := P) (w := w) (mg := mg) (base := base)  F_isw m_isinstance m_int m_bool
  have G_sq := ok_seq (P := P) (w := w) (mg := mg) (base := base)  F_sq m_isinstance m_list m_tuple
  have G_ac := ok_cells (P := P) (w := w) (mg := mg) (base := base)  F_ac G_sq g_sq k_sq b_sq G_isw g_isw k_isw b_isw m_len m_set m_all
  have G_a2 := ok_two (P := P) (w := w) (mg := mg) (base := base)  F_a2 G_ac g_ac k_ac b_ac m_len
  have G_sp := ok_spread (P := P) (w := w) (mg := mg) (base := base)  F_sp m_len
  have G_ny := ok_near (P := P) (w := w) (mg := mg) (base := base)  F_ny m_range m_tuple
  have G_ht := ok_hang (P := P) (w := w) (mg := mg) (base := base)  F_ht G_ny g_ny k_ny b_ny G_sp g_sp k_sp b_sp m_len m_list m_range
  have G_nb := ok_nbrs (P := P) (w := w) (mg := mg) (base := base)  F_nb G_sq g_sq k_sq b_sq G_a2 g_a2 k_a2 b_a2 m_len m_all m_tuple m_sorted
  have G_ic := ok_iscell (P := P) (w := w) (mg := mg) (base := base)  TL F_ic G_isw g_isw k_isw b_isw
  have G_ck := ok_check (P := P) (w := w) (mg := mg) (base := base)  TL F_ck G_ic g_ic k_ic b_ic F_iB b_iB
  have G_cI := ok_landI (P := P) (w := w) (mg := mg) (base := base)  TL g_M F_cI G_isw g_isw k_isw b_isw G_nb g_nb k_nb b_nb G_ac g_ac k_ac b_ac G_ht g_ht k_ht b_ht G_ny g_ny k_ny b_ny m_len m_sorted m_tuple m_range
  have G_eq := ok_eqL (P := P) (w := w) (mg := mg) (base := base)  TL T2 F_eq m_isinstance
  have G_il := ok_islot (P := P) (w := w) (mg := mg) (base := base)  TL F_il G_ac g_ac k_ac b_ac
  have G_ir := ok_isrow (P := P) (w := w) (mg := mg) (base := base)  TL T5 F_ir G_sq g_sq k_sq b_sq m_len m_all
  have G_nr := ok_numr (P := P) (w := w) (mg := mg) (base := base)  T5 F_nr m_enumerate
  have G_cv := ok_chv (P := P) (w := w) (mg := mg) (base := base)  TB F_cv F_iBV b_iBV m_enumerate
  have G_vI := ok_vwi (P := P) (w := w) (mg := mg) (base := base)  TB TL T2 T5 clsVC nVC F_vI G_ic g_ic k_ic b_ic G_il g_il k_il b_il G_ir g_ir k_ir b_ir G_cv g_cv k_cv b_cv G_nr g_nr k_nr b_nr m_isinstance m_tuple m_sorted m_range F_iBV b_iBV
  have G_vQ := ok_eqV (P := P) (w := w) (mg := mg) (base := base)  TL TV T2 F_vQ m_isinstance G_eq b_eq
  have G_ot := ok_others (P := P) (w := w) (mg := mg) (base := base)  G_ck g_ck k_ck TL F_ot m_tuple m_range
  have G_vb := ok_vbyw (P := P) (w := w) (mg := mg) (base := base)  TV T5 F_vb M_VC G_vI b_vI m_list m_enumerate
  have G_nu := ok_numk (P := P) (w := w) (mg := mg) (base := base)  TL T5 F_nu G_vb g_vb k_vb b_vb m_range
  have G_nv := ok_nv (P := P) (w := w) (mg := mg) (base := base)  TL F_nv m_range
  have G_va := ok_vat (P := P) (w := w) (mg := mg) (base := base)  G_ck g_ck k_ck F_va G_isw g_isw k_isw b_isw G_nv g_nv k_nv b_nv G_nu g_nu k_nu b_nu
  have G_wo := ok_way (P := P) (w := w) (mg := mg) (base := base) (a := ⟨LC, B, f_iB⟩) G_ck g_ck k_ck TV F_wo
  have G_vt := ok_vt (P := P) (w := w) (mg := mg) (base := base)  TL TV T5 T6 F_vt m_ot G_ot b_ot m_wo G_wo b_wo
  have G_rcl := ok_rcl (P := P) (w := w) (mg := mg) (base := base) (a := ⟨LC, B, f_iB⟩) TX F_rcl G_ic g_ic k_ic b_ic F_iBT b_iBT m_int
  have G_pv := ok_pv (P := P) (w := w) (mg := mg) (base := base)  TL TX T5 T6 F_pv G_rcl g_rcl k_rcl b_rcl G_vb g_vb k_vb b_vb F_iBT b_iBT m_isinstance m_str m_len m_all
  have G_tu := ok_turn (P := P) (w := w) (mg := mg) (base := base)  F_tu G_dr g_dr k_dr b_dr m_range m_len m_list m_tuple
  have G_nvw := ok_nvw (P := P) (w := w) (mg := mg) (base := base)  F_nvw m_range m_int
  have G_so := ok_sown (P := P) (w := w) (mg := mg) (base := base)  F_so G_pk g_pk k_pk b_pk m_range m_len
  have G_sw := ok_swo (P := P) (w := w) (mg := mg) (base := base)  F_sw G_dr g_dr k_dr b_dr G_pk g_pk k_pk b_pk m_list
  have G_pt := ok_parts (P := P) (w := w) (mg := mg) (base := base) (a := ⟨LC, B, f_iB⟩) F_pt G_dr g_dr k_dr b_dr G_pk g_pk k_pk b_pk G_nvw g_nvw k_nvw b_nvw G_tu g_tu k_tu b_tu G_sw g_sw k_sw b_sw G_so g_so k_so b_so m_range
  have G_md := ok_made (P := P) (w := w) (mg := mg) (base := base) (a := ⟨LC, B, f_iB⟩) TB TX TV T3 F_md M_VC G_vI b_vI m_isinstance
  have G_rd := ok_read (P := P) (w := w) (mg := mg) (base := base) (a := ⟨LC, B, f_iB⟩) TX T3 F_rd G_pv g_pv k_pv b_pv m_isinstance m_bool
  have G_ltx := ok_ltx (P := P) (w := w) (mg := mg) (base := base)  F_ltx m_range m_int m_str
  have G_bd := ok_bad (P := P) (w := w) (mg := mg) (base := base)  F_bd G_dr g_dr k_dr b_dr G_pk g_pk k_pk b_pk
  exact ok_law TL TV TO F_la G_ha g_ha k_ha b_ha G_ld g_ld k_ld b_ld G_dr g_dr k_dr b_dr G_pk g_pk k_pk b_pk G_pt g_pt k_pt b_pt G_md g_md k_md b_md G_ltx g_ltx k_ltx b_ltx G_vt g_vt k_vt b_vt G_va g_va k_va b_va G_rd g_rd k_rd b_rd G_bd g_bd k_bd b_bd M_LC G_cI b_cI G_vQ b_vQ m_isinstance m_str m_range
end K7
end
open PySem PySem.W PyProof.Rows
set_option maxHeartbeats 0 in
theorem PySem.Challenge.cw_landways_k18_views_refused_and_texts_of_holds : PySem.Challenge.rw_landways_k18_views_refused_and_texts_of.Holds := by
  w_on; o_law; k_head; (case hw => w_witness2)
  k_fill
  refine L2.walk_ofB (l := PySem.Challenge.rw_landways_k18_views_refused_and_texts_of) (n := 63) (k := 10) (x := "_law_script") (CX := fun _ => L2.CX0) (sp := fun w => K7.spLaw _) rfl (by decide) rfl ⟨rfl, by decide, by decide⟩ (fun w h Y => PySem.W.kIn_of Y) ?F (fun _ _ a ns hl _ _ hS => ⟨a, ns, rfl, hS, hl, fun _ => rfl⟩) (fun _ _ _ _ _ h => h)
  case F =>
    intro w mg fa h KX G hmg
    refine' K7.all_mk KX G hmg ?a_sq ?l_sq ?c_sq ?k_sq ?a_isw ?l_isw ?c_isw ?k_isw ?a_ac ?l_ac ?c_ac ?k_ac ?a_a2 ?l_a2 ?c_a2 ?k_a2 ?a_ic ?l_ic ?c_ic ?k_ic ?a_il ?l_il ?c_il ?k_il ?a_ck ?l_ck ?c_ck ?k_ck ?a_sp ?l_sp ?c_sp ?k_sp ?a_ny ?l_ny ?c_ny ?k_ny ?a_ht ?l_ht ?c_ht ?k_ht ?a_nb ?l_nb ?c_nb ?k_nb ?a_ir ?l_ir ?c_ir ?k_ir ?a_nr ?l_nr ?c_nr ?k_nr ?a_cv ?l_cv ?c_cv ?k_cv ?a_vb ?l_vb ?c_vb ?k_vb ?a_nu ?l_nu ?c_nu ?k_nu ?a_nv ?l_nv ?c_nv ?k_nv ?a_va ?l_va ?c_va ?k_va ?a_vt ?l_vt ?c_vt ?k_vt ?a_rcl ?l_rcl ?c_rcl ?k_rcl ?a_pv ?l_pv ?c_pv ?k_pv ?a_mi ?l_mi ?c_mi ?k_mi ?a_ha ?l_ha ?c_ha ?k_ha ?a_dr ?l_dr ?c_dr ?k_dr ?a_pk ?l_pk ?c_pk ?k_pk ?a_lo ?l_lo ?c_lo ?k_lo ?a_ld ?l_ld ?c_ld ?k_ld ?a_tu ?l_tu ?c_tu ?k_tu ?a_nvw ?l_nvw ?c_nvw ?k_nvw ?a_so ?l_so ?c_so ?k_so ?a_sw ?l_sw ?c_sw ?k_sw ?a_pt ?l_pt ?c_pt ?k_pt ?a_md ?l_md ?c_md ?k_md ?a_ltx ?l_ltx ?c_ltx ?k_ltx ?a_bd ?l_bd ?c_bd ?k_bd ?a_rd ?l_rd ?c_rd ?k_rd ?a_la ?l_la ?c_la ?k_la ?aL ?eL ?dL ?tL ?icL ?hnO ?htO ?aLC ?pgLC ?hdLC ?poLC ?saLC ?mkLC ?kcLC ?haLC ?hmLC ?neLC ?icLC ?tyLC ?n_LC_cells ?n_LC_neighbours ?n_LC_roads ?n_LC_nearby ?n_LC__couples ?a_cI ?i_cI ?l_cI ?c_cI ?k_cI ?a_eq ?i_eq ?l_eq ?c_eq ?k_eq ?a_ot ?i_ot ?l_ot ?c_ot ?k_ot ?aVC ?pgVC ?hdVC ?poVC ?saVC ?mkVC ?kcVC ?haVC ?hmVC ?neVC ?icVC ?tyVC ?n_VC_land ?n_VC_cell ?n_VC_own ?n_VC_standings ?n_VC_outside ?n_VC_rights ?n_VC_needed ?n_VC_sleeping ?n_VC_number ?a_vI ?i_vI ?l_vI ?c_vI ?k_vI ?a_vQ ?i_vQ ?l_vQ ?c_vQ ?k_vQ ?a_wo ?i_wo ?l_wo ?c_wo ?k_wo ?aB ?xB ?rB ?saB ?exB ?tyB ?kpB ?hgB ?hkB ?hdB ?haB ?hmB ?icB ?ssB ?suB ?noB ?a_iB ?t_iB ?l_iB ?c_iB ?k_iB ?aBV ?xBV ?rBV ?saBV ?exBV ?tyBV ?kpBV ?hgBV ?hkBV ?hdBV ?haBV ?hmBV ?icBV ?ssBV ?suBV ?noBV ?a_iBV ?t_iBV ?l_iBV ?c_iBV ?k_iBV ?aBT ?xBT ?rBT ?saBT ?exBT ?tyBT ?kpBT ?hgBT ?hkBT ?hdBT ?haBT ?hmBT ?icBT ?ssBT ?suBT ?noBT ?a_iBT ?t_iBT ?l_iBT ?c_iBT ?k_iBT ?nwBT ?sVT ?sNL ?sBL ?sIL ?sSL ?sTL ?sLL ?a_M ?a_ST ?l_ST ?v_ST ?w_ST ?a_RI ?l_RI ?v_RI ?w_RI ?a_DG ?l_DG ?v_DG ?w_DG ?a_OW ?l_OW ?v_OW ?w_OW ?a_LT ?l_LT ?v_LT ?w_LT ?z_isinstance ?z_int ?z_bool ?z_str ?z_tuple ?z_list ?z_enumerate ?z_len ?z_abs ?z_range ?z_min ?z_max ?z_sorted ?z_set ?z_all
    (case a_sq => k_is)
    (case l_sq => k_is)
    (case c_sq => k_is)
    (case k_sq => k_is)
    (case a_isw => k_is)
    (case l_isw => k_is)
    (case c_isw => k_is)
    (case k_isw => k_is)
    (case a_ac => k_is)
    (case l_ac => k_is)
    (case c_ac => k_is)
    (case k_ac => k_is)
    (case a_a2 => k_is)
    (case l_a2 => k_is)
    (case c_a2 => k_is)
    (case k_a2 => k_is)
    (case a_ic => k_is)
    (case l_ic => k_is)
    (case c_ic => k_is)
    (case k_ic => k_is)
    (case a_il => k_is)
    (case l_il => k_is)
    (case c_il => k_is)
    (case k_il => k_is)
    (case a_ck => k_is)
    (case l_ck => k_is)
    (case c_ck => k_is)
    (case k_ck => k_is)
    (case a_sp => k_is)
    (case l_sp => k_is)
    (case c_sp => k_is)
    (case k_sp => k_is)
    (case a_ny => k_is)
    (case l_ny => k_is)
    (case c_ny => k_is)
    (case k_ny => k_is)
    (case a_ht => k_is)
    (case l_ht => k_is)
    (case c_ht => k_is)
    (case k_ht => k_is)
    (case a_nb => k_is)
    (case l_nb => k_is)
    (case c_nb => k_is)
    (case k_nb => k_is)
    (case a_ir => k_is)
    (case l_ir => k_is)
    (case c_ir => k_is)
    (case k_ir => k_is)
    (case a_nr => k_is)
    (case l_nr => k_is)
    (case c_nr => k_is)
    (case k_nr => k_is)
    (case a_cv => k_is)
    (case l_cv => k_is)
    (case c_cv => k_is)
    (case k_cv => k_is)
    (case a_vb => k_is)
    (case l_vb => k_is)
    (case c_vb => k_is)
    (case k_vb => k_is)
    (case a_nu => k_is)
    (case l_nu => k_is)
    (case c_nu => k_is)
    (case k_nu => k_is)
    (case a_nv => k_is)
    (case l_nv => k_is)
    (case c_nv => k_is)
    (case k_nv => k_is)
    (case a_va => k_is)
    (case l_va => k_is)
    (case c_va => k_is)
    (case k_va => k_is)
    (case a_vt => k_is)
    (case l_vt => k_is)
    (case c_vt => k_is)
    (case k_vt => k_is)
    (case a_rcl => k_is)
    (case l_rcl => k_is)
    (case c_rcl => k_is)
    (case k_rcl => k_is)
    (case a_pv => k_is)
    (case l_pv => k_is)
    (case c_pv => k_is)
    (case k_pv => k_is)
    (case a_mi => k_is)
    (case l_mi => k_is)
    (case c_mi => k_is)
    (case k_mi => k_is)
    (case a_ha => k_is)
    (case l_ha => k_is)
    (case c_ha => k_is)
    (case k_ha => k_is)
    (case a_dr => k_is)
    (case l_dr => k_is)
    (case c_dr => k_is)
    (case k_dr => k_is)
    (case a_pk => k_is)
    (case l_pk => k_is)
    (case c_pk => k_is)
    (case k_pk => k_is)
    (case a_lo => k_is)
    (case l_lo => k_is)
    (case c_lo => k_is)
    (case k_lo => k_is)
    (case a_ld => k_is)
    (case l_ld => k_is)
    (case c_ld => k_is)
    (case k_ld => k_is)
    (case a_tu => k_is)
    (case l_tu => k_is)
    (case c_tu => k_is)
    (case k_tu => k_is)
    (case a_nvw => k_is)
    (case l_nvw => k_is)
    (case c_nvw => k_is)
    (case k_nvw => k_is)
    (case a_so => k_is)
    (case l_so => k_is)
    (case c_so => k_is)
    (case k_so => k_is)
    (case a_sw => k_is)
    (case l_sw => k_is)
    (case c_sw => k_is)
    (case k_sw => k_is)
    (case a_pt => k_is)
    (case l_pt => k_is)
    (case c_pt => k_is)
    (case k_pt => k_is)
    (case a_md => k_is)
    (case l_md => k_is)
    (case c_md => k_is)
    (case k_md => k_is)
    (case a_ltx => k_is)
    (case l_ltx => k_is)
    (case c_ltx => k_is)
    (case k_ltx => k_is)
    (case a_bd => k_is)
    (case l_bd => k_is)
    (case c_bd => k_is)
    (case k_bd => k_is)
    (case a_rd => k_is)
    (case l_rd => k_is)
    (case c_rd => k_is)
    (case k_rd => k_is)
    (case a_la => k_is)
    (case l_la => k_is)
    (case c_la => k_is)
    (case k_la => k_is)
    (case aL => k_is)
    (case eL => k_is)
    (case dL => k_is)
    (case tL => k_is)
    (case icL => k_is)
    (case hnO => k_is)
    (case htO => k_is)
    (case aLC => k_is)
    (case pgLC => k_is)
    (case hdLC => k_is)
    (case poLC => k_is)
    (case saLC => k_is)
    (case mkLC => k_is)
    (case kcLC => k_is)
    (case haLC => k_is)
    (case hmLC => k_is)
    (case neLC => k_is)
    (case icLC => k_is)
    (case tyLC => k_is)
    (case n_LC_cells => k_is)
    (case n_LC_neighbours => k_is)
    (case n_LC_roads => k_is)
    (case n_LC_nearby => k_is)
    (case n_LC__couples => k_is)
    (case a_cI => k_is)
    (case i_cI => k_is)
    (case l_cI => k_is)
    (case c_cI => k_is)
    (case k_cI => k_is)
    (case a_eq => k_is)
    (case i_eq => k_is)
    (case l_eq => k_is)
    (case c_eq => k_is)
    (case k_eq => k_is)
    (case a_ot => k_is)
    (case i_ot => k_is)
    (case l_ot => k_is)
    (case c_ot => k_is)
    (case k_ot => k_is)
    (case aVC => k_is)
    (case pgVC => k_is)
    (case hdVC => k_is)
    (case poVC => k_is)
    (case saVC => k_is)
    (case mkVC => k_is)
    (case kcVC => k_is)
    (case haVC => k_is)
    (case hmVC => k_is)
    (case neVC => k_is)
    (case icVC => k_is)
    (case tyVC => k_is)
    (case n_VC_land => k_is)
    (case n_VC_cell => k_is)
    (case n_VC_own => k_is)
    (case n_VC_standings => k_is)
    (case n_VC_outside => k_is)
    (case n_VC_rights => k_is)
    (case n_VC_needed => k_is)
    (case n_VC_sleeping => k_is)
    (case n_VC_number => k_is)
    (case a_vI => k_is)
    (case i_vI => k_is)
    (case l_vI => k_is)
    (case c_vI => k_is)
    (case k_vI => k_is)
    (case a_vQ => k_is)
    (case i_vQ => k_is)
    (case l_vQ => k_is)
    (case c_vQ => k_is)
    (case k_vQ => k_is)
    (case a_wo => k_is)
    (case i_wo => k_is)
    (case l_wo => k_is)
    (case c_wo => k_is)
    (case k_wo => k_is)
    (case aB => k_is)
    (case xB => k_is)
    (case rB => decide +kernel)
    (case saB => k_is)
    (case exB => k_is)
    (case tyB => k_is)
    (case kpB => k_is)
    (case hgB => k_is)
    (case hkB => k_is)
    (case hdB => k_is)
    (case haB => k_is)
    (case hmB => k_is)
    (case icB => k_is)
    (case ssB => k_is)
    (case suB => k_is)
    (case noB => k_is)
    (case a_iB => k_is)
    (case t_iB => k_is)
    (case l_iB => k_is)
    (case c_iB => k_is)
    (case k_iB => k_is)
    (case aBV => k_is)
    (case xBV => k_is)
    (case rBV => decide +kernel)
    (case saBV => k_is)
    (case exBV => k_is)
    (case tyBV => k_is)
    (case kpBV => k_is)
    (case hgBV => k_is)
    (case hkBV => k_is)
    (case hdBV => k_is)
    (case haBV => k_is)
    (case hmBV => k_is)
    (case icBV => k_is)
    (case ssBV => k_is)
    (case suBV => k_is)
    (case noBV => k_is)
    (case a_iBV => k_is)
    (case t_iBV => k_is)
    (case l_iBV => k_is)
    (case c_iBV => k_is)
    (case k_iBV => k_is)
    (case aBT => k_is)
    (case xBT => k_is)
    (case rBT => decide +kernel)
    (case saBT => k_is)
    (case exBT => k_is)
    (case tyBT => k_is)
    (case kpBT => k_is)
    (case hgBT => k_is)
    (case hkBT => k_is)
    (case hdBT => k_is)
    (case haBT => k_is)
    (case hmBT => k_is)
    (case icBT => k_is)
    (case ssBT => k_is)
    (case suBT => k_is)
    (case noBT => k_is)
    (case a_iBT => k_is)
    (case t_iBT => k_is)
    (case l_iBT => k_is)
    (case c_iBT => k_is)
    (case k_iBT => k_is)
    (case nwBT => k_is)
    (case sVT => k_is)
    (case sNL => k_is)
    (case sBL => k_is)
    (case sIL => k_is)
    (case sSL => k_is)
    (case sTL => k_is)
    (case sLL => k_is)
    (case a_M => k_is)
    (case a_ST => k_is)
    (case l_ST => k_is)
    (case v_ST => exact (.cons ⟨_, rfl⟩ (.cons ⟨_, rfl⟩ (.cons ⟨_, rfl⟩ (.cons ⟨_, rfl⟩ .nil)))))
    (case w_ST => decide)
    (case a_RI => k_is)
    (case l_RI => k_is)
    (case v_RI => exact (.cons ⟨_, rfl⟩ (.cons ⟨_, rfl⟩ .nil)))
    (case w_RI => decide)
    (case a_DG => k_is)
    (case l_DG => k_is)
    (case v_DG => exact (.cons ⟨_, rfl⟩ (.cons ⟨_, rfl⟩ (.cons ⟨_, rfl⟩ (.cons ⟨_, rfl⟩ (.cons ⟨_, rfl⟩ .nil))))))
    (case w_DG => decide)
    (case a_OW => k_is)
    (case l_OW => k_is)
    (case v_OW => exact (.cons ⟨_, rfl⟩ (.cons ⟨_, rfl⟩ .nil)))
    (case w_OW => decide)
    (case a_LT => k_is)
    (case l_LT => k_is)
    (case v_LT => exact (.cons ⟨_, rfl⟩ (.cons ⟨_, rfl⟩ (.cons ⟨_, rfl⟩ (.cons ⟨_, rfl⟩ (.cons ⟨_, rfl⟩ .nil))))))
    (case w_LT => decide)
    (case z_isinstance => k_is)
    (case z_int => k_is)
    (case z_bool => k_is)
    (case z_str => k_is)
    (case z_tuple => k_is)
    (case z_list => k_is)
    (case z_enumerate => k_is)
    (case z_len => k_is)
    (case z_abs => k_is)
    (case z_range => k_is)
    (case z_min => k_is)
    (case z_max => k_is)
    (case z_sorted => k_is)
    (case z_set => k_is)
    (case z_all => k_is)

