import PyProof.Rows.All
import Wide.All
import OpenK.AllK
import Wide.FinOn
import PySem.Challenge.RW_landways_k06_land_texts_read_back
import HandS.ForMost
import HandS.Wide
import HandS.Evl
import HandS.Walk
import HandS.Zip
import HandS.TupAny
import HandS.Sort
import PyProof.ListRange
import HandS.Deep
import HandS.SortRule
import HandS.Star
import HandS.IsInst
import HandS.TupSets
import HandS.SetFor
import HandS.SetBool
import PyProof.TupleOfSeq
import HandS.Property
import HandS.ExcIs
import HandS.ExcField
import HandS.ForExc
import HandS.ExcInit
import HandS.Style
import HandS.RaiseMore
import HandS.SlotsOwn
import HandS.OwnEq
import KE.KExcIs
import HandS.ExcInitHot
import HandS.ExcCtx
import HandS.SuiteRaise
import HandS.RaiseFrom
import HandS.HotCalls
import HandS.WordsExc
import KE.DataMinMax
import KE.SortData
import KE.LtData
import PyProof.InstEq
import HandS.MakeKw
import HandS.Codes
import HandS.SortInts
import HandS.TupLe
import HandS.StrMore
import HandS.FStr
import HandS.Iter
import PyProof.Rows.ChunkEnd
import HandS.Text
import HandS.ExcBuiltin
import HandS.EndBits
set_option Elab.async false
set_option linter.all false
set_option maxRecDepth 100000
set_option maxHeartbeats 4000000
/-! ## P1 -/
section
open PySem PySem.Spec PyProof.Rows L2
namespace K7

def topS (i : Nat) : Stmt := PySem.Challenge.pw_landways_k06_land_texts_read_back.main.body.getD i (.Pass ⟨0, 0, 0, 0⟩)
abbrev N__law_mix : List Str := ["_law_number", "_law_turn", "_law_once", "_law_twice"]
abbrev s__law_mix : Stmt := topS 29
theorem sc__law_mix : FnScope ["_law_number", "_law_turn", "_law_once", "_law_twice"] ["_law_number", "_law_turn"] (defScope s__law_mix) := ⟨rfl, rfl, rfl, by decide +kernel, rfl, by decide +kernel, by decide +kernel⟩

abbrev N__law_draw : List Str := ["_law_hand_here", "_law_many", "_law_cell", "_law_rest"]
abbrev s__law_draw : Stmt := topS 31
theorem sc__law_draw : FnScope ["_law_hand_here", "_law_many", "_law_cell", "_law_rest"] ["_law_hand_here", "_law_many"] (defScope s__law_draw) := ⟨rfl, rfl, rfl, by decide +kernel, rfl, by decide +kernel, by decide +kernel⟩

abbrev N__law_pick : List Str := ["_law_hand_here", "_law_things"]
abbrev s__law_pick : Stmt := topS 32
theorem sc__law_pick : FnScope ["_law_hand_here", "_law_things"] ["_law_hand_here", "_law_things"] (defScope s__law_pick) := ⟨rfl, rfl, rfl, by decide +kernel, rfl, by decide +kernel, by decide +kernel⟩

abbrev N__law_hand : List Str := ["_law_script", "_law_total", "_law_k", "_law_cell"]
abbrev s__law_hand : Stmt := topS 30
theorem sc__law_hand : FnScope ["_law_script", "_law_total", "_law_k", "_law_cell"] ["_law_script"] (defScope s__law_hand) := ⟨rfl, rfl, rfl, by decide +kernel, rfl, by decide +kernel, by decide +kernel⟩

section
variable {P : Program} {w : World} {K : PySem.W.Frag} {mg : Str → Option Value} {base : Heap}
/-! mix: some number from 0 on -/
def spMix : Sp := fun vs H Q _ => ∃ n t : Int, vs = [.int n, .int t] ∧ ∀ r : Int, 0 ≤ r → Q (.int r) H
theorem ok_mix {f : Addr} {fd : FuncData} (F : Fun K "_law_mix" "_law_mix" s__law_mix f fd) (m_int : mg "int" = none) : FnOk P w K mg base CX0 1 f fd ["_law_number", "_law_turn"] spMix := by
  refine F.ok sc__law_mix (fun vs H Q E h => ?_) (fun cdv A outer s H vs Q E hr h => ?_)
  · obtain ⟨n, t, rfl, _⟩ := h
    rfl
  · obtain ⟨n, t, rfl, q⟩ := h
    refine ⟨_, (pss_cons (ps_set (i := 2) sc__law_mix.nd rfl (by first | exact Or.inl rfl | exact Or.inr rfl) (pe_op op_mod (pe_callTy call_int1 (by rfl) m_int boot_int (pa_cons (pe_op op_add (pe_op op_add (pe_op op_mul (pv 0) pe_int) (pe_op op_mul (pv 1) pe_int)) pe_int) pa_nil)) pe_int))
 (pss_cons (ps_set (i := 3) sc__law_mix.nd rfl (by first | exact Or.inl rfl | exact Or.inr rfl) (pe_op op_mod (pe_callTy call_int1 (by rfl) m_int boot_int (pa_cons (pe_op op_add (pe_op op_add (pe_op op_mul (pv 2) (pv 2)) (pe_op op_mul (pe_op op_fdiv (pv 2) pe_int) pe_int)) (pe_op op_mul (pv 1) pe_int)) pa_nil)) pe_int))
 (pss_one (ps_ret (pe_op op_fdiv (pe_op op_mod (pe_callTy call_int1 (by rfl) m_int boot_int (pa_cons (pe_op op_add (pe_op op_fdiv (pe_op op_mul (pv 3) (pv 3)) pe_int) (pv 2)) pa_nil)) pe_int) pe_int))))), ?_⟩
    have e1 : ∀ z : Int, 0 ≤ z % 2147483647 ∧ z % 2147483647 < 2147483647 := fun z => ⟨Int.emod_nonneg _ (by decide), Int.emod_lt_of_pos _ (by decide)⟩
    have e2 : ∀ z : Int, 0 ≤ z % 2147483399 ∧ z % 2147483399 < 2147483399 := fun z => ⟨Int.emod_nonneg _ (by decide), Int.emod_lt_of_pos _ (by decide)⟩
    refine ⟨_, rfl, _, _, rfl, rfl, .inr ⟨by decide, by decide⟩, _, rfl, _, _, rfl, rfl, .inr ⟨by decide, by decide⟩, _, _, rfl, rfl, _, _, rfl, rfl, .inl ⟨_, rfl, ?_⟩⟩
    refine ⟨_, _, rfl, rfl, show (0 : Int) < _ by decide, ?_⟩
    have b1 := e1 (n * 48271 + t * 16807 + 11)
    refine ⟨_, rfl, _, rfl, _, _, rfl, rfl, .inl ⟨by omega, by omega⟩, _, rfl, _, _, rfl, rfl, ⟨by decide, by decide⟩, _, _, rfl, rfl, .inr ⟨by decide, by decide⟩, _, _, rfl, rfl, _, rfl, _, _, rfl, rfl, .inr ⟨by decide, by decide⟩, _, _, rfl, rfl, .inl ⟨_, rfl, ?_⟩⟩
    refine ⟨_, _, rfl, rfl, show (0 : Int) < _ by decide, ?_⟩
    refine ⟨_, rfl, _, rfl, _, _, rfl, rfl, .inl ⟨by omega, by omega⟩, _, _, rfl, rfl, ⟨by decide, by decide⟩, _, rfl, _, _, rfl, rfl, .inl ⟨_, rfl, _, _, rfl, rfl, show (0 : Int) < _ by decide, _, _, rfl, rfl, ⟨by decide, by decide⟩, ?_⟩⟩
    exact q _ (Int.ediv_nonneg (Int.emod_nonneg _ (by decide)) (by decide))
/-! the hand -/
structure HandB (ns : List Int) (i x t : Int) : Prop where
  len : ns.length ≤ 63
  lo : 0 ≤ i
  hi : i ≤ ns.length
  x0 : 0 ≤ x
  t0 : 0 ≤ t
  pos : ∀ n ∈ ns, 0 ≤ n
def HandO (c : Addr) (i x t : Int) : HO := .lst [.ref c, .int i, .int x, .int t]
def Hand (H : Hp) (a c : Addr) : Prop := ∃ ns i x t, H a = some (HandO c i x t) ∧ H c = some (.lst (ns.map V.int)) ∧ HandB ns i x t
/-- H' is H but for the hand at a, which is a hand still -/
structure Drawn (H H' : Hp) (a c : Addr) : Prop where
  but : ∀ b, b ≠ a → H' b = H b
  hand : Hand H' a c
def spDraw : Sp := fun vs H Q _ => ∃ (a c : Addr) (many : Int), vs = [.ref a, .int many] ∧ Hand H a c ∧ 0 < many ∧ many < 2 ^ 200 ∧ ∀ H' r, Drawn H H' a c → 0 ≤ r → r < many → Q (.int r) H'
theorem hand_ne {H : Hp} {a c : Addr} {ns : List Int} {i x t : Int} (h1 : H a = some (HandO c i x t)) (h2 : H c = some (.lst (ns.map V.int))) : c ≠ a := by
  intro e
  subst e
  rw [h1] at h2
  unfold HandO at h2
  injection h2 with h2
  injection h2 with h2
  cases ns with
  | nil => cases h2
  | cons n r => rw [List.map_cons] at h2; injection h2 with h3 h4; cases h3
theorem drawn_of {H H0 : Hp} {a c : Addr} {ns : List Int} {i x t : Int} (hb : ∀ b, b ≠ a → H0 b = H b) (hc : c ≠ a) (h2 : H c = some (.lst (ns.map V.int))) (B : HandB ns i x t) : Drawn H (upd H0 a (HandO c i x t)) a c :=
  ⟨fun b h => by rw [upd_ne h]; exact hb b h, ⟨ns, i, x, t, upd_same, by rw [upd_ne hc, hb c hc]; exact h2, B⟩⟩
theorem wide200 {many : Int} (h0 : 0 < many) (h1 : many < 2 ^ 200) (i : Int) : CDivW i many := wide_div (b := 200) h0 (by omega) (by decide) (by decide)
theorem ok_draw {f fM : Addr} {fd fdM : FuncData} (F : Fun K "_law_draw" "_law_draw" s__law_draw f fd) (FM : Fun K "_law_mix" "_law_mix" s__law_mix fM fdM) (g_law_mix : mg "_law_mix" = some (.ref fM)) (b_law_mix : Binds K fdM ["_law_number", "_law_turn"] [])
    (m_int : mg "int" = none) (m_len : mg "len" = none) : FnOk P w K mg base CX0 2 f fd ["_law_hand_here", "_law_many"] spDraw := by
  have G_law_mix : FnOk P w K mg base CX0 1 fM fdM ["_law_number", "_law_turn"] spMix := ok_mix FM m_int
  have k_law_mix := FM.kp
  refine F.ok sc__law_draw (fun vs H Q E h => ?_) (fun cdv A outer s H vs Q E hr h => ?_)
  · obtain ⟨a, c, n, rfl, _⟩ := h
    rfl
  · obtain ⟨a, c, many, rfl, ⟨ns, i, x, t, h1, h2, B⟩, hm0, hm1, q⟩ := h
    have hr_law_mix := hr
    have hc := hand_ne h1 h2
    refine ⟨_, (Evl.pss_cut (ps_if (pw_and (pt_cmpR op_eq (pe_ix ix_list (pv 0) pe_int (fun _ _ => rfl)) pe_int (nomark _)) (pw_and1 (pt_cmpR op_lt (pe_ix ix_list (pv 0) pe_int (fun _ _ => rfl)) (pe_callB call_len_seq (by rfl) m_len boot_len (pa_cons (pe_ix ix_list (pv 0) pe_int (fun _ _ => rfl)) pa_nil)) (nomark _)))).pt
  (pss_cons (ps_set (i := 2) sc__law_draw.nd rfl (by first | exact Or.inl rfl | exact Or.inr rfl) (pe_ix ix_list (pe_ix ix_list (pv 0) pe_int (fun _ _ => rfl)) (pe_ix ix_list (pv 0) pe_int (fun _ _ => rfl)) (fun _ _ => rfl)))
 (pss_cons (ps_asg (pe_op op_add (pe_ix ix_list (pv 0) pe_int (fun _ _ => rfl)) pe_int) (pg_sub (pv 0) pe_int set_list))
 (pss_cons (ps_if (pt_cmpR op_lt (pv 2) (pe_op op_pow pe_int pe_int) (nomark _))
  (pss_one (ps_ret (pe_op op_mod (pe_callTy call_int1 (by rfl) m_int boot_int (pa_cons (pe_call G_law_mix hr_law_mix (by rfl) g_law_mix k_law_mix b_law_mix .nil pass0 (pa_cons (pe_op op_mod (pe_callTy call_int1 (by rfl) m_int boot_int (pa_cons (pv 2) pa_nil)) pe_int) (pa_cons (pe_ix ix_list (pv 0) pe_int (fun _ _ => rfl)) pa_nil))) pa_nil)) (pv 1))))
  pss_nil)
 (pss_one (ps_asg (pv 2) (pg_sub (pv 0) pe_int set_list))))))
  pss_nil)
 (pss_cons (ps_if (pt_cmpR op_gt (pe_ix ix_list (pv 0) pe_int (fun _ _ => rfl)) pe_int (nomark _))
  (pss_cons (ps_set (i := 3) sc__law_draw.nd rfl (by first | exact Or.inl rfl | exact Or.inr rfl) (pe_ix ix_list (pv 0) pe_int (fun _ _ => rfl)))
 (pss_cons (ps_asg (pe_op op_fdivW (pv 3) (pv 1)) (pg_sub (pv 0) pe_int set_list))
 (pss_one (ps_ret (pe_op op_mod (pe_callTy call_int1 (by rfl) m_int boot_int (pa_cons (pv 3) pa_nil)) (pv 1))))))
  pss_nil)
 (pss_cons (ps_asg (pe_op op_mod (pe_callTy call_int1 (by rfl) m_int boot_int (pa_cons (pe_op op_add (pe_ix ix_list (pv 0) pe_int (fun _ _ => rfl)) pe_int) pa_nil)) pe_int) (pg_sub (pv 0) pe_int set_list))
 (pss_one (ps_ret (pe_op op_mod (pe_callTy call_int1 (by rfl) m_int boot_int (pa_cons (pe_call G_law_mix hr_law_mix (by rfl) g_law_mix k_law_mix b_law_mix .nil pass0 (pa_cons (pe_ix ix_list (pv 0) pe_int (fun _ _ => rfl)) (pa_cons (pe_ix ix_list (pv 0) pe_int (fun _ _ => rfl)) pa_nil))) pa_nil)) (pv 1))))))), ?_⟩
    have hS : SqL K H a [.ref c, .int i, .int x, .int t] := .inl (.inl h1)
    have hC : SqL K H c (ns.map V.int) := .inl (.inl h2)
    have last : ∀ (i' : Int) (σ : L2.St) , 0 ≤ i' → i' ≤ ns.length → True := fun _ _ _ _ => trivial
    refine ⟨fun σ' H' => ∃ i' x' y2, σ' = [some (.ref a), some (.int many), y2, none] ∧ (∀ b, b ≠ a → H' b = H b) ∧ H' a = some (HandO c i' x' t) ∧ HandB ns i' x' t, ?_, fun σ' H' hM => ?_⟩
    refine ⟨.ref a, rfl, a, _, _, _, rfl, rfl, hS, rfl, rfl, _, rfl, ite2 (fun e => ?_) (fun e => ?_)⟩
    · have ex : x = 0 := V.int.inj (of_decide_eq_true e)
      subst ex
      refine ⟨.ref a, rfl, a, _, _, _, rfl, rfl, hS, rfl, .ref a, rfl, a, _, _, _, rfl, rfl, hS, rfl, c, _, rfl, .inl hC, _, _, rfl, rfl, _, rfl, ite2 (fun e => ?_) (fun e => ?_)⟩
      · have hi : i < ((ns.map V.int).length : Int) := of_decide_eq_true e
        rw [List.length_map] at hi
        have hlo := B.lo
        obtain ⟨j, rfl⟩ : ∃ j : Nat, i = (j : Int) := ⟨i.toNat, by omega⟩
        have hj : j < ns.length := by omega
        have gj : (ns.map V.int)[j]? = some (.int ns[j]) := by
          rw [List.getElem?_map, List.getElem?_eq_getElem hj]
          rfl
        have p0 : 0 ≤ ns[j] := B.pos _ (List.getElem_mem hj)
        refine ⟨.ref a, rfl, a, _, _, _, rfl, rfl, hS, rfl, .ref a, rfl, a, _, _, _, rfl, rfl, hS, rfl, c, _, _, _, rfl, rfl, hC, atI_nat gj, ?_⟩
        refine ⟨.ref a, rfl, a, _, _, _, rfl, rfl, hS, rfl, _, _, rfl, rfl, .ref a, rfl, a, _, _, _, rfl, rfl, h1, rfl, ?_⟩
        have hS2 : SqL K (upd H a (HandO c (j + 1) 0 t)) a [.ref c, .int (j + 1), .int 0, .int t] := .inl (.inl upd_same)
        refine ⟨_, rfl, _, _, rfl, rfl, ⟨by decide, by decide, by decide⟩, _, _, rfl, rfl, _, rfl, ite2 (fun e => ?_) (fun e => ?_)⟩
        · refine ⟨_, rfl, .inl ⟨_, rfl, _, _, rfl, rfl, show (0 : Int) < _ by decide, .ref a, rfl, a, _, _, _, rfl, rfl, hS2, rfl, _, _, rfl, fun r r0 => .inl ⟨_, rfl, _, rfl, _, _, rfl, rfl, hm0, ?_⟩⟩⟩
          exact q _ _ (drawn_of (H0 := H) (fun _ _ => rfl) hc h2 ⟨B.len, by omega, by omega, by decide, B.t0, B.pos⟩) (Int.emod_nonneg _ (by omega)) (Int.emod_lt_of_pos _ hm0)
        · refine ⟨_, rfl, .ref a, rfl, a, _, _, _, rfl, rfl, upd_same, rfl, ?_⟩
          refine ⟨_, _, _, rfl, fun b hb => by rw [upd_ne hb, upd_ne hb], upd_same, ⟨B.len, by omega, by omega, p0, B.t0, B.pos⟩⟩
      · exact ⟨i, 0, none, rfl, fun _ _ => rfl, h1, B⟩
    · exact ⟨i, x, none, rfl, fun _ _ => rfl, h1, B⟩
    · obtain ⟨i', x', y2, rfl, hb, h1', B'⟩ := hM
      have h2' : H' c = some (.lst (ns.map V.int)) := by rw [hb c hc]; exact h2
      have hS' : SqL K H' a [.ref c, .int i', .int x', .int t] := .inl (.inl h1')
      refine ⟨.ref a, rfl, a, _, _, _, rfl, rfl, hS', rfl, _, _, rfl, rfl, _, rfl, ite2 (fun e => ?_) (fun e => ?_)⟩
      · refine ⟨.ref a, rfl, a, _, _, _, rfl, rfl, hS', rfl, _, rfl, _, rfl, _, _, rfl, rfl, wide200 hm0 hm1 _, .ref a, rfl, a, _, _, _, rfl, rfl, h1', rfl, ?_⟩
        refine ⟨_, rfl, .inl ⟨_, rfl, _, rfl, _, _, rfl, rfl, hm0, ?_⟩⟩
        exact q _ _ (drawn_of (H0 := H') hb hc h2 ⟨B.len, B'.lo, B'.hi, Int.ediv_nonneg B'.x0 (by omega), B.t0, B.pos⟩) (Int.emod_nonneg _ (by omega)) (Int.emod_lt_of_pos _ hm0)
      · refine ⟨.ref a, rfl, a, _, _, _, rfl, rfl, hS', rfl, _, _, rfl, rfl, .inl ⟨_, rfl, _, _, rfl, rfl, show (0 : Int) < _ by decide, .ref a, rfl, a, _, _, _, rfl, rfl, h1', rfl, ?_⟩⟩
        have hS3 : SqL K (upd H' a (HandO c i' x' ((t + 1) % 2147483629))) a [.ref c, .int i', .int x', .int ((t + 1) % 2147483629)] := .inl (.inl upd_same)
        refine ⟨.ref a, rfl, a, _, _, _, rfl, rfl, hS3, rfl, .ref a, rfl, a, _, _, _, rfl, rfl, hS3, rfl, _, _, rfl, fun r r0 => .inl ⟨_, rfl, _, rfl, _, _, rfl, rfl, hm0, ?_⟩⟩
        exact q _ _ (drawn_of (H0 := H') hb hc h2 ⟨B.len, B'.lo, B'.hi, B'.x0, Int.emod_nonneg _ (by decide), B.pos⟩) (Int.emod_nonneg _ (by omega)) (Int.emod_lt_of_pos _ hm0)
theorem Hand.same {H H' : Hp} {a c : Addr} (h : Hand H a c) (e : Same H H') : Hand H' a c := by
  obtain ⟨ns, i, x, t, h1, h2, B⟩ := h
  exact ⟨ns, i, x, t, e _ _ h1, e _ _ h2, B⟩
theorem Hand.upd {H : Hp} {a c l : Addr} {o : HO} (h : Hand H a c) (h1 : l ≠ a) (h2 : l ≠ c) : Hand (upd H l o) a c := by
  obtain ⟨ns, i, x, t, e1, e2, B⟩ := h
  exact ⟨ns, i, x, t, by rw [upd_ne h1.symm]; exact e1, by rw [upd_ne h2.symm]; exact e2, B⟩
theorem Hand.ne {H : Hp} {a c l : Addr} (h : Hand H a c) (n : H l = none) : l ≠ a ∧ l ≠ c := by
  obtain ⟨ns, i, x, t, e1, e2, B⟩ := h
  exact ⟨(ne_of_none e1 n).symm, (ne_of_none e2 n).symm⟩
/-- an item of a list -/
def spPick : Sp := fun vs H Q _ => ∃ (a c l : Addr) (xs : List V), vs = [.ref a, .ref l] ∧ Hand H a c ∧ l ≠ a ∧ H l = some (.lst xs) ∧ 0 < xs.length ∧ xs.length ≤ 1000 ∧ ∀ H' (j : Nat) v, Drawn H H' a c → xs[j]? = some v → Q v H'
theorem ok_pick {f fD : Addr} {fd fdD : FuncData} (F : Fun K "_law_pick" "_law_pick" s__law_pick f fd) (k_law_draw : PySem.W.keepIn K (.ref fD) = true) (G_law_draw : FnOk P w K mg base CX0 2 fD fdD ["_law_hand_here", "_law_many"] spDraw) (g_law_draw : mg "_law_draw" = some (.ref fD)) (b_law_draw : Binds K fdD ["_law_hand_here", "_law_many"] [])
    (m_len : mg "len" = none) : FnOk P w K mg base CX0 3 f fd ["_law_hand_here", "_law_things"] spPick := by
  refine F.ok sc__law_pick (fun vs H Q E h => ?_) (fun cdv A outer s H vs Q E hr h => ?_)
  · obtain ⟨a, c, l, xs, rfl, _⟩ := h
    rfl
  · obtain ⟨a, c, l, xs, rfl, hh, hla, hl, h0, h1, q⟩ := h
    have hr_law_draw := hr
    refine ⟨_, (pss_one (ps_ret (pe_ix ix_list (pv 1) (pe_call G_law_draw hr_law_draw (by rfl) g_law_draw k_law_draw b_law_draw .nil pass0 (pa_cons (pv 0) (pa_cons (pe_callB call_len_seq (by rfl) m_len boot_len (pa_cons (pv 1) pa_nil)) pa_nil))) (fun _ _ => rfl)))), ?_⟩
    have hm : ((xs.length : Nat) : Int) < 2 ^ 200 := Int.lt_of_le_of_lt (show ((xs.length : Nat) : Int) ≤ 1000 by omega) (by decide)
    refine ⟨.ref l, rfl, .ref a, rfl, .ref l, rfl, l, _, rfl, .inl (.inl (.inl hl)), a, c, _, rfl, hh, by omega, hm, fun H' r d r0 r1 => ?_⟩
    obtain ⟨j, rfl⟩ : ∃ j : Nat, r = (j : Int) := ⟨r.toNat, by omega⟩
    have hj : j < xs.length := by omega
    have e : xs[j]? = some xs[j] := List.getElem?_eq_getElem hj
    have hl' : H' l = some (.lst xs) := by rw [d.but l hla]; exact hl
    exact ⟨l, xs, _, _, rfl, rfl, .inl (.inl hl'), atI_nat e, q H' j _ d e⟩
/-- the hand of a script -/
def spHand (K : PySem.W.Frag) : Sp := fun vs H Q _ => ∃ (s : Addr) (ns : List Int), vs = [.ref s] ∧ SqL K H s (ns.map V.int) ∧ ns.length ≤ 63 ∧ ∀ H' a c, Same H H' → H a = none → H c = none → Hand H' a c → Q (.ref a) H'
theorem ok_hand {f : Addr} {fd : FuncData} (F : Fun K "_law_hand" "_law_hand" s__law_hand f fd) (m_int : mg "int" = none) (m_abs : mg "abs" = none) (m_enumerate : mg "enumerate" = none) : FnOk P w K mg base CX0 1 f fd ["_law_script"] (spHand K) := by
  refine F.ok sc__law_hand (fun vs H Q E h => ?_) (fun cdv A outer s H vs Q E hr h => ?_)
  · obtain ⟨a, ns, rfl, _⟩ := h
    rfl
  · obtain ⟨a, ns, rfl, hS, hlen, q⟩ := h
    refine ⟨_, (pss_cons (ps_set (i := 1) sc__law_hand.nd rfl (by first | exact Or.inl rfl | exact Or.inr rfl) pe_int)
 (pss_cons (ps_for PassesOwn.never rfl (pi_enum (by rfl) m_enumerate (pa_cons (pv 0) pa_nil)) (pg_tup rfl (pgs_cons (pg_name (i := 2) sc__law_hand.nd rfl (by first | exact Or.inl rfl | exact Or.inr rfl)) (pgs_cons (pg_name (i := 3) sc__law_hand.nd rfl (by first | exact Or.inl rfl | exact Or.inr rfl)) pgs_nil)))
  (pss_one (ps_set (i := 1) sc__law_hand.nd rfl (by first | exact Or.inl rfl | exact Or.inr rfl) (pe_op op_mod (pe_callTy call_int1 (by rfl) m_int boot_int (pa_cons (pe_op op_add (pe_op op_mul (pv 1) pe_int) (pe_op op_mul (pe_callTy call_int1 (by rfl) m_int boot_int (pa_cons (pv 3) pa_nil)) (pe_op op_add (pv 2) pe_int))) pa_nil)) pe_int))))
 (pss_one (ps_ret (pe_lst (pa_cons (pe_lc (own := [("_law_cell", 3)]) (g := gName 3) (tt := tYes) rfl sc__law_hand.nd (pi_list (pv 0)) (blkOk_by (own := [("_law_cell", 3)]) (N := N__law_hand) (sc := defScope s__law_hand) (by decide +kernel)) (fun _ _ _ _ _ => (pg_name (i := 3) sc__law_hand.nd rfl (by first | exact Or.inl rfl | exact Or.inr rfl))) (fun _ _ _ _ _ => pts_nil) (fun _ _ _ _ _ => (pe_callB call_abs (by rfl) m_abs boot_abs (pa_cons (pe_callTy call_int1 (by rfl) m_int boot_int (pa_cons (pv 3) pa_nil)) pa_nil)))) (pa_cons pe_int (pa_cons pe_int (pa_cons (pv 1) pa_nil))))))))), ?_⟩
    have hlen' : (ns.map V.int).length = ns.length := List.length_map ..
    refine ⟨.ref a, rfl, a, _, rfl, hS, for_it (walk_enum (xs := ns.map V.int)) (fun i σ H' => ∃ tot y2 y3, σ = [some (.ref a), some (.int tot), y2, y3] ∧ 0 ≤ tot ∧ tot < 2147483629 ∧ Same H H') ⟨0, none, none, rfl, by decide, by decide, Same.refl H⟩ (fun i σ H' _ p => ?_) (fun i v σ H' H'' hi p y => ?_) (fun σ H1 p => ?_)⟩
    · obtain ⟨tot, y2, y3, rfl, _, _, e⟩ := p
      exact e.seq hS
    · obtain ⟨tot, y2, y3, rfl, t0, t1, e⟩ := p
      obtain ⟨T, x, y, rfl, nT, rfl, ex, ey⟩ := y
      rw [hlen'] at hi
      obtain rfl : .int (i : Nat) = x := Option.some.inj ex
      obtain ⟨n, rfl⟩ : ∃ n : Int, y = .int n := by
        have ey : (ns.map V.int)[i]? = some y := ey
        rw [List.getElem?_map, List.getElem?_eq_getElem hi] at ey
        exact ⟨_, (Option.some.inj ey).symm⟩
      refine ⟨T, _, rfl, .inl (.inl upd_same), rfl, _, _, rfl, _, _, rfl, rfl, ?_⟩
      refine ⟨_, rfl, _, _, rfl, rfl, .inr ⟨by decide, by decide⟩, _, rfl, .inl ⟨_, rfl, _, rfl, _, _, rfl, rfl, _, _, rfl, rfl, .inr ⟨by omega, by omega⟩, _, _, rfl, rfl, .inl ⟨_, rfl, _, _, rfl, rfl, show (0 : Int) < _ by decide, ?_⟩⟩⟩
      refine ⟨_, _, _, rfl, Int.emod_nonneg _ (by decide), Int.emod_lt_of_pos _ (by decide), e.trans fun b z hz => ?_⟩
      rw [upd_ne (ne_of_none hz nT)]
      exact hz
    · obtain ⟨tot, y2, y3, rfl, t0, t1, e⟩ := p
      have hS1 : SqL K H1 a (ns.map V.int) := e.seq hS
      refine ⟨.ref a, rfl, a, rfl, ⟨_, hS1⟩, fun D hD => lc_list (xs := ns.map V.int) (fun i H2 => Same H1 H2 ∧ H2 D = some (.lst ((ns.take i).map fun n => .int (if n < 0 then -n else n)))) ⟨fun b z hz => ?_, upd_same⟩ (fun i H2 _ p => p.1.seq hS1) (fun i x H2 hx p => ?_) (fun H2 p => ?_)⟩
      · rw [upd_ne (ne_of_none hz hD)]
        exact hz
      · obtain ⟨e2, hd⟩ := p
        rw [List.getElem?_map] at hx
        obtain ⟨n, hn, rfl⟩ := Option.map_eq_some_iff.mp hx
        refine ⟨rfl, ?_⟩
        refine ⟨_, rfl, .inl ⟨_, rfl, _, rfl, _, hd, ?_, fun b z hz => ?_, ?_⟩⟩
        · rw [List.length_map, List.length_take]
          exact Nat.lt_of_le_of_lt (Nat.min_le_right _ _) (small1000 (by omega))
        · rw [upd_ne (ne_of_none hz hD)]
          exact e2 _ _ hz
        · rw [upd_same, List.take_add_one, hn, List.map_append]
          rfl
      · obtain ⟨e2, hd⟩ := p
        rw [hlen', List.take_length] at hd
        refine ⟨_, rfl, by show 4 ≤ sizeLine; decide, fun p hp => ?_⟩
        have npD : D ≠ p := ne_of_none hd hp
        refine q _ p D ?_ ((e.trans e2).free hp) (e.free hD) ⟨ns.map fun n => if n < 0 then -n else n, 0, 0, tot, upd_same, ?_, ?_⟩
        · exact fun b z hz => by
            rw [upd_ne (ne_of_none ((e.trans e2) _ _ hz) hp)]
            exact (e.trans e2) _ _ hz
        · rw [upd_ne npD, hd, List.map_map]
          rfl
        · refine ⟨by rw [List.length_map]; exact hlen, by decide, by omega, by decide, t0, fun n hn => ?_⟩
          obtain ⟨m, _, rfl⟩ := List.mem_map.mp hn
          split <;> omega
end
end K7
end
/-! ## P2 -/
section
open PySem PySem.Spec PyProof.Rows L2
namespace K7
abbrev N__law_lots : List Str := ["_law_cells", "_law_found", "_law_last", "_law_turn", "_law_grown", "_law_lot", "_law_cell"]
abbrev s__law_lots : Stmt := topS 33
theorem sc__law_lots : FnScope ["_law_cells", "_law_found", "_law_last", "_law_turn", "_law_grown", "_law_lot", "_law_cell"] ["_law_cells"] (defScope s__law_lots) := ⟨rfl, rfl, rfl, by decide +kernel, rfl, by decide +kernel, by decide +kernel⟩

theorem same_new {H H' : Hp} {p : Addr} {o : HO} (e : Same H H') (h : H' p = none) : Same H (upd H' p o) := fun b z hz => by
  have h2 := e _ _ hz
  rw [upd_ne (ne_of_none h2 h)]
  exact h2
def But (x : Addr) (H H' : Hp) : Prop := ∀ b o, b ≠ x → H b = some o → H' b = some o
/-! ### all lots of the cells -/
def grow1 (cells lot : List Nat) : List (List Nat) := (cells.filter fun c => lot.isEmpty || decide (lot.getLastD 0 < c)).map fun c => lot ++ [c]
def level (cells : List Nat) : Nat → List (List Nat)
  | 0 => [[]]
  | k + 1 => (level cells k).flatMap (grow1 cells)
def lotsTo (cells : List Nat) : Nat → List (List Nat)
  | 0 => [[]]
  | k + 1 => lotsTo cells k ++ level cells (k + 1)
theorem level_len : ∀ n : Fin 6, ∀ k : Fin 7, (level (List.range n.val) k.val).length ≤ 10 ∧ (lotsTo (List.range n.val) k.val).length ≤ 32 := by decide +kernel
theorem level_lot : ∀ n : Fin 6, ∀ k : Fin 7, (level (List.range n.val) k.val).all (fun l => decide (l.length ≤ 990)) = true := by decide +kernel
theorem lot_len {n t i : Nat} {lot : List Nat} (hn : n ≤ 5) (ht : t ≤ 6) (h : (level (List.range n) t)[i]? = some lot) : lot.length ≤ 990 := by
  have := List.all_eq_true.mp (level_lot ⟨n, by omega⟩ ⟨t, by omega⟩) lot (List.mem_of_getElem? h)
  exact of_decide_eq_true this
/-- tuples of cells at these places -/
inductive TAt (H : Hp) : List Addr → List (List Nat) → Prop
  | nil : TAt H [] []
  | cons {t : Addr} {l : List Nat} {ts : List Addr} {ls : List (List Nat)} (h : H t = some (.tup (l.map fun c => .int (c : Nat)))) (r : TAt H ts ls) : TAt H (t :: ts) (l :: ls)
theorem TAt.same {H H' : Hp} (e : Same H H') : ∀ {ts ls}, TAt H ts ls → TAt H' ts ls
  | _, _, .nil => .nil
  | _, _, .cons h r => .cons (e _ _ h) (r.same e)
theorem TAt.mono {H H' : Hp} (e : ∀ b xs, H b = some (.tup xs) → H' b = some (.tup xs)) : ∀ {ts ls}, TAt H ts ls → TAt H' ts ls
  | _, _, .nil => .nil
  | _, _, .cons h r => .cons (e _ _ h) (r.mono e)
theorem TAt.append {H : Hp} : ∀ {ts ls us ms}, TAt H ts ls → TAt H us ms → TAt H (ts ++ us) (ls ++ ms)
  | _, _, _, _, .nil, r => r
  | _, _, _, _, .cons h q, r => .cons h (q.append r)
theorem TAt.len {H : Hp} : ∀ {ts ls}, TAt H ts ls → ts.length = ls.length
  | _, _, .nil => rfl
  | _, _, .cons _ r => congrArg Nat.succ r.len
theorem TAt.get {H : Hp} : ∀ {ts ls} {i : Nat} {t : Addr}, TAt H ts ls → ts[i]? = some t → ∃ l, ls[i]? = some l ∧ H t = some (.tup (l.map fun c => .int (c : Nat)))
  | _, _, 0, _, .cons h r, e => by
    cases e
    exact ⟨_, rfl, h⟩
  | _, _, i + 1, _, .cons h r, e => r.get (i := i) e
def ints_ (l : List Nat) : List V := l.map fun c => .int (c : Nat)
def intD (l : List Nat) : PyData := .tuple (l.map fun c => .int (c : Nat))
theorem dp_ints {K : PySem.W.Frag} {H : Hp} : ∀ l : List Nat, DpAll K H (l.map fun c => .int (c : Nat)) (l.map fun c => PyData.int (c : Nat))
  | [] => .nil
  | x :: l => .cons (.int _) (dp_ints l)
theorem shaped_ints (l : List Nat) : SeqAt.shaped (intD l) = true := by
  have h1 : ∀ l : List Nat, PyData.canLayAll0 (l.map fun c => PyData.int (c : Nat)) = true ∧ PyData.depthAll (l.map fun c => PyData.int (c : Nat)) = 0 := fun l => by
    induction l with
    | nil => exact ⟨by simp [PyData.canLayAll0], by simp [PyData.depthAll]⟩
    | cons x r ih => exact ⟨by simp [PyData.canLayAll0, PyData.canLay0, ih.1], by simp [PyData.depthAll, PyData.depth, ih.2]⟩
  show ((PyData.canLay0 (intD l)) && decide (PyData.depth (intD l) ≤ 64)) = true
  simp [intD, PyData.canLay0, PyData.depth, (h1 l).1, (h1 l).2]
theorem eqv_empty (l : List Nat) : PyData.eqv (intD l) (.tuple []) = l.isEmpty := by
  cases l with
  | nil => simp [intD, PyData.eqv, PyData.eqvAll]
  | cons x r => simp [intD, PyData.eqv, PyData.eqvAll]
theorem last_get : ∀ (r : List Nat) (x : Nat), (x :: r)[r.length]? = some (r.getLastD x)
  | [], x => rfl
  | y :: r, x => by
    rw [List.getLastD_cons]
    exact last_get r y
theorem last_at {l : List Nat} (h : l.isEmpty = false) : atI (ints_ l) (-1) = some (.int (l.getLastD 0 : Nat)) := by
  cases l with
  | nil => cases h
  | cons x r =>
    have hl : (ints_ (x :: r)).length = r.length + 1 := by unfold ints_; rw [List.length_map]; rfl
    unfold atI
    rw [hl]
    have e : ixN (r.length + 1) (-1) = some r.length := by
      unfold ixN
      simp
      omega
    rw [e]
    show (ints_ (x :: r))[r.length]? = _
    unfold ints_
    rw [List.getElem?_map]
    have e2 : (x :: r)[r.length]? = some ((x :: r).getLastD 0) := by
      rw [List.getLastD_cons]
      exact last_get r x
    rw [e2]
    rfl
section
variable {P : Program} {w : World} {K : PySem.W.Frag} {mg : Str → Option Value} {base : Heap}
def spLots : Sp := fun vs H Q _ => ∃ (r : Addr) (n : Nat), vs = [.ref r] ∧ n ≤ 5 ∧ H r = some (.lst (ints_ (List.range n))) ∧ ∀ H' q ts, Same H H' → H q = none → H' q = some (.lst (ts.map V.ref)) → TAt H' ts (lotsTo (List.range n) n) → Q (.ref q) H'
theorem ok_lots {f : Addr} {fd : FuncData} (F : Fun K "_law_lots" "_law_lots" s__law_lots f fd) (m_range : mg "range" = none) (m_len : mg "len" = none) (m_list : mg "list" = none) : FnOk P w K mg base CX0 1 f fd ["_law_cells"] spLots := by
  refine F.ok sc__law_lots (fun vs H Q E h => ?_) (fun cdv A outer s H vs Q E hr h => ?_)
  · obtain ⟨r, n, rfl, _⟩ := h
    rfl
  · obtain ⟨r, n, rfl, hn, hr0, q⟩ := h
    refine ⟨_, (pss_cons (ps_par (by rfl) sc__law_lots.nd (i := 1) (j := 2) rfl rfl (by decide) rfl rfl (pa_cons (pe_lst (pa_cons (pe_tup pa_nil) pa_nil)) (pa_cons (pe_lst (pa_cons (pe_tup pa_nil) pa_nil)) pa_nil)) (by rfl))
 (pss_cons (ps_for PassesOwn.never rfl (pi_range1 rfl m_range (pa_cons (pe_callB call_len_seq (by rfl) m_len boot_len (pa_cons (pv 0) pa_nil)) pa_nil)) (pg_name (i := 3) sc__law_lots.nd rfl (by first | exact Or.inl rfl | exact Or.inr rfl))
  (pss_cons (ps_set (i := 4) sc__law_lots.nd rfl (by first | exact Or.inl rfl | exact Or.inr rfl) (pe_lst pa_nil))
 (pss_cons (ps_for PassesOwn.never rfl (pi_list (pv 2)) (pg_name (i := 5) sc__law_lots.nd rfl (by first | exact Or.inl rfl | exact Or.inr rfl))
  (pss_one (ps_for PassesOwn.never rfl (pi_list (pv 0)) (pg_name (i := 6) sc__law_lots.nd rfl (by first | exact Or.inl rfl | exact Or.inr rfl))
  (pss_one (ps_if (pw_or (pt_cmpR (op_eqD hr.units) (pv 5) (pe_tup pa_nil) (nomark _)) (pw_or1 (pt_cmpR op_gt (pv 6) (pe_ix ix_tup (pv 5) (pe_un un_neg pe_int) (fun _ _ => rfl)) (nomark _)))).pt
  (pss_one (ps_expr (pe_bm PySem.F.plainAttrs_list PySem.F.slot_list_append PySem.F.type_list_append mt_append (pv 4) (pa_cons (pe_op op_catA (pv 5) (pe_tup (pa_cons (pv 6) pa_nil))) pa_nil))))
  pss_nil)))))
 (pss_cons (ps_expr (pe_bm PySem.F.plainAttrs_list PySem.F.slot_list_extend PySem.F.type_list_extend mt_extend (pv 1) (pa_cons (pv 4) pa_nil)))
 (pss_one (ps_set (i := 2) sc__law_lots.nd rfl (by first | exact Or.inl rfl | exact Or.inr rfl) (pe_callTy call_list_of (by rfl) m_list boot_list (pa_cons (pv 4) pa_nil))))))))
 (pss_one (ps_ret (pv 1))))), ?_⟩
    have hlen : (ints_ (List.range n)).length = n := by unfold ints_; rw [List.length_map, List.length_range]
    refine ⟨by show 0 ≤ sizeLine; decide, fun e0 ne0 => ⟨by show 1 ≤ sizeLine; decide, fun F0 nF0 => ⟨by show 0 ≤ sizeLine; decide, fun e1 ne1 => ⟨by show 1 ≤ sizeLine; decide, fun L0 nL0 => ?_⟩⟩⟩⟩
    have s1 : Same H (upd H e0 (.tup [])) := same_new (Same.refl H) ne0
    have s2 : Same (upd H e0 (.tup [])) (upd (upd H e0 (.tup [])) F0 (.lst [.ref e0])) := same_new (Same.refl _) nF0
    generalize hA : upd (upd H e0 (.tup [])) F0 (.lst [.ref e0]) = HA at s2 ne1 nL0 ⊢
    have hF : HA F0 = some (.lst [.ref e0]) := by rw [← hA]; exact upd_same
    have he0 : HA e0 = some (.tup []) := s2 _ _ upd_same
    have s3 : Same HA (upd HA e1 (.tup [])) := same_new (Same.refl _) ne1
    have s4 : Same (upd HA e1 (.tup [])) (upd (upd HA e1 (.tup [])) L0 (.lst [.ref e1])) := same_new (Same.refl _) nL0
    have hL : upd (upd HA e1 (.tup [])) L0 (.lst [.ref e1]) L0 = some (.lst [.ref e1]) := upd_same
    have he1 := s4 _ _ (show upd HA e1 (.tup []) e1 = some (.tup []) from upd_same)
    have hFL : F0 ≠ L0 := ne_of_none (s3 _ _ hF) nL0
    have hF2 := s4 _ _ (s3 _ _ hF)
    have he02 := s4 _ _ (s3 _ _ he0)
    have sB := s1.trans (s2.trans (s3.trans s4))
    generalize upd (upd HA e1 (.tup [])) L0 (.lst [.ref e1]) = HB at hL he1 hF2 he02 sB ⊢
    refine ⟨_, _, rfl, ?_⟩
    have hFn : H F0 = none := s1.free nF0
    refine ⟨_, rfl, r, _, rfl, .inl (.inl (.inl (sB _ _ hr0))), _, rfl, by omega, by omega, for_range (fun t σ H' => t ≤ n ∧ ∃ La fs las y3 y4 y5 y6, σ = [some (.ref r), some (.ref F0), some (.ref La), y3, y4, y5, y6] ∧ Same H H' ∧ H' F0 = some (.lst (fs.map V.ref)) ∧ H' La = some (.lst (las.map V.ref)) ∧ La ≠ F0 ∧ TAt H' fs (lotsTo (List.range n) t) ∧ TAt H' las (level (List.range n) t)) ⟨Nat.zero_le _, L0, [e0], [e1], none, none, none, none, rfl, sB, hF2, hL, hFL.symm, .cons he02 .nil, .cons he1 .nil⟩ (fun t σ H' ht pv => ?_) (fun σ H' pv => ?_)⟩
    · obtain ⟨_, La, fs, las, y3, y4, y5, y6, rfl, e, hF', hLa, nLF, tF, tL⟩ := pv
      rw [hlen] at ht
      have ht : t < n := by simpa using ht
      refine ⟨by show 0 ≤ sizeLine; decide, fun G nG => ?_⟩
      have gF : F0 ≠ G := ne_of_none hF' nG
      have gL : La ≠ G := ne_of_none hLa nG
      have eG : Same H' (upd H' G (.lst [])) := same_new (Same.refl H') nG
      obtain ⟨lv, lt5⟩ := level_len ⟨n, by omega⟩ ⟨t, by omega⟩
      obtain ⟨lv2, lt6⟩ := level_len ⟨n, by omega⟩ ⟨t + 1, by omega⟩
      have lv : (level (List.range n) t).length ≤ 10 := lv
      refine ⟨_, rfl, La, rfl, ⟨_, .inl (.inl (eG _ _ hLa))⟩, for_list (xs := las.map V.ref) (fun i σ H2 => ∃ gs y5 y6, σ = [some (.ref r), some (.ref F0), some (.ref La), some (.int (0 + (t : Nat))), some (.ref G), y5, y6] ∧ But G H' H2 ∧ H2 G = some (.lst (gs.map V.ref)) ∧ TAt H2 gs (((level (List.range n) t).take i).flatMap (grow1 (List.range n))) ∧ gs.length ≤ 5 * i)
        ⟨[], y5, y6, rfl, fun b o hb hz => by rw [upd_ne hb]; exact hz, upd_same, .nil, Nat.le_refl _⟩ (fun i σ H2 _ pv => ?_) (fun i x σ H2 hx pv => ?_) (fun σ H2 pv => ?_)⟩
      · obtain ⟨gs, y5, y6, rfl, bt, hG, tG, hg⟩ := pv
        exact .inl (.inl (bt _ _ gL hLa))
      · obtain ⟨gs, y5, y6, rfl, bt, hG, tG, hg⟩ := pv
        rw [List.getElem?_map] at hx
        obtain ⟨ti, hti, rfl⟩ := Option.map_eq_some_iff.mp hx
        obtain ⟨lot, elot, hlot⟩ := tL.get hti
        have hi10 : i < 10 := by
          have := (List.getElem?_eq_some_iff.mp elot).1
          omega
        have tG' : ∀ {b : Addr} {xs : List V}, H' b = some (.tup xs) → H2 b = some (.tup xs) := fun {b xs} hb => bt b _ (ne_of_none hb nG) hb
        have hr2 : H2 r = some (.lst (ints_ (List.range n))) := bt _ _ (ne_of_none (e _ _ hr0) nG) (e _ _ hr0)
        have nrG : r ≠ G := ne_of_none (e _ _ hr0) nG
        refine ⟨_, rfl, r, rfl, ⟨_, .inl (.inl hr2)⟩, for_list (xs := ints_ (List.range n)) (fun j σ H3 => ∃ gs' y6, σ = [some (.ref r), some (.ref F0), some (.ref La), some (.int (0 + (t : Nat))), some (.ref G), some (.ref ti), y6] ∧ But G H' H3 ∧ H3 G = some (.lst (gs'.map V.ref)) ∧ TAt H3 gs' (((level (List.range n) t).take i).flatMap (grow1 (List.range n)) ++ grow1 ((List.range n).take j) lot) ∧ gs'.length ≤ 5 * i + j)
          ⟨gs, y6, rfl, bt, hG, by simpa [grow1] using tG, by omega⟩ (fun j σ H3 _ pv => ?_) (fun j x σ H3 hx pv => ?_) (fun σ H3 pv => ?_)⟩
        · obtain ⟨gs', y6, rfl, bt3, hG3, tG3, hg3⟩ := pv
          exact .inl (.inl (bt3 _ _ nrG (e _ _ hr0)))
        · obtain ⟨gs', y6, rfl, bt3, hG3, tG3, hg3⟩ := pv
          unfold ints_ at hx
          rw [List.getElem?_map] at hx
          obtain ⟨c, hc, rfl⟩ := Option.map_eq_some_iff.mp hx
          have hj5 : j < 5 := by
            have := (List.getElem?_eq_some_iff.mp hc).1
            rw [List.length_range] at this
            omega
          have hlot3 : H3 ti = some (.tup (lot.map fun c => .int (c : Nat))) := bt3 ti _ (ne_of_none hlot nG) hlot
          have hll : lot.length ≤ 990 := lot_len hn (by omega) elot
          have g1 : grow1 ((List.range n).take (j + 1)) lot = grow1 ((List.range n).take j) lot ++ (if (lot.isEmpty || decide (lot.getLastD 0 < c)) = true then [lot ++ [c]] else []) := by
            unfold grow1
            rw [List.take_add_one, hc, List.filter_append, List.map_append]
            congr 1
            by_cases z : (lot.isEmpty || decide (lot.getLastD 0 < c)) = true
            · rw [if_pos z]
              show List.map _ (List.filter _ [c]) = _
              rw [List.filter_cons, if_pos z]
              rfl
            · rw [if_neg z]
              show List.map _ (List.filter _ [c]) = _
              rw [List.filter_cons, if_neg z]
              rfl
          have endOk : ∀ (Hf : Hp) (v : Addr), Same H3 Hf → Hf v = some (.tup ((lot ++ [c]).map fun c => .int (c : Nat))) → (lot.isEmpty || decide (lot.getLastD 0 < c)) = true →
              But G H' (upd Hf G (.lst (gs'.map V.ref ++ [.ref v]))) ∧ upd Hf G (.lst (gs'.map V.ref ++ [.ref v])) G = some (.lst ((gs' ++ [v]).map V.ref)) ∧
                TAt (upd Hf G (.lst (gs'.map V.ref ++ [.ref v]))) (gs' ++ [v]) (((level (List.range n) t).take i).flatMap (grow1 (List.range n)) ++ grow1 ((List.range n).take (j + 1)) lot) ∧ (gs' ++ [v]).length ≤ 5 * i + (j + 1) := by
            intro Hf v sF hv hcond
            have up : ∀ b xs, Hf b = some (.tup xs) → upd Hf G (.lst (gs'.map V.ref ++ [.ref v])) b = some (.tup xs) := fun b xs hb => by
              have n1 : b ≠ G := fun z => by rw [z, sF _ _ hG3] at hb; cases hb
              rw [upd_ne n1]; exact hb
            refine ⟨fun b o nb hb => by rw [upd_ne nb]; exact sF _ _ (bt3 b o nb hb), by rw [upd_same, List.map_append]; rfl, ?_, by rw [List.length_append, List.length_singleton]; omega⟩
            rw [g1, if_pos hcond, ← List.append_assoc]
            exact ((tG3.same sF).mono up).append (.cons (up _ _ hv) .nil)
          refine ⟨_, rfl, by show 0 ≤ sizeLine; decide, fun em nem => ?_⟩
          have sX := same_new (o := .tup []) (Same.refl H3) nem
          refine ⟨_, _, .tup (.inl (.inl (sX _ _ hlot3))) (dp_ints lot), .tup (.inl (.inl upd_same)) .nil, shaped_ints lot, shaped_ints [], ?_⟩
          rw [show PyData.eqv (.tuple (lot.map fun c => PyData.int (c : Nat))) (.tuple []) = lot.isEmpty from eqv_empty lot]
          refine ⟨_, rfl, ite2 (fun q1 => ?_) (fun q1 => ?_)⟩
          · have hcond : (lot.isEmpty || decide (lot.getLastD 0 < c)) = true := by rw [q1]; rfl
            have hG4 := sX _ _ hG3
            refine ⟨_, rfl, .inl ⟨rfl, _, .inl (.inl hG4)⟩, _, rfl, _, rfl, by show 1 ≤ sizeLine; decide, fun u nu => ?_⟩
            have sU := sX.trans (same_new (o := .tup [.int (c : Nat)]) (Same.refl _) nu)
            refine ⟨ti, u, _, _, rfl, rfl, .inl (.inl (sU _ _ hlot3)), .inl (.inl upd_same), ?_, fun z => ?_, (fun _ z2 => nomatch z2), fun z1 _ p np => ?_⟩
            · rw [List.length_map]
              exact Nat.le_trans (show lot.length + 1 ≤ 1000 by omega) (by decide)
            · have lot0 : lot = [] := by simpa using z
              obtain ⟨k1, k2, k3, k4⟩ := endOk _ u sU (by rw [upd_same, lot0]; rfl) hcond
              exact ⟨G, _, _, rfl, rfl, sU _ _ hG3, by rw [List.length_map]; exact small1000 (by omega), gs' ++ [u], _, rfl, k1, k2, k3, k4⟩
            · obtain ⟨k1, k2, k3, k4⟩ := endOk _ p (sU.trans (same_new (Same.refl _) np)) (by rw [upd_same, List.map_append]) hcond
              exact ⟨G, _, _, rfl, rfl, (sU.trans (same_new (Same.refl _) np)) _ _ hG3, by rw [List.length_map]; exact small1000 (by omega), gs' ++ [p], _, rfl, k1, k2, k3, k4⟩
          · have q1' : lot.isEmpty = false := Bool.eq_false_iff.mpr q1
            refine ⟨_, rfl, _, rfl, _, rfl, ti, _, _, .int (lot.getLastD 0 : Nat), rfl, rfl, .inl (.inl (sX _ _ hlot3)), last_at q1', _, _, rfl, rfl, _, rfl, ite2 (fun q2 => ?_) (fun q2 => ?_)⟩
            · have hcond : (lot.isEmpty || decide (lot.getLastD 0 < c)) = true := by
                rw [q1', Bool.false_or]
                have := of_decide_eq_true q2
                exact decide_eq_true (by omega)
              have hG4 := sX _ _ hG3
              refine ⟨_, rfl, .inl ⟨rfl, _, .inl (.inl hG4)⟩, _, rfl, _, rfl, by show 1 ≤ sizeLine; decide, fun u nu => ?_⟩
              have sU := sX.trans (same_new (o := .tup [.int (c : Nat)]) (Same.refl _) nu)
              refine ⟨ti, u, _, _, rfl, rfl, .inl (.inl (sU _ _ hlot3)), .inl (.inl upd_same), ?_, fun z => ?_, (fun _ z2 => nomatch z2), fun z1 _ p np => ?_⟩
              · rw [List.length_map]
                exact Nat.le_trans (show lot.length + 1 ≤ 1000 by omega) (by decide)
              · have lot0 : lot = [] := by simpa using z
                obtain ⟨k1, k2, k3, k4⟩ := endOk _ u sU (by rw [upd_same, lot0]; rfl) hcond
                exact ⟨G, _, _, rfl, rfl, sU _ _ hG3, by rw [List.length_map]; exact small1000 (by omega), gs' ++ [u], _, rfl, k1, k2, k3, k4⟩
              · obtain ⟨k1, k2, k3, k4⟩ := endOk _ p (sU.trans (same_new (Same.refl _) np)) (by rw [upd_same, List.map_append]) hcond
                exact ⟨G, _, _, rfl, rfl, (sU.trans (same_new (Same.refl _) np)) _ _ hG3, by rw [List.length_map]; exact small1000 (by omega), gs' ++ [p], _, rfl, k1, k2, k3, k4⟩
            · have hcond : ¬ (lot.isEmpty || decide (lot.getLastD 0 < c)) = true := by
                rw [q1', Bool.false_or]
                intro z
                have z' := of_decide_eq_true z
                exact q2 (decide_eq_true (by omega))
              refine ⟨gs', _, rfl, fun b o nb hb => sX _ _ (bt3 b o nb hb), sX _ _ hG3, ?_, by omega⟩
              rw [g1, if_neg hcond, List.append_nil]
              exact tG3.same sX
        · obtain ⟨gs', y6, rfl, bt3, hG3, tG3, hg3⟩ := pv
          refine ⟨gs', _, _, rfl, bt3, hG3, ?_, ?_⟩
          · rw [hlen, show (List.range n).take n = List.range n from List.take_of_length_le (by rw [List.length_range]; exact Nat.le_refl n)] at tG3
            rw [List.take_add_one, elot, List.flatMap_append]
            simpa using tG3
          · rw [hlen] at hg3
            omega
      · obtain ⟨gs, y5, y6, rfl, bt, hG, tG, hg⟩ := pv
        rw [List.length_map] at tG hg
        rw [tL.len, List.take_length] at tG
        have hF3 := bt _ _ gF hF'
        have lfs : fs.length ≤ 32 := by rw [tF.len]; exact (level_len ⟨n, by omega⟩ ⟨t, by omega⟩).2
        have lgs : gs.length ≤ 10 := by rw [tG.len]; exact lv2
        refine ⟨_, rfl, .inl ⟨rfl, _, .inl (.inl hF3)⟩, _, rfl, F0, G, _, _, rfl, rfl, hF3, hG, ?_, ?_⟩
        · rw [List.length_map, List.length_map]
          exact Nat.le_trans (show fs.length + gs.length ≤ 42 by omega) (by decide)
        have hG4 : upd H2 F0 (.lst (fs.map V.ref ++ gs.map V.ref)) G = some (.lst (gs.map V.ref)) := by rw [upd_ne gF.symm]; exact hG
        refine ⟨_, rfl, G, _, rfl, .inl (.inl (.inl hG4)), fun L2 nL2 => ?_⟩
        have hF4 : upd H2 F0 (.lst (fs.map V.ref ++ gs.map V.ref)) F0 = some (.lst ((fs ++ gs).map V.ref)) := by rw [upd_same, List.map_append]
        have nL2F : L2 ≠ F0 := fun z => by rw [z, hF4] at nL2; cases nL2
        have up : ∀ b xs, H2 b = some (.tup xs) → upd (upd H2 F0 (.lst (fs.map V.ref ++ gs.map V.ref))) L2 (.lst (gs.map V.ref)) b = some (.tup xs) := fun b xs hb => by
          have n1 : b ≠ F0 := fun z => by rw [z, hF3] at hb; cases hb
          have h1 : upd H2 F0 (.lst (fs.map V.ref ++ gs.map V.ref)) b = some (.tup xs) := by rw [upd_ne n1]; exact hb
          rw [upd_ne (ne_of_none h1 nL2)]
          exact h1
        have tF' : TAt H2 fs (lotsTo (List.range n) t) := tF.mono fun b xs hb => bt b _ (ne_of_none hb nG) hb
        refine ⟨by omega, L2, fs ++ gs, gs, _, _, _, _, rfl, fun b o hb => ?_, by rw [upd_ne nL2F.symm]; exact hF4, upd_same, nL2F, (tF'.mono up).append (tG.mono up), tG.mono up⟩
        have n0 : b ≠ F0 := ne_of_none hb hFn
        have h1 := e _ _ hb
        have h2 := bt _ _ (ne_of_none h1 nG) h1
        have h3 : upd H2 F0 (.lst (fs.map V.ref ++ gs.map V.ref)) b = some o := by rw [upd_ne n0]; exact h2
        rw [upd_ne (ne_of_none h3 nL2)]
        exact h3
    · obtain ⟨_, La, fs, las, y3, y4, y5, y6, rfl, e, hF', hLa, nLF, tF, tL⟩ := pv
      rw [hlen] at tF
      exact ⟨_, rfl, q H' F0 fs e hFn hF' (by simpa using tF)⟩
end
end K7
end
/-! ## KL -/
section
/-! ## pure facts about drawn lands (no program in them) -/
namespace KL
/-- every set that holds cell 0 and is not left over any couple holds all cells -/
def Conn (n : Nat) (es : List (Nat × Nat)) : Prop := ∀ S : Nat → Bool, S 0 = true → (∀ e ∈ es, S e.1 = S e.2) → ∀ c, c < n → S c = true
theorem erase_perm {α : Type} : ∀ (l : List α) (j : Nat) (h : j < l.length), (l[j] :: l.eraseIdx j).Perm l
  | x :: l, 0, _ => List.Perm.refl _
  | x :: l, j + 1, h => (List.Perm.swap x (l[j]'(Nat.lt_of_succ_lt_succ h)) (l.eraseIdx j)).trans (List.Perm.cons x (erase_perm l j (Nat.lt_of_succ_lt_succ h)))
/-- one item drawn out of what is left -/
theorem pop_perm {names left : List Nat} {j : Nat} (h : j < left.length) : ((names ++ [left[j]]) ++ left.eraseIdx j).Perm (names ++ left) := by
  rw [List.append_assoc]
  refine List.Perm.append_left names ?_
  exact erase_perm left j h
def couple (names : List Nat) (a b : Nat) : Nat × Nat := (min (names.getD a 0) (names.getD b 0), max (names.getD a 0) (names.getD b 0))
theorem couple_mem {names : List Nat} {n : Nat} (hp : names.Perm (List.range n)) {a : Nat} (ha : a < n) : names.getD a 0 < n := by
  have hl : names.length = n := by rw [hp.length_eq, List.length_range]
  have e : names.getD a 0 = names[a]'(by omega) := by
    rw [List.getD_eq_getElem?_getD, List.getElem?_eq_getElem (by omega)]
    rfl
  rw [e]
  exact List.mem_range.mp (hp.mem_iff.mp (List.getElem_mem _))
/-- a tree under drawn names hangs together -/
theorem conn_tree {n : Nat} {names : List Nat} (hp : names.Perm (List.range n)) {es : List (Nat × Nat)} (h : ∀ k, 0 < k → k < n → ∃ d, d < k ∧ couple names k d ∈ es) : Conn n es := by
  intro S h0 hS c hc
  have hl : names.length = n := by rw [hp.length_eq, List.length_range]
  have step : ∀ k d, couple names k d ∈ es → S (names.getD k 0) = S (names.getD d 0) := by
    intro k d m
    have e := hS _ m
    unfold couple at e
    simp only at e
    by_cases q : names.getD k 0 ≤ names.getD d 0
    · rw [Nat.min_eq_left q, Nat.max_eq_right q] at e
      exact e
    · rw [Nat.min_eq_right (by omega), Nat.max_eq_left (by omega)] at e
      exact e.symm
  have all : ∀ k, k < n → S (names.getD k 0) = S (names.getD 0 0) := by
    intro k
    induction k using Nat.strongRecOn with
    | _ k ih =>
      intro hk
      by_cases z : k = 0
      · rw [z]
      · obtain ⟨d, hd, m⟩ := h k (by omega) hk
        rw [step k d m]
        exact ih d hd (by omega)
  have at_ : ∀ x, x < n → ∃ k, k < n ∧ names.getD k 0 = x := by
    intro x hx
    have m : x ∈ names := hp.mem_iff.mpr (List.mem_range.mpr hx)
    obtain ⟨k, hk, e⟩ := List.mem_iff_getElem.mp m
    refine ⟨k, by omega, ?_⟩
    rw [List.getD_eq_getElem?_getD, List.getElem?_eq_getElem hk, e]
    rfl
  obtain ⟨k0, hk0, e0⟩ := at_ 0 (by omega)
  obtain ⟨k, hk, e⟩ := at_ c hc
  have r0 := all k0 hk0
  rw [e0, h0] at r0
  rw [← e, all k hk, ← r0]
/-- a list of cells that is closed under the couples and holds cell 0 holds all cells -/
theorem conn_closed {n : Nat} {es : List (Nat × Nat)} (h : Conn n es) {found : List Nat} (h0 : 0 ∈ found) (hc : ∀ a b, ((a, b) ∈ es ∨ (b, a) ∈ es) → a ∈ found → b ∈ found) : ∀ c, c < n → c ∈ found := by
  intro c hc'
  have := h (fun x => decide (x ∈ found)) (by simpa using h0) (fun e he => by
    have e1 : e.1 ∈ found ↔ e.2 ∈ found := ⟨fun q => hc e.1 e.2 (.inl he) q, fun q => hc e.2 e.1 (.inr he) q⟩
    exact decide_eq_decide.mpr e1) c hc'
  simpa using this
/-- as many as there are cells, none twice: all cells -/
theorem all_len {n : Nat} {found : List Nat} (hn : found.Nodup) (hb : ∀ c ∈ found, c < n) (ha : ∀ c, c < n → c ∈ found) : found.length = n := by
  have hp : found.Perm (List.range n) := by
    rw [List.perm_ext_iff_of_nodup hn List.nodup_range]
    intro a
    exact ⟨fun q => List.mem_range.mpr (hb a q), fun q => ha a (List.mem_range.mp q)⟩
  rw [hp.length_eq, List.length_range]
end KL
namespace KL
theorem couple_inj {names : List Nat} {n : Nat} (hp : names.Perm (List.range n)) {a b a' b' : Nat} (h1 : b < a) (h2 : a < n) (h1' : b' < a') (h2' : a' < n) (e : couple names a b = couple names a' b') : (a, b) = (a', b') := by
  have hl : names.length = n := by rw [hp.length_eq, List.length_range]
  have nd : names.Nodup := hp.nodup_iff.mpr List.nodup_range
  have inj : ∀ x y, x < n → y < n → names.getD x 0 = names.getD y 0 → x = y := by
    intro x y hx hy q
    rw [List.getD_eq_getElem?_getD, List.getD_eq_getElem?_getD, List.getElem?_eq_getElem (by omega), List.getElem?_eq_getElem (by omega)] at q
    exact (List.getElem_inj nd).mp q
  have ne : ∀ x y, x < n → y < n → x ≠ y → names.getD x 0 ≠ names.getD y 0 := fun x y hx hy q z => q (inj x y hx hy z)
  unfold couple at e
  injection e with e1 e2
  have q1 := ne a b h2 (by omega) (by omega)
  have q2 := ne a' b' h2' (by omega) (by omega)
  by_cases c1 : names.getD a 0 ≤ names.getD b 0
  · rw [Nat.min_eq_left c1] at e1
    rw [Nat.max_eq_right c1] at e2
    by_cases c2 : names.getD a' 0 ≤ names.getD b' 0
    · rw [Nat.min_eq_left c2] at e1
      rw [Nat.max_eq_right c2] at e2
      rw [inj a a' h2 h2' e1, inj b b' (by omega) (by omega) e2]
    · rw [Nat.min_eq_right (by omega)] at e1
      rw [Nat.max_eq_left (by omega)] at e2
      have r1 := inj a b' h2 (by omega) e1
      have r2 := inj b a' (by omega) h2' e2
      omega
  · rw [Nat.min_eq_right (by omega)] at e1
    rw [Nat.max_eq_left (by omega)] at e2
    by_cases c2 : names.getD a' 0 ≤ names.getD b' 0
    · rw [Nat.min_eq_left c2] at e1
      rw [Nat.max_eq_right c2] at e2
      have r1 := inj b a' (by omega) h2' e1
      have r2 := inj a b' h2 (by omega) e2
      omega
    · rw [Nat.min_eq_right (by omega)] at e1
      rw [Nat.max_eq_left (by omega)] at e2
      rw [inj a a' h2 h2' e2, inj b b' (by omega) (by omega) e1]
end KL
end
/-! ## ER -/
section
namespace K7E
open PySem PySem.Spec PyProof.Rows L2
theorem cr_range1 {X : Cx} : CallR X (.type "range") (fun vs H Q => ∃ j, vs = [V.int j] ∧ ∀ p, H p = none → Q (.ref p) (upd H p (.rng 0 j))) := by
  intro pins s σ H vs us Q I r h
  obtain ⟨j, rfl, q⟩ := h
  obtain ⟨u1, rfl, t, rfl⟩ := r.one
  refine call_range_1 ⟨.ref s.heap.objs.size, upd H s.heap.objs.size (.rng 0 j), I.laid (t' := s.toks + 1 + 1) (fun b o e => Heap.get?_push_of_some _ e) (Nat.le_refl _) ?_, rfl, q _ (I.hok.fresh (Nat.le_refl _))⟩
  exact ⟨s.toks, t, s.toks + 1, Heap.get?_push_size _ rfl⟩
def upTo (n : Nat) : List V := (List.range n).map fun i => .int (i : Nat)
theorem vals_upTo : ∀ (n : Nat) (us : List Value), us.length = n → (∀ (j : Nat) v, us[j]? = some v → ∃ t, v = .int (j : Nat) t) → Vals (upTo n) us := by
  intro n
  induction n with
  | zero => intro us h _; cases us with | nil => exact .nil | cons => cases h
  | succ n ih =>
    intro us h hv
    have e : us = us.take n ++ [us[n]'(by omega)] := by
      have := List.take_append_getElem (l := us) (i := n) (by omega)
      rw [this, List.take_of_length_le (by omega)]
    have e2 : upTo (n + 1) = upTo n ++ [.int (n : Nat)] := by
      unfold upTo
      rw [List.range_succ, List.map_append]
      rfl
    rw [e, e2]
    refine (ih _ (by rw [List.length_take]; omega) fun j v hj => ?_).append (.cons ?_ .nil)
    · rw [List.getElem?_take] at hj
      split at hj
      · exact hv j v hj
      · cases hj
    · exact hv n _ (List.getElem?_eq_getElem (by omega))
theorem small_all : ∀ k : Fin 1001, Builtin.Range.small 0 (k.val : Int) 1 = true := by decide +kernel
theorem cr_list_rng {X : Cx} (hc : X.calm = true) : CallR X (.type "list") (fun vs H Q => ∃ (r : Addr) (n : Nat), vs = [V.ref r] ∧ H r = some (.rng 0 n) ∧ n ≤ 1000 ∧ ∀ l, H l = none → Q (.ref l) (upd H l (.lst (upTo n)))) := by
  intro pins s σ H vs us Q I rv h
  obtain ⟨r, n, rfl, hr, hn, q⟩ := h
  obtain ⟨u, rfl, ru⟩ := rv.one
  cases ru
  obtain ⟨t, u, v, hg⟩ := I.hok r _ hr
  refine call_list_range (n := n) (I.ok.hd hc) (show IsRange s.heap r 0 n 1 t u v from hg) ?_ ?_ ?_ fun h' tk acc' c' hk hl hi => ?_
  · have h1 : (0 : Int) ≤ n := by omega
    have h2 : (n : Int) ≤ 1000 := by omega
    exact small_all ⟨n, by omega⟩
  · show (if (0 : Int) < (n : Int) then ((n : Int) - 0 - 1) / 1 + 1 else 0) = (n : Int)
    split <;> omega
  · exact Nat.le_trans hn (by decide)
  · refine ⟨.ref s.heap.objs.size, upd H s.heap.objs.size (.lst (upTo n)), I.laid (t' := tk) hk (Nat.le_refl _) ⟨?_, acc'.toList, c', vals_upTo n _ ?_ fun j w hj => ?_, ?_⟩, rfl, q _ (I.hok.fresh (Nat.le_refl _))⟩
    · unfold upTo; rw [List.length_map, List.length_range]; exact Nat.le_trans hn (by decide)
    · simpa using hi.1
    · obtain ⟨t', e⟩ := hi.2 j w (by simpa using hj)
      exact ⟨t', by rw [e]; simp⟩
    · simpa using hl
end K7E
end
/-! ## P3 -/
section
open PySem PySem.Spec PyProof.Rows L2
namespace K7L
theorem hu65 {k : Nat} {A : Around} (hr : Room k A) : A.units + 65 < cLine := by have := hr.un; omega
end K7L
namespace K7
abbrev N__law_land : List Str := ["_law_hand_here", "_law_n", "_law_names", "_law_left", "_law_k", "_law_couples", "_law_high", "_law_low", "_law_rows", "_law_a", "_law_b", "_law_lots_here", "_law_lot"]
abbrev s__law_land : Stmt := topS 34
theorem sc__law_land : FnScope ["_law_hand_here", "_law_n", "_law_names", "_law_left", "_law_k", "_law_couples", "_law_high", "_law_low", "_law_rows", "_law_a", "_law_b", "_law_lots_here", "_law_lot"] ["_law_hand_here", "_law_n"] (defScope s__law_land) := ⟨rfl, rfl, rfl, by decide +kernel, rfl, by decide +kernel, by decide +kernel⟩
/-! ### what stays -/
def notHand : List V → Bool
  | [.ref _, .int _, .int _, .int _] => false
  | _ => true
theorem notHand_strs : ∀ ss : List Str, notHand (ss.map V.str) = true
  | [] => rfl
  | [_] => rfl
  | [_, _] => rfl
  | [_, _, _] => rfl
  | [_, _, _, _] => rfl
  | _ :: _ :: _ :: _ :: _ :: _ => rfl
theorem notHand_len : ∀ xs : List V, xs.length ≠ 4 → notHand xs = true
  | [], _ => rfl
  | [_], _ => by unfold notHand; split <;> first | rfl | (rename_i h; cases h)
  | [_, _], _ => by unfold notHand; split <;> first | rfl | (rename_i h; cases h)
  | [_, _, _], _ => by unfold notHand; split <;> first | rfl | (rename_i h; cases h)
  | [_, _, _, _], h => absurd rfl h
  | _ :: _ :: _ :: _ :: _ :: _, _ => by unfold notHand; split <;> first | rfl | (rename_i h; cases h)
/-- all but the hand at h is as it was, and the hand is a hand -/
structure Stay (h c : Addr) (H H' : Hp) : Prop where
  but : But h H H'
  hand0 : Hand H h c
  hand : Hand H' h c
theorem Stay.of_same {h c : Addr} {H H' : Hp} (hh : Hand H h c) (e : Same H H') : Stay h c H H' := ⟨fun b o _ z => e b o z, hh, hh.same e⟩
theorem Stay.of_drawn {h c : Addr} {H H' : Hp} (hh : Hand H h c) (d : Drawn H H' h c) : Stay h c H H' := ⟨fun b o nb z => by rw [d.but b nb]; exact z, hh, d.hand⟩
theorem Stay.trans {h c : Addr} {H H' H'' : Hp} (x : Stay h c H H') (y : Stay h c H' H'') : Stay h c H H'' := ⟨fun b o nb z => y.but b o nb (x.but b o nb z), x.hand0, y.hand⟩
theorem Stay.same {h c : Addr} {H H' H'' : Hp} (x : Stay h c H H') (e : Same H' H'') : Stay h c H H'' := x.trans (.of_same x.hand e)
theorem Stay.drawn {h c : Addr} {H H' H'' : Hp} (x : Stay h c H H') (e : Drawn H' H'' h c) : Stay h c H H'' := x.trans (.of_drawn x.hand e)
theorem Hand.nel {h c b : Addr} {H : Hp} {xs : List V} (hh : Hand H h c) (hb : H b = some (.lst xs)) (hx : notHand xs = true) : b ≠ h := by
  intro e
  subst e
  obtain ⟨ns, i, x, t, h1, _, _⟩ := hh
  rw [hb] at h1
  injection h1 with h1
  unfold HandO at h1
  injection h1 with h1
  subst h1
  cases hx
theorem Hand.nei {h c b C dx : Addr} {H : Hp} {fs : List (Str × V)} (hh : Hand H h c) (hb : H b = some (.ins C dx fs)) : b ≠ h := by
  intro e
  subst e
  obtain ⟨ns, i, x, t, h1, _, _⟩ := hh
  rw [hb] at h1
  cases h1
theorem Hand.net {h c b : Addr} {H : Hp} {xs : List V} (hh : Hand H h c) (hb : H b = some (.tup xs)) : b ≠ h := by
  intro e
  subst e
  obtain ⟨ns, i, x, t, h1, _, _⟩ := hh
  rw [hb] at h1
  cases h1
theorem Hand.ned {h c b : Addr} {H : Hp} {kvs : List (Key × V)} (hh : Hand H h c) (hb : H b = some (.dK kvs)) : b ≠ h := by
  intro e
  subst e
  obtain ⟨ns, i, x, t, h1, _, _⟩ := hh
  rw [hb] at h1
  cases h1
section
variable {h c : Addr} {H H' : Hp}
theorem Stay.lst {b : Addr} {xs : List V} (x : Stay h c H H') (hb : H b = some (.lst xs)) (hx : notHand xs = true) : H' b = some (.lst xs) := x.but b _ (x.hand0.nel hb hx) hb
theorem Stay.row {b : Addr} {ss : List Str} (x : Stay h c H H') (hb : H b = some (.lst (ss.map V.str))) : H' b = some (.lst (ss.map V.str)) := x.lst hb (notHand_strs ss)
end
theorem map_erase {α β : Type} (f : α → β) : ∀ (l : List α) (j : Nat), (l.map f).eraseIdx j = (l.eraseIdx j).map f
  | [], _ => rfl
  | x :: l, 0 => rfl
  | x :: l, j + 1 => congrArg (f x :: ·) (map_erase f l j)
theorem ixN_nat {n i : Nat} (h : i < n) : ixN n (i : Int) = some i := by
  have e : (List.range n)[i]? = some i := by rw [List.getElem?_range h]
  have := atI_nat e
  unfold atI at this
  rw [List.length_range] at this
  cases q : ixN n (i : Int) with
  | none => rw [q] at this; cases this
  | some j =>
    rw [q] at this
    have h2 : (List.range n)[j]? = some i := this
    rw [List.getElem?_eq_some_iff] at h2
    obtain ⟨h3, h4⟩ := h2
    rw [List.getElem_range] at h4
    rw [h4]
section
variable {P : Program} {w : World} {K : PySem.W.Frag} {mg : Str → Option Value} {base : Heap}
def rLen_ (K : PySem.W.Frag) : List V → Hp → VK → Prop := fun xs H Q => ∃ p ys, xs = [.ref p] ∧ (SqL K H p ys ∨ SqT K H p ys) ∧ Q (.int ys.length) H
def pairs (es : List (Nat × Nat)) : List (List Nat) := es.map fun e => [e.1, e.2]
/-- couples before the cells have their names: each cell below m hangs on a lower one -/
structure Tree (n m : Nat) (cs : List (Nat × Nat)) : Prop where
  lt : ∀ e ∈ cs, e.2 < e.1 ∧ e.1 < m ∧ e.1 < n
  nd : cs.Nodup
  low : ∀ k, 0 < k → k < m → ∃ d, d < k ∧ (k, d) ∈ cs
theorem Tree.nil (n : Nat) : Tree n 1 [] := ⟨fun e h => (nomatch h), List.nodup_nil, fun k h0 h1 => by omega⟩
theorem Tree.add {n k j : Nat} {cs : List (Nat × Nat)} (t : Tree n (k + 1) cs) (hk : k + 1 < n) (hj : j < k + 1) : Tree n (k + 1 + 1) (cs ++ [(k + 1, j)]) := by
  refine ⟨fun e h => ?_, ?_, fun x x0 x1 => ?_⟩
  · rcases List.mem_append.mp h with q | q
    · obtain ⟨a, b, c⟩ := t.lt e q
      exact ⟨a, by omega, c⟩
    · rw [List.mem_singleton.mp q]
      exact ⟨hj, by show k + 1 < k + 1 + 1; omega, hk⟩
  · rw [List.nodup_append]
    refine ⟨t.nd, by simp, fun a ha b hb => ?_⟩
    rw [List.mem_singleton.mp hb]
    intro z
    rw [z] at ha
    have := (t.lt _ ha).2.1
    simp only at this
    omega
  · by_cases z : x = k + 1
    · exact ⟨j, by omega, List.mem_append_right _ (by rw [z]; exact List.mem_singleton.mpr rfl)⟩
    · obtain ⟨d, d1, d2⟩ := t.low x x0 (by omega)
      exact ⟨d, d1, List.mem_append_left _ d2⟩
theorem Tree.more {n a b : Nat} {cs : List (Nat × Nat)} (t : Tree n n cs) (h1 : b < a) (h2 : a < n) (h3 : (a, b) ∉ cs) : Tree n n (cs ++ [(a, b)]) := by
  refine ⟨fun e h => ?_, ?_, fun x x0 x1 => ?_⟩
  · rcases List.mem_append.mp h with q | q
    · exact t.lt e q
    · rw [List.mem_singleton.mp q]
      exact ⟨h1, h2, h2⟩
  · rw [List.nodup_append]
    refine ⟨t.nd, by simp, fun x hx y hy => ?_⟩
    rw [List.mem_singleton.mp hy]
    intro z
    exact h3 (z ▸ hx)
  · obtain ⟨d, d1, d2⟩ := t.low x x0 x1
    exact ⟨d, d1, List.mem_append_left _ d2⟩
/-! ### couples as data -/
theorem dp_pair {K : PySem.W.Frag} {H : Hp} (k j : Nat) : DpAll K H [.int (2 + (k : Nat)), .int (0 + (j : Nat))] [.int ((2 + k : Nat) : Int), .int (j : Nat)] := by
  rw [show (2 : Int) + (k : Nat) = ((2 + k : Nat) : Int) by omega, Int.zero_add]
  exact .cons (.int _) (.cons (.int _) .nil)
theorem dp_rows {K : PySem.W.Frag} {H : Hp} : ∀ {ts : List Addr} {ls : List (List Nat)}, TAt H ts ls → DpAll K H (ts.map V.ref) (ls.map intD)
  | _, _, .nil => .nil
  | _, _, .cons h r => .cons (.tup (.inl (.inl h)) (dp_ints _)) (dp_rows r)
theorem shaped_rows (ls : List (List Nat)) : SeqAt.shaped (.list (ls.map intD)) = true := by
  have h1 : ∀ l : List Nat, PyData.canLay0 (intD l) = true ∧ PyData.depth (intD l) ≤ 1 := fun l => by
    have z := shaped_ints l
    have z : ((PyData.canLay0 (intD l)) && decide (PyData.depth (intD l) ≤ 64)) = true := z
    refine ⟨(Bool.and_eq_true_iff.mp z).1, ?_⟩
    have : ∀ l : List Nat, PyData.depthAll (l.map fun c => PyData.int (c : Nat)) = 0 := fun l => by
      induction l with
      | nil => simp [PyData.depthAll]
      | cons x r ih => simp [PyData.depthAll, PyData.depth, ih]
    simp [intD, PyData.depth, this l]
  have h2 : ∀ ls : List (List Nat), PyData.canLayAll0 (ls.map intD) = true ∧ PyData.depthAll (ls.map intD) ≤ 1 := fun ls => by
    induction ls with
    | nil => exact ⟨by simp [PyData.canLayAll0], by simp [PyData.depthAll]⟩
    | cons x r ih =>
      refine ⟨by simp [PyData.canLayAll0, (h1 x).1, ih.1], ?_⟩
      rw [List.map_cons, PyData.depthAll]
      exact Nat.max_le.mpr ⟨(h1 x).2, ih.2⟩
  show ((PyData.canLay0 (.list (ls.map intD))) && decide (PyData.depth (.list (ls.map intD)) ≤ 64)) = true
  have d : PyData.depth (.list (ls.map intD)) ≤ 64 := by
    rw [PyData.depth]
    have := (h2 ls).2
    omega
  simp [PyData.canLay0, (h2 ls).1, d]
theorem any_rows (cs : List (Nat × Nat)) (a b : Nat) : ((pairs cs).map intD).any (fun z => PyData.eqv z (intD [a, b])) = decide ((a, b) ∈ cs) := by
  induction cs with
  | nil => rfl
  | cons e cs ih =>
    show (PyData.eqv (intD [e.1, e.2]) (intD [a, b]) || ((pairs cs).map intD).any (fun z => PyData.eqv z (intD [a, b]))) = _
    rw [ih]
    have h : PyData.eqv (intD [e.1, e.2]) (intD [a, b]) = decide (e = (a, b)) := by
      obtain ⟨x, y⟩ := e
      simp [intD, PyData.eqv, PyData.eqvAll]
      by_cases z1 : x = a <;> by_cases z2 : y = b <;> simp [z1, z2] <;> omega
    rw [h]
    by_cases z : e = (a, b)
    · simp [z]
    · have z2 : ¬ (a, b) = e := fun q => z q.symm
      simp [z, z2]
structure LandOk (n : Nat) (es : List (Nat × Nat)) : Prop where
  lt : ∀ e ∈ es, e.1 < e.2 ∧ e.2 < n
  nd : es.Nodup
  sorted : es.Pairwise fun a b => a.1 < b.1 ∨ (a.1 = b.1 ∧ a.2 ≤ b.2)
  conn : KL.Conn n es
structure LandOk0 (n : Nat) (es : List (Nat × Nat)) : Prop where
  lt : ∀ e ∈ es, e.1 < e.2 ∧ e.2 < n
  nd : es.Nodup
  conn : KL.Conn n es
theorem tree_land {n : Nat} {nm : List Nat} {cs : List (Nat × Nat)} (hp : nm.Perm (List.range n)) (t : Tree n n cs) : LandOk0 n (cs.map fun e => KL.couple nm e.1 e.2) := by
  have nd : nm.Nodup := hp.nodup_iff.mpr List.nodup_range
  have hl : nm.length = n := by rw [hp.length_eq, List.length_range]
  refine ⟨fun e he => ?_, ?_, ?_⟩
  · obtain ⟨x, hx, rfl⟩ := List.mem_map.mp he
    obtain ⟨t1, t2, t3⟩ := t.lt x hx
    have m1 := KL.couple_mem hp (a := x.1) t3
    have m2 := KL.couple_mem hp (a := x.2) (by omega)
    have ne : nm.getD x.1 0 ≠ nm.getD x.2 0 := by
      intro z
      rw [List.getD_eq_getElem?_getD, List.getD_eq_getElem?_getD, List.getElem?_eq_getElem (by omega), List.getElem?_eq_getElem (by omega)] at z
      have := (List.getElem_inj nd).mp z
      omega
    show min _ _ < max _ _ ∧ max _ _ < n
    omega
  · rw [List.nodup_iff_pairwise_ne, List.pairwise_map]
    refine (List.nodup_iff_pairwise_ne.mp t.nd).imp_of_mem fun {a b} ha hb hab z => ?_
    obtain ⟨a1, a2, a3⟩ := t.lt a ha
    obtain ⟨b1, b2, b3⟩ := t.lt b hb
    exact hab (KL.couple_inj hp a1 a3 b1 b3 z)
  · refine KL.conn_tree hp fun k k0 k1 => ?_
    obtain ⟨d, d1, d2⟩ := t.low k k0 k1
    exact ⟨d, d1, List.mem_map.mpr ⟨(k, d), d2, rfl⟩⟩
/-- the two numbers of a couple's tuple -/
def kfOf (H : Hp) : V → Int × Int
  | .ref a => (match H a with | some (.tup [.int i, .int j]) => (i, j) | _ => (0, 0))
  | _ => (0, 0)
def gOf (H : Hp) (x : V) : Nat × Nat := ((kfOf H x).1.toNat, (kfOf H x).2.toNat)
theorem kf_at {H : Hp} {a : Addr} {x y : Nat} (h : H a = some (.tup [.int (x : Nat), .int (y : Nat)])) : kfOf H (.ref a) = ((x : Int), (y : Int)) := by
  unfold kfOf
  simp only [h]
theorem g_at {H : Hp} {a : Addr} {e : Nat × Nat} (h : H a = some (.tup [.int (e.1 : Nat), .int (e.2 : Nat)])) : gOf H (.ref a) = e := by
  unfold gOf
  rw [kf_at h]
  rfl
theorem g_map {H : Hp} : ∀ {us : List Addr} {es : List (Nat × Nat)}, TAt H us (pairs es) → (us.map V.ref).map (gOf H) = es
  | [], [], _ => rfl
  | _ :: _, [], h => nomatch h
  | [], _ :: _, h => nomatch h
  | u :: us, e :: es, .cons h r => by
    show gOf H (.ref u) :: (us.map V.ref).map (gOf H) = _
    rw [g_at h, g_map r]
theorem g_mem {H : Hp} {us : List Addr} {es : List (Nat × Nat)} (t : TAt H us (pairs es)) : ∀ x ∈ us.map V.ref, ∃ (a : Addr) (e : Nat × Nat), x = V.ref a ∧ H a = some (.tup [.int (e.1 : Nat), .int (e.2 : Nat)]) := by
  intro x hx
  obtain ⟨a, ha, rfl⟩ := List.mem_map.mp hx
  obtain ⟨i, hi, e⟩ := List.mem_iff_getElem.mp ha
  obtain ⟨l, el, hl⟩ := t.get (i := i) (t := a) (by rw [List.getElem?_eq_getElem hi, e])
  unfold pairs at el
  rw [List.getElem?_map] at el
  obtain ⟨ab, eab, rfl⟩ := Option.map_eq_some_iff.mp el
  exact ⟨a, ab, rfl, hl⟩
theorem tat_of {H : Hp} : ∀ ys : List V, (∀ x ∈ ys, ∃ (a : Addr) (e : Nat × Nat), x = V.ref a ∧ H a = some (.tup [.int (e.1 : Nat), .int (e.2 : Nat)])) → ∃ ts, ys = ts.map V.ref ∧ TAt H ts (pairs (ys.map (gOf H)))
  | [], _ => ⟨[], rfl, .nil⟩
  | y :: ys, h => by
    obtain ⟨a, e, rfl, ha⟩ := h y List.mem_cons_self
    obtain ⟨ts, rfl, t⟩ := tat_of ys fun x hx => h x (List.mem_cons_of_mem _ hx)
    refine ⟨a :: ts, rfl, ?_⟩
    show TAt H (a :: ts) ([(gOf H (.ref a)).1, (gOf H (.ref a)).2] :: _)
    rw [g_at ha]
    exact .cons ha t
theorem sorted_of {H : Hp} : ∀ ys : List V, (∀ x ∈ ys, ∃ (a : Addr) (e : Nat × Nat), x = V.ref a ∧ H a = some (.tup [.int (e.1 : Nat), .int (e.2 : Nat)])) → SrtO.Srtd (ltP (kfOf H)) ys → (ys.map (gOf H)).Pairwise fun a b => a.1 < b.1 ∨ (a.1 = b.1 ∧ a.2 ≤ b.2) := by
  intro ys h s
  rw [List.pairwise_map]
  refine List.Pairwise.imp_of_mem (fun {x y} hx hy q => ?_) s
  obtain ⟨a, e, rfl, ha⟩ := h x hx
  obtain ⟨b, e', rfl, hb⟩ := h y hy
  rw [g_at ha, g_at hb]
  have q : SrtO.lexB (kfOf H (.ref b)) (kfOf H (.ref a)) = false := q
  rw [kf_at ha, kf_at hb] at q
  have z : ¬ ((e'.1 : Int) < e.1 ∨ ((e'.1 : Int) = e.1 ∧ (e'.2 : Int) < e.2)) := fun z => by
    rw [SrtO.lexB_iff.mpr z] at q
    cases q
  omega
theorem Stay.free {h c b : Addr} {H H' : Hp} (y : Stay h c H H') (n : H' b = none) : H b = none := by
  cases z : H b with
  | none => rfl
  | some o =>
    by_cases e : b = h
    · subst e
      obtain ⟨ns, i, x, t, h1, _, _⟩ := y.hand
      rw [h1] at n
      cases n
    · rw [y.but b o e z] at n
      cases n
theorem lots_some : ∀ n : Fin 6, 2 ≤ n.val → ((lotsTo (List.range n.val) n.val).filter fun l => decide (0 < l.length) && decide (l.length < n.val)).length ≠ 4 ∧ 0 < ((lotsTo (List.range n.val) n.val).filter fun l => decide (0 < l.length) && decide (l.length < n.val)).length ∧
    ((lotsTo (List.range n.val) n.val).filter fun l => decide (0 < l.length) && decide (l.length < n.val)).length ≤ 32 := by decide +kernel
/-- a drawn land: its number of cells, its couples, its roads -/
structure LandAt (H : Hp) (q : Addr) (n : Nat) (es : List (Nat × Nat)) (lot : List Nat) : Prop where
  at_ : ∃ rA sA ts, H q = some (.tup [.int (n : Nat), .ref rA, .ref sA]) ∧ H rA = some (.lst (ts.map V.ref)) ∧ TAt H ts (pairs es) ∧ H sA = some (.lst (ints_ lot))
  ok : LandOk n es
  lot : lot ∈ lotsTo (List.range n) n ∧ 0 < lot.length ∧ lot.length < n
def spLand : Sp := fun vs H Q _ => ∃ (h c : Addr) (n : Nat), vs = [.ref h, .int (n : Nat)] ∧ Hand H h c ∧ 2 ≤ n ∧ n ≤ 5 ∧ ∀ H' q es lot, Stay h c H H' → H q = none → LandAt H' q n es lot → Q (.ref q) H'
theorem ok_land {f fdr fpk flo : Addr} {fd fddr fdpk fdlo : FuncData} (F : Fun K "_law_land" "_law_land" s__law_land f fd)
    (Gdr : FnOk P w K mg base CX0 2 fdr fddr ["_law_hand_here", "_law_many"] spDraw) (gdr : mg "_law_draw" = some (.ref fdr)) (kdr : PySem.W.keepIn K (.ref fdr) = true) (bdr : Binds K fddr ["_law_hand_here", "_law_many"] [])
    (Gpk : FnOk P w K mg base CX0 3 fpk fdpk ["_law_hand_here", "_law_things"] spPick) (gpk : mg "_law_pick" = some (.ref fpk)) (kpk : PySem.W.keepIn K (.ref fpk) = true) (bpk : Binds K fdpk ["_law_hand_here", "_law_things"] [])
    (Glo : FnOk P w K mg base CX0 1 flo fdlo ["_law_cells"] spLots) (glo : mg "_law_lots" = some (.ref flo)) (klo : PySem.W.keepIn K (.ref flo) = true) (blo : Binds K fdlo ["_law_cells"] [])
    (m_range : mg "range" = none) (m_len : mg "len" = none) (m_list : mg "list" = none) (m_min : mg "min" = none) (m_max : mg "max" = none) (m_sorted : mg "sorted" = none) :
    FnOk P w K mg base CX0 4 f fd ["_law_hand_here", "_law_n"] spLand := by
  refine F.ok sc__law_land (fun vs H Q E h => ?_) (fun cdv A outer s H vs Q E hr h => ?_)
  · obtain ⟨h, c, n, rfl, _⟩ := h
    rfl
  · obtain ⟨h, c, n, rfl, hh, n2, n5, q⟩ := h
    refine ⟨_, (pss_cons (ps_set (i := 2) sc__law_land.nd rfl (by first | exact Or.inl rfl | exact Or.inr rfl) (pe_lst pa_nil))
 (pss_cons (ps_set (i := 3) sc__law_land.nd rfl (by first | exact Or.inl rfl | exact Or.inr rfl) (pe_callTy (K7E.cr_list_rng rfl) (by rfl) m_list boot_list (pa_cons (pe_callTy K7E.cr_range1 (by rfl) m_range boot_range (pa_cons (pv 1) pa_nil)) pa_nil)))
 (Evl.pss_cut (ps_for PassesOwn.never rfl (pi_range1 rfl m_range (pa_cons (pv 1) pa_nil)) (pg_name (i := 4) sc__law_land.nd rfl (by first | exact Or.inl rfl | exact Or.inr rfl))
  (pss_one (ps_expr (pe_bm PySem.F.plainAttrs_list PySem.F.slot_list_append PySem.F.type_list_append mt_append (pv 2) (pa_cons (pe_bm PySem.F.plainAttrs_list PySem.F.slot_list_pop PySem.F.type_list_pop mt_popAt (pv 3) (pa_cons (pe_call Gdr (hr.mono (by decide)) (by rfl) gdr kdr bdr .nil pass0 (pa_cons (pv 0) (pa_cons (pe_callB call_len_seq (by rfl) m_len boot_len (pa_cons (pv 3) pa_nil)) pa_nil))) pa_nil)) pa_nil)))))
 (pss_cons (ps_set (i := 5) sc__law_land.nd rfl (by first | exact Or.inl rfl | exact Or.inr rfl) (pe_lst pa_nil))
 (Evl.pss_cut (ps_for PassesOwn.never rfl (pi_range2 rfl m_range (pa_cons pe_int (pa_cons (pv 1) pa_nil))) (pg_name (i := 4) sc__law_land.nd rfl (by first | exact Or.inl rfl | exact Or.inr rfl))
  (pss_one (ps_expr (pe_bm PySem.F.plainAttrs_list PySem.F.slot_list_append PySem.F.type_list_append mt_append (pv 5) (pa_cons (pe_tup (pa_cons (pv 4) (pa_cons (pe_call Gdr (hr.mono (by decide)) (by rfl) gdr kdr bdr .nil pass0 (pa_cons (pv 0) (pa_cons (pv 4) pa_nil))) pa_nil))) pa_nil)))))
 (Evl.pss_cut (ps_for PassesOwn.never rfl (pi_range2 rfl m_range (pa_cons pe_int (pa_cons (pv 1) pa_nil))) (pg_name (i := 6) sc__law_land.nd rfl (by first | exact Or.inl rfl | exact Or.inr rfl))
  (pss_one (ps_for PassesOwn.never rfl (pi_range1 rfl m_range (pa_cons (pv 6) pa_nil)) (pg_name (i := 7) sc__law_land.nd rfl (by first | exact Or.inl rfl | exact Or.inr rfl))
  (pss_one (ps_if (pw_and (pt_cmpR (op_notInD (K7L.hu65 hr)) (pe_tup (pa_cons (pv 6) (pa_cons (pv 7) pa_nil))) (pv 5) (by with_unfolding_all rfl)) (pw_and1 (pt_cmpR op_eq (pe_call Gdr (hr.mono (by decide)) (by rfl) gdr kdr bdr .nil pass0 (pa_cons (pv 0) (pa_cons pe_int pa_nil))) pe_int (nomark _)))).pt
  (pss_one (ps_expr (pe_bm PySem.F.plainAttrs_list PySem.F.slot_list_append PySem.F.type_list_append mt_append (pv 5) (pa_cons (pe_tup (pa_cons (pv 6) (pa_cons (pv 7) pa_nil))) pa_nil))))
  pss_nil)))))
 (pss_cons (ps_setLc (i := 8) (own := [("_law_a", 9), ("_law_b", 10)]) (g := gTup K 2 (gCons (gName 9) (gCons (gName 10) (gNil)))) (tt := tYes) rfl sc__law_land.nd rfl rfl (sw_true rfl rfl rfl (by decide +kernel)) (pi_list (pv 5)) (blkOk_by (own := [("_law_a", 9), ("_law_b", 10)]) (N := N__law_land) (sc := defScope s__law_land) (by decide +kernel)) (fun _ _ _ _ _ => (pg_tup rfl (pgs_cons (pg_name (i := 9) sc__law_land.nd rfl (by first | exact Or.inl rfl | exact Or.inr rfl)) (pgs_cons (pg_name (i := 10) sc__law_land.nd rfl (by first | exact Or.inl rfl | exact Or.inr rfl)) pgs_nil)))) (fun _ _ _ _ _ => pts_nil) (fun _ _ _ _ _ => (pe_tup (pa_cons (pe_callB (call_min2 rfl) (by rfl) m_min boot_min (pa_cons (pe_ix (show IxR _ (rIxL K) from ix_list) (pv 2) (pv 9) (fun _ _ => rfl)) (pa_cons (pe_ix (show IxR _ (rIxL K) from ix_list) (pv 2) (pv 10) (fun _ _ => rfl)) pa_nil))) (pa_cons (pe_callB (call_max2 rfl) (by rfl) m_max boot_max (pa_cons (pe_ix (show IxR _ (rIxL K) from ix_list) (pv 2) (pv 9) (fun _ _ => rfl)) (pa_cons (pe_ix (show IxR _ (rIxL K) from ix_list) (pv 2) (pv 10) (fun _ _ => rfl)) pa_nil))) pa_nil)))))
 (pss_cons (ps_setLc (i := 11) (own := [("_law_lot", 12)]) (g := gName 12) rfl sc__law_land.nd rfl rfl (sw_true rfl rfl rfl (by decide +kernel)) (pi_list (pe_call Glo (hr.mono (by decide)) (by rfl) glo klo blo .nil pass0 (pa_cons (pe_callTy (K7E.cr_list_rng rfl) (by rfl) m_list boot_list (pa_cons (pe_callTy K7E.cr_range1 (by rfl) m_range boot_range (pa_cons (pv 1) pa_nil)) pa_nil)) pa_nil))) (blkOk_by (own := [("_law_lot", 12)]) (N := N__law_land) (sc := defScope s__law_land) (by decide +kernel)) (fun _ _ _ _ _ => (pg_name (i := 12) sc__law_land.nd rfl (by first | exact Or.inl rfl | exact Or.inr rfl))) (fun _ _ _ _ _ => (pts_one (pt_chain op_lt op_lt pe_int (pe_callB (show CallR _ (.builtin "len") (rLen_ K) from call_len_seq) (by rfl) m_len boot_len (pa_cons (pv 12) pa_nil)) (pv 1)))) (fun _ _ _ _ _ => (pv 12)))
 (pss_one (ps_ret (pe_tup (pa_cons (pv 1) (pa_cons (pe_callB cr_sortedPO (by rfl) m_sorted boot_sorted (pa_cons (pv 8) pa_nil)) (pa_cons (pe_callTy call_list_of (by rfl) m_list boot_list (pa_cons (pe_call Gpk (hr.mono (by decide)) (by rfl) gpk kpk bpk .nil pass0 (pa_cons (pv 0) (pa_cons (pv 11) pa_nil))) pa_nil)) pa_nil)))))))))))))), ?_⟩
    have l10 : ∀ {xs : List Nat} {k : Nat}, xs.length ≤ k → k ≤ 1000 → (ints_ xs).length < sizeLine := fun {xs k} h1 h2 => by
      unfold ints_; rw [List.length_map]; exact small1000 (Nat.le_trans h1 h2)
    refine ⟨by show 0 ≤ sizeLine; decide, fun N0 nN => ?_⟩
    refine ⟨_, rfl, _, rfl, fun rg nrg => ?_⟩
    refine ⟨rg, n, rfl, upd_same, by omega, fun Lf nLf => ?_⟩
    have e1 : Same H (upd H N0 (.lst [])) := same_new (Same.refl H) nN
    have e2 : Same H (upd (upd H N0 (.lst [])) rg (.rng 0 n)) := same_new e1 nrg
    have e3 : Same H (upd (upd (upd H N0 (.lst [])) rg (.rng 0 n)) Lf (.lst (K7E.upTo n))) := same_new e2 nLf
    have hN3 : upd (upd (upd H N0 (.lst [])) rg (.rng 0 n)) Lf (.lst (K7E.upTo n)) N0 = some (.lst []) := same_new (Same.refl _) nLf _ _ (same_new (Same.refl _) nrg _ _ upd_same)
    have hL3 : upd (upd (upd H N0 (.lst [])) rg (.rng 0 n)) Lf (.lst (K7E.upTo n)) Lf = some (.lst (ints_ (List.range n))) := upd_same
    have fN : H N0 = none := nN
    have fL : H Lf = none := e2.free nLf
    have nNL : N0 ≠ Lf := ne_of_none (same_new (o := .rng 0 n) (Same.refl _) nrg _ _ upd_same) nLf
    obtain ⟨hNh, hNc⟩ := hh.ne fN
    obtain ⟨hLh, hLc⟩ := hh.ne fL
    generalize upd (upd (upd H N0 (.lst [])) rg (.rng 0 n)) Lf (.lst (K7E.upTo n)) = H3 at e3 hN3 hL3 ⊢
    refine ⟨fun σ' H' => ∃ nm y4, σ' = [some (.ref h), some (.int (n : Nat)), some (.ref N0), some (.ref Lf), y4, none, none, none, none, none, none, none, none] ∧ Stay h c H H' ∧ H' N0 = some (.lst (ints_ nm)) ∧ nm.Perm (List.range n), ?_, ?_⟩
    · refine ⟨_, rfl, _, rfl, by omega, by omega, for_range (fun k σ' H' => k ≤ n ∧ ∃ nm lf y4, σ' = [some (.ref h), some (.int (n : Nat)), some (.ref N0), some (.ref Lf), y4, none, none, none, none, none, none, none, none] ∧ Stay h c H H' ∧ H' N0 = some (.lst (ints_ nm)) ∧ H' Lf = some (.lst (ints_ lf)) ∧ (nm ++ lf).Perm (List.range n) ∧ nm.length = k)
        ⟨Nat.zero_le _, [], List.range n, none, rfl, .of_same hh e3, hN3, hL3, List.Perm.refl _, rfl⟩ (fun k σ' H' hk pv => ?_) (fun σ' H' pv => ?_)⟩
      · obtain ⟨_, nm, lf, y4, rfl, st, hN, hL, hp, hl⟩ := pv
        have hk : k < n := by simpa using hk
        have hll : lf.length = n - k := by
          have := hp.length_eq
          rw [List.length_append, List.length_range] at this
          omega
        have hil : (ints_ lf).length = lf.length := by unfold ints_; rw [List.length_map]
        refine ⟨_, rfl, .inl ⟨rfl, _, .inl (.inl hN)⟩, _, rfl, .inl ⟨rfl, _, .inl (.inl hL)⟩, _, rfl, _, rfl, Lf, _, rfl, .inl (.inl (.inl hL)), h, c, _, rfl, st.hand, by omega, ?_, fun H4 x d x0 x1 => ?_⟩
        · exact Int.lt_of_le_of_lt (show (((ints_ lf).length : Nat) : Int) ≤ 1000 by omega) (by decide)
        obtain ⟨j, rfl⟩ : ∃ j : Nat, x = (j : Int) := ⟨x.toNat, by omega⟩
        have hj : j < lf.length := by omega
        have hN4 : H4 N0 = some (.lst (ints_ nm)) := by rw [d.but N0 hNh]; exact hN
        have hL4 : H4 Lf = some (.lst (ints_ lf)) := by rw [d.but Lf hLh]; exact hL
        refine ⟨Lf, _, _, j, .int (lf[j] : Nat), rfl, rfl, hL4, by omega, by omega, (ixN_seq (ixN_nat (by omega))).1, ?_, ?_⟩
        · unfold ints_
          rw [List.getElem?_map, List.getElem?_eq_getElem hj]
          rfl
        have hN5 : upd H4 Lf (.lst ((ints_ lf).eraseIdx j)) N0 = some (.lst (ints_ nm)) := by rw [upd_ne nNL]; exact hN4
        refine ⟨N0, _, _, rfl, rfl, hN5, l10 (Nat.le_of_eq hl) (by omega), ?_⟩
        refine ⟨by omega, nm ++ [lf[j]], lf.eraseIdx j, _, rfl, ⟨fun b o nb hb => ?_, hh, ((d.hand.upd hLh hLc).upd hNh hNc)⟩, ?_, ?_, (KL.pop_perm hj).trans hp, by rw [List.length_append, hl]; rfl⟩
        · rw [upd_ne (ne_of_none hb fN), upd_ne (ne_of_none hb fL), d.but b nb]
          exact st.but b o nb hb
        · rw [upd_same]
          unfold ints_
          rw [List.map_append]
          rfl
        · rw [upd_ne nNL.symm, upd_same]
          unfold ints_
          rw [map_erase]
      · obtain ⟨_, nm, lf, y4, rfl, st, hN, hL, hp, hl⟩ := pv
        have hl : nm.length = n := by simpa using hl
        have l0 : lf = [] := by
          have := hp.length_eq
          rw [List.length_append, List.length_range] at this
          exact List.length_eq_zero_iff.mp (by omega)
        subst l0
        rw [List.append_nil] at hp
        exact ⟨nm, y4, rfl, st, hN, hp⟩
    rintro _ H4 ⟨nm, y4, rfl, st4, hN, hp⟩
    -- the tree
    refine ⟨by show 0 ≤ sizeLine; decide, fun C0 nC => ?_⟩
    have hC5 : upd H4 C0 (.lst []) C0 = some (.lst []) := upd_same
    have hN5 : upd H4 C0 (.lst []) N0 = some (.lst (ints_ nm)) := by rw [upd_ne (ne_of_none hN nC)]; exact hN
    obtain ⟨hCh, hCc⟩ := st4.hand.ne nC
    have st5 := st4.same (same_new (o := .lst []) (Same.refl H4) nC)
    have fC : H C0 = none := by
      cases z : H C0 with
      | none => rfl
      | some o =>
        have h1 := st4.but C0 o hCh z
        rw [nC] at h1
        cases h1
    have nNC : N0 ≠ C0 := ne_of_none hN nC
    generalize upd H4 C0 (.lst []) = H5 at hC5 hN5 st5 ⊢
    refine ⟨fun σ' H' => ∃ ts cs y4, σ' = [some (.ref h), some (.int (n : Nat)), some (.ref N0), some (.ref Lf), y4, some (.ref C0), none, none, none, none, none, none, none] ∧ Stay h c H H' ∧ H' N0 = some (.lst (ints_ nm)) ∧ H' C0 = some (.lst (ts.map V.ref)) ∧ TAt H' ts (pairs cs) ∧ Tree n n cs ∧ cs.length ≤ 10, ?_, ?_⟩
    · refine ⟨_, rfl, 1, _, rfl, ⟨by decide, by decide, by omega, by omega⟩, for_range (lo := 1) (fun k σ' H' => k + 1 ≤ n ∧ ∃ ts cs y4, σ' = [some (.ref h), some (.int (n : Nat)), some (.ref N0), some (.ref Lf), y4, some (.ref C0), none, none, none, none, none, none, none] ∧ Stay h c H H' ∧ H' N0 = some (.lst (ints_ nm)) ∧ H' C0 = some (.lst (ts.map V.ref)) ∧ TAt H' ts (pairs cs) ∧ Tree n (k + 1) cs ∧ cs.length = k)
        ⟨by omega, [], [], y4, rfl, st5, hN5, hC5, .nil, Tree.nil n, rfl⟩ (fun k σ' H' hk pv => ?_) (fun σ' H' pv => ?_)⟩
      · obtain ⟨_, ts, cs, y4, rfl, st, hN, hC, tC, tr, hl⟩ := pv
        have hk : k + 1 < n := by omega
        refine ⟨_, rfl, .inl ⟨rfl, _, .inl (.inl hC)⟩, _, rfl, _, rfl, _, rfl, h, c, _, rfl, st.hand, by omega, ?_, fun H6 x d x0 x1 => ?_⟩
        · exact Int.lt_of_le_of_lt (show (1 : Int) + (k : Nat) ≤ 1000 by omega) (by decide)
        obtain ⟨j, rfl⟩ : ∃ j : Nat, x = (j : Int) := ⟨x.toNat, by omega⟩
        have hj : j < k + 1 := by omega
        refine ⟨by show 2 ≤ sizeLine; decide, fun t nt => ?_⟩
        have y6 := (Stay.of_drawn st.hand d).same (same_new (o := .tup [.int (1 + (k : Nat)), .int (j : Nat)]) (Same.refl H6) nt)
        have hC6 := y6.but C0 _ hCh hC
        have hN6 := y6.but N0 _ hNh hN
        have ltx : ts.length = k := by rw [tC.len]; unfold pairs; rw [List.length_map, hl]
        refine ⟨C0, _, _, rfl, rfl, hC6, by rw [List.length_map, ltx]; exact small1000 (by omega), ?_⟩
        have up : ∀ b xs, upd H6 t (.tup [.int (1 + (k : Nat)), .int (j : Nat)]) b = some (.tup xs) → upd (upd H6 t (.tup [.int (1 + (k : Nat)), .int (j : Nat)])) C0 (.lst (ts.map V.ref ++ [.ref t])) b = some (.tup xs) := fun b xs hb => by
          rw [upd_ne (fun z => by rw [z, hC6] at hb; cases hb)]
          exact hb
        have tC6 : TAt (upd H6 t (.tup [.int (1 + (k : Nat)), .int (j : Nat)])) ts (pairs cs) := tC.mono fun b xs hb => y6.but b _ (st.hand.net hb) hb
        refine ⟨by omega, ts ++ [t], cs ++ [(k + 1, j)], _, rfl, ⟨fun b o nb hb => ?_, hh, y6.hand.upd hCh hCc⟩, ?_, ?_, ?_, tr.add hk hj, by rw [List.length_append, hl]; rfl⟩
        · rw [upd_ne (ne_of_none hb fC)]
          exact y6.but b o nb (st.but b o nb hb)
        · rw [upd_ne nNC]; exact hN6
        · rw [upd_same, List.map_append]; rfl
        · unfold pairs
          rw [List.map_append]
          refine (tC6.mono up).append (.cons (up _ _ ?_) .nil)
          rw [upd_same, show (1 : Int) + (k : Nat) = ((k + 1 : Nat) : Int) by omega]
          rfl
      · obtain ⟨hk, ts, cs, y4, rfl, st, hN, hC, tC, tr, hl⟩ := pv
        refine ⟨ts, cs, y4, rfl, st, hN, hC, tC, ?_, by omega⟩
        have e : ((n : Int) - 1).toNat + 1 = n := by omega
        rw [e] at tr
        exact tr
    rintro _ H6 ⟨ts, cs, y4, rfl, st6, hN6, hC6, tC6, tr6, ln6⟩
    -- more couples
    refine ⟨fun σ' H' => ∃ ts cs y6 y7, σ' = [some (.ref h), some (.int (n : Nat)), some (.ref N0), some (.ref Lf), y4, some (.ref C0), y6, y7, none, none, none, none, none] ∧ Stay h c H H' ∧ H' N0 = some (.lst (ints_ nm)) ∧ H' C0 = some (.lst (ts.map V.ref)) ∧ TAt H' ts (pairs cs) ∧ Tree n n cs ∧ cs.length ≤ 60, ?_, ?_⟩
    · refine ⟨_, rfl, 2, _, rfl, ⟨by decide, by decide, by omega, by omega⟩, for_range (lo := 2) (fun k σ' H' => k ≤ 5 ∧ ∃ ts cs y6 y7, σ' = [some (.ref h), some (.int (n : Nat)), some (.ref N0), some (.ref Lf), y4, some (.ref C0), y6, y7, none, none, none, none, none] ∧ Stay h c H H' ∧ H' N0 = some (.lst (ints_ nm)) ∧ H' C0 = some (.lst (ts.map V.ref)) ∧ TAt H' ts (pairs cs) ∧ Tree n n cs ∧ cs.length ≤ 10 + 10 * k)
        ⟨by omega, ts, cs, none, none, rfl, st6, hN6, hC6, tC6, tr6, ln6⟩ (fun k σ' H' hk pv => ?_) (fun σ' H' pv => ?_)⟩
      · obtain ⟨_, ts, cs, y6, y7, rfl, st, hN, hC, tC, tr, ln⟩ := pv
        have hk : 2 + k < n := by omega
        refine ⟨_, rfl, _, rfl, by omega, by omega, for_range (fun j σ' H' => ∃ ts cs y7, σ' = [some (.ref h), some (.int (n : Nat)), some (.ref N0), some (.ref Lf), y4, some (.ref C0), some (.int (2 + (k : Nat))), y7, none, none, none, none, none] ∧ Stay h c H H' ∧ H' N0 = some (.lst (ints_ nm)) ∧ H' C0 = some (.lst (ts.map V.ref)) ∧ TAt H' ts (pairs cs) ∧ Tree n n cs ∧ cs.length ≤ 10 + 10 * k + j)
          ⟨ts, cs, y7, rfl, st, hN, hC, tC, tr, by omega⟩ (fun j σ' H' hj pv => ?_) (fun σ' H' pv => ?_)⟩
        · obtain ⟨ts, cs, y7, rfl, st, hN, hC, tC, tr, ln⟩ := pv
          have hj : j < 2 + k := by omega
          have ltx : ts.length = cs.length := by rw [tC.len]; unfold pairs; rw [List.length_map]
          refine ⟨_, rfl, _, rfl, by show 2 ≤ sizeLine; decide, fun t nt => ?_⟩
          have sT := same_new (o := .tup [.int (2 + (k : Nat)), .int (0 + (j : Nat))]) (Same.refl H') nt
          have stT := st.same sT
          refine ⟨_, rfl, intD [2 + k, j], _, .tup (xs := [.int (2 + (k : Nat)), .int (0 + (j : Nat))]) (.inl (.inl upd_same)) (dp_pair k j), .lst (.inl (.inl (sT _ _ hC))) (dp_rows (tC.same sT)), shaped_ints _, shaped_rows _, ?_⟩
          rw [any_rows]
          refine ⟨_, rfl, ite2 (fun q1 => ?_) (fun q1 => ?_)⟩
          · have hnm : (2 + k, j) ∉ cs := by
              intro z
              rw [decide_eq_true z] at q1
              cases q1
            refine ⟨_, rfl, h, c, _, rfl, stT.hand, by decide, by decide, fun H7 x d x0 x1 => ?_⟩
            have st7 := stT.drawn d
            have hC7 : H7 C0 = some (.lst (ts.map V.ref)) := by rw [d.but C0 hCh]; exact sT _ _ hC
            have hN7 : H7 N0 = some (.lst (ints_ nm)) := by rw [d.but N0 hNh]; exact sT _ _ hN
            have tC7 : TAt H7 ts (pairs cs) := (tC.same sT).mono fun b xs hb => by rw [d.but b (stT.hand.net hb)]; exact hb
            refine ⟨rfl, _, rfl, ite2 (fun q2 => ?_) (fun q2 => ?_)⟩
            · refine ⟨_, rfl, .inl ⟨rfl, _, .inl (.inl hC7)⟩, _, rfl, _, rfl, by show 2 ≤ sizeLine; decide, fun t2 nt2 => ?_⟩
              have sU := same_new (o := .tup [.int (2 + (k : Nat)), .int (0 + (j : Nat))]) (Same.refl H7) nt2
              refine ⟨C0, _, _, rfl, rfl, sU _ _ hC7, by rw [List.length_map, ltx]; exact small1000 (by omega), ?_⟩
              have up : ∀ b xs, upd H7 t2 (.tup [.int (2 + (k : Nat)), .int (0 + (j : Nat))]) b = some (.tup xs) → upd (upd H7 t2 (.tup [.int (2 + (k : Nat)), .int (0 + (j : Nat))])) C0 (.lst (ts.map V.ref ++ [.ref t2])) b = some (.tup xs) := fun b xs hb => by
                rw [upd_ne (fun z => by rw [z, sU _ _ hC7] at hb; cases hb)]
                exact hb
              refine ⟨ts ++ [t2], cs ++ [(2 + k, j)], _, rfl, ⟨fun b o nb hb => ?_, hh, (st7.same sU).hand.upd hCh hCc⟩, ?_, ?_, ?_, tr.more hj hk hnm, by rw [List.length_append, List.length_singleton]; omega⟩
              · rw [upd_ne (ne_of_none hb fC)]
                exact (st7.same sU).but b o nb hb
              · rw [upd_ne nNC]; exact sU _ _ hN7
              · rw [upd_same, List.map_append]; rfl
              · unfold pairs
                rw [List.map_append]
                refine ((tC7.same sU).mono up).append (.cons (up _ _ ?_) .nil)
                rw [upd_same, show (2 : Int) + (k : Nat) = ((2 + k : Nat) : Int) by omega, Int.zero_add]
                rfl
            · exact ⟨ts, cs, _, rfl, st7, hN7, hC7, tC7, tr, by omega⟩
          · exact ⟨ts, cs, _, rfl, stT, sT _ _ hN, sT _ _ hC, tC.same sT, tr, by omega⟩
        · obtain ⟨ts, cs, y7, rfl, st, hN, hC, tC, tr, ln⟩ := pv
          exact ⟨by omega, ts, cs, _, _, rfl, st, hN, hC, tC, tr, by omega⟩
      · obtain ⟨hk, ts, cs, y6, y7, rfl, st, hN, hC, tC, tr, ln⟩ := pv
        exact ⟨ts, cs, y6, y7, rfl, st, hN, hC, tC, tr, by omega⟩
    rintro _ H8 ⟨ts, cs, y6, y7, rfl, st8, hN8, hC8, tC8, tr8, ln8⟩
    -- under their names
    have nml : nm.length = n := by rw [hp.length_eq, List.length_range]
    have ltx : ts.length = cs.length := by rw [tC8.len]; unfold pairs; rw [List.length_map]
    refine ⟨_, rfl, C0, rfl, ⟨_, .inl (.inl hC8)⟩, fun D hD => lc_list (xs := ts.map V.ref) (fun j H2 => Same H8 H2 ∧ ∃ us, H2 D = some (.lst (us.map V.ref)) ∧ TAt H2 us (pairs ((cs.take j).map fun e => KL.couple nm e.1 e.2)) ∧ us.length ≤ j) ⟨same_new (Same.refl H8) hD, [], upd_same, .nil, Nat.le_refl _⟩ (fun j H2 _ pv => .inl (.inl (pv.1 _ _ hC8))) (fun j x H2 hx pv => ?_) (fun H9 pv => ?_)⟩
    · obtain ⟨e, us, hD2, tD, lu⟩ := pv
      rw [List.getElem?_map] at hx
      obtain ⟨t, ht, rfl⟩ := Option.map_eq_some_iff.mp hx
      obtain ⟨l, el, hl⟩ := tC8.get ht
      unfold pairs at el
      rw [List.getElem?_map] at el
      obtain ⟨ab, eab, rfl⟩ := Option.map_eq_some_iff.mp el
      obtain ⟨a, b'⟩ := ab
      obtain ⟨t1, t2, t3⟩ := tr8.lt _ (List.mem_of_getElem? eab)
      have t1 : b' < a := t1
      have t3 : a < n := t3
      have jl : j < 60 := by
        have := (List.getElem?_eq_some_iff.mp eab).1
        omega
      have at_ : ∀ x, x < n → atI (ints_ nm) ((x : Nat) : Int) = some (.int (nm.getD x 0 : Nat)) := fun x hx' => by
        refine atI_nat ?_
        unfold ints_
        rw [List.getElem?_map, List.getElem?_eq_getElem (by omega), List.getD_eq_getElem?_getD, List.getElem?_eq_getElem (by omega)]
        rfl
      have hN9 := e _ _ hN8
      refine ⟨t, [.int (a : Nat), .int (b' : Nat)], rfl, .inl (.inl (e _ _ hl)), rfl, _, _, rfl, _, _, rfl, rfl, rfl, ?_⟩
      refine ⟨_, rfl, _, rfl, N0, _, _, _, rfl, rfl, .inl (.inl hN9), at_ a t3, _, rfl, _, rfl, N0, _, _, _, rfl, rfl, .inl (.inl hN9), at_ b' (by omega), _, _, rfl, ?_⟩
      refine ⟨_, rfl, _, rfl, N0, _, _, _, rfl, rfl, .inl (.inl hN9), at_ a t3, _, rfl, _, rfl, N0, _, _, _, rfl, rfl, .inl (.inl hN9), at_ b' (by omega), _, _, rfl, ?_⟩
      refine ⟨by show 2 ≤ sizeLine; decide, fun u nu => ?_⟩
      have nDu : D ≠ u := ne_of_none hD2 nu
      refine ⟨_, by rw [upd_ne nDu]; exact hD2, by rw [List.length_map]; exact small1000 (by omega), fun b o hb => ?_, us ++ [u], by rw [upd_same, List.map_append]; rfl, ?_, by rw [List.length_append, List.length_singleton]; omega⟩
      · have h1 := e _ _ hb
        rw [upd_ne (ne_of_none hb hD), upd_ne (ne_of_none h1 nu)]
        exact h1
      · rw [List.take_add_one, eab, List.map_append]
        unfold pairs at tD ⊢
        rw [List.map_append]
        refine (tD.mono fun b xs hb => ?_).append (.cons ?_ .nil)
        · rw [upd_ne (fun z => by rw [z, hD2] at hb; cases hb), upd_ne (ne_of_none hb nu)]
          exact hb
        · have m1 : ∀ x y : Nat, (if (y : Int) < (x : Int) then (y : Int) else (x : Int)) = ((min x y : Nat) : Int) := fun x y => by split <;> omega
          have m2 : ∀ x y : Nat, (if (y : Int) > (x : Int) then (y : Int) else (x : Int)) = ((max x y : Nat) : Int) := fun x y => by split <;> omega
          rw [upd_ne nDu.symm, upd_same, m1, m2]
          rfl
    obtain ⟨e9, us, hD9, tD9, lu9⟩ := pv
    rw [List.length_map, ltx, List.take_length] at tD9
    rw [List.length_map, ltx] at lu9
    have st9 := st8.same e9
    -- the lots
    refine ⟨_, rfl, _, rfl, fun rg nrg => ?_⟩
    refine ⟨rg, n, rfl, upd_same, by omega, fun l0 nl0 => ?_⟩
    have s10 : Same H9 (upd (upd H9 rg (.rng 0 n)) l0 (.lst (K7E.upTo n))) := same_new (same_new (Same.refl H9) nrg) nl0
    refine ⟨l0, n, rfl, n5, upd_same, fun H11 lo ls e11 nlo hlo tlo => ?_⟩
    have e11 := s10.trans e11
    refine ⟨lo, rfl, ⟨_, .inl (.inl hlo)⟩, fun D2 hD2 => lc_list (xs := ls.map V.ref) (fun j H2 => Same H11 H2 ∧ ∃ us, H2 D2 = some (.lst (us.map V.ref)) ∧ TAt H2 us (((lotsTo (List.range n) n).take j).filter fun l => decide (0 < l.length) && decide (l.length < n)) ∧ us.length ≤ j) ⟨same_new (Same.refl H11) hD2, [], upd_same, .nil, Nat.le_refl _⟩ (fun j H2 _ pv => .inl (.inl (pv.1 _ _ hlo))) (fun j x H2 hx pv => ?_) (fun H12 pv => ?_)⟩
    · obtain ⟨e, us, hD3, tD, lu⟩ := pv
      rw [List.getElem?_map] at hx
      obtain ⟨t, ht, rfl⟩ := Option.map_eq_some_iff.mp hx
      obtain ⟨l, el, hl⟩ := tlo.get ht
      have jl : j < 32 := by
        have h1 := (List.getElem?_eq_some_iff.mp el).1
        have h2 : (lotsTo (List.range n) n).length ≤ 32 := (level_len ⟨n, by omega⟩ ⟨n, by omega⟩).2
        omega
      have hll : (l.map fun c => V.int (c : Nat)).length = l.length := List.length_map ..
      have hl2 := e _ _ hl
      have f1 : ((lotsTo (List.range n) n).take (j + 1)).filter (fun l => decide (0 < l.length) && decide (l.length < n)) = ((lotsTo (List.range n) n).take j).filter (fun l => decide (0 < l.length) && decide (l.length < n)) ++ (if (decide (0 < l.length) && decide (l.length < n)) = true then [l] else []) := by
        rw [List.take_add_one, el, List.filter_append]
        congr 1
        show List.filter _ [l] = _
        rw [List.filter_cons]
        rfl
      refine ⟨rfl, _, rfl, t, _, rfl, .inr (.inl (.inl hl2)), _, _, rfl, rfl, _, rfl, ite2 (fun q1 => ?_) (fun q1 => ?_)⟩
      · have q1' : 0 < l.length := by
          have z : (0 : Int) < (((l.map fun c => V.int (c : Nat)).length : Nat) : Int) := of_decide_eq_true q1
          omega
        refine ⟨_, rfl, _, _, rfl, rfl, _, rfl, ite2 (fun q2 => ?_) (fun q2 => ?_)⟩
        · have q2' : l.length < n := by
            have z : (((l.map fun c => V.int (c : Nat)).length : Nat) : Int) < (n : Nat) := of_decide_eq_true q2
            omega
          refine ⟨_, rfl, _, hD3, by rw [List.length_map]; exact small1000 (by omega), fun b o hb => ?_, us ++ [t], by rw [upd_same, List.map_append]; rfl, ?_, by rw [List.length_append, List.length_singleton]; omega⟩
          · rw [upd_ne (ne_of_none hb hD2)]
            exact e _ _ hb
          · rw [f1, if_pos (by rw [decide_eq_true q1', decide_eq_true q2']; rfl)]
            have up : ∀ b xs, H2 b = some (.tup xs) → upd H2 D2 (.lst (us.map V.ref ++ [.ref t])) b = some (.tup xs) := fun b xs hb => by
              rw [upd_ne (fun z => by rw [z, hD3] at hb; cases hb)]
              exact hb
            exact (tD.mono up).append (.cons (up _ _ hl2) .nil)
        · have q2' : ¬ l.length < n := fun z => q2 (decide_eq_true (by omega))
          refine ⟨e, us, hD3, ?_, by omega⟩
          rw [f1, if_neg (by rw [decide_eq_false q2', Bool.and_false]; decide), List.append_nil]
          exact tD
      · have q1' : ¬ 0 < l.length := fun z => q1 (decide_eq_true (by omega))
        refine ⟨_, rfl, iteF ?_⟩
        refine ⟨e, us, hD3, ?_, by omega⟩
        rw [f1, if_neg (by rw [decide_eq_false q1', Bool.false_and]; decide), List.append_nil]
        exact tD
    obtain ⟨e12, vs, hD12, tD12, lv12⟩ := pv
    have e12 := e11.trans e12
    have lsl : ls.length = (lotsTo (List.range n) n).length := tlo.len
    rw [List.length_map, lsl, List.take_length] at tD12
    have st12 := st9.same e12
    have hR12 := e12 _ _ hD9
    have tR12 := tD9.same e12
    -- the land
    have okl : LandOk0 n (cs.map fun e => KL.couple nm e.1 e.2) := tree_land hp tr8
    refine ⟨_, rfl, _, rfl, D, _, kfOf H12, rfl, .inl (.inl hR12), fun x hx => ?_, fun ys p srt stb np => ?_⟩
    · obtain ⟨a, e, rfl, ha⟩ := g_mem tR12 x hx
      exact ⟨a, rfl, by rw [kf_at ha]; exact ha⟩
    have hys := fun x (hx : x ∈ ys) => g_mem tR12 x (stb.perm.mem_iff.mp hx)
    obtain ⟨ts', rfl, tY⟩ := tat_of ys hys
    have pe : ((ts'.map V.ref).map (gOf H12)).Perm (cs.map fun e => KL.couple nm e.1 e.2) := by
      rw [← g_map tR12]
      exact stb.perm.map _
    have ok : LandOk n ((ts'.map V.ref).map (gOf H12)) := ⟨fun e he => okl.lt e (pe.mem_iff.mp he), pe.nodup_iff.mpr okl.nd, sorted_of _ hys srt, fun S h0 hS => okl.conn S h0 fun e he => hS e (pe.mem_iff.mpr he)⟩
    have s13 := same_new (o := .lst (ts'.map V.ref)) (Same.refl H12) np
    obtain ⟨hph, _⟩ := st12.hand.ne np
    have st13 := st12.same s13
    have hp13 : upd H12 p (.lst (ts'.map V.ref)) p = some (.lst (ts'.map V.ref)) := upd_same
    have tY13 := tY.same s13
    have hD13 := s13 _ _ hD12
    have tD13 := tD12.same s13
    generalize (ts'.map V.ref).map (gOf H12) = es at ok tY13 pe tY
    generalize upd H12 p (.lst (ts'.map V.ref)) = H13 at s13 st13 hp13 tY13 hD13 tD13 ⊢
    obtain ⟨k4, k0, k32⟩ := lots_some ⟨n, by omega⟩ n2
    have hvl : vs.length = ((lotsTo (List.range n) n).filter fun l => decide (0 < l.length) && decide (l.length < n)).length := tD13.len
    have k4 : vs.length ≠ 4 := by rw [hvl]; exact k4
    have k0 : 0 < vs.length := by rw [hvl]; exact k0
    have k32 : vs.length ≤ 32 := by rw [hvl]; exact k32
    refine ⟨_, rfl, _, rfl, h, c, D2, _, rfl, st13.hand, st13.hand.nel hD13 (notHand_len _ (by rw [List.length_map]; exact k4)), hD13, by rw [List.length_map]; exact k0, by rw [List.length_map]; omega, fun H14 j v d ej => ?_⟩
    rw [List.getElem?_map] at ej
    obtain ⟨t, ht, rfl⟩ := Option.map_eq_some_iff.mp ej
    obtain ⟨lot, elot, hlot⟩ := tD13.get ht
    have st14 := st13.drawn d
    have keep : ∀ {b : Addr} {xs : List V}, H13 b = some (.tup xs) → H14 b = some (.tup xs) := fun {b xs} hb => by rw [d.but b (st13.hand.net hb)]; exact hb
    have hp14 : H14 p = some (.lst (ts'.map V.ref)) := by rw [d.but p hph]; exact hp13
    have tY14 := tY13.mono fun b xs hb => keep hb
    refine ⟨t, _, rfl, .inr (.inl (.inl (keep hlot))), fun sA nsA => ?_⟩
    refine ⟨by show 3 ≤ sizeLine; decide, fun q0 nq0 => ?_⟩
    have s15 := same_new (o := .lst (lot.map fun c => .int (c : Nat))) (Same.refl H14) nsA
    have s16 := same_new (o := .tup [.int (n : Nat), .ref p, .ref sA]) s15 nq0
    have nsq : sA ≠ q0 := ne_of_none (show upd H14 sA (.lst (lot.map fun c => .int (c : Nat))) sA = some (.lst (lot.map fun c => .int (c : Nat))) from upd_same) nq0
    have hmem := List.mem_filter.mp (List.mem_of_getElem? elot)
    obtain ⟨hm1, hm2⟩ := hmem
    have hm2 := Bool.and_eq_true_iff.mp hm2
    exact q _ q0 es lot (st14.same s16) ((st14.same s15).free nq0) ⟨⟨p, sA, ts', upd_same, s16 _ _ hp14, tY14.same s16, by rw [upd_ne nsq, upd_same]; rfl⟩, ok, hm1, of_decide_eq_true hm2.1, of_decide_eq_true hm2.2⟩
end
end K7
end
/-! ## P4 -/
section
open PySem PySem.Spec PyProof.Rows L2
namespace K7
abbrev N_is_whole : List Str := ["thing", "low", "high"]
abbrev s_is_whole : Stmt := topS 9
theorem sc_is_whole : FnScope ["thing", "low", "high"] ["thing", "low", "high"] (defScope s_is_whole) := ⟨rfl, rfl, rfl, by decide +kernel, rfl, by decide +kernel, by decide +kernel⟩
abbrev N_is_sequence : List Str := ["thing"]
abbrev s_is_sequence : Stmt := topS 8
theorem sc_is_sequence : FnScope ["thing"] ["thing"] (defScope s_is_sequence) := ⟨rfl, rfl, rfl, by decide +kernel, rfl, by decide +kernel, by decide +kernel⟩
section
variable {P : Program} {w : World} {K : PySem.W.Frag} {mg : Str → Option Value} {base : Heap}
/-! is_whole -/
def wholeV (x : V) (lo hi : Int) : Bool := match x with
  | .int i => decide (lo ≤ i) && decide (i ≤ hi)
  | _ => false
theorem wholeV_int (i lo hi : Int) : wholeV (.int i) lo hi = (decide (lo ≤ i) && decide (i ≤ hi)) := rfl
inductive Flat4 : V → Prop where
  | non : Flat4 .non
  | bl (b : Bool) : Flat4 (.bl b)
  | int (i : Int) : Flat4 (.int i)
  | str (z : Str) : Flat4 (.str z)
/-- what a row of the law holds -/
inductive Thing (H : Hp) : V → Prop where
  | flat {x : V} (h : Flat4 x) : Thing H x
  | tup {a : Addr} {xs : List V} (h : H a = some (.tup xs)) : Thing H (.ref a)
  | lst {a : Addr} {xs : List V} (h : H a = some (.lst xs)) : Thing H (.ref a)
theorem Thing.same {H H' : Hp} {x : V} (h : Thing H x) (e : Same H H') : Thing H' x := by
  cases h with
  | flat h => exact .flat h
  | tup h => exact .tup (e _ _ h)
  | lst h => exact .lst (e _ _ h)
def spWhole : Sp := fun vs H Q _ => ∃ (x : V) (lo hi : Int), vs = [x, .int lo, .int hi] ∧ Thing H x ∧ Q (.bl (wholeV x lo hi)) H
theorem ok_whole {f : Addr} {fd : FuncData} (F : Fun K "is_whole" "is_whole" s_is_whole f fd) (m_isinstance : mg "isinstance" = none) (m_int : mg "int" = none) (m_bool : mg "bool" = none) : FnOk P w K mg base CX0 1 f fd ["thing", "low", "high"] spWhole := by
  refine F.ok sc_is_whole (fun vs H Q E h => ?_) (fun cdv A outer s H vs Q E hr h => ?_)
  · obtain ⟨x, lo, hi, rfl, _⟩ := h
    rfl
  · obtain ⟨x, lo, hi, rfl, hx, q⟩ := h
    refine ⟨_, (pss_one (ps_ret (pe_and (pe_callB call_isi (by rfl) m_isinstance boot_isinstance (pa_cons (pv 0) (pa_cons (pe_bltn (v := .ty "int") (by rfl) m_int boot_int rfl) pa_nil))) (pe_and (pe_not (pe_callB call_isi (by rfl) m_isinstance boot_isinstance (pa_cons (pv 0) (pa_cons (pe_bltn (v := .ty "bool") (by rfl) m_bool boot_bool rfl) pa_nil)))) (pe_one (pe_chain op_le op_le (pv 1) (pv 0) (pv 2))))))), ?_⟩
    rcases hx with ⟨hx⟩ | hx | hx
    rotate_left
    · exact ⟨_, rfl, _, _, _, _, _, rfl, .ty _, .base (.tup hx), kit_ty (r := false) (by decide +kernel), false, rfl, q⟩
    · exact ⟨_, rfl, _, _, _, _, _, rfl, .ty _, .base (.lst hx), kit_ty (r := false) (by decide +kernel), false, rfl, q⟩
    cases hx with
    | non => exact ⟨_, rfl, _, _, _, _, _, rfl, .ty _, .base .non, kit_ty (r := false) (by decide +kernel), false, rfl, q⟩
    | bl b => 
      refine ⟨_, rfl, _, _, _, _, _, rfl, .ty _, .base (.bl b), kit_ty (r := true) (by decide +kernel), true, rfl, ?_⟩
      exact ⟨_, rfl, _, _, _, _, _, rfl, .ty _, .base (.bl b), kit_ty (r := true) (by decide +kernel), _, rfl, _, rfl, q⟩
    | str z => exact ⟨_, rfl, _, _, _, _, _, rfl, .ty _, .base (.str z), kit_ty (r := false) (by decide +kernel), false, rfl, q⟩
    | int i =>
      refine ⟨_, rfl, _, _, _, _, _, rfl, .ty _, .base (.int i), kit_ty (r := true) (by decide +kernel), true, rfl, ?_⟩
      refine ⟨_, rfl, _, _, _, _, _, rfl, .ty _, .base (.int i), kit_ty (r := false) (by decide +kernel), _, rfl, _, rfl, ?_⟩
      refine ⟨_, rfl, _, rfl, _, _, rfl, rfl, _, rfl, ite2 (fun e => ?_) (fun e => ?_)⟩
      · rw [wholeV_int, e, Bool.true_and] at q
        exact ⟨_, rfl, _, _, rfl, rfl, q⟩
      · rw [wholeV_int, Bool.eq_false_iff.mpr e, Bool.false_and] at q
        exact q

/-! is_sequence -/
/-- a tuple or a list -/
def SqA (K : PySem.W.Frag) (H : Hp) (a : Addr) (xs : List V) : Prop := SqL K H a xs ∨ SqT K H a xs
def spSeq (K : PySem.W.Frag) : Sp := fun vs H Q _ => ∃ (x : V) (t : String) (b : Bool), vs = [x] ∧ (∀ H1, Same H H1 → TyX K H1 x (.type t)) ∧ PySem.W.kitAny K (.type t) [.type "list", .type "tuple"] = some b ∧ ∀ H1, Same H H1 → Q (.bl b) H1
theorem ok_seq {f : Addr} {fd : FuncData} (F : Fun K "is_sequence" "is_sequence" s_is_sequence f fd) (m_isinstance : mg "isinstance" = none) (m_list : mg "list" = none) (m_tuple : mg "tuple" = none) : FnOk P w K mg base CX0 1 f fd ["thing"] (spSeq K) := by
  refine F.ok sc_is_sequence (fun vs H Q E h => ?_) (fun cdv A outer s H vs Q E hr h => ?_)
  · obtain ⟨x, t, b, rfl, _⟩ := h
    rfl
  · obtain ⟨x, t, b, rfl, ty, k, q⟩ := h
    refine ⟨_, (pss_one (ps_ret (pe_callB call_isiT (by rfl) m_isinstance boot_isinstance (pa_cons (pv 0) (pa_cons (pe_tup (pa_cons (pe_bltn (v := .ty "list") (by rfl) m_list boot_list rfl) (pa_cons (pe_bltn (v := .ty "tuple") (by rfl) m_tuple boot_tuple rfl) pa_nil))) pa_nil))))), ?_⟩
    refine ⟨_, rfl, by show 2 ≤ sizeLine; decide, fun tp np => ?_⟩
    have s1 := same_new (o := .tup [.ty "list", .ty "tuple"]) (Same.refl H) np
    exact ⟨x, tp, _, .type t, _, b, rfl, upd_same, .cons (.ty _) (.cons (.ty _) .nil), ty _ s1, k, q _ s1⟩
theorem any_tup : PySem.W.kitAny K (.type "tuple") [.type "list", .type "tuple"] = some true := kitAny_cons (b := false) (kit_ty (by decide +kernel)) (fun _ => kitAny_cons (b := true) (kit_ty (by decide +kernel)) (fun z => nomatch z) (fun _ => rfl)) (fun z => nomatch z)
theorem any_lst : PySem.W.kitAny K (.type "list") [.type "list", .type "tuple"] = some true := kitAny_cons (b := true) (kit_ty (by decide +kernel)) (fun z => nomatch z) (fun _ => rfl)
theorem any_int : PySem.W.kitAny K (.type "int") [.type "list", .type "tuple"] = some false := kitAny_cons (b := false) (kit_ty (by decide +kernel)) (fun _ => kitAny_cons (b := false) (kit_ty (by decide +kernel)) (fun _ => kitAny_nil) (fun z => nomatch z)) (fun z => nomatch z)
theorem any_str : PySem.W.kitAny K (.type "str") [.type "list", .type "tuple"] = some false := kitAny_cons (b := false) (kit_ty (by decide +kernel)) (fun _ => kitAny_cons (b := false) (kit_ty (by decide +kernel)) (fun _ => kitAny_nil) (fun z => nomatch z)) (fun z => nomatch z)
theorem any_non : PySem.W.kitAny K (.type "NoneType") [.type "list", .type "tuple"] = some false := kitAny_cons (b := false) (kit_ty (by decide +kernel)) (fun _ => kitAny_cons (b := false) (kit_ty (by decide +kernel)) (fun _ => kitAny_nil) (fun z => nomatch z)) (fun z => nomatch z)
theorem any_bool : PySem.W.kitAny K (.type "bool") [.type "list", .type "tuple"] = some false := kitAny_cons (b := false) (kit_ty (by decide +kernel)) (fun _ => kitAny_cons (b := false) (kit_ty (by decide +kernel)) (fun _ => kitAny_nil) (fun z => nomatch z)) (fun z => nomatch z)
end
end K7
end
/-! ## EL -/
section
open PySem PySem.Spec PyProof.Rows L2
namespace K7E
theorem nodup_le {α : Type} [DecidableEq α] : ∀ (l D : List α), l.Nodup → (∀ x ∈ l, x ∈ D) → l.length ≤ D.length
  | [], _, _, _ => Nat.zero_le _
  | x :: l, D, h, m => by
    obtain ⟨h1, h2⟩ := List.nodup_cons.mp h
    have hx := m x List.mem_cons_self
    have z := nodup_le l (D.erase x) h2 fun y hy => (List.mem_erase_of_ne (fun (e : y = x) => h1 (by rw [← e]; exact hy))).mpr (m y (List.mem_cons_of_mem _ hy))
    rw [List.length_erase_of_mem hx] at z
    have := List.length_pos_of_mem hx
    rw [List.length_cons]
    omega
theorem nodup_of_le {α : Type} [DecidableEq α] : ∀ (l D : List α), l.Nodup → (∀ x ∈ l, x ∈ D) → D.length ≤ l.length → D.Nodup
  | [], [], _, _, _ => List.nodup_nil
  | [], _ :: _, _, _, z => absurd z (by rw [List.length_cons, List.length_nil]; omega)
  | x :: l, D, h, m, z => by
    obtain ⟨h1, h2⟩ := List.nodup_cons.mp h
    have hx := m x List.mem_cons_self
    have hl := List.length_erase_of_mem hx
    have sub : ∀ y ∈ l, y ∈ D.erase x := fun y hy => (List.mem_erase_of_ne (fun (e : y = x) => h1 (by rw [← e]; exact hy))).mpr (m y (List.mem_cons_of_mem _ hy))
    rw [List.length_cons] at z
    have hp := List.length_pos_of_mem hx
    have hd := nodup_of_le l (D.erase x) h2 sub (by omega)
    rw [(List.perm_cons_erase hx).nodup_iff, List.nodup_cons]
    refine ⟨fun hm => ?_, hd⟩
    have w := nodup_le (x :: l) (D.erase x) h fun y hy => by
      rcases List.mem_cons.mp hy with rfl | hy
      · exact hm
      · exact sub y hy
    rw [List.length_cons] at w
    omega
section
variable {X : Cx}
/-- len(set(x)), x a tuple of ints: how many there are of them, and all of them only if no two are the same -/
def tLenSetT (K : PySem.W.Frag) (ta : TE) : TE := fun σ H Q => ta σ H fun x H1 => ∃ (l : Addr) (ns : List Int), x = V.ref l ∧ SqT K H1 l (ns.map V.int) ∧ ns.length < 64 ∧ ∀ c : Nat, c ≤ ns.length → (c = ns.length ↔ ns.Nodup) → Q (.int c) H1
theorem pe_lenSetT {a : Expr} {ta : TE} {p p2 q pos : Pos} (hc : X.calm = true) (hg : Gl X "len") (hm : X.mg "len" = none) (hg2 : Gl X "set") (hm2 : X.mg "set" = none) (ha : PE X a ta)
    (na : starEach [a] X.env = (false, eval a X.env) :: starEach [] X.env := by rfl) : PE X (.Call (.Name "len" p) [.Call (.Name "set" p2) [a] [] q] [] pos) (tLenSetT X.K ta) := by
  refine ⟨fun pins s σ H Q I h => ?_⟩
  refine Call_ (ld_blt I hg hm PySem.boot_len ?_)
  refine PyProof.Rows.callWith_builtin1 (PyProof.Rows.args_cons ?_ rfl) rfl rfl
  refine Call_ (ld_blt I hg2 hm2 PyProof.Rows.boot_set ?_)
  refine PyProof.Rows.callWith_type1 (PyProof.Rows.args_cons (thn (ha.run pins s σ H _ I h) fun v s1 ⟨x, H1, I1, r1, q1⟩ => PyProof.Rows.args_nil ?_) na) na rfl
  obtain ⟨l, ns, rfl, hq, h1, q1⟩ := q1
  cases r1
  obtain ⟨its, r, pl, hz⟩ := I1.tuple hq
  have hi : IntsAre its.toArray.toList ns := ints_of_vals r
  refine call_set_tupI ns (I1.ok.hd hc) (show s1.heap.IsTuple l its.toArray from pl) hi (by unfold scanBound; omega) fun h' tk c hS hcn hk => ?_
  refine PyProof.Rows.args_nil ?_
  obtain ⟨o, es, ep, t, ho, hex, hd, g, nd, hm2, hb, hf, hn, hr, hl2⟩ := hS
  have I2 : Inv X pins σ H1 { s1 with heap := h', toks := tk } := I1.kept fun b o e => hk b o e
  have hmem : ∀ k, k ∈ es.toList.map keyOf ↔ k ∈ ns := fun k => by rw [← hm2 k, decide_eq_true_eq]
  have hlen : (es.toList.map keyOf).length = c := by rw [List.length_map, Array.length_toList, hn]
  have key : c = ns.length ↔ ns.Nodup := by
    constructor
    · intro e
      exact nodup_of_le _ _ nd (fun k hk => (hmem k).mp hk) (by rw [hlen, e]; exact Nat.le_refl _)
    · intro hn2
      have w := nodup_le _ _ hn2 fun k hk => (hmem k).mpr hk
      rw [hlen] at w
      omega
  refine call_len_set ho hex hd hf (by rw [hn] <;> omega) ⟨.int c, H1, I2.tok _, ⟨_, by rw [hn]⟩, q1 c hcn key⟩
/-- the same over a list -/
theorem firstMet_nd (val : Nat → Int) : ∀ i, (firstMet val i).Nodup
  | 0 => List.nodup_nil
  | i + 1 => by
    rw [firstMet_succ]
    unfold step_dedup
    split
    · exact firstMet_nd val i
    · rename_i h
      refine List.nodup_append.mpr ⟨firstMet_nd val i, List.nodup_cons.mpr ⟨List.not_mem_nil, List.nodup_nil⟩, fun a ha b hb e => h ?_⟩
      rw [List.mem_singleton] at hb
      exact List.any_eq_true.mpr ⟨a, ha, by rw [e, hb]; exact beq_self_eq_true _⟩
theorem firstMet_mem (ns : List Int) (k : Int) : k ∈ firstMet (fun i => ns.getD i 0) ns.length ↔ k ∈ ns := by
  have e := firstMet_any (fun i => ns.getD i 0) ns.length k
  have em : (List.range ns.length).map (fun i => ns.getD i 0) = ns := by
    refine List.ext_getElem (by rw [List.length_map, List.length_range]) fun j h1 h2 => ?_
    rw [List.getElem_map, List.getElem_range, List.getD_eq_getElem?_getD, List.getElem?_eq_getElem h2]
    rfl
  rw [em] at e
  have w : ∀ l : List Int, l.any (· == k) = true ↔ k ∈ l := fun l => by
    rw [List.any_eq_true]
    exact ⟨fun ⟨x, hx, ex⟩ => by rw [← beq_iff_eq.mp ex]; exact hx, fun hx => ⟨k, hx, beq_self_eq_true _⟩⟩
  rw [← w, ← w, e]
def tLenSetL (K : PySem.W.Frag) (ta : TE) : TE := fun σ H Q => ta σ H fun x H1 => ∃ (l : Addr) (ns : List Int), x = V.ref l ∧ SqL K H1 l (ns.map V.int) ∧ ns.length < 64 ∧ ∀ c : Nat, c ≤ ns.length → (c = ns.length ↔ ns.Nodup) → Q (.int c) H1
theorem pe_lenSetL {a : Expr} {ta : TE} {p p2 q pos : Pos} (hc : X.calm = true) (hg : Gl X "len") (hm : X.mg "len" = none) (hg2 : Gl X "set") (hm2 : X.mg "set" = none) (ha : PE X a ta)
    (na : starEach [a] X.env = (false, eval a X.env) :: starEach [] X.env := by rfl) : PE X (.Call (.Name "len" p) [.Call (.Name "set" p2) [a] [] q] [] pos) (tLenSetL X.K ta) := by
  refine ⟨fun pins s σ H Q I h => ?_⟩
  refine Call_ (ld_blt I hg hm PySem.boot_len ?_)
  refine PyProof.Rows.callWith_builtin1 (PyProof.Rows.args_cons ?_ rfl) rfl rfl
  refine Call_ (ld_blt I hg2 hm2 PyProof.Rows.boot_set ?_)
  refine PyProof.Rows.callWith_type1 (PyProof.Rows.args_cons (thn (ha.run pins s σ H _ I h) fun v s1 ⟨x, H1, I1, r1, q1⟩ => PyProof.Rows.args_nil ?_) na) na rfl
  obtain ⟨l, ns, rfl, hq, h1, q1⟩ := q1
  cases r1
  obtain ⟨its, r, pl, hz⟩ := I1.list hq
  have hl : its.toArray.size = ns.length := by rw [List.size_toArray, ← r.length, List.length_map]
  refine call_set_list (I1.ok.hd hc) pl.isList (ns := ns) (by simpa using r.ints) (by unfold scanBound; omega) fun h' tk hS hk => ?_
  rw [hl] at hS
  have nd := firstMet_nd (fun i => ns.getD i 0) ns.length
  have mm := firstMet_mem ns
  have hcn := firstMet_length_le (fun i => ns.getD i 0) ns.length
  generalize firstMet (fun i => ns.getD i 0) ns.length = L at hS nd mm hcn
  refine PyProof.Rows.args_nil ?_
  obtain ⟨o, es, ep, t, ho, hex, hd, _, _, _, hf, hn⟩ := hS
  have I2 : Inv X pins σ H1 { s1 with heap := h', toks := tk } := I1.kept fun b o e => hk b o (Heap.lt_size e) e
  have key : L.length = ns.length ↔ ns.Nodup := by
    constructor
    · intro e
      exact nodup_of_le _ _ nd (fun k hk => (mm k).mp hk) (by rw [e]; exact Nat.le_refl _)
    · intro hn2
      have w := nodup_le _ _ hn2 fun k hk => (mm k).mpr hk
      omega
  refine call_len_set ho hex hd hf (by rw [hn] <;> omega) ⟨.int L.length, H1, I2.tok _, ⟨_, by rw [hn]⟩, q1 _ hcn key⟩
/-- one of two readings -/
theorem pe_either {e : Expr} {t1 t2 : TE} (a : PE X e t1) (b : PE X e t2) : PE X e (fun σ H Q => t1 σ H Q ∨ t2 σ H Q) := ⟨fun pins s σ H Q I h => h.elim (a.run pins s σ H Q I) (b.run pins s σ H Q I)⟩
theorem pi_either {tg e : Expr} {t1 t2 : TI} (a : PI X tg e t1) (b : PI X tg e t2) : PI X tg e (fun σ H R => t1 σ H R ∨ t2 σ H R) := ⟨fun pins s σ H R I h => h.elim (a.run pins s σ H R I) (b.run pins s σ H R I)⟩
end
end K7E
end
/-! ## P5 -/
section
open PySem PySem.Spec PyProof.Rows L2
namespace K7
abbrev N_are_cells : List Str := ["many", "thing", "least", "cell"]
abbrev s_are_cells : Stmt := topS 10
theorem sc_are_cells : FnScope ["many", "thing", "least", "cell"] ["many", "thing", "least"] (defScope s_are_cells) := ⟨rfl, rfl, rfl, by decide +kernel, rfl, by decide +kernel, by decide +kernel⟩
section
variable {P : Program} {w : World} {K : PySem.W.Frag} {mg : Str → Option Value} {base : Heap}
def intOf : V → Int | .int i => i | _ => 0
/-- what are_cells says of a row -/
def cellsV (many : Int) (xs : List V) (least : Int) : Bool := decide (least ≤ (xs.length : Nat)) && xs.all (fun x => wholeV x 0 (many - 1)) && decide (xs.map intOf).Nodup
theorem whole_int {x : V} {lo hi : Int} (h : wholeV x lo hi = true) : x = .int (intOf x) := by
  unfold wholeV at h
  split at h
  · rfl
  · cases h
def spCells (K : PySem.W.Frag) : Sp := fun vs H Q _ => ∃ (many : Int) (x : V) (least : Int), vs = [.int many, x, .int least] ∧
  ((∃ t : String, (∀ H1, Same H H1 → TyX K H1 x (.type t)) ∧ PySem.W.kitAny K (.type t) [.type "list", .type "tuple"] = some false ∧ ∀ H1, Same H H1 → Q (.bl false) H1) ∨
   (∃ (a : Addr) (xs : List V), x = .ref a ∧ (H a = some (.tup xs) ∨ H a = some (.lst xs)) ∧ (∀ y ∈ xs, Thing H y) ∧ xs.length < 64 ∧ ∀ H1, Same H H1 → Q (.bl (cellsV many xs least)) H1))
theorem ok_cells {f fS fW : Addr} {fd fdS fdW : FuncData} (F : Fun K "are_cells" "are_cells" s_are_cells f fd)
    (Gsq : FnOk P w K mg base CX0 1 fS fdS ["thing"] (spSeq K)) (gsq : mg "is_sequence" = some (.ref fS)) (ksq : PySem.W.keepIn K (.ref fS) = true) (bsq : Binds K fdS ["thing"] [])
    (Giw : FnOk P w K mg base CX0 1 fW fdW ["thing", "low", "high"] spWhole) (giw : mg "is_whole" = some (.ref fW)) (kiw : PySem.W.keepIn K (.ref fW) = true) (biw : Binds K fdW ["thing", "low", "high"] [])
    (m_len : mg "len" = none) (m_set : mg "set" = none) (m_all : mg "all" = none) : FnOk P w K mg base CX0 2 f fd ["many", "thing", "least"] (spCells K) := by
  refine F.ok sc_are_cells (fun vs H Q E h => ?_) (fun cdv A outer s H vs Q E hr h => ?_)
  · obtain ⟨m, x, l, rfl, _⟩ := h
    rfl
  · obtain ⟨m, x, l, rfl, h⟩ := h
    refine ⟨_, (pss_cons (ps_if (pw_or (pt_not (pt_val (pe_call Gsq (hr.mono (by decide)) (by rfl) gsq ksq bsq .nil pass0 (pa_cons (pv 1) pa_nil)))) (pw_or1 (pt_cmpR op_lt (pe_callB call_len_seq (by rfl) m_len boot_len (pa_cons (pv 1) pa_nil)) (pv 2) (nomark _)))).pt
  (pss_one (ps_ret pe_bl))
  pss_nil)
 (pss_cons (ps_if (pt_not (pt_val (pe_callB (cr_all rfl) (by rfl) m_all boot_all (pa_cons (pe_lc (own := [("cell", 3)]) (g := gName 3) (tt := tYes) rfl sc_are_cells.nd (K7E.pi_either (pi_tup (pv 1)) (pi_list (pv 1))) (blkOk_by (own := [("cell", 3)]) (N := N_are_cells) (sc := defScope s_are_cells) (by decide +kernel)) (fun _ _ _ _ _ => (pg_name (i := 3) sc_are_cells.nd rfl (by first | exact Or.inl rfl | exact Or.inr rfl))) (fun _ _ _ _ _ => pts_nil) (fun _ _ _ _ _ => (pe_call Giw (hr.mono (by decide)) (by rfl) giw kiw biw .nil pass0 (pa_cons (pv 3) (pa_cons pe_int (pa_cons (pe_op op_sub (pv 0) pe_int) pa_nil)))))) pa_nil))))
  (pss_one (ps_ret pe_bl))
  pss_nil)
 (pss_one (ps_ret (pe_cmpR op_eq (K7E.pe_either (K7E.pe_lenSetT rfl (by rfl) m_len (by rfl) m_set (pv 1)) (K7E.pe_lenSetL rfl (by rfl) m_len (by rfl) m_set (pv 1))) (pe_callB call_len_seq (by rfl) m_len boot_len (pa_cons (pv 1) pa_nil)) (nomark _)))))), ?_⟩
    rcases h with ⟨t, ty, k, q⟩ | ⟨a, xs, rfl, ha, th, h64, q⟩
    · refine ⟨_, rfl, x, t, false, rfl, ty, k, fun H1 e1 => ?_⟩
      exact ⟨_, rfl, q H1 e1⟩
    · have sq : ∀ H1, Same H H1 → (SqL K H1 a xs ∨ SqT K H1 a xs) := fun H1 e1 => ha.elim (fun z => .inr (.inl (.inl (e1 _ _ z)))) (fun z => .inl (.inl (.inl (e1 _ _ z))))
      have ex : ∃ t : String, (∀ H1, Same H H1 → TyX K H1 (.ref a) (.type t)) ∧ PySem.W.kitAny K (.type t) [.type "list", .type "tuple"] = some true := by
        rcases ha with z | z
        · exact ⟨"tuple", fun H1 e1 => .base (.tup (e1 _ _ z)), any_tup⟩
        · exact ⟨"list", fun H1 e1 => .base (.lst (e1 _ _ z)), any_lst⟩
      obtain ⟨t, ty, kk⟩ := ex
      refine ⟨_, rfl, _, t, true, rfl, ty, kk, fun H1 e1 => ⟨_, rfl, ?_⟩⟩
      refine ⟨_, rfl, a, xs, rfl, sq H1 e1, _, rfl, _, _, rfl, rfl, _, rfl, ite2 (fun c1 => ?_) (fun c1 => ?_)⟩
      · have c1' : ((xs.length : Nat) : Int) < l := of_decide_eq_true c1
        have z := q H1 e1
        have e0 : cellsV m xs l = false := by
          unfold cellsV
          rw [decide_eq_false (show ¬ l ≤ ((xs.length : Nat) : Int) by omega), Bool.false_and, Bool.false_and]
        rw [e0] at z
        exact z
      · have c1' : ¬ ((xs.length : Nat) : Int) < l := fun z => c1 (decide_eq_true z)
        have c2 : decide (l ≤ ((xs.length : Nat) : Int)) = true := decide_eq_true (by omega)
        rcases ha with z | z
        · refine .inl ⟨_, rfl, a, rfl, ⟨xs, .inl (.inl (e1 _ _ z))⟩, fun D hD => lc_tup (xs := xs) (fun j H2 => Same H1 H2 ∧ H2 D = some (.lst (((xs.take j).map fun x => wholeV x 0 (m - 1)).map V.bl))) ⟨same_new (Same.refl H1) hD, upd_same⟩ (fun j H2 _ pv => .inl (.inl (pv.1 _ _ (e1 _ _ z)))) (fun j x H2 hx pv => ?_) (fun H2 pv => ?_)⟩
          · obtain ⟨e2, hD2⟩ := pv
            have hm := th x (List.mem_of_getElem? hx)
            have hj : j < xs.length := (List.getElem?_eq_some_iff.mp hx).1
            refine ⟨rfl, _, rfl, _, rfl, _, _, rfl, rfl, x, 0, m - 1, rfl, hm.same (e1.trans e2), _, hD2, by rw [List.length_map, List.length_map, List.length_take]; exact small1000 (by omega), fun b o hb => ?_, ?_⟩
            · rw [upd_ne (ne_of_none hb hD)]
              exact e2 _ _ hb
            · rw [upd_same, List.take_add_one, hx, List.map_append, List.map_append]
              rfl
          · obtain ⟨e2, hD2⟩ := pv
            rw [List.take_length] at hD2
            refine ⟨D, xs.map fun x => wholeV x 0 (m - 1), rfl, .inl (.inl hD2), _, rfl, ?_⟩
            have call_ : (xs.map fun x => wholeV x 0 (m - 1)).all id = xs.all fun x => wholeV x 0 (m - 1) := by rw [List.all_map]; rfl
            refine ite2 (fun c3 => ?_) (fun c3 => ?_)
            rotate_left
            · have w : xs.all (fun x => wholeV x 0 (m - 1)) = true := by
                rw [← call_]
                cases hq : (xs.map fun x => wholeV x 0 (m - 1)).all id with
                | true => rfl
                | false => exact absurd (by rw [hq]; rfl) c3
              have exs : xs = (xs.map intOf).map V.int := by
                rw [List.map_map]
                refine (List.map_id xs).symm.trans (List.map_congr_left fun y hy => ?_)
                exact whole_int (List.all_eq_true.mp w y hy)
              refine Or.inl ⟨_, rfl, a, xs.map intOf, rfl, by rw [← exs]; exact .inl (.inl (e2 _ _ (e1 _ _ z))), by rw [List.length_map]; exact h64, fun c hc1 hc2 => ?_⟩
              refine ⟨_, rfl, a, xs, rfl, sq H2 (e1.trans e2), rfl, ?_⟩
              have zz := q H2 (e1.trans e2)
              unfold cellsV at zz
              rw [c2, w, Bool.true_and, Bool.true_and] at zz
              rw [List.length_map] at hc2
              have ee : decide (V.int (c : Nat) = V.int (xs.length : Nat)) = decide (xs.map intOf).Nodup := by
                refine decide_eq_decide.mpr ⟨fun e => hc2.mp ?_, fun e => by rw [hc2.mpr e]⟩
                injection e with e
                omega
              rw [← ee] at zz
              exact zz
            · have w : xs.all (fun x => wholeV x 0 (m - 1)) = false := by
                rw [← call_]
                cases hq : (xs.map fun x => wholeV x 0 (m - 1)).all id with
                | false => rfl
                | true => rw [hq] at c3; cases c3
              have zz := q H2 (e1.trans e2)
              unfold cellsV at zz
              rw [w, Bool.and_false, Bool.false_and] at zz
              exact zz
        · refine .inr ⟨_, rfl, a, rfl, ⟨xs, .inl (.inl (e1 _ _ z))⟩, fun D hD => lc_list (xs := xs) (fun j H2 => Same H1 H2 ∧ H2 D = some (.lst (((xs.take j).map fun x => wholeV x 0 (m - 1)).map V.bl))) ⟨same_new (Same.refl H1) hD, upd_same⟩ (fun j H2 _ pv => .inl (.inl (pv.1 _ _ (e1 _ _ z)))) (fun j x H2 hx pv => ?_) (fun H2 pv => ?_)⟩
          · obtain ⟨e2, hD2⟩ := pv
            have hm := th x (List.mem_of_getElem? hx)
            have hj : j < xs.length := (List.getElem?_eq_some_iff.mp hx).1
            refine ⟨rfl, _, rfl, _, rfl, _, _, rfl, rfl, x, 0, m - 1, rfl, hm.same (e1.trans e2), _, hD2, by rw [List.length_map, List.length_map, List.length_take]; exact small1000 (by omega), fun b o hb => ?_, ?_⟩
            · rw [upd_ne (ne_of_none hb hD)]
              exact e2 _ _ hb
            · rw [upd_same, List.take_add_one, hx, List.map_append, List.map_append]
              rfl
          · obtain ⟨e2, hD2⟩ := pv
            rw [List.take_length] at hD2
            refine ⟨D, xs.map fun x => wholeV x 0 (m - 1), rfl, .inl (.inl hD2), _, rfl, ?_⟩
            have call_ : (xs.map fun x => wholeV x 0 (m - 1)).all id = xs.all fun x => wholeV x 0 (m - 1) := by rw [List.all_map]; rfl
            refine ite2 (fun c3 => ?_) (fun c3 => ?_)
            rotate_left
            · have w : xs.all (fun x => wholeV x 0 (m - 1)) = true := by
                rw [← call_]
                cases hq : (xs.map fun x => wholeV x 0 (m - 1)).all id with
                | true => rfl
                | false => exact absurd (by rw [hq]; rfl) c3
              have exs : xs = (xs.map intOf).map V.int := by
                rw [List.map_map]
                refine (List.map_id xs).symm.trans (List.map_congr_left fun y hy => ?_)
                exact whole_int (List.all_eq_true.mp w y hy)
              refine Or.inr ⟨_, rfl, a, xs.map intOf, rfl, by rw [← exs]; exact .inl (.inl (e2 _ _ (e1 _ _ z))), by rw [List.length_map]; exact h64, fun c hc1 hc2 => ?_⟩
              refine ⟨_, rfl, a, xs, rfl, sq H2 (e1.trans e2), rfl, ?_⟩
              have zz := q H2 (e1.trans e2)
              unfold cellsV at zz
              rw [c2, w, Bool.true_and, Bool.true_and] at zz
              rw [List.length_map] at hc2
              have ee : decide (V.int (c : Nat) = V.int (xs.length : Nat)) = decide (xs.map intOf).Nodup := by
                refine decide_eq_decide.mpr ⟨fun e => hc2.mp ?_, fun e => by rw [hc2.mpr e]⟩
                injection e with e
                omega
              rw [← ee] at zz
              exact zz
            · have w : xs.all (fun x => wholeV x 0 (m - 1)) = false := by
                rw [← call_]
                cases hq : (xs.map fun x => wholeV x 0 (m - 1)).all id with
                | false => rfl
                | true => rw [hq] at c3; cases c3
              have zz := q H2 (e1.trans e2)
              unfold cellsV at zz
              rw [w, Bool.and_false, Bool.false_and] at zz
              exact zz
end
end K7
end
/-! ## P6 -/
section
open PySem PySem.Spec PyProof.Rows L2
namespace K7
abbrev N_are_two_cells : List Str := ["many", "thing"]
abbrev s_are_two_cells : Stmt := topS 11
theorem sc_are_two_cells : FnScope ["many", "thing"] ["many", "thing"] (defScope s_are_two_cells) := ⟨rfl, rfl, rfl, by decide +kernel, rfl, by decide +kernel, by decide +kernel⟩
section
variable {P : Program} {w : World} {K : PySem.W.Frag} {mg : Str → Option Value} {base : Heap}
/-- what are_two_cells says of a row -/
def twoV (many : Int) (xs : List V) : Bool := cellsV many xs 2 && decide (xs.length = 2)
def spTwo (K : PySem.W.Frag) : Sp := fun vs H Q _ => ∃ (many : Int) (x : V), vs = [.int many, x] ∧
  ((∃ t : String, (∀ H1, Same H H1 → TyX K H1 x (.type t)) ∧ PySem.W.kitAny K (.type t) [.type "list", .type "tuple"] = some false ∧ ∀ H1, Same H H1 → Q (.bl false) H1) ∨
   (∃ (a : Addr) (xs : List V), x = .ref a ∧ (H a = some (.tup xs) ∨ H a = some (.lst xs)) ∧ (∀ y ∈ xs, Thing H y) ∧ xs.length < 64 ∧ ∀ H1, Same H H1 → Q (.bl (twoV many xs)) H1))
theorem ok_two {f fC : Addr} {fd fdC : FuncData} (F : Fun K "are_two_cells" "are_two_cells" s_are_two_cells f fd)
    (Gac : FnOk P w K mg base CX0 2 fC fdC ["many", "thing", "least"] (spCells K)) (gac : mg "are_cells" = some (.ref fC)) (kac : PySem.W.keepIn K (.ref fC) = true) (bac : Binds K fdC ["many", "thing", "least"] [])
    (m_len : mg "len" = none) : FnOk P w K mg base CX0 3 f fd ["many", "thing"] (spTwo K) := by
  refine F.ok sc_are_two_cells (fun vs H Q E h => ?_) (fun cdv A outer s H vs Q E hr h => ?_)
  · obtain ⟨m, x, rfl, _⟩ := h
    rfl
  · obtain ⟨m, x, rfl, h⟩ := h
    refine ⟨_, (pss_one (ps_ret (pe_and (pe_call Gac (hr.mono (by decide)) (by rfl) gac kac bac .nil pass0 (pa_cons (pv 0) (pa_cons (pv 1) (pa_cons pe_int pa_nil)))) (pe_one (pe_cmpR op_eq (pe_callB call_len_seq (by rfl) m_len boot_len (pa_cons (pv 1) pa_nil)) pe_int (nomark _)))))), ?_⟩
    refine ⟨_, rfl, _, rfl, m, x, 2, rfl, ?_⟩
    rcases h with ⟨t, ty, k, q⟩ | ⟨a, xs, rfl, ha, th, h64, q⟩
    · exact .inl ⟨t, ty, k, fun H1 e1 => ⟨false, rfl, q H1 e1⟩⟩
    · refine .inr ⟨a, xs, rfl, ha, th, h64, fun H1 e1 => ⟨_, rfl, ite2 (fun c1 => ?_) (fun c1 => ?_)⟩⟩
      · refine ⟨_, rfl, a, xs, rfl, ha.elim (fun z => .inr (.inl (.inl (e1 _ _ z)))) (fun z => .inl (.inl (.inl (e1 _ _ z)))), rfl, ?_⟩
        have zz := q H1 e1
        unfold twoV at zz
        rw [c1, Bool.true_and] at zz
        have ee : decide (V.int (xs.length : Nat) = V.int 2) = decide (xs.length = 2) := by
          refine decide_eq_decide.mpr ⟨fun e => ?_, fun e => by rw [e]; rfl⟩
          injection e with e
          omega
        rw [← ee] at zz
        exact zz
      · have zz := q H1 e1
        unfold twoV at zz
        rw [Bool.eq_false_iff.mpr c1, Bool.false_and] at zz
        exact zz
end
end K7
end
/-! ## KM -/
section
/-! ## more pure facts: couples put in order -/
namespace KL
def srt (c : Nat × Nat) : Nat × Nat := (min c.1 c.2, max c.1 c.2)
theorem srt_le (c : Nat × Nat) : (srt c).1 ≤ (srt c).2 := by unfold srt; simp only; omega
theorem srt_lt {c : Nat × Nat} (h : c.1 ≠ c.2) : (srt c).1 < (srt c).2 := by unfold srt; simp only; omega
theorem srt_of {c : Nat × Nat} (h : c.1 < c.2) : srt c = c := by
  obtain ⟨a, b⟩ := c
  unfold srt
  simp only at h ⊢
  rw [Nat.min_eq_left (by omega), Nat.max_eq_right (by omega)]
/-- two numbers put in order -/
theorem two_sorted {ms : List Int} {x y : Nat} (p : ms.Perm [(x : Int), (y : Int)]) (s : ms.Pairwise (· ≤ ·)) : ms = [((min x y : Nat) : Int), ((max x y : Nat) : Int)] := by
  have hl := p.length_eq
  match ms, hl with
  | [u, v], _ =>
    have huv : u ≤ v := (List.pairwise_cons.mp s).1 v (List.mem_singleton.mpr rfl)
    have hu : u ∈ [(x : Int), (y : Int)] := p.mem_iff.mp List.mem_cons_self
    rcases List.mem_cons.mp hu with e | e
    · subst e
      have := (List.Perm.cons_inv p).eq_singleton
      injection this with e
      subst e
      have hxy : x ≤ y := by omega
      rw [Nat.min_eq_left hxy, Nat.max_eq_right hxy]
    · rw [List.mem_singleton] at e
      subst e
      have p2 : [(y : Int), v].Perm [(y : Int), (x : Int)] := p.trans (List.Perm.swap ..)
      have := (List.Perm.cons_inv p2).eq_singleton
      injection this with e
      subst e
      have hxy : y ≤ x := by omega
      rw [Nat.min_eq_right hxy, Nat.max_eq_left hxy]
def lexLe (a b : Nat × Nat) : Prop := a.1 < b.1 ∨ (a.1 = b.1 ∧ a.2 ≤ b.2)
/-- a sorted list is told by its items -/
theorem uniq {α : Type} {le : α → α → Prop} (anti : ∀ a b, le a b → le b a → a = b) : ∀ {l m : List α}, l.Perm m → l.Pairwise le → m.Pairwise le → l = m
  | [], m, p, _, _ => p.symm.eq_nil.symm
  | x :: l, [], p, _, _ => absurd p.length_eq (by simp)
  | x :: l, y :: m, p, hl, hm => by
    have e : x = y := by
      rcases List.mem_cons.mp (p.mem_iff.mp (List.mem_cons_self (a := x) (l := l))) with e | hx
      · exact e
      · rcases List.mem_cons.mp (p.mem_iff.mpr (List.mem_cons_self (a := y) (l := m))) with e | hy
        · exact e.symm
        · exact anti _ _ ((List.pairwise_cons.mp hl).1 y hy) ((List.pairwise_cons.mp hm).1 x hx)
    subst e
    rw [uniq anti p.cons_inv (List.pairwise_cons.mp hl).2 (List.pairwise_cons.mp hm).2]
theorem lex_anti (a b : Nat × Nat) (h1 : lexLe a b) (h2 : lexLe b a) : a = b := by
  unfold lexLe at h1 h2
  exact Prod.ext (by omega) (by omega)
theorem int_anti (a b : Int) (h1 : a ≤ b) (h2 : b ≤ a) : a = b := by omega
/-- all couples of n cells -/
def allC (n : Nat) : List (Nat × Nat) := (List.range n).flatMap fun a => ((List.range n).filter fun b => decide (a ≠ b)).map fun b => (a, b)
/-- couples taken either way round hang together as the ordered ones do -/
theorem conn_srt {n : Nat} {cs es : List (Nat × Nat)} (h : Conn n cs) (hp : es.Perm (cs.map srt)) : Conn n es := by
  intro S h0 he
  refine h S h0 fun c hc => ?_
  have z := he (srt c) (hp.mem_iff.mpr (List.mem_map.mpr ⟨c, hc, rfl⟩))
  unfold srt at z
  simp only at z
  rcases Nat.le_total c.1 c.2 with q | q
  · rw [Nat.min_eq_left q, Nat.max_eq_right q] at z
    exact z
  · rw [Nat.min_eq_right q, Nat.max_eq_left q] at z
    exact z.symm
/-- what is reached from c over passing cells -/
inductive Rch (E : Nat → Nat → Prop) (ps : List Nat) (c : Nat) : Nat → Prop
  | base : Rch E ps c c
  | step {a b : Nat} (h : Rch E ps c a) (e : E a b) (p : b ∈ ps) : Rch E ps c b
theorem Rch.mono {E E' : Nat → Nat → Prop} {ps ps' : List Nat} {c x : Nat} (h : Rch E ps c x) (he : ∀ a b, E a b → E' a b) (hp : ∀ b ∈ ps, b ∈ ps') : Rch E' ps' c x := by
  induction h with
  | base => exact .base
  | step _ e p ih => exact .step ih (he _ _ e) (hp _ p)
/-- a closed list that holds c holds what is reached -/
theorem Rch.mem {E : Nat → Nat → Prop} {ps : List Nat} {c x : Nat} {fd : List Nat} (h : Rch E ps c x) (h0 : c ∈ fd) (hc : ∀ a b, a ∈ fd → E a b → b ∈ ps → b ∈ fd) : x ∈ fd := by
  induction h with
  | base => exact h0
  | step _ e p ih => exact hc _ _ ih e p
end KL
end
/-! ## P7 -/
section
open PySem PySem.Spec PyProof.Rows L2
namespace K7
abbrev N_spread : List Str := ["nearby", "cell", "passing", "found", "done", "here", "b"]
abbrev s_spread : Stmt := topS 14
theorem sc_spread : FnScope ["nearby", "cell", "passing", "found", "done", "here", "b"] ["nearby", "cell", "passing"] (defScope s_spread) := ⟨rfl, rfl, rfl, by decide +kernel, rfl, by decide +kernel, by decide +kernel⟩
theorem flat_ints : ∀ l : List Nat, (ints_ l).all flatV = true
  | [] => rfl
  | _ :: l => flat_ints l
theorem inV_ints (c : Nat) : ∀ l : List Nat, inV (.int (c : Nat)) (ints_ l) = decide (c ∈ l)
  | [] => rfl
  | y :: l => by
    show (eqV (.int (y : Nat)) (.int (c : Nat)) || inV (.int (c : Nat)) (ints_ l)) = _
    rw [inV_ints c l]
    have e : eqV (.int (y : Nat)) (.int (c : Nat)) = decide (c = y) := by
      show decide ((y : Int) = (c : Int)) = _
      exact decide_eq_decide.mpr (by omega)
    rw [e, ← Bool.decide_or]
    exact decide_eq_decide.mpr List.mem_cons.symm
section
variable {P : Program} {w : World} {K : PySem.W.Frag} {mg : Str → Option Value} {base : Heap}
def SqOf (H : Hp) (a : Addr) (xs : List V) : Prop := H a = some (.tup xs) ∨ H a = some (.lst xs)
theorem SqOf.same {H H' : Hp} {a : Addr} {xs : List V} (h : SqOf H a xs) (e : Same H H') : SqOf H' a xs := h.imp (e _ _) (e _ _)
theorem SqOf.sq {H : Hp} {a : Addr} {xs : List V} (h : SqOf H a xs) : SqL K H a xs ∨ SqT K H a xs := h.elim (fun z => .inr (.inl (.inl z))) fun z => .inl (.inl (.inl z))
def nbE (Nb : List (List Nat)) (a b : Nat) : Prop := ∃ l, Nb[a]? = some l ∧ b ∈ l
def SpInv (H : Hp) (nb pa F0 : Addr) (Nb : List (List Nat)) (ps : List Nat) (c m : Nat) (σ' : L2.St) (H' : Hp) : Prop := ∃ (fd : List Nat) (d : Nat) (y5 y6 : Option V), σ' = [some (.ref nb), some (.int (c : Nat)), some (.ref pa), some (.ref F0), some (.int (d : Nat)), y5, y6] ∧ But F0 H H' ∧ H' F0 = some (.lst (ints_ fd)) ∧ fd.Nodup ∧ c ∈ fd ∧ (∀ x ∈ fd, x < Nb.length) ∧ d ≤ fd.length ∧
      (∀ i a, i < d → fd[i]? = some a → ∀ l, Nb[a]? = some l → ∀ b ∈ l, b ∈ ps → b ∈ fd) ∧ m + d = Nb.length ∧ ∀ x ∈ fd, KL.Rch (nbE Nb) ps c x
/-- what spread finds: the cell, and all that is near to what is found -/
structure Found (Nb : List (List Nat)) (ps : List Nat) (c : Nat) (fd : List Nat) : Prop where
  nd : fd.Nodup
  me : c ∈ fd
  lt : ∀ x ∈ fd, x < Nb.length
  cl : ∀ a ∈ fd, ∀ l, Nb[a]? = some l → ∀ b ∈ l, b ∈ ps → b ∈ fd
  so : ∀ x ∈ fd, KL.Rch (nbE Nb) ps c x
def spSpread : Sp := fun vs H Q _ => ∃ (nb : Addr) (ts : List Addr) (Nb : List (List Nat)) (c : Nat) (pa : Addr) (ps : List Nat), vs = [.ref nb, .int c, .ref pa] ∧ H nb = some (.tup (ts.map V.ref)) ∧ TAt H ts Nb ∧ SqOf H pa (ints_ ps) ∧
  Nb.length ≤ 5 ∧ c < Nb.length ∧ (∀ l ∈ Nb, ∀ x ∈ l, x < Nb.length) ∧ ∀ H' q fd, Same H H' → H q = none → H' q = some (.lst (ints_ fd)) → Found Nb ps c fd → Q (.ref q) H'
theorem ok_spread {f : Addr} {fd : FuncData} (F : Fun K "spread" "spread" s_spread f fd) (m_len : mg "len" = none) : FnOk P w K mg base CX0 1 f fd ["nearby", "cell", "passing"] spSpread := by
  refine F.ok sc_spread (fun vs H Q E h => ?_) (fun cdv A outer s H vs Q E hr h => ?_)
  · obtain ⟨nb, ts, Nb, c, pa, ps, rfl, _⟩ := h
    rfl
  · obtain ⟨nb, ts, Nb, c, pa, ps, rfl, hnb, tN, hpa, h5, hc, hlt, q⟩ := h
    refine ⟨_, (pss_cons (ps_set (i := 3) sc_spread.nd rfl (by first | exact Or.inl rfl | exact Or.inr rfl) (pe_lst (pa_cons (pv 1) pa_nil)))
 (pss_cons (ps_set (i := 4) sc_spread.nd rfl (by first | exact Or.inl rfl | exact Or.inr rfl) pe_int)
 (pss_cons (ps_while PassesOwn.never (pt_cmpR op_lt (pv 4) (pe_callB call_len_seq (by rfl) m_len boot_len (pa_cons (pv 3) pa_nil)) (nomark _))
  (pss_cons (ps_set (i := 5) sc_spread.nd rfl (by first | exact Or.inl rfl | exact Or.inr rfl) (pe_ix ix_list (pv 3) (pv 4) (fun _ _ => rfl)))
 (pss_cons (ps_for PassesOwn.never rfl (pi_tup (pe_ix ix_tup (pv 0) (pv 5) (fun _ _ => rfl))) (pg_name (i := 6) sc_spread.nd rfl (by first | exact Or.inl rfl | exact Or.inr rfl))
  (pss_one (ps_if (pw_and (pt_cmpR op_in_seq (pv 6) (pv 2) (by with_unfolding_all rfl)) (pw_and1 (pt_cmpR op_notIn_seq (pv 6) (pv 3) (by with_unfolding_all rfl)))).pt
  (pss_one (ps_expr (pe_bm PySem.F.plainAttrs_list PySem.F.slot_list_append PySem.F.type_list_append mt_append (pv 3) (pa_cons (pv 6) pa_nil))))
  pss_nil)))
 (pss_one (ps_aug (i := 4) sc_spread.nd rfl (by first | exact Or.inl rfl | exact Or.inr rfl) pe_int ip_add)))))
 (pss_one (ps_ret (pv 3)))))), ?_⟩
    refine ⟨_, rfl, by show 1 ≤ sizeLine; decide, fun F0 nF => ?_⟩
    refine ⟨SpInv H nb pa F0 Nb ps c, ⟨Nb.length, [c], 0, none, none, rfl, ?_, upd_same, ?_, List.mem_singleton.mpr rfl, ?_, Nat.zero_le _, ?_, rfl, fun x hx => by rw [List.mem_singleton.mp hx]; exact .base⟩, fun m σ' H' wv => ?_⟩
    · exact fun b o hb e => by rw [upd_ne hb]; exact e
    · exact List.nodup_cons.mpr ⟨List.not_mem_nil, List.nodup_nil⟩
    · intro x hx
      rw [List.mem_singleton] at hx
      rw [hx]
      exact hc
    · exact fun i a hi => absurd hi (Nat.not_lt_zero _)
    · obtain ⟨fd, d, y5, y6, rfl, bt, hF, nd, hcm, lt, hd, cl, hm, so⟩ := wv
      have h1 : fd.length ≤ Nb.length := by
        have z := K7E.nodup_le fd (List.range Nb.length) nd fun x hx => List.mem_range.mpr (lt x hx)
        rw [List.length_range] at z
        exact z
      refine ⟨_, rfl, _, rfl, F0, _, rfl, .inl (.inl (.inl hF)), _, _, rfl, rfl, _, rfl, ite2 (fun c1 => ?_) (fun c1 => ?_)⟩
      · have c1' : d < fd.length := by
          have z : ((d : Nat) : Int) < (((ints_ fd).length : Nat) : Int) := of_decide_eq_true c1
          rw [show (ints_ fd).length = fd.length from List.length_map ..] at z
          omega
        refine ⟨SpInv H nb pa F0 Nb ps c (m - 1), fun σ2 H2 z => ⟨m - 1, by omega, z⟩, ?_⟩
        obtain ⟨a, ea⟩ : ∃ a, fd[d]? = some a := ⟨_, List.getElem?_eq_getElem c1'⟩
        have ma := List.mem_of_getElem? ea
        have la := lt a ma
        obtain ⟨l, el⟩ : ∃ l, Nb[a]? = some l := ⟨_, List.getElem?_eq_getElem la⟩
        have ltsl : a < ts.length := by rw [tN.len]; exact la
        obtain ⟨t, et⟩ : ∃ t, ts[a]? = some t := ⟨_, List.getElem?_eq_getElem ltsl⟩
        obtain ⟨l', el', ht⟩ := tN.get et
        have : l' = l := by rw [el] at el'; injection el' with e; exact e.symm
        subst this
        have sm : Same H H' := fun b o hb => bt b o (ne_of_none hb nF) hb
        refine ⟨_, rfl, _, rfl, F0, _, _, .int (a : Nat), rfl, rfl, .inl (.inl hF), atI_nat (by unfold ints_; rw [List.getElem?_map, ea]; rfl), ?_⟩
        refine ⟨_, rfl, _, rfl, nb, _, _, .ref t, rfl, rfl, .inl (.inl (sm _ _ hnb)), atI_nat (by rw [List.getElem?_map, et]; rfl), t, rfl, ⟨_, .inl (.inl (sm _ _ ht))⟩, for_tup (xs := ints_ l') (fun j σ2 H2 => ∃ (fd2 r : List Nat) (y6 : Option V), σ2 = [some (.ref nb), some (.int (c : Nat)), some (.ref pa), some (.ref F0), some (.int (d : Nat)), some (.int (a : Nat)), y6] ∧ But F0 H H2 ∧ H2 F0 = some (.lst (ints_ fd2)) ∧ fd2.Nodup ∧ fd2 = fd ++ r ∧ (∀ x ∈ fd2, x < Nb.length) ∧ (∀ b ∈ l'.take j, b ∈ ps → b ∈ fd2) ∧ ∀ x ∈ fd2, KL.Rch (nbE Nb) ps c x)
          ⟨fd, [], y6, rfl, bt, hF, nd, (List.append_nil _).symm, lt, fun b hb => (by cases hb), so⟩ (fun j σ2 H2 _ pv => ?_) (fun j x σ2 H2 hx pv => ?_) (fun σ2 H2 pv => ?_)⟩
        · obtain ⟨fd2, r, y6, _, bt2, _⟩ := pv
          exact .inl (.inl (bt2 t _ (ne_of_none ht nF) ht))
        · obtain ⟨fd2, r, y6, rfl, bt2, hF2, nd2, rfl, lt2, cl2, so2⟩ := pv
          have sm2 : Same H H2 := fun b o hb => bt2 b o (ne_of_none hb nF) hb
          unfold ints_ at hx
          rw [List.getElem?_map] at hx
          obtain ⟨b, eb, rfl⟩ := Option.map_eq_some_iff.mp hx
          have hbl := hlt l' (List.mem_of_getElem? el) b (List.mem_of_getElem? eb)
          have tk : l'.take (j + 1) = l'.take j ++ [b] := by rw [List.take_add_one, eb]; rfl
          refine ⟨_, rfl, _, rfl, pa, _, rfl, (hpa.same sm2).sq, rfl, flat_ints ps, _, rfl, ite2 (fun q1 => ?_) (fun q1 => ?_)⟩
          · have q1' : b ∈ ps := of_decide_eq_true ((inV_ints b ps).symm.trans q1)
            refine ⟨_, rfl, _, rfl, F0, _, rfl, .inl (.inl (.inl hF2)), rfl, flat_ints _, _, rfl, ite2 (fun q2 => ?_) (fun q2 => ?_)⟩
            · have q2' : b ∉ fd ++ r := by
                intro hb2
                have z : (!inV (.int (b : Nat)) (ints_ (fd ++ r))) = true := q2
                rw [inV_ints, decide_eq_true hb2] at z
                cases z
              have hl2 : (fd ++ r).length ≤ 5 := by
                have z := K7E.nodup_le (fd ++ r) (List.range Nb.length) nd2 fun x hx => List.mem_range.mpr (lt2 x hx)
                rw [List.length_range] at z
                omega
              refine ⟨_, rfl, .inl ⟨rfl, _, .inl (.inl hF2)⟩, _, rfl, F0, _, _, rfl, rfl, hF2, by unfold ints_; rw [List.length_map]; exact small1000 (by omega), ?_⟩
              refine ⟨(fd ++ r) ++ [b], r ++ [b], some (.int (b : Nat)), rfl, fun b' o hb' e => by rw [upd_ne hb']; exact bt2 b' o hb' e, by rw [upd_same]; exact congrArg (fun z => some (HO.lst z)) (List.map_append (f := fun c : Nat => V.int (c : Nat)) (l₁ := fd ++ r) (l₂ := [b])).symm, ?_, List.append_assoc .., fun x hx => ?_, fun x hx hp => ?_, fun x hx => ?_⟩
              · exact List.nodup_append.mpr ⟨nd2, List.nodup_cons.mpr ⟨List.not_mem_nil, List.nodup_nil⟩, fun a' ha' b' hb' e => by rw [List.mem_singleton] at hb'; exact q2' (by rw [← hb', ← e]; exact ha')⟩
              · rcases List.mem_append.mp hx with hx | hx
                · exact lt2 x hx
                · rw [List.mem_singleton] at hx
                  rw [hx]
                  exact hbl
              · rw [tk] at hx
                rcases List.mem_append.mp hx with hx | hx
                · exact List.mem_append_left _ (cl2 x hx hp)
                · exact List.mem_append_right _ hx
              · rcases List.mem_append.mp hx with hx | hx
                · exact so2 x hx
                · rw [List.mem_singleton.mp hx]
                  exact .step (so a ma) ⟨_, el, List.mem_of_getElem? eb⟩ q1'
            · have q2' : b ∈ fd ++ r := by
                refine Classical.byContradiction fun hn => q2 ?_
                show (!inV (.int (b : Nat)) (ints_ (fd ++ r))) = true
                rw [inV_ints, decide_eq_false hn]
                rfl
              refine ⟨fd ++ r, r, some (.int (b : Nat)), rfl, bt2, hF2, nd2, rfl, lt2, fun x hx hp => ?_, so2⟩
              rw [tk] at hx
              rcases List.mem_append.mp hx with hx | hx
              · exact cl2 x hx hp
              · rw [List.mem_singleton] at hx
                rw [hx]
                exact q2'
          · have q1' : b ∉ ps := fun hb => q1 ((inV_ints b ps).trans (decide_eq_true hb))
            refine iteF ?_
            refine ⟨fd ++ r, r, some (.int (b : Nat)), rfl, bt2, hF2, nd2, rfl, lt2, fun x hx hp => ?_, so2⟩
            rw [tk] at hx
            rcases List.mem_append.mp hx with hx | hx
            · exact cl2 x hx hp
            · rw [List.mem_singleton] at hx
              rw [hx] at hp
              exact absurd hp q1'
        · obtain ⟨fd2, r, y6, rfl, bt2, hF2, nd2, rfl, lt2, cl2, so2⟩ := pv
          rw [show (ints_ l').length = l'.length from List.length_map .., List.take_length] at cl2
          refine ⟨_, rfl, _, _, rfl, rfl, ?_⟩
          refine ⟨fd ++ r, d + 1, some (.int (a : Nat)), y6, rfl, bt2, hF2, nd2, List.mem_append_left _ hcm, lt2, by rw [List.length_append]; omega, fun i a' hi ea' l2 el2 b hb hp => ?_, by omega, so2⟩
          rw [List.getElem?_append_left (by omega)] at ea'
          rcases Nat.lt_or_ge i d with hid | hid
          · exact List.mem_append_left _ (cl i a' hid ea' l2 el2 b hb hp)
          · have : i = d := by omega
            subst this
            rw [ea] at ea'
            injection ea' with e3
            subst e3
            rw [el] at el2
            injection el2 with e4
            subst e4
            exact cl2 b hb hp
      · have c1' : ¬ d < fd.length := fun z => c1 (decide_eq_true (by rw [show (ints_ fd).length = fd.length from List.length_map ..]; omega))
        refine ⟨_, rfl, q H' F0 fd (fun b o hb => bt b o (ne_of_none hb nF) hb) nF hF ⟨nd, hcm, lt, fun a ha l hl b hb hp => ?_, so⟩⟩
        obtain ⟨i, hi, e⟩ := List.getElem_of_mem ha
        exact cl i a (by omega) (by rw [List.getElem?_eq_getElem hi, e]) l hl b hb hp
end
end K7
end
/-! ## P8 -/
section
open PySem PySem.Spec PyProof.Rows L2
namespace K7
abbrev N_nearby_cells : List Str := ["cells", "couples", "b", "a"]
abbrev s_nearby_cells : Stmt := topS 15
theorem sc_nearby_cells : FnScope ["cells", "couples", "b", "a"] ["cells", "couples"] (defScope s_nearby_cells) := ⟨rfl, rfl, rfl, by decide +kernel, rfl, by decide +kernel, by decide +kernel⟩
abbrev scA : Scope := { kind := ScopeKind.function, names := [(".0", NameKind.local), ("a", NameKind.cell), ("tuple", NameKind.globalImplicit), ("range", NameKind.globalImplicit), ("cells", NameKind.cell), ("couples", NameKind.cell)], isGenerator := false, isCoroutine := false }
def rTup_ (K : PySem.W.Frag) : List V → Hp → VK → Prop := fun xs H Q => ∃ p ys, xs = [V.ref p] ∧ ((SqL K H p ys ∧ ∀ l, H l = none → Q (.ref l) (upd H l (.tup ys))) ∨ SqT K H p ys ∧ Q (.ref p) H)
section
variable {P : Program} {w : World} {K : PySem.W.Frag} {mg : Str → Option Value} {base : Heap}
/-- the neighbours of each cell -/
def nearV (n : Nat) (es : List (Nat × Nat)) : List (List Nat) := (List.range n).map fun a => (List.range n).filter fun b => decide ((a, b) ∈ es) || decide ((b, a) ∈ es)
theorem ints_snoc (l : List Nat) (j : Nat) : ints_ (l ++ [j]) = ints_ l ++ [.int (j : Nat)] := by
  unfold ints_
  rw [List.map_append]
  rfl
theorem range_filter (p : Nat → Bool) (j : Nat) : (List.range (j + 1)).filter p = (List.range j).filter p ++ (if p j = true then [j] else []) := by
  rw [List.range_succ, List.filter_append, List.filter_cons]
  rfl
theorem dp_two {H : Hp} (k j : Nat) : DpAll K H [.int (0 + (k : Nat)), .int (0 + (j : Nat))] [.int (k : Nat), .int (j : Nat)] := by
  rw [Int.zero_add, Int.zero_add]
  exact .cons (.int _) (.cons (.int _) .nil)
def spNear : Sp := fun vs H Q _ => ∃ (n : Nat) (ca : Addr) (ts : List Addr) (es : List (Nat × Nat)), vs = [.int n, .ref ca] ∧ n ≤ 5 ∧ H ca = some (.lst (ts.map V.ref)) ∧ TAt H ts (pairs es) ∧ es.length ≤ 32 ∧
  ∀ H' q us, Same H H' → H q = none → H' q = some (.tup (us.map V.ref)) → TAt H' us (nearV n es) → Q (.ref q) H'
theorem ok_near {f : Addr} {fd : FuncData} (F : Fun K "nearby_cells" "nearby_cells" s_nearby_cells f fd) (m_range : mg "range" = none) (m_tuple : mg "tuple" = none) : FnOk P w K mg base CX0 1 f fd ["cells", "couples"] spNear := by
  refine F.ok sc_nearby_cells (fun vs H Q E h => ?_) (fun cdv A outer s H vs Q E hr h => ?_)
  · obtain ⟨n, ca, ts, es, rfl, _⟩ := h
    rfl
  · obtain ⟨n, ca, ts, es, rfl, hn, hca, tE, h32, q⟩ := h
    refine ⟨_, (pss_one (ps_ret (pe_callTy call_tuple_of (by rfl) m_tuple boot_tuple (pa_cons (pe_lc (own := [("a", 3)]) (g := gName 3) (tt := tYes) rfl sc_nearby_cells.nd (pi_range1 rfl m_range (pa_cons (pv 0) pa_nil)) (blkOk_by (own := [("a", 3)]) (N := N_nearby_cells) (sc := defScope s_nearby_cells) (by decide +kernel)) (fun _ _ _ _ _ => (pg_name (i := 3) sc_nearby_cells.nd rfl (by first | exact Or.inl rfl | exact Or.inr rfl))) (fun _ _ _ _ _ => pts_nil) (fun _ _ _ _ _ => (pe_callTy (show CallR _ (.type "tuple") (rTup_ K) from call_tuple_of) (by rfl) m_tuple boot_tuple (pa_cons (pe_lc (own := [("b", 2)]) (g := gName 2) rfl sc_nearby_cells.nd (pi_range1 rfl m_range (pa_cons (pv 0) pa_nil)) (blkOk_by (own := [("b", 2)]) (N := N_nearby_cells) (sc := scA) (by decide +kernel)) (fun _ _ _ _ _ => (pg_name (i := 2) sc_nearby_cells.nd rfl (by first | exact Or.inl rfl | exact Or.inr rfl))) (fun _ _ _ _ _ => (pts_one (PW.pt (pw_or (pt_cmpR (show OpR _ _ (rInD K) from op_inD (K7L.hu65 hr)) (pe_tup (pa_cons (pv 3) (pa_cons (pv 2) pa_nil))) (pv 1) (by with_unfolding_all rfl)) (pw_or1 (pt_cmpR (show OpR _ _ (rInD K) from op_inD (K7L.hu65 hr)) (pe_tup (pa_cons (pv 2) (pa_cons (pv 3) pa_nil))) (pv 1) (by with_unfolding_all rfl))))))) (fun _ _ _ _ _ => (pv 2))) pa_nil)))) pa_nil)))), ?_⟩
    refine ⟨_, rfl, _, rfl, by omega, by omega, fun D hD => lc_range (lo := 0) (n := n) (fun i H1 => Same H H1 ∧ ∃ us : List Addr, H1 D = some (.lst (us.map V.ref)) ∧ TAt H1 us ((nearV n es).take i) ∧ us.length ≤ i) ⟨same_new (Same.refl H) hD, [], upd_same, .nil, Nat.le_refl _⟩ (fun i H1 hi pv => ?_) (fun H1 pv => ?_)⟩
    · obtain ⟨e1, us, hD1, tU, lu⟩ := pv
      refine ⟨rfl, _, rfl, _, rfl, by omega, by omega, fun D2 hD2 => lc_range (lo := 0) (n := n) (fun j H2 => Same H1 H2 ∧ H2 D2 = some (.lst (ints_ ((List.range j).filter fun b => decide ((i, b) ∈ es) || decide ((b, i) ∈ es))))) ⟨same_new (Same.refl H1) hD2, upd_same⟩ (fun j H2 hj pv => ?_) (fun H2 pv => ?_)⟩
      · obtain ⟨e2, h2⟩ := pv
        have eA := e1.trans e2
        refine ⟨rfl, _, rfl, _, rfl, by show 2 ≤ sizeLine; decide, fun t nt => ?_⟩
        have s3 := same_new (o := .tup [.int (0 + (i : Nat)), .int (0 + (j : Nat))]) (Same.refl H2) nt
        refine ⟨_, rfl, intD [i, j], _, .tup (xs := [.int (0 + (i : Nat)), .int (0 + (j : Nat))]) (.inl (.inl upd_same)) (dp_two i j), .lst (.inl (.inl (s3 _ _ (eA _ _ hca)))) (dp_rows (tE.same (eA.trans s3))), shaped_ints _, shaped_rows _, ?_⟩
        rw [any_rows]
        have e2b := e2
        refine ⟨_, rfl, ite2 (fun q1 => ?_) (fun q1 => ?_)⟩
        · have g : ∀ {b : Addr} {o : HO}, H2 b = some o → upd H2 t (.tup [.int (0 + (i : Nat)), .int (0 + (j : Nat))]) b = some o := fun hb => s3 _ _ hb
          refine ⟨_, rfl, _, g h2, by unfold ints_; rw [List.length_map]; exact small1000 (Nat.le_trans (List.length_filter_le _ _) (by rw [List.length_range]; omega)), fun b o hb => ?_, ?_⟩
          · rw [upd_ne (ne_of_none hb hD2)]
            exact g (e2 _ _ hb)
          · rw [upd_same, range_filter, if_pos (by rw [q1]; rfl), Int.zero_add]
            rw [ints_snoc]
        · refine ⟨_, rfl, _, rfl, by show 2 ≤ sizeLine; decide, fun t2 nt2 => ?_⟩
          have s4 := same_new (o := .tup [.int (0 + (j : Nat)), .int (0 + (i : Nat))]) s3 nt2
          refine ⟨_, rfl, intD [j, i], _, .tup (xs := [.int (0 + (j : Nat)), .int (0 + (i : Nat))]) (.inl (.inl upd_same)) (dp_two j i), .lst (.inl (.inl (s4 _ _ (eA _ _ hca)))) (dp_rows (tE.same (eA.trans s4))), shaped_ints _, shaped_rows _, ?_⟩
          rw [any_rows]
          refine ⟨_, rfl, ite2 (fun q2 => ?_) (fun q2 => ?_)⟩
          · refine ⟨_, rfl, _, s4 _ _ h2, by unfold ints_; rw [List.length_map]; exact small1000 (Nat.le_trans (List.length_filter_le _ _) (by rw [List.length_range]; omega)), fun b o hb => ?_, ?_⟩
            · rw [upd_ne (ne_of_none hb hD2)]
              exact s4 _ _ (e2 _ _ hb)
            · rw [upd_same, range_filter, if_pos (by rw [q2, Bool.or_true]), Int.zero_add]
              rw [ints_snoc]
          · refine ⟨e2.trans s4, ?_⟩
            rw [range_filter, if_neg (by rw [Bool.eq_false_iff.mpr q1, Bool.eq_false_iff.mpr q2]; decide), List.append_nil]
            exact s4 _ _ h2
      · obtain ⟨e2, h2⟩ := pv
        have eA := e1.trans e2
        refine ⟨D2, _, rfl, .inl ⟨.inl (.inl h2), fun l nl => ?_⟩⟩
        have s4 := same_new (o := .tup (ints_ ((List.range n).filter fun b => decide ((i, b) ∈ es) || decide ((b, i) ∈ es)))) (Same.refl H2) nl
        have hD4 := s4 _ _ (e2 _ _ hD1)
        have tk : (nearV n es).take (i + 1) = (nearV n es).take i ++ [(List.range n).filter fun b => decide ((i, b) ∈ es) || decide ((b, i) ∈ es)] := by
          rw [List.take_add_one]
          congr 1
          unfold nearV
          rw [List.getElem?_map, List.getElem?_range hi]
          rfl
        have up : ∀ b xs, upd H2 l (.tup (ints_ ((List.range n).filter fun b => decide ((i, b) ∈ es) || decide ((b, i) ∈ es)))) b = some (.tup xs) → upd (upd H2 l (.tup (ints_ ((List.range n).filter fun b => decide ((i, b) ∈ es) || decide ((b, i) ∈ es))))) D (.lst (us.map V.ref ++ [.ref l])) b = some (.tup xs) := fun b xs hb => by
          rw [upd_ne (fun z => by rw [z, hD4] at hb; cases hb)]
          exact hb
        refine ⟨_, hD4, by rw [List.length_map]; exact small1000 (by omega), fun b o hb => ?_, us ++ [l], by rw [upd_same, List.map_append]; rfl, ?_, by rw [List.length_append, List.length_singleton]; omega⟩
        · rw [upd_ne (ne_of_none hb hD)]
          exact s4 _ _ (eA _ _ hb)
        · rw [tk]
          exact ((tU.same (e2.trans s4)).mono up).append (.cons (up _ _ upd_same) .nil)
    · obtain ⟨e1, us, hD1, tU, lu⟩ := pv
      rw [List.take_of_length_le (by unfold nearV; rw [List.length_map, List.length_range]; exact Nat.le_refl _)] at tU
      refine ⟨D, _, rfl, .inl ⟨.inl (.inl hD1), fun l nl => ?_⟩⟩
      have s3 := same_new (o := .tup (us.map V.ref)) e1 nl
      refine q _ l us s3 (e1.free nl) upd_same (tU.same (same_new (Same.refl H1) nl))
end
end K7
end
/-! ## P9 -/
section
open PySem PySem.Spec PyProof.Rows L2
namespace K7
abbrev N_hang_together : List Str := ["cells", "couples"]
abbrev s_hang_together : Stmt := topS 16
theorem sc_hang_together : FnScope ["cells", "couples"] ["cells", "couples"] (defScope s_hang_together) := ⟨rfl, rfl, rfl, by decide +kernel, rfl, by decide +kernel, by decide +kernel⟩
theorem nodup_sub {α : Type} {l m : List α} (nd : l.Nodup) (sub : l ⊆ m) (len : m.length ≤ l.length) : ∀ {x}, x ∈ m → x ∈ l := by
  classical
  induction l generalizing m with
  | nil =>
    intro x hx
    rw [List.length_nil, Nat.le_zero, List.length_eq_zero_iff] at len
    rw [len] at hx
    cases hx
  | cons a l ih =>
    intro x hx
    rw [List.nodup_cons] at nd
    have ma : a ∈ m := sub (List.mem_cons_self ..)
    by_cases e : x = a
    · rw [e]; exact List.mem_cons_self ..
    · refine List.mem_cons_of_mem _ (ih (m := m.erase a) nd.2 (fun y hy => ?_) ?_ ((List.mem_erase_of_ne e).mpr hx))
      · exact (List.mem_erase_of_ne (fun e => nd.1 (by rw [← e]; exact hy))).mpr (sub (List.mem_cons_of_mem _ hy))
      · rw [List.length_erase_of_mem ma]
        rw [List.length_cons] at len
        omega
section
variable {P : Program} {w : World} {K : PySem.W.Frag} {mg : Str → Option Value} {base : Heap}
def spHang : Sp := fun vs H Q _ => ∃ (n : Nat) (ca : Addr) (ts : List Addr) (es : List (Nat × Nat)), vs = [.int n, .ref ca] ∧ 0 < n ∧ n ≤ 5 ∧ H ca = some (.lst (ts.map V.ref)) ∧ TAt H ts (pairs es) ∧ es.length ≤ 32 ∧
  (∀ e ∈ es, e.1 < n ∧ e.2 < n) ∧ ∀ H' b, Same H H' → (b = true ↔ KL.Conn n es) → Q (.bl b) H'
theorem ok_hang {f fN fS : Addr} {fd fdN fdS : FuncData} (F : Fun K "hang_together" "hang_together" s_hang_together f fd)
    (Gnc : FnOk P w K mg base CX0 1 fN fdN ["cells", "couples"] spNear) (gnc : mg "nearby_cells" = some (.ref fN)) (knc : PySem.W.keepIn K (.ref fN) = true) (bnc : Binds K fdN ["cells", "couples"] [])
    (Gsp : FnOk P w K mg base CX0 1 fS fdS ["nearby", "cell", "passing"] spSpread) (gsp : mg "spread" = some (.ref fS)) (ksp : PySem.W.keepIn K (.ref fS) = true) (bsp : Binds K fdS ["nearby", "cell", "passing"] [])
    (m_len : mg "len" = none) (m_list : mg "list" = none) (m_range : mg "range" = none) : FnOk P w K mg base CX0 2 f fd ["cells", "couples"] spHang := by
  refine F.ok sc_hang_together (fun vs H Q E h => ?_) (fun cdv A outer s H vs Q E hr h => ?_)
  · obtain ⟨n, ca, ts, es, rfl, _⟩ := h
    rfl
  · obtain ⟨n, ca, ts, es, rfl, n0, hn, hca, tE, h32, elt, q⟩ := h
    refine ⟨_, (pss_one (ps_ret (pe_cmpR op_eq (pe_callB call_len_seq (by rfl) m_len boot_len (pa_cons (pe_call Gsp (hr.mono (by decide)) (by rfl) gsp ksp bsp .nil pass0 (pa_cons (pe_call Gnc (hr.mono (by decide)) (by rfl) gnc knc bnc .nil pass0 (pa_cons (pv 0) (pa_cons (pv 1) pa_nil))) (pa_cons pe_int (pa_cons (pe_callTy (K7E.cr_list_rng rfl) (by rfl) m_list boot_list (pa_cons (pe_callTy K7E.cr_range1 (by rfl) m_range boot_range (pa_cons (pv 0) pa_nil)) pa_nil)) pa_nil)))) pa_nil)) (pv 0) (nomark _)))), ?_⟩
    refine ⟨_, rfl, _, rfl, n, ca, ts, es, rfl, hn, hca, tE, h32, fun H1 nb us e1 nf1 hnb tU => ?_⟩
    refine ⟨_, rfl, n, rfl, fun p1 np1 => ?_⟩
    refine ⟨p1, n, rfl, upd_same, by omega, fun p2 np2 => ?_⟩
    have s1 := same_new (o := .rng 0 n) (Same.refl H1) np1
    have s2 := same_new (o := .lst (K7E.upTo n)) s1 np2
    have hps : upd (upd H1 p1 (.rng 0 n)) p2 (.lst (K7E.upTo n)) p2 = some (.lst (ints_ (List.range n))) := upd_same
    generalize upd (upd H1 p1 (.rng 0 n)) p2 (.lst (K7E.upTo n)) = H2 at s2 hps ⊢
    have ln : (nearV n es).length = n := by unfold nearV; rw [List.length_map, List.length_range]
    have hget : ∀ a, a < n → (nearV n es)[a]? = some ((List.range n).filter fun b => decide ((a, b) ∈ es) || decide ((b, a) ∈ es)) := fun a ha => by
      unfold nearV
      rw [List.getElem?_map, List.getElem?_range ha]
      rfl
    refine ⟨nb, us, nearV n es, 0, p2, List.range n, rfl, s2 _ _ hnb, tU.same s2, .inr hps, by rw [ln]; exact hn, by rw [ln]; exact n0, fun l hl x hx => ?_, fun H3 qa fd e3 nq hq fo => ?_⟩
    · rw [ln]
      unfold nearV at hl
      obtain ⟨a, _, rfl⟩ := List.mem_map.mp hl
      exact List.mem_range.mp (List.mem_filter.mp hx).1
    · have hlt : ∀ x ∈ fd, x < n := fun x hx => by have z := fo.lt x hx; rw [ln] at z; exact z
      have edge : ∀ a b, ((a, b) ∈ es ∨ (b, a) ∈ es) → a ∈ fd → b ∈ fd := fun a b hab ha => by
        have hb : b < n := by
          rcases hab with z | z
          · exact (elt _ z).2
          · exact (elt _ z).1
        refine fo.cl a ha _ (hget a (hlt a ha)) b (List.mem_filter.mpr ⟨List.mem_range.mpr hb, ?_⟩) (List.mem_range.mpr hb)
        rcases hab with z | z
        · rw [decide_eq_true z]; rfl
        · rw [decide_eq_true z, Bool.or_true]
      refine ⟨qa, _, rfl, .inl (.inl (.inl hq)), _, rfl, rfl, ?_⟩
      have lq : (ints_ fd).length = fd.length := List.length_map ..
      rw [lq]
      refine q H3 _ (e1.trans (s2.trans e3)) ⟨fun t => ?_, fun cn => ?_⟩
      · have len : fd.length = n := by
          have z := of_decide_eq_true t
          injection z with z
          omega
        intro S s0 sc c hc
        have mc : c ∈ fd := by
          have sub : fd ⊆ List.range n := fun x hx => List.mem_range.mpr (hlt x hx)
          exact (nodup_sub fo.nd sub (by rw [List.length_range, len]; exact Nat.le_refl _)) (List.mem_range.mpr hc)
        have r := fo.so c mc
        clear hc mc
        induction r with
        | base => exact s0
        | @step a b h e p ih =>
          obtain ⟨l, hl, hb⟩ := e
          have ha : a < n := by
            have z := (List.getElem?_eq_some_iff.mp hl).1
            rw [ln] at z
            exact z
          obtain rfl := Option.some.inj (hl.symm.trans (hget a ha))
          have z := (List.mem_filter.mp hb).2
          rw [Bool.or_eq_true] at z
          rcases z with z | z
          · rw [← sc _ (of_decide_eq_true z)]
            exact ih
          · rw [sc _ (of_decide_eq_true z)]
            exact ih
      · have len := KL.all_len fo.nd hlt (KL.conn_closed cn fo.me edge)
        rw [len]
        exact decide_eq_true rfl
end
end K7
end
/-! ## ES -/
section
/-! A set comprehension of tuples of ints, and how many there are in such a set. -/
namespace K7S
open PySem PySem.Spec PyProof.Rows L2
abbrev eS (w : World) : Obj := { cls := .type "set", dict := none, data := .set #[] 0 (.fresh 0 0 (!w.params.followText "set-order")) }
abbrev eD : Obj := { cls := .type "dict", data := .dict #[] }
section
variable {X : Cx}
/-- one more tuple -/
theorem addT_ok {pins : List (Addr × Obj)} {τ : L2.St} {H : Hp} {s : Shared} {E : Value → Shared → Prop} {D t : Addr} {L : List (Addr × List Int)} {k : List Int} {Q : Value → Shared → Prop} (I : Inv X pins τ H s) (hD : H D = some (SetTO X.prog X.w D L)) (ht : ∀ p ∈ L, SqT X.K H p.1 (p.2.map V.int)) (hy : SqT X.K H t (k.map V.int)) (hf : L.length + 1 < 64) (hu : X.A.units + 1 < cLine)
    (h : ∀ s' L', (k ∈ L.map (·.2) → L' = L) → (k ∉ L.map (·.2) → L'.Perm ((t, k) :: L)) → Inv X pins τ (upd H D (SetTO X.prog X.w D L')) s' → Q .none s') : wpAny (model X.prog X.w) X.A (call (.builtin "set.add") [.ref D, .ref t]) Q E s := by
  obtain ⟨es, ep, tb, R⟩ := SetT0.full (I.hok D _ hD).1 fun p hp => I.isT (ht p hp)
  obtain ⟨o, ho, hex, hd⟩ := id R.ob
  have hT : s.TypeIs (.ref D) "set" := ⟨o, ho, hex.1⟩
  refine wpAny_call_entry F.slot_set_add hT F.entry_set_add ?_ (F.args_set_add_2 _ _)
  unfold Builtin.«set.add» Builtin.Frozenset.oneOther
  simp only [List.isEmpty_nil, bind_assoc]
  unfold Builtin.Frozenset.addrOf setAdd
  refine wpAny_bind (wpAny_pure ?_)
  try dsimp only
  refine wpAny_bind (wpAny_pure ?_)
  try dsimp only
  refine wpAny_bind (wpAny_holding (wpAny_bind (wpAny_pyHash_tuple (show X.A.units + 1 < cLine from hu) (I.isT hy) ?_)))
  refine add_at (s := { s with toks := s.toks + (k.length + 1) }) R (I.isT hy) (show X.A.units + 1 < cLine from hu) hf fun b h' L' es' ep' tb' sb R' c1 c2 => ?_
  show wpAny _ _ (ret Value.none) _ _ _
  obtain ⟨o', ho', _⟩ := id R'.ob
  exact wpAny_pure ⟨_, rfl, h _ L' c1 c2 (I.write (e := D) (t' := s.toks + (k.length + 1)) (by rw [hD]; trivial) (.inl rfl) (fun b u hb hu => (sb.2 b hb).trans hu) ⟨o', ho'⟩ (setTO_new R'.t0))⟩
/-- how many -/
theorem call_lenT : CallR X (.builtin "len") (fun xs H Q => ∃ a L, xs = [V.ref a] ∧ H a = some (SetTO X.prog X.w a L) ∧ (∀ p ∈ L, SqT X.K H p.1 (p.2.map V.int)) ∧ Q (.int (L.length : Nat)) H) := by
  intro pins s τ H xs us Q I r h
  obtain ⟨a, L, rfl, ha, ht, q⟩ := h
  rw [Vals.ref1 r]
  obtain ⟨es, ep, tb, R⟩ := SetT0.full (I.hok a _ ha).1 fun p hp => I.isT (ht p hp)
  obtain ⟨o, ho, hex, hd⟩ := id R.ob
  have n1 := R.size
  have n2 := R.few
  exact call_len_set ho hex hd R.fits (by omega) ⟨.int (L.length : Nat), H, I.tok _, ⟨_, by rw [n1]⟩, q⟩
/-- {elt for target in iter}, elt a tuple of ints: D the new set -/
def tSt (P : Program) (w : World) (K : PySem.W.Frag) (wi : TI) (g : TG) (te : TE) (vs : List Nat) : TE := fun τ H Q => wi τ H fun J H1 => ∀ D, H1 D = none → ∃ W : Nat → Nat → Hp → Prop, (∃ m, W 0 m (upd H1 D (SetTO P w D []))) ∧ ∀ i m H, W i m H →
  (J.stop i H ∧ Q (.ref D) H) ∨ (J.go i H ∧ ∃ Nx : Hp → Prop, (∀ H', Nx H' → ∃ m', m' < m ∧ W (i + 1) m' H') ∧ ∀ x H', J.yld i H x H' → g x (wipe τ vs) H' fun τ2 H3 => wipe τ2 vs = wipe τ vs ∧
    te τ2 H3 fun y H4 => ∃ (t : Addr) (k : List Int) (L : List (Addr × List Int)), y = .ref t ∧ SqT K H4 t (k.map V.int) ∧ H4 D = some (SetTO P w D L) ∧ (∀ p ∈ L, SqT K H4 p.1 (p.2.map V.int)) ∧ L.length + 1 < 64 ∧
      ∀ L', (k ∈ L.map (·.2) → L' = L) → (k ∉ L.map (·.2) → L'.Perm ((t, k) :: L)) → Nx (upd H4 D (SetTO P w D L')))
theorem fresh0 (P : Program) (w : World) (h : Heap) : SetT0 P w (h.push (eS w)) h.objs.size [] := (setTR_fresh (P := P) (w := w) (h := h.push (eS w)) (a := h.objs.size) (Heap.get?_push_size _ rfl)).t0
/-- as a value -/
theorem pe_st {elt tg iter : Expr} {scope : Scope} {own : List (PySem.Str × Nat)} {pos : Pos} {wi : TI} {g : TG} {te : TE} (hc : X.calm = true) (hu : X.A.units + 1 < cLine) (hN : X.N.Nodup) (hi : PI X tg iter wi) (ok : BlkOk X.N X.env.scope scope own)
    (hg : ∀ (s : Shared) (H : Hp) (C : Addr) (cl : List (PySem.Str × Addr)) (fp : List Addr), PG (X.blk s H scope (compEnvC scope cl C X.env) fp) tg g) (he : ∀ (s : Shared) (H : Hp) (C : Addr) (cl : List (PySem.Str × Addr)) (fp : List Addr), PE (X.blk s H scope (compEnvC scope cl C X.env) fp) elt te)
    (hs : ∀ x, foldedSetIterable iter X.env x = pure x := by intro _; rfl) : PE X (.SetComp elt [⟨tg, iter, [], 0⟩] scope pos) (tSt X.prog X.w X.K wi g te (own.map (·.2))) := by
  refine ⟨fun pins s τ H Q I h => ?_⟩
  rw [PpSet.eval_SetComp]
  have hfree : ∀ z ∈ scope.names, z.2 = .free → ∃ c, X.env.cells.lookup z.1 = some c := fun z hz e => (ok.free z hz e).elim (fun k => I.ok.has _ (.inl k)) fun k => I.ok.has _ (.inr k)
  refine wpAny_comprehension_free (use := none) rfl hs (closure_ok hfree) ok.kind (fun z hz e => by rw [ok.uniq z hz, e]) (thn (hi.run pins s τ H _ I h) fun xv s1 hx => thn hx fun itv s2 z2 => ?_)
  obtain ⟨it, fp, tn, J, H2, rfl, I2, T, st2, f2, q⟩ := z2
  refine PpSet.newSet_ok (newEnv_comp ?_)
  show codeAny _ _ (.compStart (.SetComp elt [⟨tg, iter, [], 0⟩] scope pos) 0 (.ref it) (.ref s2.heap.objs.size) (compEnvC scope (cellsFrom ((s2.heap.push (eS X.w)).objs.size + 1) scope.names (cloFrom X.env.cells scope.names [])) (s2.heap.push (eS X.w)).objs.size X.env)) _ { s2 with heap := pushCells ((s2.heap.push (eS X.w)).push eD) scope.names }
  have nD : H2 s2.heap.objs.size = none := I2.hok.fresh (Nat.le_refl _)
  have IS : Inv X pins τ (upd H2 s2.heap.objs.size (SetTO X.prog X.w s2.heap.objs.size [])) { s2 with heap := s2.heap.push (eS X.w) } := I2.laid (t' := s2.toks) (fun b o e => Heap.get?_push_of_some _ e) (Nat.le_refl _) (setTO_new (fresh0 _ _ _))
  have stS : tn 0 (s2.heap.push (eS X.w)) := T.keep _ _ _ st2 fun b _ o e => Heap.get?_push_of_some _ e
  have fS : ∀ b ∈ fp, FpOk X pins (upd H2 s2.heap.objs.size (SetTO X.prog X.w s2.heap.objs.size [])) b ∧ b < (s2.heap.push (eS X.w)).objs.size := fun b hb => by
    obtain ⟨o, e, _⟩ := T.obj _ _ st2 b hb
    have l1 := Heap.lt_size e
    exact ⟨⟨by rw [upd_ne (Nat.ne_of_lt l1)]; exact (f2 b hb).1, (f2 b hb).2⟩, by rw [Heap.size_push]; exact Nat.lt_succ_of_lt l1⟩
  obtain ⟨W, ⟨m0, w0⟩, turn⟩ := q _ nD
  have IB := block_start IS ok hN fS
  have stB : tn 0 (pushCells ((s2.heap.push (eS X.w)).push eD) scope.names) := T.keep _ _ _ stS fun b _ o e => pushCells_keeps _ _ _ _ (Heap.get?_push_of_some _ e)
  generalize s2.heap.objs.size = D at *
  generalize upd H2 D (SetTO X.prog X.w D []) = HS at IS IB w0 fS
  generalize eS3 : ({ s2 with heap := s2.heap.push (eS X.w) } : Shared) = s3 at IS IB
  have e3 : s2.heap.push (eS X.w) = s3.heap := by rw [← eS3]
  rw [e3] at fS stS stB ⊢
  have e4 : ({ s2 with heap := pushCells (s3.heap.push eD) scope.names } : Shared) = { s3 with heap := pushCells (s3.heap.push eD) scope.names } := by rw [← eS3]
  rw [e4]
  have pg := hg s3 HS s3.heap.objs.size (cellsFrom (s3.heap.objs.size + 1) scope.names (cloFrom X.env.cells scope.names [])) fp
  have pe := he s3 HS s3.heap.objs.size (cellsFrom (s3.heap.objs.size + 1) scope.names (cloFrom X.env.cells scope.names [])) fp
  generalize hce : compEnvC scope (cellsFrom (s3.heap.objs.size + 1) scope.names (cloFrom X.env.cells scope.names [])) s3.heap.objs.size X.env = ce at IB pg pe ⊢
  have cL : ce.locals = s3.heap.objs.size := by rw [← hce]; rfl
  generalize hs4 : ({ s3 with heap := pushCells (s3.heap.push eD) scope.names } : Shared) = s4 at IB ⊢
  have st4 : tn 0 s4.heap := by rw [← hs4]; exact stB
  have nf : ∀ b ∈ fp, HS b = none := fun b hb => (fS b hb).1.1
  have stat : ∀ {τ' : L2.St} {H' : Hp} {s' : Shared}, Inv (X.blk s3 HS scope ce fp) [] τ' H' s' → (∀ b ∈ fp, H' b = none) → ∀ b ∈ fp, FpOk (X.blk s3 HS scope ce fp) [] H' b := fun {τ' H' s'} I' hn b hb =>
    ⟨hn b hb, (I'.ok.exf b hb).1, I'.ok.exfs b hb, .inl hb, fun x c e => (I'.ok.exf b hb).2 x c e, fun p hp => absurd (show p ∈ ([] : List (Addr × Obj)) ++ [] from hp) (by simp)⟩
  suffices loop : codeAny (model X.prog X.w) X.A (.compLoop (.SetComp elt [⟨tg, iter, [], 0⟩] scope pos) 0 (.ref it) (.ref D) ce) (compPost (model X.prog X.w) X.A X.xe none (EP X pins τ Q) (.ref D) s3.heap.objs.size) s4 from PpSet.codeAny_compStart_set loop (T.self X.A 0 _ _ _ st4 loop)
  refine PpSet.compLoopS_any (fun n s' => ∃ i H', Inv (X.blk s3 HS scope ce fp) [] (wipe τ (own.map (·.2))) H' s' ∧ tn i s'.heap ∧ (∀ b ∈ fp, H' b = none) ∧ W i n H') (fun n s5 z5 => ?_) m0 ⟨0, HS, IB, st4, nf, w0⟩
  obtain ⟨i, H5, I5, st5, n5, w5⟩ := z5
  rcases turn i n H5 w5 with ⟨stop, qq⟩ | ⟨go, Nx, hNx, step⟩
  · refine thnF (T.done (X.blk s3 HS scope ce fp) rfl rfl rfl hc i [] s5 _ H5 (fun _ _ => False) I5 (stat I5 n5) st5 stop) fun r s6 ⟨hr, I6⟩ => ?_
    subst hr
    have I7 : Inv X pins τ H5 s6 := IS.call' (ch := fp) I6.os I6.base I6.hok I6.bare fun b hb => ⟨(fS b hb).1.2.2.2.1, (fS b hb).1.2.1, (fS b hb).1.2.2.2.2.1, (fS b hb).1.2.2.2.2.2⟩
    have nC : H5 s3.heap.objs.size = none := by rw [← cL]; exact I6.free
    obtain ⟨m, hn, _⟩ := I6.loc
    have hn : s6.heap.Ns s3.heap.objs.size m := by rw [← cL]; exact hn
    obtain ⟨f0, f1, f2', f3, f4, f5⟩ := IS.fpOk (Nat.le_refl _) nC
    exact ⟨m, hn, fun h'' sb => ⟨.ref D, H5, I7.turned (t' := s6.toks) (fun b o hb e => (sb.2 b hb).trans e) f0 f1 f3 f4 f5, rfl, qq⟩⟩
  · refine thnF (T.item (X.blk s3 HS scope ce fp) rfl rfl rfl hc i [] s5 _ H5 (fun _ _ => False) I5 (stat I5 n5) st5 go) fun r s6 ⟨u, hr, h6⟩ => ?_
    subst hr
    refine thnF h6 fun _ s7 ⟨x, H7, I7, r7, y7, st7, n7⟩ => ?_
    refine thnF (pg.run _ s7 _ H7 x u _ (I7.pinned (stat I7 n7) (T.obj _ _ st7)) r7 (step x H7 y7)) fun _ s8 ⟨τ8, H8, I8, hw8, q8⟩ => ?_
    refine wpAny_tests_nil ?_
    rw [if_pos rfl]
    refine thnF (pe.run _ s8 τ8 H8 _ I8 q8) fun z s10 ⟨yv, H10, I10, r10, t, k, L, ey, hy, hD10, hL, hlt, nx⟩ => ?_
    subst ey
    cases (show z = Value.ref t from r10)
    refine addT_ok (X := X.blk s3 HS scope ce fp) I10 hD10 hL hy hlt hu fun s11 L' c1 c2 I11 => ?_
    obtain ⟨m', hm, w'⟩ := hNx _ (nx L' c1 c2)
    have pin' : ∀ b ∈ fp, ∀ o, s7.heap.get? b = some o → s11.heap.get? b = some o ∧ (upd H10 D (SetTO X.prog X.w D L')) b = none := fun b hb o e =>
      let z := I11.pin (b, o) (List.mem_append_right _ (List.mem_append_right _ (mem_pinsAt hb e)))
      ⟨z.1, z.2.1⟩
    refine ⟨m', hm, i + 1, _, (I11.unpinned (pins := [])).weak (by rw [← hw8, wipe_length]) (fun j v e => (wipe_some (by rw [hw8]; exact e)).1), T.keep _ _ _ st7 fun b hb o e => (pin' b hb o e).1, fun b hb => ?_, w'⟩
    obtain ⟨o, e, _⟩ := T.obj _ _ st7 b hb
    exact (pin' b hb o e).2
/-- over a list that the block leaves as it is -/
theorem st_list {P : Program} {w : World} {K : PySem.W.Frag} {a : Addr} {xs : List V} {g : TG} {te : TE} {vs : List Nat} {τ : L2.St} {H1 : Hp} {D : Addr} {Qd : Hp → Prop} (Pv : Nat → Hp → Prop) (h0 : Pv 0 (upd H1 D (SetTO P w D []))) (hl : ∀ i H, i ≤ xs.length → Pv i H → SqL K H a xs)
    (hs : ∀ i x H, xs[i]? = some x → Pv i H → g x (wipe τ vs) H fun τ2 H3 => wipe τ2 vs = wipe τ vs ∧
      te τ2 H3 fun y H4 => ∃ (t : Addr) (k : List Int) (L : List (Addr × List Int)), y = .ref t ∧ SqT K H4 t (k.map V.int) ∧ H4 D = some (SetTO P w D L) ∧ (∀ p ∈ L, SqT K H4 p.1 (p.2.map V.int)) ∧ L.length + 1 < 64 ∧
      ∀ L', (k ∈ L.map (·.2) → L' = L) → (k ∉ L.map (·.2) → L'.Perm ((t, k) :: L)) → Pv (i + 1) (upd H4 D (SetTO P w D L'))) (hd : ∀ H, Pv xs.length H → Qd H) :
    ∃ W : Nat → Nat → Hp → Prop, (∃ m, W 0 m (upd H1 D (SetTO P w D []))) ∧ ∀ i m H, W i m H →
      ((Itl K a).stop i H ∧ Qd H) ∨ ((Itl K a).go i H ∧ ∃ Nx : Hp → Prop, (∀ H', Nx H' → ∃ m', m' < m ∧ W (i + 1) m' H') ∧ ∀ x H', (Itl K a).yld i H x H' → g x (wipe τ vs) H' fun τ2 H3 => wipe τ2 vs = wipe τ vs ∧
        te τ2 H3 fun y H4 => ∃ (t : Addr) (k : List Int) (L : List (Addr × List Int)), y = .ref t ∧ SqT K H4 t (k.map V.int) ∧ H4 D = some (SetTO P w D L) ∧ (∀ p ∈ L, SqT K H4 p.1 (p.2.map V.int)) ∧ L.length + 1 < 64 ∧
      ∀ L', (k ∈ L.map (·.2) → L' = L) → (k ∉ L.map (·.2) → L'.Perm ((t, k) :: L)) → Nx (upd H4 D (SetTO P w D L'))) := by
  refine ⟨fun i m H => m + i = xs.length ∧ Pv i H, ⟨xs.length, rfl, h0⟩, fun i m H z => ?_⟩
  obtain ⟨hm, p⟩ := z
  have q := hl i H (by omega) p
  rcases Nat.lt_or_ge i xs.length with lt | ge
  · refine .inr ⟨⟨xs, xs[i], q, List.getElem?_eq_getElem lt⟩, Pv (i + 1), fun H' p' => ⟨m - 1, by omega, by omega, p'⟩, fun x H' y => ?_⟩
    obtain ⟨rfl, y⟩ := y
    exact hs i x _ (y xs q) p
  · obtain rfl : i = xs.length := by omega
    exact .inl ⟨⟨xs, q, Nat.le_refl _⟩, hd H p⟩
/-- over a tuple that the block leaves as it is -/
theorem st_tup {P : Program} {w : World} {K : PySem.W.Frag} {a : Addr} {xs : List V} {g : TG} {te : TE} {vs : List Nat} {τ : L2.St} {H1 : Hp} {D : Addr} {Qd : Hp → Prop} (Pv : Nat → Hp → Prop) (h0 : Pv 0 (upd H1 D (SetTO P w D []))) (hl : ∀ i H, i ≤ xs.length → Pv i H → SqT K H a xs)
    (hs : ∀ i x H, xs[i]? = some x → Pv i H → g x (wipe τ vs) H fun τ2 H3 => wipe τ2 vs = wipe τ vs ∧
      te τ2 H3 fun y H4 => ∃ (t : Addr) (k : List Int) (L : List (Addr × List Int)), y = .ref t ∧ SqT K H4 t (k.map V.int) ∧ H4 D = some (SetTO P w D L) ∧ (∀ p ∈ L, SqT K H4 p.1 (p.2.map V.int)) ∧ L.length + 1 < 64 ∧
      ∀ L', (k ∈ L.map (·.2) → L' = L) → (k ∉ L.map (·.2) → L'.Perm ((t, k) :: L)) → Pv (i + 1) (upd H4 D (SetTO P w D L'))) (hd : ∀ H, Pv xs.length H → Qd H) :
    ∃ W : Nat → Nat → Hp → Prop, (∃ m, W 0 m (upd H1 D (SetTO P w D []))) ∧ ∀ i m H, W i m H →
      ((Itt K a).stop i H ∧ Qd H) ∨ ((Itt K a).go i H ∧ ∃ Nx : Hp → Prop, (∀ H', Nx H' → ∃ m', m' < m ∧ W (i + 1) m' H') ∧ ∀ x H', (Itt K a).yld i H x H' → g x (wipe τ vs) H' fun τ2 H3 => wipe τ2 vs = wipe τ vs ∧
        te τ2 H3 fun y H4 => ∃ (t : Addr) (k : List Int) (L : List (Addr × List Int)), y = .ref t ∧ SqT K H4 t (k.map V.int) ∧ H4 D = some (SetTO P w D L) ∧ (∀ p ∈ L, SqT K H4 p.1 (p.2.map V.int)) ∧ L.length + 1 < 64 ∧
      ∀ L', (k ∈ L.map (·.2) → L' = L) → (k ∉ L.map (·.2) → L'.Perm ((t, k) :: L)) → Nx (upd H4 D (SetTO P w D L'))) := by
  refine ⟨fun i m H => m + i = xs.length ∧ Pv i H, ⟨xs.length, rfl, h0⟩, fun i m H z => ?_⟩
  obtain ⟨hm, p⟩ := z
  have q := hl i H (by omega) p
  rcases Nat.lt_or_ge i xs.length with lt | ge
  · refine .inr ⟨⟨xs, xs[i], q, List.getElem?_eq_getElem lt⟩, Pv (i + 1), fun H' p' => ⟨m - 1, by omega, by omega, p'⟩, fun x H' y => ?_⟩
    obtain ⟨rfl, y⟩ := y
    exact hs i x _ (y xs q) p
  · obtain rfl : i = xs.length := by omega
    exact .inl ⟨⟨xs, q, Nat.le_refl _⟩, hd H p⟩
theorem hu1 {k : Nat} {A : Around} (hr : Room k A) : A.units + 1 < cLine := by have := hr.un; omega
end
end K7S
end
/-! ## ET -/
section
/-! sorted of a tuple, or of a list, of ints. -/
namespace K7S
open PySem PySem.Spec PyProof.Rows L2
section
variable {X : Cx}
def rSortA (K : PySem.W.Frag) : List V → Hp → VK → Prop := fun vs H Q => ∃ (a : Addr) (ns : List Int), vs = [V.ref a] ∧ (SqL K H a (ns.map V.int) ∨ SqT K H a (ns.map V.int)) ∧ ns.length < 64 ∧ ∀ (ms : List Int) (p : Addr), ms.Perm ns → ms.Pairwise (· ≤ ·) → H p = none → Q (.ref p) (upd H p (.lst (ms.map V.int)))
theorem cr_sortA : CallR X (.builtin "sorted") (rSortA X.K) := by
  intro pins s τ H vs us Q I r h
  obtain ⟨a, ns, rfl, hs, h64, q⟩ := h
  rw [Vals.ref1 r]
  have got : ∃ (its : List Value) (o : Obj) (n : Nat) (T : String), Vals (ns.map V.int) its ∧ (T = "list" ∨ T = "tuple") ∧ s.heap.get? a = some o ∧ o.cls = .type T ∧ o.data = .seq its.toArray n := by
    rcases hs with z | z
    · obtain ⟨its, rv, pl, _⟩ := I.list z
      obtain ⟨o, ho, hc, n, hd⟩ := pl.isList
      exact ⟨its, o, n, "list", rv, .inl rfl, ho, hc, hd⟩
    · obtain ⟨its, rv, ⟨o, ho, hc, n, hd⟩, _⟩ := I.tuple z
      exact ⟨its, o, n, "tuple", rv, .inr rfl, ho, hc, hd⟩
  obtain ⟨its, o, n, T, rv, hT, ho, hc, hd⟩ := got
  have hi := rv.ints
  have h64' : its.length < 64 := by rw [hi.length]; exact h64
  refine Calls.call_function_entry kind_sorted plain_sorted entry_sorted (args_sorted1 _) ?_
  unfold Builtin.«sorted»
  refine wpAny_bind (m := checkCount "sorted" 1 1 _) (wpAny_pure (wpAny_bind (wpAny_collect_seq a hT ho hc hd (fun h' kp => ?_) (by rw [List.size_toArray, sizeLine_eq]; omega))))
  have hoL : (h'.push (seqObj "list" its.toArray 0)).get? h'.objs.size = some (seqObj "list" its.toArray 0) := Heap.get?_push_size _ rfl
  refine wpAny_bind (wpAny_newList ?_ (by rw [sizeLine_eq]; show its.length ≤ _; omega))
  show wpAny _ _ _ _ _ { s with heap := h'.push (seqObj "list" its.toArray 0) }
  refine wpAny_bind (wpAny_holding (wpAny_call_entry slot_list_sort ⟨_, hoL, rfl⟩ entry_list_sort (list_sort_tree hoL hi h64' fun out ms a1 a2 a3 => ⟨_, rfl, wpAny_pure ⟨_, rfl, ?_⟩⟩) (args_list_sort _)))
  obtain ⟨e, he⟩ := sortedHeap_at (vs := its) (out := out) hoL
  have hlen : (ms.map V.int).length ≤ sizeLine := by rw [List.length_map, a2.length_eq]; exact small64 h64
  have I1 : Inv X pins τ H { s with heap := h' } := I.kept (t' := s.toks) kp
  refine ⟨.ref h'.objs.size, upd H h'.objs.size (.lst (ms.map V.int)), I1.laid (t' := s.toks) (fun b u hb => ?_) (Nat.le_refl _) ⟨hlen, out.toList, e, vals_of_ints a1, he⟩, rfl, q ms _ a2 a3 (I1.hok.fresh (Nat.le_refl _))⟩
  have lt := Heap.lt_size hb
  exact (sortedHeap_old (Nat.ne_of_lt lt) (by rw [size_push']; exact Nat.lt_succ_of_lt lt)).trans (Heap.get?_push_of_some _ hb)
end
end K7S
end
/-! ## P10 -/
section
open PySem PySem.Spec PyProof.Rows L2
namespace K7
abbrev N__are_neighbours : List Str := ["cells", "thing", "couple"]
abbrev s__are_neighbours : Stmt := topS 17
theorem sc__are_neighbours : FnScope ["cells", "thing", "couple"] ["cells", "thing"] (defScope s__are_neighbours) := ⟨rfl, rfl, rfl, by decide +kernel, rfl, by decide +kernel, by decide +kernel⟩
section
variable {P : Program} {w : World} {K : PySem.W.Frag} {mg : Str → Option Value} {base : Heap}
/-! ### couples that are handed in: rows of two cells, either way round, tuples or lists -/
theorem SqOf.ty {H : Hp} {a : Addr} {xs : List V} (h : SqOf H a xs) : ∃ t : String, (∀ H1, Same H H1 → TyX K H1 (.ref a) (.type t)) ∧ PySem.W.kitAny K (.type t) [.type "list", .type "tuple"] = some true := by
  rcases h with z | z
  · exact ⟨"tuple", fun H1 e1 => .base (.tup (e1 _ _ z)), any_tup⟩
  · exact ⟨"list", fun H1 e1 => .base (.lst (e1 _ _ z)), any_lst⟩
def CoAt (H : Hp) (t : Addr) (c : Nat × Nat) : Prop := SqOf H t (ints_ [c.1, c.2])
def CoAll (H : Hp) (ts : List Addr) (cs : List (Nat × Nat)) : Prop := ts.length = cs.length ∧ ∀ (i : Nat) t c, ts[i]? = some t → cs[i]? = some c → CoAt H t c
theorem CoAll.same {H H' : Hp} {ts : List Addr} {cs : List (Nat × Nat)} (h : CoAll H ts cs) (e : Same H H') : CoAll H' ts cs := ⟨h.1, fun i t c h1 h2 => (h.2 i t c h1 h2).same e⟩
structure Cos (n : Nat) (cs : List (Nat × Nat)) : Prop where
  lt : ∀ c ∈ cs, c.1 < n ∧ c.2 < n ∧ c.1 ≠ c.2
  nd : (cs.map KL.srt).Nodup
  len : cs.length ≤ 32
theorem two_co {n : Nat} {c : Nat × Nat} (h : c.1 < n ∧ c.2 < n ∧ c.1 ≠ c.2) : twoV (n : Nat) (ints_ [c.1, c.2]) = true := by
  obtain ⟨h1, h2, h3⟩ := h
  unfold twoV cellsV
  have e1 : wholeV (.int (c.1 : Nat)) 0 (((n : Nat) : Int) - 1) = true := by rw [wholeV_int, decide_eq_true (by omega), decide_eq_true (by omega)]; rfl
  have e2 : wholeV (.int (c.2 : Nat)) 0 (((n : Nat) : Int) - 1) = true := by rw [wholeV_int, decide_eq_true (by omega), decide_eq_true (by omega)]; rfl
  have e3 : (ints_ [c.1, c.2]).all (fun x => wholeV x 0 (((n : Nat) : Int) - 1)) = true := by
    show (wholeV (.int (c.1 : Nat)) 0 (((n : Nat) : Int) - 1) && (wholeV (.int (c.2 : Nat)) 0 (((n : Nat) : Int) - 1) && true)) = true
    rw [e1, e2]; rfl
  have e4 : ((ints_ [c.1, c.2]).map intOf).Nodup := by
    show [((c.1 : Nat) : Int), ((c.2 : Nat) : Int)].Nodup
    refine List.nodup_cons.mpr ⟨fun m => ?_, List.nodup_cons.mpr ⟨List.not_mem_nil, List.nodup_nil⟩⟩
    rw [List.mem_singleton] at m
    omega
  rw [e3, decide_eq_true e4, decide_eq_true (show (2 : Int) ≤ (((ints_ [c.1, c.2]).length : Nat) : Int) from (by decide : (2 : Int) ≤ ((2 : Nat) : Int))), decide_eq_true (show (ints_ [c.1, c.2]).length = 2 from rfl)]
  rfl
def keyOf (c : Nat × Nat) : List Int := [((KL.srt c).1 : Int), ((KL.srt c).2 : Int)]
theorem keyOf_inj {c d : Nat × Nat} (h : keyOf c = keyOf d) : KL.srt c = KL.srt d := by
  unfold keyOf at h
  injection h with h1 h2
  injection h2 with h2
  exact Prod.ext (by omega) (by omega)
theorem keys_nd {cs : List (Nat × Nat)} (h : (cs.map KL.srt).Nodup) : (cs.map keyOf).Nodup := by
  induction cs with
  | nil => exact List.nodup_nil
  | cons c cs ih =>
    rw [List.map_cons, List.nodup_cons] at h
    rw [List.map_cons, List.nodup_cons]
    refine ⟨fun m => ?_, ih h.2⟩
    obtain ⟨d, hd, e⟩ := List.mem_map.mp m
    exact h.1 (List.mem_map.mpr ⟨d, hd, keyOf_inj e⟩)
theorem key_ints (c : Nat × Nat) : (keyOf c).map V.int = ints_ [(KL.srt c).1, (KL.srt c).2] := rfl
end
/-- flat, or a list of one flat thing -/
def Leaf (H : Hp) (y : V) : Prop := Flat4 y ∨ ∃ c z, y = .ref c ∧ H c = some (.lst [z]) ∧ Flat4 z
theorem Leaf.same {H H' : Hp} {y : V} (l : Leaf H y) (e : Same H H') : Leaf H' y := l.imp id fun ⟨c, z, h1, h2, h3⟩ => ⟨c, z, h1, e _ _ h2, h3⟩
theorem Leaf.thing {H : Hp} {y : V} (l : Leaf H y) : Thing H y := l.elim .flat fun ⟨c, z, h1, h2, h3⟩ => by subst h1; exact .lst h2
/-- what is no sequence -/
def NoRow (H : Hp) (v : V) : Prop := Flat4 v ∨ ∃ b, v = .ref b ∧ H b = some (.dK [])
theorem NoRow.same {H H' : Hp} {y : V} (l : NoRow H y) (e : Same H H') : NoRow H' y := l.imp id fun ⟨c, h1, h2⟩ => ⟨c, h1, e _ _ h2⟩
section
variable {K : PySem.W.Frag}
theorem any_dict : PySem.W.kitAny K (.type "dict") [.type "list", .type "tuple"] = some false := kitAny_cons (b := false) (kit_ty (by decide +kernel)) (fun _ => kitAny_cons (b := false) (kit_ty (by decide +kernel)) (fun _ => kitAny_nil) (fun z => nomatch z)) (fun z => nomatch z)
theorem NoRow.ty {H : Hp} {v : V} (h : NoRow H v) : ∃ t : String, (∀ H1, Same H H1 → TyX K H1 v (.type t)) ∧ PySem.W.kitAny K (.type t) [.type "list", .type "tuple"] = some false := by
  rcases h with f | ⟨b, rfl, h⟩
  · cases f with
    | non => exact ⟨"NoneType", fun _ _ => .base .non, any_non⟩
    | bl b => exact ⟨"bool", fun _ _ => .base (.bl b), any_bool⟩
    | int i => exact ⟨"int", fun _ _ => .base (.int i), any_int⟩
    | str z => exact ⟨"str", fun _ _ => .base (.str z), any_str⟩
  · exact ⟨"dict", fun H1 e => .base (.dK (e _ _ h)), any_dict⟩
end
theorem iteTo {c : Prop} [Decidable c] {p q : Prop} (h : c) (x : p) : if c then p else q := by rw [if_pos h]; exact x
theorem iteFo {b : Bool} {p q : Prop} (h : b = false) (x : q) : if b = true then p else q := by rw [h]; exact x
theorem nodup_perm {α : Type} {l m : List α} (nd : l.Nodup) (sub : ∀ x ∈ l, x ∈ m) (len : m.length ≤ l.length) : l.Perm m := by
  classical
  induction l generalizing m with
  | nil =>
    rw [List.length_nil, Nat.le_zero, List.length_eq_zero_iff] at len
    rw [len]
  | cons a l ih =>
    rw [List.nodup_cons] at nd
    have ma : a ∈ m := sub a (List.mem_cons_self ..)
    refine ((ih (m := m.erase a) nd.2 (fun y hy => ?_) ?_).cons a).trans (List.perm_cons_erase ma).symm
    · exact (List.mem_erase_of_ne (fun e => nd.1 (by rw [← e]; exact hy))).mpr (sub y (List.mem_cons_of_mem _ hy))
    · rw [List.length_erase_of_mem ma]
      rw [List.length_cons] at len
      omega
theorem len_nd {α : Type} {l m : List α} (nd : l.Nodup) (sub : ∀ x, x ∈ l ↔ x ∈ m) (le : l.length ≤ m.length) : l.length = m.length ↔ m.Nodup :=
  ⟨fun e => (nodup_perm nd (fun x hx => (sub x).mp hx) (by omega)).nodup_iff.mp nd, fun nm => by
    have p := nodup_perm nm (fun x hx => (sub x).mpr hx) le
    exact p.length_eq.symm⟩
/-- what are_two_cells says of a thing -/
inductive TwV (n : Nat) (H : Hp) : V → Bool → Prop
  | no {v : V} (h : NoRow H v) : TwV n H v false
  | row {b : Addr} {ws : List V} (h : SqOf H b ws) (it : ∀ y ∈ ws, Thing H y) (l : ws.length < 64) : TwV n H (.ref b) (twoV (n : Nat) ws)
theorem TwV.same {n : Nat} {H H' : Hp} {v : V} {b : Bool} (h : TwV n H v b) (e : Same H H') : TwV n H' v b := by
  cases h with
  | no h => exact .no (h.same e)
  | row h it l => exact .row (h.same e) (fun y hy => (it y hy).same e) l
structure CosR (n : Nat) (cs : List (Nat × Nat)) : Prop where
  lt : ∀ c ∈ cs, c.1 < n ∧ c.2 < n ∧ c.1 ≠ c.2
  len : cs.length ≤ 32
/-- what _are_neighbours says of a thing -/
inductive NbV (n : Nat) (H : Hp) : V → Bool → Prop
  | no {v : V} (h : NoRow H v) : NbV n H v false
  | row {a : Addr} {vs : List V} {bs : List Bool} (h : SqOf H a vs) (l : vs.length ≤ 32) (lb : bs.length = vs.length) (it : ∀ (i : Nat) (y : V), vs[i]? = some y → ∃ b, bs[i]? = some b ∧ TwV n H y b) (off : bs.all id = false) : NbV n H (.ref a) false
  | co {a : Addr} {ts : List Addr} {cs : List (Nat × Nat)} (h : SqOf H a (ts.map V.ref)) (hT : CoAll H ts cs) (hc : CosR n cs) : NbV n H (.ref a) (decide ((cs.map keyOf).Nodup))
theorem NbV.same {n : Nat} {H H' : Hp} {v : V} {b : Bool} (h : NbV n H v b) (e : Same H H') : NbV n H' v b := by
  cases h with
  | no h => exact .no (h.same e)
  | row h l lb it off => exact .row (h.same e) l lb (fun i y hy => (it i y hy).elim fun b z => ⟨b, z.1, z.2.same e⟩) off
  | co h hT hc => exact .co (h.same e) (hT.same e) hc
section
variable {P : Program} {w : World} {K : PySem.W.Frag} {mg : Str → Option Value} {base : Heap}
def spNbR : Sp := fun vs H Q _ => ∃ (n : Nat) (v : V) (b : Bool), vs = [.int (n : Nat), v] ∧ NbV n H v b ∧ ∀ H', Same H H' → Q (.bl b) H'
theorem ok_nbr {f fS fT : Addr} {fd fdS fdT : FuncData} (F : Fun K "_are_neighbours" "_are_neighbours" s__are_neighbours f fd)
    (Gsq : FnOk P w K mg base CX0 1 fS fdS ["thing"] (spSeq K)) (gsq : mg "is_sequence" = some (.ref fS)) (ksq : PySem.W.keepIn K (.ref fS) = true) (bsq : Binds K fdS ["thing"] [])
    (Ga2 : FnOk P w K mg base CX0 3 fT fdT ["many", "thing"] (spTwo K)) (ga2 : mg "are_two_cells" = some (.ref fT)) (ka2 : PySem.W.keepIn K (.ref fT) = true) (ba2 : Binds K fdT ["many", "thing"] [])
    (m_len : mg "len" = none) (m_all : mg "all" = none) (m_tuple : mg "tuple" = none) (m_sorted : mg "sorted" = none) : FnOk P w K mg base CX0 4 f fd ["cells", "thing"] spNbR := by
  refine F.ok sc__are_neighbours (fun vs H Q E h => ?_) (fun cdv A outer s H vs Q E hr h => ?_)
  · obtain ⟨n, v, b, rfl, _⟩ := h
    rfl
  · obtain ⟨n, v, b, rfl, hv, q⟩ := h
    refine ⟨_, (pss_cons (ps_if (pw_or (pt_not (pt_val (pe_call Gsq (hr.mono (by decide)) (by rfl) gsq ksq bsq .nil pass0 (pa_cons (pv 1) pa_nil)))) (pw_or1 (pt_not (pt_val (pe_callB (cr_all rfl) (by rfl) m_all boot_all (pa_cons (pe_lc (own := [("couple", 2)]) (g := gName 2) (tt := tYes) rfl sc__are_neighbours.nd (K7E.pi_either (pi_tup (pv 1)) (pi_list (pv 1))) (blkOk_by (own := [("couple", 2)]) (N := N__are_neighbours) (sc := defScope s__are_neighbours) (by decide +kernel)) (fun _ _ _ _ _ => (pg_name (i := 2) sc__are_neighbours.nd rfl (by first | exact Or.inl rfl | exact Or.inr rfl))) (fun _ _ _ _ _ => pts_nil) (fun _ _ _ _ _ => (pe_call Ga2 (hr.mono (by decide)) (by rfl) ga2 ka2 ba2 .nil pass0 (pa_cons (pv 0) (pa_cons (pv 2) pa_nil))))) pa_nil)))))).pt
  (pss_one (ps_ret pe_bl))
  pss_nil)
 (pss_one (ps_ret (pe_cmpR op_eq (pe_callB K7S.call_lenT (by rfl) m_len boot_len (pa_cons (K7S.pe_st (own := [("couple", 2)]) (g := gName 2) rfl (K7S.hu1 hr) sc__are_neighbours.nd (K7E.pi_either (pi_tup (pv 1)) (pi_list (pv 1))) (blkOk_by (own := [("couple", 2)]) (N := N__are_neighbours) (sc := defScope s__are_neighbours) (by decide +kernel)) (fun _ _ _ _ _ => (pg_name (i := 2) sc__are_neighbours.nd rfl (by first | exact Or.inl rfl | exact Or.inr rfl))) (fun _ _ _ _ _ => (pe_callTy (show CallR _ (.type "tuple") (rTup_ K) from call_tuple_of) (by rfl) m_tuple boot_tuple (pa_cons (pe_callB (show CallR _ (.builtin "sorted") (K7S.rSortA K) from K7S.cr_sortA) (by rfl) m_sorted boot_sorted (pa_cons (pv 2) pa_nil)) pa_nil)))) pa_nil)) (pe_callB call_len_seq (by rfl) m_len boot_len (pa_cons (pv 1) pa_nil)) (nomark _))))), ?_⟩
    cases hv with
    | no hv =>
      obtain ⟨ty, tyx, kk⟩ := hv.ty (K := K)
      exact ⟨_, rfl, _, ty, false, rfl, tyx, kk, fun H1 e1 => ⟨_, rfl, iteTo rfl (q _ e1)⟩⟩
    | @row a vs bs ha l32 lb it off =>
      obtain ⟨t, ty, kk⟩ := ha.ty (K := K)
      refine ⟨_, rfl, _, t, true, rfl, ty, kk, fun H1 e1 => ⟨_, rfl, iteFo rfl ?_⟩⟩
      have ha1 := ha.same e1
      rcases ha1 with z | z
      · refine .inl ⟨_, rfl, a, rfl, ⟨_, .inl (.inl z)⟩, fun D hD => lc_tup (xs := vs) (fun j H2 => Same H1 H2 ∧ H2 D = some (.lst ((bs.take j).map V.bl))) ⟨same_new (Same.refl H1) hD, upd_same⟩ (fun j H2 _ pv => .inl (.inl (pv.1 _ _ z))) (fun j x H2 hx pv => ?_) (fun H2 pv => ?_)⟩
        · obtain ⟨e2, hD2⟩ := pv
          have hj := (List.getElem?_eq_some_iff.mp hx).1
          obtain ⟨b, hb, hw⟩ := it j x hx
          have fin : ∀ H3, Same H2 H3 → ∃ acc, H3 D = some (HO.lst acc) ∧ acc.length < sizeLine ∧ Same H1 (upd H3 D (.lst (acc ++ [.bl b]))) ∧ upd H3 D (.lst (acc ++ [.bl b])) D = some (.lst ((bs.take (j + 1)).map V.bl)) := fun H3 e3 => by
            refine ⟨_, e3 _ _ hD2, by rw [List.length_map, List.length_take]; exact small1000 (by omega), fun b o hb => ?_, ?_⟩
            · rw [upd_ne (ne_of_none hb hD)]
              exact e3 _ _ (e2 _ _ hb)
            · rw [upd_same, List.take_add_one, hb, List.map_append]
              rfl
          have hw2 := (hw.same e1).same e2
          refine ⟨rfl, _, rfl, _, rfl, n, x, rfl, ?_⟩
          cases hw2 with
          | no hn =>
            obtain ⟨ty, tyx, kk⟩ := hn.ty (K := K)
            exact .inl ⟨ty, tyx, kk, fun H3 e3 => fin H3 e3⟩
          | row hs its l64 => exact .inr ⟨_, _, rfl, hs, its, l64, fun H3 e3 => fin H3 e3⟩
        · obtain ⟨e2, hD2⟩ := pv
          rw [← lb, List.take_length] at hD2
          refine ⟨D, bs, rfl, .inl (.inl hD2), _, rfl, ?_⟩
          rw [off]
          exact iteTo rfl (q _ (e1.trans e2))
      · refine .inr ⟨_, rfl, a, rfl, ⟨_, .inl (.inl z)⟩, fun D hD => lc_list (xs := vs) (fun j H2 => Same H1 H2 ∧ H2 D = some (.lst ((bs.take j).map V.bl))) ⟨same_new (Same.refl H1) hD, upd_same⟩ (fun j H2 _ pv => .inl (.inl (pv.1 _ _ z))) (fun j x H2 hx pv => ?_) (fun H2 pv => ?_)⟩
        · obtain ⟨e2, hD2⟩ := pv
          have hj := (List.getElem?_eq_some_iff.mp hx).1
          obtain ⟨b, hb, hw⟩ := it j x hx
          have fin : ∀ H3, Same H2 H3 → ∃ acc, H3 D = some (HO.lst acc) ∧ acc.length < sizeLine ∧ Same H1 (upd H3 D (.lst (acc ++ [.bl b]))) ∧ upd H3 D (.lst (acc ++ [.bl b])) D = some (.lst ((bs.take (j + 1)).map V.bl)) := fun H3 e3 => by
            refine ⟨_, e3 _ _ hD2, by rw [List.length_map, List.length_take]; exact small1000 (by omega), fun b o hb => ?_, ?_⟩
            · rw [upd_ne (ne_of_none hb hD)]
              exact e3 _ _ (e2 _ _ hb)
            · rw [upd_same, List.take_add_one, hb, List.map_append]
              rfl
          have hw2 := (hw.same e1).same e2
          refine ⟨rfl, _, rfl, _, rfl, n, x, rfl, ?_⟩
          cases hw2 with
          | no hn =>
            obtain ⟨ty, tyx, kk⟩ := hn.ty (K := K)
            exact .inl ⟨ty, tyx, kk, fun H3 e3 => fin H3 e3⟩
          | row hs its l64 => exact .inr ⟨_, _, rfl, hs, its, l64, fun H3 e3 => fin H3 e3⟩
        · obtain ⟨e2, hD2⟩ := pv
          rw [← lb, List.take_length] at hD2
          refine ⟨D, bs, rfl, .inl (.inl hD2), _, rfl, ?_⟩
          rw [off]
          exact iteTo rfl (q _ (e1.trans e2))
    | @co a ts cs ha hT hc =>
      obtain ⟨t, ty, kk⟩ := ha.ty (K := K)
      have hl : ts.length = cs.length := hT.1
      have h32 := hc.len
      refine ⟨_, rfl, _, t, true, rfl, ty, kk, fun H1 e1 => ⟨_, rfl, ?_⟩⟩
      have ha1 := ha.same e1
      have hT1 := hT.same e1
      have half : ∀ H2, Same H1 H2 → ∀ (j : Nat) (x : V) (H3 : Hp), (ts.map V.ref)[j]? = some x → Same H2 H3 → ∃ c t', x = .ref t' ∧ cs[j]? = some c ∧ CoAt H3 t' c := by
        intro H2 e2 j x H3 hx e23
        rw [List.getElem?_map] at hx
        obtain ⟨t', ht', rfl⟩ := Option.map_eq_some_iff.mp hx
        have hj : j < cs.length := by rw [← hl]; exact (List.getElem?_eq_some_iff.mp ht').1
        exact ⟨cs[j], t', rfl, List.getElem?_eq_getElem hj, (hT1.2 j t' _ ht' (List.getElem?_eq_getElem hj)).same (e2.trans e23)⟩
      have Q2 : ∀ H2, Same H1 H2 → Q (.bl (decide ((cs.map keyOf).Nodup))) H2 := fun H2 e2 => q H2 (e1.trans e2)
      have sz : (ts.map V.ref).length = cs.length := by rw [List.length_map, hl]
      rcases ha1 with z | z
      · refine .inl ⟨_, rfl, a, rfl, ⟨_, .inl (.inl z)⟩, fun D hD => lc_tup (xs := ts.map V.ref) (fun j H2 => Same H1 H2 ∧ ∃ bs : List Bool, H2 D = some (.lst (bs.map V.bl)) ∧ bs.all id = true ∧ bs.length = j) ⟨same_new (Same.refl H1) hD, [], upd_same, rfl, rfl⟩ (fun j H2 _ pv => .inl (.inl (pv.1 _ _ z))) (fun j x H2 hx pv => ?_) (fun H2 pv => ?_)⟩
        · obtain ⟨e2, bs, hD2, hb, lb⟩ := pv
          have hjx := (List.getElem?_eq_some_iff.mp hx).1
          rw [List.getElem?_map] at hx
          obtain ⟨t', ht', rfl⟩ := Option.map_eq_some_iff.mp hx
          have hj : j < cs.length := by rw [← sz]; exact hjx
          have hco := hc.lt cs[j] (List.getElem_mem hj)
          refine ⟨rfl, _, rfl, _, rfl, n, .ref t', rfl, .inr ⟨t', _, rfl, (hT1.2 j t' cs[j] ht' (List.getElem?_eq_getElem hj)).same e2, fun y hy => ?_, by show 2 < 64; decide, fun H3 e3 => ?_⟩⟩
          · obtain ⟨k, _, rfl⟩ := List.mem_map.mp hy
            exact .flat (.int _)
          · rw [two_co hco]
            refine ⟨_, e3 _ _ hD2, by rw [List.length_map]; exact small1000 (by omega), fun b o hb => ?_, bs ++ [true], ?_, ?_, by rw [List.length_append, lb]; rfl⟩
            · rw [upd_ne (ne_of_none hb hD)]
              exact e3 _ _ (e2 _ _ hb)
            · rw [upd_same, List.map_append]
              rfl
            · rw [List.all_append, hb]
              rfl
        · obtain ⟨e2, bs, hD2, hb, lb⟩ := pv
          refine ⟨D, bs, rfl, .inl (.inl hD2), _, rfl, ?_⟩
          rw [hb]
          refine iteF ?_
          refine .inl ⟨_, rfl, a, rfl, ⟨_, .inl (.inl (e2 _ _ z))⟩, fun D2 hD2 => K7S.st_tup (xs := ts.map V.ref) (fun j H3 => Same H2 H3 ∧ ∃ L : List (Addr × List Int), H3 D2 = some (SetTO P w D2 L) ∧ (∀ p ∈ L, H3 p.1 = some (.tup (p.2.map V.int))) ∧ (L.map (·.2)).Nodup ∧ (∀ k, k ∈ L.map (·.2) ↔ k ∈ (cs.take j).map keyOf) ∧ L.length ≤ j) ⟨same_new (Same.refl H2) hD2, [], upd_same, fun p hp => (nomatch hp), List.nodup_nil, fun k => Iff.rfl, Nat.le_refl _⟩ (fun j H3 _ pv => .inl (.inl (pv.1 _ _ (e2 _ _ z)))) (fun j x H3 hx pv => ?_) (fun H3 pv => ?_)⟩
          · obtain ⟨e3, L, hL, hLt, nd, mm, ll⟩ := pv
            obtain ⟨c, t', rfl, hcj, hco⟩ := half H2 e2 j x H3 hx e3
            have hjc := (List.getElem?_eq_some_iff.mp hcj).1
            refine ⟨rfl, _, rfl, t', [(c.1 : Int), (c.2 : Int)], rfl, hco.sq, by show 2 < 64; decide, fun ms p pm2 so np => ?_⟩
            have em := KL.two_sorted pm2 so
            subst em
            refine ⟨p, _, rfl, .inl ⟨.inl (.inl upd_same), fun l nl => ?_⟩⟩
            have s1 := same_new (o := .lst ([((min c.1 c.2 : Nat) : Int), ((max c.1 c.2 : Nat) : Int)].map V.int)) (Same.refl H3) np
            have s2 := same_new (o := .tup ([((min c.1 c.2 : Nat) : Int), ((max c.1 c.2 : Nat) : Int)].map V.int)) s1 nl
            refine ⟨l, keyOf c, L, rfl, .inl (.inl upd_same), s2 _ _ hL, fun p hp => .inl (.inl (s2 _ _ (hLt p hp))), by omega, fun L' c1 c2 => ?_⟩
            have nlD : l ≠ D2 := fun e => by rw [e, s1 _ _ hL] at nl; cases nl
            have tk : (cs.take (j + 1)).map keyOf = (cs.take j).map keyOf ++ [keyOf c] := by rw [List.take_add_one, hcj, List.map_append]; rfl
            have sm : ∀ o, Same H2 (upd (upd (upd H3 p (.lst ([((min c.1 c.2 : Nat) : Int), ((max c.1 c.2 : Nat) : Int)].map V.int))) l (.tup ([((min c.1 c.2 : Nat) : Int), ((max c.1 c.2 : Nat) : Int)].map V.int))) D2 o) := fun o b o' hb => by
              rw [upd_ne (ne_of_none hb hD2)]
              exact s2 _ _ (e3 _ _ hb)
            have kp : ∀ o, ∀ p' ∈ L, (upd (upd (upd H3 p (.lst ([((min c.1 c.2 : Nat) : Int), ((max c.1 c.2 : Nat) : Int)].map V.int))) l (.tup ([((min c.1 c.2 : Nat) : Int), ((max c.1 c.2 : Nat) : Int)].map V.int))) D2 o) p'.1 = some (.tup (p'.2.map V.int)) := fun o p' hp => by
              have z := s2 _ _ (hLt p' hp)
              rw [upd_ne (fun e => by rw [e] at z; exact absurd (z.symm.trans (s2 _ _ hL)) (fun w => by cases w))]
              exact z
            by_cases m : keyOf c ∈ L.map (·.2)
            · obtain rfl := c1 m
              refine ⟨sm _, L', upd_same, kp _, nd, fun k => ?_, by omega⟩
              rw [tk, List.mem_append, ← mm k, List.mem_singleton]
              exact ⟨.inl, fun z => z.elim id fun z => by rw [z]; exact m⟩
            · have pm := c2 m
              refine ⟨sm _, L', upd_same, fun p' hp => ?_, ?_, fun k => ?_, ?_⟩
              · rcases List.mem_cons.mp (pm.mem_iff.mp hp) with rfl | hp
                · rw [upd_ne nlD]
                  exact upd_same
                · exact kp _ p' hp
              · exact (pm.map (·.2)).nodup_iff.mpr (List.nodup_cons.mpr ⟨m, nd⟩)
              · rw [(pm.map (·.2)).mem_iff, tk, List.mem_append, List.map_cons, List.mem_cons, ← mm k, List.mem_singleton]
                exact Or.comm
              · rw [pm.length_eq, List.length_cons]
                omega
          · obtain ⟨e3, L, hL, hLt, nd, mm, ll⟩ := pv
            rw [sz, List.take_length] at mm
            rw [sz] at ll
            refine ⟨D2, L, rfl, hL, fun p hp => .inl (.inl (hLt p hp)), _, rfl, a, ts.map V.ref, rfl, ?_, rfl, ?_⟩
            · exact (SqOf.sq (K := K) (H := H3) (show SqOf H3 a (ts.map V.ref) from (ha.same e1).same (e2.trans e3)))
            · rw [show decide (V.int (L.length : Nat) = V.int ((ts.map V.ref).length : Nat)) = decide ((cs.map keyOf).Nodup) from ?_]
              · exact Q2 H3 (e2.trans e3)
              · have z := len_nd nd mm (by rw [List.length_map, List.length_map]; exact ll)
                rw [List.length_map, List.length_map] at z
                rw [sz]
                exact decide_eq_decide.mpr ⟨fun h => z.mp (by injection h with h; omega), fun h => by rw [z.mpr h]⟩
      · refine .inr ⟨_, rfl, a, rfl, ⟨_, .inl (.inl z)⟩, fun D hD => lc_list (xs := ts.map V.ref) (fun j H2 => Same H1 H2 ∧ ∃ bs : List Bool, H2 D = some (.lst (bs.map V.bl)) ∧ bs.all id = true ∧ bs.length = j) ⟨same_new (Same.refl H1) hD, [], upd_same, rfl, rfl⟩ (fun j H2 _ pv => .inl (.inl (pv.1 _ _ z))) (fun j x H2 hx pv => ?_) (fun H2 pv => ?_)⟩
        · obtain ⟨e2, bs, hD2, hb, lb⟩ := pv
          have hjx := (List.getElem?_eq_some_iff.mp hx).1
          rw [List.getElem?_map] at hx
          obtain ⟨t', ht', rfl⟩ := Option.map_eq_some_iff.mp hx
          have hj : j < cs.length := by rw [← sz]; exact hjx
          have hco := hc.lt cs[j] (List.getElem_mem hj)
          refine ⟨rfl, _, rfl, _, rfl, n, .ref t', rfl, .inr ⟨t', _, rfl, (hT1.2 j t' cs[j] ht' (List.getElem?_eq_getElem hj)).same e2, fun y hy => ?_, by show 2 < 64; decide, fun H3 e3 => ?_⟩⟩
          · obtain ⟨k, _, rfl⟩ := List.mem_map.mp hy
            exact .flat (.int _)
          · rw [two_co hco]
            refine ⟨_, e3 _ _ hD2, by rw [List.length_map]; exact small1000 (by omega), fun b o hb => ?_, bs ++ [true], ?_, ?_, by rw [List.length_append, lb]; rfl⟩
            · rw [upd_ne (ne_of_none hb hD)]
              exact e3 _ _ (e2 _ _ hb)
            · rw [upd_same, List.map_append]
              rfl
            · rw [List.all_append, hb]
              rfl
        · obtain ⟨e2, bs, hD2, hb, lb⟩ := pv
          refine ⟨D, bs, rfl, .inl (.inl hD2), _, rfl, ?_⟩
          rw [hb]
          refine iteF ?_
          refine .inr ⟨_, rfl, a, rfl, ⟨_, .inl (.inl (e2 _ _ z))⟩, fun D2 hD2 => K7S.st_list (xs := ts.map V.ref) (fun j H3 => Same H2 H3 ∧ ∃ L : List (Addr × List Int), H3 D2 = some (SetTO P w D2 L) ∧ (∀ p ∈ L, H3 p.1 = some (.tup (p.2.map V.int))) ∧ (L.map (·.2)).Nodup ∧ (∀ k, k ∈ L.map (·.2) ↔ k ∈ (cs.take j).map keyOf) ∧ L.length ≤ j) ⟨same_new (Same.refl H2) hD2, [], upd_same, fun p hp => (nomatch hp), List.nodup_nil, fun k => Iff.rfl, Nat.le_refl _⟩ (fun j H3 _ pv => .inl (.inl (pv.1 _ _ (e2 _ _ z)))) (fun j x H3 hx pv => ?_) (fun H3 pv => ?_)⟩
          · obtain ⟨e3, L, hL, hLt, nd, mm, ll⟩ := pv
            obtain ⟨c, t', rfl, hcj, hco⟩ := half H2 e2 j x H3 hx e3
            have hjc := (List.getElem?_eq_some_iff.mp hcj).1
            refine ⟨rfl, _, rfl, t', [(c.1 : Int), (c.2 : Int)], rfl, hco.sq, by show 2 < 64; decide, fun ms p pm2 so np => ?_⟩
            have em := KL.two_sorted pm2 so
            subst em
            refine ⟨p, _, rfl, .inl ⟨.inl (.inl upd_same), fun l nl => ?_⟩⟩
            have s1 := same_new (o := .lst ([((min c.1 c.2 : Nat) : Int), ((max c.1 c.2 : Nat) : Int)].map V.int)) (Same.refl H3) np
            have s2 := same_new (o := .tup ([((min c.1 c.2 : Nat) : Int), ((max c.1 c.2 : Nat) : Int)].map V.int)) s1 nl
            refine ⟨l, keyOf c, L, rfl, .inl (.inl upd_same), s2 _ _ hL, fun p hp => .inl (.inl (s2 _ _ (hLt p hp))), by omega, fun L' c1 c2 => ?_⟩
            have nlD : l ≠ D2 := fun e => by rw [e, s1 _ _ hL] at nl; cases nl
            have tk : (cs.take (j + 1)).map keyOf = (cs.take j).map keyOf ++ [keyOf c] := by rw [List.take_add_one, hcj, List.map_append]; rfl
            have sm : ∀ o, Same H2 (upd (upd (upd H3 p (.lst ([((min c.1 c.2 : Nat) : Int), ((max c.1 c.2 : Nat) : Int)].map V.int))) l (.tup ([((min c.1 c.2 : Nat) : Int), ((max c.1 c.2 : Nat) : Int)].map V.int))) D2 o) := fun o b o' hb => by
              rw [upd_ne (ne_of_none hb hD2)]
              exact s2 _ _ (e3 _ _ hb)
            have kp : ∀ o, ∀ p' ∈ L, (upd (upd (upd H3 p (.lst ([((min c.1 c.2 : Nat) : Int), ((max c.1 c.2 : Nat) : Int)].map V.int))) l (.tup ([((min c.1 c.2 : Nat) : Int), ((max c.1 c.2 : Nat) : Int)].map V.int))) D2 o) p'.1 = some (.tup (p'.2.map V.int)) := fun o p' hp => by
              have z := s2 _ _ (hLt p' hp)
              rw [upd_ne (fun e => by rw [e] at z; exact absurd (z.symm.trans (s2 _ _ hL)) (fun w => by cases w))]
              exact z
            by_cases m : keyOf c ∈ L.map (·.2)
            · obtain rfl := c1 m
              refine ⟨sm _, L', upd_same, kp _, nd, fun k => ?_, by omega⟩
              rw [tk, List.mem_append, ← mm k, List.mem_singleton]
              exact ⟨.inl, fun z => z.elim id fun z => by rw [z]; exact m⟩
            · have pm := c2 m
              refine ⟨sm _, L', upd_same, fun p' hp => ?_, ?_, fun k => ?_, ?_⟩
              · rcases List.mem_cons.mp (pm.mem_iff.mp hp) with rfl | hp
                · rw [upd_ne nlD]
                  exact upd_same
                · exact kp _ p' hp
              · exact (pm.map (·.2)).nodup_iff.mpr (List.nodup_cons.mpr ⟨m, nd⟩)
              · rw [(pm.map (·.2)).mem_iff, tk, List.mem_append, List.map_cons, List.mem_cons, ← mm k, List.mem_singleton]
                exact Or.comm
              · rw [pm.length_eq, List.length_cons]
                omega
          · obtain ⟨e3, L, hL, hLt, nd, mm, ll⟩ := pv
            rw [sz, List.take_length] at mm
            rw [sz] at ll
            refine ⟨D2, L, rfl, hL, fun p hp => .inl (.inl (hLt p hp)), _, rfl, a, ts.map V.ref, rfl, ?_, rfl, ?_⟩
            · exact (SqOf.sq (K := K) (H := H3) (show SqOf H3 a (ts.map V.ref) from (ha.same e1).same (e2.trans e3)))
            · rw [show decide (V.int (L.length : Nat) = V.int ((ts.map V.ref).length : Nat)) = decide ((cs.map keyOf).Nodup) from ?_]
              · exact Q2 H3 (e2.trans e3)
              · have z := len_nd nd mm (by rw [List.length_map, List.length_map]; exact ll)
                rw [List.length_map, List.length_map] at z
                rw [sz]
                exact decide_eq_decide.mpr ⟨fun h => z.mp (by injection h with h; omega), fun h => by rw [z.mpr h]⟩
end
end K7
end
/-! ## EU -/
section
namespace K7E
open PySem PySem.Spec PyProof.Rows L2
section
variable {X : Cx} {CX : CXT} {k : Nat} {f : Addr} {sp : Sp} {E : XK} {x : Str} {e : Expr} {es : List Expr} {t : TA} {p pos : Pos}
/-- x(e, ..) by a positional promise -/
theorem pe_callR0 (F : FnR X.prog X.w X.K X.mg X.base CX k f sp) (hr : Room k X.A) (hg : Gl X x) (hm : X.mg x = some (.ref f)) (hk : PySem.W.keepIn X.K (.ref f) = true) (hx : Passes CX X E) (ha : PA X (e :: es) t) (hd : (x == ("__debug__" : Str)) = false := by decide)
    (h1 : starEach (e :: es) X.env = (false, eval e X.env) :: starEach es X.env := by rfl) (h2 : (backTo pos (starEach es X.env)).any (·.1) = false := by rfl) : PE X (.Call (.Name x p) (e :: es) [] pos) (fun τ H Q => t τ H fun vs H1 => sp vs H1 Q E) := by
  refine ⟨fun pins s τ H Q I h => wpAny_Call_Name_kw (ld_glob I hg hm (PySem.W.callWith_K (h₀ := X.base) I.ok.mod.kin hk (thn (ha.run pos pins s τ H _ I h) fun us s1 ⟨vs, H1, I1, r, q⟩ => ⟨I1.kIn, ?_⟩) h1 h2) hd)⟩
  exact wpAny_call (run_fnR F hr hx I1 r q)
end
end K7E
end
/-! ## P11 -/
section
open PySem PySem.Spec PyProof.Rows L2
namespace K7
abbrev N_BadCell___init__ : List Str := ["self", "cell"]
abbrev s_BadCell___init__ : Stmt := inClass (topS 4) 0
theorem sc_BadCell___init__ : FnScope ["self", "cell"] ["self", "cell"] (defScope s_BadCell___init__) := ⟨rfl, rfl, rfl, by decide +kernel, rfl, by decide +kernel, by decide +kernel⟩
abbrev N_is_cell : List Str := ["land", "thing"]
abbrev s_is_cell : Stmt := topS 12
theorem sc_is_cell : FnScope ["land", "thing"] ["land", "thing"] (defScope s_is_cell) := ⟨rfl, rfl, rfl, by decide +kernel, rfl, by decide +kernel, by decide +kernel⟩
abbrev N_check_cells : List Str := ["land", "things", "thing"]
abbrev s_check_cells : Stmt := topS 13
theorem sc_check_cells : FnScope ["land", "things", "thing"] ["land", "things"] (defScope s_check_cells) := ⟨rfl, rfl, rfl, by decide +kernel, rfl, by decide +kernel, by decide +kernel⟩
/-! ### a land that stands, and what the top says of it -/
def landFs (n : Int) (an ar ay ac : Addr) : List (Str × V) := putF "_couples" (.ref ac) (putF "nearby" (.ref ay) (putF "roads" (.ref ar) (putF "neighbours" (.ref an) (putF "cells" (.int n) []))))
def lfields : List Str := ["cells", "neighbours", "roads", "nearby", "_couples"]
structure AdL where
  (C B iB : Addr)
structure Tl (K : PySem.W.Frag) (mg : Str → Option Value) (a : AdL) : Prop where
  gC : mg "Land" = some (.ref a.C)
  cl : Cls K a.C
  nA : ∀ f ∈ lfields, NoAttr K a.C f
  gB : mg "BadCell" = some (.ref a.B)
  oxB : OexC K a.B
  iCB : PySem.W.findIn K (.ref a.B) "__init__" = some (some (.ref a.iB))
  tIB : PySem.W.typeIn K (.ref a.iB) = some (.type "function")
  nB : PySem.W.findIn K (.ref a.B) "cell" = some none
/-- an error of the class C with one field is raised -/
def Flies (H : Hp) (C : Addr) (f : Str) (v : V) (E : XK) : Prop := ∀ H' d, Same H H' → H d = none → H' d = some (.xd [(f, v)]) → E (.ref C) (some d) H'
theorem Flies.later {H H1 : Hp} {C : Addr} {f : Str} {v : V} {E : XK} (h : Flies H C f v E) (e : Same H H1) : Flies H1 C f v E := fun H' d e' n q => h H' d (e.trans e') (e.free n) q
/-- an instance with a number of cells -/
def LandC (C : Addr) (H : Hp) (p : Addr) (n : Nat) : Prop := ∃ dx fs, H p = some (.ins C dx fs) ∧ fs.lookup ("cells" : Str) = some (V.int (n : Nat))
theorem LandC.same {C : Addr} {H H' : Hp} {p : Addr} {n : Nat} (h : LandC C H p n) (e : Same H H') : LandC C H' p n := by
  obtain ⟨dx, fs, h1, h2⟩ := h
  exact ⟨dx, fs, e _ _ h1, h2⟩
section
variable {P : Program} {w : World} {K : PySem.W.Frag} {mg : Str → Option Value} {base : Heap} {a : AdL}
def spX (C : Addr) (f : Str) : Sp := fun vs H Q _ => ∃ (e : Addr) (y : V), vs = [.ref e, y] ∧ H e = some (exo e C none) ∧ ∀ d, H d = none → d ≠ e → Q .non (upd (upd H d (exd d [(f, y)])) e (exo e C (some d)))
theorem ok_iB (T : Tl K mg a) {f : Addr} {fd : FuncData} (F : Fun K "__init__" "BadCell.__init__" s_BadCell___init__ f fd) : FnOk P w K mg base (L2.CX P w) 1 f fd ["self", "cell"] (spX a.B "cell") := by
  refine F.okX sc_BadCell___init__ (fun vs H Q E h => ?_) (fun cdv A outer s H vs Q E hr h => ?_)
  · obtain ⟨e, y, rfl, _⟩ := h
    rfl
  · obtain ⟨e, y, rfl, he, q⟩ := h
    refine ⟨_, (pss_one (ps_ost (pv 0) (pv 1))), ?_⟩
    exact ⟨y, rfl, .ref e, rfl, e, a.B, rfl, T.oxB, T.nB, .inl ⟨he, fun d hd hn => q d hd hn⟩⟩
/-- the reading of «raise X(y)» -/
theorem flies_go {H : Hp} {C : Addr} {f : Str} {y : V} {E : XK} (h : Flies H C f y E) :
    ∀ e, H e = none → spX C f (.ref e :: ([y] ++ [])) (upd H e (exo e C none)) (fun v H2 => v = .non ∧ ∃ (d : Addr) (fs : List (Str × V)), H2 e = some (exo e C (some d)) ∧ H2 d = some (exd d fs) ∧ H d = none ∧ E (.ref C) (some d) (upd (del H2 e) d (.xd fs))) (fun _ _ _ => False) := by
  intro e he
  refine ⟨e, y, rfl, upd_same, fun d hd hne => ⟨rfl, d, _, upd_same, by rw [upd_ne hne, upd_same], ?_, ?_⟩⟩
  · rw [upd_ne hne] at hd
    exact hd
  · rw [upd_ne hne] at hd
    refine h _ d (fun b o hb => ?_) hd upd_same
    have h1 : b ≠ d := ne_of_none hb hd
    have h2 : b ≠ e := ne_of_none hb he
    rw [upd_ne h1, del_ne h2, upd_ne h2, upd_ne h1, upd_ne h2]
    exact hb
/-! is_cell -/
def spIsCell (C : Addr) : Sp := fun vs H Q _ => ∃ (p : Addr) (n : Nat) (x : V), vs = [.ref p, x] ∧ LandC C H p n ∧ Thing H x ∧ Q (.bl (wholeV x 0 ((n : Nat) - 1))) H
theorem ok_iscell (T : Tl K mg a) {f fW : Addr} {fd fdW : FuncData} (F : Fun K "is_cell" "is_cell" s_is_cell f fd)
    (Giw : FnOk P w K mg base CX0 1 fW fdW ["thing", "low", "high"] spWhole) (giw : mg "is_whole" = some (.ref fW)) (kiw : PySem.W.keepIn K (.ref fW) = true) (biw : Binds K fdW ["thing", "low", "high"] []) : FnOk P w K mg base CX0 2 f fd ["land", "thing"] (spIsCell a.C) := by
  refine F.ok sc_is_cell (fun vs H Q E h => ?_) (fun cdv A outer s H vs Q E hr h => ?_)
  · obtain ⟨p, n, x, rfl, _⟩ := h
    rfl
  · obtain ⟨p, n, x, rfl, ⟨dx, fs, hp, hl⟩, hx, q⟩ := h
    refine ⟨_, (pss_one (ps_ret (pe_call Giw (hr.mono (by decide)) (by rfl) giw kiw biw .nil pass0 (pa_cons (pv 1) (pa_cons pe_int (pa_cons (pe_op op_sub (pe_fld (pv 0) rfl) pe_int) pa_nil)))))), ?_⟩
    exact ⟨_, rfl, .ref p, rfl, p, a.C, dx, fs, _, rfl, hp, T.cl, T.nA _ (by decide), hl, _, _, rfl, rfl, x, 0, _, rfl, hx, q⟩
/-! check_cells -/
def AllIn (n : Nat) (xs : List V) : Prop := ∀ x ∈ xs, wholeV x 0 ((n : Nat) - 1) = true
def spCheck (a : AdL) : Sp := fun vs H Q E => ∃ (p : Addr) (n : Nat) (xs : List V), vs = .ref p :: xs ∧ LandC a.C H p n ∧ xs.length < 64 ∧
  (((∀ x ∈ xs, Thing H x) ∧ AllIn n xs ∧ ∀ H', Same H H' → Q .non H') ∨ (∃ ys x zs, xs = ys ++ x :: zs ∧ (∀ x ∈ ys, Thing H x) ∧ AllIn n ys ∧ Thing H x ∧ wholeV x 0 ((n : Nat) - 1) = false ∧ Flies H a.B "cell" x E))
theorem ok_check (T : Tl K mg a) {f fI : Addr} {fd fdI fdB : FuncData} (F : Fun K "check_cells" "check_cells" s_check_cells f fd)
    (Gic : FnOk P w K mg base CX0 2 fI fdI ["land", "thing"] (spIsCell a.C)) (gic : mg "is_cell" = some (.ref fI)) (kic : PySem.W.keepIn K (.ref fI) = true) (bic : Binds K fdI ["land", "thing"] [])
    (FB0 : Fun K "__init__" "BadCell.__init__" s_BadCell___init__ a.iB fdB) (bB : Binds K fdB ["self", "cell"] []) : FnR P w K mg base (L2.CX P w) 4 f (spCheck a) := by
  have FB : FnOk P w K mg base (L2.CX P w) 1 a.iB fdB ["self", "cell"] (spX a.B "cell") := ok_iB T FB0
  obtain ⟨oc, od, kV, doc, pm, an, cdv, ct, osl, rfl, lk, hcd⟩ := F.ex
  have G := StX.fn_star (CX := L2.CX P w) (P := P) (w := w) (mg := mg) (base := base) (k := 3) (ps := ["land"]) (pv := "things") (sp := fun vs H Q E => ∃ (p t : Addr) (n : Nat) (xs : List V), vs = [.ref p, .ref t] ∧ H t = some (.tup xs) ∧ LandC a.C H p n ∧ xs.length < 64 ∧
    (((∀ x ∈ xs, Thing H x) ∧ AllIn n xs ∧ ∀ H', Same H H' → Q .non H') ∨ (∃ ys x zs, xs = ys ++ x :: zs ∧ (∀ x ∈ ys, Thing H x) ∧ AllIn n ys ∧ Thing H x ∧ wholeV x 0 ((n : Nat) - 1) = false ∧ Flies H a.B "cell" x E))) lk hcd sc_check_cells StX.cxUp (StX.bind_star1 (B := fun l => bindArgs (PySem.W.fnOf "check_cells" "check_cells" (defArgs s_check_cells) (defBody s_check_cells) (defScope s_check_cells) .none kV doc pm an cdv ct) ⟨l, []⟩) (p1 := "land") (pv := "things") (fun _ => rfl) fun _ _ _ => rfl) ?_
  · refine G.imp fun vs H Q E h => ?_
    obtain ⟨p, n, xs, rfl, hl, h64, hh⟩ := h
    refine ⟨[.ref p], xs, rfl, rfl, by rw [sizeLine_eq]; omega, fun t ht => ⟨p, t, n, xs, rfl, upd_same, hl.same (same_new (Same.refl H) ht), h64, ?_⟩⟩
    have e := same_new (o := .tup xs) (Same.refl H) ht
    rcases hh with ⟨h1, h2, h3⟩ | ⟨ys, x, zs, h1, h2, h3, h4, h5, h6⟩
    · exact .inl ⟨fun x hx => (h1 x hx).same e, h2, fun H' e' => h3 H' (e.trans e')⟩
    · exact .inr ⟨ys, x, zs, h1, fun x hx => (h2 x hx).same e, h3, h4.same e, h5, h6.later e⟩
  · intro A outer s H vs Q E hr h
    obtain ⟨p, t, n, xs, rfl, ht, hl, h64, hh⟩ := h
    have hrx : Room (1 + 1) _ := hr.mono (by decide)
    refine ⟨_, (pss_one (ps_for (passes_of rfl) rfl (pi_tup (pv 1)) (pg_name (i := 2) sc_check_cells.nd rfl (by first | exact Or.inl rfl | exact Or.inr rfl))
  (pss_one (ps_if (pt_not (pt_val (pe_call Gic (hr.mono (by decide)) (by rfl) gic kic bic .nil pass0 (pa_cons (pv 0) (pa_cons (pv 2) pa_nil)))))
  (pss_one (ps_raise rfl (takes_of rfl rfl rfl rfl) (pmk_oex T.oxB T.iCB T.tIB FB hrx bB .nil passL (by rfl) T.gB (pa_cons (pv 2) pa_nil))))
  pss_nil)))), ?_⟩
    refine ⟨_, rfl, t, rfl, ⟨xs, .inl (.inl ht)⟩, for_tup (xs := xs) (fun j τ H1 => H1 = H ∧ AllIn n (xs.take j) ∧ ∃ y, τ = [some (.ref p), some (.ref t), y]) ⟨rfl, fun x hx => (nomatch hx), none, rfl⟩ (fun j τ H1 _ pv => ?_) (fun j x τ H1 hx pv => ?_) (fun τ H1 pv => ?_)⟩
    · obtain ⟨rfl, _⟩ := pv
      exact .inl (.inl ht)
    · obtain ⟨rfl, al, y, rfl⟩ := pv
      have fin : ∀ b, wholeV x 0 ((n : Nat) - 1) = b → Thing H1 x ∧ (b = false → Flies H1 a.B "cell" x E) := by
        intro b hb
        rcases hh with ⟨h1, h2, h3⟩ | ⟨ys, x', zs, rfl, h2, h3, h4, h5, h6⟩
        · refine ⟨h1 x (List.mem_of_getElem? hx), fun e => ?_⟩
          rw [h2 x (List.mem_of_getElem? hx)] at hb
          rw [← hb] at e
          cases e
        · rcases Nat.lt_trichotomy j ys.length with lt | e | gt
          · rw [List.getElem?_append_left lt] at hx
            have m := List.mem_of_getElem? hx
            refine ⟨h2 x m, fun e => ?_⟩
            rw [h3 x m] at hb
            rw [← hb] at e
            cases e
          · rw [List.getElem?_append_right (by omega), e, Nat.sub_self] at hx
            obtain rfl : x' = x := Option.some.inj hx
            exact ⟨h4, fun _ => h6⟩
          · have m : x' ∈ (ys ++ x' :: zs).take j := by
              rw [List.take_append, List.take_of_length_le (by omega)]
              exact List.mem_append_right _ (by
                obtain ⟨k, hk⟩ : ∃ k, j - ys.length = k + 1 := ⟨j - ys.length - 1, by omega⟩
                rw [hk]
                exact List.mem_cons_self)
            rw [al x' m] at h5
            cases h5
      obtain ⟨hth, hfl⟩ := fin _ rfl
      refine ⟨_, rfl, _, rfl, p, n, x, rfl, hl, hth, _, rfl, ?_⟩
      cases hb : wholeV x 0 ((n : Nat) - 1) with
      | true =>
        refine iteF ⟨rfl, fun z hz => ?_, _, rfl⟩
        rw [List.take_add_one, hx] at hz
        rcases List.mem_append.mp hz with hz | hz
        · exact al z hz
        · rw [List.mem_singleton.mp hz]
          exact hb
      | false => exact iteT ⟨_, rfl, by show 1 ≤ 1000; decide, flies_go (hfl hb)⟩
    · obtain ⟨rfl, al, y, rfl⟩ := pv
      rcases hh with ⟨h1, h2, h3⟩ | ⟨ys, x', zs, rfl, h2, h3, h4, h5, h6⟩
      · exact h3 _ (Same.refl _)
      · rw [List.take_length] at al
        rw [al x' (List.mem_append_right _ List.mem_cons_self)] at h5
        cases h5
end
end K7
end
/-! ## EV -/
section
namespace K7E
open PySem PySem.Spec PyProof.Rows L2
/-- the inner range of a comprehension of two -/
theorem in_range {lo : Int} {n : Nat} {g : TG} {tt : TT} {te : TE} {vs : List Nat} {τ : L2.St} {H4 : Hp} {D : Addr} {Nx : Hp → Prop} (Pw : Nat → Hp → Prop) (h0 : Pw 0 H4)
    (hs : ∀ j H, j < n → Pw j H → g (.int (lo + j)) (wipe τ vs) H fun t3 H5 => wipe t3 vs = wipe τ vs ∧ tt t3 H5 fun b H6 => if b = true then te t3 H6 fun y H7 => ∃ acc, H7 D = some (.lst acc) ∧ acc.length < sizeLine ∧ Pw (j + 1) (upd H7 D (.lst (acc ++ [y]))) else Pw (j + 1) H6) (hd : ∀ H, Pw n H → Nx H) :
    ∃ W1 : Nat → Nat → Hp → Prop, (∃ m, W1 0 m H4) ∧ ∀ j k H, W1 j k H → ((Itr lo n).stop j H ∧ Nx H) ∨ ((Itr lo n).go j H ∧ ∃ N1 : Hp → Prop, (∀ H', N1 H' → ∃ k', k' < k ∧ W1 (j + 1) k' H') ∧
      ∀ x H', (Itr lo n).yld j H x H' → g x (wipe τ vs) H' fun t3 H5 => wipe t3 vs = wipe τ vs ∧ tt t3 H5 fun b H6 => if b = true then te t3 H6 fun y H7 => ∃ acc, H7 D = some (.lst acc) ∧ acc.length < sizeLine ∧ N1 (upd H7 D (.lst (acc ++ [y]))) else N1 H6) := by
  refine ⟨fun j k H => k + j = n ∧ Pw j H, ⟨n, rfl, h0⟩, fun j k H z => ?_⟩
  obtain ⟨hk, p⟩ := z
  rcases Nat.lt_or_ge j n with lt | ge
  · refine .inr ⟨lt, Pw (j + 1), fun H' p' => ⟨k - 1, by omega, by omega, p'⟩, fun x H' y => ?_⟩
    obtain ⟨rfl, rfl⟩ := y
    exact hs j _ lt p
  · obtain rfl : j = n := by omega
    exact .inl ⟨Nat.le_refl _, hd H p⟩
/-- the outer one -/
theorem out_range {lo : Int} {n : Nat} {g : TG} {tt : TT} {inner : (Hp → Prop) → L2.St → Hp → Prop} {vs : List Nat} {τ : L2.St} {H1 : Hp} {D : Addr} {Qd : Hp → Prop} (Pv : Nat → Hp → Prop) (h0 : Pv 0 (upd H1 D (.lst [])))
    (hs : ∀ i H, i < n → Pv i H → g (.int (lo + i)) (wipe τ vs) H fun t2 H2 => wipe t2 vs = wipe τ vs ∧ tt t2 H2 fun b H3 => if b = true then inner (Pv (i + 1)) t2 H3 else Pv (i + 1) H3) (hd : ∀ H, Pv n H → Qd H) :
    ∃ W : Nat → Nat → Hp → Prop, (∃ m, W 0 m (upd H1 D (.lst []))) ∧ ∀ i m H, W i m H → ((Itr lo n).stop i H ∧ Qd H) ∨ ((Itr lo n).go i H ∧ ∃ Nx : Hp → Prop, (∀ H', Nx H' → ∃ m', m' < m ∧ W (i + 1) m' H') ∧
      ∀ x H', (Itr lo n).yld i H x H' → g x (wipe τ vs) H' fun t2 H2 => wipe t2 vs = wipe τ vs ∧ tt t2 H2 fun b H3 => if b = true then inner Nx t2 H3 else Nx H3) := by
  refine ⟨fun i m H => m + i = n ∧ Pv i H, ⟨n, rfl, h0⟩, fun i m H z => ?_⟩
  obtain ⟨hm, p⟩ := z
  rcases Nat.lt_or_ge i n with lt | ge
  · refine .inr ⟨lt, Pv (i + 1), fun H' p' => ⟨m - 1, by omega, by omega, p'⟩, fun x H' y => ?_⟩
    obtain ⟨rfl, rfl⟩ := y
    exact hs i _ lt p
  · obtain rfl : i = n := by omega
    exact .inl ⟨Nat.le_refl _, hd H p⟩
end K7E
end
/-! ## EX -/
section
namespace K7E
open PySem PySem.Spec PyProof.Rows L2
/-! a call under try: what it lets out is asked for where it stands -/
section
variable {X : Cx} {W : WX} {k : Nat} {f C : Addr} {fd : FuncData} {ps : List Str} {sp : Sp} {dvs : List V} {ds : List Value} {x m : Str} {p pos apos : Pos} {e o : Expr} {es : List Expr} {ta : TE} {t : TA}
theorem run_fnW {pins : List (Addr × Obj)} {σ : L2.St} {H : Hp} {s : Shared} {Q : VK} {us : List Value} {vs : List V} (F : FnOk X.prog X.w X.K X.mg X.base (L2.CX X.prog X.w) k f fd ps sp) (hr : Room k X.A) (hb : Binds X.K fd ps ds) (hd : Vals dvs ds) (tk : Takes X W)
    (I : Inv X pins σ H s) (r : Vals vs us) (h : sp (vs ++ dvs) H Q (fun cls d H' => W cls d σ H')) : wpAny (model X.prog X.w) X.A (call (.ref f) us) (EP X pins σ Q) X.xe s := by
  have r2 : Vals (vs ++ dvs) (us ++ ds) := r.append hd
  have hl : (us ++ ds).length = ps.length := by rw [← r2.length]; exact F.len _ _ _ _ h
  refine wpAny_call (codeAny_mono (F.run X.A X.stack s H ⟨us, []⟩ (us ++ ds) (vs ++ dvs) Q _ hr I.env0 (hb s us I.kIn hl) r2 h) fun r s' hq => ?_)
  cases r with
  | error e => exact tk e s' (XE.of_call (E := fun cls d H' => W cls d σ H') I (fun cls d H' h => h) hq)
  | ok fl =>
    cases fl with
    | ret u => exact I.after hq
    | next => exact False.elim hq
    | brk => exact False.elim hq
    | cont => exact False.elim hq
theorem pe_callW (F : FnOk X.prog X.w X.K X.mg X.base (L2.CX X.prog X.w) k f fd ps sp) (hr : Room k X.A) (hg : Gl X x) (hm : X.mg x = some (.ref f)) (hk : PySem.W.keepIn X.K (.ref f) = true) (hb : Binds X.K fd ps ds) (hd : Vals dvs ds) (tk : Takes X W)
    (ha : PA X (e :: es) t) (hdb : (x == ("__debug__" : Str)) = false := by decide) (he : starEach (e :: es) X.env = (false, eval e X.env) :: starEach es X.env := by rfl) (hpl : (backTo pos (starEach es X.env)).any (·.1) = false := by rfl) :
    PE X (.Call (.Name x p) (e :: es) [] pos) (fun σ H Q => t σ H fun vs H1 => sp (vs ++ dvs) H1 Q (fun cls d H' => W cls d σ H')) := by
  refine ⟨fun pins s σ H Q I h => ?_⟩
  refine wpAny_Call_Name_kw (ld_glob I hg hm ?_ hdb)
  refine PySem.W.callWith_K (h₀ := X.base) I.ok.mod.kin hk (thn (ha.run pos pins s σ H _ I h) fun us s1 ⟨vs, H1, I1, r, q⟩ => ⟨I1.kIn, ?_⟩) he hpl
  exact run_fnW F hr hb hd tk I1 r q
theorem pe_methW {pl : Sem Bool} (he : PE X o ta) (c : Cls X.K C) (hm : Meth X.K C m f) (F : FnOk X.prog X.w X.K X.mg X.base (L2.CX X.prog X.w) k f fd ps sp) (hr : Room k X.A) (hb : Binds X.K fd ps ds) (hd : Vals dvs ds) (tk : Takes X W) (ha : PA X (e :: es) t)
    (hst : starEach (e :: es) X.env = (false, eval e X.env) :: starEach es X.env := by rfl) (hpl : (backTo pos (starEach es X.env)).any (·.1) = false := by rfl)
    (ht : eval (.Call (.Attribute o m apos) (e :: es) [] pos) X.env = (do
      let ov ← eval o X.env
      standAt apos.atName
      let (f, first) ← holding [ov] (getMethod ov m pl)
      callWith pos f first (backTo pos (starEach (e :: es) X.env)) (backToKw pos (keywordEach [] X.env))) := by rfl) :
    PE X (.Call (.Attribute o m apos) (e :: es) [] pos) (fun σ H Q => ta σ H fun x H1 => ∃ a dx fs, x = .ref a ∧ H1 a = some (.ins C dx fs) ∧ fs.lookup m = none ∧
      t σ H1 fun vs H2 => sp (x :: (vs ++ dvs)) H2 Q (fun cls d H' => W cls d σ H')) := by
  refine ⟨fun pins s σ H Q I h => ?_⟩
  refine PySem.W.methodCall_KW (pl := pl) (thn (he.run pins s σ H _ I h) fun u s1 ⟨x, H1, I1, rx, a, dx, fs, ex, ea, l, q⟩ => ?_) ht
  subst ex
  obtain rfl : u = Value.ref a := rx
  refine getmeth_ok I1 ea c hm l ?_
  refine PySem.W.callWith_K (first := [.ref a]) (h₀ := X.base) I.ok.mod.kin hm.kp (thn (ha.run pos pins s1 σ H1 _ I1 q) fun us s2 ⟨vs, H2, I2, r, q2⟩ => ⟨I2.kIn, ?_⟩) hst hpl
  exact run_fnW (us := .ref a :: us) (vs := .ref a :: vs) F hr hb hd tk I2 (.cons rfl r) q2
end
/-! ### isinstance(e, c), e the exception that the suite holds, with fields of its own -/
section
variable {X : Cx}
theorem call_isEd {a D d : Addr} {oe : Obj} {pn : List (Addr × Obj)} (C : ExcC X.K D) (hz : Zc (.ref D) (some d) oe) (hf : ∃ vs, oe.data = .fields vs) : CallR (X.suite a ((a, oe) :: pn)) (.builtin "isinstance") (fun xs H Q => ∃ (c : V) (cv : Value) (b : Bool) (fs : List (Str × V)), xs = [.ref a, c] ∧ (∀ u, RelV c u → u = cv) ∧ PySem.W.kitOne X.K (.ref D) cv = some b ∧ H d = some (.xd fs) ∧ Q (.bl b) H) := by
  intro pins s σ H xs us Q I r h
  obtain ⟨c, cv, b, fs, rfl, hcv, e, hd, q⟩ := h
  cases r with
  | cons rx rr =>
    cases rr with
    | cons rt rr =>
      cases rr
      cases rx
      have ec := hcv _ rt
      subst ec
      obtain ⟨hget, _⟩ := I.pin (a, oe) (List.mem_append.mpr (.inl List.mem_cons_self))
      obtain ⟨vs, hv⟩ := hf
      have hx : ObjOk X.prog X.w H s.heap d (.xd fs) := I.hok d _ hd
      obtain ⟨mA, hns, hrr⟩ := hx
      obtain ⟨od, ho, hl⟩ := lookIn_ns hns
      have J : PySem.W.InstAt s.heap a oe D (some od) := ⟨hget, hz.1, by unfold PySem.W.notCls; rw [hv] <;> rfl, by rw [hz.2]; exact ho⟩
      obtain ⟨cd, hcc, _⟩ := PySem.W.any_some C.hd
      exact PySem.W.kia_one (PySem.W.kitx_exc (gt := none) (by rw [hcc]; rfl) C.hg C.hk C.hs C.ha C.hn C.ht C.hm) I.kIn J e (fun z => nomatch z) fun tk => ⟨.bl b, H, I.kept (t' := tk) fun _ _ z => z, rfl, q⟩
end
theorem call_isEdX {X : Cx} {a D : Addr} {cls : Value} {d : Option Addr} {oe : Obj} {pn : List (Addr × Obj)} (C : ExcC X.K D) (hz : Zc cls d oe) (hf : ∃ vs, oe.data = .fields vs) : CallR (X.suite a ((a, oe) :: pn)) (.builtin "isinstance") (fun xs H Q => cls = .ref D ∧ ∃ dd, d = some dd ∧ ∃ (c : V) (cv : Value) (b : Bool) (fs : List (Str × V)), xs = [.ref a, c] ∧ (∀ u, RelV c u → u = cv) ∧ PySem.W.kitOne X.K (.ref D) cv = some b ∧ H dd = some (.xd fs) ∧ Q (.bl b) H) := by
  intro pins s σ H xs us Q I r h
  obtain ⟨rfl, dd, rfl, h⟩ := h
  exact call_isEd C hz hf pins s σ H xs us Q I r h
/-! repr of a plain thing -/
def reprV : V → Str
  | .non => "None"
  | .bl b => if b then "True" else "False"
  | .int i => toString i
  | .str z => reprText z
  | _ => ""
def reprOk : V → Prop
  | .non => True
  | .bl b => True
  | .int i => i.natAbs.log2 < 1920
  | .str z => (reprText z).length ≤ sizeLine
  | _ => False
theorem call_reprF {X : Cx} : CallR X (.builtin "repr") (fun xs H Q => ∃ v, xs = [v] ∧ reprOk v ∧ Q (.str (reprV v)) H) := by
  intro pins s σ H xs us Q I r h
  obtain ⟨v, rfl, hz, q⟩ := h
  obtain ⟨u, rfl, ru⟩ := r.one
  cases v with
  | non => cases ru; exact PySem.P.repr_of_none ⟨.str _, H, I.tok _, ⟨_, rfl⟩, q⟩
  | bl b => cases ru; exact PySem.P.repr_of_bool ⟨.str _, H, I.tok _, ⟨_, rfl⟩, q⟩
  | int i => obtain ⟨t, rfl⟩ := ru; exact PySem.P.repr_of_int hz ⟨.str _, H, I.tok _, ⟨_, rfl⟩, q⟩
  | str z => obtain ⟨t, rfl⟩ := ru; exact PySem.P.repr_of_str ⟨.str _, H, I.tok _, ⟨_, rfl⟩, q⟩ hz
  | _ => exact hz.elim
end K7E
end
/-! ## XN -/
section
namespace K7N
open PySem PySem.Spec PyProof.Rows L2
/-! exceptions whose context is None -/
theorem passN {X : Cx} : Passes (L2N.CX X.prog X.w) X E0 := fun _ _ _ _ _ _ _ h => by
  obtain ⟨_, _, _, _, _, _, _, _, _, _, _, _, z⟩ := h
  exact z.elim
section
variable {P : Program} {w : World} {K : PySem.W.Frag} {mg : Str → Option Value} {base : Heap}
theorem okN {x qual : Str} {st : Stmt} {f : Addr} {fd : FuncData} {N ps : List Str} {k : Nat} {sp : Sp} (F : Fun K x qual st f fd) (S : FnScope N ps (defScope st)) (len : ∀ vs H Q E, sp vs H Q E → vs.length = ps.length)
    (hbody : ∀ (cdv : Value) (A : Around) (outer : List Env) (s : Shared) (H : Hp) (vs : List V) (Q : VK) (E : XK), Room k (A.deeper (envOfC qual (defScope st) s.heap.objs.size f cdv)) → sp vs H Q E →
      ∃ t, PSs (cxOf (L2N.CX P w) P w K mg base N qual (defScope st) f cdv A outer s H E) (defBody st) t ∧ t { nx := fun _ H' => Q .non H', rt := Q } (start N vs) H) : FnOk P w K mg base (L2N.CX P w) (k + 1) f fd ps sp := by
  obtain ⟨oc, od, kV, doc, pm, an, cdv, ct, osl, rfl, lk, hcd⟩ := F.ex
  exact fn_of lk hcd S len fun A outer s H vs Q E hr hsp => hbody cdv A outer s H vs Q E hr hsp
theorem okH {CX : CXT} {x qual : Str} {st : Stmt} {f : Addr} {fd : FuncData} {N ps : List Str} {k : Nat} {sp : Sp} (F : Fun K x qual st f fd) (S : FnScope N ps (defScope st)) (len : ∀ vs H Q E, sp vs H Q E → vs.length = ps.length)
    (hbody : ∀ (cdv : Value) (A : Around) (outer : List Env) (s : Shared) (H : Hp) (vs : List V) (Q : VK) (E : XK) (p : Addr × Obj), L2H.RoomH k (A.deeper (envOfC qual (defScope st) s.heap.objs.size f cdv)) → sp vs H Q E →
      ∃ t, PSs (L2H.cxH CX P w K mg base N qual (defScope st) f cdv A outer s H E p) (defBody st) t ∧ t { nx := fun _ H' => Q .non H', rt := Q } (start N vs) H) : L2H.FnH P w K mg base CX (k + 1) f fd ps sp := by
  obtain ⟨oc, od, kV, doc, pm, an, cdv, ct, osl, rfl, lk, hcd⟩ := F.ex
  exact L2H.fn_ofH lk hcd S len fun A outer s H vs Q E p _ hr hsp => hbody cdv A outer s H vs Q E p hr hsp
end
section
variable {X : Cx} {W : WX} {k : Nat} {f C : Addr} {fd : FuncData} {ps : List Str} {sp : Sp} {dvs : List V} {ds : List Value} {x m : Str} {p pos apos : Pos} {e o : Expr} {es : List Expr} {ta : TE} {t : TA}
theorem run_makeN {pins : List (Addr × Obj)} {σ : L2.St} {H : Hp} {s : Shared} {Q : VK} {us : List Value} {vs : List V} (M : Mk X.K C f) (F : FnOk X.prog X.w X.K X.mg X.base (L2N.CX X.prog X.w) k f fd ps sp) (hr : Room (k + 1) X.A) (hb : Binds X.K fd ps ds) (hd : Vals dvs ds)
    (tk : L2N.Takes X W) (I : Inv X pins σ H s) (r : Vals vs us)
    (h : ∀ x dx, H x = none → H dx = none → dx ≠ x → sp (.ref x :: (vs ++ dvs)) (upd (upd H dx (.own x)) x (.ins C dx [])) (fun v H2 => v = .non ∧ Q (.ref x) H2) (fun cls d H' => W cls d σ H')) :
    wpAny (model X.prog X.w) X.A (call (.ref C) us) (EP X pins σ Q) X.xe s := by
  have hq := h (s.heap.objs.size + 1) s.heap.objs.size (I.hok.fresh (Nat.le_succ _)) (I.hok.fresh (Nat.le_refl _)) (Nat.ne_of_lt (Nat.lt_succ_self _))
  have I2 := Inv.made (C := C) I
  have r2 : Vals (V.ref (s.heap.objs.size + 1) :: (vs ++ dvs)) (Value.ref (s.heap.objs.size + 1) :: (us ++ ds)) := .cons rfl (r.append hd)
  have hl : (Value.ref (s.heap.objs.size + 1) :: us ++ ds).length = ps.length := by
    have e := r2.length
    rw [F.len _ _ _ _ hq] at e
    exact e.symm
  refine wpAny_call (make_map (f := f) I.kIn M.makes M.init (beq_iff_eq.mp M.fn) (codeAny_mono (F.run _ X.stack _ _ ⟨Value.ref (s.heap.objs.size + 1) :: us, []⟩ (Value.ref (s.heap.objs.size + 1) :: (us ++ ds)) _ _ _ (hr.make C us [])
    (I2.env0.make C us []) (hb _ (Value.ref (s.heap.objs.size + 1) :: us) I2.kIn hl) r2 hq) fun r s' hq' => ?_))
  cases r with
  | error e => exact tk e s' (L2N.XE.of_call (E := fun cls d H' => W cls d σ H') I2 (fun cls d H' h => h) hq')
  | ok fl =>
    cases fl with
    | ret u =>
      obtain ⟨v, H', I3, rv, ev, q3⟩ := I2.after hq'
      subst ev
      exact ⟨rv, ⟨V.ref (s.heap.objs.size + 1), H', I3, rfl, q3⟩⟩
    | next => exact False.elim hq'
    | brk => exact False.elim hq'
    | cont => exact False.elim hq'
theorem pe_makeN (M : Mk X.K C f) (F : FnOk X.prog X.w X.K X.mg X.base (L2N.CX X.prog X.w) k f fd ps sp) (hr : Room (k + 1) X.A) (hg : Gl X x) (hm : X.mg x = some (.ref C)) (hb : Binds X.K fd ps ds) (hd : Vals dvs ds) (tk : L2N.Takes X W)
    (ha : PA X (e :: es) t) (hdb : (x == ("__debug__" : Str)) = false := by decide) (he : starEach (e :: es) X.env = (false, eval e X.env) :: starEach es X.env := by rfl) (hpl : (backTo pos (starEach es X.env)).any (·.1) = false := by rfl) :
    PE X (.Call (.Name x p) (e :: es) [] pos) (fun σ H Q => t σ H fun vs H1 => ∀ x dx, H1 x = none → H1 dx = none → dx ≠ x → sp (.ref x :: (vs ++ dvs)) (upd (upd H1 dx (.own x)) x (.ins C dx [])) (fun v H2 => v = .non ∧ Q (.ref x) H2) (fun cls d H' => W cls d σ H')) := by
  refine ⟨fun pins s σ H Q I h => ?_⟩
  refine wpAny_Call_Name_kw (ld_glob I hg hm ?_ hdb)
  refine PySem.W.callWith_K (h₀ := X.base) I.ok.mod.kin M.kp (thn (ha.run pos pins s σ H _ I h) fun us s1 ⟨vs, H1, I1, r, q⟩ => ⟨I1.kIn, ?_⟩) he hpl
  exact run_makeN M F hr hb hd tk I1 r q
/-- C(e, ..), C's own __init__ keeping sp: an exception without a context -/
theorem pmk_oexN {CX : CXT} {fI : Addr} (T : OexC X.K C) (iC : PySem.W.findIn X.K (.ref C) "__init__" = some (some (.ref fI))) (tI : PySem.W.typeIn X.K (.ref fI) = some (.type "function"))
    (F1 : FnOk X.prog X.w X.K X.mg X.base CX k fI fd ps sp) (hr : Room (k + 1) X.A) (hb : Binds X.K fd ps ds) (hd : Vals dvs ds) (hx : Passes CX X (fun _ _ _ => False)) (hg : Gl X x) (hm : X.mg x = some (.ref C)) (ha : PA X (e :: es) t)
    (hdb : (x == ("__debug__" : Str)) = false := by decide) (he : starEach (e :: es) X.env = (false, eval e X.env) :: starEach es X.env := by rfl) (hpl : (backTo pos (starEach es X.env)).any (·.1) = false := by rfl) :
    L2N.PMk X (.Call (.Name x p) (e :: es) [] pos) (tMkO C sp dvs t) := by
  intro pins sh σ H Q inv want
  rcases T.cls with ⟨_, _, _, _, bases, _, _, _, _, _, _, _, _, _, _, hC, hbases⟩
  refine wpAny_Call_Name_kw (ld_glob inv hg hm ?_ hdb)
  refine PySem.W.callWith_K (h₀ := X.base) inv.ok.mod.kin T.kC (thn (ha.run pos pins sh σ H _ inv want) fun us s1 got => ?_) he hpl
  obtain ⟨vs, H1, J1, rel, short, ask⟩ := got
  refine ⟨J1.kIn, ?_⟩
  show wpAny _ _ (call (.ref C) us) _ _ _
  rcases s1 with ⟨h0, gs, dr, tk, os⟩
  -- the arguments' tuple stands at n, the exception behind it
  let n := h0.objs.size
  let hE := (h0.push (PySem.W.kdv_tup us)).push (PySem.HandSPX.excO C n)
  have le : n ≤ n + 1 := Nat.le_succ n
  have free : H1 (n + 1) = none := J1.hok.fresh le
  have body := ask (n + 1) free
  have J2 : Inv X pins σ (upd H1 (n + 1) (exo (n + 1) C none)) ⟨hE, gs, dr, tk, os⟩ :=
    J1.laid (t' := tk) (h' := hE) (a := n + 1) (o := exo (n + 1) C none) (fun _ _ e => Heap.get?_push_of_some _ (Heap.get?_push_of_some _ e)) le
      (exo_ok (show hE.get? (n + 1) = some (PySem.HandSPX.excO C n) by show ((h0.push _).push _).get? (h0.objs.size + 1) = _; heap_get))
  have relS : Vals (V.ref (n + 1) :: (vs ++ dvs)) (Value.ref (n + 1) :: (us ++ ds)) := .cons rfl (rel.append hd)
  have many : (Value.ref (n + 1) :: us ++ ds).length = ps.length := (relS.length.symm.trans (F1.len _ _ _ _ body))
  refine wpAny_call (PySem.HandSPX.call_own F.excBase_ValueError (fun Y => PySem.HandSPX.refsVE_contains Y bases hbases) (J1.kIn _ _ hC) (PySem.W.looks_findIn J1.kIn iC)
    (fun self => PySem.W.bind_fn J1.kIn self tI) (show us.length ≤ sizeLine by rw [← Paired.length rel, sizeLine_eq]; omega) ?_)
  refine codeAny_mono (F1.run _ X.stack _ _ ⟨Value.ref (n + 1) :: us, []⟩ (Value.ref (n + 1) :: (us ++ ds)) _ _ (fun _ _ _ => False) (hr.make C us []) (J2.env0.make C us []) (hb _ _ J2.kIn many) relS body) fun r s' told => ?_
  match r, told with
  | .error er, told => exact hx pins σ _ _ er s' J2 told
  | .ok .next, told => exact told.elim
  | .ok .brk, told => exact told.elim
  | .ok .cont, told => exact told.elim
  | .ok (.ret u), told =>
    obtain ⟨_, H2, sameOs, bare, un, ok2, rv, ⟨rfl, d, fs, atE, atD, freeD, q2⟩⟩ := told
    rcases s' with ⟨h2, g2, d2, t2, os'⟩
    obtain ⟨_, G, J, keeps, gone, there, na⟩ := mk_end0 (d2 := d2) (t2 := t2) J1 le (fun b o e => Heap.get?_push_of_some _ (Heap.get?_push_of_some _ e)) un ok2 sameOs bare atE atD freeD
    exact ⟨rv, n + 1, _, _, ⟨G, g2, d2, t2, os'⟩, _, .ref C, some d, rfl, J, keeps, gone, there, ⟨rfl, rfl, fun vs hv => by cases hv; rfl⟩, rfl, rfl, na, rfl, bare, raises_own T.exC T.tyC, q2⟩
end
end K7N
end
/-! ## P12 -/
section
open PySem PySem.Spec PyProof.Rows L2
namespace K7
abbrev N_BadLand___init__ : List Str := ["self", "what"]
abbrev s_BadLand___init__ : Stmt := inClass (topS 3) 0
theorem sc_BadLand___init__ : FnScope ["self", "what"] ["self", "what"] (defScope s_BadLand___init__) := ⟨rfl, rfl, rfl, by decide +kernel, rfl, by decide +kernel, by decide +kernel⟩
abbrev N_Land___init__ : List Str := ["self", "cells", "neighbours", "roads", "couples", "couple", "a", "b"]
abbrev s_Land___init__ : Stmt := inClass (topS 18) 0
theorem sc_Land___init__ : FnScope ["self", "cells", "neighbours", "roads", "couples", "couple", "a", "b"] ["self", "cells", "neighbours", "roads"] (defScope s_Land___init__) := ⟨rfl, rfl, rfl, by decide +kernel, rfl, by decide +kernel, by decide +kernel⟩
/-! ### a land is made -/
structure LandO (C : Addr) (H : Hp) (p : Addr) (n : Nat) (es : List (Nat × Nat)) (rd : List Nat) : Prop where
  at_ : ∃ dx an ar ay ac tn ty tc, H p = some (.ins C dx (landFs (n : Nat) an ar ay ac)) ∧ H an = some (.tup (tn.map V.ref)) ∧ TAt H tn (pairs es) ∧ H ar = some (.tup (ints_ rd)) ∧ H ay = some (.tup (ty.map V.ref)) ∧ TAt H ty (nearV n es) ∧ H ac = some (.tup (tc.map V.ref)) ∧ TAt H tc (pairs (KL.allC n))
  n2 : 2 ≤ n
  n5 : n ≤ 5
  ok : LandOk n es
  rlt : ∀ c ∈ rd, c < n
  rnd : rd.Nodup
  rso : rd.Pairwise (· ≤ ·)
  r0 : 0 < rd.length
  rn : rd.length < n
theorem LandO.same {C : Addr} {H H' : Hp} {p : Addr} {n : Nat} {es : List (Nat × Nat)} {rd : List Nat} (h : LandO C H p n es rd) (e : Same H H') : LandO C H' p n es rd := by
  obtain ⟨dx, an, ar, ay, ac, tn, ty, tc, h1, h2, h3, h4, h5, h6, h7, h8⟩ := h.at_
  exact ⟨⟨dx, an, ar, ay, ac, tn, ty, tc, e _ _ h1, e _ _ h2, h3.same e, e _ _ h4, e _ _ h5, h6.same e, e _ _ h7, h8.same e⟩, h.n2, h.n5, h.ok, h.rlt, h.rnd, h.rso, h.r0, h.rn⟩
theorem LandO.c {C : Addr} {H : Hp} {p : Addr} {n : Nat} {es : List (Nat × Nat)} {rd : List Nat} (h : LandO C H p n es rd) : LandC C H p n := by
  obtain ⟨dx, an, ar, ay, ac, tn, ty, tc, h1, _⟩ := h.at_
  exact ⟨dx, _, h1, rfl⟩
/-- a land is written while an object is made: what is not an instance stays -/
theorem keepNI {C dx x : Addr} {fs : List (Str × V)} {H : Hp} (hx : H x = some (.ins C dx fs)) {b : Addr} {o o' : HO} (hb : H b = some o) (no : ∀ C dx fs, o ≠ .ins C dx fs) : upd H x o' b = some o := by
  rw [upd_ne (fun e => by rw [e, hx] at hb; exact no _ _ _ (Option.some.inj hb).symm)]
  exact hb
theorem cells_lot {n : Nat} {lot : List Nat} (h1 : ∀ c ∈ lot, c < n) (h2 : lot.Nodup) (h3 : 0 < lot.length) : cellsV (n : Nat) (ints_ lot) 1 = true := by
  unfold cellsV
  have e1 : (ints_ lot).all (fun x => wholeV x 0 (((n : Nat) : Int) - 1)) = true := by
    refine List.all_eq_true.mpr fun x hx => ?_
    obtain ⟨c, hc, rfl⟩ := List.mem_map.mp hx
    have := h1 c hc
    rw [wholeV_int, decide_eq_true (by omega), decide_eq_true (by omega)]
    rfl
  have e2 : ((ints_ lot).map intOf).Nodup := by
    unfold ints_
    rw [List.map_map, List.nodup_iff_pairwise_ne, List.pairwise_map]
    refine (List.nodup_iff_pairwise_ne.mp h2).imp fun {a b} ne e => ne ?_
    have e : ((a : Nat) : Int) = ((b : Nat) : Int) := e
    omega
  have e3 : (ints_ lot).length = lot.length := List.length_map ..
  rw [e1, decide_eq_true e2, e3, decide_eq_true (by omega)]
  rfl
theorem ints_back {ms : List Int} {lot : List Nat} (p : ms.Perm (lot.map fun c => ((c : Nat) : Int))) : ms = (ms.map Int.toNat).map fun c => ((c : Nat) : Int) := by
  rw [List.map_map]
  refine (List.map_id ms).symm.trans (List.map_congr_left fun x hx => ?_)
  obtain ⟨c, _, rfl⟩ := List.mem_map.mp (p.mem_iff.mp hx)
  rfl
/-- one more couple of the comprehension of all of them -/
def rowC (n i j : Nat) : List (Nat × Nat) := ((List.range j).filter fun b => decide (i ≠ b)).map fun b => (i, b)
def upC (n i : Nat) : List (Nat × Nat) := (List.range i).flatMap fun a => rowC n a n
theorem upC_succ (n i : Nat) : upC n (i + 1) = upC n i ++ rowC n i n := by
  unfold upC
  rw [List.range_succ, List.flatMap_append, List.flatMap_cons, List.flatMap_nil, List.append_nil]
theorem rowC_succ (n i j : Nat) : rowC n i (j + 1) = rowC n i j ++ (if i ≠ j then [(i, j)] else []) := by
  unfold rowC
  rw [range_filter, List.map_append]
  by_cases h : i = j
  · rw [if_neg (by rw [decide_eq_false (by simpa using h)]; decide), if_neg (by simpa using h)]
    rfl
  · rw [if_pos (decide_eq_true h), if_pos h]
    rfl
theorem rowC_len (n i j : Nat) : (rowC n i j).length ≤ j := by
  unfold rowC
  rw [List.length_map]
  exact Nat.le_trans (List.length_filter_le _ _) (by rw [List.length_range]; exact Nat.le_refl _)
theorem upC_len (n : Nat) : ∀ i, (upC n i).length ≤ i * n
  | 0 => Nat.zero_le _
  | i + 1 => by
    rw [upC_succ, List.length_append, Nat.succ_mul]
    exact Nat.add_le_add (upC_len n i) (rowC_len n i n)
theorem SqOf.ni {C dx x : Addr} {fs : List (Str × V)} {H : Hp} (hx : H x = some (.ins C dx fs)) {b : Addr} {xs : List V} (h : SqOf H b xs) (o' : HO) : SqOf (upd H x o') b xs :=
  h.imp (fun z => keepNI hx z fun _ _ _ e => by cases e) fun z => keepNI hx z fun _ _ _ e => by cases e
theorem TAt.ni {C dx x : Addr} {fs : List (Str × V)} {H : Hp} (hx : H x = some (.ins C dx fs)) {ts : List Addr} {ls : List (List Nat)} (h : TAt H ts ls) (o' : HO) : TAt (upd H x o') ts ls := h.mono fun b xs hb => keepNI hx hb fun _ _ _ e => by cases e
theorem But.put {x : Addr} {H H' : Hp} (h : But x H H') (o : HO) : But x H (upd H' x o) := fun b o' nb hb => by rw [upd_ne nb]; exact h b o' nb hb
theorem But.new {x p : Addr} {H H' : Hp} (h : But x H H') (np : H' p = none) (o : HO) : But x H (upd H' p o) := fun b o' nb hb => by
  have z := h b o' nb hb
  rw [upd_ne (ne_of_none z np)]
  exact z
theorem But.same {x : Addr} {H H' H'' : Hp} (h : But x H H') (e : Same H' H'') : But x H H'' := fun b o nb hb => e _ _ (h b o nb hb)
theorem ints_map (lot : List Nat) : ints_ lot = (lot.map fun c => ((c : Nat) : Int)).map V.int := by
  unfold ints_
  rw [List.map_map]
  rfl
theorem conn_back {n : Nat} {cs es : List (Nat × Nat)} (h : KL.Conn n es) (hp : es.Perm (cs.map KL.srt)) : KL.Conn n cs := by
  intro S s0 sc c hc
  refine h S s0 (fun e he => ?_) c hc
  obtain ⟨d, hd, rfl⟩ := List.mem_map.mp (hp.mem_iff.mp he)
  have z := sc d hd
  unfold KL.srt
  simp only
  rcases Nat.le_total d.1 d.2 with q | q
  · rw [Nat.min_eq_left q, Nat.max_eq_right q]
    exact z
  · rw [Nat.min_eq_right q, Nat.max_eq_left q]
    exact z.symm
/-- what the top says of BadLand -/
structure Bl (K : PySem.W.Frag) (mg : Str → Option Value) (B iB : Addr) : Prop where
  g : mg "BadLand" = some (.ref B)
  ox : OexC K B
  iC : PySem.W.findIn K (.ref B) "__init__" = some (some (.ref iB))
  tI : PySem.W.typeIn K (.ref iB) = some (.type "function")
  no : PySem.W.findIn K (.ref B) "what" = some none
/-- what is said of roads -/
inductive RdV (n : Nat) (H : Hp) : V → Bool → Prop
  | no {v : V} (h : NoRow H v) : RdV n H v false
  | row {b : Addr} {ws : List V} (h : SqOf H b ws) (it : ∀ y ∈ ws, Thing H y) (l : ws.length < 64) : RdV n H (.ref b) (cellsV (n : Nat) ws 1 && !decide (ws.length = n))
theorem RdV.same {n : Nat} {H H' : Hp} {v : V} {b : Bool} (h : RdV n H v b) (e : Same H H') : RdV n H' v b := by
  cases h with
  | no h => exact .no (h.same e)
  | row h it l => exact .row (h.same e) (fun y hy => (it y hy).same e) l
/-- what is wished of a land's three: the refusals, or the rest -/
def LandOr (BL : Addr) (H : Hp) (cv nv rv : V) (E : XK) (q : Nat → List (Nat × Nat) → List Nat → Prop) : Prop := Thing H cv ∧ ((wholeV cv 2 5 = false ∧ Flies H BL "what" (.str "cells") E) ∨ ∃ n : Nat, cv = .int (n : Nat) ∧ 2 ≤ n ∧ n ≤ 5 ∧
  ((NbV n H nv false ∧ Flies H BL "what" (.str "neighbours") E) ∨ ∃ (an : Addr) (ts : List Addr) (cs : List (Nat × Nat)), nv = .ref an ∧ SqOf H an (ts.map V.ref) ∧ CoAll H ts cs ∧ Cos n cs ∧
   ((RdV n H rv false ∧ Flies H BL "what" (.str "roads") E) ∨ ∃ (ar : Addr) (lot : List Nat), rv = .ref ar ∧ SqOf H ar (ints_ lot) ∧ (∀ c ∈ lot, c < n) ∧ lot.Nodup ∧ 0 < lot.length ∧ lot.length < n ∧
    ((¬ KL.Conn n cs ∧ Flies H BL "what" (.str "whole") E) ∨ (KL.Conn n cs ∧ q n cs lot)))))
theorem LandOr.same {BL : Addr} {H H' : Hp} {cv nv rv : V} {E : XK} {q q' : Nat → List (Nat × Nat) → List Nat → Prop} (h : LandOr BL H cv nv rv E q) (e : Same H H') (i : ∀ n cs lot, q n cs lot → q' n cs lot) : LandOr BL H' cv nv rv E q' := by
  obtain ⟨t, h⟩ := h
  refine ⟨t.same e, ?_⟩
  rcases h with ⟨h, f⟩ | ⟨n, rfl, n2, n5, h⟩
  · exact .inl ⟨h, f.later e⟩
  refine .inr ⟨n, rfl, n2, n5, ?_⟩
  rcases h with ⟨h, f⟩ | ⟨an, ts, cs, rfl, h1, h2, h3, h⟩
  · exact .inl ⟨h.same e, f.later e⟩
  refine .inr ⟨an, ts, cs, rfl, h1.same e, h2.same e, h3, ?_⟩
  rcases h with ⟨h, f⟩ | ⟨ar, lot, rfl, k1, k2, k3, k4, k5, h⟩
  · exact .inl ⟨h.same e, f.later e⟩
  refine .inr ⟨ar, lot, rfl, k1.same e, k2, k3, k4, k5, ?_⟩
  rcases h with ⟨h, f⟩ | ⟨h, hq⟩
  · exact .inl ⟨h, f.later e⟩
  · exact .inr ⟨h, i _ _ _ hq⟩
section
variable {P : Program} {w : World} {K : PySem.W.Frag} {mg : Str → Option Value} {base : Heap} {a : AdL} {BL iL : Addr}
theorem ok_iL (T : Bl K mg BL iL) {f : Addr} {fd : FuncData} (F : Fun K "__init__" "BadLand.__init__" s_BadLand___init__ f fd) : FnOk P w K mg base (L2.CX P w) 1 f fd ["self", "what"] (spX BL "what") := by
  refine F.okX sc_BadLand___init__ (fun vs H Q E h => ?_) (fun cdv A outer s H vs Q E hr h => ?_)
  · obtain ⟨e, y, rfl, _⟩ := h
    rfl
  · obtain ⟨e, y, rfl, he, q⟩ := h
    refine ⟨_, (pss_one (ps_ost (pv 0) (pv 1))), ?_⟩
    exact ⟨y, rfl, .ref e, rfl, e, BL, rfl, T.ox, T.no, .inl ⟨he, fun d hd hn => q d hd hn⟩⟩
def spLandR (a : AdL) (BL : Addr) : Sp := fun vs H Q E => ∃ (x dx : Addr) (cv nv rv : V), vs = [.ref x, cv, nv, rv] ∧ H x = some (.ins a.C dx []) ∧
  LandOr BL H cv nv rv E fun n cs lot => ∀ H' es rd, But x H H' → LandO a.C H' x n es rd → es.Perm (cs.map KL.srt) → rd.Perm lot → Q .non H'
theorem ok_landR (T : Tl K mg a) (TB : Bl K mg BL iL) {tM : Tok} (gM : mg "MOST_CELLS" = some (.int 5 tM)) {f fW fB fC fH fN : Addr} {fd fdW fdB fdC fdH fdN fdE : FuncData} (F : Fun K "__init__" "Land.__init__" s_Land___init__ f fd)
    (Giw : FnOk P w K mg base CX0 1 fW fdW ["thing", "low", "high"] spWhole) (giw : mg "is_whole" = some (.ref fW)) (kiw : PySem.W.keepIn K (.ref fW) = true) (biw : Binds K fdW ["thing", "low", "high"] [])
    (Gnb : FnOk P w K mg base CX0 4 fB fdB ["cells", "thing"] spNbR) (gnb : mg "_are_neighbours" = some (.ref fB)) (knb : PySem.W.keepIn K (.ref fB) = true) (bnb : Binds K fdB ["cells", "thing"] [])
    (Gac : FnOk P w K mg base CX0 2 fC fdC ["many", "thing", "least"] (spCells K)) (gac : mg "are_cells" = some (.ref fC)) (kac : PySem.W.keepIn K (.ref fC) = true) (bac : Binds K fdC ["many", "thing", "least"] [])
    (Ght : FnOk P w K mg base CX0 2 fH fdH ["cells", "couples"] spHang) (ght : mg "hang_together" = some (.ref fH)) (kht : PySem.W.keepIn K (.ref fH) = true) (bht : Binds K fdH ["cells", "couples"] [])
    (Gnc : FnOk P w K mg base CX0 1 fN fdN ["cells", "couples"] spNear) (gnc : mg "nearby_cells" = some (.ref fN)) (knc : PySem.W.keepIn K (.ref fN) = true) (bnc : Binds K fdN ["cells", "couples"] [])
    (m_len : mg "len" = none) (m_sorted : mg "sorted" = none) (m_tuple : mg "tuple" = none) (m_range : mg "range" = none)
    (FB0 : Fun K "__init__" "BadLand.__init__" s_BadLand___init__ iL fdE) (bB : Binds K fdE ["self", "what"] []) : FnOk P w K mg base (L2N.CX P w) 5 f fd ["self", "cells", "neighbours", "roads"] (spLandR a BL) := by
  have FB : FnOk P w K mg base (L2.CX P w) 1 iL fdE ["self", "what"] (spX BL "what") := ok_iL TB FB0
  refine K7N.okN F sc_Land___init__ (fun vs H Q E h => ?_) (fun cdv A outer s H vs Q E hr h => ?_)
  · obtain ⟨x, dx, cv, nv, rv, rfl, _⟩ := h
    rfl
  · obtain ⟨x, dx, cv, nv, rv, rfl, hx, tcv, h⟩ := h
    have hrx : Room (1 + 1) _ := hr.mono (by decide)
    refine ⟨_, (pss_cons (ps_if (pt_not (pt_val (pe_call Giw (hr.mono (by decide)) (by rfl) giw kiw biw .nil pass0 (pa_cons (pv 1) (pa_cons pe_int (pa_cons (pe_glob (v := .int 5) rfl gM ⟨_, rfl⟩) pa_nil))))))
  (pss_one (L2N.ps_raise rfl (L2N.takes_of rfl rfl rfl rfl) (K7N.pmk_oexN TB.ox TB.iC TB.tI FB hrx bB .nil passL (by rfl) TB.g (pa_cons pe_str pa_nil))))
  pss_nil)
 (pss_cons (ps_if (pt_not (pt_val (pe_call Gnb (hr.mono (by decide)) (by rfl) gnb knb bnb .nil pass0 (pa_cons (pv 1) (pa_cons (pv 2) pa_nil)))))
  (pss_one (L2N.ps_raise rfl (L2N.takes_of rfl rfl rfl rfl) (K7N.pmk_oexN TB.ox TB.iC TB.tI FB hrx bB .nil passL (by rfl) TB.g (pa_cons pe_str pa_nil))))
  pss_nil)
 (pss_cons (ps_if (pw_or (pt_not (pt_val (pe_call Gac (hr.mono (by decide)) (by rfl) gac kac bac .nil pass0 (pa_cons (pv 1) (pa_cons (pv 3) (pa_cons pe_int pa_nil)))))) (pw_or1 (pt_cmpR op_eq (pe_callB call_len_seq (by rfl) m_len boot_len (pa_cons (pv 3) pa_nil)) (pv 1) (nomark _)))).pt
  (pss_one (L2N.ps_raise rfl (L2N.takes_of rfl rfl rfl rfl) (K7N.pmk_oexN TB.ox TB.iC TB.tI FB hrx bB .nil passL (by rfl) TB.g (pa_cons pe_str pa_nil))))
  pss_nil)
 (Evl.pss_cut (ps_set (i := 4) sc_Land___init__.nd rfl (by first | exact Or.inl rfl | exact Or.inr rfl) (pe_callB cr_sortedPO (by rfl) m_sorted boot_sorted (pa_cons (pe_lc (own := [("couple", 5)]) (g := gName 5) (tt := tYes) rfl sc_Land___init__.nd (K7E.pi_either (pi_tup (pv 2)) (pi_list (pv 2))) (blkOk_by (own := [("couple", 5)]) (N := N_Land___init__) (sc := defScope s_Land___init__) (by decide +kernel)) (fun _ _ _ _ _ => (pg_name (i := 5) sc_Land___init__.nd rfl (by first | exact Or.inl rfl | exact Or.inr rfl))) (fun _ _ _ _ _ => pts_nil) (fun _ _ _ _ _ => (pe_callTy (show CallR _ (.type "tuple") (rTup_ K) from call_tuple_of) (by rfl) m_tuple boot_tuple (pa_cons (pe_callB (show CallR _ (.builtin "sorted") (K7S.rSortA K) from K7S.cr_sortA) (by rfl) m_sorted boot_sorted (pa_cons (pv 5) pa_nil)) pa_nil)))) pa_nil)))
 (pss_cons (ps_if (pt_not (pt_val (pe_call Ght (hr.mono (by decide)) (by rfl) ght kht bht .nil pass0 (pa_cons (pv 1) (pa_cons (pv 4) pa_nil)))))
  (pss_one (L2N.ps_raise rfl (L2N.takes_of rfl rfl rfl rfl) (K7N.pmk_oexN TB.ox TB.iC TB.tI FB hrx bB .nil passL (by rfl) TB.g (pa_cons pe_str pa_nil))))
  pss_nil)
 (pss_cons (ps_fld (pv 0) (pv 1) rfl)
 (pss_cons (ps_fld (pv 0) (pe_callTy call_tuple_of (by rfl) m_tuple boot_tuple (pa_cons (pv 4) pa_nil)) rfl)
 (pss_cons (ps_fld (pv 0) (pe_callTy call_tuple_of (by rfl) m_tuple boot_tuple (pa_cons (pe_callB K7S.cr_sortA (by rfl) m_sorted boot_sorted (pa_cons (pv 3) pa_nil)) pa_nil)) rfl)
 (pss_cons (ps_fld (pv 0) (pe_call Gnc (hr.mono (by decide)) (by rfl) gnc knc bnc .nil pass0 (pa_cons (pv 1) (pa_cons (pv 4) pa_nil))) rfl)
 (pss_one (ps_fld (pv 0) (pe_callTy call_tuple_of (by rfl) m_tuple boot_tuple (pa_cons (pe_lc2 (own := [("a", 6), ("b", 7)]) (vs1 := [7]) (g := gName 6) (g1 := gName 7) (tt := tYes) rfl sc_Land___init__.nd (pi_range1 rfl m_range (pa_cons (pv 1) pa_nil)) (blkOk_by (own := [("a", 6), ("b", 7)]) (N := N_Land___init__) (sc := defScope s_Land___init__) (by decide +kernel)) (by decide) (fun _ _ _ _ _ => (pg_name (i := 6) sc_Land___init__.nd rfl (by first | exact Or.inl rfl | exact Or.inr rfl))) (fun _ _ _ _ _ => pts_nil) (fun _ _ _ _ _ => (pi_range1 rfl m_range (pa_cons (pv 1) pa_nil))) (fun _ _ _ _ _ => (pg_name (i := 7) sc_Land___init__.nd rfl (by first | exact Or.inl rfl | exact Or.inr rfl))) (fun _ _ _ _ _ => (pts_one (pt_cmpR op_ne (pv 6) (pv 7) (nomark _)))) (fun _ _ _ _ _ => (pe_tup (pa_cons (pv 6) (pa_cons (pv 7) pa_nil))))) pa_nil)) rfl))))))))))), ?_⟩
    refine ⟨_, rfl, cv, 2, 5, rfl, tcv, _, rfl, ?_⟩
    rcases h with ⟨wf, fl⟩ | ⟨n, rfl, n2, n5, h⟩
    · rw [wf]
      exact iteTo rfl ⟨by show 1 ≤ 1000; decide, flies_go fl⟩
    rw [wholeV_int, decide_eq_true (by omega), decide_eq_true (by omega)]
    refine iteF ?_
    rcases h with ⟨nbf, fl⟩ | ⟨an, ts, cs, rfl, han, hT, hc, h⟩
    · exact ⟨_, rfl, _, rfl, n, nv, false, rfl, nbf, fun H1 e1 => ⟨_, rfl, iteTo rfl ⟨by show 1 ≤ 1000; decide, flies_go (fl.later e1)⟩⟩⟩
    have hl : ts.length = cs.length := hT.1
    have h32 := hc.len
    have nbt : NbV n H (.ref an) true := by
      have k := NbV.co han hT ⟨hc.lt, hc.len⟩
      rw [decide_eq_true (keys_nd hc.nd)] at k
      exact k
    refine ⟨_, rfl, _, rfl, n, .ref an, true, rfl, nbt, fun H1 e1 => ⟨_, rfl, iteF ?_⟩⟩
    rcases h with ⟨rdf, fl⟩ | ⟨ar, lot, rfl, har, llt, lnd, l0, ln, h⟩
    · generalize eb : false = b at rdf
      cases rdf with
      | no hn =>
        obtain ⟨ty, tyx, kk⟩ := (hn.same e1).ty (K := K)
        exact ⟨_, rfl, _, rfl, n, rv, 1, rfl, .inl ⟨ty, tyx, kk, fun H2 e2 => ⟨_, rfl, iteTo rfl (iteTo rfl ⟨by show 1 ≤ 1000; decide, flies_go (fl.later (e1.trans e2))⟩)⟩⟩⟩
      | @row b ws hs its l64 =>
        refine ⟨_, rfl, _, rfl, n, .ref b, 1, rfl, .inr ⟨b, ws, rfl, hs.same e1, fun y hy => (its y hy).same e1, l64, fun H2 e2 => ?_⟩⟩
        have e02 := e1.trans e2
        cases hcv : cellsV (n : Nat) ws 1 with
        | false => exact ⟨_, rfl, iteTo rfl (iteTo rfl ⟨by show 1 ≤ 1000; decide, flies_go (fl.later e02)⟩)⟩
        | true =>
          rw [hcv, Bool.true_and] at eb
          have hn : ws.length = n := by
            by_cases z : ws.length = n
            · exact z
            · rw [decide_eq_false z] at eb
              cases eb
          refine ⟨_, rfl, _, rfl, b, ws, rfl, (hs.same e02).sq, _, rfl, rfl, _, rfl, ?_⟩
          rw [hn, decide_eq_true rfl]
          exact iteTo rfl ⟨by show 1 ≤ 1000; decide, flies_go (fl.later e02)⟩
    have lilen : (ints_ lot).length = lot.length := List.length_map ..
    refine ⟨_, rfl, _, rfl, n, .ref ar, 1, rfl, .inr ⟨ar, ints_ lot, rfl, har.same e1, fun y hy => ?_, by rw [lilen]; omega, fun H2 e2 => ?_⟩⟩
    · obtain ⟨k, _, rfl⟩ := List.mem_map.mp hy
      exact .flat (.int _)
    rw [cells_lot llt lnd l0]
    have e02 := e1.trans e2
    refine ⟨_, rfl, _, rfl, ar, ints_ lot, rfl, (har.same e02).sq, _, rfl, rfl, _, rfl, ?_⟩
    rw [lilen, decide_eq_false (fun e => by injection e with e; omega)]
    refine iteF ?_
    have han2 := han.same e02
    have hT2 := hT.same e02
    -- the couples, in order
    refine ⟨fun σ' H' => ∃ p us es y5 y6 y7, σ' = [some (.ref x), some (.int (n : Nat)), some (.ref an), some (.ref ar), some (.ref p), y5, y6, y7] ∧ Same H H' ∧ H' p = some (.lst (us.map V.ref)) ∧ TAt H' us (pairs es) ∧ (KL.Conn n cs → LandOk n es) ∧ (∀ e ∈ es, e.1 < e.2 ∧ e.2 < n) ∧ es.Perm (cs.map KL.srt), ?_, fun σ' H' hM => ?_⟩
    · rcases han2 with z | z
      · refine .inl ⟨_, rfl, an, rfl, ⟨_, .inl (.inl z)⟩, fun D hD => lc_tup (xs := ts.map V.ref) (fun j H3 => Same H2 H3 ∧ ∃ us, H3 D = some (.lst (us.map V.ref)) ∧ TAt H3 us (pairs ((cs.take j).map KL.srt)) ∧ us.length ≤ j) ⟨same_new (Same.refl H2) hD, [], upd_same, .nil, Nat.le_refl _⟩ (fun j H3 _ pv => .inl (.inl (pv.1 _ _ z))) (fun j y H3 hy pv => ?_) (fun H3 pv => ?_)⟩
        · obtain ⟨e3, us, hD3, tD, lu⟩ := pv
          rw [List.getElem?_map] at hy
          obtain ⟨t', ht', rfl⟩ := Option.map_eq_some_iff.mp hy
          have hj : j < cs.length := by rw [← hl]; exact (List.getElem?_eq_some_iff.mp ht').1
          have hco := (hT2.2 j t' _ ht' (List.getElem?_eq_getElem hj)).same e3
          refine ⟨rfl, _, rfl, t', [(cs[j].1 : Int), (cs[j].2 : Int)], rfl, hco.sq, by show 2 < 64; decide, fun ms p pm so np => ?_⟩
          have em := KL.two_sorted pm so
          subst em
          refine ⟨p, _, rfl, .inl ⟨.inl (.inl upd_same), fun l nl => ?_⟩⟩
          have s1 := same_new (o := .lst ([((min cs[j].1 cs[j].2 : Nat) : Int), ((max cs[j].1 cs[j].2 : Nat) : Int)].map V.int)) (Same.refl H3) np
          have s2 := same_new (o := .tup ([((min cs[j].1 cs[j].2 : Nat) : Int), ((max cs[j].1 cs[j].2 : Nat) : Int)].map V.int)) s1 nl
          have hD4 := s2 _ _ hD3
          refine ⟨_, hD4, by rw [List.length_map]; exact small1000 (by omega), fun b o hb => ?_, us ++ [l], by rw [upd_same, List.map_append]; rfl, ?_, by rw [List.length_append, List.length_singleton]; omega⟩
          · rw [upd_ne (ne_of_none hb hD)]
            exact s2 _ _ (e3 _ _ hb)
          · rw [List.take_add_one, List.getElem?_eq_getElem hj, List.map_append]
            unfold pairs
            rw [List.map_append]
            have up : ∀ b xs, upd (upd H3 p (.lst ([((min cs[j].1 cs[j].2 : Nat) : Int), ((max cs[j].1 cs[j].2 : Nat) : Int)].map V.int))) l (.tup ([((min cs[j].1 cs[j].2 : Nat) : Int), ((max cs[j].1 cs[j].2 : Nat) : Int)].map V.int)) b = some (.tup xs) → upd (upd (upd H3 p (.lst ([((min cs[j].1 cs[j].2 : Nat) : Int), ((max cs[j].1 cs[j].2 : Nat) : Int)].map V.int))) l (.tup ([((min cs[j].1 cs[j].2 : Nat) : Int), ((max cs[j].1 cs[j].2 : Nat) : Int)].map V.int))) D (.lst (us.map V.ref ++ [.ref l])) b = some (.tup xs) := fun b xs hb => by
              rw [upd_ne (fun e => by rw [e, hD4] at hb; cases hb)]
              exact hb
            exact ((tD.same s2).mono up).append (.cons (up _ _ upd_same) .nil)
        · obtain ⟨e3, us, hD3, tD, lu⟩ := pv
          rw [List.length_map, hl, List.take_length] at tD
          refine ⟨D, us.map V.ref, kfOf H3, rfl, .inl (.inl hD3), fun y hy => ?_, fun ys p srt stb np => ?_⟩
          · obtain ⟨b, e, rfl, hb⟩ := g_mem tD y hy
            exact ⟨b, rfl, by rw [kf_at hb]; exact hb⟩
          · have hys := fun y (hy : y ∈ ys) => g_mem tD y (stb.perm.mem_iff.mp hy)
            obtain ⟨us', rfl, tY⟩ := tat_of ys hys
            have pe : ((us'.map V.ref).map (gOf H3)).Perm (cs.map KL.srt) := by
              have z := stb.perm.map (gOf H3)
              rw [g_map tD] at z
              exact z
            have s4 := same_new (o := .lst (us'.map V.ref)) (Same.refl H3) np
            have elt : ∀ e ∈ (us'.map V.ref).map (gOf H3), e.1 < e.2 ∧ e.2 < n := fun e he => by
              obtain ⟨c, hcm, rfl⟩ := List.mem_map.mp (pe.mem_iff.mp he)
              obtain ⟨c1, c2, c3⟩ := hc.lt c hcm
              refine ⟨KL.srt_lt c3, ?_⟩
              unfold KL.srt
              simp only
              omega
            refine ⟨p, us', _, _, _, _, rfl, e02.trans (e3.trans s4), upd_same, tY.same s4, fun cn => ⟨elt, pe.nodup_iff.mpr hc.nd, sorted_of _ hys srt, KL.conn_srt cn pe⟩, elt, pe⟩
      · refine .inr ⟨_, rfl, an, rfl, ⟨_, .inl (.inl z)⟩, fun D hD => lc_list (xs := ts.map V.ref) (fun j H3 => Same H2 H3 ∧ ∃ us, H3 D = some (.lst (us.map V.ref)) ∧ TAt H3 us (pairs ((cs.take j).map KL.srt)) ∧ us.length ≤ j) ⟨same_new (Same.refl H2) hD, [], upd_same, .nil, Nat.le_refl _⟩ (fun j H3 _ pv => .inl (.inl (pv.1 _ _ z))) (fun j y H3 hy pv => ?_) (fun H3 pv => ?_)⟩
        · obtain ⟨e3, us, hD3, tD, lu⟩ := pv
          rw [List.getElem?_map] at hy
          obtain ⟨t', ht', rfl⟩ := Option.map_eq_some_iff.mp hy
          have hj : j < cs.length := by rw [← hl]; exact (List.getElem?_eq_some_iff.mp ht').1
          have hco := (hT2.2 j t' _ ht' (List.getElem?_eq_getElem hj)).same e3
          refine ⟨rfl, _, rfl, t', [(cs[j].1 : Int), (cs[j].2 : Int)], rfl, hco.sq, by show 2 < 64; decide, fun ms p pm so np => ?_⟩
          have em := KL.two_sorted pm so
          subst em
          refine ⟨p, _, rfl, .inl ⟨.inl (.inl upd_same), fun l nl => ?_⟩⟩
          have s1 := same_new (o := .lst ([((min cs[j].1 cs[j].2 : Nat) : Int), ((max cs[j].1 cs[j].2 : Nat) : Int)].map V.int)) (Same.refl H3) np
          have s2 := same_new (o := .tup ([((min cs[j].1 cs[j].2 : Nat) : Int), ((max cs[j].1 cs[j].2 : Nat) : Int)].map V.int)) s1 nl
          have hD4 := s2 _ _ hD3
          refine ⟨_, hD4, by rw [List.length_map]; exact small1000 (by omega), fun b o hb => ?_, us ++ [l], by rw [upd_same, List.map_append]; rfl, ?_, by rw [List.length_append, List.length_singleton]; omega⟩
          · rw [upd_ne (ne_of_none hb hD)]
            exact s2 _ _ (e3 _ _ hb)
          · rw [List.take_add_one, List.getElem?_eq_getElem hj, List.map_append]
            unfold pairs
            rw [List.map_append]
            have up : ∀ b xs, upd (upd H3 p (.lst ([((min cs[j].1 cs[j].2 : Nat) : Int), ((max cs[j].1 cs[j].2 : Nat) : Int)].map V.int))) l (.tup ([((min cs[j].1 cs[j].2 : Nat) : Int), ((max cs[j].1 cs[j].2 : Nat) : Int)].map V.int)) b = some (.tup xs) → upd (upd (upd H3 p (.lst ([((min cs[j].1 cs[j].2 : Nat) : Int), ((max cs[j].1 cs[j].2 : Nat) : Int)].map V.int))) l (.tup ([((min cs[j].1 cs[j].2 : Nat) : Int), ((max cs[j].1 cs[j].2 : Nat) : Int)].map V.int))) D (.lst (us.map V.ref ++ [.ref l])) b = some (.tup xs) := fun b xs hb => by
              rw [upd_ne (fun e => by rw [e, hD4] at hb; cases hb)]
              exact hb
            exact ((tD.same s2).mono up).append (.cons (up _ _ upd_same) .nil)
        · obtain ⟨e3, us, hD3, tD, lu⟩ := pv
          rw [List.length_map, hl, List.take_length] at tD
          refine ⟨D, us.map V.ref, kfOf H3, rfl, .inl (.inl hD3), fun y hy => ?_, fun ys p srt stb np => ?_⟩
          · obtain ⟨b, e, rfl, hb⟩ := g_mem tD y hy
            exact ⟨b, rfl, by rw [kf_at hb]; exact hb⟩
          · have hys := fun y (hy : y ∈ ys) => g_mem tD y (stb.perm.mem_iff.mp hy)
            obtain ⟨us', rfl, tY⟩ := tat_of ys hys
            have pe : ((us'.map V.ref).map (gOf H3)).Perm (cs.map KL.srt) := by
              have z := stb.perm.map (gOf H3)
              rw [g_map tD] at z
              exact z
            have s4 := same_new (o := .lst (us'.map V.ref)) (Same.refl H3) np
            have elt : ∀ e ∈ (us'.map V.ref).map (gOf H3), e.1 < e.2 ∧ e.2 < n := fun e he => by
              obtain ⟨c, hcm, rfl⟩ := List.mem_map.mp (pe.mem_iff.mp he)
              obtain ⟨c1, c2, c3⟩ := hc.lt c hcm
              refine ⟨KL.srt_lt c3, ?_⟩
              unfold KL.srt
              simp only
              omega
            refine ⟨p, us', _, _, _, _, rfl, e02.trans (e3.trans s4), upd_same, tY.same s4, fun cn => ⟨elt, pe.nodup_iff.mpr hc.nd, sorted_of _ hys srt, KL.conn_srt cn pe⟩, elt, pe⟩
    · obtain ⟨p, us, es, y5, y6, y7, rfl, eM, hp, tU, ok', elt, pe⟩ := hM
      have esl : es.length = cs.length := by rw [pe.length_eq, List.length_map]
      refine ⟨_, rfl, _, rfl, n, p, us, es, rfl, by omega, n5, hp, tU, by omega, fun e he => ?_, fun H5 b e5 hb => ⟨_, rfl, ?_⟩⟩
      · obtain ⟨l1, l2⟩ := elt e he
        exact ⟨by omega, l2⟩
      have cc : KL.Conn n es ↔ KL.Conn n cs := ⟨fun c => conn_back c pe, fun c => KL.conn_srt c pe⟩
      rcases h with ⟨nc, fl⟩ | ⟨cn, q⟩
      · have bf : b = false := by
          cases b with
          | false => rfl
          | true => exact absurd (cc.mp (hb.mp rfl)) nc
        rw [bf]
        exact iteTo rfl ⟨by show 1 ≤ 1000; decide, flies_go (fl.later (eM.trans e5))⟩
      have bt : b = true := hb.mpr (cc.mpr cn)
      rw [bt]
      refine iteF ?_
      have ok := ok' cn
      have b5 : But x H H5 := fun b o _ hb => e5 _ _ (eM _ _ hb)
      have hx5 := e5 _ _ (eM _ _ hx)
      have hp5 := e5 _ _ hp
      have tU5 := tU.same e5
      have har5 := (har.same eM).same e5
      -- cells
      refine ⟨_, rfl, _, rfl, x, a.C, dx, _, rfl, hx5, T.cl, T.nA _ (by decide), by show 0 < 1000; decide, ?_⟩
      have b6 := b5.put (.ins a.C dx (putF "cells" (.int (n : Nat)) []))
      have hx6 : upd H5 x (.ins a.C dx (putF "cells" (.int (n : Nat)) [])) x = _ := upd_same
      have hp6 := keepNI (o' := .ins a.C dx (putF "cells" (.int (n : Nat)) [])) hx5 hp5 fun _ _ _ e => by cases e
      have tU6 := tU5.ni hx5 (.ins a.C dx (putF "cells" (.int (n : Nat)) []))
      have har6 := har5.ni hx5 (.ins a.C dx (putF "cells" (.int (n : Nat)) []))
      generalize upd H5 x (.ins a.C dx (putF "cells" (.int (n : Nat)) [])) = H6 at b6 hx6 hp6 tU6 har6 ⊢
      -- neighbours
      refine ⟨_, rfl, p, us.map V.ref, rfl, .inl ⟨.inl (.inl hp6), fun tn ntn => ?_⟩⟩
      have s7 := same_new (o := .tup (us.map V.ref)) (Same.refl H6) ntn
      have b7 := b6.same s7
      have hx7 := s7 _ _ hx6
      refine ⟨_, rfl, x, a.C, dx, _, rfl, hx7, T.cl, T.nA _ (by decide), by show 1 < 1000; decide, ?_⟩
      have b8 := b7.put (.ins a.C dx (putF "neighbours" (.ref tn) (putF "cells" (.int (n : Nat)) [])))
      have hx8 : upd (upd H6 tn (.tup (us.map V.ref))) x (.ins a.C dx (putF "neighbours" (.ref tn) (putF "cells" (.int (n : Nat)) []))) x = _ := upd_same
      have hp8 := keepNI (o' := .ins a.C dx (putF "neighbours" (.ref tn) (putF "cells" (.int (n : Nat)) []))) hx7 (s7 _ _ hp6) fun _ _ _ e => by cases e
      have tU8 := (tU6.same s7).ni hx7 (.ins a.C dx (putF "neighbours" (.ref tn) (putF "cells" (.int (n : Nat)) [])))
      have har8 := (har6.same s7).ni hx7 (.ins a.C dx (putF "neighbours" (.ref tn) (putF "cells" (.int (n : Nat)) [])))
      have hn8 := keepNI (o' := .ins a.C dx (putF "neighbours" (.ref tn) (putF "cells" (.int (n : Nat)) []))) hx7 (show upd H6 tn (.tup (us.map V.ref)) tn = _ from upd_same) fun _ _ _ e => by cases e
      generalize upd (upd H6 tn (.tup (us.map V.ref))) x (.ins a.C dx (putF "neighbours" (.ref tn) (putF "cells" (.int (n : Nat)) []))) = H8 at b8 hx8 hp8 tU8 har8 hn8 ⊢
      -- roads
      have harI : SqOf H8 ar ((lot.map fun c => ((c : Nat) : Int)).map V.int) := by rw [← ints_map]; exact har8
      refine ⟨_, rfl, ar, lot.map fun c => ((c : Nat) : Int), rfl, harI.sq, by rw [List.length_map]; omega, fun ms pl pm so npl => ⟨pl, _, rfl, .inl ⟨.inl (.inl upd_same), fun tr ntr => ?_⟩⟩⟩
      have ems := ints_back pm
      have e12 : ms.map V.int = ints_ (ms.map Int.toNat) := by rw [ints_map, ← ems]
      rw [e12] at ntr ⊢
      have prd : (ms.map Int.toNat).Perm lot := by
        have z := pm.map Int.toNat
        rw [List.map_map] at z
        exact z.trans (List.Perm.of_eq ((List.map_congr_left fun c _ => rfl).trans (List.map_id lot)))
      have srd : (ms.map Int.toNat).Pairwise (· ≤ ·) := by
        rw [List.pairwise_map]
        exact so.imp fun {a b} h => by omega
      generalize ms.map Int.toNat = rd at prd srd ntr ⊢
      have s9 := same_new (o := .lst (ints_ rd)) (Same.refl H8) npl
      have s10 := same_new (o := .tup (ints_ rd)) s9 ntr
      have hr10 : upd (upd H8 pl (.lst (ints_ rd))) tr (.tup (ints_ rd)) tr = some (.tup (ints_ rd)) := upd_same
      generalize upd (upd H8 pl (.lst (ints_ rd))) tr (.tup (ints_ rd)) = H10 at s10 hr10 ⊢
      have hx10 := s10 _ _ hx8
      refine ⟨_, rfl, x, a.C, dx, _, rfl, hx10, T.cl, T.nA _ (by decide), by show 2 < 1000; decide, ?_⟩
      have b11 := (b8.same s10).put (.ins a.C dx (putF "roads" (.ref tr) (putF "neighbours" (.ref tn) (putF "cells" (.int (n : Nat)) []))))
      have hx11 : upd H10 x (.ins a.C dx (putF "roads" (.ref tr) (putF "neighbours" (.ref tn) (putF "cells" (.int (n : Nat)) [])))) x = _ := upd_same
      have hp11 := keepNI (o' := .ins a.C dx (putF "roads" (.ref tr) (putF "neighbours" (.ref tn) (putF "cells" (.int (n : Nat)) [])))) hx10 (s10 _ _ hp8) fun _ _ _ e => by cases e
      have tU11 := (tU8.same s10).ni hx10 (.ins a.C dx (putF "roads" (.ref tr) (putF "neighbours" (.ref tn) (putF "cells" (.int (n : Nat)) []))))
      have hn11 := keepNI (o' := .ins a.C dx (putF "roads" (.ref tr) (putF "neighbours" (.ref tn) (putF "cells" (.int (n : Nat)) [])))) hx10 (s10 _ _ hn8) fun _ _ _ e => by cases e
      have hr11 := keepNI (o' := .ins a.C dx (putF "roads" (.ref tr) (putF "neighbours" (.ref tn) (putF "cells" (.int (n : Nat)) [])))) hx10 hr10 fun _ _ _ e => by cases e
      generalize upd H10 x (.ins a.C dx (putF "roads" (.ref tr) (putF "neighbours" (.ref tn) (putF "cells" (.int (n : Nat)) [])))) = H11 at b11 hx11 hp11 tU11 hn11 hr11 ⊢
      -- nearby
      refine ⟨_, rfl, _, rfl, n, p, us, es, rfl, n5, hp11, tU11, by omega, fun H12 ty uy s12 nty hy12 tY12 => ?_⟩
      have hx12 := s12 _ _ hx11
      refine ⟨_, rfl, x, a.C, dx, _, rfl, hx12, T.cl, T.nA _ (by decide), by show 3 < 1000; decide, ?_⟩
      have b13 := (b11.same s12).put (.ins a.C dx (putF "nearby" (.ref ty) (putF "roads" (.ref tr) (putF "neighbours" (.ref tn) (putF "cells" (.int (n : Nat)) [])))))
      have hx13 : upd H12 x (.ins a.C dx (putF "nearby" (.ref ty) (putF "roads" (.ref tr) (putF "neighbours" (.ref tn) (putF "cells" (.int (n : Nat)) []))))) x = _ := upd_same
      have tU13 := (tU11.same s12).ni hx12 (.ins a.C dx (putF "nearby" (.ref ty) (putF "roads" (.ref tr) (putF "neighbours" (.ref tn) (putF "cells" (.int (n : Nat)) [])))))
      have tY13 := tY12.ni hx12 (.ins a.C dx (putF "nearby" (.ref ty) (putF "roads" (.ref tr) (putF "neighbours" (.ref tn) (putF "cells" (.int (n : Nat)) [])))))
      have hn13 := keepNI (o' := .ins a.C dx (putF "nearby" (.ref ty) (putF "roads" (.ref tr) (putF "neighbours" (.ref tn) (putF "cells" (.int (n : Nat)) []))))) hx12 (s12 _ _ hn11) fun _ _ _ e => by cases e
      have hr13 := keepNI (o' := .ins a.C dx (putF "nearby" (.ref ty) (putF "roads" (.ref tr) (putF "neighbours" (.ref tn) (putF "cells" (.int (n : Nat)) []))))) hx12 (s12 _ _ hr11) fun _ _ _ e => by cases e
      have hy13 := keepNI (o' := .ins a.C dx (putF "nearby" (.ref ty) (putF "roads" (.ref tr) (putF "neighbours" (.ref tn) (putF "cells" (.int (n : Nat)) []))))) hx12 hy12 fun _ _ _ e => by cases e
      generalize upd H12 x (.ins a.C dx (putF "nearby" (.ref ty) (putF "roads" (.ref tr) (putF "neighbours" (.ref tn) (putF "cells" (.int (n : Nat)) []))))) = H13 at b13 hx13 tU13 hn13 hr13 hy13 tY13 ⊢
      -- couples
      refine ⟨_, rfl, _, rfl, by omega, by omega, fun D hD => K7E.out_range (lo := 0) (n := n) (fun i H' => Same H13 H' ∧ ∃ vs, H' D = some (.lst (vs.map V.ref)) ∧ TAt H' vs (pairs (upC n i)) ∧ vs.length ≤ i * n) ⟨same_new (Same.refl H13) hD, [], upd_same, .nil, Nat.zero_le _⟩ (fun i H' hi pv => ?_) (fun H' pv => ?_)⟩
      · obtain ⟨e14, vs, hD14, tV, lv⟩ := pv
        refine ⟨rfl, _, rfl, _, rfl, by omega, by omega, K7E.in_range (lo := 0) (n := n) (fun j H'' => Same H13 H'' ∧ ∃ vs, H'' D = some (.lst (vs.map V.ref)) ∧ TAt H'' vs (pairs (upC n i ++ rowC n i j)) ∧ vs.length ≤ i * n + j) ⟨e14, vs, hD14, ?_, lv⟩ (fun j H'' hj pv => ?_) (fun H'' pv => ?_)⟩
        · show TAt H' vs (pairs (upC n i ++ []))
          rw [List.append_nil]
          exact tV
        · obtain ⟨e15, vs, hD15, tV, lv⟩ := pv
          refine ⟨rfl, _, rfl, _, rfl, rfl, _, rfl, ?_⟩
          by_cases hij : i = j
          · subst hij
            have er : rowC n i (i + 1) = rowC n i i := by rw [rowC_succ, if_neg (fun h => h rfl), List.append_nil]
            have e16 : (!decide (V.int (0 + (i : Nat)) = V.int (0 + (i : Nat)))) = false := by rw [decide_eq_true rfl]; rfl
            rw [e16]
            refine iteF ⟨e15, vs, hD15, ?_, by omega⟩
            rw [er]
            exact tV
          · have er : rowC n i (j + 1) = rowC n i j ++ [(i, j)] := by rw [rowC_succ, if_pos hij]
            have e16 : (!decide (V.int (0 + (i : Nat)) = V.int (0 + (j : Nat)))) = true := by
              rw [decide_eq_false (fun h => by injection h with h; exact hij (by omega))]
              rfl
            have hin : i * n ≤ 25 := Nat.le_trans (Nat.mul_le_mul (Nat.le_of_lt (Nat.lt_of_lt_of_le hi n5)) n5) (by decide)
            rw [e16]
            refine iteT ⟨_, rfl, _, rfl, by show 2 ≤ sizeLine; decide, fun t nt => ?_⟩
            rw [er]
            have sT := same_new (o := .tup [.int (0 + (i : Nat)), .int (0 + (j : Nat))]) (Same.refl H'') nt
            have up : ∀ b xs, upd H'' t (.tup [.int (0 + (i : Nat)), .int (0 + (j : Nat))]) b = some (.tup xs) → upd (upd H'' t (.tup [.int (0 + (i : Nat)), .int (0 + (j : Nat))])) D (.lst (vs.map V.ref ++ [.ref t])) b = some (.tup xs) := fun b xs hb => by
              rw [upd_ne (fun z => by rw [z, sT _ _ hD15] at hb; cases hb)]
              exact hb
            refine ⟨_, sT _ _ hD15, by rw [List.length_map]; exact small1000 (by omega), fun b o hb => ?_, vs ++ [t], by rw [upd_same, List.map_append]; rfl, ?_, by rw [List.length_append, List.length_singleton]; omega⟩
            · rw [upd_ne (ne_of_none hb hD)]
              exact sT _ _ (e15 _ _ hb)
            · rw [← List.append_assoc]
              unfold pairs
              rw [List.map_append]
              refine ((tV.same sT).mono up).append (.cons (up _ _ ?_) .nil)
              rw [upd_same, Int.zero_add, Int.zero_add]
              rfl
        · obtain ⟨e15, vs, hD15, tV, lv⟩ := pv
          exact ⟨e15, vs, hD15, by rw [upC_succ]; exact tV, by rw [Nat.succ_mul]; exact lv⟩
      · obtain ⟨e14, vs, hD14, tV, lv⟩ := pv
        refine ⟨D, vs.map V.ref, rfl, .inl ⟨.inl (.inl hD14), fun tc ntc => ?_⟩⟩
        have sC := same_new (o := .tup (vs.map V.ref)) e14 ntc
        have hc14 : upd H' tc (.tup (vs.map V.ref)) tc = some (.tup (vs.map V.ref)) := upd_same
        have tV14 := tV.same (same_new (o := .tup (vs.map V.ref)) (Same.refl H') ntc)
        generalize upd H' tc (.tup (vs.map V.ref)) = H15 at sC hc14 tV14 ⊢
        have hx15 := sC _ _ hx13
        refine ⟨_, rfl, x, a.C, dx, _, rfl, hx15, T.cl, T.nA _ (by decide), by show 4 < 1000; decide, ?_⟩
        have no : ∀ (xs : List V) (C dx : Addr) fs, HO.tup xs ≠ .ins C dx fs := fun _ _ _ _ e => by cases e
        exact q _ es rd ((b13.same sC).put _) ⟨⟨dx, tn, tr, ty, tc, us, uy, vs, upd_same, keepNI hx15 (sC _ _ hn13) (no _), (tU13.same sC).ni hx15 _, keepNI hx15 (sC _ _ hr13) (no _), keepNI hx15 (sC _ _ hy13) (no _), (tY13.same sC).ni hx15 _, keepNI hx15 hc14 (no _), tV14.ni hx15 _⟩,
          n2, n5, ok, fun c hc => llt c (prd.mem_iff.mp hc), prd.nodup_iff.mpr lnd, srd, by rw [prd.length_eq]; exact l0, by rw [prd.length_eq]; exact ln⟩ pe prd
end
end K7
end
/-! ## MN -/
section
/-! min of a list of data that can be compared with one another. -/
namespace K7S
open PySem PySem.Spec PyProof.Rows L2
section
variable {X : Cx}
def rMinD (K : PySem.W.Frag) : List V → Hp → VK → Prop := fun vs H Q => ∃ (a : Addr) (xs : List V) (d : PyData) (ds : List PyData), vs = [V.ref a] ∧ SqL K H a xs ∧ DpAll K H xs (d :: ds) ∧
  PySem.W.AlikeAll (d :: ds) ∧ PyData.canLayAll0 (d :: ds) = true ∧ PyData.depthAll (d :: ds) ≤ 64 ∧ ∀ (i : Nat) (v : V), xs[i]? = some v → (d :: ds)[i]? = some (PySem.W.minD d ds) → Q v H
theorem vals_back {vs : List V} {us : List Value} (r : Vals vs us) : ∀ {i : Nat} {u : Value}, us[i]? = some u → ∃ v, vs[i]? = some v ∧ RelV v u := by
  induction r with
  | nil => exact fun {i u} h => nomatch h
  | cons r1 _ ih =>
    intro i u h
    cases i with
    | zero =>
      obtain rfl := Option.some.inj h
      exact ⟨_, rfl, r1⟩
    | succ i => exact ih (i := i) h
theorem minD_mem (d : PyData) : ∀ ds : List PyData, PySem.W.minD d ds ∈ d :: ds := by
  intro ds
  have z : ∀ (ds : List PyData) (a : PyData), ds.foldl (fun a y => if PySem.W.dataLt y a then y else a) a ∈ a :: ds := by
    intro ds
    induction ds with
    | nil => exact fun a => List.mem_cons_self ..
    | cons y ds ih =>
      intro a
      rcases List.mem_cons.mp (ih (if PySem.W.dataLt y a then y else a)) with e | e
      · rw [List.foldl_cons, e]
        split
        · exact List.mem_cons_of_mem _ (List.mem_cons_self ..)
        · exact List.mem_cons_self ..
      · exact List.mem_cons_of_mem _ (List.mem_cons_of_mem _ e)
  exact z ds d
theorem cr_minD (hc : X.calm = true) (hu : X.A.units + 65 < cLine) : CallR X (.builtin "min") (rMinD X.K) := by
  intro pins s τ H vs us Q I r h
  obtain ⟨a, xs, d, ds, rfl, hs, hd, hal, hlay, hdep, q⟩ := h
  obtain ⟨its, rv, hl, _⟩ := I.list hs
  rw [Vals.ref1 r]
  obtain ⟨as, hr⟩ := Dp.readsAll I (d :: ds) _ its hd rv
  have hmap : its.map (SeqAt.readOf s.heap) = d :: ds := SeqAt.readsAll_map (d :: ds) its as hlay hr
  refine PySem.W.min_list_data (I.ok.hd hc) hl.isList hr hal (by omega) fun i v h' tk bs hv hrd hk => ?_
  have hv : its[i]? = some v := by simpa using hv
  obtain ⟨x, hx, rx⟩ := vals_back rv hv
  have hi := congrArg (fun l : List PyData => l[i]?) hmap
  simp only [List.getElem?_map, hv, Option.map_some] at hi
  have all : ∀ (l : List PyData), PyData.canLayAll0 l = true → ∀ z ∈ l, z.canLay0 = true := by
    intro l
    induction l with
    | nil => exact fun _ z hz => nomatch hz
    | cons y l ih =>
      intro h z hz
      rw [PyData.canLayAll0, Bool.and_eq_true] at h
      rcases List.mem_cons.mp hz with rfl | hz
      · exact h.1
      · exact ih h.2 z hz
  obtain ⟨cs, r1, _, m1, _⟩ := PySem.W.readsAll_at hr i v hv
  have e1 := SeqAt.readOf_eq (all _ hlay _ m1) (PySem.W.reads_keeps hk r1)
  have e2 := SeqAt.readOf_eq (all _ hlay _ (minD_mem d ds)) hrd
  have e3 := SeqAt.readOf_eq (all _ hlay _ m1) r1
  refine ⟨x, H, I.kept (t' := tk) hk, rx, q i x hx (hi.symm.trans ?_)⟩
  rw [e3, ← e1, e2]
end
end K7S
end
/-! ## OR -/
section
open PySem PySem.Spec PyProof.Rows L2
namespace K7
/-! ### orders of cells -/
def at_ (o : List Nat) (c : Nat) : Nat := o.getD c 0
structure IsOrd (n : Nat) (o : List Nat) : Prop where
  len : o.length = n
  lt : ∀ c ∈ o, c < n
  nd : o.Nodup
def rowO (n : Nat) (o : List Nat) (j : Nat) : List (List Nat) := ((List.range j).filter fun c => !decide (c ∈ o)).map fun c => o ++ [c]
def stepO (n : Nat) (rows : List (List Nat)) : List (List Nat) := rows.flatMap fun o => rowO n o n
def itO (n : Nat) : Nat → List (List Nat)
  | 0 => [[]]
  | k + 1 => stepO n (itO n k)
def ords (n : Nat) : List (List Nat) := itO n n
theorem rowO_succ (n : Nat) (o : List Nat) (j : Nat) : rowO n o (j + 1) = rowO n o j ++ (if (!decide (j ∈ o)) = true then [o ++ [j]] else []) := by
  unfold rowO
  rw [range_filter, List.map_append]
  congr 1
  by_cases h : (!decide (j ∈ o)) = true
  · rw [if_pos h, if_pos h]; rfl
  · rw [if_neg h, if_neg h]; rfl
theorem rowO_len (n : Nat) (o : List Nat) (j : Nat) : (rowO n o j).length ≤ j := by
  unfold rowO
  rw [List.length_map]
  exact Nat.le_trans (List.length_filter_le _ _) (by rw [List.length_range]; exact Nat.le_refl _)
theorem step_snoc (n : Nat) (rows : List (List Nat)) (o : List Nat) : stepO n (rows ++ [o]) = stepO n rows ++ rowO n o n := by
  unfold stepO
  rw [List.flatMap_append, List.flatMap_cons, List.flatMap_nil, List.append_nil]
theorem step_len (n : Nat) : ∀ rows : List (List Nat), (stepO n rows).length ≤ rows.length * n
  | [] => Nat.zero_le _
  | o :: rows => by
    have h := step_len n rows
    have h2 := rowO_len n o n
    show (rowO n o n ++ stepO n rows).length ≤ _
    rw [List.length_append, List.length_cons, Nat.succ_mul]
    omega
theorem itO_len : ∀ n : Fin 6, ∀ k : Fin 6, k.val ≤ n.val → (itO n.val k.val).length ≤ 120 := by decide +kernel
theorem mem_rowO {n : Nat} {o x : List Nat} {j : Nat} : x ∈ rowO n o j ↔ ∃ c, c < j ∧ c ∉ o ∧ x = o ++ [c] := by
  unfold rowO
  rw [List.mem_map]
  constructor
  · rintro ⟨c, hc, rfl⟩
    rw [List.mem_filter, List.mem_range] at hc
    exact ⟨c, hc.1, by simpa using hc.2, rfl⟩
  · rintro ⟨c, h1, h2, rfl⟩
    exact ⟨c, List.mem_filter.mpr ⟨List.mem_range.mpr h1, by simpa using h2⟩, rfl⟩
theorem mem_itO (n : Nat) : ∀ (k : Nat) (x : List Nat), x ∈ itO n k ↔ x.length = k ∧ (∀ c ∈ x, c < n) ∧ x.Nodup
  | 0, x => by
    show x ∈ [[]] ↔ _
    rw [List.mem_singleton]
    constructor
    · rintro rfl
      exact ⟨rfl, fun c hc => (nomatch hc), List.nodup_nil⟩
    · exact fun h => List.length_eq_zero_iff.mp h.1
  | k + 1, x => by
    show x ∈ stepO n (itO n k) ↔ _
    unfold stepO
    rw [List.mem_flatMap]
    constructor
    · rintro ⟨o, ho, hx⟩
      obtain ⟨c, hc, hno, rfl⟩ := mem_rowO.mp hx
      obtain ⟨h1, h2, h3⟩ := (mem_itO n k o).mp ho
      refine ⟨by rw [List.length_append, h1]; rfl, fun d hd => ?_, ?_⟩
      · rcases List.mem_append.mp hd with hd | hd
        · exact h2 d hd
        · rw [List.mem_singleton.mp hd]; exact hc
      · rw [List.nodup_append]
        exact ⟨h3, List.nodup_cons.mpr ⟨List.not_mem_nil, List.nodup_nil⟩, fun a ha b hb e => hno (by rw [← List.mem_singleton.mp hb, ← e]; exact ha)⟩
    · rintro ⟨h1, h2, h3⟩
      have ne : x ≠ [] := fun e => by rw [e] at h1; cases h1
      have ex := List.dropLast_concat_getLast ne
      refine ⟨x.dropLast, (mem_itO n k _).mpr ⟨by rw [List.length_dropLast, h1]; rfl, fun c hc => h2 c (List.dropLast_subset x hc), h3.sublist (List.dropLast_sublist x)⟩, mem_rowO.mpr ⟨x.getLast ne, h2 _ (List.getLast_mem ne), fun m => ?_, ex.symm⟩⟩
      rw [← ex, List.nodup_append] at h3
      exact h3.2.2 _ m _ (List.mem_singleton.mpr rfl) rfl
theorem mem_ords {n : Nat} {x : List Nat} : x ∈ ords n ↔ IsOrd n x := (mem_itO n n x).trans ⟨fun h => ⟨h.1, h.2.1, h.2.2⟩, fun h => ⟨h.len, h.lt, h.nd⟩⟩
theorem IsOrd.perm {n : Nat} {o : List Nat} (h : IsOrd n o) : o.Perm (List.range n) := by
  refine (List.perm_ext_iff_of_nodup h.nd List.nodup_range).mpr fun d => ⟨fun m => List.mem_range.mpr (h.lt d m), fun m => ?_⟩
  refine Classical.byContradiction fun no => ?_
  have z := List.Nodup.length_le_of_subset (l₁ := d :: o) (l₂ := List.range n) (List.nodup_cons.mpr ⟨no, h.nd⟩) fun c hc => by
    rcases List.mem_cons.mp hc with rfl | hc
    · exact m
    · exact List.mem_range.mpr (h.lt c hc)
  rw [List.length_cons, List.length_range, h.len] at z
  omega
theorem at_get {o : List Nat} {c : Nat} (h : c < o.length) : at_ o c = o[c] := by
  unfold at_
  rw [List.getD_eq_getElem?_getD, List.getElem?_eq_getElem h]
  rfl
theorem IsOrd.at_lt {n : Nat} {o : List Nat} (h : IsOrd n o) {c : Nat} (hc : c < n) : at_ o c < n := by
  have l : c < o.length := by rw [h.len]; exact hc
  rw [at_get l]
  exact h.lt _ (List.getElem_mem l)
theorem IsOrd.inj {n : Nat} {o : List Nat} (h : IsOrd n o) {c d : Nat} (hc : c < n) (hd : d < n) (e : at_ o c = at_ o d) : c = d := by
  have l1 : c < o.length := by rw [h.len]; exact hc
  have l2 : d < o.length := by rw [h.len]; exact hd
  rw [at_get l1, at_get l2] at e
  exact (List.getElem_inj h.nd).mp e
theorem IsOrd.surj {n : Nat} {o : List Nat} (h : IsOrd n o) {d : Nat} (hd : d < n) : ∃ c, c < n ∧ at_ o c = d := by
  have m : d ∈ o := h.perm.mem_iff.mpr (List.mem_range.mpr hd)
  obtain ⟨c, hc, e⟩ := List.getElem_of_mem m
  exact ⟨c, by rw [← h.len]; exact hc, by rw [at_get hc]; exact e⟩
theorem ord_map {n : Nat} (f : Nat → Nat) (h1 : ∀ c, c < n → f c < n) (h2 : ∀ c d, c < n → d < n → f c = f d → c = d) : IsOrd n ((List.range n).map f) ∧ ∀ c, c < n → at_ ((List.range n).map f) c = f c := by
  refine ⟨⟨by rw [List.length_map, List.length_range], fun c hc => ?_, ?_⟩, fun c hc => ?_⟩
  · obtain ⟨d, hd, rfl⟩ := List.mem_map.mp hc
    exact h1 d (List.mem_range.mp hd)
  · rw [List.nodup_iff_pairwise_ne, List.pairwise_map]
    refine (List.nodup_iff_pairwise_ne.mp (List.nodup_range (n := n))).imp_of_mem fun {a b} ha hb ne e => ne (h2 a b (List.mem_range.mp ha) (List.mem_range.mp hb) e)
  · rw [at_get (by rw [List.length_map, List.length_range]; exact hc), List.getElem_map, List.getElem_range]
/-- one order behind another -/
theorem ord_comp {n : Nat} {o p : List Nat} (ho : IsOrd n o) (hp : IsOrd n p) : ∃ q, IsOrd n q ∧ ∀ c, c < n → at_ q c = at_ p (at_ o c) := by
  obtain ⟨h1, h2⟩ := ord_map (n := n) (fun c => at_ p (at_ o c)) (fun c hc => hp.at_lt (ho.at_lt hc)) fun c d hc hd e => ho.inj hc hd (hp.inj (ho.at_lt hc) (ho.at_lt hd) e)
  exact ⟨_, h1, h2⟩
/-- the order that leads back -/
theorem ord_inv {n : Nat} {o : List Nat} (ho : IsOrd n o) : ∃ q, IsOrd n q ∧ ∀ c, c < n → at_ q (at_ o c) = c := by
  have hx : ∀ d, d < n → o.idxOf d < n ∧ at_ o (o.idxOf d) = d := fun d hd => by
    have m : d ∈ o := ho.perm.mem_iff.mpr (List.mem_range.mpr hd)
    have l := List.idxOf_lt_length_of_mem m
    refine ⟨by rw [← ho.len]; exact l, ?_⟩
    rw [at_get l]
    exact List.getElem_idxOf l
  obtain ⟨h1, h2⟩ := ord_map (n := n) (fun d => o.idxOf d) (fun d hd => (hx d hd).1) fun c d hc hd e => by
    rw [← (hx c hc).2, ← (hx d hd).2]
    exact congrArg (at_ o) e
  refine ⟨_, h1, fun c hc => ?_⟩
  rw [h2 _ (ho.at_lt hc)]
  exact ho.inj ((hx _ (ho.at_lt hc)).1) hc (hx _ (ho.at_lt hc)).2
/-! ### lands led -/
abbrev Part := List (Nat × Nat) × List Nat
def leB (a b : Nat × Nat) : Bool := decide (a.1 < b.1 ∨ (a.1 = b.1 ∧ a.2 ≤ b.2))
def ledE (o : List Nat) (es : List (Nat × Nat)) : List (Nat × Nat) := (es.map fun e => KL.srt (at_ o e.1, at_ o e.2)).mergeSort leB
def ledR (o : List Nat) (rd : List Nat) : List Nat := (rd.map (at_ o)).mergeSort fun a b => decide (a ≤ b)
def led (o : List Nat) (x : Part) : Part := (ledE o x.1, ledR o x.2)
theorem ledE_perm (o : List Nat) (es : List (Nat × Nat)) : (ledE o es).Perm (es.map fun e => KL.srt (at_ o e.1, at_ o e.2)) := List.mergeSort_perm _ _
theorem ledR_perm (o rd : List Nat) : (ledR o rd).Perm (rd.map (at_ o)) := List.mergeSort_perm _ _
theorem ledE_sorted (o : List Nat) (es : List (Nat × Nat)) : (ledE o es).Pairwise KL.lexLe := by
  have h := List.pairwise_mergeSort (le := leB) (fun a b c h1 h2 => by unfold leB at *; simp only [decide_eq_true_eq] at *; omega) (fun a b => by unfold leB; simp only [Bool.or_eq_true, decide_eq_true_eq]; omega) (es.map fun e => KL.srt (at_ o e.1, at_ o e.2))
  exact h.imp fun {a b} e => of_decide_eq_true e
theorem ledR_sorted (o rd : List Nat) : (ledR o rd).Pairwise (· ≤ ·) := by
  have h := List.pairwise_mergeSort (le := fun a b : Nat => decide (a ≤ b)) (fun a b c h1 h2 => by simp only [decide_eq_true_eq] at *; omega) (fun a b => by simp only [Bool.or_eq_true, decide_eq_true_eq]; omega) (rd.map (at_ o))
  exact h.imp fun {a b} e => of_decide_eq_true e
theorem ledE_is {o : List Nat} {es ys : List (Nat × Nat)} (p : ys.Perm (es.map fun e => KL.srt (at_ o e.1, at_ o e.2))) (hs : ys.Pairwise KL.lexLe) : ys = ledE o es :=
  KL.uniq KL.lex_anti (p.trans (ledE_perm o es).symm) hs (ledE_sorted o es)
theorem ledR_is {o rd ys : List Nat} (p : ys.Perm (rd.map (at_ o))) (hs : ys.Pairwise (· ≤ ·)) : ys = ledR o rd :=
  KL.uniq (fun a b (h1 : a ≤ b) (h2 : b ≤ a) => Nat.le_antisymm h1 h2) (p.trans (ledR_perm o rd).symm) hs (ledR_sorted o rd)
/-- the parts that a land has -/
structure PartOk (n : Nat) (x : Part) : Prop where
  ok : LandOk n x.1
  rlt : ∀ c ∈ x.2, c < n
  rnd : x.2.Nodup
  rso : x.2.Pairwise (· ≤ ·)
  r0 : 0 < x.2.length
  rn : x.2.length < n
theorem srt_srt (o : List Nat) (a b : Nat) : KL.srt (at_ o (KL.srt (a, b)).1, at_ o (KL.srt (a, b)).2) = KL.srt (at_ o a, at_ o b) := by
  unfold KL.srt
  simp only
  rcases Nat.le_total a b with h | h
  · rw [Nat.min_eq_left h, Nat.max_eq_right h]
  · rw [Nat.min_eq_right h, Nat.max_eq_left h, Nat.min_comm, Nat.max_comm]
theorem led_led {n : Nat} {o p q : List Nat} {x : Part} (hx : PartOk n x) (hq : ∀ c, c < n → at_ q c = at_ p (at_ o c)) : led p (led o x) = led q x := by
  obtain ⟨es, rd⟩ := x
  refine Prod.ext ?_ ?_
  · refine ledE_is ?_ (ledE_sorted _ _)
    refine (ledE_perm p (ledE o es)).trans (((ledE_perm o es).map _).trans ?_)
    rw [List.map_map]
    refine List.Perm.of_eq (List.map_congr_left fun e he => ?_)
    obtain ⟨h1, h2⟩ := hx.ok.lt e he
    show KL.srt (at_ p (KL.srt (at_ o e.1, at_ o e.2)).1, at_ p (KL.srt (at_ o e.1, at_ o e.2)).2) = _
    rw [srt_srt, hq _ (by omega), hq _ h2]
  · refine ledR_is ?_ (ledR_sorted _ _)
    refine (ledR_perm p (ledR o rd)).trans (((ledR_perm o rd).map _).trans ?_)
    rw [List.map_map]
    exact List.Perm.of_eq (List.map_congr_left fun c hc => (hq c (hx.rlt c hc)).symm)
theorem led_back {n : Nat} {o : List Nat} {x : Part} (hx : PartOk n x) (ho : ∀ c, c < n → at_ o c = c) : led o x = x := by
  obtain ⟨es, rd⟩ := x
  refine Prod.ext ?_ ?_
  · refine (ledE_is ?_ (hx.ok.sorted.imp fun h => h)).symm
    refine List.Perm.of_eq ((List.map_id es).symm.trans (List.map_congr_left fun e he => ?_))
    obtain ⟨h1, h2⟩ := hx.ok.lt e he
    rw [ho _ (by omega), ho _ h2, KL.srt_of h1]
    rfl
  · refine (ledR_is ?_ hx.rso).symm
    exact List.Perm.of_eq ((List.map_id rd).symm.trans (List.map_congr_left fun c hc => (ho c (hx.rlt c hc)).symm))
theorem led_conn {n : Nat} {o : List Nat} {es : List (Nat × Nat)} (ho : IsOrd n o) (n2 : 0 < n) (h : KL.Conn n es) (lt : ∀ e ∈ es, e.1 < e.2 ∧ e.2 < n) : KL.Conn n (ledE o es) := by
  intro S h0 he c hc
  have edge : ∀ e ∈ es, S (at_ o e.1) = S (at_ o e.2) := fun e m => by
    have z := he (KL.srt (at_ o e.1, at_ o e.2)) ((ledE_perm o es).mem_iff.mpr (List.mem_map.mpr ⟨e, m, rfl⟩))
    unfold KL.srt at z
    simp only at z
    rcases Nat.le_total (at_ o e.1) (at_ o e.2) with y | y
    · rw [Nat.min_eq_left y, Nat.max_eq_right y] at z; exact z
    · rw [Nat.min_eq_right y, Nat.max_eq_left y] at z; exact z.symm
  have all := h (fun c => S (at_ o c) == S (at_ o 0)) (by simp) fun e m => by
    show (S (at_ o e.1) == S (at_ o 0)) = (S (at_ o e.2) == S (at_ o 0))
    rw [edge e m]
  obtain ⟨c0, k0, e0⟩ := ho.surj n2
  have z0 := all c0 k0
  rw [e0, h0] at z0
  obtain ⟨c1, k1, e1⟩ := ho.surj hc
  have z1 := all c1 k1
  rw [e1] at z1
  have z0 : true = S (at_ o 0) := by simpa using z0
  have z1 : S c = S (at_ o 0) := by simpa using z1
  rw [z1, ← z0]
theorem led_cos {n : Nat} {o : List Nat} {es : List (Nat × Nat)} (ho : IsOrd n o) (n5 : n ≤ 5) (ok : LandOk n es) (h32 : es.length ≤ 32) : Cos n (ledE o es) ∧ (ledE o es).map KL.srt = ledE o es := by
  have mem : ∀ c ∈ ledE o es, ∃ e ∈ es, c = KL.srt (at_ o e.1, at_ o e.2) := fun c hc => by
    obtain ⟨e, he, rfl⟩ := List.mem_map.mp ((ledE_perm o es).mem_iff.mp hc)
    exact ⟨e, he, rfl⟩
  have lt : ∀ c ∈ ledE o es, c.1 < c.2 ∧ c.2 < n := fun c hc => by
    obtain ⟨e, he, rfl⟩ := mem c hc
    obtain ⟨h1, h2⟩ := ok.lt e he
    have a := ho.at_lt (c := e.1) (by omega)
    have b := ho.at_lt h2
    have ne : at_ o e.1 ≠ at_ o e.2 := fun z => by
      have := ho.inj (by omega) h2 z
      omega
    refine ⟨KL.srt_lt ne, ?_⟩
    unfold KL.srt
    simp only
    omega
  have em : (ledE o es).map KL.srt = ledE o es := (List.map_congr_left fun c hc => KL.srt_of (lt c hc).1).trans (List.map_id _)
  refine ⟨⟨fun c hc => ⟨by have := lt c hc; omega, (lt c hc).2, by have := lt c hc; omega⟩, ?_, by rw [(ledE_perm o es).length_eq, List.length_map]; exact h32⟩, em⟩
  rw [em, (ledE_perm o es).nodup_iff, List.nodup_iff_pairwise_ne, List.pairwise_map]
  refine (List.nodup_iff_pairwise_ne.mp ok.nd).imp_of_mem fun {a b} ha hb ne e => ne ?_
  obtain ⟨a1, a2⟩ := ok.lt a ha
  obtain ⟨b1, b2⟩ := ok.lt b hb
  unfold KL.srt at e
  injection e with e1 e2
  simp only at e1 e2
  have i1 := fun z => ho.inj (c := a.1) (d := b.1) (by omega) (by omega) z
  have i2 := fun z => ho.inj (c := a.2) (d := b.2) (by omega) (by omega) z
  have i3 := fun z => ho.inj (c := a.1) (d := b.2) (by omega) (by omega) z
  have i4 := fun z => ho.inj (c := a.2) (d := b.1) (by omega) (by omega) z
  have cs : (at_ o a.1 = at_ o b.1 ∧ at_ o a.2 = at_ o b.2) ∨ (at_ o a.1 = at_ o b.2 ∧ at_ o a.2 = at_ o b.1) := by omega
  rcases cs with ⟨z1, z2⟩ | ⟨z1, z2⟩
  · exact Prod.ext (i1 z1) (i2 z2)
  · have := i3 z1
    have := i4 z2
    omega
theorem led_ok {n : Nat} {o : List Nat} {x : Part} (ho : IsOrd n o) (n2 : 0 < n) (n5 : n ≤ 5) (h32 : x.1.length ≤ 32) (hx : PartOk n x) : PartOk n (led o x) := by
  obtain ⟨es, rd⟩ := x
  obtain ⟨c, em⟩ := led_cos ho n5 hx.ok h32
  have rp := ledR_perm o rd
  refine ⟨⟨fun e he => ?_, ?_, ledE_sorted o es, led_conn ho n2 hx.ok.conn hx.ok.lt⟩, fun c hc => ?_, ?_, ledR_sorted o rd, ?_, ?_⟩
  · have z := c.lt e he
    have := KL.srt_le e
    have e1 : KL.srt e = e := by
      obtain ⟨e', he', rfl⟩ := List.mem_map.mp ((ledE_perm o es).mem_iff.mp he)
      unfold KL.srt
      simp only
      refine Prod.ext ?_ ?_ <;> simp only <;> omega
    rw [e1] at this
    omega
  · have := c.nd
    rw [em] at this
    exact this
  · obtain ⟨d, hd, rfl⟩ := List.mem_map.mp (rp.mem_iff.mp hc)
    exact ho.at_lt (hx.rlt d hd)
  · show (ledR o rd).Nodup
    rw [rp.nodup_iff, List.nodup_iff_pairwise_ne, List.pairwise_map]
    exact (List.nodup_iff_pairwise_ne.mp hx.rnd).imp_of_mem fun {a b} ha hb ne e => ne (ho.inj (hx.rlt a ha) (hx.rlt b hb) e)
  · show 0 < (ledR o rd).length
    rw [rp.length_eq, List.length_map]
    exact hx.r0
  · show (ledR o rd).length < n
    rw [rp.length_eq, List.length_map]
    exact hx.rn
/-- alike: an order leads the one to the other -/
def AlikeP (n : Nat) (x y : Part) : Prop := ∃ o ∈ ords n, led o x = y
theorem alike_symm {n : Nat} {x y : Part} (hx : PartOk n x) (h : AlikeP n x y) : AlikeP n y x := by
  obtain ⟨o, ho, rfl⟩ := h
  have io := mem_ords.mp ho
  obtain ⟨q, iq, e⟩ := ord_inv io
  refine ⟨q, mem_ords.mpr iq, ?_⟩
  obtain ⟨h1, h2⟩ := ord_map (n := n) (fun c => c) (fun c hc => hc) (fun c d _ _ e => e)
  rw [led_led hx (q := (List.range n).map fun c => c) fun c hc => by rw [h2 c hc, e c hc]]
  exact led_back hx h2
theorem alike_trans {n : Nat} {x y z : Part} (hx : PartOk n x) (h : AlikeP n x y) (h' : AlikeP n y z) : AlikeP n x z := by
  obtain ⟨o, ho, rfl⟩ := h
  obtain ⟨p, hp, rfl⟩ := h'
  obtain ⟨q, iq, e⟩ := ord_comp (mem_ords.mp ho) (mem_ords.mp hp)
  exact ⟨q, mem_ords.mpr iq, (led_led hx e).symm⟩
end K7
end
/-! ## ORM -/
section
open PySem PySem.Spec PyProof.Rows L2
namespace K7
/-! ### data of lands -/
theorem eqv_ints : ∀ l m : List Nat, PyData.eqvAll (l.map fun c => PyData.int (c : Nat)) (m.map fun c => PyData.int (c : Nat)) = decide (l = m)
  | [], [] => rfl
  | [], _ :: _ => by simp [PyData.eqvAll]
  | _ :: _, [] => by simp [PyData.eqvAll]
  | x :: l, y :: m => by
    rw [List.map_cons, List.map_cons, PyData.eqvAll, eqv_ints l m]
    by_cases e : x = y
    · subst e
      simp [PyData.eqv]
    · have e2 : ¬ ((x : Nat) : Int) = (y : Nat) := by omega
      simp [PyData.eqv, e, e2]
theorem eqv_intD (l m : List Nat) : PyData.eqv (intD l) (intD m) = decide (l = m) := by
  unfold intD
  rw [PyData.eqv, eqv_ints]
theorem eqvAll_rows : ∀ us vs : List (List Nat), PyData.eqvAll (us.map intD) (vs.map intD) = decide (us = vs)
  | [], [] => rfl
  | [], _ :: _ => by simp [PyData.eqvAll]
  | _ :: _, [] => by simp [PyData.eqvAll]
  | u :: us, v :: vs => by
    rw [List.map_cons, List.map_cons, PyData.eqvAll, eqv_intD, eqvAll_rows us vs]
    by_cases h1 : u = v <;> by_cases h2 : us = vs <;> simp [h1, h2]
theorem pairs_inj : ∀ {es fs : List (Nat × Nat)}, pairs es = pairs fs → es = fs
  | [], [], _ => rfl
  | [], _ :: _, h => by cases h
  | _ :: _, [], h => by cases h
  | (a, b) :: es, (c, d) :: fs, h => by
    have h : [a, b] :: pairs es = [c, d] :: pairs fs := h
    injection h with h1 h2
    injection h1 with h1 h3
    injection h3 with h3
    rw [h1, h3, pairs_inj h2]
theorem eqv_rows (es fs : List (Nat × Nat)) : PyData.eqvAll ((pairs es).map intD) ((pairs fs).map intD) = decide (es = fs) := by
  rw [eqvAll_rows]
  exact decide_eq_decide.mpr ⟨pairs_inj, fun h => by rw [h]⟩
theorem shapedT_rows (ls : List (List Nat)) : SeqAt.shaped (.tuple (ls.map intD)) = true := by
  have z : ((PyData.canLay0 (.list (ls.map intD))) && decide (PyData.depth (.list (ls.map intD)) ≤ 64)) = true := shaped_rows ls
  show ((PyData.canLay0 (.tuple (ls.map intD))) && decide (PyData.depth (.tuple (ls.map intD)) ≤ 64)) = true
  simpa [PyData.canLay0, PyData.depth] using z
def rowsT (us : List (List Nat)) : PyData := .tuple (us.map intD)
def partD (x : Part) : PyData := .tuple [rowsT (pairs x.1), intD x.2]
theorem eqv_part (x y : Part) : PyData.eqv (partD x) (partD y) = decide (x = y) := by
  unfold partD rowsT
  rw [PyData.eqv, PyData.eqvAll, PyData.eqvAll, PyData.eqvAll, PyData.eqv, eqv_rows, eqv_intD]
  obtain ⟨a, b⟩ := x
  obtain ⟨c, d⟩ := y
  by_cases h1 : a = c <;> by_cases h2 : b = d <;> simp [h1, h2]
theorem canLay_rows (us : List (List Nat)) : PyData.canLayAll0 (us.map intD) = true ∧ PyData.depthAll (us.map intD) ≤ 1 := by
  induction us with
  | nil => exact ⟨rfl, Nat.zero_le _⟩
  | cons u us ih =>
    have hu : ∀ l : List Nat, PyData.canLayAll0 (l.map fun c => PyData.int (c : Nat)) = true ∧ PyData.depthAll (l.map fun c => PyData.int (c : Nat)) = 0 := by
      intro l
      induction l with
      | nil => exact ⟨rfl, rfl⟩
      | cons a l ih => exact ⟨by simp [PyData.canLayAll0, PyData.canLay0, ih.1], by simp [PyData.depthAll, PyData.depth, ih.2]⟩
    refine ⟨?_, ?_⟩
    · rw [List.map_cons, PyData.canLayAll0, ih.1, Bool.and_true]
      unfold intD
      simpa [PyData.canLay0] using (hu u).1
    · rw [List.map_cons, PyData.depthAll]
      have : PyData.depth (intD u) = 1 := by unfold intD; simp [PyData.depth, (hu u).2]
      omega
theorem lay_part (x : Part) : PyData.canLay0 (partD x) = true ∧ PyData.depth (partD x) ≤ 3 := by
  obtain ⟨h1, h2⟩ := canLay_rows (pairs x.1)
  obtain ⟨h3, h4⟩ := canLay_rows [x.2]
  have e1 : PyData.canLay0 (intD x.2) = true := by
    rw [List.map_cons, PyData.canLayAll0, Bool.and_eq_true] at h3
    exact h3.1
  have e2 : PyData.depth (intD x.2) ≤ 1 := by
    rw [List.map_cons, PyData.depthAll] at h4
    omega
  unfold partD rowsT
  refine ⟨?_, ?_⟩
  · rw [PyData.canLay0, PyData.canLayAll0, PyData.canLayAll0, PyData.canLayAll0, PyData.canLay0, h1, e1]
    rfl
  · simp only [PyData.depth, PyData.depthAll]
    omega
theorem shaped_part (x : Part) : SeqAt.shaped (partD x) = true := by
  obtain ⟨h1, h2⟩ := lay_part x
  show (PyData.canLay0 (partD x) && decide (PyData.depth (partD x) ≤ 64)) = true
  rw [h1, decide_eq_true (by omega)]
  rfl
theorem lay_parts : ∀ xs : List Part, PyData.canLayAll0 (xs.map partD) = true ∧ PyData.depthAll (xs.map partD) ≤ 64
  | [] => ⟨rfl, Nat.zero_le _⟩
  | x :: xs => by
    obtain ⟨h1, h2⟩ := lay_parts xs
    obtain ⟨h3, h4⟩ := lay_part x
    refine ⟨by rw [List.map_cons, PyData.canLayAll0, h3, h1]; rfl, ?_⟩
    rw [List.map_cons, PyData.depthAll]
    omega
theorem alike_ints : ∀ u v : List Nat, PySem.W.alikeAll (u.map fun c => PyData.int (c : Nat)) (v.map fun c => PyData.int (c : Nat)) = true
  | [], _ => by cases ‹List Nat› <;> rfl
  | _ :: _, [] => rfl
  | a :: u, b :: v => by
    show (PySem.W.alike (.int a) (.int b) && PySem.W.alikeAll _ _) = true
    rw [alike_ints u v]
    rfl
theorem alike_intD (u v : List Nat) : PySem.W.alike (intD u) (intD v) = true := alike_ints u v
theorem alike_rowsT : ∀ us vs : List (List Nat), PySem.W.alikeAll (us.map intD) (vs.map intD) = true
  | [], _ => by cases ‹List (List Nat)› <;> rfl
  | _ :: _, [] => rfl
  | a :: u, b :: v => by
    show (PySem.W.alike (intD a) (intD b) && PySem.W.alikeAll _ _) = true
    rw [alike_rowsT u v, alike_intD]
    rfl
theorem alike_part (x y : Part) : PySem.W.alike (partD x) (partD y) = true := by
  show (PySem.W.alikeAll _ _ && (PySem.W.alike (intD x.2) (intD y.2) && true)) = true
  rw [alike_rowsT, alike_intD]
  rfl
theorem alike_parts (xs : List Part) : PySem.W.AlikeAll (xs.map partD) := by
  refine ⟨fun x hx y hy => ?_, fun x hx => ?_⟩
  · obtain ⟨u, _, rfl⟩ := List.mem_map.mp hx
    obtain ⟨v, _, rfl⟩ := List.mem_map.mp hy
    exact alike_part u v
  · obtain ⟨u, _, rfl⟩ := List.mem_map.mp hx
    intro e
    cases e
/-! ### the least -/
open PySem.W in
theorem minD_low : ∀ (ds : List PyData) (d : PyData), ∀ y ∈ d :: ds, dataLt y (minD d ds) = false
  | [], d, y, hy => by
    rw [List.mem_singleton.mp hy]
    exact lex_irrefl _
  | e :: ds, d, y, hy => by
    have step : minD d (e :: ds) = minD (if dataLt e d then e else d) ds := rfl
    rw [step]
    by_cases h : dataLt e d = true
    · rw [if_pos h]
      have ih := minD_low ds e
      rcases List.mem_cons.mp hy with rfl | hy
      · refine Bool.eq_false_iff.mpr fun z => ?_
        have t : dataLt e (minD e ds) = true := lex_trans _ _ _ h z
        rw [ih e (List.mem_cons_self ..)] at t
        cases t
      · exact ih y hy
    · rw [if_neg h]
      have ih := minD_low ds d
      rcases List.mem_cons.mp hy with rfl | hy
      · exact ih _ (List.mem_cons_self ..)
      · rcases List.mem_cons.mp hy with rfl | hy
        · refine Bool.eq_false_iff.mpr fun z => ?_
          have low := ih d (List.mem_cons_self ..)
          by_cases h2 : dataLt d y = true
          · have t : dataLt d (minD d ds) = true := lex_trans _ _ _ h2 z
            rw [low] at t
            cases t
          · have eq : keyToks d = keyToks y := lex_total _ _ (Bool.eq_false_iff.mpr h2) (Bool.eq_false_iff.mpr h)
            have t : dataLt d (minD d ds) = dataLt y (minD d ds) := by unfold dataLt; rw [eq]
            rw [low, z] at t
            cases t
        · exact ih y (List.mem_cons_of_mem _ hy)
open PySem.W in
theorem minD_same {d e : PyData} {ds es : List PyData} (h1 : ∀ y ∈ d :: ds, y ∈ e :: es) (h2 : ∀ y ∈ e :: es, y ∈ d :: ds) (al : alike (minD d ds) (minD e es) = true) : PyData.eqv (minD d ds) (minD e es) = true := by
  have m1 := K7S.minD_mem d ds
  have m2 := K7S.minD_mem e es
  have eq : keyToks (minD d ds) = keyToks (minD e es) := lex_total _ _ (minD_low es e _ (h1 _ m1)) (minD_low ds d _ (h2 _ m2))
  refine Classical.byContradiction fun no => ?_
  have z := (toks_eqv _ _ al).2 (Bool.eq_false_iff.mpr no) [] [Sum.inl 0]
  rw [eq, lex_pre, lex_irrefl] at z
  cases z
/-- the least of parts -/
def minPart (v : Part) (ws : List Part) : Part := ws.foldl (fun a y => if PySem.W.dataLt (partD y) (partD a) then y else a) v
theorem minD_part : ∀ (ws : List Part) (v : Part), PySem.W.minD (partD v) (ws.map partD) = partD (minPart v ws)
  | [], v => rfl
  | y :: ws, v => by
    show PySem.W.minD (if PySem.W.dataLt (partD y) (partD v) then partD y else partD v) (ws.map partD) = partD (minPart (if PySem.W.dataLt (partD y) (partD v) then y else v) ws)
    rw [← minD_part ws]
    congr 1
    split <;> rfl
theorem partD_inj {x y : Part} (h : partD x = partD y) : x = y := by
  have z := eqv_part x y
  rw [h] at z
  have w := eqv_part y y
  rw [decide_eq_true rfl] at w
  rw [w] at z
  exact of_decide_eq_true z.symm
theorem minPart_mem (v : Part) (ws : List Part) : minPart v ws ∈ v :: ws := by
  have z := K7S.minD_mem (partD v) (ws.map partD)
  rw [minD_part] at z
  obtain ⟨y, hy, e⟩ := List.mem_map.mp (show partD (minPart v ws) ∈ (v :: ws).map partD from z)
  rw [← partD_inj e]
  exact hy
theorem minPart_same {v u : Part} {ws us : List Part} (h1 : ∀ y ∈ v :: ws, y ∈ u :: us) (h2 : ∀ y ∈ u :: us, y ∈ v :: ws) : minPart v ws = minPart u us := by
  have z := minD_same (d := partD v) (ds := ws.map partD) (e := partD u) (es := us.map partD) (fun y hy => ?_) (fun y hy => ?_) (by rw [minD_part, minD_part]; exact alike_part _ _)
  · rw [minD_part, minD_part, eqv_part] at z
    exact of_decide_eq_true z
  · obtain ⟨x, hx, rfl⟩ := List.mem_map.mp (show y ∈ (v :: ws).map partD from hy)
    exact List.mem_map.mpr ⟨x, h1 x hx, rfl⟩
  · obtain ⟨x, hx, rfl⟩ := List.mem_map.mp (show y ∈ (u :: us).map partD from hy)
    exact List.mem_map.mpr ⟨x, h2 x hx, rfl⟩
/-- all that a land can be led to -/
def leds (n : Nat) (x : Part) : List Part := (ords n).map fun o => led o x
def leastP (n : Nat) (x : Part) : Part := match leds n x with
  | [] => x
  | v :: ws => minPart v ws
theorem leds_ne (n : Nat) (x : Part) : leds n x ≠ [] := by
  obtain ⟨h1, _⟩ := ord_map (n := n) (fun c => c) (fun c hc => hc) (fun c d _ _ e => e)
  intro e
  have m : led ((List.range n).map fun c => c) x ∈ leds n x := List.mem_map.mpr ⟨_, mem_ords.mpr h1, rfl⟩
  rw [e] at m
  cases m
theorem mem_leds {n : Nat} {x y : Part} : y ∈ leds n x ↔ AlikeP n x y := by
  unfold leds AlikeP
  rw [List.mem_map]
theorem leastP_mem (n : Nat) (x : Part) : AlikeP n x (leastP n x) := by
  rw [← mem_leds]
  unfold leastP
  cases h : leds n x with
  | nil => exact absurd h (leds_ne n x)
  | cons v ws => exact minPart_mem v ws
theorem leastP_same {n : Nat} {x y : Part} (hx : PartOk n x) (h : AlikeP n x y) (hy : PartOk n y) : leastP n x = leastP n y := by
  have h1 : ∀ z ∈ leds n x, z ∈ leds n y := fun z hz => mem_leds.mpr (alike_trans hy (alike_symm hx h) (mem_leds.mp hz))
  have h2 : ∀ z ∈ leds n y, z ∈ leds n x := fun z hz => mem_leds.mpr (alike_trans hx h (mem_leds.mp hz))
  unfold leastP
  cases e1 : leds n x with
  | nil => exact absurd e1 (leds_ne n x)
  | cons v ws =>
    cases e2 : leds n y with
    | nil => exact absurd e2 (leds_ne n y)
    | cons u us =>
      rw [e1, e2] at h1 h2
      exact minPart_same h1 h2
theorem least_iff {n : Nat} {x y : Part} (n2 : 0 < n) (n5 : n ≤ 5) (x32 : x.1.length ≤ 32) (hx : PartOk n x) (hy : PartOk n y) : leastP n x = leastP n y ↔ AlikeP n x y := by
  refine ⟨fun e => ?_, fun h => leastP_same hx h hy⟩
  have a := leastP_mem n x
  have b := leastP_mem n y
  rw [← e] at b
  exact alike_trans hx a (alike_symm hy b)
end K7
end
/-! ## EN -/
section
/-! x == y, x != y by x's own __eq__, x an instance of an own class without a __ne__. -/
namespace K7E
open PySem PySem.Spec PyProof.Rows L2
theorem slot_obj_ne : Slot "object" "__ne__" "object.__ne__" := .of (owner := "object") (n := "__ne__") (by rw [typeLookup_type, builtinLookup_eq_fast]; kernel_rfl) (by decide +kernel) (by decide +kernel) (by decide +kernel) (.inl (by decide +kernel)) (by rw [isSubtype_type]; kernel_rfl)
section
variable {prog : Program} {w : World} {A : Around} {E : Value → Shared → Prop} {s : Shared} {K : PySem.W.Frag} {x C L f : Addr} {h₀ : Heap} {m : Str → Option Value} {ox : Obj} {od : Option Obj} {b tb : Value}
open PySem.W in
theorem ne_K {Q : Value → Shared → Prop} (hu : A.units + 1 < cLine) (FF : Fr h₀ L s.heap m) (X₀ : K.In h₀) (I : InstAt s.heap x ox C od) (hb : Looks (model prog w) s.heap (typeOf b) tb) (hn : notFirst K C tb = true) (hm : mroIn K C (.type "object") = some true)
    (hs : findIn K (.ref C) "__ne__" = some (some (.builtin "object.__ne__"))) (he : findIn K (.ref C) "__eq__" = some (some (.ref f))) (hf : isFn K (.ref f) = true)
    (h : wpAny (model prog w) A.in1 (call (.ref f) [.ref x, b]) (fun v s' => ∃ c, v = .bool c ∧ Q (.bool (!c)) s') E s) : wpAny (model prog w) A (richCompare .NotEq (.ref x) b) Q E s := by
  have X := X₀.keeps FF.keep
  have inner : wpAny (model prog w) A.in1 (Builtin.«object.__ne__» ⟨[.ref x, b], []⟩) (fun fin s' => ∃ c, fin = .done (.ret (.bool (!c))) ∧ Q (.bool (!c)) s') E s := by
    unfold Builtin.«object.__ne__»
    repeat (first
      | with_reducible refine wpAny_cRoomFor (show A.in1.units < cLine from hu) ?_
      | (refine wpAny_bind (m := callSpecialIfBound? (.ref x) (Str.ofString "__eq__") [b]) (ifBound_K X I he hf (wpAny_mono h (fun r s' hr => by
          obtain ⟨c, rfl, hq⟩ := hr
          repeat (first | exact ⟨c, rfl, hq⟩ | exact wpAny_pure ⟨c, rfl, hq⟩ | exact wpAny_truthy_bool ⟨c, rfl, hq⟩ | (refine wpAny_bind (m := truthy (.bool _)) (wpAny_truthy_bool ?_)) | wp_step)) fun _ _ e => e)))
      | wp_step)
  have mid : wpAny (model prog w) A (callSpecialIfBound? (.ref x) "__ne__" [b]) (fun r s' => ∃ c, r = some (.bool (!c)) ∧ Q (.bool (!c)) s') E s := by
    simp only [callSpecialIfBound?, bindSpecialIfBound?]
    refine wpAny_holding (wpAny_bind (wpAny_bind (wpAny_bind (I.type.here ((looks_findIn X hs).here ?_)))))
    simp only [slot_obj_ne.bind]
    refine wpAny_bind (wpAny_askSetting (wpAny_ite ?_))
    have fin : wpAny (model prog w) A (call (.builtin "object.__ne__") ([.ref x] ++ [b]) >>= fun v => pure (some v)) (fun r s' => ∃ c, r = some (.bool (!c)) ∧ Q (.bool (!c)) s') E s := by
      refine wpAny_bind (wpAny_call (codeAny_call_builtin slot_obj_ne.plain F.cmpEntry_ne (check_slot F.cmpKind_ne F.cmpSplit_ne (I.type.andThen (looks_mroIn X hm)) (F.cmpArgs_ne _ _) (wpAny_mono inner (fun fin s' z => ?_) fun _ _ e => e))))
      obtain ⟨c, rfl, hq⟩ := z
      exact wpAny_pure ⟨c, rfl, hq⟩
    split
    · exact wpAny_bind (wpAny_pure (wpAny_pure fin))
    · exact wpAny_tryCatch (wpAny_bind (wpAny_pure (wpAny_pure fin)))
  have one : wpAny (model prog w) A (tryCompare (.ref x) "__ne__" b) (fun r s' => ∃ c, r = some (.bool (!c)) ∧ Q (.bool (!c)) s') E s := by
    simp only [tryCompare]
    refine wpAny_bind (wpAny_mono mid (fun r s' ⟨c, er, hq⟩ => ?_) fun _ _ e => e)
    rw [er]
    exact wpAny_pure ⟨c, rfl, hq⟩
  unfold richCompare
  simp only [oneThing_ref]
  refine wpAny_holding (wpAny_bind (wpAny_cRoomFor (Nat.lt_of_succ_lt hu) (wpAny_bind (I.type.here (wpAny_bind (hb.here ?_))))))
  rw [cmpInfo_NotEq]
  dsimp only
  have last : wpAny (model prog w) A (tryCompare (.ref x) "__ne__" b) (fun r s' => ∃ c, r = some (.bool (!c)) ∧ Q (.bool (!c)) s') E s := one
  split
  · rename_i q
    have e : subIn K tb (.ref C) = some false := by
      rcases Bool.or_eq_true_iff.mp hn with e | e
      · rw [beq_iff_eq.mp e] at q; simp at q
      · exact beq_iff_eq.mp e
    refine wpAny_bind ((looks_subIn X e).here ?_)
    simp only [Bool.false_eq_true, if_false]
    refine wpAny_bind (wpAny_mono last (fun r s' ⟨c, er, hq⟩ => ?_) fun _ _ e => e)
    rw [er]
    exact wpAny_pure hq
  · refine wpAny_bind (wpAny_pure ?_)
    simp only [Bool.false_eq_true, if_false]
    refine wpAny_bind (wpAny_mono last (fun r s' ⟨c, er, hq⟩ => ?_) fun _ _ e => e)
    rw [er]
    exact wpAny_pure hq
end
/-! ### x == y by x's own __eq__ -/
def rEqO (K : PySem.W.Frag) (C : Addr) (sp : Sp) (E : XK) : R2 := fun x y H Q => ∃ (a dx : Addr) (fs : List (Str × V)) (b : Addr) (t : Value), x = .ref a ∧ y = .ref b ∧ H a = some (.ins C dx fs) ∧ TyX K H y t ∧ PySem.W.notFirst K C t = true ∧ sp [x, y] H Q E
section
variable {X : Cx}
theorem op_eqOwn {CX : CXT} {C g : Addr} {fd : FuncData} {ps : List Str} {sp : Sp} {E : XK} {n : Nat} (F : FnOk X.prog X.w X.K X.mg X.base CX n g fd ps sp) (hs : PySem.W.findIn X.K (.ref C) "__eq__" = some (some (.ref g))) (hf : PySem.W.isFn X.K (.ref g) = true) (hb : Binds X.K fd ps [])
    (hr : Room n X.A) (hx : Passes CX X E) : OpR X (compareOp .Eq) (rEqO X.K C sp E) := by
  intro pins s σ H x y v u Q I rx ry h
  obtain ⟨a, dx, fs, b, t, rfl, rfl, ha, ty, hn, q⟩ := h
  cases (show v = Value.ref a from rx)
  cases (show u = Value.ref b from ry)
  obtain ⟨mA, J, _⟩ := ins_get I.hok ha
  obtain ⟨od, J, _⟩ := J.look
  obtain ⟨P, Z, hp, hne⟩ := kit_of I (show RelV (.ref b) (Value.ref b) from rfl) ty
  obtain ⟨m, hF⟩ := I.fr
  have hl := F.len _ _ _ _ q
  have r2 : Vals [V.ref a, V.ref b] [Value.ref a, Value.ref b] := .cons rfl (.cons rfl .nil)
  refine PySem.W.cmp_K (op := .Eq) (tb := t) hr.units0 hF I.ok.mod.kin J (Z.ty _ _ I.kIn hp) hn hs hf ?_
  refine wpAny_mono (wpAny_call (run_fnR (us := [.ref a, .ref b]) (vs := [.ref a, .ref b]) (F.raw hb .nil) hr hx I r2 q)) (fun w s' z => ?_) fun _ _ x => x
  obtain ⟨z', H', I', rz, qz⟩ := z
  exact SlX.cmpback rz ⟨z', H', I', rz, qz⟩
/-- x != y -/
theorem op_neOwn {CX : CXT} {C g : Addr} {fd : FuncData} {ps : List Str} {sp : Sp} {E : XK} {n : Nat} (F : FnOk X.prog X.w X.K X.mg X.base CX n g fd ps sp) (hs : PySem.W.findIn X.K (.ref C) "__ne__" = some (some (.builtin "object.__ne__"))) (hm : PySem.W.mroIn X.K C (.type "object") = some true)
    (he : PySem.W.findIn X.K (.ref C) "__eq__" = some (some (.ref g))) (hf : PySem.W.isFn X.K (.ref g) = true) (hb : Binds X.K fd ps []) (hr : Room (n + 1) X.A) (hx : Passes CX X E) : OpR X (compareOp .NotEq) (fun x y H Q => ∃ (a dx : Addr) (fs : List (Str × V)) (b : Addr) (t : Value), x = .ref a ∧ y = .ref b ∧ H a = some (.ins C dx fs) ∧ TyX X.K H y t ∧ PySem.W.notFirst X.K C t = true ∧ sp [x, y] H (fun z H' => ∃ c, z = .bl c ∧ Q (.bl (!c)) H') E) := by
  intro pins s τ H x y v u Q I rx ry h
  obtain ⟨a, dx, fs, b, t, rfl, rfl, ha, ty, hn, q⟩ := h
  cases (show v = Value.ref a from rx)
  cases (show u = Value.ref b from ry)
  obtain ⟨mA, J, _⟩ := ins_get I.hok ha
  obtain ⟨od, J, _⟩ := J.look
  obtain ⟨P, Z, hp, hne⟩ := kit_of I (show RelV (.ref b) (Value.ref b) from rfl) ty
  obtain ⟨m, hF⟩ := I.fr
  have hl := F.len _ _ _ _ q
  have r2 : Vals [V.ref a, V.ref b] [Value.ref a, Value.ref b] := .cons rfl (.cons rfl .nil)
  have hu : X.A.units + 1 < cLine := by have := hr.un; omega
  refine ne_K (tb := t) hu hF I.ok.mod.kin J (Z.ty _ _ I.kIn hp) hn hm hs he hf ?_
  refine wpAny_call (codeAny_mono (F.run X.A.in1 X.stack s H ⟨[.ref a, .ref b], []⟩ [.ref a, .ref b] [.ref a, .ref b] _ E hr.in1 I.env0.in1 (hb s [.ref a, .ref b] I.kIn hl) r2 q) fun r s' hq => ?_)
  cases r with
  | error e => exact hx pins τ H s e s' I hq
  | ok fl =>
    cases fl with
    | ret u =>
      obtain ⟨z', H', I', rz, c, ez, qz⟩ := I.after hq
      subst ez
      cases (show u = Value.bool c from rz)
      exact ⟨c, rfl, .bl (!c), H', I', rfl, qz⟩
    | next => exact False.elim hq
    | brk => exact False.elim hq
    | cont => exact False.elim hq
end
end K7E
end
/-! ## P14 -/
section
open PySem PySem.Spec PyProof.Rows L2
namespace K7
abbrev N_Land___eq__ : List Str := ["self", "other"]
abbrev s_Land___eq__ : Stmt := inClass (topS 18) 1
theorem sc_Land___eq__ : FnScope ["self", "other"] ["self", "other"] (defScope s_Land___eq__) := ⟨rfl, rfl, rfl, by decide +kernel, rfl, by decide +kernel, by decide +kernel⟩
/-- what the top says of lands, once more -/
structure Tk (K : PySem.W.Frag) (C fE : Addr) : Prop where
  ha : PySem.W.findIn K (.ref C) "__class__" = some (some (.builtin "object.__class__"))
  hn : PySem.W.specialIn K (.builtin "object.__class__") "__get__" = some (some (.builtin "getset_descriptor.__get__"))
  ht : PySem.W.takesIn K (.builtin "object.__class__") = some true
  hm : PySem.W.mroIn K C (.type "object") = some true
  own : PySem.W.kitOne K (.ref C) (.ref C) = some true
  eq : PySem.W.findIn K (.ref C) "__eq__" = some (some (.ref fE))
  eqF : PySem.W.isFn K (.ref fE) = true
  ne : PySem.W.findIn K (.ref C) "__ne__" = some (some (.builtin "object.__ne__"))
theorem nfC (K : PySem.W.Frag) (C : Addr) : PySem.W.notFirst K C (.ref C) = true := by simp [PySem.W.notFirst]
theorem dec_and3 (a b c : Prop) [Decidable a] [Decidable b] [Decidable c] : decide (a ∧ b ∧ c) = (decide a && (decide b && decide c)) := by
  by_cases a <;> by_cases b <;> by_cases c <;> simp_all
section
variable {P : Program} {w : World} {K : PySem.W.Frag} {mg : Str → Option Value} {base : Heap} {a : AdL} {fE : Addr}
def spEqL (C : Addr) : Sp := fun vs H Q _ => ∃ (p q : Addr) (n : Nat) (es : List (Nat × Nat)) (rd : List Nat) (m : Nat) (fs : List (Nat × Nat)) (sd : List Nat), vs = [.ref p, .ref q] ∧ LandO C H p n es rd ∧ LandO C H q m fs sd ∧ Q (.bl (decide (n = m ∧ es = fs ∧ rd = sd))) H
theorem ok_eqL (T : Tl K mg a) (T2 : Tk K a.C fE) {f : Addr} {fd : FuncData} (F : Fun K "__eq__" "Land.__eq__" s_Land___eq__ f fd) (m_isinstance : mg "isinstance" = none) : FnOk P w K mg base CX0 1 f fd ["self", "other"] (spEqL a.C) := by
  refine F.ok sc_Land___eq__ (fun vs H Q E h => ?_) (fun cdv A outer s H vs Q E hr h => ?_)
  · obtain ⟨p, q, n, es, rd, m, fs, sd, rfl, _⟩ := h
    rfl
  · obtain ⟨p, q, n, es, rd, m, fs, sd, rfl, L, M, k⟩ := h
    refine ⟨_, (pss_one (ps_ret (pe_and (pe_callB call_isi (by rfl) m_isinstance boot_isinstance (pa_cons (pv 1) (pa_cons (pe_glob (v := .ref _) rfl T.gC rfl) pa_nil))) (pe_and (pe_cmpR op_eq (pe_fld (pv 0) rfl) (pe_fld (pv 1) rfl) (nomark _)) (pe_and (pe_cmpR (op_eqD hr.units) (pe_fld (pv 0) rfl) (pe_fld (pv 1) rfl) (nomark _)) (pe_one (pe_cmpR (op_eqD hr.units) (pe_fld (pv 0) rfl) (pe_fld (pv 1) rfl) (nomark _)))))))), ?_⟩
    obtain ⟨dx, an, ar, ay, ac, tn, ty, tc, h1, h2, h3, h4, _⟩ := L.at_
    obtain ⟨dx', an', ar', ay', ac', tn', ty', tc', g1, g2, g3, g4, _⟩ := M.at_
    rw [dec_and3] at k
    refine ⟨_, rfl, _, _, _, _, _, rfl, .own _, .base (.ins g1 T.cl T2.ha T2.hn T2.ht T2.hm), T2.own, true, rfl, ?_⟩
    have en : decide (V.int (n : Nat) = V.int (m : Nat)) = decide (n = m) := decide_eq_decide.mpr ⟨fun e => by injection e with e; omega, fun e => by rw [e]⟩
    have e1 : PyData.eqv (.tuple ((pairs es).map intD)) (.tuple ((pairs fs).map intD)) = decide (es = fs) := by rw [PyData.eqv, eqv_rows]
    refine ⟨.ref p, rfl, p, a.C, dx, _, _, rfl, h1, T.cl, T.nA _ (by decide), rfl, .ref q, rfl, q, a.C, dx', _, _, rfl, g1, T.cl, T.nA _ (by decide), rfl, rfl, _, rfl, ?_⟩
    rw [en]
    cases hn : decide (n = m) with
    | false =>
      rw [hn] at k
      exact k
    | true =>
      rw [hn] at k
      refine ⟨.ref p, rfl, p, a.C, dx, _, _, rfl, h1, T.cl, T.nA _ (by decide), rfl, .ref q, rfl, q, a.C, dx', _, _, rfl, g1, T.cl, T.nA _ (by decide), rfl, _, _, .tup (.inl (.inl h2)) (dp_rows h3), .tup (.inl (.inl g2)) (dp_rows g3), shapedT_rows _, shapedT_rows _, _, rfl, ?_⟩
      rw [e1]
      cases he : decide (es = fs) with
      | false =>
        rw [he] at k
        exact k
      | true =>
        rw [he] at k
        refine ⟨.ref p, rfl, p, a.C, dx, _, _, rfl, h1, T.cl, T.nA _ (by decide), rfl, .ref q, rfl, q, a.C, dx', _, _, rfl, g1, T.cl, T.nA _ (by decide), rfl, _, _, .tup (.inl (.inl h4)) (dp_ints rd), .tup (.inl (.inl g4)) (dp_ints sd), shaped_ints rd, shaped_ints sd, ?_⟩
        show Q (.bl (PyData.eqv (intD rd) (intD sd))) H
        rw [eqv_intD]
        exact k
/-! a new land -/
theorem new_landR {BL : Addr} {H1 : Hp} {G : VK} {E : XK} {cv nv rv : V} {x dx : Addr} (hx : H1 x = none) (hdx : H1 dx = none) (hne : dx ≠ x)
    (h : LandOr BL H1 cv nv rv E fun n cs lot => ∀ H' es rd, Same H1 H' → LandO a.C H' x n es rd → es.Perm (cs.map KL.srt) → rd.Perm lot → G .non H') : spLandR a BL (.ref x :: ([cv, nv, rv] ++ [])) (upd (upd H1 dx (.own x)) x (.ins a.C dx [])) G E := by
  have e : Same H1 (upd (upd H1 dx (.own x)) x (.ins a.C dx [])) := same_new (same_new (Same.refl H1) hdx) (by rw [upd_ne hne.symm]; exact hx)
  refine ⟨x, dx, cv, nv, rv, rfl, upd_same, h.same e fun n cs lot k H' es rd b L pe pr => ?_⟩
  exact k H' es rd (fun z o hz => b z o (ne_of_none hz hx) (e _ _ hz)) L pe pr
theorem es_is {n : Nat} {es cs : List (Nat × Nat)} (ok : LandOk n es) (p : es.Perm cs) (hs : cs.Pairwise KL.lexLe) : es = cs := KL.uniq KL.lex_anti p (ok.sorted.imp fun h => h) hs
theorem rd_is {rd lot : List Nat} (hr : rd.Pairwise (· ≤ ·)) (p : rd.Perm lot) (hs : lot.Pairwise (· ≤ ·)) : rd = lot := KL.uniq (fun a b (h1 : a ≤ b) (h2 : b ≤ a) => Nat.le_antisymm h1 h2) p hr hs
end
end K7
end
/-! ## TC -/
section
open PySem PySem.Spec PyProof.Rows L2
namespace K7T
/-! ### rows of digits -/
def dec : List Nat → Option (List Nat)
  | [] => some []
  | [_] => none
  | s :: c :: r => if s = 32 ∧ 48 ≤ c ∧ c ≤ 57 then (dec r).map fun l => (c - 48) :: l else none
def enc (ds : List Nat) : List Nat := ds.flatMap fun d => [32, 48 + d]
def digs (w row : List Nat) : Option (List Nat) := if row.take w.length = w then dec (row.drop w.length) else none
theorem enc_cons (d : Nat) (ds : List Nat) : enc (d :: ds) = 32 :: (48 + d) :: enc ds := rfl
theorem dec_enc : ∀ {ds : List Nat}, (∀ d ∈ ds, d < 10) → dec (enc ds) = some ds
  | [], _ => rfl
  | d :: ds, h => by
    have hd := h d (List.mem_cons_self ..)
    rw [enc_cons]
    show (if (32 : Nat) = 32 ∧ 48 ≤ 48 + d ∧ 48 + d ≤ 57 then (dec (enc ds)).map fun l => (48 + d - 48) :: l else none) = _
    rw [if_pos ⟨rfl, by omega, by omega⟩, dec_enc fun x hx => h x (List.mem_cons_of_mem _ hx)]
    show some ((48 + d - 48) :: ds) = some (d :: ds)
    rw [Nat.add_sub_cancel_left]
theorem enc_dec : ∀ {l ds : List Nat}, dec l = some ds → l = enc ds ∧ ∀ d ∈ ds, d < 10
  | [], ds, h => by
    cases h
    exact ⟨rfl, fun d hd => nomatch hd⟩
  | [_], ds, h => nomatch h
  | s :: c :: r, ds, h => by
    have h : (if s = 32 ∧ 48 ≤ c ∧ c ≤ 57 then (dec r).map fun l => (c - 48) :: l else none) = some ds := h
    by_cases hc : s = 32 ∧ 48 ≤ c ∧ c ≤ 57
    · rw [if_pos hc] at h
      obtain ⟨l, hl, rfl⟩ := Option.map_eq_some_iff.mp h
      obtain ⟨e, k⟩ := enc_dec hl
      refine ⟨?_, fun d hd => ?_⟩
      · rw [enc_cons, ← e, hc.1]
        congr 2
        omega
      · rcases List.mem_cons.mp hd with rfl | hd
        · omega
        · exact k d hd
    · rw [if_neg hc] at h
      cases h
theorem digs_enc {w row ds : List Nat} : digs w row = some ds ↔ row = w ++ enc ds ∧ ∀ d ∈ ds, d < 10 := by
  unfold digs
  constructor
  · intro h
    by_cases hw : row.take w.length = w
    · rw [if_pos hw] at h
      obtain ⟨e, k⟩ := enc_dec h
      exact ⟨by rw [← e]; conv => lhs; rw [← List.take_append_drop w.length row, hw], k⟩
    · rw [if_neg hw] at h
      cases h
  · rintro ⟨rfl, k⟩
    rw [if_pos List.take_left, List.drop_left]
    exact dec_enc k
/-! ### split and join back -/
theorem joinL_cons (s : Nat) (p : List Nat) : ∀ ps : List (List Nat), TL.joinL [s] (p :: ps) = p ++ ps.flatMap fun q => s :: q
  | [] => by rw [List.flatMap_nil, List.append_nil]; rfl
  | q :: ps => by
    show p ++ ([s] ++ TL.joinL [s] (q :: ps)) = _
    rw [joinL_cons s q ps, List.flatMap_cons]
    rfl
theorem spl_parts (s : Nat) : ∀ (l acc : List Nat), s ∉ acc → ∃ p ps, TL.spl [s] 0 acc l = p :: ps ∧ acc ++ l = p ++ (ps.flatMap fun q => s :: q) ∧ ∀ q ∈ p :: ps, s ∉ q
  | [], acc, h => ⟨acc, [], TL.spl_nil _ _ _, rfl, fun q hq => by rw [List.mem_singleton.mp hq]; exact h⟩
  | c :: r, acc, h => by
    by_cases hc : c = s
    · subst hc
      rw [TL.spl_hit (show TL.pre [c] (c :: r) = true from TL.pre_self [c] r)]
      obtain ⟨p, ps, e1, e2, e3⟩ := spl_parts c r [] (fun m => nomatch m)
      refine ⟨acc, p :: ps, by rw [show ([c] : List Nat).length - 1 = 0 from rfl, e1], ?_, fun q hq => ?_⟩
      · rw [List.flatMap_cons]
        rw [List.nil_append] at e2
        rw [e2]
        rfl
      · rcases List.mem_cons.mp hq with rfl | hq
        · exact h
        · exact e3 q hq
    · rw [TL.spl_miss (TL.pre_of_head [] r hc)]
      obtain ⟨p, ps, e1, e2, e3⟩ := spl_parts s r (acc ++ [c]) (fun m => (List.mem_append.mp m).elim h fun m => hc (List.mem_singleton.mp m).symm)
      exact ⟨p, ps, e1, by rw [← e2, List.append_assoc]; rfl, e3⟩
theorem join_spl (s : Nat) (l : List Nat) : TL.joinL [s] (TL.spl [s] 0 [] l) = l ∧ TL.spl [s] 0 [] l ≠ [] ∧ ∀ q ∈ TL.spl [s] 0 [] l, s ∉ q := by
  obtain ⟨p, ps, e1, e2, e3⟩ := spl_parts s l [] (fun m => nomatch m)
  rw [e1, joinL_cons, ← e2]
  exact ⟨rfl, by simp, e3⟩
theorem flat_len (s : Nat) {q : List Nat} : ∀ {ps : List (List Nat)}, q ∈ ps → q.length ≤ (ps.flatMap fun q => s :: q).length
  | p :: ps, h => by
    rw [List.flatMap_cons, List.length_append, List.length_cons]
    rcases List.mem_cons.mp h with rfl | h
    · omega
    · have := flat_len s h
      omega
theorem spl_len (s : Nat) {l q : List Nat} (h : q ∈ TL.spl [s] 0 [] l) : q.length ≤ l.length := by
  obtain ⟨p, ps, e1, e2, e3⟩ := spl_parts s l [] (fun m => nomatch m)
  rw [e1] at h
  rw [List.nil_append] at e2
  rw [e2, List.length_append]
  rcases List.mem_cons.mp h with rfl | h
  · omega
  · have := flat_len s h
    omega
theorem spl_flat (s : Nat) {p : List Nat} {ps : List (List Nat)} (h : ∀ q ∈ p :: ps, s ∉ q) : TL.spl [s] 0 [] (p ++ ps.flatMap fun q => s :: q) = p :: ps := by
  rw [← joinL_cons]
  exact TL.spl_join (by simp) h
/-! ### the program's way -/
def okD : List Nat → Bool
  | [c] => decide (48 ≤ c) && decide (c ≤ 57)
  | _ => false
def valD (p : List Nat) : Nat := p.headD 0 - 48
def progD (w : List Nat) : List (List Nat) → Option (List Nat)
  | [] => none
  | p :: ps => if p = w ∧ ps.all okD = true then some (ps.map valD) else none
theorem ok_is {p : List Nat} (h : okD p = true) : p = [48 + valD p] ∧ valD p < 10 := by
  match p, h with
  | [c], h =>
    obtain ⟨h1, h2⟩ := Bool.and_eq_true_iff.mp h
    have h1 := of_decide_eq_true h1
    have h2 := of_decide_eq_true h2
    refine ⟨?_, ?_⟩
    · show [c] = [48 + (c - 48)]
      congr 1
      omega
    · show c - 48 < 10
      omega
theorem enc_flat (ds : List Nat) : enc ds = (ds.map fun d => [48 + d]).flatMap fun q => 32 :: q := by
  induction ds with
  | nil => rfl
  | cons d ds ih => rw [enc_cons, ih]; rfl
theorem progD_digs {w : List Nat} (hw : 32 ∉ w) (row : List Nat) : progD w (TL.spl [32] 0 [] row) = digs w row := by
  obtain ⟨p, ps, e1, e2, e3⟩ := spl_parts 32 row [] (fun m => nomatch m)
  rw [List.nil_append] at e2
  rw [e1]
  show (if p = w ∧ ps.all okD = true then some (ps.map valD) else none) = _
  by_cases h : p = w ∧ ps.all okD = true
  · rw [if_pos h]
    refine (digs_enc.mpr ⟨?_, fun d hd => ?_⟩).symm
    · rw [enc_flat, List.map_map, e2, h.1]
      congr 2
      exact ((List.map_congr_left fun q hq => (ok_is (List.all_eq_true.mp h.2 q hq)).1.symm).trans (List.map_id ps)).symm
    · obtain ⟨q, hq, rfl⟩ := List.mem_map.mp hd
      exact (ok_is (List.all_eq_true.mp h.2 q hq)).2
  · rw [if_neg h]
    cases hd : digs w row with
    | none => rfl
    | some ds =>
      obtain ⟨k1, k2⟩ := digs_enc.mp hd
      rw [enc_flat] at k1
      have z := spl_flat 32 (p := w) (ps := ds.map fun d => [48 + d]) (fun q hq => by
        rcases List.mem_cons.mp hq with rfl | hq
        · exact hw
        · obtain ⟨d, hd, rfl⟩ := List.mem_map.mp hq
          intro m
          have := List.mem_singleton.mp m
          omega)
      rw [← k1, e1] at z
      injection z with z1 z2
      refine absurd ⟨z1, ?_⟩ h
      rw [z2]
      refine List.all_eq_true.mpr fun q hq => ?_
      obtain ⟨d, hd, rfl⟩ := List.mem_map.mp hq
      have := k2 d hd
      show (decide (48 ≤ 48 + d) && decide (48 + d ≤ 57)) = true
      rw [decide_eq_true (by omega), decide_eq_true (by omega)]
      rfl
/-! ### one sign -/
theorem ascii_one (c : Nat) : Txt.isascii (SX.S [c]) = decide (c < 128) := by
  show (#[c] : Array Nat).all (· < 128) = _
  simp
theorem digit_all : ∀ c : Fin 128, PySem.Unicode.isDigit c.val = (decide (48 ≤ c.val) && decide (c.val ≤ 57)) := by decide +kernel
theorem digit_one {c : Nat} (h : c < 128) : Txt.isdigit (SX.S [c]) = (decide (48 ≤ c) && decide (c ≤ 57)) := by
  show (decide ((SX.S [c]).length > 0) && (#[c] : Array Nat).all PySem.Unicode.isDigit) = _
  rw [← digit_all ⟨c, h⟩]
  simp [SX.S_len]
/-! ### couples of rows -/
def lexB (l a : Nat × Nat) : Bool := decide (l.1 < a.1) || (decide (l.1 = a.1) && decide (l.2 < a.2))
def afterB : Option (Nat × Nat) → Nat × Nat → Bool
  | none, _ => true
  | some l, a => lexB l a
/-- one row of a couple -/
def cpF (w : List Nat) (last : Option (Nat × Nat)) (row : List Nat) : Option (Nat × Nat) := match digs w row with
  | some [a, b] => if (decide (a < b) && afterB last (a, b)) = true then some (a, b) else none
  | _ => none
def clF (w row : List Nat) : Option Nat := match digs w row with
  | some [d] => some d
  | _ => none
def rdF (w row : List Nat) : Option (List Nat) := match digs w row with
  | some ds => if ds ≠ [] ∧ ds.Pairwise (· ≤ ·) then some ds else none
  | none => none
def cpl (w : List Nat) : Nat → Option (Nat × Nat) → List (List Nat) → Except Nat (List (Nat × Nat))
  | _, _, [] => .ok []
  | k, last, r :: rs => match cpF w last r with
    | some c => (cpl w (k + 1) (some c) rs).map fun l => c :: l
    | none => .error k
def lstL : Option (Nat × Nat) → List Nat
  | none => []
  | some (a, b) => [a, b]
end K7T
end
/-! ## EI -/
section
/-! sorted of a tuple, or of a list, of ints. -/
namespace K7S
open PySem PySem.Spec PyProof.Rows L2
section
variable {X : Cx}
def rSortN (K : PySem.W.Frag) : List V → Hp → VK → Prop := fun vs H Q => ∃ (a : Addr) (ns : List Int), vs = [V.ref a] ∧ (SqL K H a (ns.map V.int) ∨ SqT K H a (ns.map V.int)) ∧ ∀ (ms : List Int) (p : Addr), ms.Perm ns → ms.Pairwise (· ≤ ·) → H p = none → Q (.ref p) (upd H p (.lst (ms.map V.int)))
theorem cr_sortN : CallR X (.builtin "sorted") (rSortN X.K) := by
  intro pins s τ H vs us Q I r h
  obtain ⟨a, ns, rfl, hs, q⟩ := h
  rw [Vals.ref1 r]
  have got : ∃ (its : List Value) (o : Obj) (n : Nat) (T : String), Vals (ns.map V.int) its ∧ its.length ≤ sizeLine ∧ (T = "list" ∨ T = "tuple") ∧ s.heap.get? a = some o ∧ o.cls = .type T ∧ o.data = .seq its.toArray n := by
    rcases hs with z | z
    · obtain ⟨its, rv, pl, hz⟩ := I.list z
      obtain ⟨o, ho, hc, n, hd⟩ := pl.isList
      exact ⟨its, o, n, "list", rv, by rw [← rv.length]; exact hz, .inl rfl, ho, hc, hd⟩
    · obtain ⟨its, rv, ⟨o, ho, hc, n, hd⟩, hz⟩ := I.tuple z
      exact ⟨its, o, n, "tuple", rv, by rw [← rv.length]; exact hz, .inr rfl, ho, hc, hd⟩
  obtain ⟨its, o, n, T, rv, hz, hT, ho, hc, hd⟩ := got
  have hi := rv.ints
  refine Calls.call_function_entry kind_sorted plain_sorted entry_sorted (args_sorted1 _) ?_
  unfold Builtin.«sorted»
  refine wpAny_bind (m := checkCount "sorted" 1 1 _) (wpAny_pure (wpAny_bind (wpAny_collect_seq a hT ho hc hd (fun h' kp => ?_) (by rw [List.size_toArray]; exact hz))))
  have hoL : (h'.push (seqObj "list" its.toArray 0)).get? h'.objs.size = some (seqObj "list" its.toArray 0) := Heap.get?_push_size _ rfl
  refine wpAny_bind (wpAny_newList ?_ (by show its.length ≤ _; exact hz))
  show wpAny _ _ _ _ _ { s with heap := h'.push (seqObj "list" its.toArray 0) }
  refine wpAny_bind (wpAny_holding (wpAny_call_entry slot_list_sort ⟨_, hoL, rfl⟩ entry_list_sort (SrtO.list_sort_ord SrtO.swo_int hoL hz (fun h2 => SrtO.ints_sortable hi h2) fun out h1 h2 => ⟨_, rfl, wpAny_pure ⟨_, rfl, ?_⟩⟩) (args_list_sort _)))
  obtain ⟨a1, a2, a3⟩ := SrtO.ints_out hi h1 h2
  obtain ⟨e, he⟩ := sortedHeap_at (vs := its) (out := out.toArray) hoL
  have hlen : ((out.map SrtO.iv).map V.int).length ≤ sizeLine := by rw [List.length_map, a2.length_eq, ← hi.length]; exact hz
  have I1 : Inv X pins τ H { s with heap := h' } := I.kept (t' := s.toks) kp
  refine ⟨.ref h'.objs.size, upd H h'.objs.size (.lst ((out.map SrtO.iv).map V.int)), I1.laid (t' := s.toks) (fun b u hb => ?_) (Nat.le_refl _) ⟨hlen, out, e, vals_of_ints a1, he⟩, rfl, q _ _ a2 a3 (I1.hok.fresh (Nat.le_refl _))⟩
  have lt := Heap.lt_size hb
  exact (sortedHeap_old (Nat.ne_of_lt lt) (by rw [size_push']; exact Nat.lt_succ_of_lt lt)).trans (Heap.get?_push_of_some _ hb)
end
end K7S
end
/-! ## P15 -/
section
open PySem PySem.Spec PyProof.Rows L2
namespace K7
abbrev N_BadText___init__ : List Str := ["self", "row", "what"]
abbrev s_BadText___init__ : Stmt := inClass (topS 5) 0
theorem sc_BadText___init__ : FnScope ["self", "row", "what"] ["self", "row", "what"] (defScope s_BadText___init__) := ⟨rfl, rfl, rfl, by decide +kernel, rfl, by decide +kernel, by decide +kernel⟩
abbrev N__digits : List Str := ["word", "row", "parts", "part"]
abbrev s__digits : Stmt := topS 22
theorem sc__digits : FnScope ["word", "row", "parts", "part"] ["word", "row"] (defScope s__digits) := ⟨rfl, rfl, rfl, by decide +kernel, rfl, by decide +kernel, by decide +kernel⟩
section
variable {X : L2.Cx} {o : Expr} {to : TE}
theorem pe_isascii {apos pos : Pos} (ho : PE X o to) (hbase : attributeBase o "isascii" X.env (eval o X.env) = eval o X.env := by rfl) (hline : (apos.endLine == pos.line) = true := by rfl) :
    PE X (.Call (.Attribute o "isascii" apos) [] [] pos) (tM0 (fun x xs H Q => ∃ a, x = .str a ∧ xs = [] ∧ True ∧ Q (.bl (Txt.isascii a)) H) to) :=
  pe_m0 F.slot_str_isascii F.type_str_isascii mt_isascii ho hbase hline
theorem pe_isdigit {apos pos : Pos} (ho : PE X o to) (hbase : attributeBase o "isdigit" X.env (eval o X.env) = eval o X.env := by rfl) (hline : (apos.endLine == pos.line) = true := by rfl) :
    PE X (.Call (.Attribute o "isdigit" apos) [] [] pos) (tM0 (fun x xs H Q => ∃ a, x = .str a ∧ xs = [] ∧ True ∧ Q (.bl (Txt.isdigit a)) H) to) :=
  pe_m0 F.slot_str_isdigit F.type_str_isdigit mt_isdigit ho hbase hline
end
theorem al {H : Hp} {o : HO} {b : Addr} (nb : H b = none) : Same H (upd H b o) := same_new (Same.refl H) nb
theorem ints_len (l : List Nat) : (ints_ l).length = l.length := List.length_map ..
/-! ### BadText -/
structure Bx (K : PySem.W.Frag) (mg : Str → Option Value) (B iB : Addr) : Prop where
  g : mg "BadText" = some (.ref B)
  ox : OexC K B
  iC : PySem.W.findIn K (.ref B) "__init__" = some (some (.ref iB))
  tI : PySem.W.typeIn K (.ref iB) = some (.type "function")
  noR : PySem.W.findIn K (.ref B) "row" = some none
  noW : PySem.W.findIn K (.ref B) "what" = some none
/-- a BadText of this row and word is let fly -/
def FliesT (H : Hp) (B : Addr) (r w : V) (E : XK) : Prop := ∀ H' d, Same H H' → H d = none → H' d = some (.xd [("what", w), ("row", r)]) → E (.ref B) (some d) H'
theorem FliesT.later {H H1 : Hp} {B : Addr} {r w : V} {E : XK} (h : FliesT H B r w E) (e : Same H H1) : FliesT H1 B r w E := fun H' d e' n q => h H' d (e.trans e') (e.free n) q
def spX2 (C : Addr) : Sp := fun vs H Q _ => ∃ (e : Addr) (r y : V), vs = [.ref e, r, y] ∧ H e = some (exo e C none) ∧ ∀ d, H d = none → d ≠ e → Q .non (upd (upd (upd H d (exd d [("row", r)])) e (exo e C (some d))) d (exd d [("what", y), ("row", r)]))
section
variable {P : Program} {w : World} {K : PySem.W.Frag} {mg : Str → Option Value} {base : Heap} {a : AdL} {BT iT : Addr}
theorem ok_iT (T : Bx K mg BT iT) {f : Addr} {fd : FuncData} (F : Fun K "__init__" "BadText.__init__" s_BadText___init__ f fd) : FnOk P w K mg base (L2.CX P w) 1 f fd ["self", "row", "what"] (spX2 BT) := by
  refine F.okX sc_BadText___init__ (fun vs H Q E h => ?_) (fun cdv A outer s H vs Q E hr h => ?_)
  · obtain ⟨e, r, y, rfl, _⟩ := h
    rfl
  · obtain ⟨e, r, y, rfl, he, q⟩ := h
    refine ⟨_, (pss_cons (ps_ost (pv 0) (pv 1)) (pss_one (ps_ost (pv 0) (pv 2)))), ?_⟩
    refine ⟨r, rfl, .ref e, rfl, e, BT, rfl, T.ox, T.noR, .inl ⟨he, fun d hd hn => ?_⟩⟩
    refine ⟨y, rfl, .ref e, rfl, e, BT, rfl, T.ox, T.noW, .inr ⟨d, _, upd_same, by rw [upd_ne hn, upd_same], by show 1 ≤ 900; decide, ?_⟩⟩
    exact q d hd hn
theorem fliesT_go {H : Hp} {C : Addr} {r y : V} {E : XK} (h : FliesT H C r y E) :
    ∀ e, H e = none → spX2 C (.ref e :: ([r, y] ++ [])) (upd H e (exo e C none)) (fun v H2 => v = .non ∧ ∃ (d : Addr) (fs : List (Str × V)), H2 e = some (exo e C (some d)) ∧ H2 d = some (exd d fs) ∧ H d = none ∧ E (.ref C) (some d) (upd (del H2 e) d (.xd fs))) (fun _ _ _ => False) := by
  intro e he
  refine ⟨e, r, y, rfl, upd_same, fun d hd hne => ⟨rfl, d, _, by rw [upd_ne hne.symm, upd_same], upd_same, ?_, ?_⟩⟩
  · rw [upd_ne hne] at hd
    exact hd
  · rw [upd_ne hne] at hd
    refine h _ d (fun b o hb => ?_) hd upd_same
    have h1 : b ≠ d := ne_of_none hb hd
    have h2 : b ≠ e := ne_of_none hb he
    rw [upd_ne h1, del_ne h2, upd_ne h1, upd_ne h2, upd_ne h1, upd_ne h2]
    exact hb
/-! ### digits -/
theorem int_one {d : Nat} (h : d < 10) : PySem.intText? (SX.S [48 + d]) = some ((d : Nat) : Int) := by
  have e : SX.S [48 + d] = Str.ofString (toString ((d : Nat) : Int)) := by rw [SX.num_S, TL.numL_lt h]
  rw [e]
  exact TL.int_num (by rw [TL.numL_lt h]; show 1 ≤ 4300; decide)
theorem ok_str (x : Str) : K7T.okD (TL.tl x) = (decide (V.int (x.length : Nat) = V.int 1) && (Txt.isascii x && Txt.isdigit x)) := by
  rw [← TL.mk_tl x]
  match h : TL.tl x with
  | [] => rfl
  | [c] =>
    show (decide (48 ≤ c) && decide (c ≤ 57)) = (decide (V.int ((SX.S [c]).length : Nat) = V.int 1) && (Txt.isascii (SX.S [c]) && Txt.isdigit (SX.S [c])))
    rw [K7T.ascii_one, SX.S_len]
    by_cases hc : c < 128
    · rw [K7T.digit_one hc, decide_eq_true hc]
      rfl
    · rw [decide_eq_false hc, decide_eq_false (show ¬ c ≤ 57 by omega)]
      simp
  | c :: d :: l =>
    show false = (decide (V.int ((SX.S (c :: d :: l)).length : Nat) = V.int 1) && _)
    rw [SX.S_len, decide_eq_false (fun e => by injection e with e; simp at e; omega)]
    rfl
def spDig : Sp := fun vs H Q _ => ∃ (ws rs : Str), vs = [.str ws, .str rs] ∧ 32 ∉ TL.tl ws ∧ rs.length ≤ 100000 ∧ (K7T.digs (TL.tl ws) (TL.tl rs) = none → ∀ H', Same H H' → Q .non H') ∧
  ∀ ds, K7T.digs (TL.tl ws) (TL.tl rs) = some ds → ∀ H' u, Same H H' → H u = none → H' u = some (.tup (ints_ ds)) → Q (.ref u) H'
theorem ok_dig {f : Addr} {fd : FuncData} (F : Fun K "_digits" "_digits" s__digits f fd) (m_len : mg "len" = none) (m_all : mg "all" = none) (m_tuple : mg "tuple" = none) (m_int : mg "int" = none) : FnOk P w K mg base CX0 1 f fd ["word", "row"] spDig := by
  refine F.ok sc__digits (fun vs H Q E h => ?_) (fun cdv A outer s H vs Q E hr h => ?_)
  · obtain ⟨ws, rs, rfl, _⟩ := h
    rfl
  · obtain ⟨ws, rs, rfl, w32, rl, q0, q1⟩ := h
    refine ⟨_, (pss_cons (ps_set (i := 2) sc__digits.nd rfl (by first | exact Or.inl rfl | exact Or.inr rfl) (pe_bm PySem.F.plainAttrs_str PySem.F.slot_str_split PySem.F.type_str_split mt_split (pv 1) (pa_cons pe_str pa_nil)))
 (pss_cons (ps_if (pt_cmpR op_ne (pe_ix ix_list (pv 2) pe_int (fun _ _ => rfl)) (pv 0) (nomark _))
  (pss_one (ps_ret pe_non))
  pss_nil)
 (pss_cons (ps_if (pt_not (pt_val (pe_callB (cr_all rfl) (by rfl) m_all boot_all (pa_cons (pe_lc (own := [("part", 3)]) (g := gName 3) (tt := tYes) rfl sc__digits.nd (pi_list (pe_slice sl_list (pv 2) (po_some pe_int) po_none)) (blkOk_by (own := [("part", 3)]) (N := N__digits) (sc := defScope s__digits) (by decide +kernel)) (fun _ _ _ _ _ => (pg_name (i := 3) sc__digits.nd rfl (by first | exact Or.inl rfl | exact Or.inr rfl))) (fun _ _ _ _ _ => pts_nil) (fun _ _ _ _ _ => (pe_and (pe_cmpR op_eq (pe_callB call_len_str (by rfl) m_len boot_len (pa_cons (pv 3) pa_nil)) pe_int (nomark _)) (pe_and (pe_isascii (pv 3)) (pe_one (pe_isdigit (pv 3))))))) pa_nil))))
  (pss_one (ps_ret pe_non))
  pss_nil)
 (pss_one (ps_ret (pe_callTy call_tuple_of (by rfl) m_tuple boot_tuple (pa_cons (pe_lc (own := [("part", 3)]) (g := gName 3) (tt := tYes) rfl sc__digits.nd (pi_list (pe_slice sl_list (pv 2) (po_some pe_int) po_none)) (blkOk_by (own := [("part", 3)]) (N := N__digits) (sc := defScope s__digits) (by decide +kernel)) (fun _ _ _ _ _ => (pg_name (i := 3) sc__digits.nd rfl (by first | exact Or.inl rfl | exact Or.inr rfl))) (fun _ _ _ _ _ => pts_nil) (fun _ _ _ _ _ => (pe_callTy call_int_str (by rfl) m_int boot_int (pa_cons (pv 3) pa_nil)))) pa_nil))))))), ?_⟩
    have sp := TL.split_spl rs " " (by decide +kernel) (TL.kind_ok (by decide +kernel))
    rw [show TL.tl (" " : Str) = [32] from by decide +kernel] at sp
    have pd := K7T.progD_digs w32 (TL.tl rs)
    rw [← sp] at pd
    refine ⟨_, rfl, rfl, _, _, rfl, rfl, by decide +kernel, by rw [sizeLine_eq]; omega, fun p np => ?_⟩
    have e1 := al (o := .lst ((Txt.split rs " ").map V.str)) np
    have hp : upd H p (.lst ((Txt.split rs " ").map V.str)) p = some (.lst ((Txt.split rs " ").map V.str)) := upd_same
    have pl : (Txt.split rs " ").length ≤ rs.length + 2 := PyProof.Rows.split_le rs " "
    have ne : Txt.split rs " " ≠ [] := fun e => by
      rw [e] at sp
      exact (K7T.join_spl 32 (TL.tl rs)).2.1 sp.symm
    have lz : ∀ z ∈ Txt.split rs " ", z.length ≤ sizeLine := fun z hz => by
      have m : TL.tl z ∈ TL.spl [32] 0 [] (TL.tl rs) := by rw [← sp]; exact List.mem_map.mpr ⟨z, hz, rfl⟩
      have := K7T.spl_len 32 m
      rw [TL.len_tl, sizeLine_eq]
      rw [TL.len_tl] at rl
      omega
    generalize Txt.split rs " " = P' at pd hp e1 pl ne lz ⊢
    generalize upd H p (.lst (P'.map V.str)) = H1 at e1 hp ⊢
    cases P' with
    | nil => exact absurd rfl ne
    | cons x xs =>
      clear ne sp
      have pd : (if TL.tl x = TL.tl ws ∧ (xs.map TL.tl).all K7T.okD = true then some ((xs.map TL.tl).map K7T.valD) else none) = K7T.digs (TL.tl ws) (TL.tl rs) := pd
      have xl : xs.length ≤ 100002 := by
        rw [List.length_cons] at pl
        omega
      refine ⟨_, rfl, p, _, _, _, rfl, rfl, .inl (.inl hp), atI_nat (j := 0) rfl, _, rfl, rfl, _, rfl, ?_⟩
      by_cases hx : x = ws
      · subst hx
        rw [decide_eq_true rfl]
        refine iteFo rfl ?_
        have cut : cutV ((x :: xs).map V.str) (some 1) none = xs.map V.str := by
          unfold cutV
          rw [HT.sIx_none, show (some (1 : Int)) = some (((1 : Nat) : Int)) from rfl, HT.sIx_nat]
          rw [List.map_cons, List.length_cons, Nat.min_eq_left (by omega), List.drop_one, List.tail_cons]
          exact List.take_of_length_le (by omega)
        refine ⟨_, rfl, _, rfl, p, _, rfl, .inl (.inl hp), fun q nq => ?_⟩
        rw [cut]
        have e2 := al (o := .lst (xs.map V.str)) nq
        have hq : upd H1 q (.lst (xs.map V.str)) q = some (.lst (xs.map V.str)) := upd_same
        generalize upd H1 q (.lst (xs.map V.str)) = H2 at e2 hq ⊢
        refine ⟨q, rfl, ⟨_, .inl (.inl hq)⟩, fun D hD => lc_list (xs := xs.map V.str) (fun j H' => Same H2 H' ∧ H' D = some (.lst (((xs.take j).map fun z => K7T.okD (TL.tl z)).map V.bl))) ⟨al hD, upd_same⟩ (fun j H' _ pv => .inl (.inl (pv.1 _ _ hq))) (fun j y H' hy pv => ?_) (fun H' pv => ?_)⟩
        · obtain ⟨e3, hD3⟩ := pv
          rw [List.getElem?_map] at hy
          obtain ⟨z, hz, rfl⟩ := Option.map_eq_some_iff.mp hy
          have mz := List.mem_of_getElem? hz
          have fin : ∀ b, b = K7T.okD (TL.tl z) → ∃ acc, H' D = some (HO.lst acc) ∧ acc.length < sizeLine ∧ Same H2 (upd H' D (.lst (acc ++ [.bl b]))) ∧ upd H' D (.lst (acc ++ [.bl b])) D = some (.lst (((xs.take (j + 1)).map fun z => K7T.okD (TL.tl z)).map V.bl)) := fun b eb => by
            refine ⟨_, hD3, by rw [List.length_map, List.length_map, List.length_take, sizeLine_eq]; omega, fun b' o hb => ?_, ?_⟩
            · rw [upd_ne (ne_of_none hb hD)]
              exact e3 _ _ hb
            · rw [upd_same, List.take_add_one, hz, List.map_append, List.map_append, eb]
              rfl
          rw [ok_str] at fin
          refine ⟨rfl, _, rfl, z, rfl, lz z (List.mem_cons_of_mem _ mz), rfl, _, rfl, ?_⟩
          cases h1 : decide (V.int (z.length : Nat) = V.int 1) with
          | false =>
            rw [h1] at fin
            exact iteFo rfl (fin false rfl)
          | true =>
            rw [h1] at fin
            refine iteTo rfl ?_
            refine ⟨_, rfl, ⟨z, rfl⟩, z, rfl, rfl, trivial, _, rfl, ?_⟩
            cases h2 : Txt.isascii z with
            | false =>
              rw [h2] at fin
              exact iteFo rfl (fin false rfl)
            | true =>
              rw [h2] at fin
              refine iteTo rfl ?_
              exact ⟨_, rfl, ⟨z, rfl⟩, z, rfl, rfl, trivial, fin _ rfl⟩
        · obtain ⟨e3, hD3⟩ := pv
          rw [List.length_map, List.take_length] at hD3
          refine ⟨D, _, rfl, .inl (.inl hD3), _, rfl, ?_⟩
          have ea : ((xs.map fun z => K7T.okD (TL.tl z)).all id) = (xs.map TL.tl).all K7T.okD := by
            rw [List.all_map, List.all_map]
            rfl
          rw [ea]
          cases ha : (xs.map TL.tl).all K7T.okD with
          | false =>
            refine iteTo rfl (q0 ?_ _ ((e1.trans e2).trans e3))
            rw [if_neg (fun z => by rw [ha] at z; exact Bool.false_ne_true z.2)] at pd
            exact pd.symm
          | true =>
            refine iteFo rfl ?_
            rw [if_pos ⟨rfl, ha⟩] at pd
            have hp3 := e3 _ _ (e2 _ _ hp)
            refine ⟨_, rfl, _, rfl, p, _, rfl, .inl (.inl hp3), fun q' nq' => ?_⟩
            rw [cut]
            have e4 := al (o := .lst (xs.map V.str)) nq'
            have hq4 : upd H' q' (.lst (xs.map V.str)) q' = some (.lst (xs.map V.str)) := upd_same
            generalize upd H' q' (.lst (xs.map V.str)) = H4 at e4 hq4 ⊢
            refine ⟨q', rfl, ⟨_, .inl (.inl hq4)⟩, fun D2 hD2 => lc_list (xs := xs.map V.str) (fun j H5 => Same H4 H5 ∧ H5 D2 = some (.lst (ints_ ((xs.take j).map fun z => K7T.valD (TL.tl z))))) ⟨al hD2, upd_same⟩ (fun j H5 _ pv => .inl (.inl (pv.1 _ _ hq4))) (fun j y H5 hy pv => ?_) (fun H5 pv => ?_)⟩
            · obtain ⟨e5, hD5⟩ := pv
              rw [List.getElem?_map] at hy
              obtain ⟨z, hz, rfl⟩ := Option.map_eq_some_iff.mp hy
              have mz := List.mem_of_getElem? hz
              obtain ⟨k1, k2⟩ := K7T.ok_is (List.all_eq_true.mp ha _ (List.mem_map.mpr ⟨z, mz, rfl⟩))
              have ez : z = SX.S [48 + K7T.valD (TL.tl z)] := TL.ext_tl k1
              refine ⟨rfl, _, rfl, z, ((K7T.valD (TL.tl z) : Nat) : Int), rfl, ?_, ?_, ?_⟩
              · conv => lhs; rw [ez]
                exact int_one k2
              · rw [TL.len_tl, k1]
                show 1 ≤ 640
                decide
              · refine ⟨_, hD5, by rw [ints_len, List.length_map, List.length_take, sizeLine_eq]; omega, fun b' o hb => ?_, ?_⟩
                · rw [upd_ne (ne_of_none hb hD2)]
                  exact e5 _ _ hb
                · rw [upd_same, List.take_add_one, hz, List.map_append]
                  exact congrArg (fun x => some (HO.lst x)) (ints_snoc _ _).symm
            · obtain ⟨e5, hD5⟩ := pv
              rw [List.length_map, List.take_length] at hD5
              refine ⟨D2, _, rfl, .inl ⟨.inl (.inl hD5), fun u nu => ?_⟩⟩
              have e6 := al (o := .tup (ints_ (xs.map fun z => K7T.valD (TL.tl z)))) nu
              have ee := (((e1.trans e2).trans e3).trans e4).trans (e5.trans e6)
              refine q1 _ pd.symm _ u ee ((((e1.trans e2).trans e3).trans e4).trans e5 |>.free nu) ?_
              rw [upd_same, List.map_map]
              rfl
      · rw [decide_eq_false (fun e => hx (by injection e))]
        refine iteTo rfl (q0 ?_ _ e1)
        rw [if_neg (fun z => hx (TL.ext_tl z.1))] at pd
        exact pd.symm
end
end K7
end
/-! ## P16 -/
section
open PySem PySem.Spec PyProof.Rows L2
namespace K7
abbrev N__read_cells : List Str := ["row", "numbers"]
abbrev s__read_cells : Stmt := topS 23
theorem sc__read_cells : FnScope ["row", "numbers"] ["row"] (defScope s__read_cells) := ⟨rfl, rfl, rfl, by decide +kernel, rfl, by decide +kernel, by decide +kernel⟩
abbrev N__read_roads : List Str := ["row", "roads"]
abbrev s__read_roads : Stmt := topS 24
theorem sc__read_roads : FnScope ["row", "roads"] ["row"] (defScope s__read_roads) := ⟨rfl, rfl, rfl, by decide +kernel, rfl, by decide +kernel, by decide +kernel⟩
abbrev N__read_next : List Str := ["row", "last", "couple"]
abbrev s__read_next : Stmt := topS 25
theorem sc__read_next : FnScope ["row", "last", "couple"] ["row", "last"] (defScope s__read_next) := ⟨rfl, rfl, rfl, by decide +kernel, rfl, by decide +kernel, by decide +kernel⟩
abbrev N__checked : List Str := ["part", "row"]
abbrev s__checked : Stmt := topS 26
theorem sc__checked : FnScope ["part", "row"] ["part", "row"] (defScope s__checked) := ⟨rfl, rfl, rfl, by decide +kernel, rfl, by decide +kernel, by decide +kernel⟩
def cellsW : List Nat := [99, 101, 108, 108, 115]
def roadsW : List Nat := [114, 111, 97, 100, 115]
def nextW : List Nat := [110, 101, 120, 116]
theorem tl_words : TL.tl "cells" = cellsW ∧ TL.tl "roads" = roadsW ∧ TL.tl "next" = nextW := by decide +kernel
theorem w32s : 32 ∉ cellsW ∧ 32 ∉ roadsW ∧ 32 ∉ nextW := by decide
theorem len_int (k n : Nat) : decide (V.int (k : Nat) = V.int (n : Nat)) = decide (k = n) := decide_eq_decide.mpr ⟨fun h => by injection h with h; omega, fun h => by rw [h]⟩
theorem lexAt_two (a b c d : Nat) : Ob.lexAt (fun j => decide (([(a : Int), (b : Int)] : List Int).getD j 0 = ([(c : Int), (d : Int)] : List Int).getD j 0)) (fun j => decide (([(a : Int), (b : Int)] : List Int).getD j 0 ≤ ([(c : Int), (d : Int)] : List Int).getD j 0)) (decide (2 ≤ 2)) 0 (min 2 2) = !K7T.lexB (c, d) (a, b) := by
  show (if decide ((a : Int) = (c : Int)) = true then (if decide ((b : Int) = (d : Int)) = true then decide (2 ≤ 2) else decide ((b : Int) ≤ (d : Int))) else decide ((a : Int) ≤ (c : Int))) = !(decide (c < a) || (decide (c = a) && decide (d < b)))
  by_cases h1 : a = c
  · subst h1
    by_cases h2 : b = d
    · subst h2
      simp
    · rw [if_pos (decide_eq_true rfl), if_neg (by intro e; exact h2 (by have := of_decide_eq_true e; omega))]
      rw [decide_eq_false (show ¬ a < a by omega), decide_eq_true (show a = a from rfl), Bool.false_or, Bool.true_and, ← decide_not]
      exact decide_eq_decide.mpr ⟨fun h => by omega, fun h => by omega⟩
  · rw [if_neg (by intro e; exact h1 (by have := of_decide_eq_true e; omega))]
    rw [decide_eq_false (show ¬ c = a by omega), Bool.false_and, Bool.or_false, ← decide_not]
    exact decide_eq_decide.mpr ⟨fun h => by omega, fun h => by omega⟩
theorem shapedL_ints (l : List Nat) : SeqAt.shaped (.list (l.map fun c => PyData.int (c : Nat))) = true := by
  have z : ((PyData.canLay0 (intD l)) && decide (PyData.depth (intD l) ≤ 64)) = true := shaped_ints l
  show ((PyData.canLay0 (.list (l.map fun c => PyData.int (c : Nat)))) && decide (PyData.depth (.list (l.map fun c => PyData.int (c : Nat))) ≤ 64)) = true
  unfold intD at z
  simpa [PyData.canLay0, PyData.depth] using z
section
variable {P : Program} {w : World} {K : PySem.W.Frag} {mg : Str → Option Value} {base : Heap} {a : AdL} {BT iT : Addr}
def spRc : Sp := fun vs H Q _ => ∃ rs : Str, vs = [.str rs] ∧ rs.length ≤ 100000 ∧ ∀ H', Same H H' → Q (match K7T.clF cellsW (TL.tl rs) with | some d => .int (d : Nat) | none => .non) H'
theorem ok_rc {f fdg : Addr} {fd fddg : FuncData} (F : Fun K "_read_cells" "_read_cells" s__read_cells f fd)
    (Gdg : FnOk P w K mg base CX0 1 fdg fddg ["word", "row"] spDig) (gdg : mg "_digits" = some (.ref fdg)) (kdg : PySem.W.keepIn K (.ref fdg) = true) (bdg : Binds K fddg ["word", "row"] []) (m_len : mg "len" = none) : FnOk P w K mg base CX0 2 f fd ["row"] spRc := by
  refine F.ok sc__read_cells (fun vs H Q E h => ?_) (fun cdv A outer s H vs Q E hr h => ?_)
  · obtain ⟨rs, rfl, _⟩ := h
    rfl
  · obtain ⟨rs, rfl, rl, q⟩ := h
    refine ⟨_, (pss_cons (ps_set (i := 1) sc__read_cells.nd rfl (by first | exact Or.inl rfl | exact Or.inr rfl) (pe_call Gdg (hr.mono (by decide)) (by rfl) gdg kdg bdg .nil pass0 (pa_cons pe_str (pa_cons (pv 0) pa_nil))))
 (pss_cons (ps_if (pw_or (pt_cmpR op_isN (pv 1) pe_non (nomark _)) (pw_or1 (pt_cmpR op_ne (pe_callB call_len_seq (by rfl) m_len boot_len (pa_cons (pv 1) pa_nil)) pe_int (nomark _)))).pt
  (pss_one (ps_ret pe_non))
  pss_nil)
 (pss_one (ps_ret (pe_ix ix_tup (pv 1) pe_int (fun _ _ => rfl)))))), ?_⟩
    unfold K7T.clF at q
    refine ⟨_, rfl, "cells", rs, rfl, by rw [tl_words.1]; exact w32s.1, rl, fun hn H1 e1 => ?_, fun ds hd H1 u e1 nu hu => ?_⟩
    · rw [tl_words.1] at hn
      rw [hn] at q
      exact ⟨_, rfl, rfl, _, rfl, iteTo rfl (iteTo rfl (q _ e1))⟩
    · rw [tl_words.1] at hd
      rw [hd] at q
      refine ⟨_, rfl, rfl, _, rfl, iteFo rfl ?_⟩
      refine ⟨_, rfl, u, _, rfl, .inr (.inl (.inl hu)), rfl, _, rfl, ?_⟩
      rw [ints_len, show V.int 1 = V.int ((1 : Nat) : Nat) from rfl, len_int]
      match ds, hu, q with
      | [], hu, q => exact iteTo rfl (q _ e1)
      | [d], hu, q => exact iteFo rfl ⟨_, rfl, u, _, _, _, rfl, rfl, .inl (.inl hu), atI_nat (j := 0) rfl, q _ e1⟩
      | _ :: _ :: _, hu, q => 
        rw [decide_eq_false (by simp)]
        exact iteTo rfl (q _ e1)
def spRr : Sp := fun vs H Q _ => ∃ rs : Str, vs = [.str rs] ∧ rs.length ≤ 100000 ∧ (K7T.rdF roadsW (TL.tl rs) = none → ∀ H', Same H H' → Q .non H') ∧ ∀ ds, K7T.rdF roadsW (TL.tl rs) = some ds → ∀ H' u, Same H H' → H u = none → H' u = some (.tup (ints_ ds)) → Q (.ref u) H'
theorem ok_rr {f fdg : Addr} {fd fddg : FuncData} (F : Fun K "_read_roads" "_read_roads" s__read_roads f fd)
    (Gdg : FnOk P w K mg base CX0 1 fdg fddg ["word", "row"] spDig) (gdg : mg "_digits" = some (.ref fdg)) (kdg : PySem.W.keepIn K (.ref fdg) = true) (bdg : Binds K fddg ["word", "row"] []) (m_len : mg "len" = none) (m_list : mg "list" = none) (m_sorted : mg "sorted" = none) : FnOk P w K mg base CX0 2 f fd ["row"] spRr := by
  refine F.ok sc__read_roads (fun vs H Q E h => ?_) (fun cdv A outer s H vs Q E hr h => ?_)
  · obtain ⟨rs, rfl, _⟩ := h
    rfl
  · obtain ⟨rs, rfl, rl, q0, q1⟩ := h
    refine ⟨_, (pss_cons (ps_set (i := 1) sc__read_roads.nd rfl (by first | exact Or.inl rfl | exact Or.inr rfl) (pe_call Gdg (hr.mono (by decide)) (by rfl) gdg kdg bdg .nil pass0 (pa_cons pe_str (pa_cons (pv 0) pa_nil))))
 (pss_cons (ps_if (pw_or (pt_cmpR op_isN (pv 1) pe_non (nomark _)) (pw_or (pt_cmpR op_eq (pe_callB call_len_seq (by rfl) m_len boot_len (pa_cons (pv 1) pa_nil)) pe_int (nomark _)) (pw_or1 (pt_cmpR (op_neD hr.units) (pe_callTy call_list_of (by rfl) m_list boot_list (pa_cons (pv 1) pa_nil)) (pe_callB K7S.cr_sortN (by rfl) m_sorted boot_sorted (pa_cons (pv 1) pa_nil)) (nomark _))))).pt
  (pss_one (ps_ret pe_non))
  pss_nil)
 (pss_one (ps_ret (pv 1))))), ?_⟩
    unfold K7T.rdF at q0 q1
    refine ⟨_, rfl, "roads", rs, rfl, by rw [tl_words.2.1]; exact w32s.2.1, rl, fun hn H1 e1 => ?_, fun ds hd H1 u e1 nu hu => ?_⟩
    · rw [tl_words.2.1] at hn
      rw [hn] at q0
      exact ⟨_, rfl, rfl, _, rfl, iteTo rfl (iteTo rfl (q0 rfl _ e1))⟩
    · rw [tl_words.2.1] at hd
      rw [hd] at q0 q1
      refine ⟨_, rfl, rfl, _, rfl, iteFo rfl ?_⟩
      refine ⟨_, rfl, u, _, rfl, .inr (.inl (.inl hu)), rfl, _, rfl, ?_⟩
      rw [ints_len, show V.int 0 = V.int ((0 : Nat) : Nat) from rfl, len_int]
      by_cases hz : ds = []
      · subst hz
        exact iteTo rfl (iteTo rfl (q0 (if_neg fun z => z.1 rfl) _ e1))
      rw [decide_eq_false (fun e => hz (List.length_eq_zero_iff.mp e))]
      refine iteFo rfl ?_
      refine ⟨_, rfl, u, _, rfl, .inr (.inl (.inl hu)), fun p np => ?_⟩
      have e2 := al (o := .lst (ints_ ds)) np
      have hp : upd H1 p (.lst (ints_ ds)) p = some (.lst (ints_ ds)) := upd_same
      have hu2 := e2 _ _ hu
      generalize upd H1 p (.lst (ints_ ds)) = H2 at e2 hp hu2 ⊢
      refine ⟨_, rfl, u, ds.map (fun c => ((c : Nat) : Int)), rfl, .inr (by rw [← ints_map]; exact .inl (.inl hu2)), fun ms p2 pm so np2 => ?_⟩
      have ems := ints_back pm
      have e12 : ms.map V.int = ints_ (ms.map Int.toNat) := by rw [ints_map, ← ems]
      rw [e12]
      have prd : (ms.map Int.toNat).Perm ds := by
        have z := pm.map Int.toNat
        rw [List.map_map] at z
        exact z.trans (List.Perm.of_eq ((List.map_congr_left fun c _ => rfl).trans (List.map_id ds)))
      have srd : (ms.map Int.toNat).Pairwise (· ≤ ·) := by
        rw [List.pairwise_map]
        exact so.imp fun {a b} h => by omega
      generalize ms.map Int.toNat = rd at prd srd ⊢
      have e3 := al (o := .lst (ints_ rd)) np2
      have hp3 : upd H2 p2 (.lst (ints_ rd)) p2 = some (.lst (ints_ rd)) := upd_same
      refine ⟨_, _, .lst (.inl (.inl (e3 _ _ hp))) (dp_ints ds), .lst (.inl (.inl hp3)) (dp_ints rd), shapedL_ints ds, shapedL_ints rd, _, rfl, ?_⟩
      rw [PyData.eqv, eqv_ints]
      have eq : ds = rd ↔ ds.Pairwise (· ≤ ·) := ⟨fun e => by rw [e]; exact srd, fun h => KL.uniq (fun a b (h1 : a ≤ b) (h2 : b ≤ a) => Nat.le_antisymm h1 h2) prd.symm h srd⟩
      have e123 := (e1.trans e2).trans e3
      by_cases hs : ds.Pairwise (· ≤ ·)
      · rw [decide_eq_true (eq.mpr hs)]
        exact iteFo rfl ⟨_, rfl, q1 _ (if_pos ⟨hz, hs⟩) _ u e123 nu (e3 _ _ hu2)⟩
      · rw [decide_eq_false (fun e => hs (eq.mp e))]
        exact iteTo rfl (q0 (if_neg fun z => hs z.2) _ e123)
def spRn : Sp := fun vs H Q _ => ∃ (rs : Str) (la : Addr) (last : Option (Nat × Nat)), vs = [.str rs, .ref la] ∧ rs.length ≤ 100000 ∧ H la = some (.tup (ints_ (K7T.lstL last))) ∧ (K7T.cpF nextW last (TL.tl rs) = none → ∀ H', Same H H' → Q .non H') ∧
  ∀ c, K7T.cpF nextW last (TL.tl rs) = some c → ∀ H' u, Same H H' → H u = none → H' u = some (.tup (ints_ [c.1, c.2])) → Q (.ref u) H'
theorem ok_rn {f fdg : Addr} {fd fddg : FuncData} (F : Fun K "_read_next" "_read_next" s__read_next f fd)
    (Gdg : FnOk P w K mg base CX0 1 fdg fddg ["word", "row"] spDig) (gdg : mg "_digits" = some (.ref fdg)) (kdg : PySem.W.keepIn K (.ref fdg) = true) (bdg : Binds K fddg ["word", "row"] []) (m_len : mg "len" = none) : FnOk P w K mg base CX0 2 f fd ["row", "last"] spRn := by
  refine F.ok sc__read_next (fun vs H Q E h => ?_) (fun cdv A outer s H vs Q E hr h => ?_)
  · obtain ⟨rs, la, last, rfl, _⟩ := h
    rfl
  · obtain ⟨rs, la, last, rfl, rl, hla, q0, q1⟩ := h
    refine ⟨_, (pss_cons (ps_set (i := 2) sc__read_next.nd rfl (by first | exact Or.inl rfl | exact Or.inr rfl) (pe_call Gdg (hr.mono (by decide)) (by rfl) gdg kdg bdg .nil pass0 (pa_cons pe_str (pa_cons (pv 0) pa_nil))))
 (pss_cons (ps_if (pw_or (pt_cmpR op_isN (pv 2) pe_non (nomark _)) (pw_or (pt_cmpR op_ne (pe_callB call_len_seq (by rfl) m_len boot_len (pa_cons (pv 2) pa_nil)) pe_int (nomark _)) (pw_or (pt_cmpR op_ge (pe_ix ix_tup (pv 2) pe_int (fun _ _ => rfl)) (pe_ix ix_tup (pv 2) pe_int (fun _ _ => rfl)) (nomark _)) (pw_or1 (pt_cmpR (op_leT (Nat.lt_of_le_of_lt (Nat.le_add_right _ _) hr.units)) (pv 2) (pv 1) (nomark _)))))).pt
  (pss_one (ps_ret pe_non))
  pss_nil)
 (pss_one (ps_ret (pv 2))))), ?_⟩
    unfold K7T.cpF at q0 q1
    refine ⟨_, rfl, "next", rs, rfl, by rw [tl_words.2.2]; exact w32s.2.2, rl, fun hn H1 e1 => ?_, fun ds hd H1 u e1 nu hu => ?_⟩
    · rw [tl_words.2.2] at hn
      rw [hn] at q0
      exact ⟨_, rfl, rfl, _, rfl, iteTo rfl (iteTo rfl (q0 rfl _ e1))⟩
    · rw [tl_words.2.2] at hd
      rw [hd] at q0 q1
      refine ⟨_, rfl, rfl, _, rfl, iteFo rfl ?_⟩
      refine ⟨_, rfl, u, _, rfl, .inr (.inl (.inl hu)), rfl, _, rfl, ?_⟩
      rw [ints_len, show V.int 2 = V.int ((2 : Nat) : Nat) from rfl, len_int]
      match ds, hu, q0, q1 with
      | [], hu, q0, q1 => exact iteTo rfl (iteTo rfl (q0 rfl _ e1))
      | [_], hu, q0, q1 => exact iteTo rfl (iteTo rfl (q0 rfl _ e1))
      | _ :: _ :: _ :: _, hu, q0, q1 =>
        rw [decide_eq_false (by simp)]
        exact iteTo rfl (iteTo rfl (q0 rfl _ e1))
      | [x, y], hu, q0, q1 =>
        refine iteFo rfl ?_
        refine ⟨_, rfl, u, _, _, _, rfl, rfl, .inl (.inl hu), atI_nat (j := 0) rfl, _, rfl, u, _, _, _, rfl, rfl, .inl (.inl hu), atI_nat (j := 1) rfl, ?_⟩
        have q0 : (if (decide (x < y) && K7T.afterB last (x, y)) = true then some (x, y) else none) = none → ∀ H', Same H H' → Q .non H' := q0
        have q1 : ∀ c, (if (decide (x < y) && K7T.afterB last (x, y)) = true then some (x, y) else none) = some c → ∀ H' u, Same H H' → H u = none → H' u = some (.tup (ints_ [c.1, c.2])) → Q (.ref u) H' := q1
        refine ⟨_, _, rfl, rfl, _, rfl, ?_⟩
        by_cases hxy : x < y
        · rw [decide_eq_false (show ¬ ((x : Nat) : Int) ≥ ((y : Nat) : Int) by omega)]
          refine iteFo rfl ?_
          rw [decide_eq_true hxy, Bool.true_and] at q0 q1
          have fin : ∀ b, b = !K7T.afterB last (x, y) → ∀ {A B : Prop}, (Q .non H1 → A) → (Q (.ref u) H1 → B) → if b = true then A else B := fun b eb A B iA iB => by
            cases ha : K7T.afterB last (x, y) with
            | true =>
              rw [ha] at eb
              rw [eb]
              exact iteFo rfl (iB (q1 (x, y) (by rw [ha]; rfl) _ u e1 nu hu))
            | false =>
              rw [ha] at eb
              rw [eb]
              exact iteTo rfl (iA (q0 (by rw [ha]; rfl) _ e1))
          match last, hla, fin with
          | none, hla, fin =>
            refine ⟨_, rfl, _, rfl, u, la, [(x : Int), (y : Int)], [], rfl, rfl, .inl (.inl hu), .inl (.inl (e1 _ _ hla)), _, rfl, ?_⟩
            exact fin _ rfl id fun z => ⟨_, rfl, z⟩
          | some (c, d), hla, fin =>
            refine ⟨_, rfl, _, rfl, u, la, [(x : Int), (y : Int)], [(c : Int), (d : Int)], rfl, rfl, .inl (.inl hu), .inl (.inl (e1 _ _ hla)), _, rfl, ?_⟩
            exact fin _ (lexAt_two x y c d) id fun z => ⟨_, rfl, z⟩
        · rw [decide_eq_true (show ((x : Nat) : Int) ≥ ((y : Nat) : Int) by omega)]
          rw [decide_eq_false hxy, Bool.false_and] at q0
          exact iteTo rfl (iteTo rfl (q0 rfl _ e1))
def spChk (B : Addr) : Sp := fun vs H Q E => ∃ (x r : V), vs = [x, r] ∧ (x = .non → FliesT H B r (.str "row") E) ∧ (x ≠ .non → Q x H)
theorem ok_chk (TX : Bx K mg BT iT) {f : Addr} {fd fdE : FuncData} (F : Fun K "_checked" "_checked" s__checked f fd) (FB0 : Fun K "__init__" "BadText.__init__" s_BadText___init__ iT fdE) (bB : Binds K fdE ["self", "row", "what"] []) : FnOk P w K mg base (L2.CX P w) 3 f fd ["part", "row"] (spChk BT) := by
  have FB : FnOk P w K mg base (L2.CX P w) 1 iT fdE ["self", "row", "what"] (spX2 BT) := ok_iT TX FB0
  refine F.okX sc__checked (fun vs H Q E h => ?_) (fun cdv A outer s H vs Q E hr h => ?_)
  · obtain ⟨x, r, rfl, _⟩ := h
    rfl
  · obtain ⟨x, r, rfl, q0, q1⟩ := h
    have hrx : Room (1 + 1) _ := hr.mono (by decide)
    refine ⟨_, (pss_cons (ps_if (pt_cmpR op_isN (pv 0) pe_non (nomark _))
  (pss_one (ps_raise rfl (takes_of rfl rfl rfl rfl) (pmk_oex TX.ox TX.iC TX.tI FB hrx bB .nil passL (by rfl) TX.g (pa_cons (pv 1) (pa_cons pe_str pa_nil)))))
  pss_nil)
 (pss_one (ps_ret (pv 0)))), ?_⟩
    refine ⟨_, rfl, rfl, _, rfl, ?_⟩
    by_cases hx : x = .non
    · rw [decide_eq_true hx]
      exact iteTo rfl ⟨_, rfl, by show 2 ≤ 1000; decide, fliesT_go (q0 hx)⟩
    · rw [decide_eq_false hx]
      exact iteFo rfl ⟨_, rfl, q1 hx⟩
end
end K7
end
/-! ## P17 -/
section
open PySem PySem.Spec PyProof.Rows L2
namespace K7
/-! ### a land's text is read -/
theorem co_lit {H : Hp} {ts : List Addr} {cs : List (Nat × Nat)} (h : TAt H ts (pairs cs)) : CoAll H ts cs := by
  refine ⟨by rw [h.len]; unfold pairs; rw [List.length_map], fun i t c ht hc => ?_⟩
  obtain ⟨l, el, hl⟩ := h.get ht
  unfold pairs at el
  rw [List.getElem?_map, hc] at el
  obtain rfl := Option.some.inj el
  exact .inl hl
def readT : List (List Nat) → Except Nat (Nat × List (Nat × Nat) × List Nat)
  | [] => .error 0
  | r0 :: rest => match K7T.clF cellsW r0 with
    | none => .error 0
    | some n => match rest with
      | [] => .error 1
      | r1 :: rs => match K7T.rdF roadsW r1 with
        | none => .error 1
        | some ds => (K7T.cpl nextW 2 none rs).map fun cs => (n, cs, ds)
def lexS (a b : Nat × Nat) : Prop := a.1 < b.1 ∨ (a.1 = b.1 ∧ a.2 < b.2)
theorem cpF_is {w row : List Nat} {last : Option (Nat × Nat)} {c : Nat × Nat} (h : K7T.cpF w last row = some c) : row = w ++ K7T.enc [c.1, c.2] ∧ c.1 < c.2 ∧ c.2 < 10 ∧ ∀ l, last = some l → lexS l c := by
  unfold K7T.cpF at h
  split at h
  · rename_i x y hd
    split at h
    · rename_i hb
      obtain rfl := Option.some.inj h
      obtain ⟨h1, h2⟩ := Bool.and_eq_true_iff.mp hb
      obtain ⟨k1, k2⟩ := K7T.digs_enc.mp hd
      refine ⟨k1, of_decide_eq_true h1, k2 y (by simp), fun l hl => ?_⟩
      subst hl
      have h2 : K7T.lexB l (x, y) = true := h2
      unfold K7T.lexB at h2
      rcases Bool.or_eq_true_iff.mp h2 with z | z
      · exact .inl (of_decide_eq_true z)
      · obtain ⟨z1, z2⟩ := Bool.and_eq_true_iff.mp z
        exact .inr ⟨of_decide_eq_true z1, of_decide_eq_true z2⟩
    · cases h
  · cases h
theorem cpl_is {w : List Nat} : ∀ {rs : List (List Nat)} {k : Nat} {last : Option (Nat × Nat)} {cs : List (Nat × Nat)}, K7T.cpl w k last rs = .ok cs → rs = cs.map (fun c => w ++ K7T.enc [c.1, c.2]) ∧ (∀ c ∈ cs, c.1 < c.2 ∧ c.2 < 10) ∧ cs.Pairwise lexS ∧ ∀ l, last = some l → ∀ c ∈ cs, lexS l c
  | [], k, last, cs, h => by
    cases h
    exact ⟨rfl, fun c hc => (nomatch hc), .nil, fun l _ c hc => (nomatch hc)⟩
  | r :: rs, k, last, cs, h => by
    have h : (match K7T.cpF w last r with | some c => (K7T.cpl w (k + 1) (some c) rs).map fun l => c :: l | none => .error k) = Except.ok cs := h
    cases hc : K7T.cpF w last r with
    | none => rw [hc] at h; cases h
    | some c =>
      rw [hc] at h
      have h : (K7T.cpl w (k + 1) (some c) rs).map (fun l => c :: l) = Except.ok cs := h
      obtain ⟨k1, k2, k3, k4⟩ := cpF_is hc
      cases hr : K7T.cpl w (k + 1) (some c) rs with
      | error e => rw [hr] at h; cases h
      | ok l =>
        rw [hr] at h
        cases h
        obtain ⟨g1, g2, g3, g4⟩ := cpl_is hr
        refine ⟨by rw [List.map_cons, ← g1, ← k1], fun d hd => ?_, List.pairwise_cons.mpr ⟨g4 c rfl, g3⟩, fun l hl d hd => ?_⟩
        · rcases List.mem_cons.mp hd with rfl | hd
          · exact ⟨k2, k3⟩
          · exact g2 d hd
        · rcases List.mem_cons.mp hd with rfl | hd
          · exact k4 l hl
          · have z1 := k4 l hl
            have z2 := g4 c rfl d hd
            unfold lexS at *
            omega
/-- what makes a land of what was read -/
structure LandG (n : Nat) (cs : List (Nat × Nat)) (ds : List Nat) : Prop where
  n2 : 2 ≤ n
  n5 : n ≤ 5
  cn : ∀ c ∈ cs, c.2 < n
  dn : ∀ d ∈ ds, d < n
  nd : ds.Nodup
  ln : ds.length < n
  con : KL.Conn n cs
/-- what was read is in order -/
structure Rd6 (n : Nat) (cs : List (Nat × Nat)) (ds : List Nat) : Prop where
  n9 : n < 10
  cl : ∀ c ∈ cs, c.1 < c.2 ∧ c.2 < 10
  cs : cs.Pairwise lexS
  d0 : ds ≠ []
  ds : ds.Pairwise (· ≤ ·)
theorem lexS_ne {a b : Nat × Nat} (h : lexS a b) : a ≠ b := by
  rintro rfl
  unfold lexS at h
  omega
theorem srt_same {cs : List (Nat × Nat)} (h : ∀ c ∈ cs, c.1 < c.2 ∧ c.2 < 10) : cs.map KL.srt = cs := (List.map_congr_left fun c hc => KL.srt_of (h c hc).1).trans (List.map_id cs)
theorem two_off {n : Nat} {c : Nat × Nat} (h : ¬ c.2 < n) : twoV (n : Nat) (ints_ [c.1, c.2]) = false := by
  unfold twoV cellsV
  have e2 : wholeV (.int (c.2 : Nat)) 0 (((n : Nat) : Int) - 1) = false := by rw [wholeV_int, decide_eq_false (show ¬ ((c.2 : Nat) : Int) ≤ ((n : Nat) : Int) - 1 by omega), Bool.and_false]
  have e3 : (ints_ [c.1, c.2]).all (fun x => wholeV x 0 (((n : Nat) : Int) - 1)) = false := by
    show (wholeV (.int (c.1 : Nat)) 0 (((n : Nat) : Int) - 1) && (wholeV (.int (c.2 : Nat)) 0 (((n : Nat) : Int) - 1) && true)) = false
    rw [e2, Bool.false_and, Bool.and_false]
  rw [e3, Bool.and_false, Bool.false_and, Bool.false_and]
theorem read_land {BL : Addr} {H : Hp} {E : XK} {q : Nat → List (Nat × Nat) → List Nat → Prop} {n : Nat} {cs : List (Nat × Nat)} {ds : List Nat} {us : List Addr} {an ar : Addr} (R : Rd6 n cs ds) (c32 : cs.length ≤ 32) (d64 : ds.length < 64) (ha : H an = some (.lst (us.map V.ref))) (hu : TAt H us (pairs cs)) (hr : H ar = some (.tup (ints_ ds)))
    (bad : ¬ LandG n cs ds → ∀ s, Flies H BL "what" (.str s) E) (good : LandG n cs ds → q n cs ds) : LandOr BL H (.int (n : Nat)) (.ref an) (.ref ar) E q := by
  refine ⟨.flat (.int _), ?_⟩
  by_cases hn : 2 ≤ n ∧ n ≤ 5
  · refine .inr ⟨n, rfl, hn.1, hn.2, ?_⟩
    have ul : us.length = cs.length := by rw [hu.len]; unfold pairs; rw [List.length_map]
    by_cases hc : ∀ c ∈ cs, c.2 < n
    · refine .inr ⟨an, us, cs, rfl, .inr ha, co_lit hu, ⟨fun c m => ?_, ?_, c32⟩, ?_⟩
      · have := R.cl c m
        have := hc c m
        exact ⟨by omega, by omega, by omega⟩
      · rw [srt_same R.cl]
        exact R.cs.imp fun h => lexS_ne h
      by_cases hd : (∀ d ∈ ds, d < n) ∧ ds.Nodup ∧ ds.length ≠ n
      · have ln : ds.length < n := by
          have z := K7E.nodup_le ds (List.range n) hd.2.1 fun x hx => List.mem_range.mpr (hd.1 x hx)
          rw [List.length_range] at z
          omega
        refine .inr ⟨ar, ds, rfl, .inl hr, hd.1, hd.2.1, by cases ds with | nil => exact absurd rfl R.d0 | cons _ _ => exact Nat.succ_pos _, ln, ?_⟩
        by_cases con : KL.Conn n cs
        · exact .inr ⟨con, good ⟨hn.1, hn.2, hc, hd.1, hd.2.1, ln, con⟩⟩
        · exact .inl ⟨con, bad (fun g => con g.con) _⟩
      · have k := RdV.row (n := n) (H := H) (.inl hr) (fun y hy => by obtain ⟨d, _, rfl⟩ := List.mem_map.mp hy; exact .flat (.int _)) (by rw [ints_len]; exact d64)
        refine .inl ⟨?_, bad (fun g => hd ⟨g.dn, g.nd, by have := g.ln; omega⟩) _⟩
        rw [show (cellsV (n : Nat) (ints_ ds) 1 && !decide ((ints_ ds).length = n)) = false from ?_] at k
        · exact k
        · cases hv : cellsV (n : Nat) (ints_ ds) 1 with
          | false => rfl
          | true =>
            unfold cellsV at hv
            obtain ⟨v1, v3⟩ := Bool.and_eq_true_iff.mp hv
            obtain ⟨v1, v2⟩ := Bool.and_eq_true_iff.mp v1
            have dn : ∀ d ∈ ds, d < n := fun d m => by
              have z := List.all_eq_true.mp v2 (.int (d : Nat)) (List.mem_map.mpr ⟨d, m, rfl⟩)
              rw [wholeV_int] at z
              have z := of_decide_eq_true (Bool.and_eq_true_iff.mp z).2
              omega
            have nd : ds.Nodup := by
              have z := of_decide_eq_true v3
              unfold ints_ at z
              rw [List.map_map, List.nodup_iff_pairwise_ne, List.pairwise_map] at z
              exact z.imp fun {a b} ne e => ne (by rw [e])
            have : ds.length = n := by
              by_cases z : ds.length = n
              · exact z
              · exact absurd ⟨dn, nd, z⟩ hd
            rw [ints_len, decide_eq_true this]
            rfl
    · refine .inl ⟨?_, bad (fun g => hc g.cn) _⟩
      refine .row (vs := us.map V.ref) (bs := cs.map fun c => twoV (n : Nat) (ints_ [c.1, c.2])) (.inr ha) (by rw [List.length_map, ul]; exact c32) (by rw [List.length_map, List.length_map, ul]) (fun i y hy => ?_) ?_
      · rw [List.getElem?_map] at hy
        obtain ⟨u, hu', rfl⟩ := Option.map_eq_some_iff.mp hy
        have hi : i < cs.length := by rw [← ul]; exact (List.getElem?_eq_some_iff.mp hu').1
        have hco := (co_lit hu).2 i u _ hu' (List.getElem?_eq_getElem hi)
        exact ⟨_, by rw [List.getElem?_map, List.getElem?_eq_getElem hi]; rfl, .row hco (fun z hz => by obtain ⟨k, _, rfl⟩ := List.mem_map.mp hz; exact .flat (.int _)) (by show 2 < 64; decide)⟩
      · rw [List.all_map, List.all_eq_false]
        obtain ⟨c, hc⟩ := Classical.not_forall.mp hc
        obtain ⟨m, hc⟩ := Classical.not_imp.mp hc
        refine ⟨c, m, ?_⟩
        show ¬ (twoV (n : Nat) (ints_ [c.1, c.2])) = true
        rw [two_off hc]
        decide
  · refine .inl ⟨?_, bad (fun g => hn ⟨g.n2, g.n5⟩) _⟩
    rw [wholeV_int]
    by_cases h2 : 2 ≤ n
    · rw [decide_eq_false (show ¬ ((n : Nat) : Int) ≤ 5 by omega), Bool.and_false]
    · rw [decide_eq_false (show ¬ (2 : Int) ≤ ((n : Nat) : Int) by omega), Bool.false_and]
end K7
end
/-! ## P18 -/
section
open PySem PySem.Spec PyProof.Rows L2
namespace K7
abbrev N_parse_land : List Str := ["text", "rows", "cells", "roads", "neighbours", "last", "k"]
abbrev s_parse_land : Stmt := topS 27
theorem sc_parse_land : FnScope ["text", "rows", "cells", "roads", "neighbours", "last", "k"] ["text"] (defScope s_parse_land) := ⟨rfl, rfl, rfl, by decide +kernel, rfl, by decide +kernel, by decide +kernel⟩
theorem readT_is {rows : List (List Nat)} {n : Nat} {cs : List (Nat × Nat)} {ds : List Nat} (h : readT rows = .ok (n, cs, ds)) : Rd6 n cs ds ∧ rows = (cellsW ++ K7T.enc [n]) :: (roadsW ++ K7T.enc ds) :: cs.map (fun c => nextW ++ K7T.enc [c.1, c.2]) := by
  match rows, h with
  | r0 :: rest, h =>
    have h : (match K7T.clF cellsW r0 with | none => .error 0 | some n => match rest with | [] => .error 1 | r1 :: rs => match K7T.rdF roadsW r1 with | none => .error 1 | some ds => (K7T.cpl nextW 2 none rs).map fun cs => (n, cs, ds)) = Except.ok (n, cs, ds) := h
    cases h0 : K7T.clF cellsW r0 with
    | none => rw [h0] at h; cases h
    | some m =>
      rw [h0] at h
      match rest, h with
      | r1 :: rs, h =>
        have h : (match K7T.rdF roadsW r1 with | none => .error 1 | some ds => (K7T.cpl nextW 2 none rs).map fun cs => (m, cs, ds)) = Except.ok (n, cs, ds) := h
        cases h1 : K7T.rdF roadsW r1 with
        | none => rw [h1] at h; cases h
        | some d =>
          rw [h1] at h
          have h : (K7T.cpl nextW 2 none rs).map (fun cs => (m, cs, d)) = Except.ok (n, cs, ds) := h
          cases h2 : K7T.cpl nextW 2 none rs with
          | error e => rw [h2] at h; cases h
          | ok l =>
            rw [h2] at h
            cases h
            obtain ⟨g1, g2, g3, g4⟩ := cpl_is h2
            have k0 : r0 = cellsW ++ K7T.enc [n] ∧ n < 10 := by
              unfold K7T.clF at h0
              split at h0
              · rename_i x hx
                obtain rfl := Option.some.inj h0
                obtain ⟨a1, a2⟩ := K7T.digs_enc.mp hx
                exact ⟨a1, a2 _ (by simp)⟩
              · cases h0
            have k1 : r1 = roadsW ++ K7T.enc ds ∧ ds ≠ [] ∧ ds.Pairwise (· ≤ ·) := by
              unfold K7T.rdF at h1
              split at h1
              · rename_i x hx
                split at h1
                · rename_i hp
                  obtain rfl := Option.some.inj h1
                  exact ⟨(K7T.digs_enc.mp hx).1, hp⟩
                · cases h1
              · cases h1
            exact ⟨⟨k0.2, g2, g3, k1.2.1, k1.2.2⟩, by rw [k0.1, k1.1, g1]⟩
theorem cpl_step {w : List Nat} {k : Nat} {last : Option (Nat × Nat)} {rs : List (List Nat)} {j : Nat} {row : List Nat} (h : rs[j]? = some row) : K7T.cpl w k last (rs.drop j) = match K7T.cpF w last row with | some c => (K7T.cpl w (k + 1) (some c) (rs.drop (j + 1))).map fun l => c :: l | none => .error k := by
  have hj := (List.getElem?_eq_some_iff.mp h).1
  rw [List.drop_eq_getElem_cons hj]
  have e : rs[j] = row := (List.getElem?_eq_some_iff.mp h).2
  rw [e]
  rfl
section
variable {P : Program} {w : World} {K : PySem.W.Frag} {mg : Str → Option Value} {base : Heap} {a : AdL} {BT iT BL iL : Addr}
theorem ok_iTH (T : Bx K mg BT iT) {fd : FuncData} (F : Fun K "__init__" "BadText.__init__" s_BadText___init__ iT fd) : L2H.FnH P w K mg base (L2.CX P w) 1 iT fd ["self", "row", "what"] (spX2 BT) := by
  refine K7N.okH F sc_BadText___init__ (fun vs H Q E h => ?_) (fun cdv A outer s H vs Q E p hr h => ?_)
  · obtain ⟨e, r, y, rfl, _⟩ := h
    rfl
  · obtain ⟨e, r, y, rfl, he, q⟩ := h
    refine ⟨_, (pss_cons (ps_ost (pv 0) (pv 1)) (pss_one (ps_ost (pv 0) (pv 2)))), ?_⟩
    refine ⟨r, rfl, .ref e, rfl, e, BT, rfl, T.ox, T.noR, .inl ⟨he, fun d hd hn => ?_⟩⟩
    refine ⟨y, rfl, .ref e, rfl, e, BT, rfl, T.ox, T.noW, .inr ⟨d, _, upd_same, by rw [upd_ne hn, upd_same], by show 1 ≤ 900; decide, ?_⟩⟩
    exact q d hd hn
/-- what is no text -/
def NoTxt (K : PySem.W.Frag) (H : Hp) (v : V) : Prop := ∃ t : String, (∀ H1, Same H H1 → TyX K H1 v (.type t)) ∧ PySem.W.kitOne K (.type t) (.type "str") = some false
def spPl (a : AdL) (B : Addr) (K : PySem.W.Frag) : Sp := fun vs H Q E => ∃ v : V, vs = [v] ∧ ((NoTxt K H v ∧ FliesT H B (.int 0) (.str "text") E) ∨ ∃ ts : Str, v = .str ts ∧ ts.length ≤ 1000 ∧
  (∀ n cs ds, readT (TL.spl [10] 0 [] (TL.tl ts)) = .ok (n, cs, ds) → cs.length ≤ 32 ∧ ds.length < 64) ∧
  (∀ k, readT (TL.spl [10] 0 [] (TL.tl ts)) = .error k → FliesT H B (.int (k : Nat)) (.str "row") E) ∧
  (∀ n cs ds, readT (TL.spl [10] 0 [] (TL.tl ts)) = .ok (n, cs, ds) → ¬ LandG n cs ds → FliesT H B (.int 0) (.str "land") E) ∧
  (∀ n cs ds, readT (TL.spl [10] 0 [] (TL.tl ts)) = .ok (n, cs, ds) → LandG n cs ds → ∀ H' p, Same H H' → H p = none → LandO a.C H' p n cs ds → Q (.ref p) H'))
theorem ok_pl (T : Tl K mg a) (TX : Bx K mg BT iT) (TBL : Bl K mg BL iL) (mBL : PySem.W.exmOne K (.ref BL) (.ref BL) = some true) {f frc frr frn fck fI : Addr} {fd fdrc fdrr fdrn fdck fdI fdE : FuncData} (F : Fun K "parse_land" "parse_land" s_parse_land f fd)
    (Grc : FnOk P w K mg base CX0 2 frc fdrc ["row"] spRc) (grc : mg "_read_cells" = some (.ref frc)) (krc : PySem.W.keepIn K (.ref frc) = true) (brc : Binds K fdrc ["row"] [])
    (Grr : FnOk P w K mg base CX0 2 frr fdrr ["row"] spRr) (grr : mg "_read_roads" = some (.ref frr)) (krr : PySem.W.keepIn K (.ref frr) = true) (brr : Binds K fdrr ["row"] [])
    (Grn : FnOk P w K mg base CX0 2 frn fdrn ["row", "last"] spRn) (grn : mg "_read_next" = some (.ref frn)) (krn : PySem.W.keepIn K (.ref frn) = true) (brn : Binds K fdrn ["row", "last"] [])
    (Gck : FnOk P w K mg base (L2.CX P w) 3 fck fdck ["part", "row"] (spChk BT)) (gck : mg "_checked" = some (.ref fck)) (kck : PySem.W.keepIn K (.ref fck) = true) (bck : Binds K fdck ["part", "row"] [])
    (MC : Mk K a.C fI) (GI : FnOk P w K mg base (L2N.CX P w) 5 fI fdI ["self", "cells", "neighbours", "roads"] (spLandR a BL)) (bI : Binds K fdI ["self", "cells", "neighbours", "roads"] [])
    (FB0 : Fun K "__init__" "BadText.__init__" s_BadText___init__ iT fdE) (bB : Binds K fdE ["self", "row", "what"] []) (m_isinstance : mg "isinstance" = none) (m_str : mg "str" = none) (m_len : mg "len" = none) (m_range : mg "range" = none) : FnOk P w K mg base (L2.CX P w) 7 f fd ["text"] (spPl a BT K) := by
  have FB : FnOk P w K mg base (L2.CX P w) 1 iT fdE ["self", "row", "what"] (spX2 BT) := ok_iT TX FB0
  have FH : L2H.FnH P w K mg base (L2.CX P w) 1 iT fdE ["self", "row", "what"] (spX2 BT) := ok_iTH TX FB0
  refine F.okX sc_parse_land (fun vs H Q E h => ?_) (fun cdv A outer s H vs Q E hr h => ?_)
  · obtain ⟨v, rfl, _⟩ := h
    rfl
  · obtain ⟨v, rfl, h⟩ := h
    have hrx : Room (1 + 1) _ := hr.mono (by decide)
    refine ⟨_, (pss_cons (ps_if (pt_not (pt_val (pe_callB call_isi (by rfl) m_isinstance boot_isinstance (pa_cons (pv 0) (pa_cons (pe_bltn (v := .ty "str") (by rfl) m_str boot_str rfl) pa_nil)))))
  (pss_one (ps_raise rfl (takes_of rfl rfl rfl rfl) (pmk_oex TX.ox TX.iC TX.tI FB hrx bB .nil passL (by rfl) TX.g (pa_cons pe_int (pa_cons pe_str pa_nil)))))
  pss_nil)
 (pss_cons (ps_set (i := 1) sc_parse_land.nd rfl (by first | exact Or.inl rfl | exact Or.inr rfl) (pe_bm PySem.F.plainAttrs_str PySem.F.slot_str_split PySem.F.type_str_split mt_split (pv 0) (pa_cons pe_str pa_nil)))
 (pss_cons (ps_set (i := 2) sc_parse_land.nd rfl (by first | exact Or.inl rfl | exact Or.inr rfl) (pe_call Gck (hr.mono (by decide)) (by rfl) gck kck bck .nil (passes_call (E := E) (takes_of rfl rfl rfl rfl) (fun _ _ _ _ h => h)) (pa_cons (pe_call Grc (hr.mono (by decide)) (by rfl) grc krc brc .nil pass0 (pa_cons (pe_ix ix_list (pv 1) pe_int (fun _ _ => rfl)) pa_nil)) (pa_cons pe_int pa_nil))))
 (pss_cons (ps_set (i := 3) sc_parse_land.nd rfl (by first | exact Or.inl rfl | exact Or.inr rfl) (pe_call Gck (hr.mono (by decide)) (by rfl) gck kck bck .nil (passes_call (E := E) (takes_of rfl rfl rfl rfl) (fun _ _ _ _ h => h)) (pa_cons (pe_ifExp (pt_cmpR op_gt (pe_callB call_len_seq (by rfl) m_len boot_len (pa_cons (pv 1) pa_nil)) pe_int (nomark _)) (pe_call Grr (hr.mono (by decide)) (by rfl) grr krr brr .nil pass0 (pa_cons (pe_ix ix_list (pv 1) pe_int (fun _ _ => rfl)) pa_nil)) pe_non) (pa_cons pe_int pa_nil))))
 (pss_cons (ps_set (i := 4) sc_parse_land.nd rfl (by first | exact Or.inl rfl | exact Or.inr rfl) (pe_lst pa_nil))
 (pss_cons (ps_set (i := 5) sc_parse_land.nd rfl (by first | exact Or.inl rfl | exact Or.inr rfl) (pe_tup pa_nil))
 (pss_cons (ps_for (passes_of rfl) rfl (pi_range2 rfl m_range (pa_cons pe_int (pa_cons (pe_callB call_len_seq (by rfl) m_len boot_len (pa_cons (pv 1) pa_nil)) pa_nil))) (pg_name (i := 6) sc_parse_land.nd rfl (by first | exact Or.inl rfl | exact Or.inr rfl))
  (pss_cons (ps_set (i := 5) sc_parse_land.nd rfl (by first | exact Or.inl rfl | exact Or.inr rfl) (pe_call Gck (hr.mono (by decide)) (by rfl) gck kck bck .nil (passes_call (E := E) (takes_of rfl rfl rfl rfl) (fun _ _ _ _ h => h)) (pa_cons (pe_call Grn (hr.mono (by decide)) (by rfl) grn krn brn .nil pass0 (pa_cons (pe_ix ix_list (pv 1) (pv 6) (fun _ _ => rfl)) (pa_cons (pv 5) pa_nil))) (pa_cons (pv 6) pa_nil))))
 (pss_one (ps_expr (pe_bm PySem.F.plainAttrs_list PySem.F.slot_list_append PySem.F.type_list_append mt_append (pv 4) (pa_cons (pv 5) pa_nil))))))
 (pss_one (L2H.ps_try_onlyX rfl rfl ⟨rfl, by decide, .inl TBL.g⟩ (L2H.passesAt_of rfl) (takes_of rfl rfl rfl rfl) (fun W pn xe tkN tkP _ => (pss_one (ps_ret (K7N.pe_makeN MC GI (hr.mono (by decide)) (by rfl) T.gC bI .nil tkN (pa_cons (pv 2) (pa_cons (pv 4) (pa_cons (pv 3) pa_nil))))))) (fun b oe cls d pn hz hf tkS hot => (pss_one (L2H.ps_raiseHN hot tkS (L2H.pmk5_oexH TX.ox TX.iC TX.tI FH (L2H.roomH_mark hrx _) hot bB passL (by rfl) TX.g (pa_cons pe_int (pa_cons pe_str pa_nil))))))))))))))), ?_⟩
    rcases h with ⟨⟨t, ty, kk⟩, fl⟩ | ⟨ts, rfl, tl1, bnd, fe, fb, q⟩
    · refine ⟨_, rfl, _, _, _, _, _, rfl, .ty _, ty _ (Same.refl H), kk, false, rfl, ?_⟩
      exact iteTo rfl ⟨by show 2 ≤ 1000; decide, fliesT_go fl⟩
    · refine ⟨_, rfl, _, _, _, _, _, rfl, .ty _, .base (.str _), kit_ty (by decide +kernel), true, rfl, ?_⟩
      refine iteFo rfl ?_
      have sp := TL.split_spl ts "\n" (by decide +kernel) (TL.kind_ok (by decide +kernel))
      rw [show TL.tl ("\n" : Str) = [10] from by decide +kernel] at sp
      rw [← sp] at bnd fe fb q
      refine ⟨_, rfl, rfl, _, _, rfl, rfl, by decide +kernel, by rw [sizeLine_eq]; omega, fun p np => ?_⟩
      have e1 := al (o := .lst ((Txt.split ts "\n").map V.str)) np
      have hp : upd H p (.lst ((Txt.split ts "\n").map V.str)) p = some (.lst ((Txt.split ts "\n").map V.str)) := upd_same
      have pl : (Txt.split ts "\n").length ≤ ts.length + 2 := PyProof.Rows.split_le ts "\n"
      have ne : Txt.split ts "\n" ≠ [] := fun e => by
        rw [e] at sp
        exact (K7T.join_spl 10 (TL.tl ts)).2.1 sp.symm
      have lz : ∀ z ∈ Txt.split ts "\n", z.length ≤ 100000 := fun z hz => by
        have m : TL.tl z ∈ TL.spl [10] 0 [] (TL.tl ts) := by rw [← sp]; exact List.mem_map.mpr ⟨z, hz, rfl⟩
        have := K7T.spl_len 10 m
        rw [TL.len_tl]
        rw [TL.len_tl] at tl1
        omega
      clear sp
      generalize Txt.split ts "\n" = P' at bnd fe fb q hp e1 pl ne lz ⊢
      generalize upd H p (.lst (P'.map V.str)) = H1 at e1 hp ⊢
      match P', bnd, fe, fb, q, hp, pl, ne, lz with
      | x :: xs, bnd, fe, fb, q, hp, pl, ne, lz =>
        refine ⟨_, rfl, p, _, _, _, rfl, rfl, .inl (.inl hp), atI_nat (j := 0) rfl, x, rfl, lz x (List.mem_cons_self ..), fun H2 e2 => ?_⟩
        have e12 := e1.trans e2
        have hp2 := e2 _ _ hp
        cases hcl : K7T.clF cellsW (TL.tl x) with
        | none => exact ⟨_, _, rfl, fun _ => (fe 0 (by show (match K7T.clF cellsW (TL.tl x) with | none => _ | some n => _) = _; rw [hcl])).later e12, fun h => absurd rfl h⟩
        | some n =>
          refine ⟨_, _, rfl, fun h => absurd (show V.int (n : Nat) = V.non from h) (fun e => by cases e), fun _ => ?_⟩
          refine ⟨_, rfl, p, _, rfl, .inl (.inl (.inl hp2)), _, _, rfl, rfl, _, rfl, ?_⟩
          match xs, bnd, fe, fb, q, hp2, pl, lz with
          | [], bnd, fe, fb, q, hp2, pl, lz =>
            refine iteFo rfl ?_
            exact ⟨_, _, rfl, fun _ => (fe 1 (by show (match K7T.clF cellsW (TL.tl x) with | none => _ | some n => _) = _; rw [hcl]; rfl)).later e12, fun h => absurd rfl h⟩
          | y :: ys, bnd, fe, fb, q, hp2, pl, lz =>
            refine iteTo (decide_eq_true (by show (1 : Int) < (((x :: y :: ys).map V.str).length : Nat); rw [List.length_map, List.length_cons, List.length_cons]; omega)) ?_
            have yl := lz y (by simp)
            have rT : readT ((x :: y :: ys).map TL.tl) = match K7T.rdF roadsW (TL.tl y) with | none => .error 1 | some ds => (K7T.cpl nextW 2 none (ys.map TL.tl)).map fun cs => (n, cs, ds) := by
              show (match K7T.clF cellsW (TL.tl x) with | none => _ | some n => _) = _
              rw [hcl]
              rfl
            refine ⟨_, rfl, p, _, _, _, rfl, rfl, .inl (.inl hp2), atI_nat (j := 1) rfl, y, rfl, yl, fun hn H3 e3 => ?_, fun ds hd H3 u e3 nu hu => ?_⟩
            · exact ⟨_, _, rfl, fun _ => (fe 1 (by rw [rT, hn])).later (e12.trans e3), fun h => absurd rfl h⟩
            · refine ⟨_, _, rfl, fun h => (by cases h), fun _ => ?_⟩
              have e13 := e12.trans e3
              have hp3 := e3 _ _ hp2
              refine ⟨by show 0 ≤ sizeLine; decide, fun N nN => ?_⟩
              have e4 := al (o := .lst []) nN
              have hN4 : upd H3 N (.lst []) N = some (.lst (([] : List Addr).map V.ref)) := upd_same
              have kp : ∀ {H' : Hp} {ws : List V} {o : HO}, Same H3 H' → H' N = some (.lst ws) → Same H3 (upd H' N o) := fun {H' ws o} e _ b z hz => by
                rw [upd_ne (ne_of_none hz nN)]
                exact e b z hz
              generalize upd H3 N (.lst []) = H4 at e4 hN4 ⊢
              refine ⟨by show 0 ≤ sizeLine; decide, fun T0 nT => ?_⟩
              have e5 := al (o := .tup []) nT
              have hT5 : upd H4 T0 (.tup []) T0 = some (.tup (ints_ (K7T.lstL none))) := upd_same
              have hN5 := e5 _ _ hN4
              have e35 := e4.trans e5
              generalize upd H4 T0 (.tup []) = H5 at e5 hT5 hN5 e35 ⊢
              have ll : ((x :: y :: ys).map V.str).length = 2 + ys.length := by rw [List.length_map, List.length_cons, List.length_cons]; omega
              refine ⟨_, rfl, p, _, rfl, .inl (.inl (.inl (e35 _ _ hp3))), 2, _, rfl, ⟨by decide, by decide, by rw [ll]; omega, by rw [ll]; rw [List.length_cons, List.length_cons] at pl; omega⟩, ?_⟩
              rw [ll, show (((2 + ys.length : Nat) : Int) - 2).toNat = ys.length by omega]
              refine for_range (lo := 2) (n := ys.length) (fun i σ H' => ∃ cs us last la y6, σ = [some (.str ts), some (.ref p), some (.int (n : Nat)), some (.ref u), some (.ref N), some (.ref la), y6] ∧ Same H3 H' ∧ H' N = some (.lst (us.map V.ref)) ∧ TAt H' us (pairs cs) ∧ us.length = i ∧ H' la = some (.tup (ints_ (K7T.lstL last))) ∧
                  K7T.cpl nextW 2 none (ys.map TL.tl) = (K7T.cpl nextW (2 + i) last ((ys.map TL.tl).drop i)).map fun l => cs ++ l)
                ⟨[], [], none, T0, none, rfl, e35, hN5, .nil, rfl, hT5, ?_⟩ (fun i σ H6 hi pv => ?_) (fun σ H6 pv => ?_)
              · rw [List.drop_zero]
                cases K7T.cpl nextW (2 + 0) none (ys.map TL.tl) <;> rfl
              · obtain ⟨cs, us, last, la, y6, rfl, e6, hN6, tU, ul, hla, hc⟩ := pv
                obtain ⟨z, hz⟩ : ∃ z, ys[i]? = some z := ⟨_, List.getElem?_eq_getElem hi⟩
                have hzr : (ys.map TL.tl)[i]? = some (TL.tl z) := by rw [List.getElem?_map, hz]; rfl
                have hzp : ((x :: y :: ys).map V.str)[2 + i]? = some (.str z) := by
                  rw [List.getElem?_map, show 2 + i = i + 1 + 1 by omega, List.getElem?_cons_succ, List.getElem?_cons_succ, hz]
                  rfl
                rw [cpl_step hzr] at hc
                have e16 := e13.trans e6
                have lz' := lz z (by simp [List.mem_of_getElem? hz])
                rw [show (2 : Int) + ((i : Nat) : Int) = ((2 + i : Nat) : Int) by omega]
                refine ⟨_, rfl, _, rfl, p, _, _, _, rfl, rfl, .inl (.inl (e6 _ _ hp3)), atI_nat hzp, _, rfl, z, la, last, rfl, lz', hla, fun hn H7 e7 => ?_, fun c hc' H7 v e7 nv hv => ?_⟩
                · rw [hn] at hc
                  refine ⟨_, rfl, _, _, rfl, fun _ => (fe (2 + i) ?_).later (e16.trans e7), fun h => absurd rfl h⟩
                  rw [rT, hd]
                  show (K7T.cpl nextW 2 none (ys.map TL.tl)).map (fun cs => (n, cs, ds)) = _
                  rw [hc]
                  rfl
                · rw [hc'] at hc
                  refine ⟨_, rfl, _, _, rfl, fun h => (by cases h), fun _ => ?_⟩
                  have hN7 := e7 _ _ hN6
                  refine ⟨_, rfl, .inl ⟨rfl, _, .inl (.inl hN7)⟩, _, rfl, N, _, _, rfl, rfl, hN7, by rw [List.length_map, ul, sizeLine_eq]; rw [List.length_cons, List.length_cons] at pl; omega, ?_⟩
                  have up : ∀ b xs, H7 b = some (.tup xs) → upd H7 N (.lst (us.map V.ref ++ [.ref v])) b = some (.tup xs) := fun b xs hb => by
                    rw [upd_ne (fun e => by rw [e, hN7] at hb; cases hb)]
                    exact hb
                  refine ⟨cs ++ [c], us ++ [v], some c, v, _, rfl, kp (e6.trans e7) hN7, by rw [upd_same, List.map_append]; rfl, ?_, by rw [List.length_append, ul]; rfl, up _ _ hv, ?_⟩
                  · unfold pairs
                    rw [List.map_append]
                    exact ((tU.same e7).mono up).append (.cons (up _ _ hv) .nil)
                  · rw [hc]
                    show ((K7T.cpl nextW (2 + i + 1) (some c) ((ys.map TL.tl).drop (i + 1))).map fun l => c :: l).map (fun l => cs ++ l) = (K7T.cpl nextW (2 + (i + 1)) (some c) ((ys.map TL.tl).drop (i + 1))).map fun l => (cs ++ [c]) ++ l
                    rw [show 2 + i + 1 = 2 + (i + 1) by omega]
                    cases K7T.cpl nextW (2 + (i + 1)) (some c) ((ys.map TL.tl).drop (i + 1)) with
                    | error e => rfl
                    | ok l =>
                      show Except.ok (cs ++ (c :: l)) = Except.ok ((cs ++ [c]) ++ l)
                      rw [List.append_assoc]
                      rfl
              · obtain ⟨cs, us, last, la, y6, rfl, e6, hN6, tU, ul, hla, hc⟩ := pv
                rw [List.drop_of_length_le (by rw [List.length_map]; exact Nat.le_refl _)] at hc
                have hc : K7T.cpl nextW 2 none (ys.map TL.tl) = .ok cs := by
                  rw [hc]
                  show Except.ok (cs ++ []) = _
                  rw [List.append_nil]
                have rt : readT ((x :: y :: ys).map TL.tl) = .ok (n, cs, ds) := by
                  rw [rT, hd]
                  show (K7T.cpl nextW 2 none (ys.map TL.tl)).map (fun cs => (n, cs, ds)) = _
                  rw [hc]
                  rfl
                obtain ⟨R, _⟩ := readT_is rt
                obtain ⟨c32, d64⟩ := bnd _ _ _ rt
                have e16 := e13.trans e6
                refine ⟨_, rfl, _, rfl, _, rfl, fun x0 dx0 hx0 hdx0 hne0 => ?_⟩
                refine new_landR hx0 hdx0 hne0 (read_land R c32 d64 hN6 tU (e6 _ _ hu) (fun ng s H7 d e7 nd hd => ?_) fun g H7 es rd e7 Lo pe pr => ?_)
                · exact ⟨true, mBL, fun _ b hb => ⟨by show 2 ≤ 1000; decide, fliesT_go ((fb _ _ _ rt ng).later (e16.trans e7))⟩, fun z => nomatch z⟩
                · rw [srt_same R.cl] at pe
                  obtain rfl := es_is Lo.ok pe (R.cs.imp fun {a b} h => by unfold lexS at h; unfold KL.lexLe; omega)
                  obtain rfl := rd_is Lo.rso pr R.ds
                  exact ⟨rfl, q _ _ _ rt g _ _ (e16.trans e7) (e16.free hx0) Lo⟩
end
end K7
end
/-! ## P19 -/
section
open PySem PySem.Spec PyProof.Rows L2
namespace K7
abbrev N__row : List Str := ["word", "numbers", "number"]
abbrev s__row : Stmt := topS 21
theorem sc__row : FnScope ["word", "numbers", "number"] ["word", "numbers"] (defScope s__row) := ⟨rfl, rfl, rfl, by decide +kernel, rfl, by decide +kernel, by decide +kernel⟩
abbrev N_land_text : List Str := ["land", "rows", "couple"]
abbrev s_land_text : Stmt := topS 20
theorem sc_land_text : FnScope ["land", "rows", "couple"] ["land"] (defScope s_land_text) := ⟨rfl, rfl, rfl, by decide +kernel, rfl, by decide +kernel, by decide +kernel⟩
/-! ### a land's text -/
def textR (n : Nat) (cs : List (Nat × Nat)) (ds : List Nat) : List (List Nat) := (cellsW ++ K7T.enc [n]) :: (roadsW ++ K7T.enc ds) :: cs.map fun c => nextW ++ K7T.enc [c.1, c.2]
def textL (n : Nat) (cs : List (Nat × Nat)) (ds : List Nat) : List Nat := TL.joinL [10] (textR n cs ds)
theorem num_one {d : Nat} (h : d < 10) : (Str.ofString (toString ((d : Nat) : Int))) = SX.S [48 + d] := by rw [SX.num_S, TL.numL_lt h]
theorem small_log {d : Nat} (h : d < 10) : (((d : Nat) : Int)).natAbs.log2 < 1920 := by
  rw [Int.natAbs_natCast]
  have : ∀ d : Fin 10, d.val.log2 < 1920 := by decide
  exact this ⟨d, h⟩
theorem enc_len (ds : List Nat) : (K7T.enc ds).length = 2 * ds.length := by
  induction ds with
  | nil => rfl
  | cons d ds ih => rw [K7T.enc_cons, List.length_cons, List.length_cons, List.length_cons, ih]; omega
theorem join_row (w ds : List Nat) : Txt.join (SX.S [32]) (SX.S w :: ds.map fun d => SX.S [48 + d]) = SX.S (w ++ K7T.enc ds) := by
  rw [K7T.enc_flat, ← K7T.joinL_cons, ← SX.join_S, List.map_cons, List.map_map]
  rfl
theorem sum_one (ds : List Nat) : ((ds.map fun d => SX.S [48 + d]).map (·.length)).sum = ds.length := by
  induction ds with
  | nil => rfl
  | cons d ds ih => rw [List.map_cons, List.map_cons, List.sum_cons, ih, SX.S_len]; show 1 + ds.length = ds.length + 1; omega
theorem sum_le {l : List Nat} {k : Nat} (h : ∀ x ∈ l, x ≤ k) : l.sum ≤ k * l.length := by
  induction l with
  | nil => exact Nat.zero_le _
  | cons x l ih =>
    rw [List.sum_cons, List.length_cons, Nat.mul_succ]
    have := h x (List.mem_cons_self ..)
    have := ih fun y hy => h y (List.mem_cons_of_mem _ hy)
    omega
section
variable {P : Program} {w : World} {K : PySem.W.Frag} {mg : Str → Option Value} {base : Heap} {a : AdL}
def spRw : Sp := fun vs H Q _ => ∃ (wl : List Nat) (t : Addr) (ds : List Nat), vs = [.str (SX.S wl), .ref t] ∧ wl.length ≤ 10 ∧ H t = some (.tup (ints_ ds)) ∧ (∀ d ∈ ds, d < 10) ∧ ds.length ≤ 100 ∧ ∀ H', Same H H' → Q (.str (SX.S (wl ++ K7T.enc ds))) H'
theorem ok_rw {f : Addr} {fd : FuncData} (F : Fun K "_row" "_row" s__row f fd) (m_str : mg "str" = none) : FnOk P w K mg base CX0 1 f fd ["word", "numbers"] spRw := by
  refine F.ok sc__row (fun vs H Q E h => ?_) (fun cdv A outer s H vs Q E hr h => ?_)
  · obtain ⟨wl, t, ds, rfl, _⟩ := h
    rfl
  · obtain ⟨wl, t, ds, rfl, w10, ht, d10, dl, q⟩ := h
    refine ⟨_, (pss_one (ps_ret (pe_bm PySem.F.plainAttrs_str PySem.F.slot_str_join PySem.F.type_str_join mt_join pe_str (pa_cons (pe_op op_cat (pe_lst (pa_cons (pv 0) pa_nil)) (pe_lc (own := [("number", 2)]) (g := gName 2) (tt := tYes) rfl sc__row.nd (pi_tup (pv 1)) (blkOk_by (own := [("number", 2)]) (N := N__row) (sc := defScope s__row) (by decide +kernel)) (fun _ _ _ _ _ => (pg_name (i := 2) sc__row.nd rfl (by first | exact Or.inl rfl | exact Or.inr rfl))) (fun _ _ _ _ _ => pts_nil) (fun _ _ _ _ _ => (pe_callTy call_str_int (by rfl) m_str boot_str (pa_cons (pv 2) pa_nil))))) pa_nil)))), ?_⟩
    refine ⟨rfl, _, rfl, by show 1 ≤ sizeLine; decide, fun p np => ?_⟩
    have e1 := al (o := .lst [.str (SX.S wl)]) np
    have hp : upd H p (.lst [.str (SX.S wl)]) p = some (.lst [.str (SX.S wl)]) := upd_same
    generalize upd H p (.lst [.str (SX.S wl)]) = H1 at e1 hp ⊢
    have ht1 := e1 _ _ ht
    refine ⟨_, rfl, t, rfl, ⟨_, .inl (.inl ht1)⟩, fun D hD => lc_tup (xs := ints_ ds) (fun j H2 => Same H1 H2 ∧ H2 D = some (.lst (((ds.take j).map fun d => SX.S [48 + d]).map V.str))) ⟨al hD, upd_same⟩ (fun j H2 _ pv => .inl (.inl (pv.1 _ _ ht1))) (fun j y H2 hy pv => ?_) (fun H2 pv => ?_)⟩
    · obtain ⟨e2, hD2⟩ := pv
      unfold ints_ at hy
      rw [List.getElem?_map] at hy
      obtain ⟨d, hd, rfl⟩ := Option.map_eq_some_iff.mp hy
      have d9 := d10 d (List.mem_of_getElem? hd)
      refine ⟨rfl, _, rfl, _, rfl, small_log d9, _, hD2, by rw [List.length_map, List.length_map, List.length_take, sizeLine_eq]; omega, fun b o hb => ?_, ?_⟩
      · rw [upd_ne (ne_of_none hb hD)]
        exact e2 _ _ hb
      · rw [upd_same, List.take_add_one, hd, List.map_append, List.map_append, num_one d9]
        rfl
    · obtain ⟨e2, hD2⟩ := pv
      rw [ints_len, List.take_length] at hD2
      refine ⟨p, D, _, _, rfl, rfl, e2 _ _ hp, hD2, by rw [List.length_map, List.length_map, sizeLine_eq]; show 1 + ds.length ≤ _; omega, fun q' nq => ?_⟩
      have e3 := al (o := .lst ([.str (SX.S wl)] ++ (ds.map fun d => SX.S [48 + d]).map V.str)) nq
      refine ⟨SX.S [32], q', SX.S wl :: ds.map fun d => SX.S [48 + d], ?_, rfl, .inl (.inl (.inl upd_same)), ?_, ?_⟩
      · exact congrArg V.str (show (" " : Str) = SX.S [32] by decide +kernel)
      · rw [List.map_cons, List.sum_cons, sum_one, SX.S_len, SX.S_len, List.length_cons, List.length_map]
        show wl.length + ds.length + (ds.length + 1) * 1 ≤ _
        omega
      · rw [join_row]
        exact q _ ((e1.trans e2).trans e3)
def spLt (a : AdL) : Sp := fun vs H Q _ => ∃ (l : Addr) (n : Nat) (es : List (Nat × Nat)) (rd : List Nat), vs = [.ref l] ∧ LandO a.C H l n es rd ∧ es.length ≤ 32 ∧ ∀ H', Same H H' → Q (.str (SX.S (textL n es rd))) H'
theorem ok_lt (T : Tl K mg a) {f frw : Addr} {fd fdrw : FuncData} (F : Fun K "land_text" "land_text" s_land_text f fd)
    (Grw : FnOk P w K mg base CX0 1 frw fdrw ["word", "numbers"] spRw) (grw : mg "_row" = some (.ref frw)) (krw : PySem.W.keepIn K (.ref frw) = true) (brw : Binds K fdrw ["word", "numbers"] []) : FnOk P w K mg base CX0 2 f fd ["land"] (spLt a) := by
  refine F.ok sc_land_text (fun vs H Q E h => ?_) (fun cdv A outer s H vs Q E hr h => ?_)
  · obtain ⟨l, n, es, rd, rfl, _⟩ := h
    rfl
  · obtain ⟨l, n, es, rd, rfl, L, e32, q⟩ := h
    refine ⟨_, (pss_cons (ps_set (i := 1) sc_land_text.nd rfl (by first | exact Or.inl rfl | exact Or.inr rfl) (pe_lst (pa_cons (pe_joined (.cons pe_str (.cons (pe_fmt (pe_fld (pv 0) rfl)) .nil))) (pa_cons (pe_call Grw (hr.mono (by decide)) (by rfl) grw krw brw .nil pass0 (pa_cons pe_str (pa_cons (pe_fld (pv 0) rfl) pa_nil))) pa_nil))))
 (pss_one (ps_ret (pe_bm PySem.F.plainAttrs_str PySem.F.slot_str_join PySem.F.type_str_join mt_join pe_str (pa_cons (pe_op op_cat (pv 1) (pe_lc (own := [("couple", 2)]) (g := gName 2) (tt := tYes) rfl sc_land_text.nd (pi_tup (pe_fld (pv 0) rfl)) (blkOk_by (own := [("couple", 2)]) (N := N_land_text) (sc := defScope s_land_text) (by decide +kernel)) (fun _ _ _ _ _ => (pg_name (i := 2) sc_land_text.nd rfl (by first | exact Or.inl rfl | exact Or.inr rfl))) (fun _ _ _ _ _ => pts_nil) (fun _ _ _ _ _ => (pe_call Grw (hr.mono (by decide)) (by rfl) grw krw brw .nil pass0 (pa_cons pe_str (pa_cons (pv 2) pa_nil)))))) pa_nil))))), ?_⟩
    obtain ⟨dl, an, ar, ay, ac, tn, ty, tc, m1, m2, m3, m4, _⟩ := L.at_
    have n5 := L.n5
    have rn := L.rn
    have d9 : n < 10 := by omega
    have ec : Str.empty ++ ("cells " : Str) ++ Str.ofString (toString ((n : Nat) : Int)) = SX.S (cellsW ++ K7T.enc [n]) := by
      rw [num_one d9, show (Str.empty ++ ("cells " : Str)) = SX.S [99, 101, 108, 108, 115, 32] from by decide +kernel, SX.S_cat]
      rfl
    refine ⟨_, rfl, by decide +kernel, _, rfl, l, a.C, dl, _, _, rfl, m1, T.cl, T.nA _ (by decide), rfl, .inr ⟨((n : Nat) : Int), rfl, small_log d9, _, rfl, ?_, ?_⟩⟩
    · rw [show (toString ((n : Nat) : Int) : String) = toString ((n : Nat) : Int) from rfl, ec, SX.S_len, List.length_append, enc_len, sizeLine_eq]
      show 5 + 2 * 1 ≤ _
      decide
    rw [ec]
    refine ⟨_, rfl, l, a.C, dl, _, _, rfl, m1, T.cl, T.nA _ (by decide), rfl, roadsW, ar, rd, ?_, by decide, m4, fun d hd => ?_, by omega, fun H1 e1 => ?_⟩
    · rw [show ("roads" : Str) = SX.S roadsW from by decide +kernel]
      rfl
    · have := L.rlt d hd
      omega
    refine ⟨by show 2 ≤ sizeLine; decide, fun p np => ?_⟩
    have e2 := al (o := .lst [.str (SX.S (cellsW ++ K7T.enc [n])), .str (SX.S (roadsW ++ K7T.enc rd))]) np
    have hp : upd H1 p (.lst [.str (SX.S (cellsW ++ K7T.enc [n])), .str (SX.S (roadsW ++ K7T.enc rd))]) p = some (.lst [.str (SX.S (cellsW ++ K7T.enc [n])), .str (SX.S (roadsW ++ K7T.enc rd))]) := upd_same
    have e12 := e1.trans e2
    generalize upd H1 p (.lst [.str (SX.S (cellsW ++ K7T.enc [n])), .str (SX.S (roadsW ++ K7T.enc rd))]) = H2 at e2 hp e12 ⊢
    have m2' := e12 _ _ m2
    have m3' := m3.same e12
    have tl : tn.length = es.length := by rw [m3'.len]; unfold pairs; rw [List.length_map]
    refine ⟨rfl, _, rfl, _, rfl, l, a.C, dl, _, _, rfl, e12 _ _ m1, T.cl, T.nA _ (by decide), rfl, an, rfl, ⟨_, .inl (.inl m2')⟩, fun D hD => lc_tup (xs := tn.map V.ref) (fun j H3 => Same H2 H3 ∧ H3 D = some (.lst (((es.take j).map fun c => SX.S (nextW ++ K7T.enc [c.1, c.2])).map V.str))) ⟨al hD, upd_same⟩ (fun j H3 _ pv => .inl (.inl (pv.1 _ _ m2'))) (fun j y H3 hy pv => ?_) (fun H3 pv => ?_)⟩
    · obtain ⟨e3, hD3⟩ := pv
      rw [List.getElem?_map] at hy
      obtain ⟨t, ht, rfl⟩ := Option.map_eq_some_iff.mp hy
      have hj : j < es.length := by rw [← tl]; exact (List.getElem?_eq_some_iff.mp ht).1
      obtain ⟨r, er, hr'⟩ := m3'.get ht
      unfold pairs at er
      rw [List.getElem?_map, List.getElem?_eq_getElem hj] at er
      obtain rfl := Option.some.inj er
      have hl := L.ok.lt _ (List.getElem_mem hj)
      refine ⟨rfl, _, rfl, nextW, t, [es[j].1, es[j].2], ?_, by decide, e3 _ _ hr', fun d hd => ?_, by show 2 ≤ 100; decide, fun H4 e4 => ?_⟩
      · rw [show ("next" : Str) = SX.S nextW from by decide +kernel]
        rfl
      · simp only [List.mem_cons, List.not_mem_nil, or_false] at hd
        rcases hd with rfl | rfl <;> omega
      · refine ⟨_, e4 _ _ hD3, by rw [List.length_map, List.length_map, List.length_take, sizeLine_eq]; omega, fun b o hb => ?_, ?_⟩
        · rw [upd_ne (ne_of_none hb hD)]
          exact e4 _ _ (e3 _ _ hb)
        · rw [upd_same, List.take_add_one, List.getElem?_eq_getElem hj, List.map_append, List.map_append]
          rfl
    · obtain ⟨e3, hD3⟩ := pv
      rw [List.length_map, tl, List.take_length] at hD3
      refine ⟨p, D, _, _, rfl, rfl, e3 _ _ hp, hD3, by rw [List.length_map, List.length_map, sizeLine_eq]; show 2 + es.length ≤ _; omega, fun q' nq => ?_⟩
      have e4 := al (o := .lst ([.str (SX.S (cellsW ++ K7T.enc [n])), .str (SX.S (roadsW ++ K7T.enc rd))] ++ (es.map fun c => SX.S (nextW ++ K7T.enc [c.1, c.2])).map V.str)) nq
      refine ⟨SX.S [10], q', (textR n es rd).map SX.S, congrArg V.str (show ("\n" : Str) = SX.S [10] by decide +kernel), rfl, .inl (.inl (.inl ?_)), ?_, ?_⟩
      · rw [upd_same]
        unfold textR
        rw [List.map_cons, List.map_cons, List.map_cons, List.map_cons, List.map_map, List.map_map, List.map_map]
        rfl
      · have z := sum_le (l := ((textR n es rd).map SX.S).map (·.length)) (k := 100) (fun x hx => by
          rw [SX.lens] at hx
          unfold textR at hx
          rw [List.map_cons, List.map_cons, List.mem_cons, List.mem_cons, List.map_map] at hx
          rcases hx with rfl | rfl | hx
          · rw [List.length_append, enc_len]
            show 5 + 2 * 1 ≤ 100
            decide
          · rw [List.length_append, enc_len]
            show 5 + 2 * rd.length ≤ 100
            omega
          · obtain ⟨c, _, rfl⟩ := List.mem_map.mp hx
            show (nextW ++ K7T.enc [c.1, c.2]).length ≤ 100
            rw [List.length_append, enc_len]
            show 4 + 2 * 2 ≤ 100
            decide)
        rw [List.length_map, List.length_map] at z
        rw [List.length_map]
        have k : (textR n es rd).length = es.length + 2 := by unfold textR; rw [List.length_cons, List.length_cons, List.length_map]
        rw [k] at z ⊢
        show _ + (es.length + 2) * 1 ≤ _
        omega
      · rw [SX.join_S]
        exact q _ ((e12.trans e3).trans e4)
end
end K7
end
/-! ## P20 -/
section
open PySem PySem.Spec PyProof.Rows L2
namespace K7
abbrev N__law_digits : List Str := ["_law_row", "_law_head", "_law_rest", "_law_found", "_law_place"]
abbrev s__law_digits : Stmt := topS 36
theorem sc__law_digits : FnScope ["_law_row", "_law_head", "_law_rest", "_law_found", "_law_place"] ["_law_row", "_law_head"] (defScope s__law_digits) := ⟨rfl, rfl, rfl, by decide +kernel, rfl, by decide +kernel, by decide +kernel⟩
/-! ### the law's own digits -/
theorem dec_two (s c : Nat) (r : List Nat) : K7T.dec (s :: c :: r) = if s = 32 ∧ 48 ≤ c ∧ c ≤ 57 then (K7T.dec r).map fun l => (c - 48) :: l else none := rfl
theorem dec_odd : ∀ {l : List Nat}, l.length % 2 = 1 → K7T.dec l = none
  | [], h => by cases h
  | [_], _ => rfl
  | s :: c :: r, h => by
    rw [dec_two, dec_odd (l := r) (by rw [List.length_cons, List.length_cons] at h; omega)]
    split <;> rfl
theorem ten_signs : (("0123456789" : Str)).cps.toList = [48, 49, 50, 51, 52, 53, 54, 55, 56, 57] := by decide +kernel
theorem in_ten (c : Nat) : (c ∈ ([48, 49, 50, 51, 52, 53, 54, 55, 56, 57] : List Nat)) ↔ 48 ≤ c ∧ c ≤ 57 := by
  simp only [List.mem_cons, List.not_mem_nil, or_false]
  omega
section
variable {P : Program} {w : World} {K : PySem.W.Frag} {mg : Str → Option Value} {base : Heap} {a : AdL}
def spLd6 : Sp := fun vs H Q _ => ∃ (r wl : List Nat), vs = [.str (SX.S r), .str (SX.S wl)] ∧ r.length ≤ 100000 ∧ wl.length ≤ 10 ∧ ((K7T.digs wl r = none ∨ K7T.digs wl r = some []) → ∀ H', Same H H' → Q .non H') ∧
  ∀ ds, K7T.digs wl r = some ds → ds ≠ [] → ∀ H' u, Same H H' → H u = none → H' u = some (.lst (ints_ ds)) → Q (.ref u) H'
theorem ok_ld6 {f : Addr} {fd : FuncData} (F : Fun K "_law_digits" "_law_digits" s__law_digits f fd) (m_len : mg "len" = none) (m_range : mg "range" = none) (m_int : mg "int" = none) : FnOk P w K mg base CX0 1 f fd ["_law_row", "_law_head"] spLd6 := by
  refine F.ok sc__law_digits (fun vs H Q E h => ?_) (fun cdv A outer s H vs Q E hr h => ?_)
  · obtain ⟨r, wl, rfl, _⟩ := h
    rfl
  · obtain ⟨r, wl, rfl, rl, w10, q0, q1⟩ := h
    refine ⟨_, (pss_cons (ps_if (pt_cmpR op_ne (pe_slice C8.sl_txt (pv 0) po_none (po_some (pe_callB call_len_str (by rfl) m_len boot_len (pa_cons (pv 1) pa_nil)))) (pv 1) (nomark _))
  (pss_one (ps_ret pe_non))
  pss_nil)
 (pss_cons (ps_set (i := 2) sc__law_digits.nd rfl (by first | exact Or.inl rfl | exact Or.inr rfl) (pe_slice C8.sl_txt (pv 0) (po_some (pe_callB call_len_str (by rfl) m_len boot_len (pa_cons (pv 1) pa_nil))) po_none))
 (pss_cons (ps_if (pw_or (pt_cmpR op_eq (pv 2) pe_str (nomark _)) (pw_or1 (pt_cmpR op_ne (pe_op op_mul (pe_op op_fdiv (pe_callB call_len_str (by rfl) m_len boot_len (pa_cons (pv 2) pa_nil)) pe_int) pe_int) (pe_callB call_len_str (by rfl) m_len boot_len (pa_cons (pv 2) pa_nil)) (nomark _)))).pt
  (pss_one (ps_ret pe_non))
  pss_nil)
 (pss_cons (ps_set (i := 3) sc__law_digits.nd rfl (by first | exact Or.inl rfl | exact Or.inr rfl) (pe_lst pa_nil))
 (pss_cons (ps_for PassesOwn.never rfl (pi_range3 (by rfl) m_range (pa_cons pe_int (pa_cons (pe_callB call_len_str (by rfl) m_len boot_len (pa_cons (pv 2) pa_nil)) (pa_cons pe_int pa_nil)))) (pg_name (i := 4) sc__law_digits.nd rfl (by first | exact Or.inl rfl | exact Or.inr rfl))
  (pss_cons (ps_if (pw_or (pt_cmpR op_ne (pe_ix ix_str (pv 2) (pv 4) (fun _ _ => rfl)) pe_str (nomark _)) (pw_or1 (pt_cmpR op_notIn_sign (pe_ix ix_str (pv 2) (pe_op op_add (pv 4) pe_int) (fun _ _ => rfl)) pe_str (by with_unfolding_all rfl)))).pt
  (pss_one (ps_ret pe_non))
  pss_nil)
 (pss_one (ps_expr (pe_bm PySem.F.plainAttrs_list PySem.F.slot_list_append PySem.F.type_list_append mt_append (pv 3) (pa_cons (pe_callTy call_int_str (by rfl) m_int boot_int (pa_cons (pe_ix ix_str (pv 2) (pe_op op_add (pv 4) pe_int) (fun _ _ => rfl)) pa_nil)) pa_nil))))))
 (pss_one (ps_ret (pv 3)))))))), ?_⟩
    have zl : (SX.S r).length ≤ sizeLine := by rw [SX.S_len, sizeLine_eq]; omega
    have wz : (SX.S wl).length ≤ sizeLine := by rw [SX.S_len, sizeLine_eq]; omega
    have hto : Txt.slice (SX.S r) none (some (((SX.S wl).length : Nat) : Int)) = SX.S (r.take wl.length) := by rw [SX.slice_to (by omega), SX.S_len, Int.toNat_natCast]
    have hfr : Txt.slice (SX.S r) (some (((SX.S wl).length : Nat) : Int)) none = SX.S (r.drop wl.length) := by rw [SX.slice_from (by omega), SX.S_len, Int.toNat_natCast]
    refine ⟨_, rfl, _, rfl, SX.S wl, rfl, wz, _, rfl, _, rfl, zl, ?_⟩
    rw [hto]
    refine ⟨_, rfl, rfl, _, rfl, ?_⟩
    by_cases hw : r.take wl.length = wl
    · rw [hw, decide_eq_true rfl]
      refine iteFo rfl ?_
      have hd : K7T.digs wl r = K7T.dec (r.drop wl.length) := if_pos hw
      rw [hd] at q0 q1
      refine ⟨_, rfl, _, rfl, SX.S wl, rfl, wz, _, rfl, _, rfl, zl, ?_⟩
      rw [hfr]
      have restl : (r.drop wl.length).length ≤ 100000 := by rw [List.length_drop]; omega
      generalize r.drop wl.length = rest at q0 q1 restl ⊢
      refine ⟨_, rfl, rfl, _, rfl, ?_⟩
      by_cases h0 : rest = []
      · subst h0
        exact iteTo (decide_eq_true (by decide +kernel)) (iteTo rfl (q0 (.inr rfl) _ (Same.refl H)))
      rw [decide_eq_false (show ¬ V.str (SX.S rest) = V.str "" from fun e => h0 (SX.S_inj (b := []) (by injection e)))]
      refine iteFo rfl ?_
      have zr : (SX.S rest).length ≤ sizeLine := by rw [SX.S_len, sizeLine_eq]; omega
      refine ⟨_, rfl, SX.S rest, rfl, zr, ?_⟩
      have ev : ∀ k : Nat, (((k : Nat) : Int) / 2 * 2 = ((k : Nat) : Int)) ↔ k % 2 = 0 := fun k => by omega
      refine ⟨_, _, rfl, rfl, ⟨by decide, by decide⟩, _, _, rfl, rfl, .inr ⟨by decide, by decide⟩, _, rfl, SX.S rest, rfl, zr, rfl, _, rfl, ?_⟩
      rw [SX.S_len]
      by_cases hev : rest.length % 2 = 0
      · rw [decide_eq_true (congrArg V.int ((ev rest.length).mpr hev))]
        refine iteFo rfl ?_
        refine ⟨by show 0 ≤ sizeLine; decide, fun D nD => ?_⟩
        have e1 := al (o := .lst []) nD
        have hD1 : upd H D (.lst []) D = some (.lst (ints_ [])) := upd_same
        have kp : ∀ {H' : Hp} {ws : List V} {o : HO}, Same H H' → H' D = some (.lst ws) → Same H (upd H' D o) := fun {H' ws o} e _ b z hz => by
          rw [upd_ne (ne_of_none hz nD)]
          exact e b z hz
        generalize upd H D (.lst []) = H1 at e1 hD1 ⊢
        obtain ⟨m, hm⟩ : ∃ m, rest.length = 2 * m := ⟨rest.length / 2, by omega⟩
        refine ⟨_, rfl, SX.S rest, rfl, zr, 0, _, 2, m, rfl, ⟨by decide, by decide, ?_, ?_⟩, for_it walk_rangeC (fun j σ H' => ∃ fd y4, σ = [some (.str (SX.S r)), some (.str (SX.S wl)), some (.str (SX.S rest)), some (.ref D), y4] ∧ Same H H' ∧ H' D = some (.lst (ints_ fd)) ∧ fd.length = j ∧ K7T.dec rest = (K7T.dec (rest.drop (2 * j))).map fun l => fd ++ l)
          ⟨[], none, rfl, e1, hD1, rfl, ?_⟩ (fun j σ H' _ _ => trivial) (fun j x σ H2 H3 hj pv hy => ?_) (fun σ H2 pv => ?_)⟩
        · have fit : ∀ i : Int, 0 ≤ i → i ≤ 200000 → Builtin.Range.rangeFitsLong i = true := fun i h1 h2 => by
            show (decide (-2 ^ 63 ≤ i) && decide (i < 2 ^ 63)) = true
            rw [decide_eq_true (by omega), decide_eq_true (by omega)]
            rfl
          show (Builtin.Range.rangeFitsLong 0 && Builtin.Range.rangeFitsLong _ && Builtin.Range.rangeFitsLong 2 && Builtin.Range.rangeFitsLong (Builtin.Range.rangeSize 0 _ 2) && (Builtin.Range.rangeSize 0 _ 2 == 0 || Builtin.Range.rangeFitsLong (_ + ((2 : Int) - 1)))) = true
          rw [rangeSize_pos (by decide) (by omega), SX.S_len, fit 0 (by omega) (by omega), fit _ (by omega) (by omega), fit 2 (by omega) (by omega), fit _ (by omega) (by omega), fit _ (by omega) (by omega)]
          simp
        · rw [rangeSize_pos (by decide) (by omega), SX.S_len, hm]
          omega
        · rw [Nat.mul_zero, List.drop_zero]
          cases K7T.dec rest <;> rfl
        · obtain ⟨fd, y4, rfl, e2, hD2, fl, hdec⟩ := pv
          obtain ⟨rfl, rfl⟩ := hy
          have j2 : 2 * j + 1 < rest.length := by omega
          have g0 : rest[2 * j]? = some rest[2 * j] := List.getElem?_eq_getElem (by omega)
          have g1 : rest[2 * j + 1]? = some rest[2 * j + 1] := List.getElem?_eq_getElem j2
          have dr : rest.drop (2 * j) = rest[2 * j] :: rest[2 * j + 1] :: rest.drop (2 * (j + 1)) := by
            rw [List.drop_eq_getElem_cons (by omega), List.drop_eq_getElem_cons j2]
            rfl
          rw [dr, dec_two] at hdec
          show gName 4 (V.int (0 + ((j : Nat) : Int) * 2)) _ _ _
          rw [show (0 : Int) + ((j : Nat) : Int) * 2 = ((2 * j : Nat) : Int) by omega]
          generalize rest[2 * j] = sg at g0 dr hdec
          generalize rest[2 * j + 1] = cg at g1 dr hdec
          refine ⟨_, rfl, _, rfl, SX.S rest, _, sg, rfl, rfl, zr, atI_nat g0, rfl, _, rfl, ?_⟩
          by_cases hs : sg = 32
          · subst hs
            rw [show decide (V.str ⟨#[32]⟩ = V.str " ") = true from decide_eq_true (by decide +kernel)]
            refine iteFo rfl ?_
            refine ⟨_, rfl, _, rfl, _, _, rfl, rfl, SX.S rest, _, cg, rfl, rfl, zr, atI_nat (j := 2 * j + 1) g1, cg, _, rfl, rfl, _, rfl, ?_⟩
            rw [ten_signs]
            by_cases hc : 48 ≤ cg ∧ cg ≤ 57
            · rw [decide_eq_true ((in_ten cg).mpr hc)]
              refine iteFo rfl ?_
              rw [if_pos ⟨rfl, hc⟩] at hdec
              obtain ⟨d, rfl⟩ : ∃ d, cg = 48 + d := ⟨cg - 48, by omega⟩
              have d9 : d < 10 := by omega
              refine ⟨_, rfl, .inl ⟨rfl, _, .inl (.inl hD2)⟩, _, rfl, _, rfl, _, _, rfl, rfl, SX.S rest, _, 48 + d, rfl, rfl, zr, atI_nat (j := 2 * j + 1) g1, SX.S [48 + d], ((d : Nat) : Int), rfl, int_one d9, by rw [SX.S_len]; show 1 ≤ 640; decide, D, _, _, rfl, rfl, hD2, by rw [ints_len, fl, sizeLine_eq]; omega, ?_⟩
              refine ⟨fd ++ [d], _, rfl, kp e2 hD2, by rw [upd_same, ints_snoc], by rw [List.length_append, fl]; rfl, ?_⟩
              rw [hdec]
              cases K7T.dec (rest.drop (2 * (j + 1))) with
              | none => rfl
              | some l =>
                show some (fd ++ ((48 + d - 48) :: l)) = some ((fd ++ [d]) ++ l)
                rw [Nat.add_sub_cancel_left, List.append_assoc]
                rfl
            · rw [decide_eq_false (fun e => hc ((in_ten cg).mp e))]
              rw [if_neg (fun z => hc z.2)] at hdec
              exact iteTo rfl (q0 (.inl hdec) _ e2)
          · rw [decide_eq_false (fun e => hs (by have := congrArg (fun z => match z with | V.str x => x.cps.toList | _ => []) e; injection this))]
            rw [if_neg (fun z => hs z.1)] at hdec
            exact iteTo rfl (iteTo rfl (q0 (.inl hdec) _ e2))
        · obtain ⟨fd, y4, rfl, e2, hD2, fl, hdec⟩ := pv
          rw [List.drop_of_length_le (by omega)] at hdec
          have hdec : K7T.dec rest = some fd := by
            rw [hdec]
            show some (fd ++ []) = _
            rw [List.append_nil]
          refine ⟨_, rfl, q1 fd hdec (fun e => ?_) _ D e2 nD hD2⟩
          rw [e] at fl
          exact h0 (List.length_eq_zero_iff.mp (by rw [hm, ← fl]; rfl))
      · rw [decide_eq_false (fun e => hev ((ev rest.length).mp (by injection e)))]
        exact iteTo rfl (q0 (.inl (dec_odd (by omega))) _ (Same.refl H))
    · rw [decide_eq_false (fun e => hw (SX.S_inj (by injection e)))]
      exact iteTo rfl (q0 (.inl (if_neg hw)) _ (Same.refl H))
end
end K7
end
/-! ## P21 -/
section
open PySem PySem.Spec PyProof.Rows L2
namespace K7
abbrev N__law_text : List Str := ["_law_plain", "_law_rows", "_law_cell", "_law_low", "_law_high"]
abbrev s__law_text : Stmt := topS 35
theorem sc__law_text : FnScope ["_law_plain", "_law_rows", "_law_cell", "_law_low", "_law_high"] ["_law_plain"] (defScope s__law_text) := ⟨rfl, rfl, rfl, by decide +kernel, rfl, by decide +kernel, by decide +kernel⟩
/-! ### the law's own text -/
theorem S_add (a b : List Nat) : SX.S a ++ SX.S b = SX.S (a ++ b) := SX.S_cat a b
theorem words_S : ("cells " : Str) = SX.S [99, 101, 108, 108, 115, 32] ∧ ("roads" : Str) = SX.S roadsW ∧ (" " : Str) = SX.S [32] ∧ ("next " : Str) = SX.S [110, 101, 120, 116, 32] ∧ ("" : Str) = SX.S [] ∧ ("\n" : Str) = SX.S [10] := by
  refine ⟨?_, ?_, ?_, ?_, ?_, ?_⟩ <;> decide +kernel
theorem join_none (ds : List Nat) : Txt.join (SX.S []) (ds.map fun d => SX.S [32, 48 + d]) = SX.S (K7T.enc ds) := by
  have z := SX.join_S [] (ds.map fun d => [32, 48 + d])
  rw [List.map_map] at z
  rw [show (ds.map fun d => SX.S [32, 48 + d]) = ds.map (SX.S ∘ fun d => [32, 48 + d]) from rfl, z]
  congr 1
  have j : ∀ ps : List (List Nat), TL.joinL [] ps = ps.flatten := fun ps => by
    induction ps with
    | nil => rfl
    | cons p ps ih =>
      cases ps with
      | nil => rw [List.flatten_cons, List.flatten_nil, List.append_nil]; rfl
      | cons q ps => 
        show p ++ ([] ++ TL.joinL [] (q :: ps)) = _
        rw [ih, List.nil_append, List.flatten_cons (l := p)]
  rw [j]
  unfold K7T.enc
  rw [List.flatMap_def]
theorem sum_two (ds : List Nat) : ((ds.map fun d => SX.S [32, 48 + d]).map (·.length)).sum = 2 * ds.length := by
  induction ds with
  | nil => rfl
  | cons d ds ih => rw [List.map_cons, List.map_cons, List.sum_cons, ih, SX.S_len]; show 2 + 2 * ds.length = 2 * (ds.length + 1); omega
section
variable {P : Program} {w : World} {K : PySem.W.Frag} {mg : Str → Option Value} {base : Heap} {a : AdL}
def spWt : Sp := fun vs H Q _ => ∃ (q0 : Addr) (n : Nat) (es : List (Nat × Nat)) (lot : List Nat), vs = [.ref q0] ∧ LandAt H q0 n es lot ∧ n ≤ 5 ∧ es.length ≤ 32 ∧ ∀ H', Same H H' → Q (.str (SX.S (textL n es lot))) H'
theorem ok_wt {f : Addr} {fd : FuncData} (F : Fun K "_law_text" "_law_text" s__law_text f fd) (m_str : mg "str" = none) : FnOk P w K mg base CX0 1 f fd ["_law_plain"] spWt := by
  refine F.ok sc__law_text (fun vs H Q E h => ?_) (fun cdv A outer s H vs Q E hr h => ?_)
  · obtain ⟨q0, n, es, lot, rfl, _⟩ := h
    rfl
  · obtain ⟨q0, n, es, lot, rfl, L, n5, e32, q⟩ := h
    refine ⟨_, (pss_cons (ps_set (i := 1) sc__law_text.nd rfl (by first | exact Or.inl rfl | exact Or.inr rfl) (pe_lst (pa_cons (pe_op op_add_str pe_str (pe_callTy call_str_int (by rfl) m_str boot_str (pa_cons (pe_ix ix_tup (pv 0) pe_int (fun _ _ => rfl)) pa_nil))) (pa_cons (pe_op op_add_str pe_str (pe_bm PySem.F.plainAttrs_str PySem.F.slot_str_join PySem.F.type_str_join mt_join pe_str (pa_cons (pe_lc (own := [("_law_cell", 2)]) (g := gName 2) (tt := tYes) rfl sc__law_text.nd (pi_list (pe_ix ix_tup (pv 0) pe_int (fun _ _ => rfl))) (blkOk_by (own := [("_law_cell", 2)]) (N := N__law_text) (sc := defScope s__law_text) (by decide +kernel)) (fun _ _ _ _ _ => (pg_name (i := 2) sc__law_text.nd rfl (by first | exact Or.inl rfl | exact Or.inr rfl))) (fun _ _ _ _ _ => pts_nil) (fun _ _ _ _ _ => (pe_op op_add_str pe_str (pe_callTy call_str_int (by rfl) m_str boot_str (pa_cons (pv 2) pa_nil))))) pa_nil))) pa_nil))))
 (pss_cons (ps_for PassesOwn.never rfl (pi_list (pe_ix ix_tup (pv 0) pe_int (fun _ _ => rfl))) (pg_tup rfl (pgs_cons (pg_name (i := 3) sc__law_text.nd rfl (by first | exact Or.inl rfl | exact Or.inr rfl)) (pgs_cons (pg_name (i := 4) sc__law_text.nd rfl (by first | exact Or.inl rfl | exact Or.inr rfl)) pgs_nil)))
  (pss_one (ps_expr (pe_bm PySem.F.plainAttrs_list PySem.F.slot_list_append PySem.F.type_list_append mt_append (pv 1) (pa_cons (pe_op op_add_str (pe_op op_add_str (pe_op op_add_str pe_str (pe_callTy call_str_int (by rfl) m_str boot_str (pa_cons (pv 3) pa_nil))) pe_str) (pe_callTy call_str_int (by rfl) m_str boot_str (pa_cons (pv 4) pa_nil))) pa_nil)))))
 (pss_one (ps_ret (pe_bm PySem.F.plainAttrs_str PySem.F.slot_str_join PySem.F.type_str_join mt_join pe_str (pa_cons (pv 1) pa_nil)))))), ?_⟩
    obtain ⟨rA, sA, ts, h1, h2, h3, h4⟩ := L.at_
    have d9 : n < 10 := by omega
    have lotn : ∀ d ∈ lot, d < n := by
      have all : ∀ n : Fin 6, (lotsTo (List.range n.val) n.val).all (fun l => l.all (fun c => decide (c < n.val))) = true := by decide +kernel
      have z := List.all_eq_true.mp (all ⟨n, by omega⟩) lot L.lot.1
      exact fun c hc => of_decide_eq_true (List.all_eq_true.mp z c hc)
    have ll := L.lot.2.2
    obtain ⟨w1, w2, w3, w4, w5, w6⟩ := words_S
    refine ⟨_, rfl, q0, _, _, _, rfl, rfl, .inl (.inl h1), atI_nat (j := 0) rfl, _, rfl, small_log d9, _, _, rfl, rfl, ?_, ?_⟩
    · rw [num_one d9, w1, SX.S_len, SX.S_len, sizeLine_eq]
      show 6 + 1 ≤ _
      decide
    rw [num_one d9]
    have ea : (("cells " : Str) ++ SX.S [48 + n]) = SX.S (cellsW ++ K7T.enc [n]) := by rw [w1, S_add]; rfl
    rw [ea]
    refine ⟨rfl, _, rfl, q0, _, _, _, rfl, rfl, .inl (.inl h1), atI_nat (j := 2) rfl, sA, rfl, ⟨_, .inl (.inl h4)⟩, fun D hD => lc_list (xs := ints_ lot) (fun j H2 => Same H H2 ∧ H2 D = some (.lst (((lot.take j).map fun d => SX.S [32, 48 + d]).map V.str))) ⟨al hD, upd_same⟩ (fun j H2 _ pv => .inl (.inl (pv.1 _ _ h4))) (fun j y H2 hy pv => ?_) (fun H2 pv => ?_)⟩
    · obtain ⟨e2, hD2⟩ := pv
      unfold ints_ at hy
      rw [List.getElem?_map] at hy
      obtain ⟨d, hd, rfl⟩ := Option.map_eq_some_iff.mp hy
      have dn := lotn d (List.mem_of_getElem? hd)
      have dd : d < 10 := by omega
      refine ⟨rfl, _, rfl, _, rfl, small_log dd, _, _, rfl, rfl, ?_, ?_⟩
      · rw [num_one dd, w3, SX.S_len, SX.S_len, sizeLine_eq]
        show 1 + 1 ≤ _
        decide
      · rw [num_one dd, w3, S_add]
        refine ⟨_, hD2, by rw [List.length_map, List.length_map, List.length_take, sizeLine_eq]; omega, fun b o hb => ?_, ?_⟩
        · rw [upd_ne (ne_of_none hb hD)]
          exact e2 _ _ hb
        · rw [upd_same, List.take_add_one, hd, List.map_append, List.map_append]
          rfl
    obtain ⟨e2, hD2⟩ := pv
    rw [ints_len, List.take_length] at hD2
    refine ⟨SX.S [], D, lot.map (fun d => SX.S [32, 48 + d]), congrArg V.str w5, rfl, .inl (.inl (.inl hD2)), by rw [sum_two, SX.S_len]; show 2 * lot.length + _ * 0 ≤ _; omega, _, _, rfl, rfl, ?_, ?_⟩
    · rw [join_none, w2, SX.S_len, SX.S_len, enc_len, sizeLine_eq]
      show 5 + 2 * lot.length ≤ _
      omega
    rw [join_none, w2, S_add]
    refine ⟨by show 2 ≤ sizeLine; decide, fun p np => ?_⟩
    have e3 := al (o := .lst [.str (SX.S (cellsW ++ K7T.enc [n])), .str (SX.S (roadsW ++ K7T.enc lot))]) np
    have hp : upd H2 p (.lst [.str (SX.S (cellsW ++ K7T.enc [n])), .str (SX.S (roadsW ++ K7T.enc lot))]) p = some (.lst (((textR n ([] : List (Nat × Nat)) lot).map SX.S).map V.str)) := by
      rw [upd_same]
      rfl
    have e23 := e2.trans e3
    have kp : ∀ {H' : Hp} {ws : List V} {o : HO}, Same H H' → H' p = some (.lst ws) → Same H (upd H' p o) := fun {H' ws o} e _ b z hz => by
      rw [upd_ne (ne_of_none hz (e2.free np))]
      exact e b z hz
    generalize upd H2 p (.lst [.str (SX.S (cellsW ++ K7T.enc [n])), .str (SX.S (roadsW ++ K7T.enc lot))]) = H3 at e3 hp e23 ⊢
    have tl : ts.length = es.length := by rw [h3.len]; unfold pairs; rw [List.length_map]
    refine ⟨_, rfl, q0, _, _, _, rfl, rfl, .inl (.inl (e23 _ _ h1)), atI_nat (j := 1) rfl, rA, rfl, ⟨_, .inl (.inl (e23 _ _ h2))⟩, for_list (xs := ts.map V.ref) (fun j σ H' => ∃ y3 y4, σ = [some (.ref q0), some (.ref p), none, y3, y4] ∧ Same H H' ∧ H' p = some (.lst (((textR n (es.take j) lot).map SX.S).map V.str)))
      ⟨none, none, rfl, e23, hp⟩ (fun j σ H' _ pv => ?_) (fun j x σ H' hx pv => ?_) (fun σ H' pv => ?_)⟩
    · obtain ⟨y3, y4, rfl, e4, hp4⟩ := pv
      exact .inl (.inl (e4 _ _ h2))
    · obtain ⟨y3, y4, rfl, e4, hp4⟩ := pv
      rw [List.getElem?_map] at hx
      obtain ⟨t, ht, rfl⟩ := Option.map_eq_some_iff.mp hx
      have hj : j < es.length := by rw [← tl]; exact (List.getElem?_eq_some_iff.mp ht).1
      obtain ⟨r, er, hr'⟩ := h3.get ht
      unfold pairs at er
      rw [List.getElem?_map, List.getElem?_eq_getElem hj] at er
      obtain rfl := Option.some.inj er
      have hl := L.ok.lt _ (List.getElem_mem hj)
      have x9 : es[j].1 < 10 := by omega
      have y9 : es[j].2 < 10 := by omega
      have tk : (es.take (j + 1)) = es.take j ++ [es[j]] := by rw [List.take_add_one, List.getElem?_eq_getElem hj]; rfl
      generalize es[j] = c at hr' x9 y9 tk
      obtain ⟨cx, cy⟩ := c
      refine ⟨t, _, rfl, .inl (.inl (e4 _ _ hr')), rfl, _, _, rfl, _, _, rfl, rfl, ?_⟩
      refine ⟨_, rfl, .inl ⟨rfl, _, .inl (.inl hp4)⟩, _, rfl, _, rfl, small_log x9, _, _, rfl, rfl, ?_, _, _, rfl, rfl, ?_, _, rfl, _, rfl, small_log y9, _, _, rfl, rfl, ?_, ?_⟩
      · rw [num_one x9, w4, SX.S_len, SX.S_len, sizeLine_eq]
        show 5 + 1 ≤ _
        decide
      · rw [num_one x9, w4, w3, S_add, SX.S_len, SX.S_len, sizeLine_eq]
        show 6 + 1 ≤ _
        decide
      · rw [num_one x9, num_one y9, w4, w3, S_add, S_add, SX.S_len, SX.S_len, sizeLine_eq]
        show 7 + 1 ≤ _
        decide
      · rw [num_one x9, num_one y9, w4, w3, S_add, S_add, S_add]
        refine ⟨p, _, _, rfl, rfl, hp4, ?_, _, _, rfl, kp e4 hp4, ?_⟩
        · have z : (textR n (es.take j) lot).length ≤ 34 := by unfold textR; rw [List.length_cons, List.length_cons, List.length_map, List.length_take]; omega
          rw [List.length_map, List.length_map, sizeLine_eq]
          omega
        · rw [upd_same, tk]
          unfold textR
          rw [List.map_append]
          simp only [List.map_cons, List.map_append, List.map_nil, List.cons_append]
          rfl
    · obtain ⟨y3, y4, rfl, e4, hp4⟩ := pv
      rw [List.length_map, tl, List.take_length] at hp4
      refine ⟨rfl, _, rfl, SX.S [10], p, _, congrArg V.str w6, rfl, .inl (.inl (.inl hp4)), ?_, ?_⟩
      · have z := sum_le (l := ((textR n es lot).map SX.S).map (·.length)) (k := 100) (fun x hx => by
          rw [SX.lens] at hx
          unfold textR at hx
          rw [List.map_cons, List.map_cons, List.mem_cons, List.mem_cons, List.map_map] at hx
          rcases hx with rfl | rfl | hx
          · rw [List.length_append, enc_len]
            show 5 + 2 * 1 ≤ 100
            decide
          · rw [List.length_append, enc_len]
            show 5 + 2 * lot.length ≤ 100
            omega
          · obtain ⟨c, _, rfl⟩ := List.mem_map.mp hx
            show (nextW ++ K7T.enc [c.1, c.2]).length ≤ 100
            rw [List.length_append, enc_len]
            show 4 + 2 * 2 ≤ 100
            decide)
        rw [List.length_map, List.length_map] at z
        rw [List.length_map]
        have k : (textR n es lot).length = es.length + 2 := by unfold textR; rw [List.length_cons, List.length_cons, List.length_map]
        rw [k] at z ⊢
        show _ + (es.length + 2) * 1 ≤ _
        omega
      · rw [SX.join_S]
        exact q _ e4
end
end K7
end
/-! ## TD -/
section
namespace K7D
/-! ### what is seen, turn by turn -/
def add1 (S : List Nat) (a b : Nat) : List Nat := if a ∈ S ∧ b ∉ S then S ++ [b] else S
def step (S : List Nat) (c : Nat × Nat) : List Nat := add1 (add1 S c.1 c.2) c.2 c.1
def turn (cs : List (Nat × Nat)) (S : List Nat) : List Nat := cs.foldl step S
def runs (cs : List (Nat × Nat)) : Nat → List Nat
  | 0 => [0]
  | t + 1 => turn cs (runs cs t)
theorem add1_grow (S : List Nat) (a b : Nat) : (add1 S a b = S ∧ (a ∈ S → b ∈ S)) ∨ S.length < (add1 S a b).length := by
  unfold add1
  by_cases h : a ∈ S ∧ b ∉ S
  · rw [if_pos h, List.length_append]
    right
    exact Nat.lt_succ_self _
  · rw [if_neg h]
    left
    exact ⟨rfl, fun ha => Classical.byContradiction fun hb => h ⟨ha, hb⟩⟩
theorem add1_le (S : List Nat) (a b : Nat) : S.length ≤ (add1 S a b).length := by
  rcases add1_grow S a b with ⟨e, _⟩ | h
  · rw [e]; exact Nat.le_refl _
  · omega
theorem step_grow (S : List Nat) (c : Nat × Nat) : (step S c = S ∧ (c.1 ∈ S ↔ c.2 ∈ S)) ∨ S.length < (step S c).length := by
  unfold step
  rcases add1_grow S c.1 c.2 with ⟨e, h⟩ | h
  · rw [e]
    rcases add1_grow S c.2 c.1 with ⟨e2, h2⟩ | h2
    · exact .inl ⟨e2, h, h2⟩
    · exact .inr h2
  · have := add1_le (add1 S c.1 c.2) c.2 c.1
    exact .inr (by omega)
theorem step_le (S : List Nat) (c : Nat × Nat) : S.length ≤ (step S c).length := by
  rcases step_grow S c with ⟨e, _⟩ | h
  · rw [e]; exact Nat.le_refl _
  · omega
theorem turn_le : ∀ (cs : List (Nat × Nat)) (S : List Nat), S.length ≤ (turn cs S).length
  | [], _ => Nat.le_refl _
  | c :: cs, S => by
    have h1 := step_le S c
    have h2 := turn_le cs (step S c)
    show S.length ≤ (turn cs (step S c)).length
    omega
theorem turn_grow : ∀ (cs : List (Nat × Nat)) (S : List Nat), (turn cs S = S ∧ ∀ c ∈ cs, (c.1 ∈ S ↔ c.2 ∈ S)) ∨ S.length < (turn cs S).length
  | [], _ => .inl ⟨rfl, fun _ h => nomatch h⟩
  | c :: cs, S => by
    show ((turn cs (step S c)) = S ∧ _) ∨ S.length < (turn cs (step S c)).length
    rcases step_grow S c with ⟨e, h⟩ | h
    · rw [e]
      rcases turn_grow cs S with ⟨e2, h2⟩ | h2
      · refine .inl ⟨e2, fun d hd => ?_⟩
        rcases List.mem_cons.mp hd with rfl | hd
        · exact h
        · exact h2 d hd
      · exact .inr h2
    · have := turn_le cs (step S c)
      exact .inr (by omega)
theorem add1_same {S : List Nat} {a b : Nat} (h : a ∈ S → b ∈ S) : add1 S a b = S := if_neg fun z => z.2 (h z.1)
theorem turn_same : ∀ {cs : List (Nat × Nat)} {S : List Nat}, (∀ c ∈ cs, (c.1 ∈ S ↔ c.2 ∈ S)) → turn cs S = S
  | [], _, _ => rfl
  | c :: cs, S, h => by
    have h1 := h c (List.mem_cons_self ..)
    show turn cs (step S c) = S
    have e : step S c = S := by
      unfold step
      rw [add1_same h1.mp, add1_same h1.mpr]
    rw [e]
    exact turn_same fun d hd => h d (List.mem_cons_of_mem _ hd)
/-- what holds of what is seen -/
structure Seen (n : Nat) (cs : List (Nat × Nat)) (S : List Nat) : Prop where
  nd : S.Nodup
  me : 0 ∈ S
  lt : ∀ x ∈ S, x < n
  so : ∀ f : Nat → Bool, f 0 = true → (∀ e ∈ cs, f e.1 = f e.2) → ∀ x ∈ S, f x = true
theorem Seen.add {n : Nat} {cs : List (Nat × Nat)} {S : List Nat} (h : Seen n cs S) {a b : Nat} (hb : b < n) (hc : (a, b) ∈ cs ∨ (b, a) ∈ cs) : Seen n cs (add1 S a b) := by
  unfold add1
  by_cases z : a ∈ S ∧ b ∉ S
  · rw [if_pos z]
    refine ⟨?_, List.mem_append_left _ h.me, fun x hx => ?_, fun f f0 fc x hx => ?_⟩
    · rw [List.nodup_append]
      exact ⟨h.nd, by simp, fun x hx y hy e => z.2 (by rw [List.mem_singleton.mp hy] at e; rw [← e]; exact hx)⟩
    · rcases List.mem_append.mp hx with hx | hx
      · exact h.lt x hx
      · rw [List.mem_singleton.mp hx]; exact hb
    · rcases List.mem_append.mp hx with hx | hx
      · exact h.so f f0 fc x hx
      · rw [List.mem_singleton.mp hx]
        have fa := h.so f f0 fc a z.1
        rcases hc with hc | hc
        · rw [← fc _ hc]; exact fa
        · rw [fc _ hc]; exact fa
  · rw [if_neg z]
    exact h
theorem Seen.step {n : Nat} {cs : List (Nat × Nat)} {S : List Nat} (h : Seen n cs S) {c : Nat × Nat} (hc : c ∈ cs) (h1 : c.1 < n) (h2 : c.2 < n) : Seen n cs (step S c) := (h.add h2 (.inl hc)).add h1 (.inr hc)
theorem Seen.turn {n : Nat} {cs : List (Nat × Nat)} (lt : ∀ c ∈ cs, c.1 < n ∧ c.2 < n) : ∀ {ds : List (Nat × Nat)} {S : List Nat}, (∀ d ∈ ds, d ∈ cs) → Seen n cs S → Seen n cs (K7D.turn ds S)
  | [], _, _, h => h
  | d :: ds, S, sub, h => by
    have m := sub d (List.mem_cons_self ..)
    exact Seen.turn (ds := ds) lt (fun e he => sub e (List.mem_cons_of_mem _ he)) (h.step m (lt d m).1 (lt d m).2)
theorem Seen.runs {n : Nat} {cs : List (Nat × Nat)} (n0 : 0 < n) (lt : ∀ c ∈ cs, c.1 < n ∧ c.2 < n) : ∀ t, Seen n cs (K7D.runs cs t)
  | 0 => ⟨List.nodup_cons.mpr ⟨List.not_mem_nil, List.nodup_nil⟩, List.mem_cons_self .., fun x hx => by rw [List.mem_singleton.mp hx]; exact n0, fun f f0 _ x hx => by rw [List.mem_singleton.mp hx]; exact f0⟩
  | t + 1 => (Seen.runs n0 lt t).turn lt fun _ h => h
theorem runs_grow (cs : List (Nat × Nat)) : ∀ t, (∀ c ∈ cs, (c.1 ∈ runs cs t ↔ c.2 ∈ runs cs t)) ∨ t + 1 ≤ (runs cs t).length
  | 0 => .inr (Nat.le_refl _)
  | t + 1 => by
    show (∀ c ∈ cs, (c.1 ∈ turn cs (runs cs t) ↔ c.2 ∈ turn cs (runs cs t))) ∨ t + 1 + 1 ≤ (turn cs (runs cs t)).length
    rcases turn_grow cs (runs cs t) with ⟨e, h⟩ | h
    · rw [e]
      exact .inl h
    · rcases runs_grow cs t with k | k
      · rw [turn_same k]
        exact .inl k
      · exact .inr (by omega)
theorem nodup_lt {n : Nat} {S : List Nat} (nd : S.Nodup) (lt : ∀ x ∈ S, x < n) : S.length ≤ n := by
  have k : ∀ (n : Nat) (S : List Nat), S.Nodup → (∀ x ∈ S, x < n) → S.length ≤ n := fun n => by
    induction n with
    | zero =>
      intro S _ h
      cases S with
      | nil => exact Nat.le_refl _
      | cons x S => exact absurd (h x (List.mem_cons_self ..)) (Nat.not_lt_zero _)
    | succ n ih =>
      intro S nd h
      have e := ih (S.erase n) (nd.sublist (List.erase_sublist ..)) fun x hx => by
        have h1 := h x (List.mem_of_mem_erase hx)
        have h2 : x ≠ n := fun e => by
          subst e
          exact (List.Nodup.mem_erase_iff nd).mp hx |>.1 rfl
        omega
      have : S.length ≤ (S.erase n).length + 1 := by
        by_cases m : n ∈ S
        · rw [List.length_erase_of_mem m]; omega
        · rw [List.erase_of_not_mem m]; omega
      omega
  exact k n S nd lt
theorem runs_conn {n : Nat} {cs : List (Nat × Nat)} (n0 : 0 < n) (lt : ∀ c ∈ cs, c.1 < n ∧ c.2 < n) : (runs cs n).length = n ↔ KL.Conn n cs := by
  have s := Seen.runs n0 lt n
  have le := nodup_lt s.nd s.lt
  have cl : ∀ c ∈ cs, (c.1 ∈ runs cs n ↔ c.2 ∈ runs cs n) := (runs_grow cs n).elim id fun h => by omega
  constructor
  · intro len f f0 fc c hc
    refine s.so f f0 fc c ?_
    refine Classical.byContradiction fun m => ?_
    have z := nodup_lt (n := n) (S := c :: runs cs n) (List.nodup_cons.mpr ⟨m, s.nd⟩) fun x hx => by
      rcases List.mem_cons.mp hx with rfl | hx
      · exact hc
      · exact s.lt x hx
    rw [List.length_cons] at z
    omega
  · intro con
    refine KL.all_len s.nd s.lt (KL.conn_closed con s.me fun a b hab ha => ?_)
    rcases hab with h | h
    · exact (cl _ h).mp ha
    · exact (cl _ h).mpr ha
end K7D
end
/-! ## P22 -/
section
open PySem PySem.Spec PyProof.Rows L2
namespace K7
abbrev N__law_is_land : List Str := ["_law_n", "_law_roads", "_law_couples", "_law_k", "_law_cell", "_law_seen", "_law_turn", "_law_low", "_law_high"]
abbrev s__law_is_land : Stmt := topS 37
theorem sc__law_is_land : FnScope ["_law_n", "_law_roads", "_law_couples", "_law_k", "_law_cell", "_law_seen", "_law_turn", "_law_low", "_law_high"] ["_law_n", "_law_roads", "_law_couples"] (defScope s__law_is_land) := ⟨rfl, rfl, rfl, by decide +kernel, rfl, by decide +kernel, by decide +kernel⟩
/-! ### the law's own land or none -/
theorem cut_upto {ds : List Nat} {j : Nat} (h : j < ds.length) : cutV (ints_ ds) none (some ((j : Nat) : Int)) = ints_ (ds.take j) := by
  unfold cutV
  have a : HT.sIx (ints_ ds).length 0 none = 0 := rfl
  have b : HT.sIx (ints_ ds).length (ints_ ds).length (some ((j : Nat) : Int)) = j := by
    rw [HT.sIx_nat, ints_len, Nat.min_eq_left (by omega)]
  rw [a, b, List.drop_zero, Nat.sub_zero]
  unfold ints_
  rw [List.map_take]
theorem add1_two (S : List Nat) (a b : Nat) : (K7D.add1 S a b).length ≤ S.length + 1 := by
  unfold K7D.add1
  split
  · rw [List.length_append]; exact Nat.le_refl _
  · omega
theorem add_if {K1 : PySem.W.Frag} {i j s : Nat} {D : Ends} {σ : L2.St} {H : Hp} {a b : Nat} {S : Addr} {L : List Nat} (hi : σ[i]? = some (some (.int (a : Nat)))) (hj : σ[j]? = some (some (.int (b : Nat)))) (hs : σ[s]? = some (some (.ref S))) (hS : H S = some (.lst (ints_ L))) (len : L.length ≤ 50000)
    (h : ∀ H', H' S = some (.lst (ints_ (K7D.add1 L a b))) → (∀ z o, z ≠ S → H z = some o → H' z = some o) → D.nx σ H') :
    tIfS (tAnd (tTest (tOp (rIn K1 false) (tVar i) (tVar s))) (tTest (tOp (rIn K1 true) (tVar j) (tVar s)))) (tDrop (tBM K1 "list" rAppend (tVar s) (tCons (tVar j) tNil))) tNext D σ H := by
  refine ⟨_, hi, _, hs, S, _, rfl, .inl (.inl (.inl hS)), rfl, flat_ints _, _, rfl, ?_⟩
  rw [inV_ints]
  by_cases h1 : a ∈ L
  · refine iteTo (decide_eq_true h1) ?_
    refine ⟨_, hj, _, hs, S, _, rfl, .inl (.inl (.inl hS)), rfl, flat_ints _, _, rfl, ?_⟩
    by_cases h2 : b ∈ L
    · refine iteFo (by show (!inV (.int (b : Nat)) (ints_ L)) = false; rw [inV_ints, decide_eq_true h2]; rfl) ?_
      exact h H (by unfold K7D.add1; rw [if_neg (fun z => z.2 h2)]; exact hS) fun _ _ _ z => z
    · refine iteTo (by show (!inV (.int (b : Nat)) (ints_ L)) = true; rw [inV_ints, decide_eq_false h2]; rfl) ?_
      refine ⟨_, hs, .inl ⟨rfl, _, .inl (.inl hS)⟩, _, hj, S, _, _, rfl, rfl, hS, by rw [ints_len, sizeLine_eq]; omega, ?_⟩
      refine h _ ?_ fun z o ne hz => by rw [upd_ne ne]; exact hz
      unfold K7D.add1
      rw [upd_same, if_pos ⟨h1, h2⟩, ints_snoc]
  · refine iteFo (decide_eq_false h1) ?_
    exact h H (by unfold K7D.add1; rw [if_neg (fun z => h1 z.1)]; exact hS) fun _ _ _ z => z
section
variable {P : Program} {w : World} {K : PySem.W.Frag} {mg : Str → Option Value} {base : Heap} {a : AdL}
def spIsl : Sp := fun vs H Q _ => ∃ (n : Nat) (ra ca : Addr) (ds : List Nat) (us : List Addr) (cs : List (Nat × Nat)), vs = [.int n, .ref ra, .ref ca] ∧ H ra = some (.lst (ints_ ds)) ∧ H ca = some (.lst (us.map V.ref)) ∧ TAt H us (pairs cs) ∧ n < 10 ∧ ds.length ≤ 1000 ∧ cs.length ≤ 1000 ∧ (∀ c ∈ cs, c.1 < c.2) ∧
  ∀ H' b, Same H H' → (b = true ↔ LandG n cs ds) → Q (.bl b) H'
theorem ok_isl {f : Addr} {fd : FuncData} (F : Fun K "_law_is_land" "_law_is_land" s__law_is_land f fd) (m_len : mg "len" = none) (m_range : mg "range" = none) (m_enumerate : mg "enumerate" = none) : FnOk P w K mg base CX0 1 f fd ["_law_n", "_law_roads", "_law_couples"] spIsl := by
  refine F.ok sc__law_is_land (fun vs H Q E h => ?_) (fun cdv A outer s H vs Q E hr h => ?_)
  · obtain ⟨n, ra, ca, ds, us, cs, rfl, _⟩ := h
    rfl
  · obtain ⟨n, ra, ca, ds, us, cs, rfl, hra, hca, hu, n9, dl, cl, clt, q⟩ := h
    refine ⟨_, (pss_cons (ps_if (pw_or (pt_cmpR op_lt (pv 0) pe_int (nomark _)) (pw_or (pt_cmpR op_gt (pv 0) pe_int (nomark _)) (pw_or1 (pt_cmpR op_eq (pe_callB call_len_seq (by rfl) m_len boot_len (pa_cons (pv 1) pa_nil)) (pv 0) (nomark _))))).pt
  (pss_one (ps_ret pe_bl))
  pss_nil)
 (pss_cons (ps_for PassesOwn.never rfl (pi_enum (by rfl) m_enumerate (pa_cons (pv 1) pa_nil)) (pg_tup rfl (pgs_cons (pg_name (i := 3) sc__law_is_land.nd rfl (by first | exact Or.inl rfl | exact Or.inr rfl)) (pgs_cons (pg_name (i := 4) sc__law_is_land.nd rfl (by first | exact Or.inl rfl | exact Or.inr rfl)) pgs_nil)))
  (pss_one (ps_if (pw_or (pt_cmpR op_ge (pv 4) (pv 0) (nomark _)) (pw_or1 (pt_cmpR op_in_seq (pv 4) (pe_slice sl_list (pv 1) po_none (po_some (pv 3))) (by with_unfolding_all rfl)))).pt
  (pss_one (ps_ret pe_bl))
  pss_nil)))
 (pss_cons (ps_set (i := 5) sc__law_is_land.nd rfl (by first | exact Or.inl rfl | exact Or.inr rfl) (pe_lst (pa_cons pe_int pa_nil)))
 (pss_cons (ps_for PassesOwn.never rfl (pi_range1 rfl m_range (pa_cons (pv 0) pa_nil)) (pg_name (i := 6) sc__law_is_land.nd rfl (by first | exact Or.inl rfl | exact Or.inr rfl))
  (pss_one (ps_for PassesOwn.never rfl (pi_list (pv 2)) (pg_tup rfl (pgs_cons (pg_name (i := 7) sc__law_is_land.nd rfl (by first | exact Or.inl rfl | exact Or.inr rfl)) (pgs_cons (pg_name (i := 8) sc__law_is_land.nd rfl (by first | exact Or.inl rfl | exact Or.inr rfl)) pgs_nil)))
  (pss_cons (ps_if (pt_cmpR op_ge (pv 8) (pv 0) (nomark _))
  (pss_one (ps_ret pe_bl))
  pss_nil)
 (pss_cons (ps_if (pw_and (pt_cmpR op_in_seq (pv 7) (pv 5) (by with_unfolding_all rfl)) (pw_and1 (pt_cmpR op_notIn_seq (pv 8) (pv 5) (by with_unfolding_all rfl)))).pt
  (pss_one (ps_expr (pe_bm PySem.F.plainAttrs_list PySem.F.slot_list_append PySem.F.type_list_append mt_append (pv 5) (pa_cons (pv 8) pa_nil))))
  pss_nil)
 (pss_one (ps_if (pw_and (pt_cmpR op_in_seq (pv 8) (pv 5) (by with_unfolding_all rfl)) (pw_and1 (pt_cmpR op_notIn_seq (pv 7) (pv 5) (by with_unfolding_all rfl)))).pt
  (pss_one (ps_expr (pe_bm PySem.F.plainAttrs_list PySem.F.slot_list_append PySem.F.type_list_append mt_append (pv 5) (pa_cons (pv 7) pa_nil))))
  pss_nil)))))))
 (pss_one (ps_ret (pe_cmpR op_eq (pe_callB call_len_seq (by rfl) m_len boot_len (pa_cons (pv 5) pa_nil)) (pv 0) (nomark _)))))))), ?_⟩
    have nl0 : ∀ {p : Prop}, (LandG n cs ds → p) → ¬ p → (false = true ↔ LandG n cs ds) := fun h1 h2 => ⟨fun e => Bool.noConfusion e, fun l => absurd (h1 l) h2⟩
    have ret : ∀ (σ : L2.St) (H' : Hp), Same H H' → ∀ {p : Prop}, (LandG n cs ds → p) → ¬ p → Q (.bl false) H' := fun _ H' e _ h1 h2 => q H' false e (nl0 h1 h2)
    refine ⟨_, rfl, _, _, rfl, rfl, _, rfl, ?_⟩
    by_cases n2 : 2 ≤ n
    · refine iteFo (decide_eq_false (by omega)) ?_
      refine ⟨_, rfl, _, _, rfl, rfl, _, rfl, ?_⟩
      by_cases n5 : n ≤ 5
      · refine iteFo (decide_eq_false (by omega)) ?_
        refine ⟨_, rfl, ra, _, rfl, .inl (.inl (.inl hra)), _, rfl, rfl, ?_⟩
        rw [ints_len]
        by_cases nl : ds.length = n
        · exact ⟨_, rfl, iteTo (decide_eq_true (by rw [nl])) (ret [] _ (Same.refl H) (fun l => l.ln) (by omega))⟩
        · refine ⟨_, rfl, iteFo (decide_eq_false (fun e => nl (by injection e with e; omega))) ?_⟩
          have hra' : SqL K H ra (ints_ ds) := .inl (.inl hra)
          refine ⟨.ref ra, rfl, ra, _, rfl, hra', for_it (walk_enum (xs := ints_ ds)) (fun j σ H' => ∃ y3 y4, σ = [some (.int (n : Nat)), some (.ref ra), some (.ref ca), y3, y4, none, none, none, none] ∧ Same H H' ∧ (∀ d ∈ ds.take j, d < n) ∧ (ds.take j).Nodup)
            ⟨none, none, rfl, Same.refl H, fun d hd => (by cases hd), List.nodup_nil⟩ (fun j σ H' _ pv => ?_) (fun j v σ H' H'' hj pv y => ?_) (fun σ H' pv => ?_)⟩
          · obtain ⟨y3, y4, rfl, e, _⟩ := pv
            exact .inl (.inl (e _ _ hra))
          · obtain ⟨y3, y4, rfl, e, dn, nd⟩ := pv
            obtain ⟨T, x, y, rfl, nT, rfl, ex, ey⟩ := y
            rw [ints_len] at hj
            obtain rfl : .int (j : Nat) = x := Option.some.inj ex
            have ed : ds[j]? = some ds[j] := List.getElem?_eq_getElem hj
            have tk : ds.take (j + 1) = ds.take j ++ [ds[j]] := by rw [List.take_add_one, ed]; rfl
            have md : ds[j] ∈ ds := List.getElem_mem hj
            generalize ds[j] = d at ed tk md
            obtain rfl : .int (d : Nat) = y := by
              have ey : (ints_ ds)[j]? = some y := ey
              unfold ints_ at ey
              rw [List.getElem?_map, ed] at ey
              exact Option.some.inj ey
            have eT := e.trans (al (o := .tup [.int (j : Nat), .int (d : Nat)]) nT)
            refine ⟨T, _, rfl, .inl (.inl upd_same), rfl, _, _, rfl, _, _, rfl, rfl, ?_⟩
            generalize upd H' T (.tup [.int (j : Nat), .int (d : Nat)]) = H1 at eT ⊢
            refine ⟨_, rfl, _, rfl, _, _, rfl, rfl, _, rfl, ?_⟩
            by_cases h1 : d < n
            · refine iteFo (decide_eq_false (by omega)) ?_
              refine ⟨_, rfl, _, rfl, _, rfl, _, rfl, ra, _, rfl, .inl (.inl (eT _ _ hra)), fun p np => ?_⟩
              have cut : cutV (ints_ ds) none (some ((j : Nat) : Int)) = ints_ (ds.take j) := cut_upto hj
              rw [cut]
              have e2 := eT.trans (al (o := .lst (ints_ (ds.take j))) np)
              have hp : upd H1 p (.lst (ints_ (ds.take j))) p = some (.lst (ints_ (ds.take j))) := upd_same
              generalize upd H1 p (.lst (ints_ (ds.take j))) = H2 at e2 hp ⊢
              refine ⟨p, _, rfl, .inl (.inl (.inl hp)), rfl, flat_ints _, _, rfl, ?_⟩
              rw [inV_ints]
              by_cases h2 : d ∈ ds.take j
              · refine iteTo (decide_eq_true h2) (ret [] _ e2 (fun l => l.nd) fun z => ?_)
                have z2 : (ds.take (j + 1)).Nodup := z.sublist (List.take_sublist ..)
                rw [tk, List.nodup_append] at z2
                exact z2.2.2 d h2 d (List.mem_cons_self ..) rfl
              · refine iteFo (decide_eq_false h2) ⟨_, _, rfl, e2, fun x hx => ?_, ?_⟩
                · rw [tk] at hx
                  rcases List.mem_append.mp hx with hx | hx
                  · exact dn x hx
                  · rw [List.mem_singleton.mp hx]; exact h1
                · rw [tk, List.nodup_append]
                  exact ⟨nd, by simp, fun x hx y hy e => h2 (by rw [List.mem_singleton.mp hy] at e; rw [← e]; exact hx)⟩
            · exact iteTo (decide_eq_true (by omega)) (iteTo rfl (ret [] _ eT (fun l => l.dn d md) h1))
          · obtain ⟨y3, y4, rfl, e, dn, nd⟩ := pv
            rw [ints_len, List.take_length] at dn nd
            have lt : ds.length < n := by
              have := K7D.nodup_lt nd dn
              omega
            have good : (∀ c ∈ cs, c.2 < n) → (LandG n cs ds ↔ (K7D.runs cs n).length = n) := fun cn => by
              rw [K7D.runs_conn (by omega) (fun c m => ⟨by have := clt c m; have := cn c m; omega, cn c m⟩)]
              exact ⟨fun l => l.con, fun c => ⟨n2, n5, cn, dn, nd, lt, c⟩⟩
            refine ⟨by show 1 ≤ sizeLine; decide, fun S np => ?_⟩
            have eS := e.trans (al (o := .lst [.int 0]) np)
            have hS : upd H' S (.lst [.int 0]) S = some (.lst (ints_ [0])) := upd_same
            have nS := e.free np
            generalize upd H' S (.lst [.int 0]) = H1 at eS hS ⊢
            have kp : ∀ {H' : Hp} {o : HO}, Same H H' → Same H (upd H' S o) := fun {H' o} e b z hz => by
              rw [upd_ne (ne_of_none hz nS)]
              exact e b z hz
            refine ⟨_, rfl, n, rfl, by omega, by omega, for_it walk_range (fun t σ H' => ∃ y6 y7 y8, σ = [some (.int (n : Nat)), some (.ref ra), some (.ref ca), y3, y4, some (.ref S), y6, y7, y8] ∧ Same H H' ∧ H' S = some (.lst (ints_ (K7D.runs cs t))) ∧ (0 < t → ∀ c ∈ cs, c.2 < n))
              ⟨none, none, none, rfl, eS, hS, fun z => absurd z (Nat.lt_irrefl _)⟩ (fun t σ H' _ _ => trivial) (fun t x σ H2 H3 ht pv hy => ?_) (fun σ H2 pv => ?_)⟩
            · obtain ⟨y6, y7, y8, rfl, e2, hS2, cn0⟩ := pv
              obtain ⟨rfl, rfl⟩ := hy
              have ul : us.length = cs.length := by rw [hu.len]; unfold pairs; rw [List.length_map]
              have sn : ∀ {S2 : List Nat}, K7D.Seen n cs S2 → S2.length ≤ n := fun h => K7D.nodup_lt h.nd h.lt
              refine ⟨_, rfl, ca, rfl, ⟨_, .inl (.inl (e2 _ _ hca))⟩, for_list (xs := us.map V.ref) (fun k σ H' => ∃ y7 y8, σ = [some (.int (n : Nat)), some (.ref ra), some (.ref ca), y3, y4, some (.ref S), some (.int (0 + (t : Nat))), y7, y8] ∧ Same H H' ∧ H' S = some (.lst (ints_ (K7D.turn (cs.take k) (K7D.runs cs t)))) ∧ (∀ c ∈ cs.take k, c.2 < n) ∧ (K7D.turn (cs.take k) (K7D.runs cs t)).length ≤ 5 + 2 * k)
                ⟨y7, y8, rfl, e2, hS2, fun c hc => (by cases hc), ?_⟩ (fun k σ H' _ pv => ?_) (fun k x σ H' hx pv => ?_) (fun σ H' pv => ?_)⟩
              · show (K7D.runs cs t).length ≤ 5
                cases t with
                | zero => show 1 ≤ 5; decide
                | succ t =>
                  have cn := cn0 (Nat.succ_pos t)
                  have := K7D.Seen.runs (n := n) (cs := cs) (by omega) (fun c m => ⟨by have := clt c m; have := cn c m; omega, cn c m⟩) (t + 1)
                  have := sn this
                  omega
              · obtain ⟨y7, y8, rfl, e4, _⟩ := pv
                exact .inl (.inl (e4 _ _ hca))
              · obtain ⟨y7, y8, rfl, e4, hS4, cn, len⟩ := pv
                rw [List.getElem?_map] at hx
                obtain ⟨u, hu1, rfl⟩ := Option.map_eq_some_iff.mp hx
                have hk : k < cs.length := by rw [← ul]; exact (List.getElem?_eq_some_iff.mp hu1).1
                obtain ⟨r, er, hr'⟩ := hu.get hu1
                unfold pairs at er
                rw [List.getElem?_map, List.getElem?_eq_getElem hk] at er
                obtain rfl := Option.some.inj er
                have mc := List.getElem_mem hk
                have tk : (cs.take (k + 1)) = cs.take k ++ [cs[k]] := by rw [List.take_add_one, List.getElem?_eq_getElem hk]; rfl
                generalize cs[k] = c at hr' mc tk
                obtain ⟨lo, hi⟩ := c
                refine ⟨u, _, rfl, .inl (.inl (e4 _ _ hr')), rfl, _, _, rfl, _, _, rfl, rfl, ?_⟩
                refine ⟨_, rfl, _, rfl, _, _, rfl, rfl, _, rfl, ?_⟩
                by_cases h1 : hi < n
                · refine iteFo (decide_eq_false (by omega)) ?_
                  have tn : K7D.turn (cs.take (k + 1)) (K7D.runs cs t) = K7D.step (K7D.turn (cs.take k) (K7D.runs cs t)) (lo, hi) := by
                    unfold K7D.turn
                    rw [tk, List.foldl_append]
                    rfl
                  rw [tn]
                  generalize K7D.turn (cs.take k) (K7D.runs cs t) = A at hS4 len
                  have l1 := add1_two A lo hi
                  have l2 := add1_two (K7D.add1 A lo hi) hi lo
                  refine add_if (a := lo) (b := hi) (i := 7) (j := 8) rfl rfl rfl hS4 (by omega) fun H5 h5 o5 => add_if (a := hi) (b := lo) (i := 8) (j := 7) rfl rfl rfl h5 (by omega) fun H6 h6 o6 => ?_
                  refine ⟨_, _, rfl, fun z o hz => o6 z o (ne_of_none hz nS) (o5 z o (ne_of_none hz nS) (e4 z o hz)), h6, fun c hc => ?_, ?_⟩
                  · rw [tk] at hc
                    rcases List.mem_append.mp hc with hc | hc
                    · exact cn c hc
                    · rw [List.mem_singleton.mp hc]; exact h1
                  · show (K7D.add1 (K7D.add1 A lo hi) hi lo).length ≤ _
                    omega
                · exact iteTo (decide_eq_true (by omega)) (ret [] _ e4 (fun l => l.cn _ mc) h1)
              · obtain ⟨y7, y8, rfl, e4, hS4, cn, len⟩ := pv
                rw [List.length_map, ul, List.take_length] at hS4 cn
                exact ⟨_, y7, y8, rfl, e4, hS4, fun _ => cn⟩
            · obtain ⟨y6, y7, y8, rfl, e2, hS2, cn0⟩ := pv
              rw [Int.toNat_natCast] at hS2 cn0
              have cn := cn0 (by omega)
              refine ⟨_, rfl, S, _, rfl, .inl (.inl (.inl hS2)), _, rfl, rfl, ?_⟩
              rw [ints_len]
              refine q _ _ e2 ((decide_eq_true_iff).trans ((show _ ↔ (K7D.runs cs n).length = n from ⟨fun e => by injection e with e; omega, fun e => by rw [e]⟩).trans (good cn).symm))
      · exact iteTo (decide_eq_true (by omega)) (iteTo rfl (ret [] _ (Same.refl H) (fun l => l.n5) n5))
    · exact iteTo (decide_eq_true (by omega)) (iteTo rfl (ret [] _ (Same.refl H) (fun l => l.n2) n2))
end
end K7
end
/-! ## P23 -/
section
open PySem PySem.Spec PyProof.Rows L2
namespace K7
abbrev N__law_due : List Str := ["_law_text_here", "_law_rows", "_law_cells", "_law_roads", "_law_couples", "_law_place", "_law_couple"]
abbrev s__law_due : Stmt := topS 38
theorem sc__law_due : FnScope ["_law_text_here", "_law_rows", "_law_cells", "_law_roads", "_law_couples", "_law_place", "_law_couple"] ["_law_text_here"] (defScope s__law_due) := ⟨rfl, rfl, rfl, by decide +kernel, rfl, by decide +kernel, by decide +kernel⟩
/-! ### what is due for a text -/
theorem ite_b {b c : Bool} {A B : Prop} (e : b = c) (h1 : c = true → A) (h0 : c = false → B) : if b = true then A else B := by
  subst e
  cases b with
  | true => exact h1 rfl
  | false => exact h0 rfl
theorem S_of_tl (z : Str) : SX.S (TL.tl z) = z := by
  cases z with
  | mk c =>
    show (⟨c.toList.toArray⟩ : Str) = ⟨c⟩
    rw [Array.toArray_toList]
theorem shapedL_rows (l : List (List Nat)) : SeqAt.shaped (.list (l.map intD)) = true := by
  have z : ((PyData.canLay0 (.tuple (l.map intD))) && decide (PyData.depth (.tuple (l.map intD)) ≤ 64)) = true := shapedT_rows l
  show ((PyData.canLay0 (.list (l.map intD))) && decide (PyData.depth (.list (l.map intD)) ≤ 64)) = true
  simpa [PyData.canLay0, PyData.depth] using z
section
variable {P : Program} {w : World} {K : PySem.W.Frag} {mg : Str → Option Value} {base : Heap} {a : AdL}
/-- what is told: the row and the word, or what the land is made of -/
def DueV (H : Hp) (p : Addr) : Except Nat (Nat × List (Nat × Nat) × List Nat) → Prop
  | .error k => H p = some (.tup [.int (k : Nat), .str "row"])
  | .ok (n, cs, ds) => (¬ LandG n cs ds ∧ H p = some (.tup [.int 0, .str "land"])) ∨ (LandG n cs ds ∧ ∃ N u us, H p = some (.tup [.int (n : Nat), .ref N, .ref u]) ∧ H N = some (.lst (us.map V.ref)) ∧ TAt H us (pairs cs) ∧ H u = some (.lst (ints_ ds)))
/-- the last couple, and the last thing of the list -/
def LastV (H : Hp) (cs : List (Nat × Nat)) (us : List Addr) (last : Option (Nat × Nat)) : Prop := (last = none ∧ cs = [] ∧ us = []) ∨ ∃ c d cs' us' t, last = some (c, d) ∧ cs = cs' ++ [(c, d)] ∧ us = us' ++ [t] ∧ H t = some (.tup (ints_ [c, d]))
def spDue : Sp := fun vs H Q _ => ∃ ts : Str, vs = [.str ts] ∧ ts.length ≤ 1000 ∧ ∀ H' p, Same H H' → H p = none → DueV H' p (readT (TL.spl [10] 0 [] (TL.tl ts))) → Q (.ref p) H'
theorem ok_due {f fld6 fisl : Addr} {fd fdld6 fdisl : FuncData} (F : Fun K "_law_due" "_law_due" s__law_due f fd)
    (Gld6 : FnOk P w K mg base CX0 1 fld6 fdld6 ["_law_row", "_law_head"] spLd6) (gld6 : mg "_law_digits" = some (.ref fld6)) (kld6 : PySem.W.keepIn K (.ref fld6) = true) (bld6 : Binds K fdld6 ["_law_row", "_law_head"] [])
    (Gisl : FnOk P w K mg base CX0 1 fisl fdisl ["_law_n", "_law_roads", "_law_couples"] spIsl) (gisl : mg "_law_is_land" = some (.ref fisl)) (kisl : PySem.W.keepIn K (.ref fisl) = true) (bisl : Binds K fdisl ["_law_n", "_law_roads", "_law_couples"] [])
    (m_len : mg "len" = none) (m_range : mg "range" = none) (m_sorted : mg "sorted" = none) (m_tuple : mg "tuple" = none) : FnOk P w K mg base CX0 2 f fd ["_law_text_here"] spDue := by
  refine F.ok sc__law_due (fun vs H Q E h => ?_) (fun cdv A outer s H vs Q E hr h => ?_)
  · obtain ⟨ts, rfl, _⟩ := h
    rfl
  · obtain ⟨ts, rfl, tl1, q⟩ := h
    refine ⟨_, (pss_cons (ps_set (i := 1) sc__law_due.nd rfl (by first | exact Or.inl rfl | exact Or.inr rfl) (pe_bm PySem.F.plainAttrs_str PySem.F.slot_str_split PySem.F.type_str_split mt_split (pv 0) (pa_cons pe_str pa_nil)))
 (pss_cons (ps_set (i := 2) sc__law_due.nd rfl (by first | exact Or.inl rfl | exact Or.inr rfl) (pe_call Gld6 (hr.mono (by decide)) (by rfl) gld6 kld6 bld6 .nil pass0 (pa_cons (pe_ix ix_list (pv 1) pe_int (fun _ _ => rfl)) (pa_cons pe_str pa_nil))))
 (pss_cons (ps_if (pw_or (pt_cmpR op_isN (pv 2) pe_non (nomark _)) (pw_or1 (pt_cmpR op_ne (pe_callB call_len_seq (by rfl) m_len boot_len (pa_cons (pv 2) pa_nil)) pe_int (nomark _)))).pt
  (pss_one (ps_ret (pe_tup (pa_cons pe_int (pa_cons pe_str pa_nil)))))
  pss_nil)
 (pss_cons (ps_if (pt_cmpR op_eq (pe_callB call_len_seq (by rfl) m_len boot_len (pa_cons (pv 1) pa_nil)) pe_int (nomark _))
  (pss_one (ps_ret (pe_tup (pa_cons pe_int (pa_cons pe_str pa_nil)))))
  pss_nil)
 (pss_cons (ps_set (i := 3) sc__law_due.nd rfl (by first | exact Or.inl rfl | exact Or.inr rfl) (pe_call Gld6 (hr.mono (by decide)) (by rfl) gld6 kld6 bld6 .nil pass0 (pa_cons (pe_ix ix_list (pv 1) pe_int (fun _ _ => rfl)) (pa_cons pe_str pa_nil))))
 (pss_cons (ps_if (pw_or (pt_cmpR op_isN (pv 3) pe_non (nomark _)) (pw_or1 (pt_cmpR (op_neD hr.units) (pv 3) (pe_callB K7S.cr_sortN (by rfl) m_sorted boot_sorted (pa_cons (pv 3) pa_nil)) (nomark _)))).pt
  (pss_one (ps_ret (pe_tup (pa_cons pe_int (pa_cons pe_str pa_nil)))))
  pss_nil)
 (pss_cons (ps_set (i := 4) sc__law_due.nd rfl (by first | exact Or.inl rfl | exact Or.inr rfl) (pe_lst pa_nil))
 (pss_cons (ps_for PassesOwn.never rfl (pi_range2 rfl m_range (pa_cons pe_int (pa_cons (pe_callB call_len_seq (by rfl) m_len boot_len (pa_cons (pv 1) pa_nil)) pa_nil))) (pg_name (i := 5) sc__law_due.nd rfl (by first | exact Or.inl rfl | exact Or.inr rfl))
  (pss_cons (ps_set (i := 6) sc__law_due.nd rfl (by first | exact Or.inl rfl | exact Or.inr rfl) (pe_call Gld6 (hr.mono (by decide)) (by rfl) gld6 kld6 bld6 .nil pass0 (pa_cons (pe_ix ix_list (pv 1) (pv 5) (fun _ _ => rfl)) (pa_cons pe_str pa_nil))))
 (pss_cons (ps_if (pw_or (pt_cmpR op_isN (pv 6) pe_non (nomark _)) (pw_or (pt_cmpR op_ne (pe_callB call_len_seq (by rfl) m_len boot_len (pa_cons (pv 6) pa_nil)) pe_int (nomark _)) (pw_or1 (pt_cmpR op_ge (pe_ix ix_list (pv 6) pe_int (fun _ _ => rfl)) (pe_ix ix_list (pv 6) pe_int (fun _ _ => rfl)) (nomark _))))).pt
  (pss_one (ps_ret (pe_tup (pa_cons (pv 5) (pa_cons pe_str pa_nil)))))
  pss_nil)
 (pss_cons (ps_if (pw_and (pt_cmpR (op_neD hr.units) (pv 4) (pe_lst pa_nil) (nomark _)) (pw_and1 (pt_cmpR (op_leT (Nat.lt_of_le_of_lt (Nat.le_add_right _ _) hr.units)) (pe_callTy call_tuple_of (by rfl) m_tuple boot_tuple (pa_cons (pv 6) pa_nil)) (pe_ix ix_list (pv 4) (pe_un un_neg pe_int) (fun _ _ => rfl)) (nomark _)))).pt
  (pss_one (ps_ret (pe_tup (pa_cons (pv 5) (pa_cons pe_str pa_nil)))))
  pss_nil)
 (pss_one (ps_expr (pe_bm PySem.F.plainAttrs_list PySem.F.slot_list_append PySem.F.type_list_append mt_append (pv 4) (pa_cons (pe_callTy call_tuple_of (by rfl) m_tuple boot_tuple (pa_cons (pv 6) pa_nil)) pa_nil))))))))
 (pss_cons (ps_if (pt_not (pt_val (pe_call Gisl (hr.mono (by decide)) (by rfl) gisl kisl bisl .nil pass0 (pa_cons (pe_ix ix_list (pv 2) pe_int (fun _ _ => rfl)) (pa_cons (pv 3) (pa_cons (pv 4) pa_nil))))))
  (pss_one (ps_ret (pe_tup (pa_cons pe_int (pa_cons pe_str pa_nil)))))
  pss_nil)
 (pss_one (ps_ret (pe_tup (pa_cons (pe_ix ix_list (pv 2) pe_int (fun _ _ => rfl)) (pa_cons (pv 4) (pa_cons (pv 3) pa_nil))))))))))))))), ?_⟩
    have sp := TL.split_spl ts "\n" (by decide +kernel) (TL.kind_ok (by decide +kernel))
    rw [show TL.tl ("\n" : Str) = [10] from by decide +kernel] at sp
    have sL : Txt.split ts "\n" = (TL.spl [10] 0 [] (TL.tl ts)).map SX.S := by
      rw [← sp, List.map_map]
      exact (List.map_id _).symm.trans (List.map_congr_left fun z _ => (S_of_tl z).symm)
    have ne := (K7T.join_spl 10 (TL.tl ts)).2.1
    have lz : ∀ z ∈ TL.spl [10] 0 [] (TL.tl ts), z.length ≤ 1000 := fun z hz => by
      have := K7T.spl_len 10 hz
      rw [TL.len_tl] at tl1
      omega
    have pl : (Txt.split ts "\n").length ≤ ts.length + 2 := PyProof.Rows.split_le ts "\n"
    rw [sL, List.length_map] at pl
    obtain ⟨w1, w2, w3⟩ : ("cells" : Str) = SX.S cellsW ∧ ("roads" : Str) = SX.S roadsW ∧ ("next" : Str) = SX.S nextW := by
      refine ⟨?_, ?_, ?_⟩ <;> decide +kernel
    refine ⟨_, rfl, rfl, _, _, rfl, rfl, by decide +kernel, by rw [sizeLine_eq]; omega, fun p np => ?_⟩
    rw [sL]
    clear sp sL
    generalize TL.spl [10] 0 [] (TL.tl ts) = L at q ne lz pl ⊢
    have e1 := al (o := .lst ((L.map SX.S).map V.str)) np
    have hp : upd H p (.lst ((L.map SX.S).map V.str)) p = some (.lst ((L.map SX.S).map V.str)) := upd_same
    generalize upd H p (.lst ((L.map SX.S).map V.str)) = H1 at e1 hp ⊢
    have d1 : ∀ k : Nat, decide (V.int (k : Nat) = V.int 1) = decide (k = 1) := fun k => len_int k 1
    have d2 : ∀ k : Nat, decide (V.int (k : Nat) = V.int 2) = decide (k = 2) := fun k => len_int k 2
    have fin : ∀ k H', Same H H' → readT L = .error k → ∀ p, H' p = none → Q (.ref p) (upd H' p (.tup [.int (k : Nat), .str "row"])) := fun k H' e hk p np => q _ p (e.trans (al np)) (e.free np) (by rw [hk]; exact upd_same)
    have ll : ((L.map SX.S).map V.str).length = L.length := by rw [List.length_map, List.length_map]
    have atL : ∀ (i : Nat) (r : List Nat), L[i]? = some r → ((L.map SX.S).map V.str)[i]? = some (.str (SX.S r)) := fun _ _ h => by rw [List.getElem?_map, List.getElem?_map, h]; rfl
    match L, q, ne, lz, pl, hp, fin, ll, atL with
    | r0 :: rest, q, ne, lz, pl, hp, fin, ll, atL =>
      have r0l : r0.length ≤ 100000 := Nat.le_trans (lz r0 (List.mem_cons_self ..)) (by decide)
      refine ⟨_, rfl, p, _, _, _, rfl, rfl, .inl (.inl hp), atI_nat (j := 0) (atL 0 r0 rfl), r0, cellsW, by rw [w1]; rfl, r0l, by decide, fun hn H2 e2 => ?_, fun c hc hne H2 u e2 nu hu => ?_⟩
      · have rt : readT (r0 :: rest) = .error 0 := by
          show (match K7T.clF cellsW r0 with | none => _ | some n => _) = _
          have : K7T.clF cellsW r0 = none := by unfold K7T.clF; rcases hn with h | h <;> rw [h]
          rw [this]
        exact ⟨_, rfl, rfl, _, rfl, iteTo rfl (iteTo rfl ⟨by show 2 ≤ sizeLine; decide, fin 0 _ (e1.trans e2) rt⟩)⟩
      · have e12 := e1.trans e2
        have hp2 := e2 _ _ hp
        refine ⟨_, rfl, rfl, _, rfl, iteFo rfl ?_⟩
        refine ⟨_, rfl, u, _, rfl, .inl (.inl (.inl hu)), rfl, _, rfl, ?_⟩
        rw [ints_len, d1]
        match c, hc, hne, hu with
        | _ :: _ :: _, hc, hne, hu =>
          have rt : readT (r0 :: rest) = .error 0 := by
            show (match K7T.clF cellsW r0 with | none => _ | some n => _) = _
            have : K7T.clF cellsW r0 = none := by unfold K7T.clF; rw [hc]
            rw [this]
          rw [decide_eq_false (by simp)]
          exact iteTo rfl ⟨by show 2 ≤ sizeLine; decide, fin 0 _ e12 rt⟩
        | [n], hc, hne, hu =>
          refine iteFo rfl ?_
          have hcl : K7T.clF cellsW r0 = some n := by unfold K7T.clF; rw [hc]
          have n10 : n < 10 := (K7T.digs_enc.mp hc).2 n (List.mem_cons_self ..)
          refine ⟨_, rfl, p, _, rfl, .inl (.inl (.inl hp2)), rfl, _, rfl, ?_⟩
          rw [ll, d1]
          match rest, q, ne, lz, pl, hp2, fin, ll, atL with
          | [], q, ne, lz, pl, hp2, fin, ll, atL =>
            have rt : readT [r0] = .error 1 := by
              show (match K7T.clF cellsW r0 with | none => _ | some n => _) = _
              rw [hcl]
            exact iteTo rfl ⟨by show 2 ≤ sizeLine; decide, fin 1 _ e12 rt⟩
          | r1 :: rs, q, ne, lz, pl, hp2, fin, ll, atL =>
            refine iteFo (decide_eq_false (by simp)) ?_
            have rT : readT (r0 :: r1 :: rs) = match K7T.rdF roadsW r1 with | none => .error 1 | some ds => (K7T.cpl nextW 2 none rs).map fun cs => (n, cs, ds) := by
              show (match K7T.clF cellsW r0 with | none => _ | some n => _) = _
              rw [hcl] <;> rfl
            refine ⟨_, rfl, p, _, _, _, rfl, rfl, .inl (.inl hp2), atI_nat (j := 1) (atL 1 r1 rfl), r1, roadsW, by rw [w2]; rfl, Nat.le_trans (lz r1 (by simp)) (by decide), by decide, fun hn H3 e3 => ?_, fun ds hd dne H3 ud e3 nud hud => ?_⟩
            · have : K7T.rdF roadsW r1 = none := by unfold K7T.rdF; rcases hn with h | h <;> rw [h]; exact if_neg fun z => z.1 rfl
              exact ⟨_, rfl, rfl, _, rfl, iteTo rfl (iteTo rfl ⟨by show 2 ≤ sizeLine; decide, fin 1 _ (e12.trans e3) (by rw [rT, this])⟩)⟩
            · have e13 := e12.trans e3
              have hu3 := e3 _ _ hu
              have hp3 := e3 _ _ hp2
              refine ⟨_, rfl, rfl, _, rfl, iteFo rfl ?_⟩
              refine ⟨_, rfl, _, rfl, ud, ds.map (fun c => ((c : Nat) : Int)), rfl, .inl (by rw [← ints_map]; exact .inl (.inl hud)), fun ms p2 pm so np2 => ?_⟩
              have ems := ints_back pm
              have e12' : ms.map V.int = ints_ (ms.map Int.toNat) := by rw [ints_map, ← ems]
              rw [e12']
              have prd : (ms.map Int.toNat).Perm ds := by
                have z := pm.map Int.toNat
                rw [List.map_map] at z
                exact z.trans (List.Perm.of_eq ((List.map_congr_left fun c _ => rfl).trans (List.map_id ds)))
              have srd : (ms.map Int.toNat).Pairwise (· ≤ ·) := by
                rw [List.pairwise_map]
                exact so.imp fun {a b} h => by omega
              generalize ms.map Int.toNat = rd at prd srd ⊢
              have e4 := al (o := .lst (ints_ rd)) np2
              have hp4 : upd H3 p2 (.lst (ints_ rd)) p2 = some (.lst (ints_ rd)) := upd_same
              refine ⟨_, _, .lst (.inl (.inl (e4 _ _ hud))) (dp_ints ds), .lst (.inl (.inl hp4)) (dp_ints rd), shapedL_ints ds, shapedL_ints rd, _, rfl, ?_⟩
              rw [PyData.eqv, eqv_ints]
              have eq : ds = rd ↔ ds.Pairwise (· ≤ ·) := ⟨fun e => by rw [e]; exact srd, fun h => KL.uniq (fun a b (h1 : a ≤ b) (h2 : b ≤ a) => Nat.le_antisymm h1 h2) prd.symm h srd⟩
              have e14 := e13.trans e4
              by_cases hs : ds.Pairwise (· ≤ ·)
              · rw [decide_eq_true (eq.mpr hs)]
                have hrd : K7T.rdF roadsW r1 = some ds := by unfold K7T.rdF; rw [hd]; exact if_pos ⟨dne, hs⟩
                rw [hrd] at rT
                refine iteFo rfl ?_
                have hu4 := e4 _ _ hu3
                have hp5 := e4 _ _ hp3
                have hud4 := e4 _ _ hud
                clear hp hp2 hp3 hu hu3 hud hp4
                generalize upd H3 p2 (.lst (ints_ rd)) = H4 at e4 e14 hu4 hp5 hud4 ⊢
                refine ⟨by show 0 ≤ sizeLine; decide, fun N nN => ?_⟩
                have e5 := al (o := .lst []) nN
                have hN5 : upd H4 N (.lst []) N = some (.lst (([] : List Addr).map V.ref)) := upd_same
                have e15 := e14.trans e5
                have kp : ∀ {H' : Hp} {ws : List V} {o : HO}, Same H4 H' → H' N = some (.lst ws) → Same H4 (upd H' N o) := fun {H' ws o} e _ b z hz => by
                  rw [upd_ne (ne_of_none hz nN)]
                  exact e b z hz
                generalize upd H4 N (.lst []) = H5 at e5 hN5 e15 ⊢
                have ll2 : (((r0 :: r1 :: rs).map SX.S).map V.str).length = 2 + rs.length := by rw [ll, List.length_cons, List.length_cons]; omega
                refine ⟨_, rfl, p, _, rfl, .inl (.inl (.inl (e5 _ _ hp5))), 2, _, rfl, ⟨by decide, by decide, by rw [ll2]; omega, by rw [ll2]; rw [List.length_cons, List.length_cons] at pl; omega⟩, ?_⟩
                rw [ll2, show (((2 + rs.length : Nat) : Int) - 2).toNat = rs.length by omega]
                refine for_range (lo := 2) (n := rs.length) (fun i σ H' => ∃ cs us last y5 y6, σ = [some (.str ts), some (.ref p), some (.ref u), some (.ref ud), some (.ref N), y5, y6] ∧ Same H4 H' ∧ H' N = some (.lst (us.map V.ref)) ∧ TAt H' us (pairs cs) ∧ us.length = i ∧ LastV H' cs us last ∧
                    K7T.cpl nextW 2 none rs = (K7T.cpl nextW (2 + i) last (rs.drop i)).map fun l => cs ++ l)
                  ⟨[], [], none, none, none, rfl, e5, hN5, .nil, rfl, .inl ⟨rfl, rfl, rfl⟩, ?_⟩ (fun i σ H6 hi pv => ?_) (fun σ H6 pv => ?_)
                · rw [List.drop_zero]
                  cases K7T.cpl nextW (2 + 0) none rs <;> rfl
                · obtain ⟨cs, us, last, y5, y6, rfl, e6, hN6, tU, ul, la, hc⟩ := pv
                  have hir : rs[i]? = some rs[i] := List.getElem?_eq_getElem hi
                  have mz : rs[i] ∈ rs := List.getElem_mem hi
                  generalize rs[i] = z at hir mz
                  have hzp : (r0 :: r1 :: rs)[2 + i]? = some z := by
                    rw [show 2 + i = i + 1 + 1 by omega, List.getElem?_cons_succ, List.getElem?_cons_succ, hir]
                  rw [cpl_step hir] at hc
                  have e16 := e14.trans e6
                  have lz' : z.length ≤ 100000 := Nat.le_trans (lz z (by simp [mz])) (by decide)
                  rw [show (2 : Int) + ((i : Nat) : Int) = ((2 + i : Nat) : Int) by omega]
                  have bad : K7T.cpF nextW last z = none → readT (r0 :: r1 :: rs) = .error (2 + i) := fun hn => by
                    rw [hn] at hc
                    rw [rT]
                    show (K7T.cpl nextW 2 none rs).map (fun cs => (n, cs, ds)) = _
                    rw [hc]
                    rfl
                  refine ⟨_, rfl, _, rfl, p, _, _, _, rfl, rfl, .inl (.inl (e6 _ _ hp5)), atI_nat (atL _ _ hzp), z, nextW, by rw [w3]; rfl, lz', by decide, fun hn H7 e7 => ?_, fun c hc' cne H7 v e7 nv hv => ?_⟩
                  · have : K7T.cpF nextW last z = none := by unfold K7T.cpF; rcases hn with h | h <;> rw [h]
                    exact ⟨_, rfl, rfl, _, rfl, iteTo rfl (iteTo rfl ⟨_, rfl, by show 2 ≤ sizeLine; decide, fin (2 + i) _ (e16.trans e7) (bad this)⟩)⟩
                  · have e17 := e16.trans e7
                    have hN7 := e7 _ _ hN6
                    refine ⟨_, rfl, rfl, _, rfl, iteFo rfl ?_⟩
                    refine ⟨_, rfl, v, _, rfl, .inl (.inl (.inl hv)), rfl, _, rfl, ?_⟩
                    rw [ints_len, d2]
                    have odd : c.length ≠ 2 → K7T.cpF nextW last z = none := fun h => by
                      unfold K7T.cpF
                      rw [hc']
                      match c, h with
                      | [], _ => rfl
                      | [_], _ => rfl
                      | [_, _], h => exact absurd rfl h
                      | _ :: _ :: _ :: _, _ => rfl
                    by_cases c2 : c.length = 2
                    · rw [decide_eq_true c2]
                      refine iteFo rfl ?_
                      match c, c2, hc', hv with
                      | [x, y], _, hc', hv =>
                        refine ⟨_, rfl, v, _, _, _, rfl, rfl, .inl (.inl hv), atI_nat (j := 0) rfl, _, rfl, v, _, _, _, rfl, rfl, .inl (.inl hv), atI_nat (j := 1) rfl, ?_⟩
                        have cpz : K7T.cpF nextW last z = if (decide (x < y) && K7T.afterB last (x, y)) = true then some (x, y) else none := by unfold K7T.cpF; rw [hc']
                        refine ⟨_, _, rfl, rfl, _, rfl, ?_⟩
                        by_cases hxy : x < y
                        · rw [decide_eq_false (show ¬ ((y : Nat) : Int) ≤ ((x : Nat) : Int) by omega)]
                          refine iteFo rfl ?_
                          rw [decide_eq_true hxy, Bool.true_and] at cpz
                          have app : K7T.afterB last (x, y) = true → ∀ H8 t2, Same H7 H8 → H8 t2 = none → ∃ cs' us' last', Same H4 (upd (upd H8 t2 (.tup (ints_ [x, y]))) N (.lst (us.map V.ref ++ [.ref t2]))) ∧ upd (upd H8 t2 (.tup (ints_ [x, y]))) N (.lst (us.map V.ref ++ [.ref t2])) N = some (.lst (us'.map V.ref)) ∧ TAt (upd (upd H8 t2 (.tup (ints_ [x, y]))) N (.lst (us.map V.ref ++ [.ref t2]))) us' (pairs cs') ∧ us'.length = i + 1 ∧ LastV (upd (upd H8 t2 (.tup (ints_ [x, y]))) N (.lst (us.map V.ref ++ [.ref t2]))) cs' us' last' ∧
                              K7T.cpl nextW 2 none rs = (K7T.cpl nextW (2 + (i + 1)) last' (rs.drop (i + 1))).map fun l => cs' ++ l := fun ha H8 t2 e8 nt2 => by
                            rw [ha] at cpz
                            have cpz : K7T.cpF nextW last z = some (x, y) := cpz
                            rw [cpz] at hc
                            have e9 := al (o := .tup (ints_ [x, y])) nt2
                            have ht9 : upd H8 t2 (.tup (ints_ [x, y])) t2 = some (.tup (ints_ [x, y])) := upd_same
                            have e79 := e8.trans e9
                            generalize upd H8 t2 (.tup (ints_ [x, y])) = H9 at e9 ht9 e79 ⊢
                            have hN9 := e79 _ _ hN7
                            have up : ∀ b xs, H9 b = some (.tup xs) → upd H9 N (.lst (us.map V.ref ++ [.ref t2])) b = some (.tup xs) := fun b xs hb => by
                              rw [upd_ne (fun e => by rw [e, hN9] at hb; cases hb)]
                              exact hb
                            refine ⟨cs ++ [(x, y)], us ++ [t2], some (x, y), kp ((e6.trans e7).trans e79) hN9, by rw [upd_same, List.map_append]; rfl, ?_, by rw [List.length_append, ul]; rfl, .inr ⟨x, y, cs, us, t2, rfl, rfl, rfl, up _ _ ht9⟩, ?_⟩
                            · unfold pairs
                              rw [List.map_append]
                              exact ((tU.same (e7.trans e79)).mono up).append (.cons (up _ _ ht9) .nil)
                            · rw [hc]
                              show ((K7T.cpl nextW (2 + i + 1) (some (x, y)) (rs.drop (i + 1))).map fun l => (x, y) :: l).map (fun l => cs ++ l) = (K7T.cpl nextW (2 + (i + 1)) (some (x, y)) (rs.drop (i + 1))).map fun l => (cs ++ [(x, y)]) ++ l
                              rw [show 2 + i + 1 = 2 + (i + 1) by omega]
                              cases K7T.cpl nextW (2 + (i + 1)) (some (x, y)) (rs.drop (i + 1)) with
                              | error e => rfl
                              | ok l =>
                                show Except.ok (cs ++ ((x, y) :: l)) = Except.ok ((cs ++ [(x, y)]) ++ l)
                                rw [List.append_assoc]
                                rfl
                          have usz : (us.map V.ref).length < sizeLine := by rw [List.length_map, ul, sizeLine_eq]; rw [List.length_cons, List.length_cons] at pl; omega
                          refine ⟨_, rfl, by show 0 ≤ sizeLine; decide, fun q0 nq0 => ?_⟩
                          have e8 := al (o := .lst []) nq0
                          have hq8 : upd H7 q0 (.lst []) q0 = some (.lst []) := upd_same
                          generalize upd H7 q0 (.lst []) = H8 at e8 hq8 ⊢
                          have hN8 := e8 _ _ hN7
                          have hv8 := e8 _ _ hv
                          refine ⟨.list ((pairs cs).map intD), .list ((pairs []).map intD), .lst (.inl (.inl hN8)) (dp_rows (tU.same (e7.trans e8))), .lst (.inl (.inl hq8)) .nil, shapedL_rows _, shapedL_rows _, _, rfl, ?_⟩
                          rw [PyData.eqv, eqv_rows]
                          rcases la with ⟨rfl, rfl, rfl⟩ | ⟨lc, ld, cs', us', t, rfl, rfl, rfl, ht⟩
                          · refine iteFo rfl ?_
                            refine ⟨_, rfl, .inl ⟨rfl, _, .inl (.inl hN8)⟩, _, rfl, v, _, rfl, .inl ⟨.inl (.inl hv8), fun t2 nt2 => ⟨N, _, _, rfl, rfl, (al nt2) _ _ hN8, usz, ?_⟩⟩⟩
                            obtain ⟨cs2, us2, last2, z1, z2, z3, z4, z5, z6⟩ := app rfl H8 t2 e8 nt2
                            exact ⟨cs2, us2, last2, _, _, rfl, z1, z2, z3, z4, z5, z6⟩
                          · rw [decide_eq_false (show ¬ cs' ++ [(lc, ld)] = [] from by simp)]
                            refine iteTo rfl ?_
                            refine ⟨_, rfl, v, _, rfl, .inl ⟨.inl (.inl hv8), fun t1 nt1 => ?_⟩⟩
                            have e9 := al (o := .tup (ints_ [x, y])) nt1
                            have ht9 : upd H8 t1 (.tup (ints_ [x, y])) t1 = some (.tup (ints_ [x, y])) := upd_same
                            generalize upd H8 t1 (.tup (ints_ [x, y])) = H9 at e9 ht9 ⊢
                            have hN9 := e9 _ _ hN8
                            rw [List.map_append] at hN9
                            have htt := e9 _ _ (e8 _ _ (e7 _ _ ht))
                            refine ⟨_, rfl, 1, rfl, N, _, _, _, rfl, rfl, .inl (.inl hN9), atI_last _ _, t1, t, [(x : Int), (y : Int)], [(lc : Int), (ld : Int)], rfl, rfl, .inl (.inl ht9), .inl (.inl htt), _, rfl, ?_⟩
                            refine ite_b (lexAt_two x y lc ld) (fun h => ?_) (fun h => ?_)
                            · have ha : K7T.afterB (some (lc, ld)) (x, y) = false := by
                                show K7T.lexB (lc, ld) (x, y) = false
                                cases hb : K7T.lexB (lc, ld) (x, y) with
                                | false => rfl
                                | true => rw [hb] at h; cases h
                              rw [ha] at cpz
                              exact ⟨_, rfl, by show 2 ≤ sizeLine; decide, fin (2 + i) _ ((e17.trans e8).trans e9) (bad cpz)⟩
                            · have ha : K7T.afterB (some (lc, ld)) (x, y) = true := by
                                show K7T.lexB (lc, ld) (x, y) = true
                                cases hb : K7T.lexB (lc, ld) (x, y) with
                                | true => rfl
                                | false => rw [hb] at h; cases h
                              rw [← List.map_append] at hN9
                              refine ⟨_, rfl, .inl ⟨rfl, _, .inl (.inl hN9)⟩, _, rfl, v, _, rfl, .inl ⟨.inl (.inl (e9 _ _ hv8)), fun t2 nt2 => ⟨N, _, _, rfl, rfl, (al nt2) _ _ hN9, usz, ?_⟩⟩⟩
                              obtain ⟨cs2, us2, last2, z1, z2, z3, z4, z5, z6⟩ := app ha H9 t2 (e8.trans e9) nt2
                              exact ⟨cs2, us2, last2, _, _, rfl, z1, z2, z3, z4, z5, z6⟩
                        · rw [decide_eq_true (show ((y : Nat) : Int) ≤ ((x : Nat) : Int) by omega)]
                          rw [decide_eq_false hxy, Bool.false_and] at cpz
                          exact iteTo rfl ⟨_, rfl, by show 2 ≤ sizeLine; decide, fin (2 + i) _ e17 (bad cpz)⟩
                    · rw [decide_eq_false c2]
                      exact iteTo rfl (iteTo rfl ⟨_, rfl, by show 2 ≤ sizeLine; decide, fin (2 + i) _ e17 (bad (odd c2))⟩)
                · obtain ⟨cs, us, last, y5, y6, rfl, e6, hN6, tU, ul, la, hc⟩ := pv
                  rw [List.drop_of_length_le (Nat.le_refl _)] at hc
                  have hc : K7T.cpl nextW 2 none rs = .ok cs := by
                    rw [hc]
                    show Except.ok (cs ++ []) = _
                    rw [List.append_nil]
                  have rt : readT (r0 :: r1 :: rs) = .ok (n, cs, ds) := by
                    rw [rT]
                    show (K7T.cpl nextW 2 none rs).map (fun cs => (n, cs, ds)) = _
                    rw [hc]
                    rfl
                  have cl : cs.length = us.length := by rw [tU.len]; unfold pairs; rw [List.length_map]
                  have e16 := e14.trans e6
                  obtain ⟨R, _⟩ := readT_is rt
                  have dl : ds.length ≤ 1000 := by
                    have z := lz r1 (by simp)
                    rw [(K7T.digs_enc.mp hd).1, List.length_append, enc_len] at z
                    omega
                  refine ⟨_, rfl, u, _, _, _, rfl, rfl, .inl (.inl (e6 _ _ hu4)), atI_nat (j := 0) rfl, _, rfl, _, rfl, n, ud, N, ds, us, cs, rfl, e6 _ _ hud4, hN6, tU, n10, dl, by rw [cl, ul]; rw [List.length_cons, List.length_cons] at pl; omega, fun c m => (R.cl c m).1, fun H7 b e7 hb => ?_⟩
                  have e17 := e16.trans e7
                  cases b with
                  | true =>
                    refine ⟨_, rfl, iteFo rfl ?_⟩
                    refine ⟨_, rfl, u, _, _, _, rfl, rfl, .inl (.inl (e7 _ _ (e6 _ _ hu4))), atI_nat (j := 0) rfl, _, rfl, _, rfl, by show 3 ≤ sizeLine; decide, fun p9 np9 => q _ p9 (e17.trans (al np9)) (e17.free np9) ?_⟩
                    rw [rt]
                    have e79 := e7.trans (al (o := .tup [.int (n : Nat), .ref N, .ref ud]) np9)
                    exact .inr ⟨hb.mp rfl, N, ud, us, upd_same, e79 _ _ hN6, tU.same e79, e79 _ _ (e6 _ _ hud4)⟩
                  | false =>
                    refine ⟨_, rfl, iteTo rfl ⟨by show 2 ≤ sizeLine; decide, fun p9 np9 => q _ p9 (e17.trans (al np9)) (e17.free np9) ?_⟩⟩
                    rw [rt]
                    exact .inl ⟨fun g => (nomatch hb.mpr g), upd_same⟩
              · rw [decide_eq_false (fun e => hs (eq.mp e))]
                have : K7T.rdF roadsW r1 = none := by unfold K7T.rdF; rw [hd]; exact if_neg fun z => hs z.2
                exact iteTo rfl ⟨by show 2 ≤ sizeLine; decide, fin 1 _ e14 (by rw [rT, this])⟩
end
end K7
end
/-! ## P24 -/
section
open PySem PySem.Spec PyProof.Rows L2
namespace K7
abbrev N__law_told : List Str := ["_law_text_here", "_law_land_here", "_law_told_here", "e"]
abbrev s__law_told : Stmt := topS 39
theorem sc__law_told : FnScope ["_law_text_here", "_law_land_here", "_law_told_here", "e"] ["_law_text_here"] (defScope s__law_told) := ⟨rfl, rfl, rfl, by decide +kernel, rfl, by decide +kernel, by decide +kernel⟩
/-! ### what is told of a text -/
structure Te6 (K : PySem.W.Frag) (mg : Str → Option Value) (B L : Addr) : Prop where
  gL : mg "LandError" = some (.ref L)
  exT : ExcC K B
  xfT : XfC K B
  mT : PySem.W.exmOne K (.ref B) (.ref L) = some true
  kT : PySem.W.kitOne K (.ref B) (.ref B) = some true
section
variable {P : Program} {w : World} {K : PySem.W.Frag} {mg : Str → Option Value} {base : Heap} {a : AdL} {BT iT L : Addr}
theorem NoTxt.same {H H1 : Hp} {v : V} (h : NoTxt K H v) (e : Same H H1) : NoTxt K H1 v := by
  obtain ⟨t, ty, k⟩ := h
  exact ⟨t, fun H2 e2 => ty H2 (e.trans e2), k⟩
/-- nothing is read, and this row and word are told -/
def ToldE (H : Hp) (p : Addr) (r wd : V) : Prop := ∃ t, H p = some (.tup [.non, .ref t]) ∧ H t = some (.tup [.bl true, r, wd])
def spTl6 (a : AdL) (K : PySem.W.Frag) : Sp := fun vs H Q _ => ∃ v : V, vs = [v] ∧ ((NoTxt K H v ∧ ∀ H' p, Same H H' → H p = none → ToldE H' p (.int 0) (.str "text") → Q (.ref p) H') ∨ ∃ ts : Str, v = .str ts ∧ ts.length ≤ 1000 ∧
  (∀ n cs ds, readT (TL.spl [10] 0 [] (TL.tl ts)) = .ok (n, cs, ds) → cs.length ≤ 32 ∧ ds.length < 64) ∧
  (∀ k, readT (TL.spl [10] 0 [] (TL.tl ts)) = .error k → ∀ H' p, Same H H' → H p = none → ToldE H' p (.int (k : Nat)) (.str "row") → Q (.ref p) H') ∧
  (∀ n cs ds, readT (TL.spl [10] 0 [] (TL.tl ts)) = .ok (n, cs, ds) → ¬ LandG n cs ds → ∀ H' p, Same H H' → H p = none → ToldE H' p (.int 0) (.str "land") → Q (.ref p) H') ∧
  (∀ n cs ds, readT (TL.spl [10] 0 [] (TL.tl ts)) = .ok (n, cs, ds) → LandG n cs ds → ∀ H' p l, Same H H' → H p = none → H' p = some (.tup [.ref l, .non]) → H l = none → LandO a.C H' l n cs ds → Q (.ref p) H'))
theorem ok_tl6 (TX : Bx K mg BT iT) (T3 : Te6 K mg BT L) {f fpl : Addr} {fd fdpl : FuncData} (F : Fun K "_law_told" "_law_told" s__law_told f fd)
    (Gpl : FnOk P w K mg base (L2.CX P w) 7 fpl fdpl ["text"] (spPl a BT K)) (gpl : mg "parse_land" = some (.ref fpl)) (kpl : PySem.W.keepIn K (.ref fpl) = true) (bpl : Binds K fdpl ["text"] []) (m_isinstance : mg "isinstance" = none) : FnOk P w K mg base CX0 8 f fd ["_law_text_here"] (spTl6 a K) := by
  refine F.ok sc__law_told (fun vs H Q E h => ?_) (fun cdv A outer s H vs Q E hr h => ?_)
  · obtain ⟨v, rfl, _⟩ := h
    rfl
  · obtain ⟨v, rfl, h⟩ := h
    refine ⟨_, (pss_cons (ps_asg (pe_tup (pa_cons pe_non (pa_cons pe_non pa_nil))) (pg_tup rfl (pgs_cons (pg_name (i := 1) sc__law_told.nd rfl (by first | exact Or.inl rfl | exact Or.inr rfl)) (pgs_cons (pg_name (i := 2) sc__law_told.nd rfl (by first | exact Or.inl rfl | exact Or.inr rfl)) pgs_nil))))
 (pss_cons (ps_try_as (i := 3) rfl rfl sc__law_told.nd rfl rfl ⟨rfl, by decide, .inl T3.gL⟩ takes0 (fun W pn xe tk _ => (pss_one (ps_set (i := 1) sc__law_told.nd rfl (by first | exact Or.inl rfl | exact Or.inr rfl) (K7E.pe_callW Gpl (hr.mono (by decide)) (by rfl) gpl kpl bpl .nil tk (pa_cons (pv 0) pa_nil))))) (fun b oe cls d pn hz hf => (pss_one (ps_set (i := 2) sc__law_told.nd rfl (by first | exact Or.inl rfl | exact Or.inr rfl) (pe_tup (pa_cons (pe_callB (K7E.call_isEdX T3.exT hz hf) (by rfl) m_isinstance boot_isinstance (pa_cons (pv 3) (pa_cons (pe_glob (v := .ref _) (by rfl) TX.g rfl) pa_nil))) (pa_cons (pe_xf T3.xfT TX.noR hz hf (pv 3)) (pa_cons (pe_xf T3.xfT TX.noW hz hf (pv 3)) pa_nil))))))))
 (pss_one (ps_ret (pe_tup (pa_cons (pv 1) (pa_cons (pv 2) pa_nil))))))), ?_⟩
    refine ⟨by show 2 ≤ sizeLine; decide, fun c nc => ?_⟩
    have e0 := al (o := .tup [.non, .non]) nc
    refine ⟨c, _, rfl, .inl (.inl upd_same), rfl, _, _, rfl, _, _, rfl, rfl, ?_⟩
    generalize upd H c (.tup [.non, .non]) = H0 at e0 ⊢
    refine ⟨v, rfl, v, rfl, ?_⟩
    rcases h with ⟨nt, k⟩ | ⟨ts, rfl, tl1, bnd, fe, fb, q⟩
    · refine .inl ⟨nt.same e0, ?_⟩
      intro H1 d e1 nd hd
      refine ⟨true, T3.mT, fun _ b hb => ?_, fun z => nomatch z⟩
      refine ⟨_, rfl, rfl, d, rfl, .ref BT, .ref BT, true, _, rfl, fun u h => h, T3.kT, hd, ?_⟩
      refine ⟨_, rfl, rfl, rfl, d, _, _, rfl, hd, rfl, ?_⟩
      refine ⟨_, rfl, rfl, rfl, d, _, _, rfl, hd, rfl, ?_⟩
      refine ⟨by show 3 ≤ sizeLine; decide, fun t nt => ?_⟩
      refine ⟨_, rfl, _, rfl, by show 2 ≤ sizeLine; decide, fun p np => k _ p (((e0.trans e1).trans (al nt)).trans (al np)) (((e0.trans e1).trans (al nt)).free np) ⟨t, upd_same, (al np) _ _ upd_same⟩⟩
    · refine .inr ⟨ts, rfl, tl1, bnd, fun r hr' => ?_, fun n cs ds hr' ng => ?_, fun n cs ds hr' g H1 l e1 nl Lo => ?_⟩
      · have k := fe r hr'
        intro H1 d e1 nd hd
        refine ⟨true, T3.mT, fun _ b hb => ?_, fun z => nomatch z⟩
        refine ⟨_, rfl, rfl, d, rfl, .ref BT, .ref BT, true, _, rfl, fun u h => h, T3.kT, hd, ?_⟩
        refine ⟨_, rfl, rfl, rfl, d, _, _, rfl, hd, rfl, ?_⟩
        refine ⟨_, rfl, rfl, rfl, d, _, _, rfl, hd, rfl, ?_⟩
        refine ⟨by show 3 ≤ sizeLine; decide, fun t nt => ?_⟩
        refine ⟨_, rfl, _, rfl, by show 2 ≤ sizeLine; decide, fun p np => k _ p (((e0.trans e1).trans (al nt)).trans (al np)) (((e0.trans e1).trans (al nt)).free np) ⟨t, upd_same, (al np) _ _ upd_same⟩⟩
      · have k := fb n cs ds hr' ng
        intro H1 d e1 nd hd
        refine ⟨true, T3.mT, fun _ b hb => ?_, fun z => nomatch z⟩
        refine ⟨_, rfl, rfl, d, rfl, .ref BT, .ref BT, true, _, rfl, fun u h => h, T3.kT, hd, ?_⟩
        refine ⟨_, rfl, rfl, rfl, d, _, _, rfl, hd, rfl, ?_⟩
        refine ⟨_, rfl, rfl, rfl, d, _, _, rfl, hd, rfl, ?_⟩
        refine ⟨by show 3 ≤ sizeLine; decide, fun t nt => ?_⟩
        refine ⟨_, rfl, _, rfl, by show 2 ≤ sizeLine; decide, fun p np => k _ p (((e0.trans e1).trans (al nt)).trans (al np)) (((e0.trans e1).trans (al nt)).free np) ⟨t, upd_same, (al np) _ _ upd_same⟩⟩
      · refine ⟨_, rfl, _, rfl, by show 2 ≤ sizeLine; decide, fun p np => q n cs ds hr' g _ p l ((e0.trans e1).trans (al np)) ((e0.trans e1).free np) upd_same (e0.free nl) (Lo.same (al np))⟩
end
end K7
end
/-! ## TE -/
section
namespace K7T
/-! ### how long the rows are, and how many -/
theorem glue (s : Nat) (a b : List Nat) : ∃ pa la hb tb, TL.spl [s] 0 [] a = pa ++ [la] ∧ TL.spl [s] 0 [] b = hb :: tb ∧ TL.spl [s] 0 [] (a ++ b) = pa ++ (la ++ hb) :: tb := by
  obtain ⟨p, ps, e1, f1, n1⟩ := spl_parts s a [] List.not_mem_nil
  obtain ⟨hb, tb, e2, f2, n2⟩ := spl_parts s b [] List.not_mem_nil
  rw [List.nil_append] at f1 f2
  rcases List.eq_nil_or_concat ps with rfl | ⟨ps', x, rfl⟩
  · refine ⟨[], p, hb, tb, e1, e2, ?_⟩
    rw [List.flatMap_nil, List.append_nil] at f1
    rw [f1, f2, ← List.append_assoc]
    refine spl_flat s fun q hq => ?_
    rcases List.mem_cons.mp hq with rfl | hq
    · intro h
      rcases List.mem_append.mp h with h | h
      · exact n1 _ (List.mem_cons_self ..) h
      · exact n2 _ (List.mem_cons_self ..) h
    · exact n2 _ (List.mem_cons_of_mem _ hq)
  · refine ⟨p :: ps', x, hb, tb, by rw [e1, List.concat_eq_append]; rfl, e2, ?_⟩
    rw [List.concat_eq_append] at f1 n1
    have k := spl_flat s (p := p) (ps := ps' ++ (x ++ hb) :: tb) fun q hq => by
      rcases List.mem_cons.mp hq with rfl | hq
      · exact n1 _ (List.mem_cons_self ..)
      · rcases List.mem_append.mp hq with hq | hq
        · exact n1 _ (List.mem_cons_of_mem _ (List.mem_append_left _ hq))
        · rcases List.mem_cons.mp hq with rfl | hq
          · intro h
            rcases List.mem_append.mp h with h | h
            · exact n1 x (by simp) h
            · exact n2 _ (List.mem_cons_self ..) h
          · exact n2 _ (List.mem_cons_of_mem _ hq)
    rw [show a ++ b = p ++ (ps' ++ (x ++ hb) :: tb).flatMap fun q => s :: q from ?_]
    · rw [k]; rfl
    · rw [f1, f2]
      simp [List.flatMap_append, List.append_assoc]
/-- no row longer than R, no more than N rows -/
def Rows (R N : Nat) (l : List Nat) : Prop := (∀ q ∈ TL.spl [10] 0 [] l, q.length ≤ R) ∧ (TL.spl [10] 0 [] l).length ≤ N
theorem rows_app {R R' N N' : Nat} {a b : List Nat} (h1 : Rows R N a) (h2 : Rows R' N' b) : Rows (R + R') (N + N' - 1) (a ++ b) := by
  obtain ⟨pa, la, hb, tb, e1, e2, e3⟩ := glue 10 a b
  unfold Rows at *
  rw [e1] at h1
  rw [e2] at h2
  rw [e3]
  refine ⟨fun q hq => ?_, ?_⟩
  · rcases List.mem_append.mp hq with hq | hq
    · have := h1.1 q (List.mem_append_left _ hq)
      omega
    · rcases List.mem_cons.mp hq with rfl | hq
      · have := h1.1 la (by simp)
        have := h2.1 hb (by simp)
        rw [List.length_append]
        omega
      · have := h2.1 q (List.mem_cons_of_mem _ hq)
        omega
  · have := h1.2
    have := h2.2
    simp only [List.length_append, List.length_cons, List.length_nil] at *
    omega
theorem rows_cut {R N : Nat} {a b : List Nat} (h : Rows R N (a ++ b)) : ∃ n m, Rows R n a ∧ Rows R m b ∧ n + m = N + 1 ∧ 1 ≤ n ∧ 1 ≤ m := by
  obtain ⟨pa, la, hb, tb, e1, e2, e3⟩ := glue 10 a b
  unfold Rows at *
  rw [e3] at h
  have l := h.2
  rw [e1, e2]
  simp only [List.length_append, List.length_cons, List.length_nil] at l ⊢
  refine ⟨pa.length + 1, N - pa.length, ⟨fun q hq => ?_, by omega⟩, ⟨fun q hq => ?_, by omega⟩, by omega, by omega, by omega⟩
  · rcases List.mem_append.mp hq with hq | hq
    · exact h.1 q (List.mem_append_left _ hq)
    · have := h.1 (la ++ hb) (by simp)
      rw [List.length_append] at this
      rw [List.mem_singleton.mp hq]
      omega
  · rcases List.mem_cons.mp hq with rfl | hq
    · have := h.1 (la ++ q) (by simp)
      rw [List.length_append] at this
      omega
    · exact h.1 q (List.mem_append_right _ (List.mem_cons_of_mem _ hq))
/-- a piece put in for another one -/
theorem rows_edit {R N r k : Nat} {a x b m : List Nat} (h : Rows R N (a ++ x ++ b)) (hm : Rows r k m) : Rows (R + r + R) (N + k) (a ++ m ++ b) := by
  obtain ⟨n1, n2, h1, h2, s1, g1, g2⟩ := rows_cut h
  obtain ⟨n3, n4, h3, h4, s2, g3, g4⟩ := rows_cut h1
  have z := rows_app (rows_app h3 hm) h2
  exact ⟨fun q hq => z.1 q hq, Nat.le_trans z.2 (by omega)⟩
theorem Rows.mono {R N R' N' : Nat} {l : List Nat} (h : Rows R N l) (hr : R ≤ R') (hn : N ≤ N') : Rows R' N' l := ⟨fun q hq => Nat.le_trans (h.1 q hq) hr, Nat.le_trans h.2 hn⟩
end K7T
namespace K7T
def tot (L : List (List Nat)) : Nat := (L.map fun q => q.length + 1).sum
theorem tot_app (a b : List (List Nat)) : tot (a ++ b) = tot a + tot b := by
  unfold tot
  rw [List.map_append, List.sum_append]
theorem flat_tot (ps : List (List Nat)) : (ps.flatMap fun q => 10 :: q).length = tot ps := by
  induction ps with
  | nil => rfl
  | cons q ps ih =>
    rw [List.flatMap_cons, List.length_append, ih, List.length_cons]
    show _ = tot ([q] ++ ps)
    rw [tot_app]
    rfl
theorem join_tot (L : List (List Nat)) : (TL.joinL [10] L).length ≤ tot L ∧ (L ≠ [] → tot L = (TL.joinL [10] L).length + 1) := by
  cases L with
  | nil => exact ⟨Nat.le_refl _, fun h => absurd rfl h⟩
  | cons p ps =>
    have e : (TL.joinL [10] (p :: ps)).length + 1 = tot (p :: ps) := by
      rw [joinL_cons, List.length_append, flat_tot]
      show _ = tot ([p] ++ ps)
      rw [tot_app]
      show p.length + tot ps + 1 = (p.length + 1 + 0) + tot ps
      omega
    exact ⟨by omega, fun _ => e.symm⟩
theorem sum_tot (L : List (List Nat)) : (L.map (·.length)).sum + L.length = tot L := by
  induction L with
  | nil => rfl
  | cons q L ih =>
    show _ = tot ([q] ++ L)
    rw [tot_app, ← ih, List.map_cons, List.sum_cons, List.length_cons]
    show _ = (q.length + 1 + 0) + _
    omega
theorem rows_join {R N : Nat} {L : List (List Nat)} (h : ∀ q ∈ L, 10 ∉ q ∧ q.length ≤ R) (n : L.length ≤ N) (n1 : 1 ≤ N) : Rows R N (TL.joinL [10] L) := by
  cases L with
  | nil =>
    refine ⟨fun q hq => ?_, ?_⟩
    · rw [show TL.spl [10] 0 [] (TL.joinL [10] []) = [[]] from TL.spl_nil _ _ _, List.mem_singleton] at hq
      rw [hq]
      exact Nat.zero_le _
    · rw [show TL.spl [10] 0 [] (TL.joinL [10] []) = [[]] from TL.spl_nil _ _ _]
      exact n1
  | cons p ps =>
    have e : TL.spl [10] 0 [] (TL.joinL [10] (p :: ps)) = p :: ps := TL.spl_join (by simp) fun q hq => (h q hq).1
    exact ⟨fun q hq => by rw [e] at hq; exact (h q hq).2, by rw [e]; exact n⟩
theorem tot_erase {L : List (List Nat)} {r : Nat} {row : List Nat} (h : L[r]? = some row) : tot (L.eraseIdx r) + row.length + 1 = tot L := by
  obtain ⟨hr, e⟩ := List.getElem?_eq_some_iff.mp h
  rw [List.eraseIdx_eq_take_drop_succ, tot_app]
  have : tot L = tot (L.take r ++ ([row] ++ L.drop (r + 1))) := by
    rw [← e, List.singleton_append, ← List.drop_eq_getElem_cons hr, List.take_append_drop]
  rw [this, tot_app, tot_app]
  show _ = _ + ((row.length + 1 + 0) + _)
  omega
end K7T
end
/-! ## P25 -/
section
open PySem PySem.Spec PyProof.Rows L2
namespace K7
abbrev N__law_spoilt : List Str := ["_law_hand_here", "_law_text_here", "_law_sort", "_law_place", "_law_sign", "_law_rows", "_law_row", "_law_at"]
abbrev s__law_spoilt : Stmt := topS 40
theorem sc__law_spoilt : FnScope ["_law_hand_here", "_law_text_here", "_law_sort", "_law_place", "_law_sign", "_law_rows", "_law_row", "_law_at"] ["_law_hand_here", "_law_text_here"] (defScope s__law_spoilt) := ⟨rfl, rfl, rfl, by decide +kernel, rfl, by decide +kernel, by decide +kernel⟩
/-! ### a text with a sign or a row changed -/
theorem signs {j : Nat} {v : V} (h : ([.str "0", .str "1", .str "2", .str "3", .str "4", .str "5", .str "6", .str " ", .str "\n", .str "x", .str "-", .str "next 0 1", .str "\nnext 3 4"] : List V)[j]? = some v) : ∃ m, v = .str (SX.S m) ∧ K7T.Rows 9 2 m ∧ m.length ≤ 9 := by
  have all : ∀ z ∈ ([ "0", "1", "2", "3", "4", "5", "6", " ", "\n", "x", "-", "next 0 1", "\nnext 3 4"] : List Str), ((∀ q ∈ TL.spl [10] 0 [] (TL.tl z), q.length ≤ 9) ∧ (TL.spl [10] 0 [] (TL.tl z)).length ≤ 2) ∧ (TL.tl z).length ≤ 9 := by decide +kernel
  have h : (([ "0", "1", "2", "3", "4", "5", "6", " ", "\n", "x", "-", "next 0 1", "\nnext 3 4"] : List Str).map V.str)[j]? = some v := h
  rw [List.getElem?_map] at h
  obtain ⟨z, hz, rfl⟩ := Option.map_eq_some_iff.mp h
  obtain ⟨a1, a2⟩ := all z (List.mem_of_getElem? hz)
  exact ⟨TL.tl z, by rw [S_of_tl], a1, a2⟩
section
variable {P : Program} {w : World} {K : PySem.W.Frag} {mg : Str → Option Value} {base : Heap} {a : AdL}
def spSo : Sp := fun vs H Q _ => ∃ (ha c : Addr) (l : List Nat) (R N : Nat), vs = [.ref ha, .str (SX.S l)] ∧ Hand H ha c ∧ l ≠ [] ∧ l.length ≤ 1000 ∧ K7T.Rows R N l ∧ 9 ≤ R ∧ ∀ H' l', But ha H H' → Hand H' ha c → K7T.Rows (2 * R + 9) (N + 2) l' → l'.length ≤ l.length + R + 9 → Q (.str (SX.S l')) H'
theorem ok_so {f fD fpk : Addr} {fd fdD fdpk : FuncData} (F : Fun K "_law_spoilt" "_law_spoilt" s__law_spoilt f fd)
    (Glaw_draw : FnOk P w K mg base CX0 2 fD fdD ["_law_hand_here", "_law_many"] spDraw) (glaw_draw : mg "_law_draw" = some (.ref fD)) (klaw_draw : PySem.W.keepIn K (.ref fD) = true) (blaw_draw : Binds K fdD ["_law_hand_here", "_law_many"] [])
    (Gpk : FnOk P w K mg base CX0 3 fpk fdpk ["_law_hand_here", "_law_things"] spPick) (gpk : mg "_law_pick" = some (.ref fpk)) (kpk : PySem.W.keepIn K (.ref fpk) = true) (bpk : Binds K fdpk ["_law_hand_here", "_law_things"] [])
    (m_len : mg "len" = none) : FnOk P w K mg base CX0 4 f fd ["_law_hand_here", "_law_text_here"] spSo := by
  refine F.ok sc__law_spoilt (fun vs H Q E h => ?_) (fun cdv A outer s H vs Q E hr h => ?_)
  · obtain ⟨ha, c, l, R, N, rfl, _⟩ := h
    rfl
  · obtain ⟨ha, c, l, R, N, rfl, hh, l0, l1, rw, r9, q⟩ := h
    refine ⟨_, (pss_cons (ps_set (i := 2) sc__law_spoilt.nd rfl (by first | exact Or.inl rfl | exact Or.inr rfl) (pe_call Glaw_draw (hr.mono (by decide)) (by rfl) glaw_draw klaw_draw blaw_draw .nil pass0 (pa_cons (pv 0) (pa_cons pe_int pa_nil))))
 (pss_cons (ps_set (i := 3) sc__law_spoilt.nd rfl (by first | exact Or.inl rfl | exact Or.inr rfl) (pe_call Glaw_draw (hr.mono (by decide)) (by rfl) glaw_draw klaw_draw blaw_draw .nil pass0 (pa_cons (pv 0) (pa_cons (pe_callB call_len_str (by rfl) m_len boot_len (pa_cons (pv 1) pa_nil)) pa_nil))))
 (pss_cons (ps_if (pt_cmpR op_eq (pv 2) pe_int (nomark _))
  (pss_one (ps_ret (pe_op op_add_str (pe_slice C8.sl_txt (pv 1) po_none (po_some (pv 3))) (pe_slice C8.sl_txt (pv 1) (po_some (pe_op op_add (pv 3) pe_int)) po_none))))
  pss_nil)
 (pss_cons (ps_set (i := 4) sc__law_spoilt.nd rfl (by first | exact Or.inl rfl | exact Or.inr rfl) (pe_call Gpk (hr.mono (by decide)) (by rfl) gpk kpk bpk .nil pass0 (pa_cons (pv 0) (pa_cons (pe_lst (pa_cons pe_str (pa_cons pe_str (pa_cons pe_str (pa_cons pe_str (pa_cons pe_str (pa_cons pe_str (pa_cons pe_str (pa_cons pe_str (pa_cons pe_str (pa_cons pe_str (pa_cons pe_str (pa_cons pe_str (pa_cons pe_str pa_nil)))))))))))))) pa_nil))))
 (pss_cons (ps_if (pt_cmpR op_eq (pv 2) pe_int (nomark _))
  (pss_one (ps_ret (pe_op op_add_str (pe_op op_add_str (pe_slice C8.sl_txt (pv 1) po_none (po_some (pv 3))) (pv 4)) (pe_slice C8.sl_txt (pv 1) (po_some (pv 3)) po_none))))
  pss_nil)
 (pss_cons (ps_if (pt_cmpR op_eq (pv 2) pe_int (nomark _))
  (pss_one (ps_ret (pe_op op_add_str (pe_op op_add_str (pe_slice C8.sl_txt (pv 1) po_none (po_some (pv 3))) (pv 4)) (pe_slice C8.sl_txt (pv 1) (po_some (pe_op op_add (pv 3) pe_int)) po_none))))
  pss_nil)
 (pss_cons (ps_set (i := 5) sc__law_spoilt.nd rfl (by first | exact Or.inl rfl | exact Or.inr rfl) (pe_bm PySem.F.plainAttrs_str PySem.F.slot_str_split PySem.F.type_str_split mt_split (pv 1) (pa_cons pe_str pa_nil)))
 (pss_cons (ps_set (i := 6) sc__law_spoilt.nd rfl (by first | exact Or.inl rfl | exact Or.inr rfl) (pe_bm PySem.F.plainAttrs_list PySem.F.slot_list_pop PySem.F.type_list_pop mt_popAt (pv 5) (pa_cons (pe_call Glaw_draw (hr.mono (by decide)) (by rfl) glaw_draw klaw_draw blaw_draw .nil pass0 (pa_cons (pv 0) (pa_cons (pe_callB call_len_seq (by rfl) m_len boot_len (pa_cons (pv 5) pa_nil)) pa_nil))) pa_nil)))
 (pss_cons (ps_if (pt_cmpR op_eq (pv 2) pe_int (nomark _))
  (pss_one (ps_ret (pe_bm PySem.F.plainAttrs_str PySem.F.slot_str_join PySem.F.type_str_join mt_join pe_str (pa_cons (pv 5) pa_nil))))
  pss_nil)
 (pss_cons (ps_set (i := 7) sc__law_spoilt.nd rfl (by first | exact Or.inl rfl | exact Or.inr rfl) (pe_call Glaw_draw (hr.mono (by decide)) (by rfl) glaw_draw klaw_draw blaw_draw .nil pass0 (pa_cons (pv 0) (pa_cons (pe_op op_add (pe_callB call_len_seq (by rfl) m_len boot_len (pa_cons (pv 5) pa_nil)) pe_int) pa_nil))))
 (pss_one (ps_ret (pe_bm PySem.F.plainAttrs_str PySem.F.slot_str_join PySem.F.type_str_join mt_join pe_str (pa_cons (pe_op op_cat (pe_op op_cat (pe_op op_cat (pe_slice sl_list (pv 5) po_none (po_some (pv 7))) (pe_lst (pa_cons (pv 6) pa_nil))) (pe_slice sl_list (pv 5) (po_some (pv 7)) po_none)) (pe_ifExp (pt_cmpR op_eq (pv 2) pe_int (nomark _)) (pe_lst (pa_cons (pv 6) pa_nil)) (pe_lst pa_nil))) pa_nil)))))))))))))), ?_⟩
    have l4 : 0 < l.length := List.length_pos_iff.mpr l0
    have zl : (SX.S l).length ≤ sizeLine := by rw [SX.S_len, sizeLine_eq]; omega
    have to_ : ∀ k : Nat, Txt.slice (SX.S l) none (some ((k : Nat) : Int)) = SX.S (l.take k) := fun k => by rw [SX.slice_to (by omega), Int.toNat_natCast]
    have fr_ : ∀ k : Nat, Txt.slice (SX.S l) (some ((k : Nat) : Int)) none = SX.S (l.drop k) := fun k => by rw [SX.slice_from (by omega), Int.toNat_natCast]
    refine ⟨_, rfl, ha, c, 6, rfl, hh, by decide, by decide, fun H1 r1 d1 r10 r11 => ?_⟩
    refine ⟨_, rfl, _, rfl, SX.S l, rfl, zl, ha, c, _, rfl, d1.hand, by rw [SX.S_len]; omega, Int.lt_of_le_of_lt (show (((SX.S l).length : Nat) : Int) ≤ 1000 by rw [SX.S_len]; omega) (by decide), fun H2 r2 d2 r20 r21 => ?_⟩
    rw [SX.S_len] at r21
    obtain ⟨k, rfl⟩ : ∃ k : Nat, r2 = (k : Int) := ⟨r2.toNat, by omega⟩
    have kl : k < l.length := by omega
    have b2 : But ha H H2 := fun b o hb e => by rw [d2.but b hb, d1.but b hb]; exact e
    have pure0 : K7T.Rows (2 * R + 9) (N + 2) (l.take k ++ l.drop (k + 1)) := by
      have z : K7T.Rows R N (l.take k ++ [l[k]] ++ l.drop (k + 1)) := by
        rw [List.append_assoc, List.singleton_append, ← List.drop_eq_getElem_cons kl, List.take_append_drop]
        exact rw
      have e := K7T.rows_edit (m := []) (r := 0) (k := 1) z ⟨fun q hq => by rw [show TL.spl [10] 0 [] [] = [[]] from TL.spl_nil _ _ _, List.mem_singleton] at hq; rw [hq]; exact Nat.le_refl _, by rw [show TL.spl [10] 0 [] [] = [[]] from TL.spl_nil _ _ _]; exact Nat.le_refl _⟩
      rw [List.append_nil] at e
      exact e.mono (by omega) (by omega)
    refine ⟨_, rfl, rfl, _, rfl, ?_⟩
    by_cases h0 : r1 = 0
    · subst h0
      refine iteTo rfl ?_
      refine ⟨_, rfl, _, rfl, _, rfl, _, rfl, zl, ?_⟩
      refine ⟨_, rfl, _, rfl, _, _, rfl, rfl, _, rfl, _, rfl, zl, ?_⟩
      rw [to_, show ((k : Nat) : Int) + 1 = ((k + 1 : Nat) : Int) by omega, fr_]
      refine ⟨_, _, rfl, rfl, by rw [SX.S_len, SX.S_len, List.length_take, List.length_drop, sizeLine_eq]; omega, ?_⟩
      rw [S_add]
      exact q _ _ b2 d2.hand pure0 (by rw [List.length_append, List.length_take, List.length_drop]; omega)
    · refine iteFo (decide_eq_false fun e => h0 (by injection e)) ?_
      have hne : ∀ s, H2 s = none → s ≠ ha := fun s hs e => by
        obtain ⟨ns, i, x, t, h1, _⟩ := d2.hand
        rw [← e, hs] at h1
        cases h1
      refine ⟨_, rfl, by show 13 ≤ sizeLine; decide, fun s hs => ⟨ha, c, s, _, rfl, d2.hand.same (al hs), hne s hs, upd_same, by decide, by decide, fun H3 j v d3 hj => ?_⟩⟩
      obtain ⟨m, rfl, mr, ml⟩ := signs hj
      have b3 : But ha H H3 := fun b o hb e => by rw [d3.but b hb]; exact (al hs) b o (b2 b o hb e)
      have h3 := d3.hand
      clear d1 d2 d3 hj
      generalize H3 = H3 at b3 h3 ⊢
      have z0 : K7T.Rows R N (l.take k ++ [] ++ l.drop k) := by
        rw [List.append_nil, List.take_append_drop]
        exact rw
      have z1 : K7T.Rows R N (l.take k ++ [l[k]] ++ l.drop (k + 1)) := by
        rw [List.append_assoc, List.singleton_append, ← List.drop_eq_getElem_cons kl, List.take_append_drop]
        exact rw
      refine ⟨_, rfl, rfl, _, rfl, ?_⟩
      by_cases h1 : r1 = 1
      · subst h1
        refine iteTo rfl ?_
        refine ⟨_, rfl, _, rfl, _, rfl, _, rfl, zl, ?_⟩
        rw [to_]
        refine ⟨_, rfl, _, _, rfl, rfl, by rw [SX.S_len, SX.S_len, List.length_take, sizeLine_eq]; omega, ?_⟩
        refine ⟨_, rfl, _, rfl, _, rfl, _, rfl, zl, ?_⟩
        rw [fr_, S_add]
        refine ⟨_, _, rfl, rfl, by rw [SX.S_len, SX.S_len, List.length_append, List.length_take, List.length_drop, sizeLine_eq]; omega, ?_⟩
        rw [S_add]
        exact q _ _ b3 h3 ((K7T.rows_edit z0 mr).mono (by omega) (by omega)) (by rw [List.length_append, List.length_append, List.length_take, List.length_drop]; omega)
      refine iteFo (decide_eq_false fun e => h1 (by injection e)) ?_
      refine ⟨_, rfl, rfl, _, rfl, ?_⟩
      by_cases h2 : r1 = 2
      · subst h2
        refine iteTo rfl ?_
        refine ⟨_, rfl, _, rfl, _, rfl, _, rfl, zl, ?_⟩
        rw [to_]
        refine ⟨_, rfl, _, _, rfl, rfl, by rw [SX.S_len, SX.S_len, List.length_take, sizeLine_eq]; omega, ?_⟩
        refine ⟨_, rfl, _, rfl, _, _, rfl, rfl, _, rfl, _, rfl, zl, ?_⟩
        rw [show ((k : Nat) : Int) + 1 = ((k + 1 : Nat) : Int) by omega, fr_, S_add]
        refine ⟨_, _, rfl, rfl, by rw [SX.S_len, SX.S_len, List.length_append, List.length_take, List.length_drop, sizeLine_eq]; omega, ?_⟩
        rw [S_add]
        exact q _ _ b3 h3 ((K7T.rows_edit z1 mr).mono (by omega) (by omega)) (by rw [List.length_append, List.length_append, List.length_take, List.length_drop]; omega)
      refine iteFo (decide_eq_false fun e => h2 (by injection e)) ?_
      have sp := TL.split_spl (SX.S l) "\n" (by decide +kernel) (TL.kind_ok (by decide +kernel))
      rw [show TL.tl ("\n" : Str) = [10] from by decide +kernel] at sp
      have sL : Txt.split (SX.S l) "\n" = (TL.spl [10] 0 [] l).map SX.S := by
        rw [show TL.tl (SX.S l) = l from rfl] at sp
        rw [← sp, List.map_map]
        exact (List.map_id _).symm.trans (List.map_congr_left fun z _ => (S_of_tl z).symm)
      have pl : (Txt.split (SX.S l) "\n").length ≤ (SX.S l).length + 2 := PyProof.Rows.split_le (SX.S l) "\n"
      rw [sL, List.length_map, SX.S_len] at pl
      obtain ⟨jl, ne, n10⟩ := K7T.join_spl 10 l
      obtain ⟨rR, rN⟩ := rw
      refine ⟨_, rfl, rfl, _, _, rfl, rfl, by decide +kernel, by rw [SX.S_len, sizeLine_eq]; omega, fun p np => ?_⟩
      rw [sL]
      generalize TL.spl [10] 0 [] l = L at jl ne n10 rR rN pl ⊢
      have e4 := al (o := .lst ((L.map SX.S).map V.str)) np
      have hp : upd H3 p (.lst ((L.map SX.S).map V.str)) p = some (.lst ((L.map SX.S).map V.str)) := upd_same
      have h4 := h3.same e4
      have b4 : But ha H (upd H3 p (.lst ((L.map SX.S).map V.str))) := fun b o hb e => e4 _ _ (b3 b o hb e)
      have pne : p ≠ ha := (h3.ne np).1
      generalize upd H3 p (.lst ((L.map SX.S).map V.str)) = H4 at e4 hp h4 b4 ⊢
      have lp : 0 < L.length := List.length_pos_iff.mpr ne
      refine ⟨_, rfl, .inl ⟨rfl, _, .inl (.inl hp)⟩, _, rfl, _, rfl, p, _, rfl, .inl (.inl (.inl hp)), ha, c, _, rfl, h4, by rw [List.length_map, List.length_map]; omega, Int.lt_of_le_of_lt (show ((((L.map SX.S).map V.str).length : Nat) : Int) ≤ 2000 by rw [List.length_map, List.length_map]; omega) (by decide), fun H5 r5 d5 r50 r51 => ?_⟩
      rw [List.length_map, List.length_map] at r51
      obtain ⟨r, rfl⟩ : ∃ r : Nat, r5 = (r : Int) := ⟨r5.toNat, by omega⟩
      have rl : r < L.length := by omega
      have hr5 : L[r]? = some L[r] := List.getElem?_eq_getElem rl
      have mr5 := List.getElem_mem rl
      generalize L[r] = row at hr5 mr5
      have hp5 : H5 p = some (.lst ((L.map SX.S).map V.str)) := by rw [d5.but p pne]; exact hp
      refine ⟨p, _, (r : Nat), r, .str (SX.S row), rfl, rfl, hp5, by omega, by omega, ?_, by rw [List.getElem?_map, List.getElem?_map, hr5]; rfl, ?_⟩
      · exact (ixN_seq (ixN_nat (by rw [List.length_map, List.length_map]; exact rl))).1
      have ee : ((L.map SX.S).map V.str).eraseIdx r = ((L.eraseIdx r).map SX.S).map V.str := by
        rw [List.eraseIdx_eq_take_drop_succ, List.eraseIdx_eq_take_drop_succ, ← List.map_take, ← List.map_drop, ← List.map_take, ← List.map_drop, ← List.map_append, ← List.map_append]
      rw [ee]
      have b6 : But ha H (upd H5 p (.lst (((L.eraseIdx r).map SX.S).map V.str))) := fun b o hb e => by
        have e5 := b4 b o hb e
        rw [upd_ne (fun z => by rw [z] at e; have := b3 p o pne (by rw [← z]; exact (by rw [z]; exact e)); rw [np] at this; cases this), d5.but b hb]
        exact e5
      have h6 : Hand (upd H5 p (.lst (((L.eraseIdx r).map SX.S).map V.str))) ha c := d5.hand.upd pne ((h3.ne np).2)
      have hp6 : upd H5 p (.lst (((L.eraseIdx r).map SX.S).map V.str)) p = some (.lst (((L.eraseIdx r).map SX.S).map V.str)) := upd_same
      have te := K7T.tot_erase hr5
      have tl := (K7T.join_tot L).2 ne
      rw [jl] at tl
      have sub : ∀ q ∈ L.eraseIdx r, q ∈ L := fun q hq => (List.eraseIdx_sublist ..).subset hq
      have le := List.length_eraseIdx_of_lt rl
      have rowR := rR _ mr5
      generalize upd H5 p (.lst (((L.eraseIdx r).map SX.S).map V.str)) = H6 at b6 h6 hp6 ⊢
      generalize L.eraseIdx r = M at hp6 te sub le ⊢
      have w6 : ("\n" : Str) = SX.S [10] := words_S.2.2.2.2.2
      have size : ∀ L' : List (List Nat), K7T.tot L' ≤ 5000 → ((L'.map SX.S).map (·.length)).sum + (L'.map SX.S).length * (SX.S [10]).length ≤ 16777216 := fun L' h => by
        rw [SX.lens, List.length_map]
        show _ + L'.length * 1 ≤ _
        have := K7T.sum_tot L'
        omega
      have fin : ∀ (L' : List (List Nat)), (∀ q ∈ L', q ∈ L) → L'.length ≤ N + 2 → K7T.tot L' ≤ l.length + R + 9 → K7T.Rows (2 * R + 9) (N + 2) (TL.joinL [10] L') ∧ (TL.joinL [10] L').length ≤ l.length + R + 9 := fun L' h1 h2 h3 =>
        ⟨(K7T.rows_join (fun q hq => ⟨n10 q (h1 q hq), rR q (h1 q hq)⟩) h2 (by omega)).mono (by omega) (Nat.le_refl _), Nat.le_trans (K7T.join_tot L').1 h3⟩
      refine ⟨_, rfl, rfl, _, rfl, ?_⟩
      by_cases h33 : r1 = 3
      · subst h33
        refine iteTo rfl ?_
        obtain ⟨f1, f2⟩ := fin M sub (by omega) (by omega)
        refine ⟨rfl, _, rfl, SX.S [10], p, _, congrArg V.str w6, rfl, .inl (.inl (.inl hp6)), size M (by omega), ?_⟩
        rw [SX.join_S]
        exact q _ _ b6 h6 f1 f2
      refine iteFo (decide_eq_false fun e => h33 (by injection e)) ?_
      have Ml : ((M.map SX.S).map V.str).length = M.length := by rw [List.length_map, List.length_map]
      refine ⟨_, rfl, _, rfl, p, _, rfl, .inl (.inl (.inl hp6)), _, _, rfl, rfl, ha, c, _, rfl, h6, by rw [Ml]; omega, Int.lt_of_le_of_lt (show ((((M.map SX.S).map V.str).length : Nat) : Int) + 1 ≤ 2001 by rw [Ml]; omega) (by decide), fun H7 r7 d7 r70 r71 => ?_⟩
      rw [Ml] at r71
      obtain ⟨t, rfl⟩ : ∃ t : Nat, r7 = (t : Int) := ⟨r7.toNat, by omega⟩
      have tM : t ≤ M.length := by omega
      have hp7 : H7 p = some (.lst ((M.map SX.S).map V.str)) := by rw [d7.but p pne]; exact hp6
      have b7 : But ha H H7 := fun b o hb e => by rw [d7.but b hb]; exact b6 b o hb e
      have h7 := d7.hand
      have c1 : cutV ((M.map SX.S).map V.str) none (some ((t : Nat) : Int)) = ((M.take t).map SX.S).map V.str := by
        unfold cutV
        rw [HT.sIx_nat, show HT.sIx ((M.map SX.S).map V.str).length 0 none = 0 from rfl, Ml, Nat.min_eq_left tM, List.drop_zero, Nat.sub_zero, List.map_take, List.map_take]
      have c2 : cutV ((M.map SX.S).map V.str) (some ((t : Nat) : Int)) none = ((M.drop t).map SX.S).map V.str := by
        unfold cutV
        rw [HT.sIx_nat, show HT.sIx ((M.map SX.S).map V.str).length ((M.map SX.S).map V.str).length none = ((M.map SX.S).map V.str).length from rfl, Ml, Nat.min_eq_left tM, List.map_drop, List.map_drop]
        exact List.take_of_length_le (by rw [List.length_drop, Ml]; exact Nat.le_refl _)
      have mlen : M.length ≤ 2000 := by omega
      have cat : ∀ (A B : List (List Nat)), ((A.map SX.S).map V.str) ++ ((B.map SX.S).map V.str) = (((A ++ B).map SX.S).map V.str) := fun A B => by rw [List.map_append, List.map_append]
      have sz : ∀ (A B : List (List Nat)), A.length ≤ 5000 → B.length ≤ 5000 → ((A.map SX.S).map V.str).length + ((B.map SX.S).map V.str).length ≤ sizeLine := fun A B h1 h2 => by rw [List.length_map, List.length_map, List.length_map, List.length_map, sizeLine_eq]; omega
      refine ⟨rfl, _, rfl, _, rfl, _, rfl, p, _, rfl, .inl (.inl hp7), fun p1 n1 => ?_⟩
      rw [c1]
      have g1 := al (o := .lst (((M.take t).map SX.S).map V.str)) n1
      have k1 : upd H7 p1 (.lst (((M.take t).map SX.S).map V.str)) p1 = some (.lst (((M.take t).map SX.S).map V.str)) := upd_same
      generalize upd H7 p1 (.lst (((M.take t).map SX.S).map V.str)) = H8 at g1 k1 ⊢
      refine ⟨_, rfl, by show 1 ≤ sizeLine; decide, fun p2 n2 => ?_⟩
      have g2 := al (o := .lst [V.str (SX.S row)]) n2
      have k2 : upd H8 p2 (.lst [V.str (SX.S row)]) p2 = some (.lst ((([row] : List (List Nat)).map SX.S).map V.str)) := upd_same
      generalize upd H8 p2 (.lst [V.str (SX.S row)]) = H9 at g2 k2 ⊢
      refine ⟨p1, p2, _, _, rfl, rfl, g2 _ _ k1, k2, sz _ _ (by rw [List.length_take]; omega) (by show 1 ≤ 5000; decide), fun p3 n3 => ?_⟩
      rw [cat]
      have g3 := al (o := .lst (((M.take t ++ [row]).map SX.S).map V.str)) n3
      have k3 : upd H9 p3 (.lst (((M.take t ++ [row]).map SX.S).map V.str)) p3 = some (.lst (((M.take t ++ [row]).map SX.S).map V.str)) := upd_same
      have g79 := (g1.trans g2).trans g3
      generalize upd H9 p3 (.lst (((M.take t ++ [row]).map SX.S).map V.str)) = G0 at g3 k3 g79 ⊢
      refine ⟨_, rfl, _, rfl, _, rfl, p, _, rfl, .inl (.inl (g79 _ _ hp7)), fun p4 n4 => ?_⟩
      rw [c2]
      have g4 := al (o := .lst (((M.drop t).map SX.S).map V.str)) n4
      have k4 : upd G0 p4 (.lst (((M.drop t).map SX.S).map V.str)) p4 = some (.lst (((M.drop t).map SX.S).map V.str)) := upd_same
      generalize upd G0 p4 (.lst (((M.drop t).map SX.S).map V.str)) = G1 at g4 k4 ⊢
      refine ⟨p3, p4, _, _, rfl, rfl, g4 _ _ k3, k4, sz _ _ (by rw [List.length_append, List.length_take]; show _ + 1 ≤ 5000; omega) (by rw [List.length_drop]; omega), fun p5 n5 => ?_⟩
      rw [cat]
      have g5 := al (o := .lst (((M.take t ++ [row] ++ M.drop t).map SX.S).map V.str)) n5
      have k5 : upd G1 p5 (.lst (((M.take t ++ [row] ++ M.drop t).map SX.S).map V.str)) p5 = some (.lst (((M.take t ++ [row] ++ M.drop t).map SX.S).map V.str)) := upd_same
      have g7 := (g79.trans g4).trans g5
      have tI : K7T.tot (M.take t ++ [row] ++ M.drop t) = l.length + 1 := by
        rw [K7T.tot_app, K7T.tot_app]
        have : K7T.tot M = K7T.tot (M.take t) + K7T.tot (M.drop t) := by rw [← K7T.tot_app, List.take_append_drop]
        have : K7T.tot [row] = row.length + 1 := rfl
        omega
      have lI : (M.take t ++ [row] ++ M.drop t).length = M.length + 1 := by
        rw [List.length_append, List.length_append, List.length_take, List.length_drop]
        show min t M.length + 1 + (M.length - t) = _
        omega
      have sI : ∀ q ∈ M.take t ++ [row] ++ M.drop t, q ∈ L := fun q hq => by
        rcases List.mem_append.mp hq with hq | hq
        · rcases List.mem_append.mp hq with hq | hq
          · exact sub q (List.mem_of_mem_take hq)
          · rw [List.mem_singleton.mp hq]; exact mr5
        · exact sub q (List.mem_of_mem_drop hq)
      generalize upd G1 p5 (.lst (((M.take t ++ [row] ++ M.drop t).map SX.S).map V.str)) = G2 at g5 k5 g7 ⊢
      generalize M.take t ++ [row] ++ M.drop t = I at k5 tI lI sI
      have last : ∀ (B : List (List Nat)) G3 p6, Same G2 G3 → (∀ q ∈ B, q ∈ L) → K7T.tot B ≤ R + 1 → B.length ≤ 1 → G3 p6 = some (.lst ((B.map SX.S).map V.str)) → ∀ p7, G3 p7 = none → Q (.str (Txt.join (SX.S [10]) ((I ++ B).map SX.S))) (upd G3 p7 (.lst (((I ++ B).map SX.S).map V.str))) := fun B G3 p6 gg hb tb lb hp6 p7 n7 => by
        obtain ⟨f1, f2⟩ := fin (I ++ B) (fun q hq => (List.mem_append.mp hq).elim (sI q) (hb q)) (by rw [List.length_append]; omega) (by rw [K7T.tot_app]; omega)
        rw [SX.join_S]
        exact q _ _ (fun b o hb e => ((g7.trans gg).trans (al n7)) b o (b7 b o hb e)) (h7.same ((g7.trans gg).trans (al n7))) f1 f2
      refine ⟨_, rfl, rfl, _, rfl, ?_⟩
      have li : I.length ≤ 2001 := by omega
      by_cases h5 : r1 = 5
      · refine iteTo (decide_eq_true (congrArg V.int h5)) ?_
        refine ⟨_, rfl, by show 1 ≤ sizeLine; decide, fun p6 n6 => ?_⟩
        have gg := al (o := .lst [V.str (SX.S row)]) n6
        have k6 : upd G2 p6 (.lst [V.str (SX.S row)]) p6 = some (.lst ((([row] : List (List Nat)).map SX.S).map V.str)) := upd_same
        generalize upd G2 p6 (.lst [V.str (SX.S row)]) = G3 at gg k6 ⊢
        refine ⟨p5, p6, _, _, rfl, rfl, gg _ _ k5, k6, sz _ _ (by omega) (by show 1 ≤ 5000; decide), fun p7 n7 => ?_⟩
        rw [cat]
        refine ⟨SX.S [10], p7, _, congrArg V.str w6, rfl, .inl (.inl (.inl upd_same)), size _ (by rw [K7T.tot_app]; show _ + (row.length + 1) ≤ 5000; have := K7T.spl_len 10 (l := l) (q := row); omega), ?_⟩
        exact last [row] G3 p6 gg (fun q hq => by rw [List.mem_singleton.mp hq]; exact mr5) (by show row.length + 1 ≤ R + 1; omega) (by show 1 ≤ 1; decide) k6 p7 n7
      · refine iteFo (decide_eq_false fun e => h5 (by injection e)) ?_
        refine ⟨by show 0 ≤ sizeLine; decide, fun p6 n6 => ?_⟩
        have gg := al (o := .lst []) n6
        have k6 : upd G2 p6 (.lst []) p6 = some (.lst ((([] : List (List Nat)).map SX.S).map V.str)) := upd_same
        generalize upd G2 p6 (.lst []) = G3 at gg k6 ⊢
        refine ⟨p5, p6, _, _, rfl, rfl, gg _ _ k5, k6, sz _ _ (by omega) (by show 0 ≤ 5000; decide), fun p7 n7 => ?_⟩
        rw [cat]
        refine ⟨SX.S [10], p7, _, congrArg V.str w6, rfl, .inl (.inl (.inl upd_same)), size _ (by rw [K7T.tot_app]; show _ + 0 ≤ 5000; omega), ?_⟩
        exact last [] G3 p6 gg (fun q hq => (nomatch hq)) (Nat.zero_le _) (Nat.zero_le _) k6 p7 n7
end
end K7
end
/-! ## TF -/
section
namespace K7
/-! ### the rows of a land's text, and what two edits leave -/
theorem enc_no (ds : List Nat) : 10 ∉ K7T.enc ds := by
  induction ds with
  | nil => exact List.not_mem_nil
  | cons d ds ih =>
    rw [K7T.enc_cons]
    intro h
    rcases List.mem_cons.mp h with h | h
    · cases h
    · rcases List.mem_cons.mp h with h | h
      · omega
      · exact ih h
theorem row_no {w : List Nat} (hw : 10 ∉ w) (ds : List Nat) : 10 ∉ w ++ K7T.enc ds := fun h => (List.mem_append.mp h).elim hw (enc_no ds)
theorem text_in {n : Nat} {cs : List (Nat × Nat)} {ds : List Nat} (hd : ds.length ≤ 4) : ∀ q ∈ textR n cs ds, 10 ∉ q ∧ q.length ≤ 13 := fun q hq => by
  unfold textR at hq
  rcases List.mem_cons.mp hq with rfl | hq
  · refine ⟨row_no (by decide) _, ?_⟩
    rw [List.length_append, enc_len]
    show 5 + 2 * 1 ≤ 13
    decide
  · rcases List.mem_cons.mp hq with rfl | hq
    · refine ⟨row_no (by decide) _, ?_⟩
      rw [List.length_append, enc_len]
      show 5 + 2 * ds.length ≤ 13
      omega
    · obtain ⟨c, _, rfl⟩ := List.mem_map.mp hq
      refine ⟨row_no (by decide) _, ?_⟩
      rw [List.length_append, enc_len]
      show 4 + 2 * 2 ≤ 13
      decide
theorem tot_le {L : List (List Nat)} {R : Nat} (h : ∀ q ∈ L, q.length ≤ R) : K7T.tot L ≤ (R + 1) * L.length := by
  induction L with
  | nil => exact Nat.zero_le _
  | cons q L ih =>
    have h1 := ih fun p hp => h p (List.mem_cons_of_mem _ hp)
    have h2 := h q (List.mem_cons_self ..)
    show K7T.tot ([q] ++ L) ≤ _
    rw [K7T.tot_app, List.length_cons, Nat.mul_succ]
    show (q.length + 1 + 0) + _ ≤ _
    omega
theorem text_rows {n : Nat} {cs : List (Nat × Nat)} {ds : List Nat} (hd : ds.length ≤ 4) (hc : cs.length ≤ 10) : K7T.Rows 13 12 (textL n cs ds) ∧ (textL n cs ds).length ≤ 168 := by
  have len : (textR n cs ds).length ≤ 12 := by
    unfold textR
    rw [List.length_cons, List.length_cons, List.length_map]
    omega
  refine ⟨K7T.rows_join (text_in hd) len (by decide), ?_⟩
  have h1 := (K7T.join_tot (textR n cs ds)).1
  have h2 := tot_le fun q hq => (text_in (n := n) (cs := cs) hd q hq).2
  show (TL.joinL [10] (textR n cs ds)).length ≤ 168
  omega
/-- what is read of a text of few and short rows is little -/
theorem read_few {l : List Nat} {N : Nat} {n : Nat} {cs : List (Nat × Nat)} {ds : List Nat} (h : K7T.Rows 79 N l) (hN : N ≤ 34) (hr : readT (TL.spl [10] 0 [] l) = .ok (n, cs, ds)) : cs.length ≤ 32 ∧ ds.length < 64 := by
  obtain ⟨_, e⟩ := readT_is hr
  obtain ⟨h1, h2⟩ := h
  rw [e] at h1 h2
  have z := h1 (roadsW ++ K7T.enc ds) (by simp)
  rw [List.length_append, enc_len] at z
  rw [List.length_cons, List.length_cons, List.length_map] at h2
  exact ⟨by omega, by omega⟩
end K7
end
/-! ## TG -/
section
open PySem PySem.Spec PyProof.Rows L2
namespace K7
/-! what is written is read again, and what is read was written so -/
theorem cpF_enc {w : List Nat} {last : Option (Nat × Nat)} {c : Nat × Nat} (h1 : c.1 < c.2) (h2 : c.2 < 10) (h3 : K7T.afterB last c = true) : K7T.cpF w last (w ++ K7T.enc [c.1, c.2]) = some c := by
  unfold K7T.cpF
  rw [K7T.digs_enc.mpr ⟨rfl, fun d hd => by
    rcases List.mem_cons.mp hd with rfl | hd
    · omega
    · rw [List.mem_singleton.mp hd]; exact h2⟩]
  show (if (decide (c.1 < c.2) && K7T.afterB last (c.1, c.2)) = true then some (c.1, c.2) else none) = some c
  rw [if_pos (by rw [decide_eq_true h1, h3]; rfl)]
theorem lexB_of {l c : Nat × Nat} (h : lexS l c) : K7T.lexB l c = true := by
  unfold K7T.lexB
  rcases h with h | ⟨h, h'⟩
  · rw [decide_eq_true h]; rfl
  · rw [decide_eq_true h, decide_eq_true h', Bool.and_self, Bool.or_true]
theorem cpl_enc {w : List Nat} : ∀ {cs : List (Nat × Nat)} {k : Nat} {last : Option (Nat × Nat)}, (∀ c ∈ cs, c.1 < c.2 ∧ c.2 < 10) → cs.Pairwise lexS → (∀ c ∈ cs, K7T.afterB last c = true) → K7T.cpl w k last (cs.map fun (c : Nat × Nat) => w ++ K7T.enc [c.1, c.2]) = .ok cs
  | [], k, last, _, _, _ => rfl
  | c :: cs, k, last, h1, h2, h3 => by
    show (match K7T.cpF w last (w ++ K7T.enc [c.1, c.2]) with | some c => (K7T.cpl w (k + 1) (some c) (cs.map fun (c : Nat × Nat) => w ++ K7T.enc [c.1, c.2])).map fun l => c :: l | none => .error k) = _
    have hc := h1 c (List.mem_cons_self ..)
    rw [cpF_enc hc.1 hc.2 (h3 c (List.mem_cons_self ..))]
    have p := List.pairwise_cons.mp h2
    show (K7T.cpl w (k + 1) (some c) (cs.map fun (c : Nat × Nat) => w ++ K7T.enc [c.1, c.2])).map (fun l => c :: l) = _
    rw [cpl_enc (w := w) (k := k + 1) (last := some c) (fun x hx => h1 x (List.mem_cons_of_mem _ hx)) p.2 fun x hx => (lexB_of (p.1 x hx) : K7T.lexB c x = true)]
    rfl
theorem read_text {n : Nat} {cs : List (Nat × Nat)} {ds : List Nat} (R : Rd6 n cs ds) (d9 : ∀ d ∈ ds, d < 10) : readT (TL.spl [10] 0 [] (textL n cs ds)) = .ok (n, cs, ds) := by
  have no : ∀ q ∈ textR n cs ds, 10 ∉ q := fun q hq => by
    unfold textR at hq
    rcases List.mem_cons.mp hq with rfl | hq
    · exact row_no (by decide) _
    · rcases List.mem_cons.mp hq with rfl | hq
      · exact row_no (by decide) _
      · obtain ⟨c, _, rfl⟩ := List.mem_map.mp hq
        exact row_no (by decide) _
  have e : TL.spl [10] 0 [] (textL n cs ds) = textR n cs ds := by
    unfold textL
    unfold textR at no ⊢
    rw [K7T.joinL_cons]
    exact K7T.spl_flat 10 no
  rw [e]
  have k1 : K7T.clF cellsW (cellsW ++ K7T.enc [n]) = some n := by
    unfold K7T.clF
    rw [K7T.digs_enc.mpr ⟨rfl, fun d hd => by rw [List.mem_singleton.mp hd]; exact R.n9⟩]
  have k2 : K7T.rdF roadsW (roadsW ++ K7T.enc ds) = some ds := by
    unfold K7T.rdF
    rw [K7T.digs_enc.mpr ⟨rfl, d9⟩]
    show (if ds ≠ [] ∧ ds.Pairwise (· ≤ ·) then some ds else none) = some ds
    rw [if_pos ⟨R.d0, R.ds⟩]
  show (match K7T.clF cellsW (cellsW ++ K7T.enc [n]) with | none => .error 0 | some n => match (roadsW ++ K7T.enc ds) :: cs.map (fun (c : Nat × Nat) => nextW ++ K7T.enc [c.1, c.2]) with | [] => .error 1 | r1 :: rs => match K7T.rdF roadsW r1 with | none => .error 1 | some ds => (K7T.cpl nextW 2 none rs).map fun cs => (n, cs, ds)) = Except.ok (n, cs, ds)
  rw [k1]
  show (match K7T.rdF roadsW (roadsW ++ K7T.enc ds) with | none => .error 1 | some ds => (K7T.cpl nextW 2 none (cs.map (fun (c : Nat × Nat) => nextW ++ K7T.enc [c.1, c.2]))).map fun cs => (n, cs, ds)) = Except.ok (n, cs, ds)
  rw [k2]
  show (K7T.cpl nextW 2 none (cs.map (fun (c : Nat × Nat) => nextW ++ K7T.enc [c.1, c.2]))).map (fun cs => (n, cs, ds)) = Except.ok (n, cs, ds)
  rw [cpl_enc R.cl R.cs fun _ _ => rfl]
  rfl
theorem text_read {l : List Nat} {n : Nat} {cs : List (Nat × Nat)} {ds : List Nat} (h : readT (TL.spl [10] 0 [] l) = .ok (n, cs, ds)) : textL n cs ds = l := by
  obtain ⟨_, e⟩ := readT_is h
  unfold textL textR
  rw [← e]
  exact (K7T.join_spl 10 l).1
theorem lot_up : ∀ n : Fin 6, (lotsTo (List.range n.val) n.val).all (fun l => l.all (fun c => decide (c < n.val)) && decide (l.Pairwise (· < ·))) = true := by decide +kernel
/-- a land that the law draws is read as it is written -/
theorem land_rd {n : Nat} {es : List (Nat × Nat)} {lot : List Nat} (n2 : 2 ≤ n) (n5 : n ≤ 5) (ok : LandOk n es) (hl : lot ∈ lotsTo (List.range n) n ∧ 0 < lot.length ∧ lot.length < n) : Rd6 n es lot ∧ LandG n es lot := by
  have z := List.all_eq_true.mp (lot_up ⟨n, by omega⟩) lot hl.1
  obtain ⟨z1, z2⟩ := Bool.and_eq_true_iff.mp z
  have lt : ∀ d ∈ lot, d < n := fun c hc => of_decide_eq_true (List.all_eq_true.mp z1 c hc)
  have up : lot.Pairwise (· < ·) := of_decide_eq_true z2
  refine ⟨⟨by omega, fun c hc => ?_, ?_, fun e => by rw [e] at hl; exact absurd hl.2.1 (Nat.lt_irrefl _), up.imp fun h => Nat.le_of_lt h⟩, ⟨n2, n5, fun c hc => (ok.lt c hc).2, lt, up.imp fun h => Nat.ne_of_lt h, hl.2.2, ok.conn⟩⟩
  · have := ok.lt c hc
    exact ⟨this.1, by omega⟩
  · refine (List.Pairwise.and ok.sorted ok.nd).imp fun {a b} h => ?_
    rcases h.1 with g | ⟨g1, g2⟩
    · exact .inl g
    · refine .inr ⟨g1, ?_⟩
      rcases Nat.lt_or_ge a.2 b.2 with g | g
      · exact g
      · exact absurd (Prod.ext g1 (Nat.le_antisymm g2 g)) h.2
/-- what LandOr asks, where the rows are lists -/
theorem land_lst {BL : Addr} {H : Hp} {E : XK} {q : Nat → List (Nat × Nat) → List Nat → Prop} {n : Nat} {cs : List (Nat × Nat)} {ds : List Nat} {us : List Addr} {an ar : Addr} (R : Rd6 n cs ds) (G : LandG n cs ds) (c32 : cs.length ≤ 32) (ha : H an = some (.lst (us.map V.ref))) (hu : TAt H us (pairs cs)) (hr : H ar = some (.lst (ints_ ds)))
    (good : q n cs ds) : LandOr BL H (.int (n : Nat)) (.ref an) (.ref ar) E q := by
  refine ⟨.flat (.int _), .inr ⟨n, rfl, G.n2, G.n5, .inr ⟨an, us, cs, rfl, .inr ha, co_lit hu, ⟨fun c m => ?_, ?_, c32⟩, .inr ⟨ar, ds, rfl, .inr hr, G.dn, G.nd, List.length_pos_iff.mpr R.d0, G.ln, .inr ⟨G.con, good⟩⟩⟩⟩⟩
  · have := R.cl c m
    have := G.cn c m
    exact ⟨by omega, by omega, by omega⟩
  · rw [srt_same R.cl]
    exact R.cs.imp fun h => lexS_ne h
/-- the couples and road cells of a land are those that were handed in in order -/
theorem land_same {n : Nat} {cs es : List (Nat × Nat)} {ds rd : List Nat} (R : Rd6 n cs ds) (ok : LandOk n es) (hr : rd.Pairwise (· ≤ ·)) (p1 : es.Perm (cs.map KL.srt)) (p2 : rd.Perm ds) : es = cs ∧ rd = ds := by
  rw [srt_same R.cl] at p1
  refine ⟨es_is ok p1 (R.cs.imp fun {a b} h => ?_), rd_is hr p2 R.ds⟩
  show _
  rcases h with h | ⟨h1, h2⟩
  · exact .inl h
  · exact .inr ⟨h1, Nat.le_of_lt h2⟩
theorem es_ten {n : Nat} {es : List (Nat × Nat)} (ok : LandOk n es) (hn : n ≤ 5) : es.length ≤ 10 := by
  have z := K7E.nodup_le es ((List.range 5).flatMap fun b => (List.range b).map fun a => (a, b)) ok.nd fun e he => by
    obtain ⟨a, b⟩ := e
    obtain ⟨l1, l2⟩ := ok.lt _ he
    have l1 : a < b := l1
    have l2 : b < n := l2
    exact List.mem_flatMap.mpr ⟨b, List.mem_range.mpr (by omega), List.mem_map.mpr ⟨a, List.mem_range.mpr l1, rfl⟩⟩
  exact z
section
variable {h c0 : Addr} {H H' : Hp}
theorem LandAt.same {q : Addr} {n : Nat} {es : List (Nat × Nat)} {lot : List Nat} (L : LandAt H q n es lot) (e : Same H H') : LandAt H' q n es lot := by
  obtain ⟨rA, sA, ts, h1, h2, h3, h4⟩ := L.at_
  exact ⟨⟨rA, sA, ts, e _ _ h1, e _ _ h2, h3.same e, e _ _ h4⟩, L.ok, L.lot⟩
theorem LandO.but {C p : Addr} {n : Nat} {es : List (Nat × Nat)} {rd : List Nat} (L : LandO C H p n es rd) (hh : Hand H h c0) (x : But h H H') : LandO C H' p n es rd := by
  obtain ⟨dx, an, ar, ay, ac, tn, ty, tc, h1, h2, h3, h4, h5, h6, h7, h8⟩ := L.at_
  have tu : ∀ b xs, H b = some (.tup xs) → H' b = some (.tup xs) := fun b xs hb => x b _ (hh.net hb) hb
  exact ⟨⟨dx, an, ar, ay, ac, tn, ty, tc, x _ _ (hh.nei h1) h1, tu _ _ h2, h3.mono tu, tu _ _ h4, tu _ _ h5, h6.mono tu, tu _ _ h7, h8.mono tu⟩, L.n2, L.n5, L.ok, L.rlt, L.rnd, L.rso, L.r0, L.rn⟩
end
end K7
end
/-! ## P26 -/
section
open PySem PySem.Spec PyProof.Rows L2
namespace K7
abbrev N_law : List Str := ["_law_script", "_law_hand_here", "_law_plain", "_law_land_here", "_law_text_here", "_law_back", "_law_other", "_law_due_here", "_law_read", "_law_told_here", "_law_bad"]
abbrev s_law : Stmt := topS 41
theorem sc_law : FnScope ["_law_script", "_law_hand_here", "_law_plain", "_law_land_here", "_law_text_here", "_law_back", "_law_other", "_law_due_here", "_law_read", "_law_told_here", "_law_bad"] ["_law_script"] (defScope s_law) := ⟨rfl, rfl, rfl, by decide +kernel, rfl, by decide +kernel, by decide +kernel⟩
/-! ### the law -/
theorem tup3_ok {b : Bool} {j : Int} {z : Str} (ok : PyData.strOk z = true) : SeqAt.shaped (.tuple [.bool b, .int j, .str z]) = true ∧ PyData.canLay0 (.tuple [.bool b, .int j, .str z]) = true := by
  have h : PyData.canLay0 (.tuple [.bool b, .int j, .str z]) = true := by simp [PyData.canLay0, PyData.canLayAll0, ok]
  refine ⟨?_, h⟩
  show (PyData.canLay0 (.tuple [.bool b, .int j, .str z]) && decide (PyData.depth (.tuple [.bool b, .int j, .str z]) ≤ 64)) = true
  rw [h]
  simp [PyData.depth, PyData.depthAll]
theorem tupN_ok {b : Bool} {j : Int} {z : Str} (ok : PyData.strOk z = true) : SeqAt.shaped (.tuple [.none, .tuple [.bool b, .int j, .str z]]) = true ∧ PyData.canLay0 (.tuple [.none, .tuple [.bool b, .int j, .str z]]) = true := by
  have h : PyData.canLay0 (.tuple [.none, .tuple [.bool b, .int j, .str z]]) = true := by simp [PyData.canLay0, PyData.canLayAll0, ok]
  refine ⟨?_, h⟩
  show (PyData.canLay0 (.tuple [.none, .tuple [.bool b, .int j, .str z]]) && decide (PyData.depth (.tuple [.none, .tuple [.bool b, .int j, .str z]]) ≤ 64)) = true
  rw [h]
  simp [PyData.depth, PyData.depthAll]
section
variable {P : Program} {w : World} {K : PySem.W.Frag} {mg : Str → Option Value} {base : Heap} {a : AdL} {BT BL fE : Addr}
def spLaw (K : PySem.W.Frag) : Sp := fun vs H Q _ => ∃ (s : Addr) (ns : List Int), vs = [.ref s] ∧ SqL K H s (ns.map V.int) ∧ ns.length ≤ 63 ∧ ∀ H', Q (.bl true) H'
theorem ok_law (T : Tl K mg a) (T2 : Tk K a.C fE) {f fha fld fdr fpk flt fwt fpl fso fdu ftl fI : Addr} {fd fdha fdld fddr fdpk fdlt fdwt fdpl fdso fddu fdtl fdI fdE : FuncData} (F : Fun K "law" "law" s_law f fd)
    (Gha : FnOk P w K mg base CX0 1 fha fdha ["_law_script"] (spHand K)) (gha : mg "_law_hand" = some (.ref fha)) (kha : PySem.W.keepIn K (.ref fha) = true) (bha : Binds K fdha ["_law_script"] [])
    (Gld : FnOk P w K mg base CX0 4 fld fdld ["_law_hand_here", "_law_n"] spLand) (gld : mg "_law_land" = some (.ref fld)) (kld : PySem.W.keepIn K (.ref fld) = true) (bld : Binds K fdld ["_law_hand_here", "_law_n"] [])
    (Gdr : FnOk P w K mg base CX0 2 fdr fddr ["_law_hand_here", "_law_many"] spDraw) (gdr : mg "_law_draw" = some (.ref fdr)) (kdr : PySem.W.keepIn K (.ref fdr) = true) (bdr : Binds K fddr ["_law_hand_here", "_law_many"] [])
    (Gpk : FnOk P w K mg base CX0 3 fpk fdpk ["_law_hand_here", "_law_things"] spPick) (gpk : mg "_law_pick" = some (.ref fpk)) (kpk : PySem.W.keepIn K (.ref fpk) = true) (bpk : Binds K fdpk ["_law_hand_here", "_law_things"] [])
    (Glt : FnOk P w K mg base CX0 2 flt fdlt ["land"] (spLt a)) (glt : mg "land_text" = some (.ref flt)) (klt : PySem.W.keepIn K (.ref flt) = true) (blt : Binds K fdlt ["land"] [])
    (Gwt : FnOk P w K mg base CX0 1 fwt fdwt ["_law_plain"] spWt) (gwt : mg "_law_text" = some (.ref fwt)) (kwt : PySem.W.keepIn K (.ref fwt) = true) (bwt : Binds K fdwt ["_law_plain"] [])
    (Gpl : FnOk P w K mg base (L2.CX P w) 7 fpl fdpl ["text"] (spPl a BT K)) (gpl : mg "parse_land" = some (.ref fpl)) (kpl : PySem.W.keepIn K (.ref fpl) = true) (bpl : Binds K fdpl ["text"] [])
    (Gso : FnOk P w K mg base CX0 4 fso fdso ["_law_hand_here", "_law_text_here"] spSo) (gso : mg "_law_spoilt" = some (.ref fso)) (kso : PySem.W.keepIn K (.ref fso) = true) (bso : Binds K fdso ["_law_hand_here", "_law_text_here"] [])
    (Gdu : FnOk P w K mg base CX0 2 fdu fddu ["_law_text_here"] spDue) (gdu : mg "_law_due" = some (.ref fdu)) (kdu : PySem.W.keepIn K (.ref fdu) = true) (bdu : Binds K fddu ["_law_text_here"] [])
    (Gtl : FnOk P w K mg base CX0 8 ftl fdtl ["_law_text_here"] (spTl6 a K)) (gtl : mg "_law_told" = some (.ref ftl)) (ktl : PySem.W.keepIn K (.ref ftl) = true) (btl : Binds K fdtl ["_law_text_here"] [])
    (MC : Mk K a.C fI) (GI : FnOk P w K mg base (L2N.CX P w) 5 fI fdI ["self", "cells", "neighbours", "roads"] (spLandR a BL)) (bI : Binds K fdI ["self", "cells", "neighbours", "roads"] [])
    (Geq : FnOk P w K mg base CX0 1 fE fdE ["self", "other"] (spEqL a.C)) (beq : Binds K fdE ["self", "other"] [])
    (m_isinstance : mg "isinstance" = none) (m_str : mg "str" = none) (m_len : mg "len" = none) : FnOk P w K mg base CX0 9 f fd ["_law_script"] (spLaw K) := by
  refine F.ok sc_law (fun vs H Q E h => ?_) (fun cdv A outer s H vs Q E hr h => ?_)
  · obtain ⟨s, ns, rfl, _⟩ := h
    rfl
  · obtain ⟨s0, ns, rfl, hS, hl, q⟩ := h
    refine ⟨_, (pss_cons (ps_set (i := 1) sc_law.nd rfl (by first | exact Or.inl rfl | exact Or.inr rfl) (pe_call Gha (hr.mono (by decide)) (by rfl) gha kha bha .nil pass0 (pa_cons (pv 0) pa_nil)))
 (pss_cons (ps_set (i := 2) sc_law.nd rfl (by first | exact Or.inl rfl | exact Or.inr rfl) (pe_call Gld (hr.mono (by decide)) (by rfl) gld kld bld .nil pass0 (pa_cons (pv 1) (pa_cons (pe_op op_add pe_int (pe_call Gdr (hr.mono (by decide)) (by rfl) gdr kdr bdr .nil pass0 (pa_cons (pv 1) (pa_cons pe_int pa_nil)))) pa_nil))))
 (pss_cons (ps_set (i := 3) sc_law.nd rfl (by first | exact Or.inl rfl | exact Or.inr rfl) (pe_make MC GI (hr.mono (by decide)) (by rfl) T.gC bI .nil K7N.passN (pa_cons (pe_ix ix_tup (pv 2) pe_int (fun _ _ => rfl)) (pa_cons (pe_ix ix_tup (pv 2) pe_int (fun _ _ => rfl)) (pa_cons (pe_ix ix_tup (pv 2) pe_int (fun _ _ => rfl)) pa_nil)))))
 (pss_cons (ps_set (i := 4) sc_law.nd rfl (by first | exact Or.inl rfl | exact Or.inr rfl) (pe_call Glt (hr.mono (by decide)) (by rfl) glt klt blt .nil pass0 (pa_cons (pv 3) pa_nil)))
 (pss_cons (ps_if (pw_or (pt_not (pt_val (pe_callB call_isi (by rfl) m_isinstance boot_isinstance (pa_cons (pv 4) (pa_cons (pe_bltn (v := .ty "str") (by rfl) m_str boot_str rfl) pa_nil))))) (pw_or1 (pt_cmpR op_ne (pv 4) (pe_call Gwt (hr.mono (by decide)) (by rfl) gwt kwt bwt .nil pass0 (pa_cons (pv 2) pa_nil)) (nomark _)))).pt
  (pss_one (ps_ret pe_bl))
  pss_nil)
 (pss_cons (ps_set (i := 5) sc_law.nd rfl (by first | exact Or.inl rfl | exact Or.inr rfl) (pe_call Gpl (hr.mono (by decide)) (by rfl) gpl kpl bpl .nil passL (pa_cons (pv 4) pa_nil)))
 (pss_cons (ps_if (pw_or (pt_not (pt_val (pe_callB call_isi (by rfl) m_isinstance boot_isinstance (pa_cons (pv 5) (pa_cons (pe_glob (v := .ref _) (by rfl) T.gC rfl) pa_nil))))) (pw_or (pt_not (pt_cmpR (K7E.op_eqOwn Geq T2.eq T2.eqF beq (hr.mono (by decide)) pass0) (pv 5) (pv 3) (nomark _))) (pw_or1 (pt_cmpR op_ne (pe_fld (pv 5) rfl) (pe_ix ix_tup (pv 2) pe_int (fun _ _ => rfl)) (nomark _))))).pt
  (pss_one (ps_ret pe_bl))
  pss_nil)
 (pss_cons (ps_set (i := 6) sc_law.nd rfl (by first | exact Or.inl rfl | exact Or.inr rfl) (pe_call Gso (hr.mono (by decide)) (by rfl) gso kso bso .nil pass0 (pa_cons (pv 1) (pa_cons (pv 4) pa_nil))))
 (Evl.pss_cut (ps_if (pw_and (pt_cmpR op_eq (pe_call Gdr (hr.mono (by decide)) (by rfl) gdr kdr bdr .nil pass0 (pa_cons (pv 1) (pa_cons pe_int pa_nil))) pe_int (nomark _)) (pw_and1 (pt_cmpR op_ne (pv 6) pe_str (nomark _)))).pt
  (pss_one (ps_set (i := 6) sc_law.nd rfl (by first | exact Or.inl rfl | exact Or.inr rfl) (pe_call Gso (hr.mono (by decide)) (by rfl) gso kso bso .nil pass0 (pa_cons (pv 1) (pa_cons (pv 6) pa_nil)))))
  pss_nil)
 (pss_cons (ps_set (i := 7) sc_law.nd rfl (by first | exact Or.inl rfl | exact Or.inr rfl) (pe_call Gdu (hr.mono (by decide)) (by rfl) gdu kdu bdu .nil pass0 (pa_cons (pv 6) pa_nil)))
 (Evl.pss_cut (ps_asg (pe_call Gtl (hr.mono (by decide)) (by rfl) gtl ktl btl .nil pass0 (pa_cons (pv 6) pa_nil)) (pg_tup rfl (pgs_cons (pg_name (i := 8) sc_law.nd rfl (by first | exact Or.inl rfl | exact Or.inr rfl)) (pgs_cons (pg_name (i := 9) sc_law.nd rfl (by first | exact Or.inl rfl | exact Or.inr rfl)) pgs_nil))))
 (Evl.pss_cut (ps_if (pt_cmpR op_eq (pe_callB call_len_seq (by rfl) m_len boot_len (pa_cons (pv 7) pa_nil)) pe_int (nomark _))
  (pss_one (ps_if (pw_or (pt_cmpR op_notN (pv 8) pe_non (nomark _)) (pw_or1 (pt_cmpR (op_neD hr.units) (pv 9) (pe_tup (pa_cons pe_bl (pa_cons (pe_ix ix_tup (pv 7) pe_int (fun _ _ => rfl)) (pa_cons (pe_ix ix_tup (pv 7) pe_int (fun _ _ => rfl)) pa_nil)))) (nomark _)))).pt
  (pss_one (ps_ret pe_bl))
  pss_nil))
  (pss_one (ps_if (pw_or (pt_cmpR op_notN (pv 9) pe_non (nomark _)) (pw_or (pt_not (pt_cmpR (K7E.op_eqOwn Geq T2.eq T2.eqF beq (hr.mono (by decide)) pass0) (pv 8) (pe_make MC GI (hr.mono (by decide)) (by rfl) T.gC bI .nil K7N.passN (pa_cons (pe_ix ix_tup (pv 7) pe_int (fun _ _ => rfl)) (pa_cons (pe_ix ix_tup (pv 7) pe_int (fun _ _ => rfl)) (pa_cons (pe_ix ix_tup (pv 7) pe_int (fun _ _ => rfl)) pa_nil)))) (nomark _))) (pw_or1 (pt_cmpR op_ne (pe_call Glt (hr.mono (by decide)) (by rfl) glt klt blt .nil pass0 (pa_cons (pv 8) pa_nil)) (pv 6) (nomark _))))).pt
  (pss_one (ps_ret pe_bl))
  pss_nil)))
 (pss_cons (ps_set (i := 10) sc_law.nd rfl (by first | exact Or.inl rfl | exact Or.inr rfl) (pe_call Gpk (hr.mono (by decide)) (by rfl) gpk kpk bpk .nil pass0 (pa_cons (pv 1) (pa_cons (pe_lst (pa_cons pe_non (pa_cons pe_int (pa_cons pe_bl (pa_cons (pe_lst (pa_cons pe_str pa_nil)) (pa_cons (pe_tup (pa_cons pe_str (pa_cons pe_str pa_nil))) (pa_cons pe_dnewK pa_nil))))))) pa_nil))))
 (pss_one (ps_ret (pe_and (pe_cmpR (op_eqD hr.units) (pe_call Gtl (hr.mono (by decide)) (by rfl) gtl ktl btl .nil pass0 (pa_cons (pv 10) pa_nil)) (pe_tup (pa_cons pe_non (pa_cons (pe_tup (pa_cons pe_bl (pa_cons pe_int (pa_cons pe_str pa_nil)))) pa_nil))) (nomark _)) (pe_one (pe_cmpR op_eq (pe_call Glt (hr.mono (by decide)) (by rfl) glt klt blt .nil pass0 (pa_cons (pv 3) pa_nil)) (pv 4) (nomark _))))))))))))))))))), ?_⟩
    refine ⟨_, rfl, s0, ns, rfl, hS, hl, fun H1 h c e1 nh nc hh1 => ?_⟩
    refine ⟨_, rfl, _, rfl, h, c, 4, rfl, hh1, by decide, by decide, fun H2 r d2 r0 r1 => ?_⟩
    obtain ⟨m, rfl⟩ : ∃ m : Nat, r = (m : Int) := ⟨r.toNat, by omega⟩
    refine ⟨_, _, rfl, rfl, h, c, 2 + m, by rw [show ((2 + m : Nat) : Int) = 2 + (m : Int) by omega]; rfl, d2.hand, by omega, by omega, fun H3 q0 es lot st3 nq La3 => ?_⟩
    obtain ⟨R0, G0⟩ := land_rd (by omega) (by omega) La3.ok La3.lot
    have hh3 := st3.hand
    obtain ⟨rA, sA, ts, g1, g2, g3, g4⟩ := La3.at_
    have n2 : 2 ≤ 2 + m := by omega
    have n5 : 2 + m ≤ 5 := by omega
    have ok3 := La3.ok
    clear d2 st3
    generalize 2 + m = n at R0 G0 La3 n2 n5 g1 ok3
    have c10 : es.length ≤ 10 := es_ten ok3 n5
    have l4 : lot.length ≤ 4 := by have := G0.ln; omega
    have c32 : es.length ≤ 32 := by omega
    refine ⟨_, rfl, q0, _, _, _, rfl, rfl, .inl (.inl g1), atI_nat (j := 0) rfl, _, rfl, q0, _, _, _, rfl, rfl, .inl (.inl g1), atI_nat (j := 1) rfl, _, rfl, q0, _, _, _, rfl, rfl, .inl (.inl g1), atI_nat (j := 2) rfl, fun p dx hp hdx hne => ?_⟩
    refine new_landR hp hdx hne (land_lst R0 G0 (by omega) g2 g3 g4 fun H4 es' rd' e4 Lo pe pr => ?_)
    obtain ⟨rfl, rfl⟩ := land_same R0 Lo.ok Lo.rso pe pr
    have hh4 := hh3.same e4
    have La4 := La3.same e4
    clear La3 hh3 g2 g3 g4
    have tx := text_rows (n := n) (cs := es') (ds := rd') l4 c10
    have rt := read_text R0 (fun d hd => by have := G0.dn d hd; omega)
    refine ⟨rfl, _, rfl, p, n, es', rd', rfl, Lo, c32, fun H5 e5 => ?_⟩
    have Lo5 := Lo.same e5
    have hh5 := hh4.same e5
    have La5 := La4.same e5
    clear Lo hh4 La4
    refine ⟨_, rfl, _, _, _, _, _, rfl, .ty _, .base (.str _), kit_ty (by decide +kernel), true, rfl, ?_⟩
    refine iteFo rfl ?_
    refine ⟨_, rfl, _, rfl, q0, n, es', rd', rfl, La5, n5, c32, fun H6 e6 => ?_⟩
    refine ⟨rfl, _, rfl, iteFo (by rw [decide_eq_true rfl]; rfl) ?_⟩
    have Lo6 := Lo5.same e6
    have hh6 := hh5.same e6
    have La6 := La5.same e6
    clear Lo5 hh5 La5
    have tl : (textL n es' rd').length ≤ 1000 := by have := tx.2; omega
    -- the land is read back
    refine ⟨_, rfl, _, rfl, .inr ⟨_, rfl, tl, fun n1 cs1 ds1 h1 => ?_, fun k hk => ?_, fun n1 cs1 ds1 h1 ng => ?_, fun n1 cs1 ds1 h1 g1' H7 p2 e7 np2 Lo7 => ?_⟩⟩
    · rw [show TL.tl (SX.S (textL n es' rd')) = textL n es' rd' from rfl, rt] at h1
      cases h1
      exact ⟨c32, by omega⟩
    · rw [show TL.tl (SX.S (textL n es' rd')) = textL n es' rd' from rfl, rt] at hk
      cases hk
    · rw [show TL.tl (SX.S (textL n es' rd')) = textL n es' rd' from rfl, rt] at h1
      cases h1
      exact absurd G0 ng
    rw [show TL.tl (SX.S (textL n es' rd')) = textL n es' rd' from rfl, rt] at h1
    cases h1
    have Lp7 := Lo6.same e7
    have hh7 := hh6.same e7
    have La7 := La6.same e7
    clear Lo6 hh6 La6
    obtain ⟨dx1, an1, ar1, ay1, ac1, tn1, ty1, tc1, m1, _⟩ := Lo7.at_
    obtain ⟨dx2, an2, ar2, ay2, ac2, tn2, ty2, tc2, k1, _⟩ := Lp7.at_
    refine ⟨_, rfl, _, _, _, _, _, rfl, .own _, .base (.ins m1 T.cl T2.ha T2.hn T2.ht T2.hm), T2.own, true, rfl, iteFo rfl ?_⟩
    refine ⟨_, rfl, _, rfl, p2, dx1, _, p, _, rfl, rfl, m1, .base (.ins k1 T.cl T2.ha T2.hn T2.ht T2.hm), nfC K a.C, p2, p, n, es', rd', n, es', rd', rfl, Lo7, Lp7, ?_⟩
    rw [decide_eq_true (show n = n ∧ es' = es' ∧ rd' = rd' from ⟨rfl, rfl, rfl⟩)]
    refine ⟨_, rfl, iteFo rfl ?_⟩
    obtain ⟨rA7, sA7, ts7, q1, _⟩ := La7.at_
    refine ⟨_, rfl, p2, a.C, dx1, _, _, rfl, m1, T.cl, T.nA _ (by decide), rfl, _, rfl, q0, _, _, _, rfl, rfl, .inl (.inl q1), atI_nat (j := 0) rfl, rfl, _, rfl, iteFo (by rw [decide_eq_true rfl]; rfl) ?_⟩
    clear m1 k1 q1 La7 Lo7
    have ne0 : textL n es' rd' ≠ [] := fun e => by
      unfold textL textR at e
      rw [K7T.joinL_cons] at e
      cases e
    refine ⟨_, rfl, _, rfl, h, c, textL n es' rd', 13, 12, rfl, hh7, ne0, tl, tx.1, by decide, fun H8 l1 b8 hh8 rw1 len1 => ?_⟩
    have Lo8 := Lp7.but hh7 b8
    have len1' : l1.length ≤ 190 := by have := tx.2; omega
    clear Lp7 hh7 b8
    -- a second edit
    refine ⟨fun τ H' => ∃ l2, τ = [some (.ref s0), some (.ref h), some (.ref q0), some (.ref p), some (.str (SX.S (textL n es' rd'))), some (.ref p2), some (.str (SX.S l2)), none, none, none, none] ∧ Hand H' h c ∧ LandO a.C H' p n es' rd' ∧ K7T.Rows 79 16 l2 ∧ l2.length ≤ 300, ?_, fun τ H' hM => ?_⟩
    · refine ⟨_, rfl, h, c, 4, rfl, hh8, by decide, by decide, fun H9 r d9 r0 r1 => ?_⟩
      have b9 : But h H8 H9 := fun b o nb z => by rw [d9.but b nb]; exact z
      have Lo9 := Lo8.but hh8 b9
      have hh9 := d9.hand
      refine ⟨rfl, _, rfl, ?_⟩
      by_cases hr0 : r = 0
      · subst hr0
        refine iteTo (decide_eq_true rfl) ?_
        have hne : l1 ≠ [] → ¬ (V.str (SX.S l1) = V.str "") := fun h e => h (congrArg TL.tl (V.str.inj e))
        refine ⟨_, rfl, rfl, _, rfl, ?_⟩
        by_cases hl1 : l1 = []
        · subst hl1
          refine iteFo (by rw [decide_eq_true (show V.str (SX.S []) = V.str "" from rfl)]; rfl) ?_
          exact ⟨[], rfl, hh9, Lo9, rw1.mono (by decide) (by decide), Nat.zero_le _⟩
        · refine iteTo (by rw [decide_eq_false (hne hl1)]; rfl) ?_
          refine ⟨_, rfl, _, rfl, h, c, l1, 35, 14, rfl, hh9, hl1, by omega, rw1, by decide, fun H10 l2 b10 hh10 rw2 len2 => ?_⟩
          exact ⟨l2, rfl, hh10, Lo9.but hh9 b10, rw2, by omega⟩
      · refine iteFo (decide_eq_false fun e => hr0 (V.int.inj e)) ?_
        exact ⟨l1, rfl, hh9, Lo9, rw1.mono (by decide) (by decide), by omega⟩
    · obtain ⟨l2, rfl, hh, Lo, rw2, len2⟩ := hM
      clear Lo8 hh8
      have l2k : (SX.S l2).length ≤ 1000 := by rw [SX.S_len]; omega
      refine ⟨_, rfl, _, rfl, l2k, fun H11 pd e11 npd due => ?_⟩
      have e12 : TL.tl (SX.S l2) = l2 := rfl
      rw [e12] at due
      have hh11 := hh.same e11
      have Lo11 := Lo.same e11
      clear hh Lo
      refine ⟨fun τ H' => ∃ v8 v9, τ = [some (.ref s0), some (.ref h), some (.ref q0), some (.ref p), some (.str (SX.S (textL n es' rd'))), some (.ref p2), some (.str (SX.S l2)), some (.ref pd), some v8, some v9, none] ∧ Hand H' h c ∧ LandO a.C H' p n es' rd' ∧
        ((∃ (j : Nat) (sw : Str) (t : Addr), v8 = .non ∧ v9 = .ref t ∧ PyData.strOk sw = true ∧ H' pd = some (.tup [.int (j : Nat), .str sw]) ∧ H' t = some (.tup [.bl true, .int (j : Nat), .str sw])) ∨
         ∃ (n1 : Nat) (cs1 : List (Nat × Nat)) (ds1 : List Nat) (l N u : Addr) (us : List Addr), v8 = .ref l ∧ v9 = .non ∧ Rd6 n1 cs1 ds1 ∧ LandG n1 cs1 ds1 ∧ textL n1 cs1 ds1 = l2 ∧ cs1.length ≤ 32 ∧ LandO a.C H' l n1 cs1 ds1 ∧
          H' pd = some (.tup [.int (n1 : Nat), .ref N, .ref u]) ∧ H' N = some (.lst (us.map V.ref)) ∧ TAt H' us (pairs cs1) ∧ H' u = some (.lst (ints_ ds1))), ?_, fun τ H' hM => ?_⟩
      · refine ⟨_, rfl, _, rfl, .inr ⟨_, rfl, l2k, fun n1 cs1 ds1 h1 => read_few rw2 (by decide) h1, fun k hk H12 pt e13 npt tle => ?_, fun n1 cs1 ds1 h1 ng H12 pt e13 npt tle => ?_, fun n1 cs1 ds1 h1 g1' H12 pt l e13 npt hpt nl Lo12 => ?_⟩⟩
        · rw [e12] at hk
          rw [hk] at due
          obtain ⟨t, ht1, ht2⟩ := tle
          refine ⟨pt, _, rfl, .inl (.inl ht1), rfl, _, _, rfl, _, _, rfl, rfl, ?_⟩
          exact ⟨_, _, rfl, hh11.same e13, Lo11.same e13, .inl ⟨k, "row", t, rfl, rfl, by decide +kernel, e13 _ _ due, ht2⟩⟩
        · rw [e12] at h1
          rw [h1] at due
          obtain ⟨t, ht1, ht2⟩ := tle
          rcases due with ⟨_, due⟩ | ⟨g, _⟩
          · refine ⟨pt, _, rfl, .inl (.inl ht1), rfl, _, _, rfl, _, _, rfl, rfl, ?_⟩
            exact ⟨_, _, rfl, hh11.same e13, Lo11.same e13, .inl ⟨0, "land", t, rfl, rfl, by decide +kernel, e13 _ _ due, ht2⟩⟩
          · exact absurd g ng
        · rw [e12] at h1
          rw [h1] at due
          rcases due with ⟨ng, _⟩ | ⟨_, N, u, us, y1, y2, y3, y4⟩
          · exact absurd g1' ng
          · refine ⟨pt, _, rfl, .inl (.inl hpt), rfl, _, _, rfl, _, _, rfl, rfl, ?_⟩
            exact ⟨_, _, rfl, hh11.same e13, Lo11.same e13, .inr ⟨n1, cs1, ds1, l, N, u, us, rfl, rfl, (readT_is h1).1, g1', text_read h1, (read_few rw2 (by decide) h1).1, Lo12, e13 _ _ y1, e13 _ _ y2, y3.same e13, e13 _ _ y4⟩⟩
      · obtain ⟨v8, v9, rfl, hh, Lo, cas⟩ := hM
        refine ⟨fun τ H' => ∃ v8 v9, τ = [some (.ref s0), some (.ref h), some (.ref q0), some (.ref p), some (.str (SX.S (textL n es' rd'))), some (.ref p2), some (.str (SX.S l2)), some (.ref pd), some v8, some v9, none] ∧ Hand H' h c ∧ LandO a.C H' p n es' rd', ?_, fun τ H' hM => ?_⟩
        · rcases cas with ⟨j, sw, t, rfl, rfl, sok, y1, y2⟩ | ⟨n1, cs1, ds1, l, N, u, us, rfl, rfl, R1, G1, tx1, c1, Lo1, y1, y2, y3, y4⟩
          · refine ⟨_, rfl, pd, _, rfl, .inr (.inl (.inl y1)), rfl, _, rfl, iteTo rfl ?_⟩
            refine ⟨_, rfl, rfl, _, rfl, iteFo rfl ?_⟩
            refine ⟨_, rfl, _, rfl, pd, _, _, _, rfl, rfl, .inl (.inl y1), atI_nat (j := 0) rfl, _, rfl, pd, _, _, _, rfl, rfl, .inl (.inl y1), atI_nat (j := 1) rfl, by show 3 ≤ sizeLine; decide, fun t2 nt2 => ?_⟩
            obtain ⟨sh, cl⟩ := tup3_ok (b := true) (j := ((j : Nat) : Int)) sok
            have e13 := al (o := .tup [.bl true, .int (j : Nat), .str sw]) nt2
            refine ⟨_, _, .tup (.inl (.inl (e13 _ _ y2))) (.cons (.bl true) (.cons (.int _) (.cons (.str _) .nil))), .tup (.inl (.inl upd_same)) (.cons (.bl true) (.cons (.int _) (.cons (.str _) .nil))), sh, sh, _, rfl, ?_⟩
            rw [PySem.SeqAt.eqv_refl _ cl]
            exact iteFo rfl ⟨_, _, rfl, hh.same e13, Lo.same e13⟩
          · refine ⟨_, rfl, pd, _, rfl, .inr (.inl (.inl y1)), rfl, _, rfl, iteFo rfl ?_⟩
            refine ⟨_, rfl, rfl, _, rfl, iteFo rfl ?_⟩
            refine ⟨_, rfl, _, rfl, pd, _, _, _, rfl, rfl, .inl (.inl y1), atI_nat (j := 0) rfl, _, rfl, pd, _, _, _, rfl, rfl, .inl (.inl y1), atI_nat (j := 1) rfl, _, rfl, pd, _, _, _, rfl, rfl, .inl (.inl y1), atI_nat (j := 2) rfl, fun x dx hx hdx hne => ?_⟩
            refine new_landR hx hdx hne (land_lst R1 G1 c1 y2 y3 y4 fun H13 es2 rd2 e13 Lo2 pe pr => ?_)
            obtain ⟨rfl, rfl⟩ := land_same R1 Lo2.ok Lo2.rso pe pr
            have Lo1' := Lo1.same e13
            obtain ⟨dx1, an1, ar1, ay1, ac1, tn1, ty1, tc1, m1, _⟩ := Lo1'.at_
            obtain ⟨dx2, an2, ar2, ay2, ac2, tn2, ty2, tc2, k1, _⟩ := Lo2.at_
            refine ⟨rfl, l, dx1, _, x, _, rfl, rfl, m1, .base (.ins k1 T.cl T2.ha T2.hn T2.ht T2.hm), nfC K a.C, l, x, n1, es2, rd2, n1, es2, rd2, rfl, Lo1', Lo2, ?_⟩
            rw [decide_eq_true (show n1 = n1 ∧ es2 = es2 ∧ rd2 = rd2 from ⟨rfl, rfl, rfl⟩)]
            refine ⟨_, rfl, iteFo rfl ?_⟩
            refine ⟨_, rfl, l, n1, es2, rd2, rfl, Lo1', c1, fun H14 e14 => ?_⟩
            rw [tx1]
            refine ⟨_, rfl, rfl, _, rfl, iteFo (by rw [decide_eq_true rfl]; rfl) ?_⟩
            exact ⟨_, _, rfl, (hh.same e13).same e14, (Lo.same e13).same e14⟩
        · obtain ⟨v8, v9, rfl, hh, Lo⟩ := hM
          clear cas
          refine ⟨_, rfl, by show 1 ≤ sizeLine; decide, fun b1 nb1 => ?_⟩
          have f1 := al (o := .lst [V.str "cells 2"]) nb1
          have hb1 : upd H' b1 (.lst [V.str "cells 2"]) b1 = some (.lst [V.str "cells 2"]) := upd_same
          have hh1' := hh.same f1
          have Lo1' := Lo.same f1
          have ne1 := (hh.ne nb1).1
          clear hh Lo
          generalize upd H' b1 (.lst [V.str "cells 2"]) = G1 at hb1 hh1' Lo1' ⊢
          refine ⟨by show 2 ≤ sizeLine; decide, fun b2 nb2 => ?_⟩
          have f2 := al (o := .tup [V.str "cells 2", V.str "roads 0"]) nb2
          have hb2 : upd G1 b2 (.tup [V.str "cells 2", V.str "roads 0"]) b2 = some (.tup [V.str "cells 2", V.str "roads 0"]) := upd_same
          have hh2' := hh1'.same f2
          have Lo2' := Lo1'.same f2
          have ne2 := (hh1'.ne nb2).1
          have hb12 := f2 _ _ hb1
          clear hh1' Lo1' hb1
          generalize upd G1 b2 (.tup [V.str "cells 2", V.str "roads 0"]) = G2 at hb2 hb12 hh2' Lo2' ⊢
          refine fun b3 nb3 => ?_
          have f3 := al (o := .dK []) nb3
          have hb3 : upd G2 b3 (.dK []) b3 = some (.dK []) := upd_same
          have hh3' := hh2'.same f3
          have Lo3' := Lo2'.same f3
          have ne3 := (hh2'.ne nb3).1
          have hb13 := f3 _ _ hb12
          have hb23 := f3 _ _ hb2
          clear hh2' Lo2' hb12 hb2
          generalize upd G2 b3 (.dK []) = G3 at hb13 hb23 hb3 hh3' Lo3' ⊢
          refine ⟨by show 6 ≤ sizeLine; decide, fun lp nlp => ?_⟩
          have f4 := al (o := .lst [.non, .int 0, .bl true, .ref b1, .ref b2, .ref b3]) nlp
          refine ⟨h, c, lp, _, rfl, hh3'.same f4, (hh3'.ne nlp).1, upd_same, by show 0 < 6; decide, by show 6 ≤ 1000; decide, fun G5 i v d5 hv => ?_⟩
          have b5 : ∀ b o, b ≠ h → G3 b = some o → G5 b = some o := fun b o nb z => by rw [d5.but b nb]; exact f4 _ _ z
          have Lo5 := Lo3'.but hh3' b5
          have g1' := b5 _ _ ne1 hb13
          have g2' := b5 _ _ ne2 hb23
          have g3' := b5 _ _ ne3 hb3
          have nt : NoTxt K G5 v := by
            have m := List.mem_of_getElem? hv
            simp only [List.mem_cons, List.not_mem_nil, or_false] at m
            rcases m with rfl | rfl | rfl | rfl | rfl | rfl
            · exact ⟨"NoneType", fun _ _ => .base .non, kit_ty (by decide +kernel)⟩
            · exact ⟨"int", fun _ _ => .base (.int _), kit_ty (by decide +kernel)⟩
            · exact ⟨"bool", fun _ _ => .base (.bl _), kit_ty (by decide +kernel)⟩
            · exact ⟨"list", fun _ e => .base (.lst (e _ _ g1')), kit_ty (by decide +kernel)⟩
            · exact ⟨"tuple", fun _ e => .base (.tup (e _ _ g2')), kit_ty (by decide +kernel)⟩
            · exact ⟨"dict", fun _ e => .base (.dK (e _ _ g3')), kit_ty (by decide +kernel)⟩
          refine ⟨_, rfl, v, rfl, .inl ⟨nt, fun G6 pt e6 npt told => ?_⟩⟩
          obtain ⟨t, ht1, ht2⟩ := told
          refine ⟨by show 3 ≤ sizeLine; decide, fun t1 nt1 => ⟨by show 2 ≤ sizeLine; decide, fun t2 nt2 => ?_⟩⟩
          have k1 := al (o := .tup [.bl true, .int 0, .str "text"]) nt1
          have k2 := al (o := .tup [.non, .ref t1]) nt2
          have k12 := k1.trans k2
          obtain ⟨sh, cl⟩ := tupN_ok (b := true) (j := 0) (z := "text") (by decide +kernel)
          refine ⟨_, _, .tup (.inl (.inl (k12 _ _ ht1))) (.cons .non (.cons (.tup (.inl (.inl (k12 _ _ ht2))) (.cons (.bl true) (.cons (.int _) (.cons (.str _) .nil)))) .nil)), .tup (.inl (.inl upd_same)) (.cons .non (.cons (.tup (.inl (.inl (k2 _ _ upd_same))) (.cons (.bl true) (.cons (.int _) (.cons (.str _) .nil)))) .nil)), sh, sh, ?_⟩
          rw [PySem.SeqAt.eqv_refl _ cl]
          refine ⟨_, rfl, iteTo rfl ?_⟩
          refine ⟨_, rfl, p, n, es', rd', rfl, (Lo5.same e6).same k12, c32, fun G7 e7 => ?_⟩
          refine ⟨_, rfl, rfl, ?_⟩
          rw [decide_eq_true rfl]
          exact q _
end
end K7
end
/-! ## P27 -/
section
open PySem PySem.Spec PyProof.Rows L2
namespace K7
theorem all_mk {P : Program} {w : World} {K : PySem.W.Frag} {h : Heap} {mg : Str → Option Value} {fa : Addr} (X : K.In h) (G : h.Ns mainGlobals mg) (hfa : mg "law" = some (.ref fa))
  {f_sq : Addr}
  (a_sq : PySem.W.nsIn K mainGlobals "is_sequence" = some (some (.ref f_sq)))
  {od_sq an_sq : Option Addr}
  {sl_sq : Array (Option Value)}
  {oc_sq kV_sq dc_sq pm_sq cd_sq ct_sq : Value}
  (l_sq : K.lookup f_sq = some ⟨oc_sq, od_sq, .func (PySem.W.fnOf "is_sequence" "is_sequence" (defArgs s_is_sequence) (defBody s_is_sequence) (defScope s_is_sequence) .none kV_sq dc_sq pm_sq an_sq cd_sq ct_sq), sl_sq⟩)
  (c_sq : PySem.W.codeIn K cd_sq "is_sequence" = true)
  (k_sq : PySem.W.keepIn K (.ref f_sq) = true)
  {f_isw : Addr}
  (a_isw : PySem.W.nsIn K mainGlobals "is_whole" = some (some (.ref f_isw)))
  {od_isw an_isw : Option Addr}
  {sl_isw : Array (Option Value)}
  {oc_isw kV_isw dc_isw pm_isw cd_isw ct_isw : Value}
  (l_isw : K.lookup f_isw = some ⟨oc_isw, od_isw, .func (PySem.W.fnOf "is_whole" "is_whole" (defArgs s_is_whole) (defBody s_is_whole) (defScope s_is_whole) .none kV_isw dc_isw pm_isw an_isw cd_isw ct_isw), sl_isw⟩)
  (c_isw : PySem.W.codeIn K cd_isw "is_whole" = true)
  (k_isw : PySem.W.keepIn K (.ref f_isw) = true)
  {f_ac : Addr}
  (a_ac : PySem.W.nsIn K mainGlobals "are_cells" = some (some (.ref f_ac)))
  {od_ac an_ac : Option Addr}
  {sl_ac : Array (Option Value)}
  {oc_ac kV_ac dc_ac pm_ac cd_ac ct_ac : Value}
  (l_ac : K.lookup f_ac = some ⟨oc_ac, od_ac, .func (PySem.W.fnOf "are_cells" "are_cells" (defArgs s_are_cells) (defBody s_are_cells) (defScope s_are_cells) .none kV_ac dc_ac pm_ac an_ac cd_ac ct_ac), sl_ac⟩)
  (c_ac : PySem.W.codeIn K cd_ac "are_cells" = true)
  (k_ac : PySem.W.keepIn K (.ref f_ac) = true)
  {f_a2 : Addr}
  (a_a2 : PySem.W.nsIn K mainGlobals "are_two_cells" = some (some (.ref f_a2)))
  {od_a2 an_a2 : Option Addr}
  {sl_a2 : Array (Option Value)}
  {oc_a2 kV_a2 dc_a2 pm_a2 cd_a2 ct_a2 : Value}
  (l_a2 : K.lookup f_a2 = some ⟨oc_a2, od_a2, .func (PySem.W.fnOf "are_two_cells" "are_two_cells" (defArgs s_are_two_cells) (defBody s_are_two_cells) (defScope s_are_two_cells) .none kV_a2 dc_a2 pm_a2 an_a2 cd_a2 ct_a2), sl_a2⟩)
  (c_a2 : PySem.W.codeIn K cd_a2 "are_two_cells" = true)
  (k_a2 : PySem.W.keepIn K (.ref f_a2) = true)
  {f_sp : Addr}
  (a_sp : PySem.W.nsIn K mainGlobals "spread" = some (some (.ref f_sp)))
  {od_sp an_sp : Option Addr}
  {sl_sp : Array (Option Value)}
  {oc_sp kV_sp dc_sp pm_sp cd_sp ct_sp : Value}
  (l_sp : K.lookup f_sp = some ⟨oc_sp, od_sp, .func (PySem.W.fnOf "spread" "spread" (defArgs s_spread) (defBody s_spread) (defScope s_spread) .none kV_sp dc_sp pm_sp an_sp cd_sp ct_sp), sl_sp⟩)
  (c_sp : PySem.W.codeIn K cd_sp "spread" = true)
  (k_sp : PySem.W.keepIn K (.ref f_sp) = true)
  {f_ny : Addr}
  (a_ny : PySem.W.nsIn K mainGlobals "nearby_cells" = some (some (.ref f_ny)))
  {od_ny an_ny : Option Addr}
  {sl_ny : Array (Option Value)}
  {oc_ny kV_ny dc_ny pm_ny cd_ny ct_ny : Value}
  (l_ny : K.lookup f_ny = some ⟨oc_ny, od_ny, .func (PySem.W.fnOf "nearby_cells" "nearby_cells" (defArgs s_nearby_cells) (defBody s_nearby_cells) (defScope s_nearby_cells) .none kV_ny dc_ny pm_ny an_ny cd_ny ct_ny), sl_ny⟩)
  (c_ny : PySem.W.codeIn K cd_ny "nearby_cells" = true)
  (k_ny : PySem.W.keepIn K (.ref f_ny) = true)
  {f_ht : Addr}
  (a_ht : PySem.W.nsIn K mainGlobals "hang_together" = some (some (.ref f_ht)))
  {od_ht an_ht : Option Addr}
  {sl_ht : Array (Option Value)}
  {oc_ht kV_ht dc_ht pm_ht cd_ht ct_ht : Value}
  (l_ht : K.lookup f_ht = some ⟨oc_ht, od_ht, .func (PySem.W.fnOf "hang_together" "hang_together" (defArgs s_hang_together) (defBody s_hang_together) (defScope s_hang_together) .none kV_ht dc_ht pm_ht an_ht cd_ht ct_ht), sl_ht⟩)
  (c_ht : PySem.W.codeIn K cd_ht "hang_together" = true)
  (k_ht : PySem.W.keepIn K (.ref f_ht) = true)
  {f_nb : Addr}
  (a_nb : PySem.W.nsIn K mainGlobals "_are_neighbours" = some (some (.ref f_nb)))
  {od_nb an_nb : Option Addr}
  {sl_nb : Array (Option Value)}
  {oc_nb kV_nb dc_nb pm_nb cd_nb ct_nb : Value}
  (l_nb : K.lookup f_nb = some ⟨oc_nb, od_nb, .func (PySem.W.fnOf "_are_neighbours" "_are_neighbours" (defArgs s__are_neighbours) (defBody s__are_neighbours) (defScope s__are_neighbours) .none kV_nb dc_nb pm_nb an_nb cd_nb ct_nb), sl_nb⟩)
  (c_nb : PySem.W.codeIn K cd_nb "_are_neighbours" = true)
  (k_nb : PySem.W.keepIn K (.ref f_nb) = true)
  {f_lt : Addr}
  (a_lt : PySem.W.nsIn K mainGlobals "land_text" = some (some (.ref f_lt)))
  {od_lt an_lt : Option Addr}
  {sl_lt : Array (Option Value)}
  {oc_lt kV_lt dc_lt pm_lt cd_lt ct_lt : Value}
  (l_lt : K.lookup f_lt = some ⟨oc_lt, od_lt, .func (PySem.W.fnOf "land_text" "land_text" (defArgs s_land_text) (defBody s_land_text) (defScope s_land_text) .none kV_lt dc_lt pm_lt an_lt cd_lt ct_lt), sl_lt⟩)
  (c_lt : PySem.W.codeIn K cd_lt "land_text" = true)
  (k_lt : PySem.W.keepIn K (.ref f_lt) = true)
  {f_rw : Addr}
  (a_rw : PySem.W.nsIn K mainGlobals "_row" = some (some (.ref f_rw)))
  {od_rw an_rw : Option Addr}
  {sl_rw : Array (Option Value)}
  {oc_rw kV_rw dc_rw pm_rw cd_rw ct_rw : Value}
  (l_rw : K.lookup f_rw = some ⟨oc_rw, od_rw, .func (PySem.W.fnOf "_row" "_row" (defArgs s__row) (defBody s__row) (defScope s__row) .none kV_rw dc_rw pm_rw an_rw cd_rw ct_rw), sl_rw⟩)
  (c_rw : PySem.W.codeIn K cd_rw "_row" = true)
  (k_rw : PySem.W.keepIn K (.ref f_rw) = true)
  {f_dg : Addr}
  (a_dg : PySem.W.nsIn K mainGlobals "_digits" = some (some (.ref f_dg)))
  {od_dg an_dg : Option Addr}
  {sl_dg : Array (Option Value)}
  {oc_dg kV_dg dc_dg pm_dg cd_dg ct_dg : Value}
  (l_dg : K.lookup f_dg = some ⟨oc_dg, od_dg, .func (PySem.W.fnOf "_digits" "_digits" (defArgs s__digits) (defBody s__digits) (defScope s__digits) .none kV_dg dc_dg pm_dg an_dg cd_dg ct_dg), sl_dg⟩)
  (c_dg : PySem.W.codeIn K cd_dg "_digits" = true)
  (k_dg : PySem.W.keepIn K (.ref f_dg) = true)
  {f_rc : Addr}
  (a_rc : PySem.W.nsIn K mainGlobals "_read_cells" = some (some (.ref f_rc)))
  {od_rc an_rc : Option Addr}
  {sl_rc : Array (Option Value)}
  {oc_rc kV_rc dc_rc pm_rc cd_rc ct_rc : Value}
  (l_rc : K.lookup f_rc = some ⟨oc_rc, od_rc, .func (PySem.W.fnOf "_read_cells" "_read_cells" (defArgs s__read_cells) (defBody s__read_cells) (defScope s__read_cells) .none kV_rc dc_rc pm_rc an_rc cd_rc ct_rc), sl_rc⟩)
  (c_rc : PySem.W.codeIn K cd_rc "_read_cells" = true)
  (k_rc : PySem.W.keepIn K (.ref f_rc) = true)
  {f_rr : Addr}
  (a_rr : PySem.W.nsIn K mainGlobals "_read_roads" = some (some (.ref f_rr)))
  {od_rr an_rr : Option Addr}
  {sl_rr : Array (Option Value)}
  {oc_rr kV_rr dc_rr pm_rr cd_rr ct_rr : Value}
  (l_rr : K.lookup f_rr = some ⟨oc_rr, od_rr, .func (PySem.W.fnOf "_read_roads" "_read_roads" (defArgs s__read_roads) (defBody s__read_roads) (defScope s__read_roads) .none kV_rr dc_rr pm_rr an_rr cd_rr ct_rr), sl_rr⟩)
  (c_rr : PySem.W.codeIn K cd_rr "_read_roads" = true)
  (k_rr : PySem.W.keepIn K (.ref f_rr) = true)
  {f_rn : Addr}
  (a_rn : PySem.W.nsIn K mainGlobals "_read_next" = some (some (.ref f_rn)))
  {od_rn an_rn : Option Addr}
  {sl_rn : Array (Option Value)}
  {oc_rn kV_rn dc_rn pm_rn cd_rn ct_rn : Value}
  (l_rn : K.lookup f_rn = some ⟨oc_rn, od_rn, .func (PySem.W.fnOf "_read_next" "_read_next" (defArgs s__read_next) (defBody s__read_next) (defScope s__read_next) .none kV_rn dc_rn pm_rn an_rn cd_rn ct_rn), sl_rn⟩)
  (c_rn : PySem.W.codeIn K cd_rn "_read_next" = true)
  (k_rn : PySem.W.keepIn K (.ref f_rn) = true)
  {f_ck : Addr}
  (a_ck : PySem.W.nsIn K mainGlobals "_checked" = some (some (.ref f_ck)))
  {od_ck an_ck : Option Addr}
  {sl_ck : Array (Option Value)}
  {oc_ck kV_ck dc_ck pm_ck cd_ck ct_ck : Value}
  (l_ck : K.lookup f_ck = some ⟨oc_ck, od_ck, .func (PySem.W.fnOf "_checked" "_checked" (defArgs s__checked) (defBody s__checked) (defScope s__checked) .none kV_ck dc_ck pm_ck an_ck cd_ck ct_ck), sl_ck⟩)
  (c_ck : PySem.W.codeIn K cd_ck "_checked" = true)
  (k_ck : PySem.W.keepIn K (.ref f_ck) = true)
  {f_pl : Addr}
  (a_pl : PySem.W.nsIn K mainGlobals "parse_land" = some (some (.ref f_pl)))
  {od_pl an_pl : Option Addr}
  {sl_pl : Array (Option Value)}
  {oc_pl kV_pl dc_pl pm_pl cd_pl ct_pl : Value}
  (l_pl : K.lookup f_pl = some ⟨oc_pl, od_pl, .func (PySem.W.fnOf "parse_land" "parse_land" (defArgs s_parse_land) (defBody s_parse_land) (defScope s_parse_land) .none kV_pl dc_pl pm_pl an_pl cd_pl ct_pl), sl_pl⟩)
  (c_pl : PySem.W.codeIn K cd_pl "parse_land" = true)
  (k_pl : PySem.W.keepIn K (.ref f_pl) = true)
  {f_mi : Addr}
  (a_mi : PySem.W.nsIn K mainGlobals "_law_mix" = some (some (.ref f_mi)))
  {od_mi an_mi : Option Addr}
  {sl_mi : Array (Option Value)}
  {oc_mi kV_mi dc_mi pm_mi cd_mi ct_mi : Value}
  (l_mi : K.lookup f_mi = some ⟨oc_mi, od_mi, .func (PySem.W.fnOf "_law_mix" "_law_mix" (defArgs s__law_mix) (defBody s__law_mix) (defScope s__law_mix) .none kV_mi dc_mi pm_mi an_mi cd_mi ct_mi), sl_mi⟩)
  (c_mi : PySem.W.codeIn K cd_mi "_law_mix" = true)
  (k_mi : PySem.W.keepIn K (.ref f_mi) = true)
  {f_ha : Addr}
  (a_ha : PySem.W.nsIn K mainGlobals "_law_hand" = some (some (.ref f_ha)))
  {od_ha an_ha : Option Addr}
  {sl_ha : Array (Option Value)}
  {oc_ha kV_ha dc_ha pm_ha cd_ha ct_ha : Value}
  (l_ha : K.lookup f_ha = some ⟨oc_ha, od_ha, .func (PySem.W.fnOf "_law_hand" "_law_hand" (defArgs s__law_hand) (defBody s__law_hand) (defScope s__law_hand) .none kV_ha dc_ha pm_ha an_ha cd_ha ct_ha), sl_ha⟩)
  (c_ha : PySem.W.codeIn K cd_ha "_law_hand" = true)
  (k_ha : PySem.W.keepIn K (.ref f_ha) = true)
  {f_dr : Addr}
  (a_dr : PySem.W.nsIn K mainGlobals "_law_draw" = some (some (.ref f_dr)))
  {od_dr an_dr : Option Addr}
  {sl_dr : Array (Option Value)}
  {oc_dr kV_dr dc_dr pm_dr cd_dr ct_dr : Value}
  (l_dr : K.lookup f_dr = some ⟨oc_dr, od_dr, .func (PySem.W.fnOf "_law_draw" "_law_draw" (defArgs s__law_draw) (defBody s__law_draw) (defScope s__law_draw) .none kV_dr dc_dr pm_dr an_dr cd_dr ct_dr), sl_dr⟩)
  (c_dr : PySem.W.codeIn K cd_dr "_law_draw" = true)
  (k_dr : PySem.W.keepIn K (.ref f_dr) = true)
  {f_pk : Addr}
  (a_pk : PySem.W.nsIn K mainGlobals "_law_pick" = some (some (.ref f_pk)))
  {od_pk an_pk : Option Addr}
  {sl_pk : Array (Option Value)}
  {oc_pk kV_pk dc_pk pm_pk cd_pk ct_pk : Value}
  (l_pk : K.lookup f_pk = some ⟨oc_pk, od_pk, .func (PySem.W.fnOf "_law_pick" "_law_pick" (defArgs s__law_pick) (defBody s__law_pick) (defScope s__law_pick) .none kV_pk dc_pk pm_pk an_pk cd_pk ct_pk), sl_pk⟩)
  (c_pk : PySem.W.codeIn K cd_pk "_law_pick" = true)
  (k_pk : PySem.W.keepIn K (.ref f_pk) = true)
  {f_lo : Addr}
  (a_lo : PySem.W.nsIn K mainGlobals "_law_lots" = some (some (.ref f_lo)))
  {od_lo an_lo : Option Addr}
  {sl_lo : Array (Option Value)}
  {oc_lo kV_lo dc_lo pm_lo cd_lo ct_lo : Value}
  (l_lo : K.lookup f_lo = some ⟨oc_lo, od_lo, .func (PySem.W.fnOf "_law_lots" "_law_lots" (defArgs s__law_lots) (defBody s__law_lots) (defScope s__law_lots) .none kV_lo dc_lo pm_lo an_lo cd_lo ct_lo), sl_lo⟩)
  (c_lo : PySem.W.codeIn K cd_lo "_law_lots" = true)
  (k_lo : PySem.W.keepIn K (.ref f_lo) = true)
  {f_ld : Addr}
  (a_ld : PySem.W.nsIn K mainGlobals "_law_land" = some (some (.ref f_ld)))
  {od_ld an_ld : Option Addr}
  {sl_ld : Array (Option Value)}
  {oc_ld kV_ld dc_ld pm_ld cd_ld ct_ld : Value}
  (l_ld : K.lookup f_ld = some ⟨oc_ld, od_ld, .func (PySem.W.fnOf "_law_land" "_law_land" (defArgs s__law_land) (defBody s__law_land) (defScope s__law_land) .none kV_ld dc_ld pm_ld an_ld cd_ld ct_ld), sl_ld⟩)
  (c_ld : PySem.W.codeIn K cd_ld "_law_land" = true)
  (k_ld : PySem.W.keepIn K (.ref f_ld) = true)
  {f_wt : Addr}
  (a_wt : PySem.W.nsIn K mainGlobals "_law_text" = some (some (.ref f_wt)))
  {od_wt an_wt : Option Addr}
  {sl_wt : Array (Option Value)}
  {oc_wt kV_wt dc_wt pm_wt cd_wt ct_wt : Value}
  (l_wt : K.lookup f_wt = some ⟨oc_wt, od_wt, .func (PySem.W.fnOf "_law_text" "_law_text" (defArgs s__law_text) (defBody s__law_text) (defScope s__law_text) .none kV_wt dc_wt pm_wt an_wt cd_wt ct_wt), sl_wt⟩)
  (c_wt : PySem.W.codeIn K cd_wt "_law_text" = true)
  (k_wt : PySem.W.keepIn K (.ref f_wt) = true)
  {f_ld6 : Addr}
  (a_ld6 : PySem.W.nsIn K mainGlobals "_law_digits" = some (some (.ref f_ld6)))
  {od_ld6 an_ld6 : Option Addr}
  {sl_ld6 : Array (Option Value)}
  {oc_ld6 kV_ld6 dc_ld6 pm_ld6 cd_ld6 ct_ld6 : Value}
  (l_ld6 : K.lookup f_ld6 = some ⟨oc_ld6, od_ld6, .func (PySem.W.fnOf "_law_digits" "_law_digits" (defArgs s__law_digits) (defBody s__law_digits) (defScope s__law_digits) .none kV_ld6 dc_ld6 pm_ld6 an_ld6 cd_ld6 ct_ld6), sl_ld6⟩)
  (c_ld6 : PySem.W.codeIn K cd_ld6 "_law_digits" = true)
  (k_ld6 : PySem.W.keepIn K (.ref f_ld6) = true)
  {f_isl : Addr}
  (a_isl : PySem.W.nsIn K mainGlobals "_law_is_land" = some (some (.ref f_isl)))
  {od_isl an_isl : Option Addr}
  {sl_isl : Array (Option Value)}
  {oc_isl kV_isl dc_isl pm_isl cd_isl ct_isl : Value}
  (l_isl : K.lookup f_isl = some ⟨oc_isl, od_isl, .func (PySem.W.fnOf "_law_is_land" "_law_is_land" (defArgs s__law_is_land) (defBody s__law_is_land) (defScope s__law_is_land) .none kV_isl dc_isl pm_isl an_isl cd_isl ct_isl), sl_isl⟩)
  (c_isl : PySem.W.codeIn K cd_isl "_law_is_land" = true)
  (k_isl : PySem.W.keepIn K (.ref f_isl) = true)
  {f_du : Addr}
  (a_du : PySem.W.nsIn K mainGlobals "_law_due" = some (some (.ref f_du)))
  {od_du an_du : Option Addr}
  {sl_du : Array (Option Value)}
  {oc_du kV_du dc_du pm_du cd_du ct_du : Value}
  (l_du : K.lookup f_du = some ⟨oc_du, od_du, .func (PySem.W.fnOf "_law_due" "_law_due" (defArgs s__law_due) (defBody s__law_due) (defScope s__law_due) .none kV_du dc_du pm_du an_du cd_du ct_du), sl_du⟩)
  (c_du : PySem.W.codeIn K cd_du "_law_due" = true)
  (k_du : PySem.W.keepIn K (.ref f_du) = true)
  {f_tl : Addr}
  (a_tl : PySem.W.nsIn K mainGlobals "_law_told" = some (some (.ref f_tl)))
  {od_tl an_tl : Option Addr}
  {sl_tl : Array (Option Value)}
  {oc_tl kV_tl dc_tl pm_tl cd_tl ct_tl : Value}
  (l_tl : K.lookup f_tl = some ⟨oc_tl, od_tl, .func (PySem.W.fnOf "_law_told" "_law_told" (defArgs s__law_told) (defBody s__law_told) (defScope s__law_told) .none kV_tl dc_tl pm_tl an_tl cd_tl ct_tl), sl_tl⟩)
  (c_tl : PySem.W.codeIn K cd_tl "_law_told" = true)
  (k_tl : PySem.W.keepIn K (.ref f_tl) = true)
  {f_so : Addr}
  (a_so : PySem.W.nsIn K mainGlobals "_law_spoilt" = some (some (.ref f_so)))
  {od_so an_so : Option Addr}
  {sl_so : Array (Option Value)}
  {oc_so kV_so dc_so pm_so cd_so ct_so : Value}
  (l_so : K.lookup f_so = some ⟨oc_so, od_so, .func (PySem.W.fnOf "_law_spoilt" "_law_spoilt" (defArgs s__law_spoilt) (defBody s__law_spoilt) (defScope s__law_spoilt) .none kV_so dc_so pm_so an_so cd_so ct_so), sl_so⟩)
  (c_so : PySem.W.codeIn K cd_so "_law_spoilt" = true)
  (k_so : PySem.W.keepIn K (.ref f_so) = true)
  {f_la : Addr}
  (a_la : PySem.W.nsIn K mainGlobals "law" = some (some (.ref f_la)))
  {od_la an_la : Option Addr}
  {sl_la : Array (Option Value)}
  {oc_la kV_la dc_la pm_la cd_la ct_la : Value}
  (l_la : K.lookup f_la = some ⟨oc_la, od_la, .func (PySem.W.fnOf "law" "law" (defArgs s_law) (defBody s_law) (defScope s_law) .none kV_la dc_la pm_la an_la cd_la ct_la), sl_la⟩)
  (c_la : PySem.W.codeIn K cd_la "law" = true)
  (k_la : PySem.W.keepIn K (.ref f_la) = true)
  {L : Addr}
  (aL : PySem.W.nsIn K mainGlobals "LandError" = some (some (.ref L)))
  (eL : PySem.W.subIn K (.ref L) (.type "BaseException") = some true)
  (dL : PySem.W.hasDictIn K L = true)
  (tL : PySem.W.typeIn K (.ref L) = some (.type "type"))
  (icL : PySem.W.isClsIn K L = true)
  (hnO : PySem.W.specialIn K (.builtin "object.__class__") "__get__" = some (some (.builtin "getset_descriptor.__get__")))
  (htO : PySem.W.takesIn K (.builtin "object.__class__") = some true)
  {LC : Addr}
  (aLC : PySem.W.nsIn K mainGlobals "Land" = some (some (.ref LC)))
  (pgLC : PySem.W.plainGet K LC Str.empty = true)
  (hdLC : PySem.W.hasDictIn K LC = true)
  (poLC : PySem.W.plainOver K LC = true)
  (saLC : PySem.W.findIn K (.ref LC) "__setattr__" = some (some (.builtin "object.__setattr__")))
  (mkLC : PySem.W.makesIn K LC = true)
  (kcLC : PySem.W.keepIn K (.ref LC) = true)
  (haLC : PySem.W.findIn K (.ref LC) "__class__" = some (some (.builtin "object.__class__")))
  (hmLC : PySem.W.mroIn K LC (.type "object") = some true)
  (neLC : PySem.W.findIn K (.ref LC) "__ne__" = some (some (.builtin "object.__ne__")))
  (n_LC_cells : PySem.W.findIn K (.ref LC) "cells" = some none)
  (n_LC_neighbours : PySem.W.findIn K (.ref LC) "neighbours" = some none)
  (n_LC_roads : PySem.W.findIn K (.ref LC) "roads" = some none)
  (n_LC_nearby : PySem.W.findIn K (.ref LC) "nearby" = some none)
  (n_LC__couples : PySem.W.findIn K (.ref LC) "_couples" = some none)
  {f_cI : Addr}
  (a_cI : PySem.W.findIn K (.ref LC) "__init__" = some (some (.ref f_cI)))
  (i_cI : PySem.W.isFn K (.ref f_cI) = true)
  {od_cI an_cI : Option Addr}
  {sl_cI : Array (Option Value)}
  {oc_cI kV_cI dc_cI pm_cI cd_cI ct_cI : Value}
  (l_cI : K.lookup f_cI = some ⟨oc_cI, od_cI, .func (PySem.W.fnOf "__init__" "Land.__init__" (defArgs s_Land___init__) (defBody s_Land___init__) (defScope s_Land___init__) .none kV_cI dc_cI pm_cI an_cI cd_cI ct_cI), sl_cI⟩)
  (c_cI : PySem.W.codeIn K cd_cI "Land.__init__" = true)
  (k_cI : PySem.W.keepIn K (.ref f_cI) = true)
  {f_eq : Addr}
  (a_eq : PySem.W.findIn K (.ref LC) "__eq__" = some (some (.ref f_eq)))
  (i_eq : PySem.W.isFn K (.ref f_eq) = true)
  {od_eq an_eq : Option Addr}
  {sl_eq : Array (Option Value)}
  {oc_eq kV_eq dc_eq pm_eq cd_eq ct_eq : Value}
  (l_eq : K.lookup f_eq = some ⟨oc_eq, od_eq, .func (PySem.W.fnOf "__eq__" "Land.__eq__" (defArgs s_Land___eq__) (defBody s_Land___eq__) (defScope s_Land___eq__) .none kV_eq dc_eq pm_eq an_eq cd_eq ct_eq), sl_eq⟩)
  (c_eq : PySem.W.codeIn K cd_eq "Land.__eq__" = true)
  (k_eq : PySem.W.keepIn K (.ref f_eq) = true)
  {B : Addr}
  (aB : PySem.W.nsIn K mainGlobals "BadCell" = some (some (.ref B)))
  {nmB qB : Str}
  {N_B : Addr}
  {bsB bmB subB : List Value}
  {snB : List Str}
  {abB : Bool}
  {colB : Option Bool}
  {ddB : Option Addr}
  {m0B m1B m2B m3B m5B : Option Value}
  (xB : K.lookup B = some (excClassObj nmB qB B N_B bsB bmB true snB subB abB colB ddB m0B m1B m2B m3B m5B "ValueError.__new__"))
  (rB : PySem.HandSPX.refsVE bmB = true)
  (saB : PySem.W.findIn K (.ref B) "__setattr__" = some (some (.builtin "object.__setattr__")))
  (exB : PySem.W.subIn K (.ref B) (.type "BaseException") = some true)
  (tyB : PySem.W.typeIn K (.ref B) = some (.type "type"))
  (kpB : PySem.W.keepIn K (.ref B) = true)
  (hgB : PySem.W.findIn K (.ref B) "__getattribute__" = some (some (.builtin "BaseException.__getattribute__")))
  (hkB : PySem.W.findIn K (.ref B) "__getattr__" = some none)
  (hdB : PySem.W.hasDictIn K B = true)
  (haB : PySem.W.findIn K (.ref B) "__class__" = some (some (.builtin "object.__class__")))
  (hmB : PySem.W.mroIn K B (.type "object") = some true)
  (icB : PySem.W.isClsIn K B = true)
  (ssB : PySem.W.subIn K (.ref B) (.ref B) = some true)
  (suB : PySem.W.subIn K (.ref B) (.ref L) = some true)
  (noB : PySem.W.findIn K (.ref B) "cell" = some none)
  {f_iB : Addr}
  (a_iB : PySem.W.findIn K (.ref B) "__init__" = some (some (.ref f_iB)))
  (t_iB : PySem.W.typeIn K (.ref f_iB) = some (.type "function"))
  {od_iB an_iB : Option Addr}
  {sl_iB : Array (Option Value)}
  {oc_iB kV_iB dc_iB pm_iB cd_iB ct_iB : Value}
  (l_iB : K.lookup f_iB = some ⟨oc_iB, od_iB, .func (PySem.W.fnOf "__init__" "BadCell.__init__" (defArgs s_BadCell___init__) (defBody s_BadCell___init__) (defScope s_BadCell___init__) .none kV_iB dc_iB pm_iB an_iB cd_iB ct_iB), sl_iB⟩)
  (c_iB : PySem.W.codeIn K cd_iB "BadCell.__init__" = true)
  (k_iB : PySem.W.keepIn K (.ref f_iB) = true)
  {BL : Addr}
  (aBL : PySem.W.nsIn K mainGlobals "BadLand" = some (some (.ref BL)))
  {nmBL qBL : Str}
  {N_BL : Addr}
  {bsBL bmBL subBL : List Value}
  {snBL : List Str}
  {abBL : Bool}
  {colBL : Option Bool}
  {ddBL : Option Addr}
  {m0BL m1BL m2BL m3BL m5BL : Option Value}
  (xBL : K.lookup BL = some (excClassObj nmBL qBL BL N_BL bsBL bmBL true snBL subBL abBL colBL ddBL m0BL m1BL m2BL m3BL m5BL "ValueError.__new__"))
  (rBL : PySem.HandSPX.refsVE bmBL = true)
  (saBL : PySem.W.findIn K (.ref BL) "__setattr__" = some (some (.builtin "object.__setattr__")))
  (exBL : PySem.W.subIn K (.ref BL) (.type "BaseException") = some true)
  (tyBL : PySem.W.typeIn K (.ref BL) = some (.type "type"))
  (kpBL : PySem.W.keepIn K (.ref BL) = true)
  (hgBL : PySem.W.findIn K (.ref BL) "__getattribute__" = some (some (.builtin "BaseException.__getattribute__")))
  (hkBL : PySem.W.findIn K (.ref BL) "__getattr__" = some none)
  (hdBL : PySem.W.hasDictIn K BL = true)
  (haBL : PySem.W.findIn K (.ref BL) "__class__" = some (some (.builtin "object.__class__")))
  (hmBL : PySem.W.mroIn K BL (.type "object") = some true)
  (icBL : PySem.W.isClsIn K BL = true)
  (ssBL : PySem.W.subIn K (.ref BL) (.ref BL) = some true)
  (suBL : PySem.W.subIn K (.ref BL) (.ref L) = some true)
  (noBL : PySem.W.findIn K (.ref BL) "what" = some none)
  {f_iBL : Addr}
  (a_iBL : PySem.W.findIn K (.ref BL) "__init__" = some (some (.ref f_iBL)))
  (t_iBL : PySem.W.typeIn K (.ref f_iBL) = some (.type "function"))
  {od_iBL an_iBL : Option Addr}
  {sl_iBL : Array (Option Value)}
  {oc_iBL kV_iBL dc_iBL pm_iBL cd_iBL ct_iBL : Value}
  (l_iBL : K.lookup f_iBL = some ⟨oc_iBL, od_iBL, .func (PySem.W.fnOf "__init__" "BadLand.__init__" (defArgs s_BadLand___init__) (defBody s_BadLand___init__) (defScope s_BadLand___init__) .none kV_iBL dc_iBL pm_iBL an_iBL cd_iBL ct_iBL), sl_iBL⟩)
  (c_iBL : PySem.W.codeIn K cd_iBL "BadLand.__init__" = true)
  (k_iBL : PySem.W.keepIn K (.ref f_iBL) = true)
  {BT : Addr}
  (aBT : PySem.W.nsIn K mainGlobals "BadText" = some (some (.ref BT)))
  {nmBT qBT : Str}
  {N_BT : Addr}
  {bsBT bmBT subBT : List Value}
  {snBT : List Str}
  {abBT : Bool}
  {colBT : Option Bool}
  {ddBT : Option Addr}
  {m0BT m1BT m2BT m3BT m5BT : Option Value}
  (xBT : K.lookup BT = some (excClassObj nmBT qBT BT N_BT bsBT bmBT true snBT subBT abBT colBT ddBT m0BT m1BT m2BT m3BT m5BT "ValueError.__new__"))
  (rBT : PySem.HandSPX.refsVE bmBT = true)
  (saBT : PySem.W.findIn K (.ref BT) "__setattr__" = some (some (.builtin "object.__setattr__")))
  (exBT : PySem.W.subIn K (.ref BT) (.type "BaseException") = some true)
  (tyBT : PySem.W.typeIn K (.ref BT) = some (.type "type"))
  (kpBT : PySem.W.keepIn K (.ref BT) = true)
  (hgBT : PySem.W.findIn K (.ref BT) "__getattribute__" = some (some (.builtin "BaseException.__getattribute__")))
  (hkBT : PySem.W.findIn K (.ref BT) "__getattr__" = some none)
  (hdBT : PySem.W.hasDictIn K BT = true)
  (haBT : PySem.W.findIn K (.ref BT) "__class__" = some (some (.builtin "object.__class__")))
  (hmBT : PySem.W.mroIn K BT (.type "object") = some true)
  (icBT : PySem.W.isClsIn K BT = true)
  (ssBT : PySem.W.subIn K (.ref BT) (.ref BT) = some true)
  (suBT : PySem.W.subIn K (.ref BT) (.ref L) = some true)
  (noBT : PySem.W.findIn K (.ref BT) "row" = some none)
  {f_iBT : Addr}
  (a_iBT : PySem.W.findIn K (.ref BT) "__init__" = some (some (.ref f_iBT)))
  (t_iBT : PySem.W.typeIn K (.ref f_iBT) = some (.type "function"))
  {od_iBT an_iBT : Option Addr}
  {sl_iBT : Array (Option Value)}
  {oc_iBT kV_iBT dc_iBT pm_iBT cd_iBT ct_iBT : Value}
  (l_iBT : K.lookup f_iBT = some ⟨oc_iBT, od_iBT, .func (PySem.W.fnOf "__init__" "BadText.__init__" (defArgs s_BadText___init__) (defBody s_BadText___init__) (defScope s_BadText___init__) .none kV_iBT dc_iBT pm_iBT an_iBT cd_iBT ct_iBT), sl_iBT⟩)
  (c_iBT : PySem.W.codeIn K cd_iBT "BadText.__init__" = true)
  (k_iBT : PySem.W.keepIn K (.ref f_iBT) = true)
  (nwBT : PySem.W.findIn K (.ref BT) "what" = some none)
  {t_M : Tok}
  (a_M : PySem.W.nsIn K mainGlobals "MOST_CELLS" = some (some (.int 5 t_M)))
  (z_isinstance : PySem.W.nsIn K mainGlobals "isinstance" = some none)
  (z_int : PySem.W.nsIn K mainGlobals "int" = some none)
  (z_bool : PySem.W.nsIn K mainGlobals "bool" = some none)
  (z_str : PySem.W.nsIn K mainGlobals "str" = some none)
  (z_tuple : PySem.W.nsIn K mainGlobals "tuple" = some none)
  (z_list : PySem.W.nsIn K mainGlobals "list" = some none)
  (z_enumerate : PySem.W.nsIn K mainGlobals "enumerate" = some none)
  (z_len : PySem.W.nsIn K mainGlobals "len" = some none)
  (z_abs : PySem.W.nsIn K mainGlobals "abs" = some none)
  (z_range : PySem.W.nsIn K mainGlobals "range" = some none)
  (z_min : PySem.W.nsIn K mainGlobals "min" = some none)
  (z_max : PySem.W.nsIn K mainGlobals "max" = some none)
  (z_sorted : PySem.W.nsIn K mainGlobals "sorted" = some none)
  (z_set : PySem.W.nsIn K mainGlobals "set" = some none)
  (z_all : PySem.W.nsIn K mainGlobals "all" = some none) :
    ∃ fd : FuncData, (∀ (s : Shared) (u : Value), BindsTo s fd ⟨[u], []⟩ [("_law_script", u)]) ∧ ∀ base : Heap, K.In base → base.Ns mainGlobals mg → FnOk P w K mg base CX0 9 fa fd ["_law_script"] (spLaw K) := by
  have e := hfa.symm.trans (PySem.W.mg_of X G a_la)
  cases e
  have F_sq := fun_mk (st := s_is_sequence) l_sq c_sq k_sq
  have b_sq := F_sq.binds (ps := ["thing"]) fun _ _ _ _ _ _ us hl => match us, hl with | [_], _ => rfl
  have g_sq := PySem.W.mg_of X G a_sq
  have F_isw := fun_mk (st := s_is_whole) l_isw c_isw k_isw
  have b_isw := F_isw.binds (ps := ["thing", "low", "high"]) fun _ _ _ _ _ _ us hl => match us, hl with | [_, _, _], _ => rfl
  have g_isw := PySem.W.mg_of X G a_isw
  have F_ac := fun_mk (st := s_are_cells) l_ac c_ac k_ac
  have b_ac := F_ac.binds (ps := ["many", "thing", "least"]) fun _ _ _ _ _ _ us hl => match us, hl with | [_, _, _], _ => rfl
  have g_ac := PySem.W.mg_of X G a_ac
  have F_a2 := fun_mk (st := s_are_two_cells) l_a2 c_a2 k_a2
  have b_a2 := F_a2.binds (ps := ["many", "thing"]) fun _ _ _ _ _ _ us hl => match us, hl with | [_, _], _ => rfl
  have g_a2 := PySem.W.mg_of X G a_a2
  have F_sp := fun_mk (st := s_spread) l_sp c_sp k_sp
  have b_sp := F_sp.binds (ps := ["nearby", "cell", "passing"]) fun _ _ _ _ _ _ us hl => match us, hl with | [_, _, _], _ => rfl
  have g_sp := PySem.W.mg_of X G a_sp
  have F_ny := fun_mk (st := s_nearby_cells) l_ny c_ny k_ny
  have b_ny := F_ny.binds (ps := ["cells", "couples"]) fun _ _ _ _ _ _ us hl => match us, hl with | [_, _], _ => rfl
  have g_ny := PySem.W.mg_of X G a_ny
  have F_ht := fun_mk (st := s_hang_together) l_ht c_ht k_ht
  have b_ht := F_ht.binds (ps := ["cells", "couples"]) fun _ _ _ _ _ _ us hl => match us, hl with | [_, _], _ => rfl
  have g_ht := PySem.W.mg_of X G a_ht
  have F_nb := fun_mk (st := s__are_neighbours) l_nb c_nb k_nb
  have b_nb := F_nb.binds (ps := ["cells", "thing"]) fun _ _ _ _ _ _ us hl => match us, hl with | [_, _], _ => rfl
  have g_nb := PySem.W.mg_of X G a_nb
  have F_lt := fun_mk (st := s_land_text) l_lt c_lt k_lt
  have b_lt := F_lt.binds (ps := ["land"]) fun _ _ _ _ _ _ us hl => match us, hl with | [_], _ => rfl
  have g_lt := PySem.W.mg_of X G a_lt
  have F_rw := fun_mk (st := s__row) l_rw c_rw k_rw
  have b_rw := F_rw.binds (ps := ["word", "numbers"]) fun _ _ _ _ _ _ us hl => match us, hl with | [_, _], _ => rfl
  have g_rw := PySem.W.mg_of X G a_rw
  have F_dg := fun_mk (st := s__digits) l_dg c_dg k_dg
  have b_dg := F_dg.binds (ps := ["word", "row"]) fun _ _ _ _ _ _ us hl => match us, hl with | [_, _], _ => rfl
  have g_dg := PySem.W.mg_of X G a_dg
  have F_rc := fun_mk (st := s__read_cells) l_rc c_rc k_rc
  have b_rc := F_rc.binds (ps := ["row"]) fun _ _ _ _ _ _ us hl => match us, hl with | [_], _ => rfl
  have g_rc := PySem.W.mg_of X G a_rc
  have F_rr := fun_mk (st := s__read_roads) l_rr c_rr k_rr
  have b_rr := F_rr.binds (ps := ["row"]) fun _ _ _ _ _ _ us hl => match us, hl with | [_], _ => rfl
  have g_rr := PySem.W.mg_of X G a_rr
  have F_rn := fun_mk (st := s__read_next) l_rn c_rn k_rn
  have b_rn := F_rn.binds (ps := ["row", "last"]) fun _ _ _ _ _ _ us hl => match us, hl with | [_, _], _ => rfl
  have g_rn := PySem.W.mg_of X G a_rn
  have F_ck := fun_mk (st := s__checked) l_ck c_ck k_ck
  have b_ck := F_ck.binds (ps := ["part", "row"]) fun _ _ _ _ _ _ us hl => match us, hl with | [_, _], _ => rfl
  have g_ck := PySem.W.mg_of X G a_ck
  have F_pl := fun_mk (st := s_parse_land) l_pl c_pl k_pl
  have b_pl := F_pl.binds (ps := ["text"]) fun _ _ _ _ _ _ us hl => match us, hl with | [_], _ => rfl
  have g_pl := PySem.W.mg_of X G a_pl
  have F_mi := fun_mk (st := s__law_mix) l_mi c_mi k_mi
  have b_mi := F_mi.binds (ps := ["_law_number", "_law_turn"]) fun _ _ _ _ _ _ us hl => match us, hl with | [_, _], _ => rfl
  have g_mi := PySem.W.mg_of X G a_mi
  have F_ha := fun_mk (st := s__law_hand) l_ha c_ha k_ha
  have b_ha := F_ha.binds (ps := ["_law_script"]) fun _ _ _ _ _ _ us hl => match us, hl with | [_], _ => rfl
  have g_ha := PySem.W.mg_of X G a_ha
  have F_dr := fun_mk (st := s__law_draw) l_dr c_dr k_dr
  have b_dr := F_dr.binds (ps := ["_law_hand_here", "_law_many"]) fun _ _ _ _ _ _ us hl => match us, hl with | [_, _], _ => rfl
  have g_dr := PySem.W.mg_of X G a_dr
  have F_pk := fun_mk (st := s__law_pick) l_pk c_pk k_pk
  have b_pk := F_pk.binds (ps := ["_law_hand_here", "_law_things"]) fun _ _ _ _ _ _ us hl => match us, hl with | [_, _], _ => rfl
  have g_pk := PySem.W.mg_of X G a_pk
  have F_lo := fun_mk (st := s__law_lots) l_lo c_lo k_lo
  have b_lo := F_lo.binds (ps := ["_law_cells"]) fun _ _ _ _ _ _ us hl => match us, hl with | [_], _ => rfl
  have g_lo := PySem.W.mg_of X G a_lo
  have F_ld := fun_mk (st := s__law_land) l_ld c_ld k_ld
  have b_ld := F_ld.binds (ps := ["_law_hand_here", "_law_n"]) fun _ _ _ _ _ _ us hl => match us, hl with | [_, _], _ => rfl
  have g_ld := PySem.W.mg_of X G a_ld
  have F_wt := fun_mk (st := s__law_text) l_wt c_wt k_wt
  have b_wt := F_wt.binds (ps := ["_law_plain"]) fun _ _ _ _ _ _ us hl => match us, hl with | [_], _ => rfl
  have g_wt := PySem.W.mg_of X G a_wt
  have F_ld6 := fun_mk (st := s__law_digits) l_ld6 c_ld6 k_ld6
  have b_ld6 := F_ld6.binds (ps := ["_law_row", "_law_head"]) fun _ _ _ _ _ _ us hl => match us, hl with | [_, _], _ => rfl
  have g_ld6 := PySem.W.mg_of X G a_ld6
  have F_isl := fun_mk (st := s__law_is_land) l_isl c_isl k_isl
  have b_isl := F_isl.binds (ps := ["_law_n", "_law_roads", "_law_couples"]) fun _ _ _ _ _ _ us hl => match us, hl with | [_, _, _], _ => rfl
  have g_isl := PySem.W.mg_of X G a_isl
  have F_du := fun_mk (st := s__law_due) l_du c_du k_du
  have b_du := F_du.binds (ps := ["_law_text_here"]) fun _ _ _ _ _ _ us hl => match us, hl with | [_], _ => rfl
  have g_du := PySem.W.mg_of X G a_du
  have F_tl := fun_mk (st := s__law_told) l_tl c_tl k_tl
  have b_tl := F_tl.binds (ps := ["_law_text_here"]) fun _ _ _ _ _ _ us hl => match us, hl with | [_], _ => rfl
  have g_tl := PySem.W.mg_of X G a_tl
  have F_so := fun_mk (st := s__law_spoilt) l_so c_so k_so
  have b_so := F_so.binds (ps := ["_law_hand_here", "_law_text_here"]) fun _ _ _ _ _ _ us hl => match us, hl with | [_, _], _ => rfl
  have g_so := PySem.W.mg_of X G a_so
  have F_la := fun_mk (st := s_law) l_la c_la k_la
  have b_la := F_la.binds (ps := ["_law_script"]) fun _ _ _ _ _ _ us hl => match us, hl with | [_], _ => rfl
  have g_la := PySem.W.mg_of X G a_la
  have gcL := PySem.W.mg_of X G aL
  have F_cI := fun_mk (st := s_Land___init__) l_cI c_cI k_cI
  have b_cI := F_cI.binds (ps := ["self", "cells", "neighbours", "roads"]) fun _ _ _ _ _ _ us hl => match us, hl with | [_, _, _, _], _ => rfl
  have M_LC : Mk K LC f_cI := ⟨mkLC, a_cI, i_cI, kcLC⟩
  have F_eq := fun_mk (st := s_Land___eq__) l_eq c_eq k_eq
  have b_eq := F_eq.binds (ps := ["self", "other"]) fun _ _ _ _ _ _ us hl => match us, hl with | [_, _], _ => rfl
  have clsLC : Cls K LC := ⟨pgLC, hdLC, poLC, saLC⟩
  have gcLC := PySem.W.mg_of X G aLC
  have F_iB := fun_mk (st := s_BadCell___init__) l_iB c_iB k_iB
  have b_iB := F_iB.binds (ps := ["self", "cell"]) fun _ _ _ _ _ _ us hl => match us, hl with | [_, _], _ => rfl
  have oxB : OexC K B := ⟨⟨_, _, _, _, _, _, _, _, _, _, _, _, _, _, _, xB, rB⟩, saB, exB, tyB, kpB⟩
  have gcB := PySem.W.mg_of X G aB
  have emB : PySem.W.exmOne K (.ref B) (.ref B) = some true := PySem.W.exm_ref exB hdB tyB ssB
  have F_iBL := fun_mk (st := s_BadLand___init__) l_iBL c_iBL k_iBL
  have b_iBL := F_iBL.binds (ps := ["self", "what"]) fun _ _ _ _ _ _ us hl => match us, hl with | [_, _], _ => rfl
  have oxBL : OexC K BL := ⟨⟨_, _, _, _, _, _, _, _, _, _, _, _, _, _, _, xBL, rBL⟩, saBL, exBL, tyBL, kpBL⟩
  have gcBL := PySem.W.mg_of X G aBL
  have emBL : PySem.W.exmOne K (.ref BL) (.ref BL) = some true := PySem.W.exm_ref exBL hdBL tyBL ssBL
  have F_iBT := fun_mk (st := s_BadText___init__) l_iBT c_iBT k_iBT
  have b_iBT := F_iBT.binds (ps := ["self", "row", "what"]) fun _ _ _ _ _ _ us hl => match us, hl with | [_, _, _], _ => rfl
  have oxBT : OexC K BT := ⟨⟨_, _, _, _, _, _, _, _, _, _, _, _, _, _, _, xBT, rBT⟩, saBT, exBT, tyBT, kpBT⟩
  have gcBT := PySem.W.mg_of X G aBT
  have emBT : PySem.W.exmOne K (.ref BT) (.ref BT) = some true := PySem.W.exm_ref exBT hdBT tyBT ssBT
  have g_M := PySem.W.mg_of X G a_M
  have m_isinstance := PySem.W.mg_none_of X G z_isinstance
  have m_int := PySem.W.mg_none_of X G z_int
  have m_bool := PySem.W.mg_none_of X G z_bool
  have m_str := PySem.W.mg_none_of X G z_str
  have m_tuple := PySem.W.mg_none_of X G z_tuple
  have m_list := PySem.W.mg_none_of X G z_list
  have m_enumerate := PySem.W.mg_none_of X G z_enumerate
  have m_len := PySem.W.mg_none_of X G z_len
  have m_abs := PySem.W.mg_none_of X G z_abs
  have m_range := PySem.W.mg_none_of X G z_range
  have m_min := PySem.W.mg_none_of X G z_min
  have m_max := PySem.W.mg_none_of X G z_max
  have m_sorted := PySem.W.mg_none_of X G z_sorted
  have m_set := PySem.W.mg_none_of X G z_set
  have m_all := PySem.W.mg_none_of X G z_all
  have self : ∀ c : Addr, PySem.W.kitOne K (.ref c) (.ref c) = some true := fun c => by simp [PySem.W.kitOne]
  have kcls : ∀ t : Value, ∀ c : Addr, PySem.W.isClsIn K c = true → PySem.W.typeIn K (.ref c) = some (.type "type") → PySem.W.kitCls K t (.ref c) = PySem.W.subIn K t (.ref c) := fun t c i y => by
    have e1 : ((PySem.W.clsIn K c).isSome && PySem.W.typeIn K (.ref c) == some (.type "type")) = true := by rw [show (PySem.W.clsIn K c).isSome = true from i, y] <;> rfl
    show (if ((PySem.W.clsIn K c).isSome && PySem.W.typeIn K (.ref c) == some (.type "type")) = true then PySem.W.subIn K t (.ref c) else none) = _
    rw [if_pos e1]
  have kT : ∀ t c : Addr, PySem.W.isClsIn K c = true → PySem.W.typeIn K (.ref c) = some (.type "type") → PySem.W.subIn K (.ref t) (.ref c) = some true → PySem.W.kitOne K (.ref t) (.ref c) = some true := fun t c i y s => by
    unfold PySem.W.kitOne
    rw [kcls _ c i y, s]
    split <;> rfl
  have kF : ∀ t c : Addr, PySem.W.isClsIn K c = true → PySem.W.typeIn K (.ref c) = some (.type "type") → PySem.W.subIn K (.ref t) (.ref c) = some false → PySem.W.subIn K (.ref t) (.ref t) = some true → PySem.W.kitOne K (.ref t) (.ref c) = some false := fun t c i y s ss => by
    have hn : ¬ ((Value.ref t == Value.ref c) = true) := fun e => by
      have e' : t = c := by simpa using e
      subst e'
      rw [ss] at s
      cases s
    unfold PySem.W.kitOne
    rw [if_neg hn, kcls _ c i y, s]
  have kTy : ∀ t : String, ∀ c : Addr, PySem.W.isClsIn K c = true → PySem.W.typeIn K (.ref c) = some (.type "type") → PySem.W.subIn K (.type t) (.ref c) = some false → PySem.W.kitOne K (.type t) (.ref c) = some false := fun t c i y s => by
    have e1 : ((PySem.W.clsIn K c).isSome && PySem.W.typeIn K (.ref c) == some (.type "type")) = true := by rw [show (PySem.W.clsIn K c).isSome = true from i, y] <;> rfl
    show (if ((PySem.W.clsIn K c).isSome && PySem.W.typeIn K (.ref c) == some (.type "type")) = true then PySem.W.subIn K (.type t) (.ref c) else none) = some false
    rw [if_pos e1]
    exact s
  have TL : Tl K mg ⟨LC, B, f_iB⟩ :=
    { gC := gcLC, cl := clsLC, gB := gcB, oxB := oxB, iCB := a_iB, tIB := t_iB, nB := noB, nA := fun f hf => by
        simp only [lfields, List.mem_cons, List.not_mem_nil, or_false] at hf
        rcases hf with rfl | rfl | rfl | rfl | rfl
        · exact n_LC_cells
        · exact n_LC_neighbours
        · exact n_LC_roads
        · exact n_LC_nearby
        · exact n_LC__couples }
  have TBL : Bl K mg BL f_iBL := ⟨gcBL, oxBL, a_iBL, t_iBL, noBL⟩
  have TX : Bx K mg BT f_iBT := ⟨gcBT, oxBT, a_iBT, t_iBT, noBT, nwBT⟩
  have T2 : Tk K LC f_eq := ⟨haLC, hnO, htO, hmLC, self LC, a_eq, i_eq, neLC⟩
  have T3 : Te6 K mg BT L := ⟨gcL, ⟨hgBT, hkBT, exBT, hdBT, haBT, hnO, htO, hmBT⟩, ⟨hgBT, hkBT, exBT, hdBT⟩, PySem.W.exm_ref eL dL tL suBT, self BT⟩
  refine ⟨PySem.W.fnOf "law" "law" (defArgs s_law) (defBody s_law) (defScope s_law) .none kV_la dc_la pm_la an_la cd_la ct_la, fun s u => .of_eq rfl, fun base _ _ => ?_⟩
  have G_mi := ok_mix (P := P) (w := w) (mg := mg) (base := base)  F_mi m_int
  have G_ha := ok_hand (P := P) (w := w) (mg := mg) (base := base)  F_ha m_int m_abs m_enumerate
  have G_dr := ok_draw (P := P) (w := w) (mg := mg) (base := base)  F_dr F_mi g_mi b_mi m_int m_len
  have G_pk := ok_pick (P := P) (w := w) (mg := mg) (base := base)  F_pk k_dr G_dr g_dr b_dr m_len
  have G_lo := ok_lots (P := P) (w := w) (mg := mg) (base := base)  F_lo m_range m_len m_list
  have G_ld := ok_land (P := P) (w := w) (mg := mg) (base := base)  F_ld G_dr g_dr k_dr b_dr G_pk g_pk k_pk b_pk G_lo g_lo k_lo b_lo m_range m_len m_list m_min m_max m_sorted
  have G_isw := ok_whole (P := P) (w := w) (mg := mg) (base := base)  F_isw m_isinstance m_int m_bool
  have G_sq := ok_seq (P := P) (w := w) (mg := mg) (base := base)  F_sq m_isinstance m_list m_tuple
  have G_ac := ok_cells (P := P) (w := w) (mg := mg) (base := base)  F_ac G_sq g_sq k_sq b_sq G_isw g_isw k_isw b_isw m_len m_set m_all
  have G_a2 := ok_two (P := P) (w := w) (mg := mg) (base := base)  F_a2 G_ac g_ac k_ac b_ac m_len
  have G_sp := ok_spread (P := P) (w := w) (mg := mg) (base := base)  F_sp m_len
  have G_ny := ok_near (P := P) (w := w) (mg := mg) (base := base)  F_ny m_range m_tuple
  have G_ht := ok_hang (P := P) (w := w) (mg := mg) (base := base)  F_ht G_ny g_ny k_ny b_ny G_sp g_sp k_sp b_sp m_len m_list m_range
  have G_nb := ok_nbr (P := P) (w := w) (mg := mg) (base := base)  F_nb G_sq g_sq k_sq b_sq G_a2 g_a2 k_a2 b_a2 m_len m_all m_tuple m_sorted
  have G_cI := ok_landR (P := P) (w := w) (mg := mg) (base := base)  TL TBL g_M F_cI G_isw g_isw k_isw b_isw G_nb g_nb k_nb b_nb G_ac g_ac k_ac b_ac G_ht g_ht k_ht b_ht G_ny g_ny k_ny b_ny m_len m_sorted m_tuple m_range F_iBL b_iBL
  have G_eq := ok_eqL (P := P) (w := w) (mg := mg) (base := base)  TL T2 F_eq m_isinstance
  have G_dg := ok_dig (P := P) (w := w) (mg := mg) (base := base)  F_dg m_len m_all m_tuple m_int
  have G_rc := ok_rc (P := P) (w := w) (mg := mg) (base := base)  F_rc G_dg g_dg k_dg b_dg m_len
  have G_rr := ok_rr (P := P) (w := w) (mg := mg) (base := base)  F_rr G_dg g_dg k_dg b_dg m_len m_list m_sorted
  have G_rn := ok_rn (P := P) (w := w) (mg := mg) (base := base)  F_rn G_dg g_dg k_dg b_dg m_len
  have G_ck := ok_chk (P := P) (w := w) (mg := mg) (base := base)  TX F_ck F_iBT b_iBT
  have G_pl := ok_pl (P := P) (w := w) (mg := mg) (base := base)  TL TX TBL emBL F_pl G_rc g_rc k_rc b_rc G_rr g_rr k_rr b_rr G_rn g_rn k_rn b_rn G_ck g_ck k_ck b_ck M_LC G_cI b_cI F_iBT b_iBT m_isinstance m_str m_len m_range
  have G_rw := ok_rw (P := P) (w := w) (mg := mg) (base := base)  F_rw m_str
  have G_lt := ok_lt (P := P) (w := w) (mg := mg) (base := base)  TL F_lt G_rw g_rw k_rw b_rw
  have G_ld6 := ok_ld6 (P := P) (w := w) (mg := mg) (base := base)  F_ld6 m_len m_range m_int
  have G_wt := ok_wt (P := P) (w := w) (mg := mg) (base := base)  F_wt m_str
  have G_isl := ok_isl (P := P) (w := w) (mg := mg) (base := base)  F_isl m_len m_range m_enumerate
  have G_du := ok_due (P := P) (w := w) (mg := mg) (base := base)  F_du G_ld6 g_ld6 k_ld6 b_ld6 G_isl g_isl k_isl b_isl m_len m_range m_sorted m_tuple
  have G_tl := ok_tl6 (P := P) (w := w) (mg := mg) (base := base) (a := ⟨LC, B, f_iB⟩) TX T3 F_tl G_pl g_pl k_pl b_pl m_isinstance
  have G_so := ok_so (P := P) (w := w) (mg := mg) (base := base)  F_so G_dr g_dr k_dr b_dr G_pk g_pk k_pk b_pk m_len
  exact ok_law TL T2 F_la G_ha g_ha k_ha b_ha G_ld g_ld k_ld b_ld G_dr g_dr k_dr b_dr G_pk g_pk k_pk b_pk G_lt g_lt k_lt b_lt G_wt g_wt k_wt b_wt G_pl g_pl k_pl b_pl G_so g_so k_so b_so G_du g_du k_du b_du G_tl g_tl k_tl b_tl M_LC G_cI b_cI G_eq b_eq m_isinstance m_str m_len
end K7
end
open PySem PySem.W PyProof.Rows
set_option maxHeartbeats 0 in
theorem PySem.Challenge.cw_landways_k06_land_texts_read_back_holds : PySem.Challenge.rw_landways_k06_land_texts_read_back.Holds := by
  w_on; o_law; k_head; (case hw => w_witness2)
  k_fill
  refine L2.walk_ofB (l := PySem.Challenge.rw_landways_k06_land_texts_read_back) (n := 63) (k := 9) (x := "_law_script") (CX := fun _ => L2.CX0) (sp := fun w => K7.spLaw _) rfl (by decide) rfl ⟨rfl, by decide, by decide⟩ (fun w h Y => PySem.W.kIn_of Y) ?F (fun _ _ a ns hl _ _ hS => ⟨a, ns, rfl, hS, hl, fun _ => rfl⟩) (fun _ _ _ _ _ h => h)
  case F =>
    intro w mg fa h KX G hmg
    refine' K7.all_mk KX G hmg ?a_sq ?l_sq ?c_sq ?k_sq ?a_isw ?l_isw ?c_isw ?k_isw ?a_ac ?l_ac ?c_ac ?k_ac ?a_a2 ?l_a2 ?c_a2 ?k_a2 ?a_sp ?l_sp ?c_sp ?k_sp ?a_ny ?l_ny ?c_ny ?k_ny ?a_ht ?l_ht ?c_ht ?k_ht ?a_nb ?l_nb ?c_nb ?k_nb ?a_lt ?l_lt ?c_lt ?k_lt ?a_rw ?l_rw ?c_rw ?k_rw ?a_dg ?l_dg ?c_dg ?k_dg ?a_rc ?l_rc ?c_rc ?k_rc ?a_rr ?l_rr ?c_rr ?k_rr ?a_rn ?l_rn ?c_rn ?k_rn ?a_ck ?l_ck ?c_ck ?k_ck ?a_pl ?l_pl ?c_pl ?k_pl ?a_mi ?l_mi ?c_mi ?k_mi ?a_ha ?l_ha ?c_ha ?k_ha ?a_dr ?l_dr ?c_dr ?k_dr ?a_pk ?l_pk ?c_pk ?k_pk ?a_lo ?l_lo ?c_lo ?k_lo ?a_ld ?l_ld ?c_ld ?k_ld ?a_wt ?l_wt ?c_wt ?k_wt ?a_ld6 ?l_ld6 ?c_ld6 ?k_ld6 ?a_isl ?l_isl ?c_isl ?k_isl ?a_du ?l_du ?c_du ?k_du ?a_tl ?l_tl ?c_tl ?k_tl ?a_so ?l_so ?c_so ?k_so ?a_la ?l_la ?c_la ?k_la ?aL ?eL ?dL ?tL ?icL ?hnO ?htO ?aLC ?pgLC ?hdLC ?poLC ?saLC ?mkLC ?kcLC ?haLC ?hmLC ?neLC ?n_LC_cells ?n_LC_neighbours ?n_LC_roads ?n_LC_nearby ?n_LC__couples ?a_cI ?i_cI ?l_cI ?c_cI ?k_cI ?a_eq ?i_eq ?l_eq ?c_eq ?k_eq ?aB ?xB ?rB ?saB ?exB ?tyB ?kpB ?hgB ?hkB ?hdB ?haB ?hmB ?icB ?ssB ?suB ?noB ?a_iB ?t_iB ?l_iB ?c_iB ?k_iB ?aBL ?xBL ?rBL ?saBL ?exBL ?tyBL ?kpBL ?hgBL ?hkBL ?hdBL ?haBL ?hmBL ?icBL ?ssBL ?suBL ?noBL ?a_iBL ?t_iBL ?l_iBL ?c_iBL ?k_iBL ?aBT ?xBT ?rBT ?saBT ?exBT ?tyBT ?kpBT ?hgBT ?hkBT ?hdBT ?haBT ?hmBT ?icBT ?ssBT ?suBT ?noBT ?a_iBT ?t_iBT ?l_iBT ?c_iBT ?k_iBT ?nwBT ?a_M ?z_isinstance ?z_int ?z_bool ?z_str ?z_tuple ?z_list ?z_enumerate ?z_len ?z_abs ?z_range ?z_min ?z_max ?z_sorted ?z_set ?z_all
    (case a_sq => k_is)
    (case l_sq => k_is)
    (case c_sq => k_is)
    (case k_sq => k_is)
    (case a_isw => k_is)
    (case l_isw => k_is)
    (case c_isw => k_is)
    (case k_isw => k_is)
    (case a_ac => k_is)
    (case l_ac => k_is)
    (case c_ac => k_is)
    (case k_ac => k_is)
    (case a_a2 => k_is)
    (case l_a2 => k_is)
    (case c_a2 => k_is)
    (case k_a2 => k_is)
    (case a_sp => k_is)
    (case l_sp => k_is)
    (case c_sp => k_is)
    (case k_sp => k_is)
    (case a_ny => k_is)
    (case l_ny => k_is)
    (case c_ny => k_is)
    (case k_ny => k_is)
    (case a_ht => k_is)
    (case l_ht => k_is)
    (case c_ht => k_is)
    (case k_ht => k_is)
    (case a_nb => k_is)
    (case l_nb => k_is)
    (case c_nb => k_is)
    (case k_nb => k_is)
    (case a_lt => k_is)
    (case l_lt => k_is)
    (case c_lt => k_is)
    (case k_lt => k_is)
    (case a_rw => k_is)
    (case l_rw => k_is)
    (case c_rw => k_is)
    (case k_rw => k_is)
    (case a_dg => k_is)
    (case l_dg => k_is)
    (case c_dg => k_is)
    (case k_dg => k_is)
    (case a_rc => k_is)
    (case l_rc => k_is)
    (case c_rc => k_is)
    (case k_rc => k_is)
    (case a_rr => k_is)
    (case l_rr => k_is)
    (case c_rr => k_is)
    (case k_rr => k_is)
    (case a_rn => k_is)
    (case l_rn => k_is)
    (case c_rn => k_is)
    (case k_rn => k_is)
    (case a_ck => k_is)
    (case l_ck => k_is)
    (case c_ck => k_is)
    (case k_ck => k_is)
    (case a_pl => k_is)
    (case l_pl => k_is)
    (case c_pl => k_is)
    (case k_pl => k_is)
    (case a_mi => k_is)
    (case l_mi => k_is)
    (case c_mi => k_is)
    (case k_mi => k_is)
    (case a_ha => k_is)
    (case l_ha => k_is)
    (case c_ha => k_is)
    (case k_ha => k_is)
    (case a_dr => k_is)
    (case l_dr => k_is)
    (case c_dr => k_is)
    (case k_dr => k_is)
    (case a_pk => k_is)
    (case l_pk => k_is)
    (case c_pk => k_is)
    (case k_pk => k_is)
    (case a_lo => k_is)
    (case l_lo => k_is)
    (case c_lo => k_is)
    (case k_lo => k_is)
    (case a_ld => k_is)
    (case l_ld => k_is)
    (case c_ld => k_is)
    (case k_ld => k_is)
    (case a_wt => k_is)
    (case l_wt => k_is)
    (case c_wt => k_is)
    (case k_wt => k_is)
    (case a_ld6 => k_is)
    (case l_ld6 => k_is)
    (case c_ld6 => k_is)
    (case k_ld6 => k_is)
    (case a_isl => k_is)
    (case l_isl => k_is)
    (case c_isl => k_is)
    (case k_isl => k_is)
    (case a_du => k_is)
    (case l_du => k_is)
    (case c_du => k_is)
    (case k_du => k_is)
    (case a_tl => k_is)
    (case l_tl => k_is)
    (case c_tl => k_is)
    (case k_tl => k_is)
    (case a_so => k_is)
    (case l_so => k_is)
    (case c_so => k_is)
    (case k_so => k_is)
    (case a_la => k_is)
    (case l_la => k_is)
    (case c_la => k_is)
    (case k_la => k_is)
    (case aL => k_is)
    (case eL => k_is)
    (case dL => k_is)
    (case tL => k_is)
    (case icL => k_is)
    (case hnO => k_is)
    (case htO => k_is)
    (case aLC => k_is)
    (case pgLC => k_is)
    (case hdLC => k_is)
    (case poLC => k_is)
    (case saLC => k_is)
    (case mkLC => k_is)
    (case kcLC => k_is)
    (case haLC => k_is)
    (case hmLC => k_is)
    (case neLC => k_is)
    (case n_LC_cells => k_is)
    (case n_LC_neighbours => k_is)
    (case n_LC_roads => k_is)
    (case n_LC_nearby => k_is)
    (case n_LC__couples => k_is)
    (case a_cI => k_is)
    (case i_cI => k_is)
    (case l_cI => k_is)
    (case c_cI => k_is)
    (case k_cI => k_is)
    (case a_eq => k_is)
    (case i_eq => k_is)
    (case l_eq => k_is)
    (case c_eq => k_is)
    (case k_eq => k_is)
    (case aB => k_is)
    (case xB => k_is)
    (case rB => decide +kernel)
    (case saB => k_is)
    (case exB => k_is)
    (case tyB => k_is)
    (case kpB => k_is)
    (case hgB => k_is)
    (case hkB => k_is)
    (case hdB => k_is)
    (case haB => k_is)
    (case hmB => k_is)
    (case icB => k_is)
    (case ssB => k_is)
    (case suB => k_is)
    (case noB => k_is)
    (case a_iB => k_is)
    (case t_iB => k_is)
    (case l_iB => k_is)
    (case c_iB => k_is)
    (case k_iB => k_is)
    (case aBL => k_is)
    (case xBL => k_is)
    (case rBL => decide +kernel)
    (case saBL => k_is)
    (case exBL => k_is)
    (case tyBL => k_is)
    (case kpBL => k_is)
    (case hgBL => k_is)
    (case hkBL => k_is)
    (case hdBL => k_is)
    (case haBL => k_is)
    (case hmBL => k_is)
    (case icBL => k_is)
    (case ssBL => k_is)
    (case suBL => k_is)
    (case noBL => k_is)
    (case a_iBL => k_is)
    (case t_iBL => k_is)
    (case l_iBL => k_is)
    (case c_iBL => k_is)
    (case k_iBL => k_is)
    (case aBT => k_is)
    (case xBT => k_is)
    (case rBT => decide +kernel)
    (case saBT => k_is)
    (case exBT => k_is)
    (case tyBT => k_is)
    (case kpBT => k_is)
    (case hgBT => k_is)
    (case hkBT => k_is)
    (case hdBT => k_is)
    (case haBT => k_is)
    (case hmBT => k_is)
    (case icBT => k_is)
    (case ssBT => k_is)
    (case suBT => k_is)
    (case noBT => k_is)
    (case a_iBT => k_is)
    (case t_iBT => k_is)
    (case l_iBT => k_is)
    (case c_iBT => k_is)
    (case k_iBT => k_is)
    (case nwBT => k_is)
    (case a_M => k_is)
    (case z_isinstance => k_is)
    (case z_int => k_is)
    (case z_bool => k_is)
    (case z_str => k_is)
    (case z_tuple => k_is)
    (case z_list => k_is)
    (case z_enumerate => k_is)
    (case z_len => k_is)
    (case z_abs => k_is)
    (case z_range => k_is)
    (case z_min => k_is)
    (case z_max => k_is)
    (case z_sorted => k_is)
    (case z_set => k_is)
    (case z_all => k_is)

