/-
  SeqDoes: each op of any script tells what the document says, and leaves the map that it says, for every input.
  Conditions: none.
-/
import Derived.Test.YtapbkonfjieadaaQLaw2
import Derived.ProofKit
import Derived.SizedLaws
import Derived.Carry
namespace Go.Proofs.Ytapbkonfjieadaa
open Go.ChangeShapes Go.WideShapes Go.ChangeAt Go.RowKit
open Go.Deep

open Q
set_option maxRecDepth 100000 in
set_option maxHeartbeats 4000000 in
theorem seqDoes_walk (w : World) (ao : Option Addr) (es : List OpQ) (cap : Nat) (hs : SlOf 5 oC w ao es) (hg : ∀ x ∈ es, x.k ≤ 18446744073709551615) :
    Calls Try.prog 4 #[.slice ao es.length cap] w fun o w' => o = .returned (.bool true) ∧ Kept [] w w' := by
  obtain ⟨n, hn⟩ : ∃ n, n = es.length := ⟨_, rfl⟩
  rw [← hn]
  have HN : Hid (n = es.length) := hn
  have HG : Hid (∀ x ∈ es, x.k ≤ 18446744073709551615) := hg
  have HS : Hid (SlOf 5 oC w ao es) := hs
  clear hn hg hs
  by_cases c : n ≤ 100
  · have c1 : decide ((n : Int) ≤ 100) = true := decide_eq_true (by omega)
    have hf := few_any ao n cap w
    rw [c1] at hf
    have Z0 := blk_alloc_new w (.cells #[.slice none 0 0] 26)
    have K0 : Kept [] w (w.alloc (.cells #[.slice none 0 0] 26)) := (Kept.refl _ _).alloc _
    have hU : (w.alloc (.cells #[.slice none 0 0] 26)).heap.size = w.heap.size + 1 := nblk_alloc _ _
    go_enter Try.func4, Try.ntmps4
    go_wp2_with fail
    refine hf.mono ?_
    clear hf
    rintro o w' ⟨rfl, rfl⟩
    go_wp2
    obtain ⟨H, hH⟩ : ∃ H, H = w'.heap.size := ⟨_, rfl⟩
    rw [← hH] at Z0 hU ⊢
    refine gen_world (fun U => U.heap[H]? = some (.cells #[.slice none 0 0] 26 (0, 0)) ∧ Kept [] w' U ∧ U.heap.size = H + 1) ⟨Z0, K0, hU⟩ ?_
    clear Z0 K0 hU
    rintro U ⟨Z0, K0, hU⟩
    have HH : Hid (H = w'.heap.size ∧ U.heap.size = H + 1) := ⟨hH, hU⟩
    clear hH hU
    go_loopw [4, 17] (fun r i wr => ∃ (k : Nat) (ps : List Pr) (bo : Option Addr) (m cb : Nat) (ro : Option Addr) (m2 c2 : Nat), k ≤ n ∧ i = .int .i64 k ∧ r = .slice ro m2 c2 ∧ wr.heap[H]? = some (.cells #[.slice bo m cb] 26 (0, 0)) ∧ Hid (MpV wr bo m cb ps ∧ MpV wr ro m2 c2 ps ∧ Str ps ∧ Wd ps ∧ ps.length ≤ k) ∧ Kept [H] U wr) (fun _ i _ => n - (intOf i).toNat)
    case atStart => exact ⟨0, [], none, 0, 0, none, 0, 0, Nat.zero_le _, rfl, rfl, Z0, ⟨MpV.nil _, MpV.nil _, List.Pairwise.nil, (by intro x hx; cases hx), Nat.le_refl _⟩, Kept.refl _ _⟩
    case round =>
      obtain ⟨k, ps, bo, m, cb, ro, m2, c2, hk, rfl, rfl, Z, I, K⟩ := hrel
      by_cases hlt : k < n
      · have hkx : k < es.length := by have := HN.out; omega
        have SO : SlOf 5 oC wr ao es := (HS.out.new K0).kept K (by
          intro ad e
          obtain ⟨b, off, e2, hb, _⟩ := HS.out (by omega)
          rw [e2] at e; cases e
          have := HH.out.1; simp; omega)
        obtain ⟨b1, o1, rfl, -, x0, x1, x2, x3, x4⟩ := ops_row SO hkx
        have hxe : es.getD k default = es[k] := by simp [hkx]
        have hxk : (es.getD k default).k ≤ 18446744073709551615 := by rw [hxe]; exact HG.out _ (List.getElem_mem hkx)
        clear hxe
        clear SO
        generalize es.getD k default = x at x0 x1 x2 x3 x4 hxk
        have KA : Kept [] wr (wr.alloc (.cells #[.int .i64 x.d, .int .u64 x.k, .int .u64 x.v, .int .i64 x.n, .int .i64 x.t] 38)) := (Kept.refl _ _).alloc _
        have ZO := blk_alloc_new wr (.cells #[.int .i64 x.d, .int .u64 x.k, .int .u64 x.v, .int .i64 x.n, .int .i64 x.t] 38)
        have hHlt : H < wr.heap.size := lt_of_blk Z
        have hUlt : U.heap.size ≤ wr.heap.size := K.size
        have hm := I.out.1.1
        have hl : ps.length ≤ 100 := by have := I.out.2.2.2.2; omega
        go_upto_region 8 with (fail)
        obtain ⟨O, hO⟩ : ∃ O, O = wr.heap.size := ⟨_, rfl⟩
        rw [← hO] at ZO ⊢
        refine gen_world (fun W => W.heap[H]? = some (.cells #[.slice bo m cb] 26 (0, 0)) ∧ W.heap[O]? = some (.cells #[.int .i64 x.d, .int .u64 x.k, .int .u64 x.v, .int .i64 x.n, .int .i64 x.t] 38 (0, 0)) ∧ Hid (MpV W bo m cb ps ∧ MpV W ro m2 c2 ps) ∧ Kept [H] U W) ⟨KA.blk Z (by simp), ZO, ⟨I.out.1.new KA, I.out.2.1.new KA⟩, K.then KA (by simp)⟩ ?_
        clear KA ZO Z K x0 x1 x2 x3 x4 hO
        have II : Hid (Str ps ∧ Wd ps ∧ ps.length ≤ k ∧ m = ps.length) := ⟨I.out.2.2.1, I.out.2.2.2.1, I.out.2.2.2.2, hm⟩
        clear I hm
        rintro W ⟨Z, ZO, I, K⟩
        -- the op
        have hm100 : m ≤ 100 := by have := II.out.2.2.2; omega
        have hd := do_any bo ps m cb x W I.out.1 II.out.1 II.out.2.1 (by omega)
        have q := cell_of_blk Z (i := 0) rfl
        have x0 := cell_of_blk ZO (i := 0) rfl
        have x1 := cell_of_blk ZO (i := 1) rfl
        have x2 := cell_of_blk ZO (i := 2) rfl
        have x3 := cell_of_blk ZO (i := 3) rfl
        have x4 := cell_of_blk ZO (i := 4) rfl
        go_wp2_with fail
        refine hd.mono ?_
        clear hd q x0 x1 x2 x3 x4
        rintro o w1 ⟨b3, m3, c3, ka, na, ra, rfl, M1, ea, S1, K1⟩
        obtain ⟨p2, hp2⟩ : ∃ p2, p2 = doM ps x := ⟨_, rfl⟩
        obtain ⟨hA, hhA⟩ : ∃ hA, hA = doH ps x := ⟨_, rfl⟩
        obtain ⟨gA, hgA⟩ : ∃ gA, gA = doG ps x := ⟨_, rfl⟩
        obtain ⟨kA, hkA⟩ : ∃ kA, kA = doK ps x := ⟨_, rfl⟩
        have L2 : Hid (Str p2 ∧ Wd p2 ∧ p2.length ≤ ps.length + 1 ∧ kA.length ≤ ps.length) := by rw [hp2, hkA]; exact ⟨doM_str II.out.1 x, doM_wd II.out.2.1 hxk, doM_len ps x, doK_len ps x⟩
        rw [← hp2] at M1
        rw [← hkA] at ea S1
        rw [← hhA, ← hgA]
        have EA : Hid (na = kA.length) := ea
        clear ea
        have EQ : Hid (p2 = doM ps x ∧ hA = doH ps x ∧ gA = doG ps x ∧ kA = doK ps x) := ⟨hp2, hhA, hgA, hkA⟩
        clear hp2 hhA hgA hkA
        have Z1 := K1.blk Z (by simp)
        have ZO1 := K1.blk ZO (by simp)
        have KB : Kept [] w1 ((w1.alloc (.cells #[.slice b3 m3 c3] 26)).alloc (.cells #[.bool false, .bool hA, .int .u64 gA, .slice ka na ra] 41)) := ((Kept.refl _ _).alloc _).alloc _
        have Zn := box_alloc (blk_alloc_new w1 (.cells #[.slice b3 m3 c3] 26)) (.cells #[.bool false, .bool hA, .int .u64 gA, .slice ka na ra] 41)
        have Za := blk_alloc_new (w1.alloc (.cells #[.slice b3 m3 c3] 26)) (.cells #[.bool false, .bool hA, .int .u64 gA, .slice ka na ra] 41)
        rw [nblk_alloc] at Za
        go_upto_region 9 with (fail)
        obtain ⟨N, hN⟩ : ∃ N, N = w1.heap.size := ⟨_, rfl⟩
        rw [← hN] at Zn Za ⊢
        refine gen_world (fun W2 => W2.heap[H]? = some (.cells #[.slice bo m cb] 26 (0, 0)) ∧ W2.heap[O]? = some (.cells #[.int .i64 x.d, .int .u64 x.k, .int .u64 x.v, .int .i64 x.n, .int .i64 x.t] 38 (0, 0)) ∧ W2.heap[N]? = some (.cells #[.slice b3 m3 c3] 26 (0, 0)) ∧ W2.heap[N + 1]? = some (.cells #[.bool false, .bool hA, .int .u64 gA, .slice ka na ra] 41 (0, 0)) ∧ Hid (MpV W2 bo m cb ps ∧ MpV W2 ro m2 c2 ps ∧ MpV W2 b3 m3 c3 p2 ∧ AnsP W2 ka na kA) ∧ Kept [H] U W2) ⟨KB.blk Z1 (by simp), KB.blk ZO1 (by simp), Zn, Za, ⟨I.out.1.new (K1.trans KB), I.out.2.new (K1.trans KB), M1.new KB, ⟨EA.out, S1.new KB, by have := L2.out.2.2.2; have := EA.out; omega⟩⟩, K.then (K1.trans KB) (by simp)⟩ ?_
        clear Z ZO I K Z1 ZO1 K1 KB Zn Za M1 S1 hN
        rintro W2 ⟨Z, ZO, Zn, Za, I, K⟩
        -- the document's op
        have hrm : m2 ≤ 100 := by have := I.out.2.1.1; omega
        have hd := rdo_any ro ps m2 c2 x W2 I.out.2.1 II.out.1 (by omega)
        have x0 := cell_of_blk ZO (i := 0) rfl
        have x1 := cell_of_blk ZO (i := 1) rfl
        have x2 := cell_of_blk ZO (i := 2) rfl
        have x3 := cell_of_blk ZO (i := 3) rfl
        have x4 := cell_of_blk ZO (i := 4) rfl
        go_wp2_with fail
        refine hd.mono ?_
        clear hd x0 x1 x2 x3 x4
        rintro o w3 ⟨b4, m4, c4, kb, nb, rb, rfl, M3, eb, S3, K3⟩
        rw [← EQ.out.1] at M3
        rw [← EQ.out.2.2.2] at eb S3
        rw [← EQ.out.2.1, ← EQ.out.2.2.1]
        have EB : Hid (nb = kA.length) := eb
        clear eb
        have em : m4 = m3 := M3.1.trans I.out.2.2.1.1.symm
        subst em
        have Z3 := K3.blk Z (by simp)
        have Zn3 := K3.blk Zn (by simp)
        have Za3 := K3.blk Za (by simp)
        have KC : Kept [] w3 (w3.alloc (.cells #[.bool false, .bool hA, .int .u64 gA, .slice kb nb rb] 41)) := (Kept.refl _ _).alloc _
        have Zb := blk_alloc_new w3 (.cells #[.bool false, .bool hA, .int .u64 gA, .slice kb nb rb] 41)
        go_upto_region 10 with (fail)
        obtain ⟨Q, hQ⟩ : ∃ Q, Q = w3.heap.size := ⟨_, rfl⟩
        rw [← hQ] at Zb ⊢
        refine gen_world (fun W4 => W4.heap[H]? = some (.cells #[.slice bo m cb] 26 (0, 0)) ∧ W4.heap[N]? = some (.cells #[.slice b3 m4 c3] 26 (0, 0)) ∧ W4.heap[N + 1]? = some (.cells #[.bool false, .bool hA, .int .u64 gA, .slice ka na ra] 41 (0, 0)) ∧ W4.heap[Q]? = some (.cells #[.bool false, .bool hA, .int .u64 gA, .slice kb nb rb] 41 (0, 0)) ∧ Hid (MpV W4 bo m cb ps ∧ MpV W4 ro m2 c2 ps ∧ MpV W4 b3 m4 c3 p2 ∧ MpV W4 b4 m4 c4 p2 ∧ AnsP W4 ka na kA ∧ AnsP W4 kb nb kA) ∧ Kept [H] U W4) ⟨KC.blk Z3 (by simp), KC.blk Zn3 (by simp), KC.blk Za3 (by simp), Zb, ⟨I.out.1.new (K3.trans KC), I.out.2.1.new (K3.trans KC), I.out.2.2.1.new (K3.trans KC), M3.new KC, I.out.2.2.2.new (K3.trans KC), ⟨EB.out, S3.new KC, by have := L2.out.2.2.2; have := EB.out; omega⟩⟩, K.then (K3.trans KC) (by simp)⟩ ?_
        clear Z ZO Zn Za I K Z3 Zn3 Za3 K3 KC Zb M3 S3 hQ
        rintro W4 ⟨Z, Zn, Za, Zb, I, K⟩
        -- what is asked of both
        have hm3 : m4 ≤ 101 := by have := I.out.2.2.1.1; have := L2.out.2.2.1; omega
        have hsm := rsame_any false hA false hA gA gA ka kb kA kA na nb ra rb W4 I.out.2.2.2.2.1.1 I.out.2.2.2.2.2.1 I.out.2.2.2.2.1.2.1 I.out.2.2.2.2.2.2.1 I.out.2.2.2.2.1.2.2
        rw [smB_self] at hsm
        have a0 := cell_of_blk Za (i := 0) rfl
        have a1 := cell_of_blk Za (i := 1) rfl
        have a2 := cell_of_blk Za (i := 2) rfl
        have a3 := cell_of_blk Za (i := 3) rfl
        have y0 := cell_of_blk Zb (i := 0) rfl
        have y1 := cell_of_blk Zb (i := 1) rfl
        have y2 := cell_of_blk Zb (i := 2) rfl
        have y3 := cell_of_blk Zb (i := 3) rfl
        go_wp2_with fail
        refine hsm.mono ?_
        clear hsm a0 a1 a2 a3 y0 y1 y2 y3
        rintro o w5 ⟨rfl, K5⟩
        have q5 := cell_of_blk (K5.blk Zn (by simp)) (i := 0) rfl
        go_wp2_with fail
        refine (pairs_any b3 p2 m4 c3 w5 (I.out.2.2.1.new K5) (by omega)).mono ?_
        clear q5
        rintro o w6 ⟨pb, pc, rfl, M6, K6⟩
        go_wp2_with fail
        refine (olds_any pb p2 m4 pc w6 M6.1 M6.2.1 (by omega)).mono ?_
        rintro o w7 ⟨ob, oc, rfl, M7, K7⟩
        have T7 := (K5.trans K6).trans K7
        go_wp2_with fail
        refine (requal_any ob b4 p2 m4 oc c4 w7 M7.1 M7.2.1 (I.out.2.2.2.1.new T7).2.1 (by omega)).mono ?_
        rintro o w8 ⟨rfl, K8⟩
        have T8 := T7.trans K8
        clear K5 K6 K7 K8 M6 M7 T7
        have q8 := cell_of_blk (T8.blk Z (by simp)) (i := 0) rfl
        go_wp2_with fail
        refine (pairs_any bo ps m cb w8 (I.out.1.new T8) (by omega)).mono ?_
        clear q8
        rintro o w9 ⟨pb, pc, rfl, M9, K9⟩
        go_wp2_with fail
        refine (olds_any pb ps m pc w9 M9.1 M9.2.1 (by omega)).mono ?_
        rintro o w10 ⟨ob, oc, rfl, M10, K10⟩
        have T10 := (T8.trans K9).trans K10
        have em : m2 = m := I.out.2.1.1.trans I.out.1.1.symm
        subst em
        go_wp2_with fail
        refine (requal_any ob ro ps m2 oc c2 w10 M10.1 M10.2.1 (I.out.2.1.new T10).2.1 (by omega)).mono ?_
        rintro o w11 ⟨rfl, K11⟩
        have T11 := T10.trans K11
        clear K9 K10 K11 M9 M10 T10 T8
        have Zm := T11.blk Z (by simp)
        have qn := cell_of_blk (T11.blk Zn (by simp)) (i := 0) rfl
        have qm := cell_of_blk Zm (i := 0) rfl
        have fm := free_of_blk Zm 0
        go_wp2
        go_roundw
        case rel =>
          refine ⟨k + 1, p2, b3, m4, c3, b4, m4, c4, by omega, by go_num, rfl, blk_set Zm 0 _, ⟨MpV.setMap (I.out.2.2.1.new T11) Zm _, MpV.setMap (I.out.2.2.2.1.new T11) Zm _, L2.out.1, L2.out.2.1, ?_⟩, (K.then T11 (by simp)).setCell (p := ⟨H, 0, none⟩) (Or.inl (by simp)) _⟩
          have := L2.out.2.2.1; have := II.out.2.2.1; omega
        case measure => simp [intOf]; omega
      · go_wp2_with fail
        refine (alive_any _).mono ?_
        rintro o w1 ⟨rfl, K1⟩
        go_wp2
        go_ret
        exact ⟨rfl, (K0.then K (by intro y hy; right; have := HH.out.1; simp at hy; omega)).trans K1⟩
  · have c1 : decide ((n : Int) ≤ 100) = false := decide_eq_false (by omega)
    have hf := few_any ao n cap w
    rw [c1] at hf
    go_enter Try.func4, Try.ntmps4
    go_wp2_with fail
    refine hf.mono ?_
    rintro o w' ⟨rfl, rfl⟩
    go_wp2_with fail
    refine (alive_any _).mono ?_
    rintro o w1 ⟨rfl, K1⟩
    go_wp2
    go_ret
    exact ⟨rfl, K1⟩

theorem seqDoes_own : ownKnob Try.prog.godebug = none := by kernel_rfl
theorem seqDoes_laidOut : laidOutB Try.prog = true := by kernel_rfl
set_option maxRecDepth 100000 in
theorem seqDoes_lifted (os : Os) (started : os.Started) (H : Type) (enc : TypeId × Value → H) :
    ReturnsInHanded {} Try.checked os 4 .any (Rows.seqDoesSpec.pre6 enc Try.prog Try.f4 Rows.seqDoesRow.domain false) (Rows.seqDoesSpec.post enc Try.prog Try.f4 false true false false) := by
  refine returnsInHanded_of_change_sized (C := Try.checked) seqDoes_own started (by kernel_rfl) Try.func4
    (ChangeSpec.witness6 (enc := enc) (C := Try.checked) false ⟨#[], #[.slice none 0 0], []⟩ 8 (by kernel_rfl) (by kernel_rfl) (by kernel_rfl) (by kernel_rfl)) ?_
  intro W base args ds gs before hval0 hW _ hsz0 _
  have hsz : (DataW.weightsEach Try.prog (Try.f4.params.toList ++ Rows.seqDoesSpec.plain.varTypes Try.prog) (ds ++ gs)).all (· ≤ reachBytes) = true := hsz0
  clear hsz0
  have hval : ∀ (j : Nat) t v, Try.f4.params[j]? = some t → args[j]? = some v → Value.okWide Try.prog W .any base t v := hval0
  have hW' := hW
  obtain ⟨p, q, hA0, hV, rfl, _, _⟩ := hW
  have hA : DataW.TrodAll enc Try.prog W 0 (fun _ => true) true Try.f4.params.toList args.toList ds p := hA0
  rw [Try.params4] at hA hval hsz
  clear hA0 hval0
  obtain ⟨v0, vs0, d0, ds0, p0, q0, hargs, rfl, rfl, h0, r0⟩ := trodAll_cons hA
  obtain ⟨rfl, rfl, rfl⟩ := trodAll_nil r0
  obtain rfl : args = #[v0] := by cases args; simp_all
  obtain ⟨rfl, rfl⟩ := trodVars_none hV
  have k0 := h0
  simp only [List.append_nil] at hW'
  have hlt0 : ∀ x ∈ p0, x.block < W.heap.size := fun x hx => hW'.lt x (by simp [hx])
  obtain ⟨ao0, cap0, es0, rfl, s0, g0⟩ := Q.open_ops (hval 0 34 v0 rfl rfl) h0
  refine (seqDoes_walk W ao0 es0 cap0 s0 g0).mono fun e W' ⟨he, hg⟩ => ?_
  subst he
  have hb := hg.below (by simp)
  exact ⟨_, rfl, _, _, _, [], _, [], hW', (trodAll_cons_mk (shut_bool Try.underlying4 _) trodAll_mk0), (trodAll_cons_mk (Below.trod seqDoes_laidOut (by kernel_rfl) (of_decide_eq_true (by kernel_rfl)) k0 hb hlt0) trodAll_mk0), rfl, hb.frame _, fun h => by cases h⟩

theorem seqDoes_holds : Rows.SeqDoesSaid :=
  OpenClaim.holds_of_wide 4 Try.f4 rfl rfl rfl rfl rfl rfl rfl ⟨rfl, rfl, rfl, rfl, rfl⟩ rfl rfl rfl rfl rfl (by kernel_rfl) Try.func4 (by kernel_rfl)
    (of_decide_eq_true (by kernel_rfl)) (by unfold Func.isWrapper; first | (rw [if_pos (by decide +kernel)]; kernel_rfl) | (rw [if_neg (by decide +kernel)]; exact ⟨rfl, rfl⟩))
    (fun os started H enc _ => seqDoes_lifted os started H enc)
#print axioms seqDoes_holds
end Go.Proofs.Ytapbkonfjieadaa
