/-
  SeqGets: what was put is got, and what was deleted is not; no other key has another value, for every input.
  Conditions: none.
-/
import Derived.Test.YtapbkonfjieadaaQLaw3
import Derived.ProofKit
import Derived.SizedLaws
import Derived.Carry
namespace Go.Proofs.Ytapbkonfjieadaa
open Go.ChangeShapes Go.WideShapes Go.ChangeAt Go.RowKit
open Go.Deep

open Q
set_option maxRecDepth 100000 in
set_option maxHeartbeats 4000000 in
theorem seqGets_walk (w : World) (ao : Option Addr) (es : List Pr) (cap : Nat) (k v o : Int) (hs : SlP w ao es) (hg : ∀ x ∈ es, x.k ≤ 18446744073709551615) (_hc : ao = none → cap = 0) (hk : k ≤ 18446744073709551615) :
    Calls Try.prog 6 #[.slice ao es.length cap, .agg #[.int .u64 k, .int .u64 v, .int .u64 o]] w fun e w' => e = .returned (.bool true) ∧ Kept [] w w' := by
  obtain ⟨n, hn⟩ : ∃ n, n = es.length := ⟨_, rfl⟩
  rw [← hn]
  have HN : Hid (n = es.length) := hn
  have HG : Hid (∀ x ∈ es, x.k ≤ 18446744073709551615) := hg
  have HS : Hid (SlP w ao es) := hs
  clear hn hg hs
  have K0 : Kept [] w (w.alloc (.cells #[.int .u64 k, .int .u64 v, .int .u64 o] 47)) := (Kept.refl _ _).alloc _
  have Z9 := blk_alloc_new w (.cells #[.int .u64 k, .int .u64 v, .int .u64 o] 47)
  by_cases c : n ≤ 100
  · have c1 : ¬ (100 : Int) < (n : Int) := by omega
    have LM := mapOf_len es
    rw [← HN.out] at LM
    obtain ⟨ms, hms⟩ : ∃ ms, ms = mapOf es := ⟨_, rfl⟩
    rw [← hms] at LM
    have EM : Hid (mapOf es = ms) := hms.symm
    have GM : Hid (Str ms ∧ Wd ms) := by rw [hms]; exact ⟨mapOf_str es, mapOf_wd HG.out⟩
    clear hms
    go_enter Try.func6, Try.ntmps6
    go_upto_region 1 with (fail)
    obtain ⟨H, hH⟩ : ∃ H, H = w.heap.size := ⟨_, rfl⟩
    rw [← hH] at Z9 ⊢
    refine gen_world (fun W => W.heap[H]? = some (.cells #[.int .u64 k, .int .u64 v, .int .u64 o] 47 (0, 0)) ∧ Kept [] w W) ⟨Z9, K0⟩ ?_
    clear Z9 K0 hH
    rintro W9 ⟨Z9, K9⟩
    have z0 := cell_of_blk Z9 (i := 0) rfl
    have z1 := cell_of_blk Z9 (i := 1) rfl
    have z2 := cell_of_blk Z9 (i := 2) rfl
    go_quiet (fail)
    have KH := K9.drewN nq
    generalize W9.drewN nq = W8 at KH ⊢
    clear z0 z1 z2 Z9 K9 nq W9
    go_wp2_with fail
    refine (news_any ao es n cap _ HN.out (HS.out.new KH) (by omega)).mono ?_
    rintro o w1 ⟨nb, nc, rfl, M1, K1⟩
    go_wp2_with fail
    refine (of_any nb es n nc w1 M1.1 M1.2.1 M1.2.2.2 (by omega)).mono ?_
    rintro o w2 ⟨mo, mm, mc, rfl, M2, K2⟩
    rw [EM.out] at M2
    have T2 := (KH.trans K1).trans K2
    have P2 := K1.trans K2
    clear K1 K2 M1 KH
    have hmm : mm ≤ 100 := by have := M2.1; omega
    have Z0 := blk_alloc_new w2 (.cells #[.slice mo mm mc] 26)
    have KA : Kept [] w2 (w2.alloc (.cells #[.slice mo mm mc] 26)) := (Kept.refl _ _).alloc _
    go_upto_region 5 with (fail)
    obtain ⟨B, hB⟩ : ∃ B, B = w2.heap.size := ⟨_, rfl⟩
    rw [← hB] at Z0 ⊢
    refine gen_world (fun W => W.heap[B]? = some (.cells #[.slice mo mm mc] 26 (0, 0)) ∧ Hid (Q.Good W mo mm mc ms) ∧ Kept [] w W) ⟨Z0, ⟨M2.new KA, GM.out.1, GM.out.2, by omega⟩, T2.trans KA⟩ ?_
    clear Z0 KA T2 P2 M2 hB W8
    rintro W ⟨Z, M, T⟩
    -- Put
    have q := cell_of_blk Z (i := 0) rfl
    have cd := do_at mo ms mm mc 2 k v 0 0 W M.out.1 M.out.2.1 M.out.2.2.1 M.out.2.2.2 (wi ms ⟨k, v⟩) (doH ms ⟨2, k, v, 0, 0⟩) (doG ms ⟨2, k, v, 0, 0⟩) [] rfl rfl rfl rfl
    generalize doH ms ⟨2, k, v, 0, 0⟩ = hA at cd
    generalize doG ms ⟨2, k, v, 0, 0⟩ = gA at cd
    go_wp2_with fail
    refine cd.mono ?_
    clear cd q
    rintro e w3 ⟨po, pm, pc, ka, na, ra, rfl, Q3, K3⟩
    have KB : Kept [] w3 ((w3.alloc (.cells #[.slice po pm pc] 26)).alloc (.cells #[.bool false, .bool hA, .int .u64 gA, .slice ka na ra] 41)) := ((Kept.refl _ _).alloc _).alloc _
    have Zp := box_alloc (blk_alloc_new w3 (.cells #[.slice po pm pc] 26)) (.cells #[.bool false, .bool hA, .int .u64 gA, .slice ka na ra] 41)
    have Z3 := K3.blk Z (by simp)
    have GP : Q.Good w3 po pm pc (wi ms ⟨k, v⟩) := ⟨Q3.out.1, M.out.2.1.wi _, doM_wd (o := ⟨2, k, v, 0, 0⟩) M.out.2.2.1 hk, by have := Q3.out.1.1; have := wi_len ms ⟨k, v⟩; omega⟩
    go_upto_region 6 with (fail)
    obtain ⟨P, hP⟩ : ∃ P, P = w3.heap.size := ⟨_, rfl⟩
    rw [← hP] at Zp ⊢
    refine gen_world (fun X => X.heap[B]? = some (.cells #[.slice mo mm mc] 26 (0, 0)) ∧ X.heap[P]? = some (.cells #[.slice po pm pc] 26 (0, 0)) ∧ Hid (Q.Good X mo mm mc ms) ∧ Hid (Q.Good X po pm pc (wi ms ⟨k, v⟩)) ∧ Kept [] w X) ⟨KB.blk Z3 (by simp), Zp, M.out.new (K3.trans KB), GP.new KB, (T.trans K3).trans KB⟩ ?_
    clear Z M T K3 KB Zp Z3 GP Q3 hP W
    rintro W ⟨Z, Zp, M, MP, T⟩
    -- Delete
    have q := cell_of_blk Z (i := 0) rfl
    have cd := do_at mo ms mm mc 3 k 0 0 0 W M.out.1 M.out.2.1 M.out.2.2.1 M.out.2.2.2 (wo ms k) (doH ms ⟨3, k, 0, 0, 0⟩) (doG ms ⟨3, k, 0, 0, 0⟩) [] rfl rfl rfl rfl
    generalize doH ms ⟨3, k, 0, 0, 0⟩ = hA2 at cd
    generalize doG ms ⟨3, k, 0, 0, 0⟩ = gA2 at cd
    go_wp2_with fail
    refine cd.mono ?_
    clear cd q
    rintro e w3 ⟨qo, qm, qc, kb, nb2, rb, rfl, Q3, K3⟩
    have KB : Kept [] w3 ((w3.alloc (.cells #[.slice qo qm qc] 26)).alloc (.cells #[.bool false, .bool hA2, .int .u64 gA2, .slice kb nb2 rb] 41)) := ((Kept.refl _ _).alloc _).alloc _
    have Zq := box_alloc (blk_alloc_new w3 (.cells #[.slice qo qm qc] 26)) (.cells #[.bool false, .bool hA2, .int .u64 gA2, .slice kb nb2 rb] 41)
    have Z3 := K3.blk Z (by simp)
    have Zp3 := K3.blk Zp (by simp)
    have GQ : Q.Good w3 qo qm qc (wo ms k) := ⟨Q3.out.1, M.out.2.1.wo _, doM_wd (o := ⟨3, k, 0, 0, 0⟩) M.out.2.2.1 hk, by have := Q3.out.1.1; have := wo_len ms k; omega⟩
    go_upto_region 8 with (fail)
    obtain ⟨E, hE⟩ : ∃ E, E = w3.heap.size := ⟨_, rfl⟩
    rw [← hE] at Zq ⊢
    refine gen_world (fun X => X.heap[B]? = some (.cells #[.slice mo mm mc] 26 (0, 0)) ∧ X.heap[P]? = some (.cells #[.slice po pm pc] 26 (0, 0)) ∧ X.heap[E]? = some (.cells #[.slice qo qm qc] 26 (0, 0)) ∧ Hid (Q.Good X mo mm mc ms) ∧ Hid (Q.Good X po pm pc (wi ms ⟨k, v⟩)) ∧ Hid (Q.Good X qo qm qc (wo ms k)) ∧ Kept [] w X) ⟨KB.blk Z3 (by simp), KB.blk Zp3 (by simp), Zq, M.out.new (K3.trans KB), MP.out.new (K3.trans KB), GQ.new KB, (T.trans K3).trans KB⟩ ?_
    clear Z Zp M MP T K3 KB Zq Z3 Zp3 GQ Q3 hE W
    rintro W ⟨Z, Zp, Zq, M, MP, MQ, T⟩
    have q0 : ∀ p : KW W, p.val.cell? ⟨B, 0, none⟩ = some (.slice mo mm mc) := KW.cell (cell_of_blk Z (i := 0) rfl)
    have q1 : ∀ p : KW W, p.val.cell? ⟨P, 0, none⟩ = some (.slice po pm pc) := KW.cell (cell_of_blk Zp (i := 0) rfl)
    have q2 : ∀ p : KW W, p.val.cell? ⟨E, 0, none⟩ = some (.slice qo qm qc) := KW.cell (cell_of_blk Zq (i := 0) rfl)
    have AN : Hid (AnsP W none 0 []) := ans_nil W
    by_cases hok : o = k
    · have hokb : (o == k) = true := by simpa using hok
      have hokn : (o != k) = false := by simpa using hok
      have HO : Hid _ := hok
      clear hok
      refine wp_region_kept (by kernel_rfl) (by kernel_rfl) ?_
      repeat (first
        | go_big_quiet_step (fail)
        | quiet_step (fail))
      refine wpQuiet_nil ?_
      intro _ hw'
      obtain ⟨pq, hw''⟩ := hw'
      subst hw''
      have T2 := T.trans pq.kept
      have Y1 := pq.kept.blk Zp (by simp)
      have Y2 := pq.kept.blk Zq (by simp)
      have N1 : Hid _ := MP.out.new pq.kept
      have N2 : Hid _ := MQ.out.new pq.kept
      generalize pq.val = X at T2 Y1 Y2 N1 N2 ⊢
      clear pq q0 q1 q2 Z Zp Zq M MP MQ T AN
      go_wp2_with fail
      refine (alive_any _).mono ?_
      rintro e w3 ⟨rfl, K3⟩
      have y1 := cell_of_blk (K3.blk Y1 (by simp)) (i := 0) rfl
      have g1 := get1_any po (wi ms ⟨k, v⟩) pm pc k w3 (N1.out.1.new K3) N1.out.2.1 N1.out.2.2.1 N1.out.2.2.2
      rw [(gt_wi_self ms ⟨k, v⟩).1, (gt_wi_self ms ⟨k, v⟩).2] at g1
      go_wp2_with fail
      refine g1.mono ?_
      clear g1 y1
      rintro e w4 ⟨rfl, K4⟩
      have s1 := ssame_any false true false true v v none none [] [] 0 0 0 0 w4 rfl rfl (fun h => absurd h (by simp)) (fun h => absurd h (by simp)) (by omega)
      rw [smB_self] at s1
      go_wp2_with fail
      refine s1.mono ?_
      clear s1
      rintro e w5 ⟨rfl, K5⟩
      have T5 := (K3.trans K4).trans K5
      have y2 := cell_of_blk (T5.blk Y2 (by simp)) (i := 0) rfl
      have g2 := get1_any qo (wo ms k) qm qc k w5 (N2.out.1.new T5) N2.out.2.1 N2.out.2.2.1 N2.out.2.2.2
      rw [(gt_wo_self ms k).1, (gt_wo_self ms k).2] at g2
      go_wp2_with fail
      refine g2.mono ?_
      clear g2 y2
      rintro e w6 ⟨rfl, K6⟩
      have s2 := ssame_any false false false false 0 0 none none [] [] 0 0 0 0 w6 rfl rfl (fun h => absurd h (by simp)) (fun h => absurd h (by simp)) (by omega)
      rw [smB_self] at s2
      go_wp2_with fail
      refine s2.mono ?_
      clear s2
      rintro e w7 ⟨rfl, K7⟩
      go_wp2
      go_ret
      exact ⟨rfl, ((T2.trans T5).trans K6).trans K7⟩
    · have hokb : (o == k) = false := by simpa using hok
      have hokn : (o != k) = true := by simpa using hok
      obtain ⟨A, hA⟩ : ∃ A, gtH ms o = A := ⟨_, rfl⟩
      obtain ⟨G, hG⟩ : ∃ G, gtV ms o = G := ⟨_, rfl⟩
      have R1 : Hid (gtH ms o = A ∧ gtV ms o = G) := ⟨hA, hG⟩
      have R2 : Hid (gtH (wi ms ⟨k, v⟩) o = A ∧ gtV (wi ms ⟨k, v⟩) o = G) := by have := gt_wi_other (ps := ms) (p := ⟨k, v⟩) (k := o) (fun e => hok e.symm); exact ⟨this.1.trans hA, this.2.trans hG⟩
      have R3 : Hid (gtH (wo ms k) o = A ∧ gtV (wo ms k) o = G) := by have := gt_wo_other (ps := ms) (j := k) (k := o) (fun e => hok e.symm); exact ⟨this.1.trans hA, this.2.trans hG⟩
      have R4 : Hid (smB false A G [] false A G [] = true) := smB_self _ _ _ _
      clear hA hG
      refine wp_region_kept (by kernel_rfl) (by kernel_rfl) ?_
      repeat (first
        | go_big_quiet_step ((first
          | (go_at_call 21; exact get1_kw (by assumption) (by assumption) _)
          | (go_at_call 20; exact ssame_kw (by assumption) (by assumption) (by assumption) _)))
        | quiet_step ((first
          | (go_at_call 21; exact get1_kw (by assumption) (by assumption) _)
          | (go_at_call 20; exact ssame_kw (by assumption) (by assumption) (by assumption) _))))
      refine wpQuiet_nil ?_
      intro _ hw'
      obtain ⟨pq, hw''⟩ := hw'
      subst hw''
      have T2 := T.trans pq.kept
      have Y1 := pq.kept.blk Zp (by simp)
      have Y2 := pq.kept.blk Zq (by simp)
      have N1 : Hid _ := MP.out.new pq.kept
      have N2 : Hid _ := MQ.out.new pq.kept
      generalize pq.val = X at T2 Y1 Y2 N1 N2 ⊢
      clear pq q0 q1 q2 Z Zp Zq M MP MQ T AN
      go_wp2_with fail
      refine (alive_any _).mono ?_
      rintro e w3 ⟨rfl, K3⟩
      have y1 := cell_of_blk (K3.blk Y1 (by simp)) (i := 0) rfl
      have g1 := get1_any po (wi ms ⟨k, v⟩) pm pc k w3 (N1.out.1.new K3) N1.out.2.1 N1.out.2.2.1 N1.out.2.2.2
      rw [(gt_wi_self ms ⟨k, v⟩).1, (gt_wi_self ms ⟨k, v⟩).2] at g1
      go_wp2_with fail
      refine g1.mono ?_
      clear g1 y1
      rintro e w4 ⟨rfl, K4⟩
      have s1 := ssame_any false true false true v v none none [] [] 0 0 0 0 w4 rfl rfl (fun h => absurd h (by simp)) (fun h => absurd h (by simp)) (by omega)
      rw [smB_self] at s1
      go_wp2_with fail
      refine s1.mono ?_
      clear s1
      rintro e w5 ⟨rfl, K5⟩
      have T5 := (K3.trans K4).trans K5
      have y2 := cell_of_blk (T5.blk Y2 (by simp)) (i := 0) rfl
      have g2 := get1_any qo (wo ms k) qm qc k w5 (N2.out.1.new T5) N2.out.2.1 N2.out.2.2.1 N2.out.2.2.2
      rw [(gt_wo_self ms k).1, (gt_wo_self ms k).2] at g2
      go_wp2_with fail
      refine g2.mono ?_
      clear g2 y2
      rintro e w6 ⟨rfl, K6⟩
      have s2 := ssame_any false false false false 0 0 none none [] [] 0 0 0 0 w6 rfl rfl (fun h => absurd h (by simp)) (fun h => absurd h (by simp)) (by omega)
      rw [smB_self] at s2
      go_wp2_with fail
      refine s2.mono ?_
      clear s2
      rintro e w7 ⟨rfl, K7⟩
      go_wp2
      go_ret
      exact ⟨rfl, ((T2.trans T5).trans K6).trans K7⟩
  · have c1 : (100 : Int) < (n : Int) := by omega
    have z0 := cell_of_blk Z9 (i := 0) rfl
    have z1 := cell_of_blk Z9 (i := 1) rfl
    have z2 := cell_of_blk Z9 (i := 2) rfl
    go_enter Try.func6, Try.ntmps6
    go_upto_region 1 with (fail)
    go_quiet (fail)
    go_wp2_with fail
    refine (alive_any _).mono ?_
    rintro e w1 ⟨rfl, K1⟩
    go_wp2
    go_ret
    exact ⟨rfl, (K0.drewN _).trans K1⟩

theorem seqGets_own : ownKnob Try.prog.godebug = none := by kernel_rfl
theorem seqGets_laidOut : laidOutB Try.prog = true := by kernel_rfl
set_option maxRecDepth 100000 in
theorem seqGets_lifted (os : Os) (started : os.Started) (H : Type) (enc : TypeId × Value → H) :
    ReturnsInHanded {} Try.checked os 6 .any (Rows.seqGetsSpec.pre6 enc Try.prog Try.f6 Rows.seqGetsRow.domain false) (Rows.seqGetsSpec.post enc Try.prog Try.f6 false true false false) := by
  refine returnsInHanded_of_change_sized (C := Try.checked) seqGets_own started (by kernel_rfl) Try.func6
    (ChangeSpec.witness6 (enc := enc) (C := Try.checked) false ⟨#[], #[.slice none 0 0, .agg #[.int .u64 0, .int .u64 0, .int .u64 0]], []⟩ 8 (by kernel_rfl) (by kernel_rfl) (by kernel_rfl) (by kernel_rfl)) ?_
  intro W base args ds gs before hval0 hW _ hsz0 _
  have hsz : (DataW.weightsEach Try.prog (Try.f6.params.toList ++ Rows.seqGetsSpec.plain.varTypes Try.prog) (ds ++ gs)).all (· ≤ reachBytes) = true := hsz0
  clear hsz0
  have hval : ∀ (j : Nat) t v, Try.f6.params[j]? = some t → args[j]? = some v → Value.okWide Try.prog W .any base t v := hval0
  have hW' := hW
  obtain ⟨p, q, hA0, hV, rfl, _, _⟩ := hW
  have hA : DataW.TrodAll enc Try.prog W 0 (fun _ => true) true Try.f6.params.toList args.toList ds p := hA0
  rw [Try.params6] at hA hval hsz
  clear hA0 hval0
  obtain ⟨v0, vs0, d0, ds0, p0, q0, hargs, rfl, rfl, h0, r0⟩ := trodAll_cons hA
  obtain ⟨v1, vs1, d1, ds1, p1, q1, rfl, rfl, rfl, h1, r1⟩ := trodAll_cons r0
  obtain ⟨rfl, rfl, rfl⟩ := trodAll_nil r1
  obtain rfl : args = #[v0, v1] := by cases args; simp_all
  obtain ⟨rfl, rfl⟩ := trodVars_none hV
  have k0 := h0
  have k1 := h1
  simp only [List.append_nil] at hW'
  have hlt0 : ∀ x ∈ p0, x.block < W.heap.size := fun x hx => hW'.lt x (by simp [hx])
  have hlt1 : ∀ x ∈ p1, x.block < W.heap.size := fun x hx => hW'.lt x (by simp [hx])
  obtain ⟨ao0, cap0, es0, rfl, s0, g0, c0⟩ := Q.open_pairs (hval 0 22 v0 rfl rfl) h0
  obtain ⟨x1, y1, z1, rfl, t1⟩ := Q.open_three (hval 1 47 v1 rfl rfl) h1
  refine (seqGets_walk W ao0 es0 cap0 x1 y1 z1 s0 g0 c0 t1).mono fun e W' ⟨he, hg⟩ => ?_
  subst he
  have hb := hg.below (by simp)
  exact ⟨_, rfl, _, _, _, [], _, [], hW', (trodAll_cons_mk (shut_bool Try.underlying4 _) trodAll_mk0), (trodAll_cons_mk (Below.trod seqGets_laidOut (by kernel_rfl) (of_decide_eq_true (by kernel_rfl)) k0 hb hlt0) (trodAll_cons_mk (Below.trod seqGets_laidOut (by kernel_rfl) (of_decide_eq_true (by kernel_rfl)) k1 hb hlt1) trodAll_mk0)), rfl, hb.frame _, fun h => by cases h⟩

theorem seqGets_holds : Rows.SeqGetsSaid :=
  OpenClaim.holds_of_wide 6 Try.f6 rfl rfl rfl rfl rfl rfl rfl ⟨rfl, rfl, rfl, rfl, rfl⟩ rfl rfl rfl rfl rfl (by kernel_rfl) Try.func6 (by kernel_rfl)
    (of_decide_eq_true (by kernel_rfl)) (by unfold Func.isWrapper; first | (rw [if_pos (by decide +kernel)]; kernel_rfl) | (rw [if_neg (by decide +kernel)]; exact ⟨rfl, rfl⟩))
    (fun os started H enc _ => seqGets_lifted os started H enc)
#print axioms seqGets_holds
end Go.Proofs.Ytapbkonfjieadaa
