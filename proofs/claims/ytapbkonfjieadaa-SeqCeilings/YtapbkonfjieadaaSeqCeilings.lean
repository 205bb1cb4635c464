/-
  SeqCeilings: a ceiling is the first key of a range from there on; it is there, and nothing is between, for every input.
  Conditions: none.
-/
import Derived.Test.YtapbkonfjieadaaQLaw4
import Derived.ProofKit
import Derived.SizedLaws
import Derived.Carry
namespace Go.Proofs.Ytapbkonfjieadaa
open Go.ChangeShapes Go.WideShapes Go.ChangeAt Go.RowKit
open Go.Deep

open Q
set_option maxRecDepth 100000 in
set_option maxHeartbeats 4000000 in
theorem seqCeilings_walk (w : World) (ao : Option Addr) (es : List Pr) (cap : Nat) (k : Int) (_hk : (Lit.int .u64 k).wf = true) (o : Int) (_ho : (Lit.int .u64 o).wf = true) (hs : SlP w ao es) (hg : ∀ x ∈ es, x.k ≤ 18446744073709551615) (_hc : ao = none → cap = 0) :
    Calls Try.prog 7 #[.slice ao es.length cap, .int .u64 k, .int .u64 o] w fun e w' => e = .returned (.bool true) ∧ Kept [] w w' := by
  obtain ⟨n, hn⟩ : ∃ n, n = es.length := ⟨_, rfl⟩
  rw [← hn]
  have HN : Hid (n = es.length) := hn
  have HG : Hid (∀ x ∈ es, x.k ≤ 18446744073709551615) := hg
  have HS : Hid (SlP w ao es) := hs
  clear hn hg hs
  have KH : Kept [] w w := Kept.refl _ _
  by_cases c : n ≤ 100
  · have c1 : ¬ (100 : Int) < (n : Int) := by omega
    have LM := mapOf_len es
    rw [← HN.out] at LM
    obtain ⟨ms, hms⟩ : ∃ ms, ms = mapOf es := ⟨_, rfl⟩
    rw [← hms] at LM
    have EM : Hid (mapOf es = ms) := hms.symm
    have GM : Hid (Str ms ∧ Wd ms) := by rw [hms]; exact ⟨mapOf_str es, mapOf_wd HG.out⟩
    clear hms
    cases hf : (nbl ms k).head? with
    | none =>
      have EC : Hid (doH ms ⟨4, k, 0, 0, 0⟩ = false ∧ doG ms ⟨4, k, 0, 0, 0⟩ = 0 ∧ doK ms ⟨5, k, 18446744073709551615, 1, 0⟩ = []) := by
        refine ⟨?_, ?_, ?_⟩
        · show Q.clH ms k = false; unfold Q.clH; rw [hf]; rfl
        · show Q.clV ms k = 0; unfold Q.clV; rw [hf]
        · show rgK ms k 18446744073709551615 1 = []; rw [rgK_one GM.out.2, hf]; rfl
      clear hf
      go_enter Try.func7, Try.ntmps7
      go_wp2_with fail
      refine (news_any ao es n cap _ HN.out (HS.out.new KH) (by omega)).mono ?_
      rintro o w1 ⟨nb, nc, rfl, M1, K1⟩
      go_wp2_with fail
      refine (of_any nb es n nc w1 M1.1 M1.2.1 M1.2.2.2 (by omega)).mono ?_
      rintro o w2 ⟨mo, mm, mc, rfl, M2, K2⟩
      rw [EM.out] at M2
      have T2 := (KH.trans K1).trans K2
      have P2 := K1.trans K2
      clear K1 K2 M1 KH
      have hmm : mm ≤ 100 := by have := M2.1; omega
      have Z0 := blk_alloc_new w2 (.cells #[.slice mo mm mc] 26)
      have KA : Kept [] w2 (w2.alloc (.cells #[.slice mo mm mc] 26)) := (Kept.refl _ _).alloc _
      go_upto_region 4 with (fail)
      obtain ⟨B, hB⟩ : ∃ B, B = w2.heap.size := ⟨_, rfl⟩
      rw [← hB] at Z0 ⊢
      refine gen_world (fun W => W.heap[B]? = some (.cells #[.slice mo mm mc] 26 (0, 0)) ∧ Hid (Q.Good W mo mm mc ms) ∧ Kept [] w W) ⟨Z0, ⟨M2.new KA, GM.out.1, GM.out.2, by omega⟩, T2.trans KA⟩ ?_
      clear Z0 KA T2 P2 M2 hB
      rintro W ⟨Z, M, T⟩
      have LKC : ([] : List Int).length ≤ 1000 := by simp
      have LKR : ([] : List Int).length ≤ 1000 := by simp
      have q := cell_of_blk Z (i := 0) rfl
      have cd := do_at mo ms mm mc 4 k 0 0 0 W M.out.1 M.out.2.1 M.out.2.2.1 M.out.2.2.2 ms false 0 [] rfl EC.out.1 EC.out.2.1 rfl
      go_wp2_with fail
      refine cd.mono ?_
      clear cd q
      rintro e wC ⟨bC, mC, dC, kC, nC, rC, rfl, QQ, KQ⟩
      have lk : ([] : List Int).length ≤ 1000 := LKC
      have KB : Kept [] wC ((wC.alloc (.cells #[.slice bC mC dC] 26)).alloc (.cells #[.bool false, .bool false, .int .u64 0, .slice kC nC rC] 41)) := ((Kept.refl _ _).alloc _).alloc _
      go_upto_region 5 with (fail)
      obtain ⟨C, hC⟩ : ∃ C, C = wC.heap.size + 1 := ⟨_, rfl⟩
      rw [← hC]
      have yy : ((wC.alloc (.cells #[.slice bC mC dC] 26)).alloc (.cells #[.bool false, .bool false, .int .u64 0, .slice kC nC rC] 41)).heap[C]? = some (.cells #[.bool false, .bool false, .int .u64 0, .slice kC nC rC] 41 (0, 0)) := by have := blk_alloc_new (wC.alloc (.cells #[.slice bC mC dC] 26)) (.cells #[.bool false, .bool false, .int .u64 0, .slice kC nC rC] 41); rw [nblk_alloc, ← hC] at this; exact this
      refine gen_world (fun X => X.heap[B]? = some (.cells #[.slice mo mm mc] 26 (0, 0)) ∧ X.heap[C]? = some (.cells #[.bool false, .bool false, .int .u64 0, .slice kC nC rC] 41 (0, 0)) ∧ Hid (Q.Good X mo mm mc ms) ∧ Hid (AnsP X kC nC []) ∧ Kept [] w X) ⟨box_alloc (box_alloc (KQ.blk Z (by simp)) _) _, yy, M.out.new (KQ.trans KB), ⟨QQ.out.2.1, QQ.out.2.2.new KB, by have := QQ.out.2.1; have := lk; omega⟩, (T.trans KQ).trans KB⟩ ?_
      clear Z M T QQ KQ KB yy hC lk
      clear W
      rintro W ⟨Z, yC, M, SC, T⟩
      have q := cell_of_blk Z (i := 0) rfl
      have cd := do_at mo ms mm mc 5 k 18446744073709551615 1 0 W M.out.1 M.out.2.1 M.out.2.2.1 M.out.2.2.2 ms false 0 [] rfl rfl rfl EC.out.2.2
      go_wp2_with fail
      refine cd.mono ?_
      clear cd q
      rintro e wR ⟨bR, mR, dR, kR, nR, rR, rfl, QQ, KQ⟩
      have lk : ([] : List Int).length ≤ 1000 := LKR
      have KB : Kept [] wR ((wR.alloc (.cells #[.slice bR mR dR] 26)).alloc (.cells #[.bool false, .bool false, .int .u64 0, .slice kR nR rR] 41)) := ((Kept.refl _ _).alloc _).alloc _
      go_upto_region 6 with (fail)
      obtain ⟨R, hR⟩ : ∃ R, R = wR.heap.size + 1 := ⟨_, rfl⟩
      rw [← hR]
      have yy : ((wR.alloc (.cells #[.slice bR mR dR] 26)).alloc (.cells #[.bool false, .bool false, .int .u64 0, .slice kR nR rR] 41)).heap[R]? = some (.cells #[.bool false, .bool false, .int .u64 0, .slice kR nR rR] 41 (0, 0)) := by have := blk_alloc_new (wR.alloc (.cells #[.slice bR mR dR] 26)) (.cells #[.bool false, .bool false, .int .u64 0, .slice kR nR rR] 41); rw [nblk_alloc, ← hR] at this; exact this
      refine gen_world (fun X => X.heap[B]? = some (.cells #[.slice mo mm mc] 26 (0, 0)) ∧ X.heap[C]? = some (.cells #[.bool false, .bool false, .int .u64 0, .slice kC nC rC] 41 (0, 0)) ∧ X.heap[R]? = some (.cells #[.bool false, .bool false, .int .u64 0, .slice kR nR rR] 41 (0, 0)) ∧ Hid (Q.Good X mo mm mc ms) ∧ Hid (AnsP X kC nC []) ∧ Hid (AnsP X kR nR []) ∧ Kept [] w X) ⟨box_alloc (box_alloc (KQ.blk Z (by simp)) _) _, box_alloc (box_alloc (KQ.blk yC (by simp)) _) _, yy, M.out.new (KQ.trans KB), SC.out.new (KQ.trans KB), ⟨QQ.out.2.1, QQ.out.2.2.new KB, by have := QQ.out.2.1; have := lk; omega⟩, (T.trans KQ).trans KB⟩ ?_
      clear Z M T QQ KQ KB yy hR lk yC SC
      clear W
      rintro W ⟨Z, yC, yR, M, SC, SR, T⟩
      have nR0 : nR = 0 := SR.out.1
      subst nR0
      have c1 := cell_of_blk yC (i := 1) rfl
      go_wp2_with fail
      refine (alive_any _).mono ?_
      rintro e w3 ⟨rfl, K3⟩
      have c2 := cell_of_blk (K3.blk yC (by simp)) (i := 2) rfl
      have r3 := cell_of_blk (K3.blk yR (by simp)) (i := 3) rfl
      clear c1
      go_wp2
      go_ret
      exact ⟨rfl, T.trans K3⟩

    | some p =>
      have EC : Hid (doH ms ⟨4, k, 0, 0, 0⟩ = true ∧ doG ms ⟨4, k, 0, 0, 0⟩ = p.k ∧ doK ms ⟨5, k, 18446744073709551615, 1, 0⟩ = [p.k]) := by
        refine ⟨?_, ?_, ?_⟩
        · show Q.clH ms k = true; unfold Q.clH; rw [hf]; rfl
        · show Q.clV ms k = p.k; unfold Q.clV; rw [hf]
        · show rgK ms k 18446744073709551615 1 = [p.k]; rw [rgK_one GM.out.2, hf]; rfl
      obtain ⟨vG, hvG⟩ : ∃ vG, gtV ms p.k = vG := ⟨_, rfl⟩
      obtain ⟨xE, hxE⟩ : ∃ xE, gtH ms o = xE := ⟨_, rfl⟩
      obtain ⟨vE, hvE⟩ : ∃ vE, gtV ms o = vE := ⟨_, rfl⟩
      have hp := head_nbl hf
      have GG : Hid (doH ms ⟨1, p.k, 0, 0, 0⟩ = true ∧ doG ms ⟨1, p.k, 0, 0, 0⟩ = vG) := ⟨gtH_mem GM.out.1 hp.1, hvG⟩
      have GE : Hid (doH ms ⟨1, o, 0, 0, 0⟩ = xE ∧ doG ms ⟨1, o, 0, 0, 0⟩ = vE) := ⟨hxE, hvE⟩
      have HP : Hid (p ∈ ms ∧ k ≤ p.k ∧ (¬ o < k → ¬ p.k ≤ o → xE = false)) := ⟨hp.1, hp.2, fun u1 u2 => by rw [← hxE]; exact between_none GM.out.1 hf (by omega) (by omega)⟩
      clear hf hp hvG hxE hvE
      go_enter Try.func7, Try.ntmps7
      go_wp2_with fail
      refine (news_any ao es n cap _ HN.out (HS.out.new KH) (by omega)).mono ?_
      rintro o w1 ⟨nb, nc, rfl, M1, K1⟩
      go_wp2_with fail
      refine (of_any nb es n nc w1 M1.1 M1.2.1 M1.2.2.2 (by omega)).mono ?_
      rintro o w2 ⟨mo, mm, mc, rfl, M2, K2⟩
      rw [EM.out] at M2
      have T2 := (KH.trans K1).trans K2
      have P2 := K1.trans K2
      clear K1 K2 M1 KH
      have hmm : mm ≤ 100 := by have := M2.1; omega
      have Z0 := blk_alloc_new w2 (.cells #[.slice mo mm mc] 26)
      have KA : Kept [] w2 (w2.alloc (.cells #[.slice mo mm mc] 26)) := (Kept.refl _ _).alloc _
      go_upto_region 4 with (fail)
      obtain ⟨B, hB⟩ : ∃ B, B = w2.heap.size := ⟨_, rfl⟩
      rw [← hB] at Z0 ⊢
      refine gen_world (fun W => W.heap[B]? = some (.cells #[.slice mo mm mc] 26 (0, 0)) ∧ Hid (Q.Good W mo mm mc ms) ∧ Kept [] w W) ⟨Z0, ⟨M2.new KA, GM.out.1, GM.out.2, by omega⟩, T2.trans KA⟩ ?_
      clear Z0 KA T2 P2 M2 hB
      rintro W ⟨Z, M, T⟩
      have LKC : ([] : List Int).length ≤ 1000 := by simp
      have LKR : ([p.k] : List Int).length ≤ 1000 := by simp
      have q := cell_of_blk Z (i := 0) rfl
      have cd := do_at mo ms mm mc 4 k 0 0 0 W M.out.1 M.out.2.1 M.out.2.2.1 M.out.2.2.2 ms true p.k [] rfl EC.out.1 EC.out.2.1 rfl
      go_wp2_with fail
      refine cd.mono ?_
      clear cd q
      rintro e wC ⟨bC, mC, dC, kC, nC, rC, rfl, QQ, KQ⟩
      have lk : ([] : List Int).length ≤ 1000 := LKC
      have KB : Kept [] wC ((wC.alloc (.cells #[.slice bC mC dC] 26)).alloc (.cells #[.bool false, .bool true, .int .u64 p.k, .slice kC nC rC] 41)) := ((Kept.refl _ _).alloc _).alloc _
      go_upto_region 5 with (fail)
      obtain ⟨C, hC⟩ : ∃ C, C = wC.heap.size + 1 := ⟨_, rfl⟩
      rw [← hC]
      have yy : ((wC.alloc (.cells #[.slice bC mC dC] 26)).alloc (.cells #[.bool false, .bool true, .int .u64 p.k, .slice kC nC rC] 41)).heap[C]? = some (.cells #[.bool false, .bool true, .int .u64 p.k, .slice kC nC rC] 41 (0, 0)) := by have := blk_alloc_new (wC.alloc (.cells #[.slice bC mC dC] 26)) (.cells #[.bool false, .bool true, .int .u64 p.k, .slice kC nC rC] 41); rw [nblk_alloc, ← hC] at this; exact this
      refine gen_world (fun X => X.heap[B]? = some (.cells #[.slice mo mm mc] 26 (0, 0)) ∧ X.heap[C]? = some (.cells #[.bool false, .bool true, .int .u64 p.k, .slice kC nC rC] 41 (0, 0)) ∧ Hid (Q.Good X mo mm mc ms) ∧ Hid (AnsP X kC nC []) ∧ Kept [] w X) ⟨box_alloc (box_alloc (KQ.blk Z (by simp)) _) _, yy, M.out.new (KQ.trans KB), ⟨QQ.out.2.1, QQ.out.2.2.new KB, by have := QQ.out.2.1; have := lk; omega⟩, (T.trans KQ).trans KB⟩ ?_
      clear Z M T QQ KQ KB yy hC lk
      clear W
      rintro W ⟨Z, yC, M, SC, T⟩
      have q := cell_of_blk Z (i := 0) rfl
      have cd := do_at mo ms mm mc 5 k 18446744073709551615 1 0 W M.out.1 M.out.2.1 M.out.2.2.1 M.out.2.2.2 ms false 0 [p.k] rfl rfl rfl EC.out.2.2
      go_wp2_with fail
      refine cd.mono ?_
      clear cd q
      rintro e wR ⟨bR, mR, dR, kR, nR, rR, rfl, QQ, KQ⟩
      have lk : ([p.k] : List Int).length ≤ 1000 := LKR
      have KB : Kept [] wR ((wR.alloc (.cells #[.slice bR mR dR] 26)).alloc (.cells #[.bool false, .bool false, .int .u64 0, .slice kR nR rR] 41)) := ((Kept.refl _ _).alloc _).alloc _
      go_upto_region 6 with (fail)
      obtain ⟨R, hR⟩ : ∃ R, R = wR.heap.size + 1 := ⟨_, rfl⟩
      rw [← hR]
      have yy : ((wR.alloc (.cells #[.slice bR mR dR] 26)).alloc (.cells #[.bool false, .bool false, .int .u64 0, .slice kR nR rR] 41)).heap[R]? = some (.cells #[.bool false, .bool false, .int .u64 0, .slice kR nR rR] 41 (0, 0)) := by have := blk_alloc_new (wR.alloc (.cells #[.slice bR mR dR] 26)) (.cells #[.bool false, .bool false, .int .u64 0, .slice kR nR rR] 41); rw [nblk_alloc, ← hR] at this; exact this
      refine gen_world (fun X => X.heap[B]? = some (.cells #[.slice mo mm mc] 26 (0, 0)) ∧ X.heap[C]? = some (.cells #[.bool false, .bool true, .int .u64 p.k, .slice kC nC rC] 41 (0, 0)) ∧ X.heap[R]? = some (.cells #[.bool false, .bool false, .int .u64 0, .slice kR nR rR] 41 (0, 0)) ∧ Hid (Q.Good X mo mm mc ms) ∧ Hid (AnsP X kC nC []) ∧ Hid (AnsP X kR nR [p.k]) ∧ Kept [] w X) ⟨box_alloc (box_alloc (KQ.blk Z (by simp)) _) _, box_alloc (box_alloc (KQ.blk yC (by simp)) _) _, yy, M.out.new (KQ.trans KB), SC.out.new (KQ.trans KB), ⟨QQ.out.2.1, QQ.out.2.2.new KB, by have := QQ.out.2.1; have := lk; omega⟩, (T.trans KQ).trans KB⟩ ?_
      clear Z M T QQ KQ KB yy hR lk yC SC
      clear W
      rintro W ⟨Z, yC, yR, M, SC, SR, T⟩
      have nR1 : nR = 1 := SR.out.1
      subst nR1
      have LKG : ([] : List Int).length ≤ 1000 := by simp
      have LKE : ([] : List Int).length ≤ 1000 := by simp
      have c1 := cell_of_blk yC (i := 1) rfl
      have c2 := cell_of_blk yC (i := 2) rfl
      have q := cell_of_blk Z (i := 0) rfl
      have cd := do_at mo ms mm mc 1 p.k 0 0 0 W M.out.1 M.out.2.1 M.out.2.2.1 M.out.2.2.2 ms true vG [] rfl GG.out.1 GG.out.2 rfl
      go_wp2_with fail
      refine cd.mono ?_
      clear cd q
      rintro e wG ⟨bG, mG, dG, kG, nG, rG, rfl, QQ, KQ⟩
      have lk : ([] : List Int).length ≤ 1000 := LKG
      have KB : Kept [] wG ((wG.alloc (.cells #[.slice bG mG dG] 26)).alloc (.cells #[.bool false, .bool true, .int .u64 vG, .slice kG nG rG] 41)) := ((Kept.refl _ _).alloc _).alloc _
      go_upto_region 9 with (fail)
      obtain ⟨G, hG⟩ : ∃ G, G = wG.heap.size + 1 := ⟨_, rfl⟩
      rw [← hG]
      have yy : ((wG.alloc (.cells #[.slice bG mG dG] 26)).alloc (.cells #[.bool false, .bool true, .int .u64 vG, .slice kG nG rG] 41)).heap[G]? = some (.cells #[.bool false, .bool true, .int .u64 vG, .slice kG nG rG] 41 (0, 0)) := by have := blk_alloc_new (wG.alloc (.cells #[.slice bG mG dG] 26)) (.cells #[.bool false, .bool true, .int .u64 vG, .slice kG nG rG] 41); rw [nblk_alloc, ← hG] at this; exact this
      refine gen_world (fun X => X.heap[B]? = some (.cells #[.slice mo mm mc] 26 (0, 0)) ∧ X.heap[C]? = some (.cells #[.bool false, .bool true, .int .u64 p.k, .slice kC nC rC] 41 (0, 0)) ∧ X.heap[R]? = some (.cells #[.bool false, .bool false, .int .u64 0, .slice kR 1 rR] 41 (0, 0)) ∧ X.heap[G]? = some (.cells #[.bool false, .bool true, .int .u64 vG, .slice kG nG rG] 41 (0, 0)) ∧ Hid (Q.Good X mo mm mc ms) ∧ Hid (AnsP X kC nC []) ∧ Hid (AnsP X kR 1 [p.k]) ∧ Hid (AnsP X kG nG []) ∧ Kept [] w X) ⟨box_alloc (box_alloc (KQ.blk Z (by simp)) _) _, box_alloc (box_alloc (KQ.blk yC (by simp)) _) _, box_alloc (box_alloc (KQ.blk yR (by simp)) _) _, yy, M.out.new (KQ.trans KB), SC.out.new (KQ.trans KB), SR.out.new (KQ.trans KB), ⟨QQ.out.2.1, QQ.out.2.2.new KB, by have := QQ.out.2.1; have := lk; omega⟩, (T.trans KQ).trans KB⟩ ?_
      clear c1 c2
      clear Z M T QQ KQ KB yy hG lk yC yR SC SR
      clear W
      rintro W ⟨Z, yC, yR, yG, M, SC, SR, SG, T⟩
      have q := cell_of_blk Z (i := 0) rfl
      have cd := do_at mo ms mm mc 1 o 0 0 0 W M.out.1 M.out.2.1 M.out.2.2.1 M.out.2.2.2 ms xE vE [] rfl GE.out.1 GE.out.2 rfl
      go_wp2_with fail
      refine cd.mono ?_
      clear cd q
      rintro e wE ⟨bE, mE, dE, kE, nE, rE, rfl, QQ, KQ⟩
      have lk : ([] : List Int).length ≤ 1000 := LKE
      have KB : Kept [] wE ((wE.alloc (.cells #[.slice bE mE dE] 26)).alloc (.cells #[.bool false, .bool xE, .int .u64 vE, .slice kE nE rE] 41)) := ((Kept.refl _ _).alloc _).alloc _
      go_upto_region 10 with (fail)
      obtain ⟨E, hE⟩ : ∃ E, E = wE.heap.size + 1 := ⟨_, rfl⟩
      rw [← hE]
      have yy : ((wE.alloc (.cells #[.slice bE mE dE] 26)).alloc (.cells #[.bool false, .bool xE, .int .u64 vE, .slice kE nE rE] 41)).heap[E]? = some (.cells #[.bool false, .bool xE, .int .u64 vE, .slice kE nE rE] 41 (0, 0)) := by have := blk_alloc_new (wE.alloc (.cells #[.slice bE mE dE] 26)) (.cells #[.bool false, .bool xE, .int .u64 vE, .slice kE nE rE] 41); rw [nblk_alloc, ← hE] at this; exact this
      refine gen_world (fun X => X.heap[B]? = some (.cells #[.slice mo mm mc] 26 (0, 0)) ∧ X.heap[C]? = some (.cells #[.bool false, .bool true, .int .u64 p.k, .slice kC nC rC] 41 (0, 0)) ∧ X.heap[R]? = some (.cells #[.bool false, .bool false, .int .u64 0, .slice kR 1 rR] 41 (0, 0)) ∧ X.heap[G]? = some (.cells #[.bool false, .bool true, .int .u64 vG, .slice kG nG rG] 41 (0, 0)) ∧ X.heap[E]? = some (.cells #[.bool false, .bool xE, .int .u64 vE, .slice kE nE rE] 41 (0, 0)) ∧ Hid (Q.Good X mo mm mc ms) ∧ Hid (AnsP X kC nC []) ∧ Hid (AnsP X kR 1 [p.k]) ∧ Hid (AnsP X kG nG []) ∧ Hid (AnsP X kE nE []) ∧ Kept [] w X) ⟨box_alloc (box_alloc (KQ.blk Z (by simp)) _) _, box_alloc (box_alloc (KQ.blk yC (by simp)) _) _, box_alloc (box_alloc (KQ.blk yR (by simp)) _) _, box_alloc (box_alloc (KQ.blk yG (by simp)) _) _, yy, M.out.new (KQ.trans KB), SC.out.new (KQ.trans KB), SR.out.new (KQ.trans KB), SG.out.new (KQ.trans KB), ⟨QQ.out.2.1, QQ.out.2.2.new KB, by have := QQ.out.2.1; have := lk; omega⟩, (T.trans KQ).trans KB⟩ ?_
      clear Z M T QQ KQ KB yy hE lk yC yR yG SC SR SG
      clear W
      rintro W ⟨Z, yC, yR, yG, yE, M, SC, SR, SG, SE, T⟩
      obtain ⟨g1, o1, rfl, -, k0⟩ := SR.out.2.1.cell (i := 0) (by simp)
      simp at k0
      have q1 : ∀ p' : KW W, p'.val.cell? ⟨C, 2, none⟩ = some (.int .u64 p.k) := KW.cell (cell_of_blk yC (i := 2) rfl)
      have q2 : ∀ p' : KW W, p'.val.cell? ⟨R, 3, none⟩ = some (.slice (some ⟨g1, o1, none⟩) 1 rR) := KW.cell (cell_of_blk yR (i := 3) rfl)
      have q3 : ∀ p' : KW W, p'.val.cell? ⟨g1, o1, none⟩ = some (.int .u64 p.k) := KW.cell k0
      have q4 : ∀ p' : KW W, p'.val.cell? ⟨G, 1, none⟩ = some (.bool true) := KW.cell (cell_of_blk yG (i := 1) rfl)
      have q5 : ∀ p' : KW W, p'.val.cell? ⟨E, 1, none⟩ = some (.bool xE) := KW.cell (cell_of_blk yE (i := 1) rfl)
      have t1 : k ≤ p.k := HP.out.2.1
      have t1d : decide (k ≤ p.k) = true := decide_eq_true t1
      have AL : Hid (∀ p' : KW W, Calls Try.prog 9 #[] p'.val fun e w'' => e = .returned (.bool true) ∧ ∃ q : KW W, w'' = q.val) := fun p' => Calls.kw_of (alive_any _)
      clear yC yR yG yE k0 Z
      by_cases u1 : o < k
      · have u1d : decide (o < k) = true := decide_eq_true u1
        refine wp_region_kept (by kernel_rfl) (by kernel_rfl) ?_
        repeat (first
          | go_big_quiet_step ((first | (go_at_call 9; exact AL.out _)))
          | quiet_step ((first | (go_at_call 9; exact AL.out _))))
        refine wpQuiet_nil ?_
        intro _ hw'
        obtain ⟨pq, hw''⟩ := hw'
        subst hw''
        go_wp2
        go_ret
        exact ⟨rfl, T.trans pq.kept⟩
      · have u1d : decide (o < k) = false := decide_eq_false u1
        by_cases u2 : p.k ≤ o
        · have u2d : decide (p.k ≤ o) = true := decide_eq_true u2
          refine wp_region_kept (by kernel_rfl) (by kernel_rfl) ?_
          repeat (first
            | go_big_quiet_step ((first | (go_at_call 9; exact AL.out _)))
            | quiet_step ((first | (go_at_call 9; exact AL.out _))))
          refine wpQuiet_nil ?_
          intro _ hw'
          obtain ⟨pq, hw''⟩ := hw'
          subst hw''
          go_wp2
          go_ret
          exact ⟨rfl, T.trans pq.kept⟩
        · have u2d : decide (p.k ≤ o) = false := decide_eq_false u2
          have hx : xE = false := HP.out.2.2 (by omega) (by omega)
          subst hx
          refine wp_region_kept (by kernel_rfl) (by kernel_rfl) ?_
          repeat (first
            | go_big_quiet_step ((first | (go_at_call 9; exact AL.out _)))
            | quiet_step ((first | (go_at_call 9; exact AL.out _))))
          refine wpQuiet_nil ?_
          intro _ hw'
          obtain ⟨pq, hw''⟩ := hw'
          subst hw''
          go_wp2
          go_ret
          exact ⟨rfl, T.trans pq.kept⟩

  · have c1 : (100 : Int) < (n : Int) := by omega
    go_enter Try.func7, Try.ntmps7
    go_wp2_with fail
    refine (alive_any _).mono ?_
    rintro o w1 ⟨rfl, K1⟩
    go_wp2
    go_ret
    exact ⟨rfl, K1⟩

theorem seqCeilings_own : ownKnob Try.prog.godebug = none := by kernel_rfl
theorem seqCeilings_laidOut : laidOutB Try.prog = true := by kernel_rfl
set_option maxRecDepth 100000 in
theorem seqCeilings_lifted (os : Os) (started : os.Started) (H : Type) (enc : TypeId × Value → H) :
    ReturnsInHanded {} Try.checked os 7 .any (Rows.seqCeilingsSpec.pre6 enc Try.prog Try.f7 Rows.seqCeilingsRow.domain false) (Rows.seqCeilingsSpec.post enc Try.prog Try.f7 false true false false) := by
  refine returnsInHanded_of_change_sized (C := Try.checked) seqCeilings_own started (by kernel_rfl) Try.func7
    (ChangeSpec.witness6 (enc := enc) (C := Try.checked) false ⟨#[], #[.slice none 0 0, .int .u64 0, .int .u64 0], []⟩ 8 (by kernel_rfl) (by kernel_rfl) (by kernel_rfl) (by kernel_rfl)) ?_
  intro W base args ds gs before hval0 hW _ hsz0 _
  have hsz : (DataW.weightsEach Try.prog (Try.f7.params.toList ++ Rows.seqCeilingsSpec.plain.varTypes Try.prog) (ds ++ gs)).all (· ≤ reachBytes) = true := hsz0
  clear hsz0
  have hval : ∀ (j : Nat) t v, Try.f7.params[j]? = some t → args[j]? = some v → Value.okWide Try.prog W .any base t v := hval0
  have hW' := hW
  obtain ⟨p, q, hA0, hV, rfl, _, _⟩ := hW
  have hA : DataW.TrodAll enc Try.prog W 0 (fun _ => true) true Try.f7.params.toList args.toList ds p := hA0
  rw [Try.params7] at hA hval hsz
  clear hA0 hval0
  obtain ⟨v0, vs0, d0, ds0, p0, q0, hargs, rfl, rfl, h0, r0⟩ := trodAll_cons hA
  obtain ⟨v1, vs1, d1, ds1, p1, q1, rfl, rfl, rfl, h1, r1⟩ := trodAll_cons r0
  obtain ⟨v2, vs2, d2, ds2, p2, q2, rfl, rfl, rfl, h2, r2⟩ := trodAll_cons r1
  obtain ⟨rfl, rfl, rfl⟩ := trodAll_nil r2
  obtain rfl : args = #[v0, v1, v2] := by cases args; simp_all
  obtain ⟨rfl, rfl⟩ := trodVars_none hV
  have k0 := h0
  have k1 := h1
  have k2 := h2
  simp only [List.append_nil] at hW'
  have hlt0 : ∀ x ∈ p0, x.block < W.heap.size := fun x hx => hW'.lt x (by simp [hx])
  have hlt1 : ∀ x ∈ p1, x.block < W.heap.size := fun x hx => hW'.lt x (by simp [hx])
  have hlt2 : ∀ x ∈ p2, x.block < W.heap.size := fun x hx => hW'.lt x (by simp [hx])
  obtain ⟨ao0, cap0, es0, rfl, s0, g0, c0⟩ := Q.open_pairs (hval 0 22 v0 rfl rfl) h0
  obtain ⟨a1, rfl, rfl, rfl, w1⟩ := open_int Try.underlying36 (hval 1 36 v1 rfl rfl) h1
  obtain ⟨a2, rfl, rfl, rfl, w2⟩ := open_int Try.underlying36 (hval 2 36 v2 rfl rfl) h2
  refine (seqCeilings_walk W ao0 es0 cap0 a1 w1 a2 w2 s0 g0 c0).mono fun e W' ⟨he, hg⟩ => ?_
  subst he
  have hb := hg.below (by simp)
  exact ⟨_, rfl, _, _, _, [], _, [], hW', (trodAll_cons_mk (shut_bool Try.underlying4 _) trodAll_mk0), (trodAll_cons_mk (Below.trod seqCeilings_laidOut (by kernel_rfl) (of_decide_eq_true (by kernel_rfl)) k0 hb hlt0) (trodAll_cons_mk (Below.trod seqCeilings_laidOut (by kernel_rfl) (of_decide_eq_true (by kernel_rfl)) k1 hb hlt1) (trodAll_cons_mk (Below.trod seqCeilings_laidOut (by kernel_rfl) (of_decide_eq_true (by kernel_rfl)) k2 hb hlt2) trodAll_mk0))), rfl, hb.frame _, fun h => by cases h⟩

theorem seqCeilings_holds : Rows.SeqCeilingsSaid :=
  OpenClaim.holds_of_wide 7 Try.f7 rfl rfl rfl rfl rfl rfl rfl ⟨rfl, rfl, rfl, rfl, rfl⟩ rfl rfl rfl rfl rfl (by kernel_rfl) Try.func7 (by kernel_rfl)
    (of_decide_eq_true (by kernel_rfl)) (by unfold Func.isWrapper; first | (rw [if_pos (by decide +kernel)]; kernel_rfl) | (rw [if_neg (by decide +kernel)]; exact ⟨rfl, rfl⟩))
    (fun os started H enc _ => seqCeilings_lifted os started H enc)
#print axioms seqCeilings_holds
end Go.Proofs.Ytapbkonfjieadaa
