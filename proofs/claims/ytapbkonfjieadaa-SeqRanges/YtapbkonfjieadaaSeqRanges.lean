/-
  SeqRanges: a range tells keys that rise, from one to the other, each of which is there; all of them, if there are not too many, for every input.
  Conditions: none.
-/
import Derived.Test.YtapbkonfjieadaaQLaw4
import Derived.ProofKit
import Derived.SizedLaws
import Derived.Carry
namespace Go.Proofs.Ytapbkonfjieadaa
open Go.ChangeShapes Go.WideShapes Go.ChangeAt Go.RowKit
open Go.Deep

open Q
/-- A pair whose key lies between. -/
def inR (a b : Int) (p : Pr) : Bool := decide (p.k ≤ b) && decide (a ≤ p.k)
/-- How many of the first so many lie between. -/
def cnt (ms : List Pr) (a b : Int) (j : Nat) : Nat := ((ms.take j).filter (inR a b)).length
theorem cnt_zero (ms : List Pr) (a b : Int) : cnt ms a b 0 = 0 := by simp [cnt]
theorem cnt_next {ms : List Pr} (a b : Int) {j : Nat} (h : j < ms.length) : cnt ms a b (j + 1) = cnt ms a b j + (if inR a b (ms.getD j default) = true then 1 else 0) := by
  have e : ms.getD j default = ms[j] := by simp [h]
  rw [e]
  unfold cnt
  rw [List.take_succ_eq_append_getElem h, List.filter_append, List.length_append]
  congr 1
  by_cases q : inR a b ms[j] = true
  · simp [q]
  · simp [q]
theorem cnt_le (ms : List Pr) (a b : Int) (j : Nat) : cnt ms a b j ≤ ms.length := by
  unfold cnt
  have h1 := List.length_filter_le (inR a b) (ms.take j)
  have h2 : (ms.take j).length ≤ ms.length := by rw [List.length_take]; omega
  omega
theorem rg_eq (ms : List Pr) (a b nn : Int) : rgK ms a b nn = ((ms.filter (inR a b)).map Pr.k).take nn.toNat := by
  unfold rgK nbl; rw [List.filter_filter]; rfl
theorem rg_len (ms : List Pr) (a b nn : Int) : (rgK ms a b nn).length = min nn.toNat (cnt ms a b ms.length) := by
  rw [rg_eq, List.length_take, List.length_map]; unfold cnt; rw [List.take_length]
theorem rg_at {ms : List Pr} (h : Str ms) {a b nn : Int} {i : Nat} (hi : i < (rgK ms a b nn).length) : gtH ms ((rgK ms a b nn).getD i 0) = true ∧ a ≤ (rgK ms a b nn).getD i 0 ∧ (rgK ms a b nn).getD i 0 ≤ b := by
  have e : (rgK ms a b nn).getD i 0 = (rgK ms a b nn)[i] := by simp [hi]
  rw [e]
  have hm := List.getElem_mem hi
  generalize (rgK ms a b nn)[i] = y at hm
  rw [rg_eq] at hm
  obtain ⟨p, hp, rfl⟩ := List.mem_map.1 (List.mem_of_mem_take hm)
  obtain ⟨h1, h2⟩ := List.mem_filter.1 hp
  simp [inR] at h2
  exact ⟨gtH_mem h h1, h2.2, h2.1⟩
theorem rg_rise {ms : List Pr} (h : Str ms) {a b nn : Int} {i : Nat} (hi : i + 1 < (rgK ms a b nn).length) : (rgK ms a b nn).getD i 0 < (rgK ms a b nn).getD (i + 1) 0 := by
  have e1 : (rgK ms a b nn).getD i 0 = (rgK ms a b nn)[i] := by have : i < (rgK ms a b nn).length := by omega
                                                                simp [this]
  have e2 : (rgK ms a b nn).getD (i + 1) 0 = (rgK ms a b nn)[i + 1] := by simp [hi]
  rw [e1, e2]
  have hp : (rgK ms a b nn).Pairwise (· < ·) := by
    rw [rg_eq]
    refine List.Pairwise.sublist (List.take_sublist _ _) ?_
    rw [List.pairwise_map]
    exact List.Pairwise.filter _ h
  exact List.pairwise_iff_getElem.1 hp i (i + 1) (by omega) hi (by omega)
set_option maxRecDepth 100000 in
set_option maxHeartbeats 4000000 in
theorem seqRanges_walk (w : World) (ao : Option Addr) (es : List Pr) (cap : Nat) (x : OpQ) (hs : SlP w ao es) (hg : ∀ x ∈ es, x.k ≤ 18446744073709551615) (_hc : ao = none → cap = 0) :
    Calls Try.prog 8 #[.slice ao es.length cap, .agg #[.int .i64 x.d, .int .u64 x.k, .int .u64 x.v, .int .i64 x.n, .int .i64 x.t]] w fun e w' => e = .returned (.bool true) ∧ Kept [] w w' := by
  obtain ⟨n, hn⟩ : ∃ n, n = es.length := ⟨_, rfl⟩
  rw [← hn]
  have HN : Hid (n = es.length) := hn
  have HG : Hid (∀ x ∈ es, x.k ≤ 18446744073709551615) := hg
  have HS : Hid (SlP w ao es) := hs
  clear hn hg hs
  have K0 : Kept [] w (w.alloc (.cells #[.int .i64 x.d, .int .u64 x.k, .int .u64 x.v, .int .i64 x.n, .int .i64 x.t] 38)) := (Kept.refl _ _).alloc _
  have Z9 := blk_alloc_new w (.cells #[.int .i64 x.d, .int .u64 x.k, .int .u64 x.v, .int .i64 x.n, .int .i64 x.t] 38)
  by_cases c : n ≤ 100
  · have c1 : ¬ (100 : Int) < (n : Int) := by omega
    have LM := mapOf_len es
    rw [← HN.out] at LM
    obtain ⟨ms, hms⟩ : ∃ ms, ms = mapOf es := ⟨_, rfl⟩
    rw [← hms] at LM
    have EM : Hid (mapOf es = ms) := hms.symm
    have GM : Hid (Str ms ∧ Wd ms) := by rw [hms]; exact ⟨mapOf_str es, mapOf_wd HG.out⟩
    clear hms
    obtain ⟨ks, hks⟩ : ∃ ks, rgK ms x.k x.v x.n = ks := ⟨_, rfl⟩
    have EK : Hid (doK ms ⟨5, x.k, x.v, x.n, x.t⟩ = ks) := hks
    have LE : Hid (ks.length = min x.n.toNat (cnt ms x.k x.v ms.length)) := by rw [← hks]; exact rg_len _ _ _ _
    have AT : Hid (∀ i, i < ks.length → gtH ms (ks.getD i 0) = true ∧ x.k ≤ ks.getD i 0 ∧ ks.getD i 0 ≤ x.v) := by rw [← hks]; exact fun i hi => rg_at GM.out.1 hi
    have RI : Hid (∀ i, i + 1 < ks.length → ks.getD i 0 < ks.getD (i + 1) 0) := by rw [← hks]; exact fun i hi => rg_rise GM.out.1 hi
    have LKR : ks.length ≤ 1000 := by have h1 := LE.out; have h2 := cnt_le ms x.k x.v ms.length; omega
    clear hks
    go_enter Try.func8, Try.ntmps8
    go_upto_region 3 with (fail)
    obtain ⟨H, hH⟩ : ∃ H, H = w.heap.size := ⟨_, rfl⟩
    rw [← hH] at Z9 ⊢
    refine gen_world (fun W => W.heap[H]? = some (.cells #[.int .i64 x.d, .int .u64 x.k, .int .u64 x.v, .int .i64 x.n, .int .i64 x.t] 38 (0, 0)) ∧ Kept [] w W) ⟨Z9, K0⟩ ?_
    clear Z9 K0
    have HH : Hid (w.heap.size ≤ H) := by show _ ≤ _; omega
    clear hH
    rintro W9 ⟨Z9, K9⟩
    have x0 := cell_of_blk Z9 (i := 0) rfl
    have fr := free_of_blk Z9 0
    go_upto_region 4 with (fail)
    refine gen_world (fun W => W.heap[H]? = some (.cells #[.int .i64 5, .int .u64 x.k, .int .u64 x.v, .int .i64 x.n, .int .i64 x.t] 38 (0, 0)) ∧ Kept [] w W) ⟨blk_set Z9 0 _, K9.setCell (p := ⟨H, 0, none⟩) (Or.inr HH.out) _⟩ ?_
    clear Z9 K9 x0 fr W9 HH
    rintro W8 ⟨Z9, KH⟩
    go_wp2_with fail
    refine (news_any ao es n cap _ HN.out (HS.out.new KH) (by omega)).mono ?_
    rintro o w1 ⟨nb, nc, rfl, M1, K1⟩
    go_wp2_with fail
    refine (of_any nb es n nc w1 M1.1 M1.2.1 M1.2.2.2 (by omega)).mono ?_
    rintro o w2 ⟨mo, mm, mc, rfl, M2, K2⟩
    rw [EM.out] at M2
    have T2 := (KH.trans K1).trans K2
    have P2 := K1.trans K2
    clear K1 K2 M1 KH
    have hmm : mm ≤ 100 := by have := M2.1; omega
    have Z0 := blk_alloc_new w2 (.cells #[.slice mo mm mc] 26)
    have KA : Kept [] w2 (w2.alloc (.cells #[.slice mo mm mc] 26)) := (Kept.refl _ _).alloc _
    go_upto_region 5 with (fail)
    obtain ⟨B, hB⟩ : ∃ B, B = w2.heap.size := ⟨_, rfl⟩
    rw [← hB] at Z0 ⊢
    refine gen_world (fun W => W.heap[B]? = some (.cells #[.slice mo mm mc] 26 (0, 0)) ∧ W.heap[H]? = some (.cells #[.int .i64 5, .int .u64 x.k, .int .u64 x.v, .int .i64 x.n, .int .i64 x.t] 38 (0, 0)) ∧ Hid (Q.Good W mo mm mc ms) ∧ Kept [] w W) ⟨Z0, (P2.trans KA).blk Z9 (by simp), ⟨M2.new KA, GM.out.1, GM.out.2, by omega⟩, T2.trans KA⟩ ?_
    clear Z0 KA T2 P2 M2 hB Z9 W8
    rintro W ⟨Z, Z9, M, T⟩
    have x0 := cell_of_blk Z9 (i := 0) rfl
    have x1 := cell_of_blk Z9 (i := 1) rfl
    have x2 := cell_of_blk Z9 (i := 2) rfl
    have x3 := cell_of_blk Z9 (i := 3) rfl
    have x4 := cell_of_blk Z9 (i := 4) rfl
    have q := cell_of_blk Z (i := 0) rfl
    have cd := do_at mo ms mm mc 5 x.k x.v x.n x.t W M.out.1 M.out.2.1 M.out.2.2.1 M.out.2.2.2 ms false 0 ks rfl rfl rfl EK.out
    go_wp2_with fail
    refine cd.mono ?_
    clear cd q x0 x1 x2 x3 x4
    rintro e wR ⟨bR, mR, dR, kR, nR, rR, rfl, QQ, KQ⟩
    have lk : (ks : List Int).length ≤ 1000 := LKR
    have KB : Kept [] wR ((wR.alloc (.cells #[.slice bR mR dR] 26)).alloc (.cells #[.bool false, .bool false, .int .u64 0, .slice kR nR rR] 41)) := ((Kept.refl _ _).alloc _).alloc _
    go_upto_region 6 with (fail)
    obtain ⟨R, hR⟩ : ∃ R, R = wR.heap.size + 1 := ⟨_, rfl⟩
    rw [← hR]
    have yy : ((wR.alloc (.cells #[.slice bR mR dR] 26)).alloc (.cells #[.bool false, .bool false, .int .u64 0, .slice kR nR rR] 41)).heap[R]? = some (.cells #[.bool false, .bool false, .int .u64 0, .slice kR nR rR] 41 (0, 0)) := by have := blk_alloc_new (wR.alloc (.cells #[.slice bR mR dR] 26)) (.cells #[.bool false, .bool false, .int .u64 0, .slice kR nR rR] 41); rw [nblk_alloc, ← hR] at this; exact this
    refine gen_world (fun X => X.heap[B]? = some (.cells #[.slice mo mm mc] 26 (0, 0)) ∧ X.heap[H]? = some (.cells #[.int .i64 5, .int .u64 x.k, .int .u64 x.v, .int .i64 x.n, .int .i64 x.t] 38 (0, 0)) ∧ X.heap[R]? = some (.cells #[.bool false, .bool false, .int .u64 0, .slice kR nR rR] 41 (0, 0)) ∧ Hid (Q.Good X mo mm mc ms) ∧ Hid (AnsP X kR nR ks) ∧ Kept [] w X) ⟨box_alloc (box_alloc (KQ.blk Z (by simp)) _) _, box_alloc (box_alloc (KQ.blk Z9 (by simp)) _) _, yy, M.out.new (KQ.trans KB), ⟨QQ.out.2.1, QQ.out.2.2.new KB, by have := QQ.out.2.1; have := lk; omega⟩, (T.trans KQ).trans KB⟩ ?_
    clear Z M T QQ KQ KB yy hR lk Z9
    clear W
    rintro W ⟨Z, Z9, yR, M, SR, T⟩
    have r3 := cell_of_blk yR (i := 3) rfl
    have nle : nR ≤ 1000 := SR.out.2.2
    go_wp2
    clear r3
    go_loopw [32] (fun i wr => ∃ k : Nat, k ≤ nR ∧ i = .int .i64 k ∧ Kept [] W wr) (fun i _ => nR - (intOf i).toNat)
    case atStart => exact ⟨0, Nat.zero_le _, rfl, Kept.refl _ _⟩
    case round =>
      obtain ⟨k, hk, rfl, K⟩ := hrel
      by_cases hlt : k < nR
      · have hkx : k < ks.length := by have := SR.out.1; omega
        obtain ⟨b1, f1, rfl, -, c0⟩ := (SR.out.2.1.new K).cell (i := k) hkx
        have A0 := AT.out k hkx
        by_cases hk0 : k = 0
        · subst hk0
          rw [Nat.add_zero] at c0
          generalize ks.getD 0 0 = y at A0 c0
          have A1 : Hid (gtH ms y = true) := A0.1
          have l1 : ¬ y < x.k := by omega
          have l2 : ¬ x.v < y := by omega
          clear A0
          have q := cell_of_blk (K.blk Z (by simp)) (i := 0) rfl
          have gx := getx_any mo ms mm mc y wr (M.out.1.new K) M.out.2.1 M.out.2.2.1 M.out.2.2.2
          rw [A1.out] at gx
          generalize gtV ms y = gv at gx
          go_wp2_with fail
          refine gx.mono ?_
          clear gx q
          rintro e w3 ⟨rfl, K3⟩
          have KB : Kept [] w3 ((w3.alloc (.cells #[.slice mo mm mc] 26)).alloc (.cells #[.bool false, .bool true, .int .u64 gv, .slice none 0 0] 41)) := ((Kept.refl _ _).alloc _).alloc _
          have yy := blk_alloc_new (w3.alloc (.cells #[.slice mo mm mc] 26)) (.cells #[.bool false, .bool true, .int .u64 gv, .slice none 0 0] 41)
          rw [nblk_alloc] at yy
          go_upto_region 10 with (fail)
          obtain ⟨G, hG⟩ : ∃ G, G = w3.heap.size + 1 := ⟨_, rfl⟩
          rw [← hG] at yy ⊢
          refine gen_world (fun X => X.heap[G]? = some (.cells #[.bool false, .bool true, .int .u64 gv, .slice none 0 0] 41 (0, 0)) ∧ Kept [] W X) ⟨yy, (K.trans K3).trans KB⟩ ?_
          clear yy K3 KB hG K
          rintro X ⟨yG, K⟩
          have g1 := cell_of_blk yG (i := 1) rfl
          have Z9X := K.blk Z9 (by simp)
          have o1 := cell_of_blk Z9X (i := 1) rfl
          have o2 := cell_of_blk Z9X (i := 2) rfl
          have r3 := cell_of_blk (K.blk yR (by simp)) (i := 3) rfl
          clear yG Z9X
          go_wp2
          go_roundw
          case rel => exact ⟨0 + 1, by omega, by go_num, K⟩
          case measure => simp [intOf]; omega
        · obtain ⟨k', rfl⟩ : ∃ k', k = k' + 1 := ⟨k - 1, by omega⟩
          have c9 := RI.out k' hkx
          obtain ⟨b2, f2, e2, -, d0⟩ := (SR.out.2.1.new (Kept.refl _ _)).cell (i := k') (by omega)
          cases e2
          generalize ks.getD (k' + 1) 0 = y at A0 c0 c9
          generalize ks.getD k' 0 = z at d0 c9
          have A1 : Hid (gtH ms y = true) := A0.1
          have l1 : ¬ y < x.k := by omega
          have l2 : ¬ x.v < y := by omega
          have l3 : ¬ y ≤ z := by omega
          clear A0 c9
          have q := cell_of_blk (K.blk Z (by simp)) (i := 0) rfl
          have gx := getx_any mo ms mm mc y wr (M.out.1.new K) M.out.2.1 M.out.2.2.1 M.out.2.2.2
          rw [A1.out] at gx
          generalize gtV ms y = gv at gx
          go_wp2_with fail
          refine gx.mono ?_
          clear gx q
          rintro e w3 ⟨rfl, K3⟩
          have KB : Kept [] w3 ((w3.alloc (.cells #[.slice mo mm mc] 26)).alloc (.cells #[.bool false, .bool true, .int .u64 gv, .slice none 0 0] 41)) := ((Kept.refl _ _).alloc _).alloc _
          have yy := blk_alloc_new (w3.alloc (.cells #[.slice mo mm mc] 26)) (.cells #[.bool false, .bool true, .int .u64 gv, .slice none 0 0] 41)
          rw [nblk_alloc] at yy
          go_upto_region 10 with (fail)
          obtain ⟨G, hG⟩ : ∃ G, G = w3.heap.size + 1 := ⟨_, rfl⟩
          rw [← hG] at yy ⊢
          refine gen_world (fun X => X.heap[G]? = some (.cells #[.bool false, .bool true, .int .u64 gv, .slice none 0 0] 41 (0, 0)) ∧ Kept [] W X) ⟨yy, (K.trans K3).trans KB⟩ ?_
          clear yy K3 KB hG K
          rintro X ⟨yG, K⟩
          have g1 := cell_of_blk yG (i := 1) rfl
          have Z9X := K.blk Z9 (by simp)
          have o1 := cell_of_blk Z9X (i := 1) rfl
          have o2 := cell_of_blk Z9X (i := 2) rfl
          have r3 := cell_of_blk (K.blk yR (by simp)) (i := 3) rfl
          clear yG Z9X
          have dX : X.cell? ⟨b1, f1 + k', none⟩ = some (.int .u64 z) := KW.cell d0 ⟨X, K⟩
          go_wp2
          go_roundw
          case rel => exact ⟨k' + 1 + 1, by omega, by go_num, K⟩
          case measure => simp [intOf]; omega
      · have hmm' : mm ≤ 1000 := by omega
        have q := cell_of_blk (K.blk Z (by simp)) (i := 0) rfl
        go_wp2_with fail
        refine (pairs_any mo ms mm mc wr (M.out.1.new K) hmm').mono ?_
        clear q
        rintro e w3 ⟨pb, pc, rfl, M3, K3⟩
        have S3 := K.trans K3
        have N3 : Hid (SlP w3 pb ms) := M3.2.1
        have LM2 : Hid (mm = ms.length) := M.out.1.1
        clear K K3 M3
        go_wp2
        go_loopw [12, 77] (fun c i W2 => ∃ j : Nat, j ≤ mm ∧ i = .int .i64 j ∧ c = .int .i64 (cnt ms x.k x.v j) ∧ Kept [] w3 W2) (fun _ i _ => mm - (intOf i).toNat)
        case atStart => exact ⟨0, Nat.zero_le _, rfl, by rw [cnt_zero]; rfl, Kept.refl _ _⟩
        case round =>
          obtain ⟨j, hj, rfl, rfl, K5⟩ := hrel
          by_cases hlt2 : j < mm
          · have hjx : j < ms.length := by have := LM2.out; omega
            obtain ⟨b1, f1, rfl, -, p0, p1⟩ := SlP.row (N3.out.new K5) hjx
            have CN : Hid _ := cnt_next x.k x.v hjx
            have cl := cnt_le ms x.k x.v j
            have cl2 : cnt ms x.k x.v j ≤ 1000 := by omega
            clear cl
            generalize ms.getD j default = p at p0 p1 CN
            have KB : Kept [] wr (wr.alloc (.cells #[.int .u64 p.k, .int .u64 p.v] 52)) := (Kept.refl _ _).alloc _
            have yy := blk_alloc_new wr (.cells #[.int .u64 p.k, .int .u64 p.v] 52)
            go_upto_region 17 with (fail)
            obtain ⟨P, hP⟩ : ∃ P, P = wr.heap.size := ⟨_, rfl⟩
            rw [← hP] at yy ⊢
            refine gen_world (fun X => X.heap[P]? = some (.cells #[.int .u64 p.k, .int .u64 p.v] 52 (0, 0)) ∧ Kept [] w3 X) ⟨yy, K5.trans KB⟩ ?_
            clear yy KB hP K5 p0 p1
            rintro X ⟨yP, K5⟩
            have Z9X := (S3.trans K5).blk Z9 (by simp)
            have o1 := cell_of_blk Z9X (i := 1) rfl
            have o2 := cell_of_blk Z9X (i := 2) rfl
            have p0 := cell_of_blk yP (i := 0) rfl
            clear Z9X yP
            by_cases a1 : x.k ≤ p.k
            · by_cases a2 : p.k ≤ x.v
              · have e : Hid (cnt ms x.k x.v (j + 1) = cnt ms x.k x.v j + 1) := by show _ = _; rw [CN.out, if_pos (by simp [inR, a1, a2])]
                clear CN
                go_wp2
                go_roundw
                case rel => exact ⟨j + 1, by omega, by go_num, by rw [e.out]; go_num, K5⟩
                case measure => simp [intOf]; omega
              · have e : Hid (cnt ms x.k x.v (j + 1) = cnt ms x.k x.v j) := by show _ = _; rw [CN.out, if_neg (by simp [inR, a1, a2])]; rfl
                clear CN
                go_wp2
                go_roundw
                case rel => exact ⟨j + 1, by omega, by go_num, by rw [e.out], K5⟩
                case measure => simp [intOf]; omega
            · have e : Hid (cnt ms x.k x.v (j + 1) = cnt ms x.k x.v j) := by show _ = _; rw [CN.out, if_neg (by simp [inR, a1])]; rfl
              clear CN
              go_wp2
              go_roundw
              case rel => exact ⟨j + 1, by omega, by go_num, by rw [e.out], K5⟩
              case measure => simp [intOf]; omega
          · have ej : j = ms.length := by have := LM2.out; omega
            have L1 := LE.out
            rw [← ej] at L1
            have L2 := SR.out.1
            have cl := cnt_le ms x.k x.v j
            generalize cnt ms x.k x.v j = cf at L1 cl ⊢
            have hr : Hid (nR = min x.n.toNat cf) := L2.trans L1
            clear L1 L2 ej
            go_wp2_with fail
            refine (alive_any _).mono ?_
            rintro e w5 ⟨rfl, K6⟩
            have S6 := (S3.trans K5).trans K6
            have yX := S6.blk yR (by simp)
            have r1 := cell_of_blk yX (i := 1) rfl
            have r2 := cell_of_blk yX (i := 2) rfl
            have r3 := cell_of_blk yX (i := 3) rfl
            have o3 := cell_of_blk (S6.blk Z9 (by simp)) (i := 3) rfl
            clear yX
            by_cases d1 : x.n < (cf : Int)
            · by_cases d2 : 0 < x.n
              · have f1 : (nR : Int) = x.n := by have := hr.out; omega
                go_wp2
                go_ret
                exact ⟨rfl, T.trans S6⟩
              · have f1 : nR = 0 := by have := hr.out; omega
                subst f1
                go_wp2
                go_ret
                exact ⟨rfl, T.trans S6⟩
            · have f1 : nR = cf := by have := hr.out; omega
              subst f1
              by_cases d2 : (0 : Int) < (nR : Int)
              · go_wp2
                go_ret
                exact ⟨rfl, T.trans S6⟩
              · have f2 : nR = 0 := by omega
                clear d2
                subst f2
                go_wp2
                go_ret
                exact ⟨rfl, T.trans S6⟩
  · have c1 : (100 : Int) < (n : Int) := by omega
    go_enter Try.func8, Try.ntmps8
    go_wp2_with fail
    refine (alive_any _).mono ?_
    rintro o w1 ⟨rfl, K1⟩
    go_wp2
    go_ret
    exact ⟨rfl, K0.trans K1⟩

theorem seqRanges_own : ownKnob Try.prog.godebug = none := by kernel_rfl
theorem seqRanges_laidOut : laidOutB Try.prog = true := by kernel_rfl
set_option maxRecDepth 100000 in
theorem seqRanges_lifted (os : Os) (started : os.Started) (H : Type) (enc : TypeId × Value → H) :
    ReturnsInHanded {} Try.checked os 8 .any (Rows.seqRangesSpec.pre6 enc Try.prog Try.f8 Rows.seqRangesRow.domain false) (Rows.seqRangesSpec.post enc Try.prog Try.f8 false true false false) := by
  refine returnsInHanded_of_change_sized (C := Try.checked) seqRanges_own started (by kernel_rfl) Try.func8
    (ChangeSpec.witness6 (enc := enc) (C := Try.checked) false ⟨#[], #[.slice none 0 0, .agg #[.int .i64 0, .int .u64 0, .int .u64 0, .int .i64 0, .int .i64 0]], []⟩ 8 (by kernel_rfl) (by kernel_rfl) (by kernel_rfl) (by kernel_rfl)) ?_
  intro W base args ds gs before hval0 hW _ hsz0 _
  have hsz : (DataW.weightsEach Try.prog (Try.f8.params.toList ++ Rows.seqRangesSpec.plain.varTypes Try.prog) (ds ++ gs)).all (· ≤ reachBytes) = true := hsz0
  clear hsz0
  have hval : ∀ (j : Nat) t v, Try.f8.params[j]? = some t → args[j]? = some v → Value.okWide Try.prog W .any base t v := hval0
  have hW' := hW
  obtain ⟨p, q, hA0, hV, rfl, _, _⟩ := hW
  have hA : DataW.TrodAll enc Try.prog W 0 (fun _ => true) true Try.f8.params.toList args.toList ds p := hA0
  rw [Try.params8] at hA hval hsz
  clear hA0 hval0
  obtain ⟨v0, vs0, d0, ds0, p0, q0, hargs, rfl, rfl, h0, r0⟩ := trodAll_cons hA
  obtain ⟨v1, vs1, d1, ds1, p1, q1, rfl, rfl, rfl, h1, r1⟩ := trodAll_cons r0
  obtain ⟨rfl, rfl, rfl⟩ := trodAll_nil r1
  obtain rfl : args = #[v0, v1] := by cases args; simp_all
  obtain ⟨rfl, rfl⟩ := trodVars_none hV
  have k0 := h0
  have k1 := h1
  simp only [List.append_nil] at hW'
  have hlt0 : ∀ x ∈ p0, x.block < W.heap.size := fun x hx => hW'.lt x (by simp [hx])
  have hlt1 : ∀ x ∈ p1, x.block < W.heap.size := fun x hx => hW'.lt x (by simp [hx])
  obtain ⟨ao0, cap0, es0, rfl, s0, g0, c0⟩ := Q.open_pairs (hval 0 22 v0 rfl rfl) h0
  obtain ⟨o1, rfl⟩ := Q.open_op (hval 1 38 v1 rfl rfl) h1
  refine (seqRanges_walk W ao0 es0 cap0 o1 s0 g0 c0).mono fun e W' ⟨he, hg⟩ => ?_
  subst he
  have hb := hg.below (by simp)
  exact ⟨_, rfl, _, _, _, [], _, [], hW', (trodAll_cons_mk (shut_bool Try.underlying4 _) trodAll_mk0), (trodAll_cons_mk (Below.trod seqRanges_laidOut (by kernel_rfl) (of_decide_eq_true (by kernel_rfl)) k0 hb hlt0) (trodAll_cons_mk (Below.trod seqRanges_laidOut (by kernel_rfl) (of_decide_eq_true (by kernel_rfl)) k1 hb hlt1) trodAll_mk0)), rfl, hb.frame _, fun h => by cases h⟩

theorem seqRanges_holds : Rows.SeqRangesSaid :=
  OpenClaim.holds_of_wide 8 Try.f8 rfl rfl rfl rfl rfl rfl rfl ⟨rfl, rfl, rfl, rfl, rfl⟩ rfl rfl rfl rfl rfl (by kernel_rfl) Try.func8 (by kernel_rfl)
    (of_decide_eq_true (by kernel_rfl)) (by unfold Func.isWrapper; first | (rw [if_pos (by decide +kernel)]; kernel_rfl) | (rw [if_neg (by decide +kernel)]; exact ⟨rfl, rfl⟩))
    (fun os started H enc _ => seqRanges_lifted os started H enc)
#print axioms seqRanges_holds
end Go.Proofs.Ytapbkonfjieadaa
