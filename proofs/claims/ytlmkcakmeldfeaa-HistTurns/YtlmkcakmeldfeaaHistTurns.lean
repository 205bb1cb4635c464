/-
  The statement HistTurns: ops one behind the other, with what the map tells, are legal, and with another answer they are not.
  Conditions: none.
-/
import Derived.Test.YtlmkcakmeldfeaaHAlive
import Derived.Test.YtlmkcakmeldfeaaHTurnS
import Derived.Test.YtlmkcakmeldfeaaHRLegal
import Derived.Test.YtlmkcakmeldfeaaHRanges
import Derived.ProofKit
import Derived.SizedLaws
import Derived.Carry
namespace Go.Proofs.Ytlmkcakmeldfeaa
open Go.ChangeShapes Go.WideShapes Go.ChangeAt Go.RowKit
open Go.Deep

open Q
set_option maxRecDepth 100000 in
set_option maxHeartbeats 8000000 in
theorem histTurns_walk (w : World) (ao : Option Addr) (es : List OpQ) (cap : Nat) (t : Int) (_ht : (Lit.int .i64 t).wf = true) (hs : SlOf 5 oC w ao es) (hg : ∀ x ∈ es, (Lit.int .u64 x.k).wf = true) :
    Calls Try.prog 8 #[.slice ao es.length cap, .int .i64 t] w fun o w' => o = .returned (.bool true) ∧ Kept [] w w' := by
  obtain ⟨n, hn⟩ : ∃ n, n = es.length := ⟨_, rfl⟩
  rw [← hn]
  have HN : Hid (n = es.length) := hn
  have HG : Hid (∀ x ∈ es, (Lit.int .u64 x.k).wf = true) := hg
  have HS : Hid (SlOf 5 oC w ao es) := hs
  clear hn hg hs _ht
  by_cases c : n ≤ 30
  · have c1 : ¬ (30 : Int) < (n : Int) := by omega
    have Z0 := blk_alloc_new w (.cells #[.slice none 0 0] 35)
    have K0 : Kept [] w (w.alloc (.cells #[.slice none 0 0] 35)) := (Kept.refl _ _).alloc _
    have hU : (w.alloc (.cells #[.slice none 0 0] 35)).heap.size = w.heap.size + 1 := nblk_alloc _ _
    go_enter Try.func8, Try.ntmps8
    go_wp2
    obtain ⟨H, hH⟩ : ∃ H, H = w.heap.size := ⟨_, rfl⟩
    rw [← hH] at Z0 hU ⊢
    have HH : Hid (H = w.heap.size) := hH
    refine gen_world (fun U => U.heap[H]? = some (.cells #[.slice none 0 0] 35 (0, 0)) ∧ Hid (H + 1 ≤ U.heap.size) ∧ Kept [] w U) ⟨Z0, by show _ ≤ _; omega, K0⟩ ?_
    clear Z0 K0 hU hH
    rintro U ⟨Z0, hU, K0⟩
    go_loopw [6, 17] (fun v i wr => ∃ (k : Nat) (evs : List Ev) (mo : Option Addr) (mn mc : Nat), k ≤ n ∧ i = .int .i64 k ∧ wr.heap[H]? = some (.cells #[.slice mo mn mc] 35 (0, 0)) ∧ Hid (TS es (H + 1) wr v k evs mo mn mc) ∧ Hid (H + 1 ≤ wr.heap.size) ∧ Kept [] w wr) (fun _ i _ => n - (intOf i).toNat)
    case atStart => exact ⟨0, [], none, 0, 0, Nat.zero_le _, rfl, Z0, TS.zero _ _ _, hU, K0⟩
    case round =>
      clear Z0 hU K0
      obtain ⟨k, evs, mo, mn, mc, hk, rfl, Z, T, hU, K⟩ := hrel
      have hmn : mn ≤ 1000 := by have h1 := T.out.map.1; have h2 := mT_len (ops := es) k; omega
      by_cases hlt : k < n
      · have hkx : k < es.length := by have := HN.out; omega
        have SO : SlOf 5 oC wr ao es := HS.out.new K
        obtain ⟨b1, o1, rfl, -, x0, x1, x2, x3, x4⟩ := ops_row SO hkx
        clear SO
        have EX : Hid (mT es (k + 1) = doM (mT es k) (es.getD k opZ)) := mT_succ hkx
        have HX : Hid (∀ e : Ev, e.op = es.getD k opZ → e.bg = 3 * (k : Int) + 1 → e.at_ = 3 * (k : Int) + 2 → e.en = 3 * (k : Int) + 3 → e.dn = true → e.fu = false → e.ha = doH (mT es k) (es.getD k opZ) → e.go = doG (mT es k) (es.getD k opZ) → e.ks = doK (mT es k) (es.getD k opZ) → TrE es k e) := fun e a1 a2 a3 a4 a5 a6 a7 a8 a9 => ⟨a1, a2, a3, a4, a5, a6, a7, a8, a9⟩
        rw [show es.getD k default = es.getD k opZ from rfl] at x0 x1 x2 x3 x4
        generalize es.getD k opZ = x at x0 x1 x2 x3 x4 EX HX
        have KA : Kept [] wr (wr.alloc (.cells #[.int .i64 x.d, .int .u64 x.k, .int .u64 x.v, .int .i64 x.n, .int .i64 x.t] 43)) := (Kept.refl _ _).alloc _
        have ZO := blk_alloc_new wr (.cells #[.int .i64 x.d, .int .u64 x.k, .int .u64 x.v, .int .i64 x.n, .int .i64 x.t] 43)
        have hHlt : H < wr.heap.size := lt_of_blk Z
        go_upto_region 8 with (fail)
        obtain ⟨O, hO⟩ : ∃ O, O = wr.heap.size := ⟨_, rfl⟩
        rw [← hO] at ZO ⊢
        refine gen_world (fun W => W.heap[H]? = some (.cells #[.slice mo mn mc] 35 (0, 0)) ∧ W.heap[O]? = some (.cells #[.int .i64 x.d, .int .u64 x.k, .int .u64 x.v, .int .i64 x.n, .int .i64 x.t] 43 (0, 0)) ∧ Hid (TS es (H + 1) W u6 k evs mo mn mc) ∧ Hid (H + 1 ≤ W.heap.size) ∧ Kept [] w W) ⟨KA.blk Z (by simp), ZO, T.out.new KA, Nat.le_trans hU.out KA.size, K.trans KA⟩ ?_
        have HLO : Hid (H < O) := by rw [hO]; exact hHlt
        clear KA ZO Z K x0 x1 x2 x3 x4 hO T hU hHlt
        rintro W ⟨Z, ZO, T, hU, K⟩
        have hd := do_l mo (mT es k) mn mc x W T.out.map (mT_str k) (mT_wd HG.out k) hmn
        have q := cell_of_blk Z (i := 0) rfl
        have x0 := cell_of_blk ZO (i := 0) rfl
        have x1 := cell_of_blk ZO (i := 1) rfl
        have x2 := cell_of_blk ZO (i := 2) rfl
        have x3 := cell_of_blk ZO (i := 3) rfl
        have x4 := cell_of_blk ZO (i := 4) rfl
        go_wp2_with fail
        refine hd.mono ?_
        clear hd q x0 x1 x2 x3 x4
        rintro o w1 ⟨b3, m3, c3, ka, na, ra, rfl, M1, ea, S1, A1, B1, K1⟩
        rw [← EX.out] at M1
        have TT : Hid (TM es (H + 1) w1 u6 k evs b3 m3 c3 ka (doK (mT es k) x)) := T.out.mid (Kept.refl _ _) M1 EX.out S1 A1 B1 K1
        generalize doH (mT es k) x = hA at HX
        generalize doG (mT es k) x = gA at HX
        generalize doK (mT es k) x = kA at HX TT ea
        have EA : Hid (na = kA.length) := ea
        clear ea M1 S1 A1 B1 EX T hmn
        have Z1 := K1.blk Z (by simp)
        have ZO1 := K1.blk ZO (by simp)
        have KB : Kept [] w1 ((w1.alloc (.cells #[.slice b3 m3 c3] 35)).alloc (.cells #[.bool false, .bool hA, .int .u64 gA, .slice ka na ra] 46)) := ((Kept.refl _ _).alloc _).alloc _
        have Zn := box_alloc (blk_alloc_new w1 (.cells #[.slice b3 m3 c3] 35)) (.cells #[.bool false, .bool hA, .int .u64 gA, .slice ka na ra] 46)
        have Za := blk_alloc_new (w1.alloc (.cells #[.slice b3 m3 c3] 35)) (.cells #[.bool false, .bool hA, .int .u64 gA, .slice ka na ra] 46)
        rw [nblk_alloc] at Za
        go_upto_region 9 with (fail)
        obtain ⟨N, hN⟩ : ∃ N, N = w1.heap.size := ⟨_, rfl⟩
        rw [← hN] at Zn Za ⊢
        refine gen_world (fun W2 => W2.heap[H]? = some (.cells #[.slice mo mn mc] 35 (0, 0)) ∧ W2.heap[O]? = some (.cells #[.int .i64 x.d, .int .u64 x.k, .int .u64 x.v, .int .i64 x.n, .int .i64 x.t] 43 (0, 0)) ∧ W2.heap[N]? = some (.cells #[.slice b3 m3 c3] 35 (0, 0)) ∧ W2.heap[N + 1]? = some (.cells #[.bool false, .bool hA, .int .u64 gA, .slice ka na ra] 46 (0, 0)) ∧ Hid (TM es (H + 1) W2 u6 k evs b3 m3 c3 ka kA) ∧ Hid (H + 1 ≤ W2.heap.size ∧ H < N ∧ H < O) ∧ Kept [] w W2) ⟨KB.blk Z1 (by simp), KB.blk ZO1 (by simp), Zn, Za, TT.out.new KB, ⟨Nat.le_trans hU.out (K1.trans KB).size, by rw [hN]; have := hU.out; have := K1.size; omega, HLO.out⟩, K.trans (K1.trans KB)⟩ ?_
        clear Z ZO K Z1 ZO1 K1 KB Zn Za hN TT hU
        rintro W2 ⟨Z, ZO, Zn, Za, TT, hU, K⟩
        have q := cell_of_blk Z (i := 0) rfl
        have f := free_of_blk Z 0
        have qn := cell_of_blk Zn (i := 0) rfl
        go_upto_region 10 with (fail)
        refine gen_world (fun V => V.heap[H]? = some (.cells #[.slice b3 m3 c3] 35 (0, 0)) ∧ V.heap[O]? = some (.cells #[.int .i64 x.d, .int .u64 x.k, .int .u64 x.v, .int .i64 x.n, .int .i64 x.t] 43 (0, 0)) ∧ V.heap[N + 1]? = some (.cells #[.bool false, .bool hA, .int .u64 gA, .slice ka na ra] 46 (0, 0)) ∧ Hid (TM es (H + 1) V u6 k evs b3 m3 c3 ka kA) ∧ Hid (H + 1 ≤ V.heap.size) ∧ Kept [] w V) ⟨blk_set Z 0 _, by rw [blk_setCell_other _ _ _ _ (by simp; have := hU.out; omega)]; exact ZO, by rw [blk_setCell_other _ _ _ _ (by simp; have := hU.out; omega)]; exact Za, TT.out.setMap Z (by omega) _, by show _ ≤ _; rw [nblk_setCell]; exact hU.out.1, K.setCell (p := ⟨H, 0, none⟩) (Or.inr (by have := HH.out; simp; omega)) _⟩ ?_
        clear Z ZO Zn Za TT hU K q f qn
        rintro V ⟨Z, ZO, Za, TT, hU, K⟩
        have hle : evs.length = k := TT.out.len
        obtain ⟨g, cp, w6, hap, O6, A6, K6⟩ := append_hev 27 V (H + 1) V.heap.size u6 evs ⟨0, x, 3 * (k : Int) + 1, 3 * (k : Int) + 2, 3 * (k : Int) + 3, true, false, hA, gA, ka, ra, kA⟩ rfl TT.out.own hU.out (by omega)
        rw [hle] at hap O6
        have NX : Hid (TS es (H + 1) w6 (.slice (some ⟨g, 0, none⟩) (k + 1) cp) (k + 1) (evs ++ [⟨0, x, 3 * (k : Int) + 1, 3 * (k : Int) + 2, 3 * (k : Int) + 3, true, false, hA, gA, ka, ra, kA⟩]) b3 m3 c3) := TT.out.step hkx (HX.out _ rfl rfl rfl rfl rfl rfl rfl rfl rfl) rfl rfl O6 A6 K6
        have Z6 : w6.heap[H]? = some (.cells #[.slice b3 m3 c3] 35 (0, 0)) := K6.blk Z (by intro hm; simp at hm; have := (TT.out.own.base H hm).1; omega)
        have U6 : Hid (H + 1 ≤ w6.heap.size) := Nat.le_trans hU.out K6.size
        have KN : Kept [] w w6 := K.then K6 (by intro z hz; right; simp at hz; have := (TT.out.own.base z hz).1; have := HH.out; omega)
        have hap' : (Builtin.append_ #[27, 27] 27 #[u6, .slice (some ⟨V.heap.size, 0, none⟩) 1 1]).run Try.prog (V.alloc (.cells #[.int .i64 0, .int .i64 x.d, .int .u64 x.k, .int .u64 x.v, .int .i64 x.n, .int .i64 x.t, .int .i64 (3 * (k : Int) + 1), .int .i64 (3 * (k : Int) + 2), .int .i64 (3 * (k : Int) + 3), .bool true, .bool false, .bool hA, .int .u64 gA, .slice ka na ra] 53)) = .ok (.slice (some ⟨g, 0, none⟩) (k + 1) cp) w6 := by
          rw [EA.out]; exact hap
        have y0 := cell_of_blk ZO (i := 0) rfl
        have y1 := cell_of_blk ZO (i := 1) rfl
        have y2 := cell_of_blk ZO (i := 2) rfl
        have y3 := cell_of_blk ZO (i := 3) rfl
        have y4 := cell_of_blk ZO (i := 4) rfl
        have z0 := cell_of_blk Za (i := 0) rfl
        have z1 := cell_of_blk Za (i := 1) rfl
        have z2 := cell_of_blk Za (i := 2) rfl
        have z3 := cell_of_blk Za (i := 3) rfl
        clear hap O6 A6 K6 Z ZO Za TT hU K HX EA hle
        go_wp2_with (at_builtin; refine wpList_append_run rfl (.tmp 29) (.tmp 42) 27 rfl rfl rfl hap' ?_)
        clear hap' y0 y1 y2 y3 y4 z0 z1 z2 z3
        exact ⟨⟨k + 1, _, b3, m3, c3, by omega, by go_num, Z6, NX, U6, KN⟩, by simp [intOf]; omega⟩
      · have TF : Hid (TS es (H + 1) wr u6 n evs mo mn mc) := (show k = n by omega) ▸ T.out
        obtain ⟨fo, fc, e6, SF, _, _, AF⟩ := TF.out.own.shape evL_len
        have hln : evs.length = n := TF.out.len
        rw [hln] at e6
        subst e6
        have HA : Hid (∀ ad, fo = some ad → H + 1 ≤ ad.block ∧ ad = ⟨ad.block, 0, none⟩ ∧ ∃ cur, wr.heap[ad.block]? = some (.cells cur 53 (0, 0))) := AF
        have KWF : Hid (KWf evs) := trn_kwf TF.out.trn HG.out
        have VF : Hid (Evs wr fo n evs) := ⟨hln.symm, SF, TF.out.keys, fun e he => word_le (KWF.out.op e he)⟩
        have KS : Hid (Ksl evs) := trn_ksl TF.out.trn (by have := HN.out; omega)
        have MF : Hid (MpV wr mo mn mc (mT es n)) := TF.out.map
        have HMN : Hid (mn = (mT es n).length) := TF.out.map.1
        have HLg : Hid (∀ W', Kept [] wr W' → Calls Try.prog 19 #[.slice fo n fc] W' fun o w' => o = .returned (.bool true) ∧ Kept [] wr w') := fun W' k' => by
          have h := legal_any fo evs n fc W' (VF.out.new k') (by omega) KS.out
          rw [lg_trn TF.out.trn] at h
          exact h.mono (fun o w' h => ⟨h.1, k'.trans h.2⟩)
        have HRg : Hid (∀ W', Kept [] wr W' → Calls Try.prog 21 #[.slice fo n fc] W' fun o w' => o = .returned (.bool true) ∧ Kept [] wr w') := fun W' k' => by
          have h := ranges_any fo evs n fc W' (VF.out.new k') (by omega) KS.out KWF.out
          rw [rg_trn TF.out.trn] at h
          exact h.mono (fun o w' h => ⟨h.1, k'.trans h.2⟩)
        have HMp : Hid (∀ W', Kept [] wr W' → Calls Try.prog 16 #[.slice fo n fc, .int .i64 (IntKind.i64.wrap (3 * (n : Int)))] W' fun o w' => ∃ a c', o = .returned (.agg #[.slice a mn c']) ∧ Hid (MpV w' a mn c' (mT es n)) ∧ Kept [] wr w') := fun W' k' => by
          rw [show IntKind.i64.wrap (3 * (n : Int)) = 3 * (n : Int) by simp [IntKind.wrap, IntKind.signed, IntKind.bits]; omega]
          refine (hmap_any fo evs n fc (3 * (n : Int)) W' (VF.out.new k') (by omega)).mono ?_
          rintro o w' ⟨a, m', c', rfl, M, K'⟩
          have e := map_end TF.out.trn (by rw [hln]; exact HN.out)
          rw [← show n = es.length from HN.out] at e
          rw [e] at M
          have em : m' = mn := M.1.trans HMN.out.symm
          subst em
          exact ⟨a, c', rfl, M, k'.trans K'⟩
        have HTR : Hid (Trn es evs) := TF.out.trn
        have HAK : Hid (∀ ad, fo = some ad → ∀ e ∈ evs, ∀ a, e.ka = some a → 0 < e.ks.length → a.block ≠ ad.block) := fun ad e x hx a => by
          obtain ⟨_, e2, _⟩ := HA.out ad e
          refine TF.out.apK ad.block ?_ x hx a
          rw [e, e2]; rfl
        clear TF T AF SF hln
        generalize mT es n = ps at MF HMN HMp
        have HPr : Hid (∀ W' a c', Kept [] wr W' → MpV W' a mn c' ps → Calls Try.prog 17 #[.agg #[.slice a mn c']] W' fun o w' => ∃ po pc, o = .returned (.slice po mn pc) ∧ Hid (SlP w' po ps) ∧ Kept [] W' w' ∧ Kept [] wr w') := fun W' a c' k' M => by
          refine (pairs_any a ps mn c' W' M hmn).mono ?_
          rintro o w' ⟨po, pc, rfl, M', K'⟩
          exact ⟨po, pc, rfl, M'.2.1, K', k'.trans K'⟩
        have HOl : Hid (∀ W' a c', Kept [] wr W' → SlP W' a ps → Calls Try.prog 15 #[.slice a mn c'] W' fun o w' => ∃ po pc, o = .returned (.slice po mn pc) ∧ Hid (SlP w' po ps) ∧ Kept [] W' w' ∧ Kept [] wr w') := fun W' a c' k' M => by
          refine (olds_any a ps mn c' W' HMN.out M hmn).mono ?_
          rintro o w' ⟨po, pc, rfl, M', K'⟩
          exact ⟨po, pc, rfl, M'.2.1, K', k'.trans K'⟩
        have HSC : Hid (∀ W' : World, Kept [] wr W' → W'.cell? ⟨H, 0, none⟩ = some (.slice mo mn mc) ∧ Kept [] wr W') := fun W' k' => ⟨cell_of_blk (k'.blk Z (by simp)) (i := 0) rfl, k'⟩
        go_upto_region 12 with (fail)
        clear Z
        go_region_held3 (fun W' => W'.cell? ⟨H, 0, none⟩ = some (.slice mo mn mc) ∧ Kept [] wr W')
          (first | exact HSC.out _ (by assumption) | exact HSC.out _ (Kept.refl _ _).drew)
          (first
            | (go_at_call 19; with_reducible refine (HLg.out _ (by first | assumption | exact (Kept.refl _ _).drew)).mono ?_; rintro o w4 ⟨rfl, K4⟩)
            | (go_at_call 21; with_reducible refine (HRg.out _ (by assumption)).mono ?_; rintro o w5 ⟨rfl, K5⟩)
            | (go_at_call 16; with_reducible refine (HMp.out _ (by assumption)).mono ?_; rintro o w6 ⟨a6, c6, rfl, M6, K6⟩)
            | (go_at_call 17; (with_reducible change Calls _ _ #[Value.agg #[Value.slice a6 _ _]] _ _); with_reducible refine (HPr.out _ a6 c6 (by assumption) M6.out).mono ?_; rintro o w7 ⟨b7, c7, rfl, S7, J7, K7⟩)
            | (go_at_call 15; (with_reducible change Calls _ _ #[Value.slice b7 _ _] _ _); with_reducible refine (HOl.out _ b7 c7 (by assumption) S7.out).mono ?_; rintro o w8 ⟨b8, c8, rfl, S8, J8, K8⟩)
            | (go_at_call 17; (with_reducible change Calls _ _ #[Value.agg #[Value.slice mo _ _]] _ _); with_reducible refine (HPr.out _ mo mc (by assumption) (MF.out.new (by assumption))).mono ?_; rintro o w9 ⟨b9, c9, rfl, S9, J9, K9⟩)
            | (go_at_call 15; (with_reducible change Calls _ _ #[Value.slice b9 _ _] _ _); with_reducible refine (HOl.out _ b9 c9 (by assumption) S9.out).mono ?_; rintro o w10 ⟨b10, c10, rfl, S10, J10, K10⟩)
            | (go_at_call 14; with_reducible refine (requal_any b8 b10 ps mn c8 c10 _ HMN.out (S8.out.new (J9.trans J10)) S10.out hmn).mono ?_; rintro o w11 ⟨rfl, K11⟩; have K12 : Kept [] wr w11 := K10.trans K11))
        all_goals
          have VG : Hid (Evs w11 fo n evs) := VF.out.new K12
          have KT : Kept [] w w11 := K.trans K12
          have HB : Hid (∀ ad, fo = some ad → H + 1 ≤ ad.block ∧ ad = ⟨ad.block, 0, none⟩ ∧ ∃ cur, w11.heap[ad.block]? = some (.cells cur 53 (0, 0))) := fun ad e => by
            obtain ⟨h1, h2, cur, h3⟩ := HA.out ad e
            exact ⟨h1, h2, cur, K12.blk h3 (by simp)⟩
          have SO : Hid (SlOf 5 oC w11 ao es) := HS.out.new KT
          clear HLg HRg HMp HPr HOl HSC HA VF K4 K5 K6 K7 K8 K9 K10 K11 K12 J7 J8 J9 J10 S7 S8 S9 S10 M6 MF HMN HS K
          by_cases c0 : t < 0
          · go_wp2_with (first | (go_at_call 10; refine (alive_any _).mono ?_; rintro o wz ⟨rfl, KZ⟩))
            go_ret
            exact ⟨rfl, KT.trans KZ⟩
          · by_cases c2 : (n : Int) ≤ t
            · go_wp2_with (first | (go_at_call 10; refine (alive_any _).mono ?_; rintro o wz ⟨rfl, KZ⟩))
              go_ret
              exact ⟨rfl, KT.trans KZ⟩
            · obtain ⟨j, hj⟩ : ∃ j : Nat, t = (j : Int) := ⟨t.toNat, by omega⟩
              subst hj
              have hjn : j < n := by omega
              have hje : j < evs.length := by have := VG.out.len; omega
              obtain ⟨b1, o1, rfl, -, x0, -, -, -, -⟩ := ops_row SO.out (k := j) (by have := HN.out; omega)
              rw [show es.getD j default = es.getD j opZ from rfl, ← (HTR.out.2 j hje).op] at x0
              by_cases hd : (evAt evs j).op.d = 5
              · rw [hd] at x0
                clear hje
                go_wp2_with (first | (go_at_call 10; refine (alive_any _).mono ?_; rintro o wz ⟨rfl, KZ⟩))
                go_ret
                exact ⟨rfl, KT.trans KZ⟩
              · obtain ⟨g, o, ef, -, r0⟩ := SlV.row VG.out.row hje
                subst ef
                obtain ⟨h1, -, cur, ZZ⟩ := HB.out _ rfl
                have c12 := rg12 r0
                have fr := free_of_blk ZZ (o + j * 14 + 12)
                have HR : Hid (irB (evAt evs j) = false) := by show _ = _; unfold irB; simpa using hd
                rw [show evs.getD j evZ = evAt evs j from rfl] at c12
                obtain ⟨dd, hdd⟩ : ∃ dd, (evAt evs j).op.d = dd := ⟨_, rfl⟩
                obtain ⟨gg, hgg⟩ : ∃ gg, (evAt evs j).go = gg := ⟨_, rfl⟩
                rw [hdd] at x0 hd
                rw [hgg] at c12
                have HGG : Hid ((evAt evs j).go = gg) := hgg
                have HZ : Hid (w11.heap[g]? = some (.cells cur 53 (0, 0))) := ZZ
                have HJE : Hid (j < evs.length) := hje
                have H1 : Hid (H + 1 ≤ g) := h1
                clear hdd hgg r0 ZZ hje h1
                have MAIN : Hid (∀ gv : Int, Evs (w11.setCell ⟨g, o + j * 14 + 12, none⟩ (.int .u64 gv)) (some ⟨g, o, none⟩) n (evs.set j { evAt evs j with go := gv }) ∧ Kept [] w (w11.setCell ⟨g, o + j * 14 + 12, none⟩ (.int .u64 gv))) := fun gv => by
                  have KG : Kept [g] w11 (w11.setCell ⟨g, o + j * 14 + 12, none⟩ (.int .u64 gv)) := (Kept.refl _ _).setCell (p := ⟨g, o + j * 14 + 12, none⟩) (Or.inl (by simp)) _
                  have asx : ∀ e ∈ evs.set j { evAt evs j with go := gv }, ∃ e0 ∈ evs, e.ka = e0.ka ∧ e.ks = e0.ks ∧ e.op = e0.op := fun e he => by
                    rcases List.mem_or_eq_of_mem_set he with q | q
                    · exact ⟨e, q, rfl, rfl, rfl⟩
                    · exact ⟨evAt evs j, evAt_mem HJE.out, by rw [q], by rw [q], by rw [q]⟩
                  refine ⟨⟨by rw [List.length_set]; exact VG.out.len, SlV.set_go VG.out.row HZ.out HJE.out gv, fun e he => ?_, fun e he => ?_⟩, KT.setCell (p := ⟨g, o + j * 14 + 12, none⟩) (Or.inr (by have := HH.out; have := H1.out; simp; omega)) _⟩
                  · obtain ⟨e0, h0, q1, q2, _⟩ := asx e he
                    rw [q1, q2]
                    exact sl_keptn (VG.out.keys e0 h0) KG (fun ad e1 l0 hm => HAK.out _ rfl e0 h0 ad e1 l0 (by simpa using hm))
                  · obtain ⟨e0, h0, _, _, q3⟩ := asx e he
                    rw [q3]; exact VG.out.wd e0 h0
                go_upto_region 17 with (fail)
                refine gen_world (fun V => ∃ gv : Int, Hid (gv ≠ gg ∧ Evs V (some ⟨g, o, none⟩) n (evs.set j { evAt evs j with go := gv })) ∧ Kept [] w V) ⟨_, ⟨?_, (MAIN.out _).1⟩, (MAIN.out _).2⟩ ?_
                · first | (rw [IntKind.wrap_u64]; omega) | (simp [IntKind.wrap, IntKind.signed, IntKind.bits]; omega)
                clear MAIN HZ c12 fr x0 KT VG HB
                rintro V ⟨gv, HE, KV⟩
                have KS2 : Hid (Ksl (evs.set j { evAt evs j with go := gv })) := fun e he => by
                  rcases List.mem_or_eq_of_mem_set he with q | q
                  · exact KS.out e q
                  · rw [q]; exact KS.out (evAt evs j) (evAt_mem HJE.out)
                have HL2 : Hid (∀ W', Kept [] V W' → Calls Try.prog 19 #[.slice (some ⟨g, o, none⟩) n fc] W' fun o w' => o = .returned (.bool false) ∧ Kept [] V w') := fun W' k' => by
                  have h := legal_any (some ⟨g, o, none⟩) (evs.set j { evAt evs j with go := gv }) n fc W' (HE.out.2.new k') (by omega) KS2.out
                  rw [lg_other (j := j) (x := { evAt evs j with go := gv }) HTR.out HJE.out HR.out rfl rfl (HTR.out.2 j HJE.out).dn (HTR.out.2 j HJE.out).fu (by rw [HGG.out]; exact HE.out.1)] at h
                  exact h.mono (fun o w' h => ⟨h.1, k'.trans h.2⟩)
                clear HE KS2 HTR HJE HR HGG
                go_wp2_with (first
                  | (go_at_call 10; refine (alive_any _).mono ?_; rintro o wz ⟨rfl, KZ⟩)
                  | (go_at_call 19; refine (HL2.out _ KZ).mono ?_; rintro o w13 ⟨rfl, K13⟩))
                go_ret
                exact ⟨rfl, KV.trans K13⟩
  · have c1 : (30 : Int) < (n : Int) := by omega
    go_enter Try.func8, Try.ntmps8
    go_wp2_with (first | (go_at_call 10; refine (alive_any _).mono ?_; rintro o wz ⟨rfl, KZ⟩))
    go_ret
    exact ⟨rfl, KZ⟩

theorem histTurns_own : ownKnob Try.prog.godebug = none := by kernel_rfl
theorem histTurns_laidOut : laidOutB Try.prog = true := by kernel_rfl
set_option maxRecDepth 100000 in
theorem histTurns_lifted (os : Os) (started : os.Started) (H : Type) (enc : TypeId × Value → H) :
    ReturnsInHanded {} Try.checked os 8 .any (Rows.histTurnsSpec.pre6 enc Try.prog Try.f8 Rows.histTurnsRow.domain false) (Rows.histTurnsSpec.post enc Try.prog Try.f8 false true false false) := by
  refine returnsInHanded_of_change_sized (C := Try.checked) histTurns_own started (by kernel_rfl) Try.func8
    (ChangeSpec.witness6 (enc := enc) (C := Try.checked) false ⟨#[], #[.slice none 0 0, .int .i64 0], []⟩ 8 (by kernel_rfl) (by kernel_rfl) (by kernel_rfl) (by kernel_rfl)) ?_
  intro W base args ds gs before hval0 hW _ hsz0 _
  have hsz : (DataW.weightsEach Try.prog (Try.f8.params.toList ++ Rows.histTurnsSpec.plain.varTypes Try.prog) (ds ++ gs)).all (· ≤ reachBytes) = true := hsz0
  clear hsz0
  have hval : ∀ (j : Nat) t v, Try.f8.params[j]? = some t → args[j]? = some v → Value.okWide Try.prog W .any base t v := hval0
  have hW' := hW
  obtain ⟨p, q, hA0, hV, rfl, _, _⟩ := hW
  have hA : DataW.TrodAll enc Try.prog W 0 (fun _ => true) true Try.f8.params.toList args.toList ds p := hA0
  rw [Try.params8] at hA hval hsz
  clear hA0 hval0
  obtain ⟨v0, vs0, d0, ds0, p0, q0, hargs, rfl, rfl, h0, r0⟩ := trodAll_cons hA
  obtain ⟨v1, vs1, d1, ds1, p1, q1, rfl, rfl, rfl, h1, r1⟩ := trodAll_cons r0
  obtain ⟨rfl, rfl, rfl⟩ := trodAll_nil r1
  obtain rfl : args = #[v0, v1] := by cases args; simp_all
  obtain ⟨rfl, rfl⟩ := trodVars_none hV
  have k0 := h0
  have k1 := h1
  simp only [List.append_nil] at hW'
  have hlt0 : ∀ x ∈ p0, x.block < W.heap.size := fun x hx => hW'.lt x (by simp [hx])
  have hlt1 : ∀ x ∈ p1, x.block < W.heap.size := fun x hx => hW'.lt x (by simp [hx])
  obtain ⟨ao0, cap0, es0, rfl, s0, g0⟩ := Q.open_ops8 (hval 0 50 v0 rfl rfl) h0
  obtain ⟨a1, rfl, rfl, rfl, w1⟩ := open_int Try.underlying3 (hval 1 3 v1 rfl rfl) h1
  refine (histTurns_walk W ao0 es0 cap0 a1 w1 s0 g0).mono fun e W' ⟨he, hg⟩ => ?_
  subst he
  have hb := hg.below (by simp)
  exact ⟨_, rfl, _, _, _, [], _, [], hW', (trodAll_cons_mk (shut_bool Try.underlying4 _) trodAll_mk0), (trodAll_cons_mk (Below.trod histTurns_laidOut (by kernel_rfl) (of_decide_eq_true (by kernel_rfl)) k0 hb hlt0) (trodAll_cons_mk (Below.trod histTurns_laidOut (by kernel_rfl) (of_decide_eq_true (by kernel_rfl)) k1 hb hlt1) trodAll_mk0)), rfl, hb.frame _, fun h => by cases h⟩

theorem histTurns_holds : Rows.HistTurnsSaid :=
  OpenClaim.holds_of_wide 8 Try.f8 rfl rfl rfl rfl rfl rfl rfl ⟨rfl, rfl, rfl, rfl, rfl⟩ rfl rfl rfl rfl rfl (by kernel_rfl) Try.func8 (by kernel_rfl)
    (of_decide_eq_true (by kernel_rfl)) (by unfold Func.isWrapper; first | (rw [if_pos (by decide +kernel)]; kernel_rfl) | (rw [if_neg (by decide +kernel)]; exact ⟨rfl, rfl⟩))
    (fun os started H enc _ => histTurns_lifted os started H enc)
#print axioms histTurns_holds
end Go.Proofs.Ytlmkcakmeldfeaa
