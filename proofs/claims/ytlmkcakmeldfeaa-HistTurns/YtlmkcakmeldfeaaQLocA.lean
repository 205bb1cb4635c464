/-
  Where what a map's parts are put together of lies: where it lay, or in new memory.
-/
import Derived.Test.YtlmkcakmeldfeaaQDoes
namespace Go.Proofs.Ytlmkcakmeldfeaa.Q
set_option maxRecDepth 100000
open Go.ChangeShapes Go.WideShapes Go.ChangeAt Go.RowKit
open Go.Deep
theorem append_full_l {t T : TypeId} (ty : TypeId) (ht : Try.prog.underlying t = some (.slice T)) (hinfo : IsP T) (w : World) (ao bo : Option Addr) (xs ys : List Pr) (n m cb : Nat) (hn : n = xs.length) (hm : m = ys.length) (ha : SlP w ao xs) (hb : SlP w bo ys) (hl : n ≤ 100000) (hk : m ≤ 100000) :
    ∃ co c' w1, (Builtin.append_ #[t, t] ty #[.slice ao n n, .slice bo m cb]).run Try.prog w = .ok (.slice co (n + m) c') w1 ∧ SlP w1 co (xs ++ ys) ∧ n + m ≤ c' ∧ (co = none → c' = 0) ∧ (0 < m → OwnP w1 w.heap.size T (.slice co (n + m) c') (xs ++ ys)) ∧ (co = ao ∨ ∀ ad, co = some ad → w.heap.size ≤ ad.block) ∧ Kept [] w w1 := by
  obtain ⟨i, hi, hz0, hz1, hz2⟩ := info_parts' hinfo
  by_cases h0 : m = 0
  · subst h0
    have hy : ys = [] := List.eq_nil_of_length_eq_zero hm.symm
    subst hy
    have hs : Src Try.prog i.size t (.slice bo 0 cb) 0 [] w := by
      cases bo with
      | none => exact Src.ofNil w ht cb
      | some a => exact Src.ofSlice w ht a 0 cb [] (by simp) (by simp) (by simp)
    refine ⟨ao, n, w, run_append_nothing (P := Try.prog) w t t ty T i ht hi ao n n (Nat.le_refl _) _ hs, by rw [List.append_nil]; exact ha, by omega, ?_, fun h => absurd h (by omega), Or.inl rfl, Kept.refl _ _⟩
    rintro rfl
    cases xs with
    | nil => simpa using hn
    | cons a r => obtain ⟨ad, _, h, _⟩ := ha (by simp); cases h
  · obtain ⟨ad, ofs, rfl, _, _⟩ := hb (by omega)
    have hnm : n + m = (xs ++ ys).length := by rw [List.length_append, hn, hm]
    have one := fl_one ys
    cases ao with
    | none =>
      have hx : xs = [] := by
        cases xs with
        | nil => rfl
        | cons a r => obtain ⟨ad, _, h, _⟩ := ha (by simp); cases h
      subst hx
      have h9 : n = 0 := hn
      subst h9
      have hown : w.ownsRow w.heap.size T 2 (.slice none 0 0) 0 [] := ⟨rfl, Or.inl ⟨rfl, rfl⟩⟩
      obtain ⟨v', w1, hrun, hown', hg, _⟩ := run_append_own (P := Try.prog) w w.heap.size t ty T i _ 2 16 ht hi hz0 hz1 hz2 rfl (by decide) _ 0 [] hown _ m cb (fl ys) (by rw [fl_len, hm]) hb.cells one (by unfold maxLen; omega) (by omega) (Nat.le_refl _)
      rw [List.nil_append] at hown'
      have O := own_pairs (by rw [Nat.zero_add]; exact hm) hown'
      obtain ⟨co, c', rfl, S, l1, l2⟩ := O.shape
      rw [← hm] at hrun O l1
      rw [List.nil_append, Nat.zero_add]
      exact ⟨co, c', w1, hrun, S, l1, l2, fun _ => O, Or.inr (fun ad e => by subst e; exact (O.base ad.block rfl).1), ⟨hg.os, hg.tape, hg.output, hg.size, fun k hk _ => hg.block k hk (by simp [Value.ownBlock])⟩⟩
    | some b =>
      obtain ⟨v', w1, hrun, hown', hg⟩ := run_append_arg_grows (P := Try.prog) w t ty T i _ 2 16 ht hi hz0 hz1 hz2 rfl (by decide) b n n (fl xs) (by rw [fl_len, hn]) ha.cells _ m cb (fl ys) (by rw [fl_len, hm]) hb.cells (by omega) (by unfold maxLen; omega) (by omega)
      rw [← fl_app] at hown'
      have O := own_pairs hnm hown'
      obtain ⟨co, c', rfl, S, l1, l2⟩ := O.shape
      rw [← hnm] at hrun O l1
      exact ⟨co, c', w1, hrun, S, l1, l2, fun _ => O, Or.inr (fun ad e => by subst e; exact (O.base ad.block rfl).1), ⟨hg.os, hg.tape, hg.output, hg.size, fun k hk _ => hg.block k hk (by simp)⟩⟩
set_option maxHeartbeats 2000000 in
theorem parted_l (ao : Option Addr) (ps : List Pr) (n cap : Nat) (k : Int) (w : World) (h : MpV w ao n cap ps) (hst : Str ps) (hl : n ≤ 1000) :
    Calls Try.prog 58 #[.agg #[.slice ao n cap], .int .u64 k] w fun o w' => ∃ a1 n1 a2 n2 a3 n3 c3, o = .returned (.tuple #[.slice a1 n1 n1, .slice a2 n2 n2, .slice a3 n3 c3]) ∧ (n1 = (blw ps k).length ∧ a1 = ao ∧ SlP w' a1 (blw ps k)) ∧ (n2 = (own ps k).length ∧ SlP w' a2 (own ps k)) ∧ (n3 = (abv ps k).length ∧ SlP w' a3 (abv ps k) ∧ (a3 = none → c3 = 0)) ∧ Kept [] w w' := by
  have K0 : Kept [] w (w.alloc (.cells #[.slice ao n cap] 35)) := (Kept.refl _ _).alloc _
  have Z0 := blk_alloc_new w (.cells #[.slice ao n cap] 35)
  have hc := bin_any ao ps n cap k _ h.1 (h.2.1.new K0) hl
  have H : Hid _ := h
  have hnc := h.2.2.1
  clear h
  cases ao with
  | none =>
    have h9 : cap = 0 := H.out.2.2.2 rfl
    subst h9
    obtain rfl : n = 0 := by omega
    have e0 : ps = [] := List.eq_nil_of_length_eq_zero H.out.1.symm
    subst e0
    go_enter Try.func58, Try.ntmps58
    go_wp2_with fail
    refine hc.mono ?_
    rintro o w1 ⟨i, rfl, B, K1⟩
    have hin := B.1
    obtain rfl : i = 0 := by omega
    have q0 := cell_of_blk (K1.blk Z0 (by simp)) (i := 0) rfl
    have KT := K0.trans K1
    have hh : hsB [] 0 k 0 = false := rfl
    rw [hh]
    clear hc K0 Z0 K1 B H
    go_wp2_with fail
    go_quiet (fail)
    go_wp2
    refine bodyPost_ret (v := .tuple #[.slice none 0 0, .slice none 0 0, .slice none 0 0]) (by simp [results, Try.results58, go_sem]) rfl ?_
    exact ⟨none, 0, none, 0, none, 0, 0, rfl, ⟨rfl, rfl, SlP.nil _ _⟩, ⟨rfl, SlP.nil _ _⟩, ⟨rfl, SlP.nil _ _, fun _ => rfl⟩, KT.drewN _⟩
  | some ad =>
    go_enter Try.func58, Try.ntmps58
    go_wp2_with fail
    refine hc.mono ?_
    rintro o w1 ⟨i, rfl, B, K1⟩
    have hin := B.1
    have q0 := cell_of_blk (K1.blk Z0 (by simp)) (i := 0) rfl
    have KT := K0.trans K1
    have HB : Hid (BinP ps n k i) := B
    clear hc K0 Z0 K1 B
    have z1 : (i : Int) ≤ (n : Int) := by omega
    have z2 : (i : Int) ≤ (cap : Int) := by omega
    cases hh : hsB ps n k i with
    | false =>
      have P : Hid _ := HB.out.no hst H.out.1 hh
      by_cases hci : cap = i
      · go_wp2_with fail
        go_quiet (fail)
        go_wp2
        refine bodyPost_ret (v := .tuple #[.slice (some ad) i i, .slice (some ad) 0 0, .slice (some ad) (n - i) (cap - i)]) (by simp [results, Try.results58, go_sem, hci]) rfl ?_
        have S : SlP (w1.drewN nq) (some ad) ps := H.out.2.1.new (KT.drewN nq)
        have e : ps.drop i = [] := List.drop_eq_nil_of_le (by have := H.out.1; omega)
        refine ⟨some ad, i, some ad, 0, some ad, n - i, cap - i, rfl, ⟨P.out.2.2.2, rfl, ?_⟩, ⟨?_, ?_⟩, ⟨?_, ?_, by simp⟩, KT.drewN _⟩
        · rw [← P.out.1]; exact SlP.take S i
        · rw [P.out.2.2.1]; rfl
        · rw [P.out.2.2.1]; exact SlP.nil _ _
        · rw [← P.out.2.1, e]; simp; omega
        · rw [← P.out.2.1, e]; exact SlP.nil _ _
      · go_wp2_with fail
        go_quiet (fail)
        go_wp2
        refine bodyPost_ret (v := .tuple #[.slice (some ad) i i, .slice (some ad) 0 0, .slice (some (ad.add (i * 2))) (n - i) (cap - i)]) (by simp [results, Try.results58, go_sem]) rfl ?_
        have S : SlP (w1.drewN nq) (some ad) ps := H.out.2.1.new (KT.drewN nq)
        refine ⟨some ad, i, some ad, 0, _, n - i, cap - i, rfl, ⟨P.out.2.2.2, rfl, ?_⟩, ⟨?_, ?_⟩, ⟨?_, ?_, by simp⟩, KT.drewN _⟩
        · rw [← P.out.1]; exact SlP.take S i
        · rw [P.out.2.2.1]; rfl
        · rw [P.out.2.2.1]; exact SlP.nil _ _
        · rw [← P.out.2.1, List.length_drop, ← H.out.1]
        · rw [← P.out.2.1]; exact SlP.dropA S i
    | true =>
      have P : Hid _ := HB.out.yes hst H.out.1 hh
      have hi2 := P.out.2.2.2.1
      have z3 : (i : Int) + 1 ≤ (n : Int) := by omega
      have z4 : (i : Int) + 1 ≤ (cap : Int) := by omega
      have z5 : (0 : Int) ≤ (i : Int) + 1 := by omega
      have z6 : ((i : Int) + 1).toNat = i + 1 := by omega
      have z7 : i + 1 - i = 1 := by omega
      by_cases hci : cap = i + 1
      · go_wp2_with fail
        go_quiet (fail)
        go_wp2
        refine bodyPost_ret (v := .tuple #[.slice (some ad) i i, .slice (some (ad.add (i * 2))) 1 1, .slice (some ad) (n - (i + 1)) (cap - (i + 1))]) (by simp [results, Try.results58, go_sem, hci]) rfl ?_
        have S : SlP (w1.drewN nq) (some ad) ps := H.out.2.1.new (KT.drewN nq)
        have e : ps.drop (i + 1) = [] := List.drop_eq_nil_of_le (by have := H.out.1; omega)
        refine ⟨some ad, i, _, 1, some ad, n - (i + 1), cap - (i + 1), rfl, ⟨P.out.2.2.2.2, rfl, ?_⟩, ⟨?_, ?_⟩, ⟨?_, ?_, by simp⟩, KT.drewN _⟩
        · rw [← P.out.1]; exact SlP.take S i
        · rw [P.out.2.2.1]; rfl
        · rw [P.out.2.2.1]; exact SlP.one S (by have := H.out.1; omega)
        · rw [← P.out.2.1, e]; simp; omega
        · rw [← P.out.2.1, e]; exact SlP.nil _ _
      · go_wp2_with fail
        go_quiet (fail)
        go_wp2
        refine bodyPost_ret (v := .tuple #[.slice (some ad) i i, .slice (some (ad.add (i * 2))) 1 1, .slice (some (ad.add ((i + 1) * 2))) (n - (i + 1)) (cap - (i + 1))]) (by simp [results, Try.results58, go_sem]) rfl ?_
        have S : SlP (w1.drewN nq) (some ad) ps := H.out.2.1.new (KT.drewN nq)
        refine ⟨some ad, i, _, 1, _, n - (i + 1), cap - (i + 1), rfl, ⟨P.out.2.2.2.2, rfl, ?_⟩, ⟨?_, ?_⟩, ⟨?_, ?_, by simp⟩, KT.drewN _⟩
        · rw [← P.out.1]; exact SlP.take S i
        · rw [P.out.2.2.1]; rfl
        · rw [P.out.2.2.1]; exact SlP.one S (by have := H.out.1; omega)
        · rw [← P.out.2.1, List.length_drop, ← H.out.1]
        · rw [← P.out.2.1]; exact SlP.dropA S (i + 1)
set_option maxHeartbeats 1000000 in
theorem without_l (ao : Option Addr) (ps : List Pr) (n cap : Nat) (k : Int) (w : World) (h : MpV w ao n cap ps) (hst : Str ps) (hl : n ≤ 1000) :
    Calls Try.prog 43 #[.agg #[.slice ao n cap], .int .u64 k] w fun o w' => ∃ bo m cb, o = .returned (.agg #[.slice bo m cb]) ∧ MpV w' bo m cb (wo ps k) ∧ (bo = ao ∨ ∀ ad, bo = some ad → w.heap.size ≤ ad.block) ∧ Kept [] w w' := by
  have K0 : Kept [] w ((w.alloc (.cells #[.slice ao n cap] 35)).alloc (.cells #[.slice none 0 0] 35)) := ((Kept.refl _ _).alloc _).alloc _
  have Z0 := blk_alloc_new (w.alloc (.cells #[.slice ao n cap] 35)) (.cells #[.slice none 0 0] 35)
  rw [nblk_alloc] at Z0
  have hc := parted_l ao ps n cap k _ (h.new K0) hst hl
  have hle := parts_len ps k
  rw [← h.1] at hle
  clear h
  go_enter Try.func43, Try.ntmps43
  go_wp2_with fail
  refine hc.mono ?_
  rintro o w1 ⟨a1, n1, a2, n2, a3, n3, c3, rfl, ⟨e1, ea, S1⟩, ⟨e2, S2⟩, ⟨e3, S3, h3⟩, K1⟩
  have Z1 := K1.blk Z0 (by simp)
  have KT := K0.trans K1
  obtain ⟨co, c', w2, hap, S4, l1, l2, _, LC, K2⟩ := append_full_l 33 Try.underlying33 info_seq w1 a1 a3 (blw ps k) (abv ps k) n1 n3 c3 e1 e3 S1 S3 (by omega) (by omega)
  have Z2 := K2.blk Z1 (by simp)
  have HLC : Hid (co = ao ∨ ∀ ad, co = some ad → w.heap.size ≤ ad.block) := LC.imp (fun h => h.trans ea) (fun h ad e => Nat.le_trans KT.size (h ad e))
  have KF := KT.trans K2
  have q0 := cell_of_blk Z2 (i := 0) rfl
  have q1 := free_of_blk Z2 0
  have HM : Hid (n1 + n3 = (wo ps k).length ∧ SlP w2 co (wo ps k) ∧ n1 + n3 ≤ c' ∧ (co = none → c' = 0)) := ⟨by unfold wo; rw [List.length_append, e1, e3], S4, l1, l2⟩
  clear LC ea
  clear hc K0 K1 Z0 Z1 KT K2 e1 e2 e3 S1 S2 S3 S4 l1 l2 h3 hle
  go_wp2_with (at_builtin; refine wpList_append_run rfl (.tmp 15) (.tmp 16) 33 rfl rfl rfl hap ?_)
  have Z5 := blk_set Z2 0 (.slice co (n1 + n3) c')
  have y0 := cell_of_blk Z5 (i := 0) rfl
  refine bodyPost_ret (v := .agg #[.slice co (n1 + n3) c']) (by simp [results, Try.results43, go_sem, y0]) rfl ⟨co, n1 + n3, c', rfl, ⟨HM.out.1, ?_, HM.out.2.2⟩, HLC.out, KF.setCell (Or.inr (Nat.le_succ _)) _⟩
  exact SlP.setMap HM.out.2.1 Z2 _
set_option maxHeartbeats 1000000 in
theorem with_l (ao : Option Addr) (ps : List Pr) (n cap : Nat) (p : Pr) (w : World) (h : MpV w ao n cap ps) (hst : Str ps) (hl : n ≤ 1000) :
    Calls Try.prog 42 #[.agg #[.slice ao n cap], .agg #[.int .u64 p.k, .int .u64 p.v]] w fun o w' => ∃ bo m cb, o = .returned (.agg #[.slice bo m cb]) ∧ MpV w' bo m cb (wi ps p) ∧ (∀ ad, bo = some ad → w.heap.size ≤ ad.block) ∧ Kept [] w w' := by
  have K0 : Kept [] w (((w.alloc (.cells #[.slice ao n cap] 35)).alloc (.cells #[.int .u64 p.k, .int .u64 p.v] 56)).alloc (.cells #[.slice none 0 0] 35)) := (((Kept.refl _ _).alloc _).alloc _).alloc _
  have Z0 := blk_alloc_new ((w.alloc (.cells #[.slice ao n cap] 35)).alloc (.cells #[.int .u64 p.k, .int .u64 p.v] 56)) (.cells #[.slice none 0 0] 35)
  have Y0 := ((Kept.refl [] ((w.alloc (.cells #[.slice ao n cap] 35)).alloc (.cells #[.int .u64 p.k, .int .u64 p.v] 56))).alloc (.cells #[.slice none 0 0] 35)).blk (blk_alloc_new (w.alloc (.cells #[.slice ao n cap] 35)) (.cells #[.int .u64 p.k, .int .u64 p.v] 56)) (by simp)
  rw [nblk_alloc, nblk_alloc] at Z0
  rw [nblk_alloc] at Y0
  have hc := parted_l ao ps n cap p.k _ (h.new K0) hst hl
  have hle := parts_len ps p.k
  rw [← h.1] at hle
  clear h
  go_enter Try.func42, Try.ntmps42
  go_wp2_with fail
  refine hc.mono ?_
  rintro o w1 ⟨a1, n1, a2, n2, a3, n3, c3, rfl, ⟨e1, -, S1⟩, ⟨e2, S2⟩, ⟨e3, S3, h3⟩, K1⟩
  have Z1 := K1.blk Z0 (by simp)
  have Y1 := K1.blk Y0 (by simp)
  have KT := K0.trans K1
  have KA : Kept [] w1 (w1.alloc (.cells #[.int .u64 p.k, .int .u64 p.v] 56)) := (Kept.refl _ _).alloc _
  have SB : SlP (w1.alloc (.cells #[.int .u64 p.k, .int .u64 p.v] 56)) (some ⟨w1.heap.size, 0, none⟩) [p] := own_cell (blk_alloc_new _ _) rfl rfl
  obtain ⟨co, c', w2, hap, S4, _, _, O4, K2⟩ := append_full 33 Try.underlying33 info_seq _ a1 (some ⟨w1.heap.size, 0, none⟩) (blw ps p.k) [p] n1 1 1 e1 rfl (S1.new KA) SB (by omega) (by omega)
  have O5 := O4 (by omega)
  have KA2 := KA.trans K2
  obtain ⟨u, w3, hap2, O6, K3⟩ := append_own 33 Try.underlying33 info_seq w2 _ _ a3 (blw ps p.k ++ [p]) (abv ps p.k) n3 c3 e3 O5 (S3.new KA2) h3 K2.size (by rw [List.length_append]; simp; omega) (by omega)
  have KB := Kept.ofOwn KA2 O5 (by rw [nblk_alloc]; omega) K3
  have Z2 := KB.blk Z1 (by simp)
  have KF := KT.trans KB
  obtain ⟨bo, cb, rfl, S7, l1, l2⟩ := O6.shape
  have HLC : Hid (∀ ad, bo = some ad → w.heap.size ≤ ad.block) := fun ad e => by
    subst e
    have h1 := (O6.base ad.block rfl).1
    have h2 := KT.size
    rw [nblk_alloc] at h1
    omega
  have ew : blw ps p.k ++ [p] ++ abv ps p.k = wi ps p := by unfold wi; simp
  rw [ew] at S7 l1 hap2
  have HM : Hid (SlP w3 bo (wi ps p) ∧ (wi ps p).length ≤ cb ∧ (bo = none → cb = 0)) := ⟨S7, l1, l2⟩
  obtain ⟨m, hm⟩ : ∃ m, m = (wi ps p).length := ⟨_, rfl⟩
  rw [← hm] at hap2
  have EM : Hid _ := hm
  have q0 := cell_of_blk Z2 (i := 0) rfl
  have q1 := free_of_blk Z2 0
  have y0 := cell_of_blk Y1 (i := 0) rfl
  have y1 := cell_of_blk Y1 (i := 1) rfl
  clear hc K0 K1 Z0 Z1 Y0 Y1 KT K2 K3 KA KA2 KB e1 e2 e3 S1 S2 S3 S4 S7 SB O4 O5 O6 l1 l2 h3 hle ew hm
  go_wp2_with (first
    | (at_builtin; refine wpList_append_run rfl (.tmp 16) (.tmp 18) 33 rfl rfl rfl hap ?_)
    | (at_builtin; refine wpList_append_run rfl (.tmp 19) (.tmp 20) 33 rfl rfl rfl hap2 ?_))
  have Z5 := blk_set Z2 0 (.slice bo m cb)
  have y5 := cell_of_blk Z5 (i := 0) rfl
  refine bodyPost_ret (v := .agg #[.slice bo m cb]) (by simp [results, Try.results42, go_sem, y5]) rfl ⟨bo, m, cb, rfl, ⟨EM.out, ?_, by rw [EM.out]; exact HM.out.2.1, HM.out.2.2⟩, HLC.out, KF.setCell (Or.inr (by show _ ≤ w.heap.size + 1 + 1; omega)) _⟩
  exact SlP.setMap HM.out.1 Z2 _
end Go.Proofs.Ytlmkcakmeldfeaa.Q
