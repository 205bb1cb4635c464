/-
  The document's laying of nodes: the word that names the next node of a level.
-/
import Derived.Test.YtjbdaejkofkcpaaDoorGOwn
import Derived.Test.YtjbdaejkofkcpaaDoorFLaid
namespace Go.Proofs.YtjbdaejkofkcpaaDoor
open Go.RowKit (Grown Hid Below intOf)
open Go.Deep
namespace K
set_option maxRecDepth 100000
theorem rof1_any (i G : Int) (w : World) (h : 0 ≤ G ∧ G ≤ 1073741823) (h2 : 0 ≤ i ∧ i ≤ 1000) : Calls Tryd.prog 29 #[.int .i64 i, .int .i64 G] w fun e w' => e = .returned (.int .u64 (packV i G false)) ∧ Kept [] w w' := by
  have ME := hidOf (fun W => rpack_yes i G false W (by unfold fitB; simp; omega))
  go_enter Tryd.func29, Tryd.ntmps29
  go_wp2_with fail
  refine (ME.out _).mono ?_
  rintro e w1 ⟨rfl, K1⟩
  go_wp2
  go_ret
  exact ⟨rfl, K1⟩
theorem pack_hw (i : Nat) : packV i 0 false = hw i := by unfold packV hw; simp; omega
theorem nn_row {w : World} {ao : Option Addr} {ns : List Nn} (h : SlOf 5 nnL w ao ns) {k : Nat} (hk : k < ns.length) :
    ∃ b off, ao = some ⟨b, off, none⟩ ∧ b < w.heap.size ∧ w.cell? ⟨b, off + k * 5, none⟩ = some (.int .u64 (ns.getD k nn0).k) ∧ w.cell? ⟨b, off + k * 5 + 1, none⟩ = some (.int .u64 (ns.getD k nn0).v) ∧ w.cell? ⟨b, off + k * 5 + 2, none⟩ = some (.int .i64 (ns.getD k nn0).t) ∧ w.cell? ⟨b, off + k * 5 + 3, none⟩ = some (.int .i64 (ns.getD k nn0).m) ∧ w.cell? ⟨b, off + k * 5 + 4, none⟩ = some (.bool (ns.getD k nn0).d) := by
  obtain ⟨b, off, rfl, hb, hc⟩ := h (by omega)
  have e : ns.getD k nn0 = ns[k] := by simp [hk]
  rw [e]
  exact ⟨b, off, rfl, hb, hc k hk 0 _ rfl, hc k hk 1 _ rfl, hc k hk 2 _ rfl, hc k hk 3 _ rfl, hc k hk 4 _ rfl⟩
theorem nxt_step (c : Cfg) (ns : List Nn) (L j m : Nat) (hm : j + m + 1 = ns.length) : nxt (ndOf c ns) L (ns.length - j) (j + 1) = if (L : Int) < (ns.getD j nn0).t then j + 1 else nxt (ndOf c ns) L (ns.length - (j + 1)) (j + 1 + 1) := by
  rw [show ns.length - j = m + 1 by omega, show ns.length - (j + 1) = m by omega]
  show (if L < (if j + 1 = 0 then HN c else (ns.getD (j + 1 - 1) nn0).t.toNat) then j + 1 else nxt (ndOf c ns) L m (j + 1 + 1)) = _
  rw [if_neg (show ¬ j + 1 = 0 by omega), show j + 1 - 1 = j by omega]
  by_cases h : (L : Int) < (ns.getD j nn0).t
  · rw [if_pos h, if_pos (by omega)]
  · rw [if_neg h, if_neg (by omega)]
set_option maxHeartbeats 4000000 in
theorem behind_any (c : Cfg) (ns : List Nn) (ao : Option Addr) (n cap : Nat) (a : Int) (i L : Nat) (w : World) (hs : SlOf 5 nnL w ao ns) (hn : n = ns.length) (ha : a + 1 = i) (hi : i ≤ n) (h64 : n ≤ 64) :
    Calls Tryd.prog 58 #[.slice ao n cap, .int .i64 a, .int .i64 L] w fun e w' => e = .returned (.int .u64 (nw n (N0 (ndOf c ns) L i) false)) ∧ Kept [] w w' := by
  obtain ⟨R, hR⟩ : ∃ R, N0 (ndOf c ns) L i = R := ⟨_, rfl⟩
  have H0 : Hid (nxt (ndOf c ns) L (ns.length - i) (i + 1) = R) := hidOf hR
  rw [hR]
  have HN := hidOf hn
  have HS := hidOf hs
  have ha2 : a = (i : Int) - 1 := by omega
  subst ha2
  clear hn hs hR ha
  have hi64 : (i : Int) ≤ 64 := by omega
  go_enter Tryd.func58, Tryd.ntmps58
  go_wp2
  go_loopw [7] (fun s wr => ∃ (j : Nat), j ≤ n ∧ s = .int .i64 j ∧ Kept [] w wr ∧ Hid (nxt (ndOf c ns) L (ns.length - j) (j + 1) = R)) (fun s _ => n - (intOf s).toNat)
  case atStart => exact ⟨i, hi, by first | rfl | go_num | (congr 1; omega), Kept.refl _ _, H0.out⟩
  case round =>
    clear H0
    obtain ⟨j, hj, rfl, KR, HJ⟩ := hrel
    by_cases hlt : j < n
    · have hltz : (j : Int) < (n : Int) := by omega
      obtain ⟨b1, o1, e1, l1, s0, s1, s2, s3, s4⟩ := nn_row (HS.out.new KR) (k := j) (by rw [← HN.out]; exact hlt)
      have NX := hidOf (nxt_step c ns L j (n - j - 1) (by have := HN.out; omega))
      generalize (ns.getD j nn0).t = t at s2 NX
      clear s0 s1 s3 s4
      rw [e1]
      by_cases ht : (L : Int) < t
      · have HR : Hid (R = j + 1) := hidOf (by have z := HJ.out; rw [NX.out, if_pos ht] at z; exact z.symm)
        clear NX HJ
        go_wp2_with fail
        refine (rof1_any _ 0 _ (by omega) (by omega)).mono ?_
        rintro e w1 ⟨rfl, K1⟩
        go_wp2
        go_ret
        refine ⟨?_, KR.trans K1⟩
        rw [HR.out, nw_hw (by omega)]
        have z := pack_hw (j + 1)
        rw [← z]; rfl
      · have HR : Hid (nxt (ndOf c ns) L (ns.length - (j + 1)) (j + 1 + 1) = R) := hidOf (by have z := HJ.out; rw [NX.out, if_neg ht] at z; exact z)
        clear NX HJ
        go_wp2
        go_roundw
        case rel => exact ⟨j + 1, by omega, by go_num, KR, HR.out⟩
        case measure => simp [intOf]; omega
    · have hje : j = n := by omega
      have hjz : ¬ (j : Int) < (n : Int) := by omega
      have HR : Hid (R = n + 1) := hidOf (by have z := HJ.out; rw [hje, HN.out, Nat.sub_self] at z; rw [← z, HN.out]; rfl)
      clear HJ hje
      go_wp2
      go_ret
      refine ⟨?_, KR⟩
      rw [HR.out]
      unfold nw
      rw [if_neg (by omega)]; rfl
end K
end Go.Proofs.YtjbdaejkofkcpaaDoor
