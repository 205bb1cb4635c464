/-
  Two claims never get one slot, however their steps are mixed.
  Conditions: the package variable of handle that the code reads starts as the program's text lays it (the card ties it to that text).
-/
import Derived.Test.YtmmpafhfanldbaaDoorKMeta
import Derived.Test.YtmmpafhfanldbaaDoorHLaid
import Derived.Test.YtmmpafhfanldbaaDoorPArgs
import Derived.ProofKit
import Derived.SizedLaws
import Derived.Carry
namespace Go.Proofs.YtmmpafhfanldbaaDoor
open Go.ChangeShapes Go.WideShapes Go.ChangeAt Go.RowKit
open Go.Deep
open Go.Proofs.YtmmpafhfanldbaaDoor.K
set_option maxRecDepth 100000

theorem flat_bool : flat Tryd.prog 2 4 = some [.bool] := by kernel_rfl
theorem cells_bool : Tryd.prog.cellsOf 4 = 1 := by kernel_rfl
def bL (b : Bool) : List Value := [.bool b]
theorem bool_cells {cs : List Value} (h : F2 [.bool] cs) : ∃ b : Bool, cs = bL b ∧ True := by
  obtain ⟨b, r, rfl, h2⟩ := F2_bool h
  exact ⟨b, by rw [F2_nil h2]; rfl, trivial⟩
theorem open_bools {H : Type} {enc : TypeId × Value → H} {w : World} {r : Reach} {b0 : Nat} {v : Value} {d : DataW H} {p : List MemPlace} (hv : Value.okWide Tryd.prog w r b0 64 v) (h : DataW.Trod enc Tryd.prog w 0 (fun _ => true) true 64 v d p) :
    ∃ ao cap ts, v = .slice ao (List.length ts) cap ∧ SlOf 1 bL w ao ts := by
  obtain ⟨ao, cap, xs, h1, h2, h3, h4, h5⟩ := open_slice_of (ks := [.bool]) bL (fun _ => True) Tryd.underlying64 flat_bool cells_bool (by decide) (fun cs hF => bool_cells hF) hv h
  exact ⟨ao, cap, xs, h1, h2⟩
theorem bool_row {w : World} {ao : Option Addr} {ts : List Bool} (h : SlOf 1 bL w ao ts) {k : Nat} (hk : k < ts.length) : ∃ b off, ao = some ⟨b, off, none⟩ ∧ b < w.heap.size ∧ w.cell? ⟨b, off + k, none⟩ = some (.bool (ts.getD k false)) := by
  obtain ⟨b, off, rfl, hb, hc⟩ := h (by omega)
  have e : ts.getD k false = ts[k] := by simp [hk]
  rw [e]
  have := hc k hk 0 _ rfl
  rw [Nat.mul_one, Nat.add_zero] at this
  exact ⟨b, off, rfl, hb, this⟩
/-- What holds of two claims of one world. -/
structure TI (w wr : World) (a b m p r q n : Nat) (c : Cfg) (cs : List Int) (cnt : Int) (x : Acc) (s t : Ks) : Prop where
  ka : KS wr a s
  kb : KS wr b t
  mm : Mm wr m p r c cs cnt x
  cf : RW 23 wr q #[.int .i64 c.t, .int .i64 c.s, .int .i64 c.c, .int .i64 c.h, .int .i64 c.k, .int .i64 c.e, .int .i64 c.l]
  kp : Kept [] w wr
  si : KI c s
  ti : KI c t
  os : Own1 c cs s
  ot : Own1 c cs t
  ap : Apart2 s t
  wd : Wds cs
  len : cs.length = n
theorem TI.new {w wr wv : World} {a b m p r q n : Nat} {c : Cfg} {cs : List Int} {cnt : Int} {x : Acc} {s t : Ks} (h : TI w wr a b m p r q n c cs cnt x s t) (kv : Kept [] wr wv) : TI w wv a b m p r q n c cs cnt x s t :=
  ⟨h.ka.kept kv (by simp), h.kb.kept kv (by simp), h.mm.new kv, h.cf.kept kv (by simp), h.kp.trans kv, h.si, h.ti, h.os, h.ot, h.ap, h.wd, h.len⟩
/-- The blocks of the law are apart. -/
structure Ap (w : World) (a b m p r q : Nat) : Prop where
  ab : ¬ a = b
  aq : ¬ a = q
  bq : ¬ b = q
  qp : ¬ q = p
  qr : ¬ q = r
  a0 : w.heap.size ≤ a
  b0 : w.heap.size ≤ b
  p0 : w.heap.size ≤ p
  r0 : w.heap.size ≤ r
theorem TI.stepA {w wr w' : World} {a b m p r q n : Nat} {c : Cfg} {cs : List Int} {cnt : Int} {x : Acc} {s t : Ks} (h : TI w wr a b m p r q n c cs cnt x s t) (ap : Ap w a b m p r q) (hW : IsW c n) (k1 : KS w' a (stK c cs s)) (k2 : Mm w' m p r c (stC c cs s) (stN cnt s) (stA c cs x s)) (k : Kept [a, p, r] wr w') : TI w w' a b m p r q n c (stC c cs s) (stN cnt s) (stA c cs x s) (stK c cs s) t := by
  obtain ⟨n0, n64⟩ := isW_cap hW
  have hl : (cs.length : Int) = lnV c := by rw [h.len]; exact hW.2.1
  obtain ⟨b1, b2, b3⟩ := h.kb.nm h.mm
  have := ap.ab; have := ap.aq; have := ap.bq; have := ap.qp; have := ap.qr; have := ap.a0; have := ap.p0; have := ap.r0
  exact ⟨k1, h.kb.kept k (by simp; omega), k2, h.cf.kept k (by simp; omega), h.kp.then k (by simp; omega), stK_ki h.wd n0 h.si, h.ti, own_self hW.1 hl n64 h.si h.os, own_other hW.1 hl h.si h.ot, apart_step hW.1 hl n64 h.si h.os h.ot h.ap, stC_wd h.wd h.si, (stC_len _ _ _).trans h.len⟩
theorem TI.swap {w wr : World} {a b m p r q n : Nat} {c : Cfg} {cs : List Int} {cnt : Int} {x : Acc} {s t : Ks} (h : TI w wr a b m p r q n c cs cnt x s t) : TI w wr b a m p r q n c cs cnt x t s :=
  ⟨h.kb, h.ka, h.mm, h.cf, h.kp, h.ti, h.si, h.ot, h.os, h.ap.symm, h.wd, h.len⟩
theorem Ap.swap {w : World} {a b m p r q : Nat} (h : Ap w a b m p r q) : Ap w b a m p r q := ⟨fun e => h.ab e.symm, h.bq, h.aq, h.qp, h.qr, h.b0, h.a0, h.p0, h.r0⟩
theorem TI.callA {w wr : World} {a b m p r q n : Nat} {c : Cfg} {cs : List Int} {cnt : Int} {x : Acc} {s t : Ks} (h : TI w wr a b m p r q n c cs cnt x s t) (ap : Ap w a b m p r q) (hW : IsW c n) (hT : Tab w) (c0 : 0 ≤ cnt) (c1 : cnt < 4611686018427387904) :
    Calls Tryd.prog 13 #[.pointer (some ⟨a, 0, none⟩), .pointer (some ⟨m, 0, none⟩)] wr fun e w' => e = .returned (.tuple #[]) ∧ TI w w' a b m p r q n c (stC c cs s) (stN cnt s) (stA c cs x s) (stK c cs s) t := by
  obtain ⟨n0, n64⟩ := isW_cap hW
  exact (step_any a m p r c cs cnt x s wr h.ka h.mm (hT.kept h.kp) h.si h.wd n0 n64 c0 c1).mono fun _ _ hh => ⟨hh.1, h.stepA ap hW hh.2.1 hh.2.2.1 hh.2.2.2⟩
theorem TI.callB {w wr : World} {a b m p r q n : Nat} {c : Cfg} {cs : List Int} {cnt : Int} {x : Acc} {s t : Ks} (h : TI w wr a b m p r q n c cs cnt x s t) (ap : Ap w a b m p r q) (hW : IsW c n) (hT : Tab w) (c0 : 0 ≤ cnt) (c1 : cnt < 4611686018427387904) :
    Calls Tryd.prog 13 #[.pointer (some ⟨b, 0, none⟩), .pointer (some ⟨m, 0, none⟩)] wr fun e w' => e = .returned (.tuple #[]) ∧ TI w w' a b m p r q n c (stC c cs t) (stN cnt t) (stA c cs x t) s (stK c cs t) :=
  (h.swap.callA ap.swap hW hT c0 c1).mono fun _ _ hh => ⟨hh.1, hh.2.swap⟩
theorem mu_next {c : Cfg} {cs : List Int} {s : Ks} {u : Int} (hI : KI c s) (h : mu c s ≤ u ∨ 3 ≤ s.ph) : mu c (stK c cs s) ≤ u - 1 ∨ 3 ≤ (stK c cs s).ph := by
  rcases mu_step (cs := cs) hI with e | ⟨e1, e2⟩
  · rcases h with h | h
    · exact Or.inl (by omega)
    · right
      have : stK c cs s = s := by unfold stK; rw [if_neg (by omega), if_neg (by omega), if_neg (by omega)]
      rw [this]; exact h
  · rw [e2]; exact Or.inr e1
set_option maxRecDepth 100000 in
set_option maxHeartbeats 8000000 in
theorem claimTwo_walk (w : World) (c : Cfg) (_g : c.wf) (ao : Option Addr) (xs : List Int) (cap : Nat) (hs : Sl w ao xs) (hg : ∀ x ∈ xs, isWord x) (hc : ao = none → cap = 0) (lo : Option Addr) (ts : List Bool) (lc : Nat) (hl : SlOf 1 bL w lo ts) (hT : Tab w) :
    Calls Tryd.prog 6 #[c.val, .slice ao xs.length cap, .slice lo ts.length lc] w fun e w' => e = .returned (.bool true) ∧ Kept [] w w' := by
  simp only [Cfg.val]
  obtain ⟨n, hn⟩ : ∃ n, n = xs.length := ⟨_, rfl⟩
  rw [← hn]
  have HN := hidOf hn
  have HS := hidOf hs
  have HC := hidOf hc
  have HW := hidOf (wds_of hg)
  have HT := hidOf hT
  clear hn hs hc hg hT
  obtain ⟨k, hk⟩ : ∃ k, k = ts.length := ⟨_, rfl⟩
  rw [← hk]
  have HK := hidOf hk
  have HL := hidOf hl
  clear hk hl
  obtain ⟨q, hq⟩ : ∃ q, q = w.heap.size := ⟨_, rfl⟩
  have BX : Hid (RW 23 (w.alloc (.cells #[.int .i64 c.t, .int .i64 c.s, .int .i64 c.c, .int .i64 c.h, .int .i64 c.k, .int .i64 c.e, .int .i64 c.l] 23)) q #[.int .i64 c.t, .int .i64 c.s, .int .i64 c.c, .int .i64 c.h, .int .i64 c.k, .int .i64 c.e, .int .i64 c.l] ∧ Kept [] w (w.alloc (.cells #[.int .i64 c.t, .int .i64 c.s, .int .i64 c.c, .int .i64 c.h, .int .i64 c.k, .int .i64 c.e, .int .i64 c.l] 23))) := by rw [hq]; exact ⟨RW.new _ _ _, (Kept.refl [] w).alloc _⟩
  by_cases hW : IsW c n
  · have HI := hidOf hW
    obtain ⟨n0, n64⟩ := isW_cap hW
    have n4 := hW.2.2
    clear hW
    by_cases hlen : 300 < (k : Int)
    · skip
      go_enter Tryd.func6, Tryd.ntmps6
      go_upto_region 1 with (fail)
      rw [← hq]
      refine gen_world (fun W => RW 23 W q #[.int .i64 c.t, .int .i64 c.s, .int .i64 c.c, .int .i64 c.h, .int .i64 c.k, .int .i64 c.e, .int .i64 c.l] ∧ Kept [] w W) BX.out ?_
      have hqw : w.heap.size ≤ q := by omega
      clear BX hq
      rintro W ⟨CB, K0⟩
      have szb := CB.lt
      have OF := hidOf (kof_yes c ao xs n cap W HI.out HN.out (HS.out.new K0) HC.out)
      go_wp2_with (first | ((with_reducible change wpList _ _ _ (Oper.mk _ (Op.load 23 _) _ _ _ _ :: _) _ _); refine wpList_load_rw 23 isT_cf rfl (.tmp 3) rfl q rfl #[.int .i64 c.t, .int .i64 c.s, .int .i64 c.c, .int .i64 c.h, .int .i64 c.k, .int .i64 c.e, .int .i64 c.l] rfl CB ?_))
      refine OF.out.mono ?_
      rintro e w1 ⟨m, p, r, g, c', rfl, -, -, -, K1⟩
      have CB1 := CB.kept K1 (by simp)
      have K2 := K0.trans K1
      have sz0 := K0.size
      clear OF CB
      go_upto_region 2 with (first | ((with_reducible change wpList _ _ _ (Oper.mk _ (Op.store 35 (Operand.tmp 8) _) _ _ _ _ :: _) _ _); refine wpList_store_rw 35 isT_rm rfl (.tmp 8) (.tmp 19) rfl w1.heap.size (rmA c (some ⟨g, 0, none⟩) n c' 0 Acc.zero) rfl rfl rfl (rm_one _ _ _ _ _ _) rmZ (RW.new 35 w1 rmZ) rfl ?_))
      refine gen_world (fun V => Kept [] w1 V) (((Kept.refl [] w1).alloc _).setRow (Or.inr (Nat.le_refl _)) _) ?_
      rintro V KV
      have CB2 := CB1.kept KV (by simp)
      have K3 := K2.trans KV
      clear CB1
      go_wp2_with fail
      refine (knew_any 1 _).mono ?_
      rintro e w2 ⟨a, rfl, ha, SA, K4⟩
      have K5 := K3.trans K4
      go_wp2_with fail
      refine (knew_any 2 _).mono ?_
      rintro e w3 ⟨b, rfl, hb, SB, K6⟩
      have K7 := K5.trans K6
      have AL := hidOf (alive_any _ (HT.out.kept K7))
      clear HT
      go_wp2_with fail
      refine AL.out.mono ?_
      rintro e WA ⟨rfl, KA⟩
      go_wp2
      go_ret
      exact ⟨rfl, K7.trans KA⟩
    · skip
      go_enter Tryd.func6, Tryd.ntmps6
      go_upto_region 1 with (fail)
      rw [← hq]
      refine gen_world (fun W => RW 23 W q #[.int .i64 c.t, .int .i64 c.s, .int .i64 c.c, .int .i64 c.h, .int .i64 c.k, .int .i64 c.e, .int .i64 c.l] ∧ Kept [] w W) BX.out ?_
      have hqw : w.heap.size ≤ q := by omega
      clear BX hq
      rintro W ⟨CB, K0⟩
      have szb := CB.lt
      have OF := hidOf (kof_yes c ao xs n cap W HI.out HN.out (HS.out.new K0) HC.out)
      go_wp2_with (first | ((with_reducible change wpList _ _ _ (Oper.mk _ (Op.load 23 _) _ _ _ _ :: _) _ _); refine wpList_load_rw 23 isT_cf rfl (.tmp 3) rfl q rfl #[.int .i64 c.t, .int .i64 c.s, .int .i64 c.c, .int .i64 c.h, .int .i64 c.k, .int .i64 c.e, .int .i64 c.l] rfl CB ?_))
      refine OF.out.mono ?_
      rintro e w1 ⟨m, p, r, g, c', rfl, ⟨a1, a2, a3, a4, a5⟩, M, R, K1⟩
      have CB1 := CB.kept K1 (by simp)
      have K2 := K0.trans K1
      have sz0 := K0.size
      clear OF CB
      have hsz : p < w1.heap.size ∧ r < w1.heap.size ∧ m < w1.heap.size := ⟨lt_of_blk M.bk.st, lt_of_blk M.bk.row, lt_of_blk M.st⟩
      go_upto_region 2 with (first | ((with_reducible change wpList _ _ _ (Oper.mk _ (Op.store 35 (Operand.tmp 8) _) _ _ _ _ :: _) _ _); refine wpList_store_rw 35 isT_rm rfl (.tmp 8) (.tmp 19) rfl w1.heap.size (rmA c (some ⟨g, 0, none⟩) n c' 0 Acc.zero) rfl rfl rfl (rm_one _ _ _ _ _ _) rmZ (RW.new 35 w1 rmZ) rfl ?_))
      refine gen_world (fun V => Kept [] w1 V) (((Kept.refl [] w1).alloc _).setRow (Or.inr (Nat.le_refl _)) _) ?_
      rintro V KV
      have CB2 := CB1.kept KV (by simp)
      have K3 := K2.trans KV
      clear CB1
      go_wp2_with fail
      refine (knew_any 1 _).mono ?_
      rintro e w2 ⟨a, rfl, ha, SA, K4⟩
      have K5 := K3.trans K4
      go_wp2_with fail
      refine (knew_any 2 _).mono ?_
      rintro e w3 ⟨b, rfl, hb, SB, K6⟩
      have K7 := K5.trans K6
      have szv := KV.size
      have sz2 := K4.size
      have saw := SA.lt
      have AP : Hid (Ap w a b m p r q) := by
        have s1 := K1.size
        exact ⟨by omega, by omega, by omega, by omega, by omega, by omega, by omega, by omega, by omega⟩
      have F0 : Hid (TI w w3 a b m p r q n c xs 0 Acc.zero ⟨0, 1, 0, 0, 0, 0, 1⟩ ⟨0, 2, 0, 0, 0, 0, 2⟩) := ⟨SA.kept K6 (by simp), SB, M.new ((KV.trans K4).trans K6), CB2.kept (K4.trans K6) (by simp), K7, KI.start c 1, KI.start c 2, Own1.start c xs 1, Own1.start c xs 2, Or.inl rfl, HW.out, HN.out.symm⟩
      clear SA SB M R CB2 K7 K6 K5 K4 K3 K2 K1 K0 KV hsz
      go_wp2
      go_loopw [49] (fun i wr => ∃ (j : Nat) (cs : List Int) (cnt : Int) (x : Acc) (s t : Ks), j ≤ k ∧ i = .int .i64 j ∧ 0 ≤ cnt ∧ cnt ≤ j ∧ TI w wr a b m p r q n c cs cnt x s t) (fun i _ => k - (intOf i).toNat)
      case atStart => exact ⟨0, xs, 0, Acc.zero, _, _, Nat.zero_le _, rfl, Int.le_refl _, Int.le_refl _, F0.out⟩
      case round =>
        clear F0
        obtain ⟨j, cs, cnt, x, s, t, hj, rfl, c0, c1, F⟩ := hrel
        have HF := hidOf F
        clear F
        by_cases hlt : j < k
        · have hltz : (j : Int) < (k : Int) := by omega
          obtain ⟨b1, o1, e1, lt1, r0⟩ := bool_row (HL.out.new HF.out.kp) (by rw [← HK.out]; exact hlt)
          rw [e1]
          have nb := stN_bd cnt s
          have nb2 := stN_bd cnt t
          generalize ts.getD j false = tu at r0
          cases tu
          · have ST := hidOf (HF.out.callB AP.out HI.out HT.out c0 (by omega))
            go_wp2_with fail
            refine ST.out.mono ?_
            rintro e w4 ⟨rfl, F4⟩
            clear ST HF r0
            have HF := hidOf F4
            clear F4
            go_wp2
            go_roundw
            case rel => exact ⟨j + 1, _, _, _, _, _, by omega, by go_num, by omega, by omega, HF.out⟩
            case measure => simp [intOf]; omega
          · have ST := hidOf (HF.out.callA AP.out HI.out HT.out c0 (by omega))
            go_wp2_with fail
            refine ST.out.mono ?_
            rintro e w4 ⟨rfl, F4⟩
            clear ST HF r0
            have HF := hidOf F4
            clear F4
            go_wp2
            go_roundw
            case rel => exact ⟨j + 1, _, _, _, _, _, by omega, by go_num, by omega, by omega, HF.out⟩
            case measure => simp [intOf]; omega
        · have q2 := cell_of_blk HF.out.cf (i := 2) (v := .int .i64 c.c) rfl
          go_wp2
          go_loopw [65] (fun i wr => ∃ (l : Nat) (cs : List Int) (cnt : Int) (x : Acc) (s t : Ks), (l : Int) ≤ 2 * c.c + 1 ∧ i = .int .i64 l ∧ 0 ≤ cnt ∧ cnt ≤ 300 + 2 * l ∧ TI w wr a b m p r q n c cs cnt x s t ∧ Hid ((mu c s ≤ 2 * c.c - l ∨ 3 ≤ s.ph) ∧ (mu c t ≤ 2 * c.c - l ∨ 3 ≤ t.ph))) (fun i _ => (2 * c.c + 1 - intOf i).toNat)
          case atStart => exact ⟨0, cs, cnt, x, s, t, by omega, rfl, c0, by omega, HF.out, ⟨Or.inl (by have := mu_le n0 HF.out.si; omega), Or.inl (by have := mu_le n0 HF.out.ti; omega)⟩⟩
          case round =>
            clear HF
            obtain ⟨l, cs, cnt, x, s, t, hj, rfl, c0, c1, F, MU⟩ := hrel
            have HF := hidOf F
            clear F
            by_cases hlt : (l : Int) < 2 * c.c + 1
            · have ST := hidOf (HF.out.callA AP.out HI.out HT.out c0 (by omega))
              have nb := stN_bd cnt s
              go_wp2_with fail
              refine ST.out.mono ?_
              rintro e w4 ⟨rfl, F4⟩
              have MA := hidOf (mu_next (cs := cs) HF.out.si MU.out.1)
              clear ST HF
              have ST := hidOf (F4.callB AP.out HI.out HT.out (by omega) (by omega))
              have nb2 := stN_bd (stN cnt s) t
              have MB := hidOf (mu_next (cs := stC c cs s) F4.ti MU.out.2)
              clear F4
              go_wp2_with fail
              refine ST.out.mono ?_
              rintro e w5 ⟨rfl, F5⟩
              have HF := hidOf F5
              clear F5 ST
              go_wp2
              go_roundw
              case rel => exact ⟨l + 1, _, _, _, _, _, by omega, by go_num, by omega, by omega, HF.out, ⟨MA.out.imp (fun h => by omega) id, MB.out.imp (fun h => by omega) id⟩⟩
              case measure => simp [intOf]; omega
            · have d1 : 3 ≤ s.ph := MU.out.1.elim (fun h => by have := mu_nonneg n0 HF.out.si; omega) id
              have d2 : 3 ≤ t.ph := MU.out.2.elim (fun h => by have := mu_nonneg n0 HF.out.ti; omega) id
              have D1 := hidOf (decide_eq_true d1)
              have D2 := hidOf (decide_eq_true d2)
              have AL := hidOf (alive_any wr (HT.out.kept HF.out.kp))
              clear d1 d2 MU
              go_wp2_with fail
              refine AL.out.mono ?_
              rintro e w5 ⟨rfl, K5⟩
              have HG := hidOf (HF.out.new K5)
              clear HF AL K5
              have DA := hidOf (kdone_any a s w5 HG.out.ka)
              have DB := hidOf (kdone_any b t w5 HG.out.kb)
              rw [D1.out] at DA
              rw [D2.out] at DB
              have T5 := hidOf (HT.out.kept HG.out.kp)
              by_cases hg0 : s.gt = 0
              · have GA := hidOf (kgot_any a s w5 HG.out.ka)
                rw [hg0] at GA
                clear hg0
                go_wp2_with (first
                  | (go_at_call 16; (first | (refine DA.out.mono ?_; rintro e w9 ⟨rfl, rfl⟩) | (refine DB.out.mono ?_; rintro e w9 ⟨rfl, rfl⟩)))
                  | (go_at_call 17; refine GA.out.mono ?_; rintro e w9 ⟨rfl, rfl⟩))
                go_ret
                exact ⟨rfl, HG.out.kp⟩
              · have hgb : (s.gt == 0) = false := by simp [hg0]
                have NE : ¬ ixV s.gt = ixV t.gt := by
                  rcases HG.out.ap with h | h | h
                  · exact absurd h hg0
                  · exact h
                  · rcases HG.out.os.gt with g | ⟨g0, g1, g2, g3⟩
                    · exact absurd g hg0
                    · rw [h]; unfold ixV at g1 ⊢; omega
                have NEb : (ixV s.gt != ixV t.gt) = true := by simp [NE]
                have GA := hidOf (kgot_any a s w5 HG.out.ka)
                have GB := hidOf (kgot_any b t w5 HG.out.kb)
                have IA := hidOf (index_any s.gt w5 T5.out HG.out.os.gb.1 HG.out.os.gb.2)
                have IB := hidOf (fun W (k : Kept [] w5 W) => index_any t.gt W (T5.out.kept k) HG.out.ot.gb.1 HG.out.ot.gb.2)
                have GB2 := hidOf (fun W (k : Kept [] w5 W) => kgot_any b t W (HG.out.kb.kept k (by simp)))
                have NEi := NE
                clear NE
                generalize s.gt = sg at *
                generalize t.gt = tg at *
                generalize ixV sg = is at *
                generalize ixV tg = it at *
                go_wp2_with (first
                  | (go_at_call 16; (first | (refine DA.out.mono ?_; rintro e w9 ⟨rfl, rfl⟩) | (refine DB.out.mono ?_; rintro e w9 ⟨rfl, rfl⟩)))
                  | (go_at_call 17; refine GA.out.mono ?_; rintro e w9 ⟨rfl, rfl⟩))
                refine IA.out.mono ?_
                rintro e w6 ⟨rfl, K6⟩
                go_wp2_with fail
                refine (GB2.out _ K6).mono ?_
                rintro e w7 ⟨rfl, rfl⟩
                go_wp2_with fail
                refine (IB.out _ K6).mono ?_
                rintro e w8 ⟨rfl, K8⟩
                go_wp2
                go_ret
                exact ⟨rfl, (HG.out.kp.trans K6).trans K8⟩
  · have HI := hidOf hW
    clear hW
    go_enter Tryd.func6, Tryd.ntmps6
    go_upto_region 1 with (fail)
    rw [← hq]
    refine gen_world (fun W => RW 23 W q #[.int .i64 c.t, .int .i64 c.s, .int .i64 c.c, .int .i64 c.h, .int .i64 c.k, .int .i64 c.e, .int .i64 c.l] ∧ Kept [] w W) BX.out ?_
    have hqw : w.heap.size ≤ q := by omega
    clear BX hq
    rintro W ⟨CB, K0⟩
    have szb := CB.lt
    have OF := hidOf (kof_no c ao n cap W HI.out)
    go_wp2_with (first | ((with_reducible change wpList _ _ _ (Oper.mk _ (Op.load 23 _) _ _ _ _ :: _) _ _); refine wpList_load_rw 23 isT_cf rfl (.tmp 3) rfl q rfl #[.int .i64 c.t, .int .i64 c.s, .int .i64 c.c, .int .i64 c.h, .int .i64 c.k, .int .i64 c.e, .int .i64 c.l] rfl CB ?_))
    refine OF.out.mono ?_
    rintro e w1 ⟨rfl, K1⟩
    have CB1 := CB.kept K1 (by simp)
    have K2 := K0.trans K1
    have sz0 := K0.size
    clear OF CB
    go_upto_region 2 with (first | ((with_reducible change wpList _ _ _ (Oper.mk _ (Op.store 35 (Operand.tmp 8) _) _ _ _ _ :: _) _ _); refine wpList_store_rw 35 isT_rm rfl (.tmp 8) (.tmp 19) rfl w1.heap.size rmZ rfl rfl rfl rmZ_one rmZ (RW.new 35 w1 rmZ) rfl ?_))
    refine gen_world (fun V => Kept [] w1 V) (((Kept.refl [] w1).alloc _).setRow (Or.inr (Nat.le_refl _)) _) ?_
    rintro V KV
    have CB2 := CB1.kept KV (by simp)
    have K3 := K2.trans KV
    clear CB1
    go_wp2_with fail
    refine (knew_any 1 _).mono ?_
    rintro e w2 ⟨a, rfl, ha, SA, K4⟩
    have K5 := K3.trans K4
    go_wp2_with fail
    refine (knew_any 2 _).mono ?_
    rintro e w3 ⟨b, rfl, hb, SB, K6⟩
    have K7 := K5.trans K6
    have AL := hidOf (alive_any _ (HT.out.kept K7))
    clear HT
    go_wp2_with fail
    refine AL.out.mono ?_
    rintro e WA ⟨rfl, KA⟩
    go_wp2
    go_ret
    exact ⟨rfl, K7.trans KA⟩

set_option maxRecDepth 100000 in
theorem claimTwo_lifted (os : Os) (started : os.Started) (H : Type) (enc : TypeId × Value → H) :
    ReturnsInHanded {} Tryd.checked os 6 .any (fun w args => (Rows.claimTwoSpec.pre enc Tryd.prog Tryd.f6 [] false w args ∧ laidMetH Tryd.prog laid1 w) ∧ sizedMet enc Tryd.prog Tryd.f6 (OpenSpec.ofChange Rows.claimTwoSpec) false w args)
      (Rows.claimTwoSpec.post enc Tryd.prog Tryd.f6 false true false false) := by
  refine returnsInHanded_of_change_and (C := Tryd.checked) (X := fun w _ => laidMetH Tryd.prog laid1 w) (fun _ _ _ hh h => h.of_heap hh) own started (by kernel_rfl) Tryd.func6
    (ChangeSpec.witness_shaped (enc := enc) (C := Tryd.checked) (os := os) (X := fun w _ => laidMetH Tryd.prog laid1 w) false (World.doorLaid Tryd.prog 400 os) #[.agg #[.int .i64 0, .int .i64 0, .int .i64 0, .int .i64 0, .int .i64 0, .int .i64 0, .int .i64 0], .slice none 0 0, .slice none 0 0] 8 rfl (World.shaped_of_RefB (by kernel_rfl) (by kernel_rfl)) (by kernel_rfl) (by kernel_rfl) (by kernel_rfl) (door_met os _)) ?_
  intro W base args ds gs before hval0 hW _ _ hL _
  have hval : ∀ (j : Nat) t v, Tryd.f6.params[j]? = some t → args[j]? = some v → Value.okWide Tryd.prog W .any base t v := hval0
  have hW' := hW
  obtain ⟨p, q, hA0, hV, rfl, _, _⟩ := hW
  have hA : DataW.TrodAll enc Tryd.prog W 0 (fun _ => true) true Tryd.f6.params.toList args.toList ds p := hA0
  rw [Tryd.params6] at hA hval
  clear hA0 hval0
  obtain ⟨v0, vs0, d0, ds0, p0, q0, hargs, rfl, rfl, h0, r0⟩ := trodAll_cons hA
  obtain ⟨v1, vs1, d1, ds1, p1, q1, rfl, rfl, rfl, h1, r1⟩ := trodAll_cons r0
  obtain ⟨v2, vs2, d2, ds2, p2, q2, rfl, rfl, rfl, h2, r2⟩ := trodAll_cons r1
  obtain ⟨rfl, rfl, rfl⟩ := trodAll_nil r2
  obtain rfl : args = #[v0, v1, v2] := by cases args; simp_all
  obtain ⟨rfl, rfl⟩ := trodVars_none hV
  have k0 := h0
  have k1 := h1
  have k2 := h2
  simp only [List.append_nil] at hW'
  have hlt0 : ∀ x ∈ p0, x.block < W.heap.size := fun x hx => hW'.lt x (by simp [hx])
  have hlt1 : ∀ x ∈ p1, x.block < W.heap.size := fun x hx => hW'.lt x (by simp [hx])
  have hlt2 : ∀ x ∈ p2, x.block < W.heap.size := fun x hx => hW'.lt x (by simp [hx])
  obtain ⟨c0, rfl, g0⟩ := open_cfg (hval 0 23 v0 rfl rfl) h0
  obtain ⟨ao1, cap1, xs1, rfl, s1, g1, z1, n1⟩ := open_words (hval 1 24 v1 rfl rfl) h1
  obtain ⟨lo2, lc2, ts2, rfl, sl2⟩ := open_bools (hval 2 64 v2 rfl rfl) h2
  refine (claimTwo_walk W c0 g0 ao1 xs1 cap1 s1 g1 n1 lo2 ts2 lc2 sl2 (tab_of_laid hL)).mono fun e W' ⟨he, hg⟩ => ?_
  subst he
  have hb := hg.below (by simp)
  exact ⟨_, rfl, _, _, _, [], _, [], hW', (trodAll_cons_mk (shut_bool Tryd.underlying4 _) trodAll_mk0), (trodAll_cons_mk (Below.trod laidOut (by kernel_rfl) (of_decide_eq_true (by kernel_rfl)) k0 hb hlt0) (trodAll_cons_mk (Below.trod laidOut (by kernel_rfl) (of_decide_eq_true (by kernel_rfl)) k1 hb hlt1) (trodAll_cons_mk (Below.trod laidOut (by kernel_rfl) (of_decide_eq_true (by kernel_rfl)) k2 hb hlt2) trodAll_mk0))), rfl, hb.frame _, fun h => by cases h⟩

theorem claimTwo_over : Rows.ClaimTwoSaid :=
  OpenClaim.holds_of_wide 6 Tryd.f6 rfl rfl rfl rfl rfl rfl rfl ⟨rfl, rfl, rfl, rfl, rfl⟩ rfl rfl rfl rfl rfl (by kernel_rfl) Tryd.func6 (by kernel_rfl)
    (of_decide_eq_true (by kernel_rfl)) (by unfold Func.isWrapper; first | (rw [if_pos (by decide +kernel)]; kernel_rfl) | (rw [if_neg (by decide +kernel)]; exact ⟨rfl, rfl⟩))
    (fun os started H enc _ => claimTwo_lifted os started H enc)

theorem claimTwo_holds : Rows.ClaimTwoCardSaid :=
  Claim7.holds_tied_plain_at .later [] [.data] true (true, "16d24a33fc2aa0e14e1eec150c167cb59402c41f178cda57adfd34c93caf4e6b") false
    claimTwo_over (fun _ h => by cases h) (by kernel_rfl) (fun _ h => by cases h) claimTwo_row_tie rfl ⟨rfl, rfl⟩ (by kernel_rfl) rfl
    (fun f fn hf hfn => by
      obtain rfl : f = 6 := Option.some.inj ((show Tryd.prog.funcNamed "stepstone/stepstonelaw09.ClaimTwo" = some 6 by kernel_rfl).symm.trans hf) |>.symm
      obtain rfl : fn = Tryd.f6 := (Option.some.inj (Tryd.func6.symm.trans hfn)).symm
      exact ⟨by kernel_rfl, fun j t ht => by
          rw [Tryd.params6] at ht
          rcases j with _ | j
          · have : t = 23 := by simpa using ht.symm
            subst this; exact (show Tryd.prog.wantsStandIn 23 = false by kernel_rfl)
          rcases j with _ | j
          · have : t = 24 := by simpa using ht.symm
            subst this; exact (show Tryd.prog.wantsStandIn 24 = false by kernel_rfl)
          rcases j with _ | j
          · have : t = 64 := by simpa using ht.symm
            subst this; exact (show Tryd.prog.wantsStandIn 64 = false by kernel_rfl)
          simp at ht⟩)
    (by kernel_rfl)
#print axioms claimTwo_holds
end Go.Proofs.YtmmpafhfanldbaaDoor
