/-
  Alone a claim gets a slot just if one is free, in few steps: that one was free, and is taken, in its generation; nothing else is changed.
  Conditions: the package variable of handle that the code reads starts as the program's text lays it (the card ties it to that text).
-/
import Derived.Test.YtmmpafhfanldbaaDoorKMeta
import Derived.Test.YtmmpafhfanldbaaDoorKMtAl
import Derived.Test.YtmmpafhfanldbaaDoorHLaid
import Derived.Test.YtmmpafhfanldbaaDoorPArgs
import Derived.ProofKit
import Derived.SizedLaws
import Derived.Carry
namespace Go.Proofs.YtmmpafhfanldbaaDoor
open Go.ChangeShapes Go.WideShapes Go.ChangeAt Go.RowKit
open Go.Deep
open Go.Proofs.YtmmpafhfanldbaaDoor.K
set_option maxRecDepth 100000

theorem gn_pk (i g : Int) (i0 : 0 ≤ i) (i1 : i < 4294967296) (g0 : 0 ≤ g) (g1 : g ≤ 1073741823) : gnV (packV i g false) = g := by unfold gnV packV; simp; omega
theorem gn_me (g : Int) (g1 : g ≤ 1073741823) : S.gnV (S.meV 1 g) = g := by unfold S.gnV S.meV; rw [show (4 * g + 1) / 4 = g by omega, if_pos g1]
theorem wdK_bd {c : Cfg} {cs : List Int} (h : Wds cs) (hr : riB c = true) (hl : (cs.length : Int) = lnV c) {i : Int} (h0 : 0 ≤ i) (h1 : i ≤ c.c) : 0 ≤ wdK c cs i ∧ wdK c cs i < 18446744073709551616 := by
  rw [wd_mp hr hl h0 h1]
  have b := (mp_has hr hl h0 h1).2
  have e : cs.getD (mp c i) 0 = cs[mp c i] := by simp [b]
  rw [e]
  exact h _ (List.getElem_mem b)
/-- What holds of a claim that goes on alone. -/
structure AI (w wr : World) (a m p r q q7 : Nat) (c : Cfg) (cs0 : List Int) (f : Int) (j : Int) (cs : List Int) (cnt : Int) (x : Acc) (s : Ks) : Prop where
  ka : KS wr a s
  mm : Mm wr m p r c cs cnt x
  cf : RW 23 wr q #[.int .i64 c.t, .int .i64 c.s, .int .i64 c.c, .int .i64 c.h, .int .i64 c.k, .int .i64 c.e, .int .i64 c.l]
  pb : PB wr q7 m
  kp : Kept [] w wr
  al : AlS c cs0 f j cs s
theorem AI.new {w wr wv : World} {a m p r q q7 : Nat} {c : Cfg} {cs0 : List Int} {f j : Int} {cs : List Int} {cnt : Int} {x : Acc} {s : Ks} (h : AI w wr a m p r q q7 c cs0 f j cs cnt x s) (kv : Kept [] wr wv) : AI w wv a m p r q q7 c cs0 f j cs cnt x s :=
  ⟨h.ka.kept kv (by simp), h.mm.new kv, h.cf.kept kv (by simp), h.pb.kept kv (by simp), h.kp.trans kv, h.al⟩
/-- The blocks of the law are apart. -/
structure Aq (w : World) (a m p r q q7 : Nat) : Prop where
  aq : ¬ a = q
  a7 : ¬ a = q7
  qp : ¬ q = p
  qr : ¬ q = r
  sp : ¬ q7 = p
  sr : ¬ q7 = r
  a0 : w.heap.size ≤ a
  p0 : w.heap.size ≤ p
  r0 : w.heap.size ≤ r
theorem AI.call {w wr : World} {a m p r q q7 n : Nat} {c : Cfg} {cs0 : List Int} {f j : Int} {cs : List Int} {cnt : Int} {x : Acc} {s : Ks} (h : AI w wr a m p r q q7 c cs0 f j cs cnt x s) (ap : Aq w a m p r q q7) (hW : IsW c n) (hT : Tab w) (j0 : 0 ≤ j) (c0 : 0 ≤ cnt) (c1 : cnt < 4611686018427387904) :
    Calls Tryd.prog 13 #[.pointer (some ⟨a, 0, none⟩), .pointer (some ⟨m, 0, none⟩)] wr fun e w' => e = .returned (.tuple #[]) ∧ AI w w' a m p r q q7 c cs0 f (j + 1) (stC c cs s) (stN cnt s) (stA c cs x s) (stK c cs s) ∧ Kept [a, p, r] wr w' := by
  obtain ⟨n0, n64⟩ := isW_cap hW
  refine (step_any a m p r c cs cnt x s wr h.ka h.mm (hT.kept h.kp) h.al.ki h.al.wd n0 n64 c0 c1).mono fun _ _ hh => ⟨hh.1, ?_, hh.2.2.2⟩
  obtain ⟨b1, b2, b3⟩ := h.ka.nm h.mm
  have := ap.aq; have := ap.a7; have := ap.qp; have := ap.qr; have := ap.sp; have := ap.sr; have := ap.a0; have := ap.p0; have := ap.r0
  have k := hh.2.2.2
  exact ⟨hh.2.1, hh.2.2.1, h.cf.kept k (by simp; omega), h.pb.kept k (by simp; omega), h.kp.then k (by simp; omega), h.al.step hW.1 n0 j0⟩
/-- How many free slots were counted, and how many that changed, behind so many. -/
def CntP (c : Cfg) (cs0 cs : List Int) (s : Ks) (i : Int) (f d : Nat) : Prop :=
  (∃ I, GotIt c cs0 cs s I ∧ d = (if I ≤ i then 1 else 0) ∧ (I ≤ i → 1 ≤ f)) ∨ (NoneFree c cs0 cs s ∧ f = 0 ∧ d = 0)
/-- A slot that did not change, and was not free. -/
theorem cnt_keep {c : Cfg} {cs0 cs : List Int} {s : Ks} {i : Int} {f d : Nat} (h : CntP c cs0 cs s i f d) (hz : ¬ S.stV (wdK c cs0 (i + 1)) = 0) : CntP c cs0 cs s (i + 1) f d := by
  rcases h with ⟨I, g, hd, hf⟩ | h
  · have ne : ¬ I = i + 1 := fun e => hz (by rw [← e]; exact g.st)
    refine Or.inl ⟨I, g, ?_, fun x => hf (by omega)⟩
    rw [hd]; by_cases q : I ≤ i
    · rw [if_pos q, if_pos (by omega)]
    · rw [if_neg q, if_neg (by omega)]
  · exact Or.inr h
/-- A slot that did not change, and was free. -/
theorem cnt_free {c : Cfg} {cs0 cs : List Int} {s : Ks} {i : Int} {f d : Nat} (h : CntP c cs0 cs s i f d) (i0 : 0 ≤ i) (i1 : i + 1 ≤ c.c) (w0 : 0 ≤ wdK c cs0 (i + 1)) (hz : S.stV (wdK c cs0 (i + 1)) = 0) (he : wdK c cs0 (i + 1) = wdK c cs (i + 1)) : CntP c cs0 cs s (i + 1) (f + 1) d := by
  rcases h with ⟨I, g, hd, hf⟩ | h
  · have ne : ¬ I = i + 1 := fun e => by
      have z := g.at_ (i + 1) (by omega) i1
      rw [if_pos e.symm, ← he] at z
      have z2 := st_me _ (by rw [← e] at w0; exact w0 : 0 ≤ wdK c cs0 I)
      rw [← z, hz] at z2
      exact absurd z2 (by decide)
    refine Or.inl ⟨I, g, ?_, fun x => by have := hf (by omega); omega⟩
    rw [hd]; by_cases q : I ≤ i
    · rw [if_pos q, if_pos (by omega)]
    · rw [if_neg q, if_neg (by omega)]
  · exact absurd hz (h.1.no _ (by omega) i1)
/-- A slot that changed: it is the one that was got. -/
theorem cnt_new {c : Cfg} {cs0 cs : List Int} {s : Ks} {i : Int} {f d : Nat} (h : CntP c cs0 cs s i f d) (h64 : c.c ≤ 64) (i0 : 0 ≤ i) (i1 : i + 1 ≤ c.c) (w0 : 0 ≤ wdK c cs0 (i + 1)) (he : ¬ wdK c cs0 (i + 1) = wdK c cs (i + 1)) :
    CntP c cs0 cs s (i + 1) (f + 1) (d + 1) ∧ d = 0 ∧ ixV s.gt = i + 1 ∧ S.stV (wdK c cs0 (i + 1)) = 0 ∧ S.stV (wdK c cs (i + 1)) = 1 ∧ S.gnV (wdK c cs (i + 1)) = S.gnV (wdK c cs0 (i + 1)) ∧ gnV s.gt = S.gnV (wdK c cs0 (i + 1)) ∧ 0 ≤ s.gt ∧ s.gt < 18446744073709551616 := by
  rcases h with ⟨I, g, hd, hf⟩ | h
  · have z := g.at_ (i + 1) (by omega) i1
    have e : i + 1 = I := by
      by_cases q : i + 1 = I
      · exact q
      · rw [if_neg q] at z; exact absurd z.symm he
    rw [if_pos e] at z
    rw [z, e]
    have gb := S.gn_bd (wdK c cs0 I) (by rw [← e]; exact w0)
    have gt := g.gt
    have pb := pack_bd I (S.gnV (wdK c cs0 I)) (by omega) (by omega) gb.1 gb.2
    refine ⟨Or.inl ⟨I, g, ?_, fun _ => by omega⟩, ?_, ?_, g.st, ?_, ?_, ?_, ?_, ?_⟩
    · rw [hd, if_neg (by omega), if_pos (by omega)]
    · rw [hd, if_neg (by omega)]
    · rw [gt]; exact ix_pack I _ (by omega) (by omega)
    · exact st_me _ (by rw [← e]; exact w0)
    · exact gn_me _ gb.2
    · rw [gt]; exact gn_pk I _ (by omega) (by omega) gb.1 gb.2
    · rw [gt]; omega
    · rw [gt]; omega
  · rw [h.1.cs] at he; exact absurd rfl he
theorem gt_kw {a : Nat} {s : Ks} {w : World} (h : KS w a s) : Hid (∀ p : KW w, Calls Tryd.prog 17 #[.pointer (some ⟨a, 0, none⟩)] p.val fun e w'' => e = .returned (.int .u64 s.gt) ∧ ∃ q : KW w, w'' = q.val) :=
  fun p => (kgot_any a s p.val (h.kept p.kept (by simp))).mono fun _ _ hh => ⟨hh.1, p, hh.2⟩
theorem st_kw (x y : Int) (w : World) (h0 : 0 ≤ x) (h1 : x < 18446744073709551616) (e : S.stV x = y) : Hid (∀ p : KW w, Calls Tryd.prog 28 #[.int .u64 x] p.val fun e w'' => e = .returned (.int .i64 y) ∧ ∃ q : KW w, w'' = q.val) :=
  fun p => Calls.kw_of (e ▸ S.state_any x p.val h0 h1)
theorem gn_kw (x y : Int) (w : World) (h0 : 0 ≤ x) (h1 : x < 18446744073709551616) (e : S.gnV x = y) : Hid (∀ p : KW w, Calls Tryd.prog 30 #[.int .u64 x] p.val fun e w'' => e = .returned (.int .i64 y) ∧ ∃ q : KW w, w'' = q.val) :=
  fun p => Calls.kw_of (e ▸ S.gen_any x p.val h0 h1)
theorem hg_kw (x y : Int) (w : World) (hT : Tab w) (h0 : 0 ≤ x) (h1 : x < 18446744073709551616) (e : gnV x = y) : Hid (∀ p : KW w, Calls Tryd.prog 31 #[.int .u64 x] p.val fun e w'' => e = .returned (.int .i64 y) ∧ ∃ q : KW w, w'' = q.val) :=
  fun p => Calls.kw_of (e ▸ gen_any x p.val (hT.kept p.kept) h0 h1)
theorem ix_kw (x y : Int) (w : World) (hT : Tab w) (h0 : 0 ≤ x) (h1 : x < 18446744073709551616) (e : ixV x = y) : Hid (∀ p : KW w, Calls Tryd.prog 29 #[.int .u64 x] p.val fun e w'' => e = .returned (.int .i64 y) ∧ ∃ q : KW w, w'' = q.val) :=
  fun p => Calls.kw_of (e ▸ index_any x p.val (hT.kept p.kept) h0 h1)
set_option maxRecDepth 100000 in
set_option maxHeartbeats 8000000 in
theorem claimAlone_walk (w : World) (c : Cfg) (_g : c.wf) (ao : Option Addr) (xs : List Int) (cap : Nat) (hs : Sl w ao xs) (hg : ∀ x ∈ xs, isWord x) (hc : ao = none → cap = 0) (fr : Int) (hT : Tab w) :
    Calls Tryd.prog 5 #[c.val, .slice ao xs.length cap, .int .i64 fr] w fun e w' => e = .returned (.bool true) ∧ Kept [] w w' := by
  simp only [Cfg.val]
  obtain ⟨n, hn⟩ : ∃ n, n = xs.length := ⟨_, rfl⟩
  rw [← hn]
  have HN := hidOf hn
  have HS := hidOf hs
  have HC := hidOf hc
  have HW := hidOf (wds_of hg)
  have HT := hidOf hT
  clear hn hs hc hg hT
  obtain ⟨q, hq⟩ : ∃ q, q = w.heap.size := ⟨_, rfl⟩
  have BX : Hid (RW 23 (w.alloc (.cells #[.int .i64 c.t, .int .i64 c.s, .int .i64 c.c, .int .i64 c.h, .int .i64 c.k, .int .i64 c.e, .int .i64 c.l] 23)) q #[.int .i64 c.t, .int .i64 c.s, .int .i64 c.c, .int .i64 c.h, .int .i64 c.k, .int .i64 c.e, .int .i64 c.l] ∧ Kept [] w (w.alloc (.cells #[.int .i64 c.t, .int .i64 c.s, .int .i64 c.c, .int .i64 c.h, .int .i64 c.k, .int .i64 c.e, .int .i64 c.l] 23))) := by rw [hq]; exact ⟨RW.new _ _ _, (Kept.refl [] w).alloc _⟩
  by_cases hW : IsW c n
  · have HI := hidOf hW
    obtain ⟨n0, n64⟩ := isW_cap hW
    have n4 := hW.2.2
    clear hW
    go_enter Tryd.func5, Tryd.ntmps5
    go_upto_region 1 with (fail)
    rw [← hq]
    refine gen_world (fun W => RW 23 W q #[.int .i64 c.t, .int .i64 c.s, .int .i64 c.c, .int .i64 c.h, .int .i64 c.k, .int .i64 c.e, .int .i64 c.l] ∧ Kept [] w W) BX.out ?_
    have hqw : w.heap.size ≤ q := by omega
    clear BX hq
    rintro W ⟨CB, K0⟩
    have szb := CB.lt
    have OF := hidOf (kof_yes c ao xs n cap W HI.out HN.out (HS.out.new K0) HC.out)
    go_wp2_with (first | ((with_reducible change wpList _ _ _ (Oper.mk _ (Op.load 23 _) _ _ _ _ :: _) _ _); refine wpList_load_rw 23 isT_cf rfl (.tmp 3) rfl q rfl #[.int .i64 c.t, .int .i64 c.s, .int .i64 c.c, .int .i64 c.h, .int .i64 c.k, .int .i64 c.e, .int .i64 c.l] rfl CB ?_))
    refine OF.out.mono ?_
    rintro e w1 ⟨m, p, r, g, c', rfl, ⟨a1, a2, a3, a4, a5⟩, M, R, K1⟩
    have CB1 := CB.kept K1 (by simp)
    have K2 := K0.trans K1
    have sz0 := K0.size
    have sz1 := K1.size
    clear OF CB
    have hsz : p < w1.heap.size ∧ r < w1.heap.size ∧ m < w1.heap.size := ⟨lt_of_blk M.bk.st, lt_of_blk M.bk.row, lt_of_blk M.st⟩
    have B8 : Hid (RW 35 ((w1.alloc (.cells #[(.pointer (some ⟨m, 0, none⟩))] 28)).alloc (.cells rmZ 35)) (w1.heap.size + 1) rmZ) := (by
      have z := RW.new 35 (w1.alloc (.cells #[(.pointer (some ⟨m, 0, none⟩))] 28)) rmZ
      rw [nblk_alloc] at z
      exact z)
    have B7 : Hid ((((w1.alloc (.cells #[(.pointer (some ⟨m, 0, none⟩))] 28)).alloc (.cells rmZ 35))).heap[w1.heap.size]? = some (.cells #[(.pointer (some ⟨m, 0, none⟩))] 28 (0, 0))) := (RW.new 28 w1 #[(.pointer (some ⟨m, 0, none⟩))]).up (.cells rmZ 35)
    go_upto_region 2 with (first | ((with_reducible change wpList _ _ _ (Oper.mk _ (Op.store 35 (Operand.tmp 8) _) _ _ _ _ :: _) _ _); refine wpList_store_rw 35 isT_rm rfl (.tmp 8) (.tmp 22) rfl (w1.heap.size + 1) (rmA c (some ⟨g, 0, none⟩) n c' 0 Acc.zero) rfl rfl rfl (rm_one _ _ _ _ _ _) rmZ B8.out rfl ?_))
    refine gen_world (fun V => Kept [] w1 V ∧ V.heap[w1.heap.size]? = some (.cells #[(.pointer (some ⟨m, 0, none⟩))] 28 (0, 0))) ⟨(((Kept.refl [] w1).alloc _).alloc _).setRow (Or.inr (Nat.le_succ _)) _, ((Kept.refl [w1.heap.size + 1] _).setRow (Or.inl (by simp)) _).blk B7.out (by simp)⟩ ?_
    rintro V ⟨KV, PV⟩
    clear B7 B8
    have CB2 := CB1.kept KV (by simp)
    have K3 := K2.trans KV
    have szv := KV.size
    clear CB1
    obtain ⟨q7, hq7⟩ : ∃ q7, q7 = w1.heap.size := ⟨_, rfl⟩
    rw [← hq7] at PV ⊢
    have lq7 := lt_of_blk PV
    have lq8 : w1.heap.size ≤ q7 := by omega
    clear hq7
    go_wp2_with fail
    refine (knew_any fr _).mono ?_
    rintro e w2 ⟨a, rfl, ha, SA, K4⟩
    have K5 := K3.trans K4
    have sz2 := K4.size
    have AP : Hid (Aq w a m p r q q7) := ⟨by omega, by omega, by omega, by omega, by omega, by omega, by omega, by omega, by omega⟩
    obtain ⟨k, hk⟩ : ∃ k : Nat, (k : Int) = c.c := ⟨c.c.toNat, by omega⟩
    have k64 : k ≤ 64 := by omega
    have k0 : 1 ≤ k := by omega
    have HK := hidOf hk
    have hkb : ((k : Int) == c.c) = true := by simp [hk]
    have HKB := hidOf hkb
    clear hkb hk
    have F0 : Hid (AI w w2 a m p r q q7 c xs (bgI c fr) 0 xs 0 Acc.zero ⟨0, fr, 0, 0, 0, 0, fr⟩) := ⟨SA, M.new (KV.trans K4), CB2.kept K4 (by simp), PB.kept PV K4 (by simp), K5, AlS.start HW.out (by rw [← HN.out]; exact HI.out.2.1) fr⟩
    have MT := hidOf (metas_any q q7 m p r c xs 0 Acc.zero k w2 F0.out.cf F0.out.pb F0.out.mm HI.out.1 (by rw [← HN.out]; exact HI.out.2.1) HK.out n0 n64)
    clear SA M R CB2 PV K5 K4 K3 K2 K1 K0 KV
    go_wp2_with fail
    refine MT.out.mono ?_
    intro e w3 hh
    unfold MetasP at hh
    obtain ⟨g1, cp1, rfl, R1, hg1, K3⟩ := hh
    have G1 := hidOf (And.intro (show w2.heap.size ≤ g1 from hg1) R1)
    have F1 := hidOf (F0.out.new K3)
    have ga : ¬ g1 = a ∧ ¬ g1 = p ∧ ¬ g1 = r := by
      have := lt_of_blk F0.out.mm.bk.st; have := lt_of_blk F0.out.mm.bk.row; have := F0.out.ka.lt
      omega
    clear MT F0 K3 R1 hg1
    have q2 := cell_of_blk F1.out.cf (i := 2) (v := .int .i64 c.c) rfl
    go_wp2
    clear q2
    go_loopw [43] (fun i wr => ∃ (j : Nat) (cs : List Int) (cnt : Int) (x : Acc) (s : Ks), (j : Int) ≤ c.c + 1 ∧ i = .int .i64 j ∧ 0 ≤ cnt ∧ cnt ≤ j ∧ AI w wr a m p r q q7 c xs (bgI c fr) j cs cnt x s ∧ WR wr g1 c xs k) (fun i _ => (c.c + 1 - intOf i).toNat)
    case atStart => exact ⟨0, xs, 0, Acc.zero, _, by omega, rfl, Int.le_refl _, Int.le_refl _, F1.out, G1.out.2⟩
    case round =>
      clear F1 G1
      obtain ⟨j, cs, cnt, x, s, hj, rfl, c0, c1, F, G⟩ := hrel
      have HF := hidOf F
      have HG := hidOf G
      clear F G
      by_cases hlt : (j : Int) < c.c + 1
      · have ST := hidOf (HF.out.call AP.out HI.out HT.out (by omega) c0 (by omega))
        have nb := stN_bd cnt s
        have q70 := cell_of_blk HF.out.pb (i := 0) (v := .pointer (some ⟨m, 0, none⟩)) rfl
        go_wp2_with fail
        refine ST.out.mono ?_
        rintro e w4 ⟨rfl, F4, K4⟩
        have HG4 := hidOf (HG.out.kept K4 (by simp; omega))
        have HF4 := hidOf F4
        clear ST HF HG F4 K4 q70
        go_wp2
        go_roundw
        case rel => exact ⟨j + 1, _, _, _, _, by omega, by go_num, by omega, by omega, HF4.out, HG4.out⟩
        case measure => simp [intOf]; omega
      · have hje : (j : Int) = c.c + 1 := by omega
        rw [hje] at HF
        have FN := hidOf (HF.out.al.fin n0)
        have MT := hidOf (metas_any q q7 m p r c cs cnt x k wr HF.out.cf HF.out.pb HF.out.mm HI.out.1 HF.out.al.len HK.out n0 n64)
        clear hje
        go_wp2_with fail
        refine MT.out.mono ?_
        intro e w5 hh
        unfold MetasP at hh
        obtain ⟨g2, cp2, rfl, R2, hg2, K5⟩ := hh
        have HG1 := hidOf (HG.out.kept K5 (by simp))
        have HG2 := hidOf R2
        have HF5 := hidOf (HF.out.new K5)
        clear MT HF HG R2 K5 hg2
        go_wp2
        go_loopw [56, 14, 15] (fun i vf vd wr => ∃ (j f d : Nat), j ≤ k ∧ i = .int .i64 j ∧ vf = .int .i64 f ∧ vd = .int .i64 d ∧ f ≤ j ∧ d ≤ j ∧ Hid (CntP c xs cs s j f d) ∧ AI w wr a m p r q q7 c xs (bgI c fr) (c.c + 1) cs cnt x s ∧ WR wr g1 c xs k ∧ WR wr g2 c cs k) (fun i _ _ _ => k - (intOf i).toNat)
        case atStart =>
          refine ⟨0, 0, 0, Nat.zero_le _, rfl, rfl, rfl, Nat.le_refl _, Nat.le_refl _, ?_, HF5.out, HG1.out, HG2.out⟩
          rcases FN.out with ⟨I, h⟩ | h
          · exact Or.inl ⟨I, h, by rw [if_neg (by have := h.i0; omega)], fun x => by have := h.i0; omega⟩
          · exact Or.inr ⟨h, rfl, rfl⟩
        case round =>
          clear HF5 HG1 HG2 FN
          obtain ⟨j, f, d, hj, rfl, rfl, rfl, hf, hd, CP, F, G1, G2⟩ := hrel
          have HF := hidOf F
          clear F
          have C64 := hidOf n64
          by_cases hlt : j < k
          · have hltz : (j : Int) < (k : Int) := by omega
            have R1 := hidOf (fun W (kk : Kept [] wr W) => (G1.kept kk (by simp)).2 j hlt)
            have R2 := hidOf (fun W (kk : Kept [] wr W) => (G2.kept kk (by simp)).2 j hlt)
            have HG := hidOf (And.intro HF.out (And.intro G1 G2))
            have j1 : (j : Int) + 1 ≤ c.c := by rw [← HK.out]; omega
            have XB := hidOf (wdK_bd HF.out.al.wd0 HI.out.1 HF.out.al.len0 (i := (j : Int) + 1) (by omega) j1)
            have YB := hidOf (wdK_bd HF.out.al.wd HI.out.1 HF.out.al.len (i := (j : Int) + 1) (by omega) j1)
            have CK := hidOf (fun hz => cnt_keep CP.out (i := (j : Int)) hz)
            have CF := hidOf (fun hz he => cnt_free CP.out (by omega) j1 XB.out.1 hz he)
            have CN := hidOf (fun he => cnt_new CP.out C64.out (by omega) j1 XB.out.1 he)
            clear CP G1 G2 j1 HF
            generalize hX : wdK c xs ((j : Int) + 1) = X at *
            generalize hY : wdK c cs ((j : Int) + 1) = Y at *
            clear hX hY
            have r1 : wr.cell? ⟨g1, j, none⟩ = some (.int .u64 X) := R1.out _ (Kept.refl _ _)
            by_cases hxy : X = Y
            · subst hxy
              clear CN
              by_cases hz : S.stV X = 0
              · have CE := hidOf (CF.out hz rfl)
                have ST := hidOf (S.state_any X wr XB.out.1 XB.out.2)
                rw [hz] at ST
                clear CF CK hz
                go_wp2_with fail
                refine ST.out.mono ?_
                rintro e w4 ⟨rfl, K4⟩
                have s1 : ∀ p : KW w4, p.val.cell? ⟨g1, j, none⟩ = some (.int .u64 X) := KW.cell (R1.out _ K4)
                have s2 : ∀ p : KW w4, p.val.cell? ⟨g2, j, none⟩ = some (.int .u64 X) := KW.cell (R2.out _ K4)
                clear r1
                go_wp2_with fail
                refine wp_region_kept (by kernel_rfl) (by kernel_rfl) ?_
                repeat (first | go_big_quiet_step ((fail)) | quiet_step ((fail)))
                refine wpQuiet_nil ?_
                intro _ hw'
                obtain ⟨pq, hw''⟩ := hw'
                subst hw''
                have KQ := K4.trans pq.kept
                clear s1 s2
                go_wp2
                go_roundw
                case rel => exact ⟨j + 1, f + 1, d, by omega, by go_num, by go_num, rfl, by omega, by omega, CE.out, HG.out.1.new KQ, HG.out.2.1.kept KQ (by simp), HG.out.2.2.kept KQ (by simp)⟩
                case measure => simp [intOf]; omega
              · have CE := hidOf (CK.out hz)
                have ST := hidOf (S.state_any X wr XB.out.1 XB.out.2)
                have hzb : (S.stV X == 0) = false := by simp [hz]
                clear CF CK hz
                generalize S.stV X = TX at *
                go_wp2_with fail
                refine ST.out.mono ?_
                rintro e w4 ⟨rfl, K4⟩
                have s1 : ∀ p : KW w4, p.val.cell? ⟨g1, j, none⟩ = some (.int .u64 X) := KW.cell (R1.out _ K4)
                have s2 : ∀ p : KW w4, p.val.cell? ⟨g2, j, none⟩ = some (.int .u64 X) := KW.cell (R2.out _ K4)
                clear r1
                go_wp2_with fail
                refine wp_region_kept (by kernel_rfl) (by kernel_rfl) ?_
                repeat (first | go_big_quiet_step ((fail)) | quiet_step ((fail)))
                refine wpQuiet_nil ?_
                intro _ hw'
                obtain ⟨pq, hw''⟩ := hw'
                subst hw''
                have KQ := K4.trans pq.kept
                clear s1 s2
                go_wp2
                go_roundw
                case rel => exact ⟨j + 1, f, d, by omega, by go_num, rfl, rfl, by omega, by omega, CE.out, HG.out.1.new KQ, HG.out.2.1.kept KQ (by simp), HG.out.2.2.kept KQ (by simp)⟩
                case measure => simp [intOf]; omega
            · obtain ⟨CE0, d0, e1, e2, e3, e4, e5, gb0, gb1⟩ := CN.out hxy
              have CE := hidOf CE0
              have hxyb : (X == Y) = false := by simp [hxy]
              have hxyn : (X != Y) = true := by simp [hxy]
              have ST := hidOf (S.state_any X wr XB.out.1 XB.out.2)
              rw [e2] at ST
              obtain ⟨G, hG⟩ : ∃ G, G = S.gnV X := ⟨_, rfl⟩
              rw [← hG] at e4 e5
              have E := hidOf (And.intro e1 (And.intro e2 (And.intro e3 (And.intro e4 (And.intro e5 (And.intro hG.symm (And.intro gb0 gb1)))))))
              clear CE0 CF CK CN hxy e1 e2 e3 e4 e5 hG gb0 gb1
              go_wp2_with fail
              refine ST.out.mono ?_
              rintro e w4 ⟨rfl, K4⟩
              have s1 : ∀ p : KW w4, p.val.cell? ⟨g1, j, none⟩ = some (.int .u64 X) := KW.cell (R1.out _ K4)
              have s2 : ∀ p : KW w4, p.val.cell? ⟨g2, j, none⟩ = some (.int .u64 Y) := KW.cell (R2.out _ K4)
              clear r1
              go_wp2_with fail
              refine wp_region_kept (by kernel_rfl) (by kernel_rfl) ?_
              repeat (first | go_big_quiet_step ((fail)) | quiet_step ((fail)))
              refine wpQuiet_nil ?_
              intro _ hw'
              obtain ⟨pq, hw''⟩ := hw'
              subst hw''
              have KQ := K4.trans pq.kept
              clear s1 s2
              have t1 : ∀ p : KW pq.val, p.val.cell? ⟨g1, j, none⟩ = some (.int .u64 X) := KW.cell (R1.out _ KQ)
              have t2 : ∀ p : KW pq.val, p.val.cell? ⟨g2, j, none⟩ = some (.int .u64 Y) := KW.cell (R2.out _ KQ)
              have T5 := (HT.out.kept HG.out.1.kp).kept KQ
              have GT := gt_kw (HG.out.1.ka.kept KQ (by simp))
              have IX := ix_kw s.gt _ pq.val T5 E.out.2.2.2.2.2.2.1 E.out.2.2.2.2.2.2.2 E.out.1
              have SX := st_kw X _ pq.val XB.out.1 XB.out.2 E.out.2.1
              have SY := st_kw Y _ pq.val YB.out.1 YB.out.2 E.out.2.2.1
              have GX := gn_kw X _ pq.val XB.out.1 XB.out.2 E.out.2.2.2.2.2.1
              have GY := gn_kw Y _ pq.val YB.out.1 YB.out.2 E.out.2.2.2.1
              have HGN := hg_kw s.gt _ pq.val T5 E.out.2.2.2.2.2.2.1 E.out.2.2.2.2.2.2.2 E.out.2.2.2.2.1
              clear T5
              go_wp2_with fail
              refine wp_region_kept (by kernel_rfl) (by kernel_rfl) ?_
              repeat (first | go_big_quiet_step (((first | (go_at_call 17; exact GT.out _) | (go_at_call 29; exact IX.out _) | (go_at_call 28; (first | exact SX.out _ | exact SY.out _)) | (go_at_call 30; (first | exact GX.out _ | exact GY.out _)) | (go_at_call 31; exact HGN.out _)))) | quiet_step (((first | (go_at_call 17; exact GT.out _) | (go_at_call 29; exact IX.out _) | (go_at_call 28; (first | exact SX.out _ | exact SY.out _)) | (go_at_call 30; (first | exact GX.out _ | exact GY.out _)) | (go_at_call 31; exact HGN.out _)))))
              refine wpQuiet_nil ?_
              intro _ hv'
              obtain ⟨pr, hv''⟩ := hv'
              subst hv''
              have KR := KQ.trans pr.kept
              clear t1 t2 GT IX SX SY GX GY HGN
              go_wp2
              go_roundw
              case rel => exact ⟨j + 1, f + 1, d + 1, by omega, by go_num, by go_num, by go_num, by omega, by omega, CE.out, HG.out.1.new KR, HG.out.2.1.kept KR (by simp), HG.out.2.2.kept KR (by simp)⟩
              case measure => simp [intOf]; omega
          · have hje : j = k := by omega
            subst hje
            have AL := hidOf (alive_any wr (HT.out.kept HF.out.kp))
            have q2c : ∀ W, Kept [] wr W → W.cell? ⟨q, 2, none⟩ = some (.int .i64 c.c) := fun W kk => cell_of_blk (HF.out.cf.kept kk (by simp)) (i := 2) rfl
            have Q2 := hidOf q2c
            have P3 : 3 ≤ s.ph := by
              rcases CP.out with ⟨I, g, -⟩ | ⟨g, -⟩
              · rw [g.ph]; exact Nat.le_refl _
              · rw [g.ph]; exact Nat.le_refl _
            have D1 := hidOf (decide_eq_true P3)
            clear q2c P3 G1 G2
            rcases CP.out with ⟨I, gi, hdi, hfi⟩ | ⟨gi, rfl, rfl⟩
            · have I1 : I ≤ (j : Int) := by rw [HK.out]; exact gi.i1
              rw [if_pos I1] at hdi
              have hf1 := hfi I1
              subst hdi
              have gne : (s.gt != 0) = true := by
                have gb := S.gn_bd (wdK c xs I) (wdK_bd HF.out.al.wd0 HI.out.1 HF.out.al.len0 (by have := gi.i0; omega) gi.i1).1
                have pb := pack_bd I (S.gnV (wdK c xs I)) (by have := gi.i0; omega) (by have := gi.i1; omega) gb.1 gb.2
                rw [gi.gt]; simp; omega
              have gne2 : (s.gt == 0) = false := by simpa using gne
              have GNE := hidOf gne
              have GNE2 := hidOf gne2
              clear gi hfi I1 CP gne gne2
              go_wp2_with fail
              refine AL.out.mono ?_
              rintro e w6 ⟨rfl, K6⟩
              have q2 := Q2.out _ K6
              have DA := hidOf (kdone_any a s w6 (HF.out.ka.kept K6 (by simp)))
              have GA := hidOf (kgot_any a s w6 (HF.out.ka.kept K6 (by simp)))
              have KZ := HF.out.kp.trans K6
              rw [D1.out] at DA
              have gz := GNE.out
              have gz2 := GNE2.out
              have kz := HKB.out
              clear HF AL Q2 K6
              generalize s.gt = sg at *
              by_cases hf2 : f = 1
              · subst hf2
                go_wp2_with (first
                  | (go_at_call 16; refine DA.out.mono ?_; rintro e w9 ⟨rfl, rfl⟩)
                  | (go_at_call 17; refine GA.out.mono ?_; rintro e w9 ⟨rfl, rfl⟩))
                go_ret
                exact ⟨rfl, KZ⟩
              · have hf3 : (1 : Int) < (f : Int) := by omega
                clear hf2 hf1
                go_wp2_with (first
                  | (go_at_call 16; refine DA.out.mono ?_; rintro e w9 ⟨rfl, rfl⟩)
                  | (go_at_call 17; refine GA.out.mono ?_; rintro e w9 ⟨rfl, rfl⟩))
                go_ret
                exact ⟨rfl, KZ⟩
            · have GA0 := gi.gt
              clear CP
              go_wp2_with fail
              refine AL.out.mono ?_
              rintro e w6 ⟨rfl, K6⟩
              have q2 := Q2.out _ K6
              have DA := hidOf (kdone_any a s w6 (HF.out.ka.kept K6 (by simp)))
              have GA := hidOf (kgot_any a s w6 (HF.out.ka.kept K6 (by simp)))
              have KZ := HF.out.kp.trans K6
              rw [D1.out] at DA
              rw [GA0] at GA
              have kz := HKB.out
              clear HF AL Q2 K6 gi GA0
              go_wp2_with (first
                | (go_at_call 16; refine DA.out.mono ?_; rintro e w9 ⟨rfl, rfl⟩)
                | (go_at_call 17; refine GA.out.mono ?_; rintro e w9 ⟨rfl, rfl⟩))
              go_ret
              exact ⟨rfl, KZ⟩
  · have HI := hidOf hW
    clear hW
    go_enter Tryd.func5, Tryd.ntmps5
    go_upto_region 1 with (fail)
    rw [← hq]
    refine gen_world (fun W => RW 23 W q #[.int .i64 c.t, .int .i64 c.s, .int .i64 c.c, .int .i64 c.h, .int .i64 c.k, .int .i64 c.e, .int .i64 c.l] ∧ Kept [] w W) BX.out ?_
    have hqw : w.heap.size ≤ q := by omega
    clear BX hq
    rintro W ⟨CB, K0⟩
    have szb := CB.lt
    have OF := hidOf (kof_no c ao n cap W HI.out)
    go_wp2_with (first | ((with_reducible change wpList _ _ _ (Oper.mk _ (Op.load 23 _) _ _ _ _ :: _) _ _); refine wpList_load_rw 23 isT_cf rfl (.tmp 3) rfl q rfl #[.int .i64 c.t, .int .i64 c.s, .int .i64 c.c, .int .i64 c.h, .int .i64 c.k, .int .i64 c.e, .int .i64 c.l] rfl CB ?_))
    refine OF.out.mono ?_
    rintro e w1 ⟨rfl, K1⟩
    have CB1 := CB.kept K1 (by simp)
    have K2 := K0.trans K1
    have sz0 := K0.size
    have sz1 := K1.size
    clear OF CB
    have B8 : Hid (RW 35 ((w1.alloc (.cells #[(.pointer none)] 28)).alloc (.cells rmZ 35)) (w1.heap.size + 1) rmZ) := (by
      have z := RW.new 35 (w1.alloc (.cells #[(.pointer none)] 28)) rmZ
      rw [nblk_alloc] at z
      exact z)
    have B7 : Hid ((((w1.alloc (.cells #[(.pointer none)] 28)).alloc (.cells rmZ 35))).heap[w1.heap.size]? = some (.cells #[(.pointer none)] 28 (0, 0))) := (RW.new 28 w1 #[(.pointer none)]).up (.cells rmZ 35)
    go_upto_region 2 with (first | ((with_reducible change wpList _ _ _ (Oper.mk _ (Op.store 35 (Operand.tmp 8) _) _ _ _ _ :: _) _ _); refine wpList_store_rw 35 isT_rm rfl (.tmp 8) (.tmp 22) rfl (w1.heap.size + 1) rmZ rfl rfl rfl rmZ_one rmZ B8.out rfl ?_))
    refine gen_world (fun V => Kept [] w1 V ∧ V.heap[w1.heap.size]? = some (.cells #[(.pointer none)] 28 (0, 0))) ⟨(((Kept.refl [] w1).alloc _).alloc _).setRow (Or.inr (Nat.le_succ _)) _, ((Kept.refl [w1.heap.size + 1] _).setRow (Or.inl (by simp)) _).blk B7.out (by simp)⟩ ?_
    rintro V ⟨KV, PV⟩
    clear B7 B8
    have CB2 := CB1.kept KV (by simp)
    have K3 := K2.trans KV
    have szv := KV.size
    clear CB1
    obtain ⟨q7, hq7⟩ : ∃ q7, q7 = w1.heap.size := ⟨_, rfl⟩
    rw [← hq7] at PV ⊢
    have lq7 := lt_of_blk PV
    have lq8 : w1.heap.size ≤ q7 := by omega
    clear hq7
    go_wp2_with fail
    refine (knew_any fr _).mono ?_
    rintro e w2 ⟨a, rfl, ha, SA, K4⟩
    have K5 := K3.trans K4
    have AL := hidOf (alive_any _ (HT.out.kept K5))
    clear HT
    go_wp2_with fail
    refine AL.out.mono ?_
    rintro e WA ⟨rfl, KA⟩
    go_wp2
    go_ret
    exact ⟨rfl, K5.trans KA⟩


set_option maxRecDepth 100000 in
theorem claimAlone_lifted (os : Os) (started : os.Started) (H : Type) (enc : TypeId × Value → H) :
    ReturnsInHanded {} Tryd.checked os 5 .any (fun w args => (Rows.claimAloneSpec.pre enc Tryd.prog Tryd.f5 [] false w args ∧ laidMetH Tryd.prog laid1 w) ∧ sizedMet enc Tryd.prog Tryd.f5 (OpenSpec.ofChange Rows.claimAloneSpec) false w args)
      (Rows.claimAloneSpec.post enc Tryd.prog Tryd.f5 false true false false) := by
  refine returnsInHanded_of_change_and (C := Tryd.checked) (X := fun w _ => laidMetH Tryd.prog laid1 w) (fun _ _ _ hh h => h.of_heap hh) own started (by kernel_rfl) Tryd.func5
    (ChangeSpec.witness_shaped (enc := enc) (C := Tryd.checked) (os := os) (X := fun w _ => laidMetH Tryd.prog laid1 w) false (World.doorLaid Tryd.prog 400 os) #[.agg #[.int .i64 0, .int .i64 0, .int .i64 0, .int .i64 0, .int .i64 0, .int .i64 0, .int .i64 0], .slice none 0 0, .int .i64 0] 8 rfl (World.shaped_of_RefB (by kernel_rfl) (by kernel_rfl)) (by kernel_rfl) (by kernel_rfl) (by kernel_rfl) (door_met os _)) ?_
  intro W base args ds gs before hval0 hW _ _ hL _
  have hval : ∀ (j : Nat) t v, Tryd.f5.params[j]? = some t → args[j]? = some v → Value.okWide Tryd.prog W .any base t v := hval0
  have hW' := hW
  obtain ⟨p, q, hA0, hV, rfl, _, _⟩ := hW
  have hA : DataW.TrodAll enc Tryd.prog W 0 (fun _ => true) true Tryd.f5.params.toList args.toList ds p := hA0
  rw [Tryd.params5] at hA hval
  clear hA0 hval0
  obtain ⟨v0, vs0, d0, ds0, p0, q0, hargs, rfl, rfl, h0, r0⟩ := trodAll_cons hA
  obtain ⟨v1, vs1, d1, ds1, p1, q1, rfl, rfl, rfl, h1, r1⟩ := trodAll_cons r0
  obtain ⟨v2, vs2, d2, ds2, p2, q2, rfl, rfl, rfl, h2, r2⟩ := trodAll_cons r1
  obtain ⟨rfl, rfl, rfl⟩ := trodAll_nil r2
  obtain rfl : args = #[v0, v1, v2] := by cases args; simp_all
  obtain ⟨rfl, rfl⟩ := trodVars_none hV
  have k0 := h0
  have k1 := h1
  have k2 := h2
  simp only [List.append_nil] at hW'
  have hlt0 : ∀ x ∈ p0, x.block < W.heap.size := fun x hx => hW'.lt x (by simp [hx])
  have hlt1 : ∀ x ∈ p1, x.block < W.heap.size := fun x hx => hW'.lt x (by simp [hx])
  have hlt2 : ∀ x ∈ p2, x.block < W.heap.size := fun x hx => hW'.lt x (by simp [hx])
  obtain ⟨c0, rfl, g0⟩ := open_cfg (hval 0 23 v0 rfl rfl) h0
  obtain ⟨ao1, cap1, xs1, rfl, s1, g1, z1, n1⟩ := open_words (hval 1 24 v1 rfl rfl) h1
  obtain ⟨a2, rfl, rfl, rfl, w2⟩ := open_int Tryd.underlying3 (hval 2 3 v2 rfl rfl) h2
  refine (claimAlone_walk W c0 g0 ao1 xs1 cap1 s1 g1 n1 a2 (tab_of_laid hL)).mono fun e W' ⟨he, hg⟩ => ?_
  subst he
  have hb := hg.below (by simp)
  exact ⟨_, rfl, _, _, _, [], _, [], hW', (trodAll_cons_mk (shut_bool Tryd.underlying4 _) trodAll_mk0), (trodAll_cons_mk (Below.trod laidOut (by kernel_rfl) (of_decide_eq_true (by kernel_rfl)) k0 hb hlt0) (trodAll_cons_mk (Below.trod laidOut (by kernel_rfl) (of_decide_eq_true (by kernel_rfl)) k1 hb hlt1) (trodAll_cons_mk (Below.trod laidOut (by kernel_rfl) (of_decide_eq_true (by kernel_rfl)) k2 hb hlt2) trodAll_mk0))), rfl, hb.frame _, fun h => by cases h⟩

theorem claimAlone_over : Rows.ClaimAloneSaid :=
  OpenClaim.holds_of_wide 5 Tryd.f5 rfl rfl rfl rfl rfl rfl rfl ⟨rfl, rfl, rfl, rfl, rfl⟩ rfl rfl rfl rfl rfl (by kernel_rfl) Tryd.func5 (by kernel_rfl)
    (of_decide_eq_true (by kernel_rfl)) (by unfold Func.isWrapper; first | (rw [if_pos (by decide +kernel)]; kernel_rfl) | (rw [if_neg (by decide +kernel)]; exact ⟨rfl, rfl⟩))
    (fun os started H enc _ => claimAlone_lifted os started H enc)

theorem claimAlone_holds : Rows.ClaimAloneCardSaid :=
  Claim7.holds_tied_plain_at .later [] [.data] true (true, "16d24a33fc2aa0e14e1eec150c167cb59402c41f178cda57adfd34c93caf4e6b") false
    claimAlone_over (fun _ h => by cases h) (by kernel_rfl) (fun _ h => by cases h) claimAlone_row_tie rfl ⟨rfl, rfl⟩ (by kernel_rfl) rfl
    (fun f fn hf hfn => by
      obtain rfl : f = 5 := Option.some.inj ((show Tryd.prog.funcNamed "stepstone/stepstonelaw09.ClaimAlone" = some 5 by kernel_rfl).symm.trans hf) |>.symm
      obtain rfl : fn = Tryd.f5 := (Option.some.inj (Tryd.func5.symm.trans hfn)).symm
      exact ⟨by kernel_rfl, fun j t ht => by
          rw [Tryd.params5] at ht
          rcases j with _ | j
          · have : t = 23 := by simpa using ht.symm
            subst this; exact (show Tryd.prog.wantsStandIn 23 = false by kernel_rfl)
          rcases j with _ | j
          · have : t = 24 := by simpa using ht.symm
            subst this; exact (show Tryd.prog.wantsStandIn 24 = false by kernel_rfl)
          rcases j with _ | j
          · have : t = 3 := by simpa using ht.symm
            subst this; exact (show Tryd.prog.wantsStandIn 3 = false by kernel_rfl)
          simp at ht⟩)
    (by kernel_rfl)
#print axioms claimAlone_holds
end Go.Proofs.YtmmpafhfanldbaaDoor
