/-
  Each step of a claim, over any words, whoever writes into them meanwhile, is the access that the document says, and so is what it got.
  Conditions: the package variable of handle that the code reads starts as the program's text lays it (the card ties it to that text).
-/
import Derived.Test.YtmmpafhfanldbaaDoorKLaw
import Derived.Test.YtmmpafhfanldbaaDoorKArgs
import Derived.Test.YtmmpafhfanldbaaDoorHLaid
import Derived.Test.YtmmpafhfanldbaaDoorPArgs
import Derived.ProofKit
import Derived.SizedLaws
import Derived.Carry
namespace Go.Proofs.YtmmpafhfanldbaaDoor
open Go.ChangeShapes Go.WideShapes Go.ChangeAt Go.RowKit
open Go.Deep
open Go.Proofs.YtmmpafhfanldbaaDoor.K
set_option maxRecDepth 100000

/-- What holds at each round: the claim, the document's claim, both words. -/
structure SI (w wr : World) (a b q q2 m p r n k : Nat) (c : Cfg) (fr st : Int) (lo : Option Addr) (lc : Nat) (j : Nat) (g c' : Nat) (s : Ks) (t : RC) (x : Mst) : Prop where
  ks : KS wr a s
  rc : RW 42 wr q2 (rcA t)
  rm : RW 35 wr q (rmA c (some ⟨g, 0, none⟩) n c' x.n x.a)
  row : RowR wr g x.cs c'
  mm : Mm wr m p r c x.cs x.n x.a
  cf : RW 23 wr b #[.int .i64 c.t, .int .i64 c.s, .int .i64 c.c, .int .i64 c.h, .int .i64 c.k, .int .i64 c.e, .int .i64 c.l]
  pl : RW 27 wr (b + 1) (plA fr st lo k lc)
  kp : Kept [] w wr
  ki : KI c s
  rel : Rel c s t
  wd : Wds x.cs
  len : x.cs.length = n
  n0 : 0 ≤ x.n
  n1 : x.n ≤ 40 * j
  gr : ¬ g = r
theorem SI.new {w wr wv : World} {a b q q2 m p r n k : Nat} {c : Cfg} {fr st : Int} {lo : Option Addr} {lc j g c' : Nat} {s : Ks} {t : RC} {x : Mst} (h : SI w wr a b q q2 m p r n k c fr st lo lc j g c' s t x) (kv : Kept [] wr wv) : SI w wv a b q q2 m p r n k c fr st lo lc j g c' s t x :=
  ⟨h.ks.kept kv (by simp), h.rc.kept kv (by simp), h.rm.kept kv (by simp), h.row.kept kv (by simp), h.mm.new kv, h.cf.kept kv (by simp), h.pl.kept kv (by simp), h.kp.trans kv, h.ki, h.rel, h.wd, h.len, h.n0, h.n1, h.gr⟩
structure F3 (w : World) (q q2 b : Nat) (A B C : Array Value) : Prop where
  fa : RW 35 w q A
  fb : RW 42 w q2 B
  fc : RW 23 w b C
theorem F3.new {w w' : World} {q q2 b : Nat} {A B C : Array Value} (h : F3 w q q2 b A B C) (k : Kept [] w w') : F3 w' q q2 b A B C := ⟨h.fa.kept k (by simp), h.fb.kept k (by simp), h.fc.kept k (by simp)⟩
theorem pkS_wd {k : Int} {p : Pk} {x : Mst} (h : Wds x.cs) (hp : p.wf) : Wds (pkS k p x).cs := by
  unfold pkS; split
  · exact Wds.clV h 2 _ _ (by decide) hp
  · exact h
theorem pkF_wd {k : Int} : ∀ {ps : List Pk} {x : Mst}, Wds x.cs → (∀ p ∈ ps, p.wf) → Wds (pkF k ps x).cs
  | [], _, h, _ => h
  | p :: ps, x, h, hp => pkF_wd (ps := ps) (x := pkS k p x) (pkS_wd h (hp p (by simp))) (fun y hy => hp y (by simp [hy]))
theorem row_ne_ks {w : World} {a g cap : Nat} {s : Ks} {xs : List Int} (h : KS w a s) (hR : RowR w g xs cap) : ¬ g = a := fun e => by
  obtain ⟨rest, z, _⟩ := hR
  unfold KS KB at h
  rw [e, h] at z; simp at z
set_option maxRecDepth 100000 in
set_option maxHeartbeats 8000000 in
theorem claimSteps_walk (w : World) (c : Cfg) (_g : c.wf) (ao : Option Addr) (xs : List Int) (cap : Nat) (hs : Sl w ao xs) (hg : ∀ x ∈ xs, isWord x) (hc : ao = none → cap = 0) (fr st : Int) (lo : Option Addr) (lc : Nat) (ps : List Pk) (hl : SlOf 3 pkL w lo ps) (hp : ∀ x ∈ ps, x.wf) (hT : Tab w) :
    Calls Tryd.prog 3 #[c.val, .slice ao xs.length cap, .agg (plA fr st lo ps.length lc)] w fun e w' => e = .returned (.bool true) ∧ Kept [] w w' := by
  simp only [Cfg.val]
  obtain ⟨n, hn⟩ : ∃ n, n = xs.length := ⟨_, rfl⟩
  rw [← hn]
  have HN := hidOf hn
  have HS := hidOf hs
  have HC := hidOf hc
  have HW := hidOf (wds_of hg)
  have HT := hidOf hT
  clear hn hs hc hg hT
  obtain ⟨k, hk⟩ : ∃ k, k = ps.length := ⟨_, rfl⟩
  rw [← hk]
  have HK := hidOf hk
  have HL := hidOf hl
  have HP := hidOf hp
  clear hk hl hp
  obtain ⟨b, hb⟩ : ∃ b, b = w.heap.size := ⟨_, rfl⟩
  have BX := hidOf (two_new 23 27 w #[.int .i64 c.t, .int .i64 c.s, .int .i64 c.c, .int .i64 c.h, .int .i64 c.k, .int .i64 c.e, .int .i64 c.l] (plA fr st lo k lc) hb)
  by_cases hW : IsW c n
  · by_cases hst : 200 < st
    · have HI := hidOf hW
      clear hW
      go_enter Tryd.func3, Tryd.ntmps3
      go_upto_region 1 with (fail)
      rw [← hb]
      refine gen_world (fun W => RW 23 W b #[.int .i64 c.t, .int .i64 c.s, .int .i64 c.c, .int .i64 c.h, .int .i64 c.k, .int .i64 c.e, .int .i64 c.l] ∧ RW 27 W (b + 1) (plA fr st lo k lc) ∧ Kept [] w W) BX.out ?_
      have hbw : w.heap.size ≤ b := by omega
      clear BX hb
      rintro W ⟨CB, PB, K0⟩
      have szb := PB.lt
      have OF := hidOf (kof_yes c ao xs n cap W HI.out HN.out (HS.out.new K0) HC.out)
      go_wp2_with (first | ((with_reducible change wpList _ _ _ (Oper.mk _ (Op.load 23 _) _ _ _ _ :: _) _ _); refine wpList_load_rw 23 isT_cf rfl (.tmp 3) rfl b rfl #[.int .i64 c.t, .int .i64 c.s, .int .i64 c.c, .int .i64 c.h, .int .i64 c.k, .int .i64 c.e, .int .i64 c.l] rfl CB ?_))
      refine OF.out.mono ?_
      rintro e w1 ⟨m, p, r, g, c', rfl, -, -, -, K1⟩
      have CB1 := CB.kept K1 (by simp)
      have PB1 := PB.kept K1 (by simp)
      have K2 := K0.trans K1
      have sz0 := K0.size
      have szp := PB1.lt
      clear OF CB PB
      obtain ⟨q, hq⟩ : ∃ q, q = w1.heap.size := ⟨_, rfl⟩
      go_upto_region 2 with (first | ((with_reducible change wpList _ _ _ (Oper.mk _ (Op.store 35 (Operand.tmp 8) _) _ _ _ _ :: _) _ _); refine wpList_store_rw 35 isT_rm rfl (.tmp 8) (.tmp 18) rfl w1.heap.size (rmA c (some ⟨g, 0, none⟩) n c' 0 Acc.zero) rfl rfl rfl (rm_one _ _ _ _ _ _) rmZ (RW.new 35 w1 rmZ) rfl ?_))
      rw [← hq]
      refine gen_world (fun V => RW 35 V q (rmA c (some ⟨g, 0, none⟩) n c' 0 Acc.zero) ∧ Kept [] w1 V) ?_ ?_
      · rw [hq]; exact ⟨(RW.new 35 w1 rmZ).row _, ((Kept.refl [] w1).alloc _).setRow (Or.inr (Nat.le_refl _)) _⟩
      have hq1 : w1.heap.size ≤ q := by omega
      clear hq
      rintro V ⟨Q, KV⟩
      have CB2 := CB1.kept KV (by simp)
      have PB2 := PB1.kept KV (by simp)
      have K3 := K2.trans KV
      have p0 := cell_of_blk PB2 (i := 0) (v := .int .i64 fr) rfl
      clear CB1 PB1
      go_wp2_with fail
      refine (knew_any fr _).mono ?_
      rintro e w2 ⟨a, rfl, ha, SA, K4⟩
      have PB3 := PB2.kept K4 (by simp)
      have p1 := cell_of_blk PB3 (i := 1) (v := .int .i64 st) rfl
      clear p0
      have p0 := cell_of_blk PB3 (i := 0) (v := .int .i64 fr) rfl
      have p2 := cell_of_blk PB3 (i := 2) (v := .slice lo k lc) rfl
      have K5 := K3.trans K4
      have T := HT.out.kept K5
      have AL := hidOf (alive_any _ T)
      clear T HT
      go_wp2_with fail
      refine AL.out.mono ?_
      rintro e WA ⟨rfl, KA⟩
      go_wp2
      go_ret
      exact ⟨rfl, K5.trans KA⟩
    · by_cases hlen : 30 < (k : Int)
      · have HI := hidOf hW
        clear hW
        go_enter Tryd.func3, Tryd.ntmps3
        go_upto_region 1 with (fail)
        rw [← hb]
        refine gen_world (fun W => RW 23 W b #[.int .i64 c.t, .int .i64 c.s, .int .i64 c.c, .int .i64 c.h, .int .i64 c.k, .int .i64 c.e, .int .i64 c.l] ∧ RW 27 W (b + 1) (plA fr st lo k lc) ∧ Kept [] w W) BX.out ?_
        have hbw : w.heap.size ≤ b := by omega
        clear BX hb
        rintro W ⟨CB, PB, K0⟩
        have szb := PB.lt
        have OF := hidOf (kof_yes c ao xs n cap W HI.out HN.out (HS.out.new K0) HC.out)
        go_wp2_with (first | ((with_reducible change wpList _ _ _ (Oper.mk _ (Op.load 23 _) _ _ _ _ :: _) _ _); refine wpList_load_rw 23 isT_cf rfl (.tmp 3) rfl b rfl #[.int .i64 c.t, .int .i64 c.s, .int .i64 c.c, .int .i64 c.h, .int .i64 c.k, .int .i64 c.e, .int .i64 c.l] rfl CB ?_))
        refine OF.out.mono ?_
        rintro e w1 ⟨m, p, r, g, c', rfl, -, -, -, K1⟩
        have CB1 := CB.kept K1 (by simp)
        have PB1 := PB.kept K1 (by simp)
        have K2 := K0.trans K1
        have sz0 := K0.size
        have szp := PB1.lt
        clear OF CB PB
        obtain ⟨q, hq⟩ : ∃ q, q = w1.heap.size := ⟨_, rfl⟩
        go_upto_region 2 with (first | ((with_reducible change wpList _ _ _ (Oper.mk _ (Op.store 35 (Operand.tmp 8) _) _ _ _ _ :: _) _ _); refine wpList_store_rw 35 isT_rm rfl (.tmp 8) (.tmp 18) rfl w1.heap.size (rmA c (some ⟨g, 0, none⟩) n c' 0 Acc.zero) rfl rfl rfl (rm_one _ _ _ _ _ _) rmZ (RW.new 35 w1 rmZ) rfl ?_))
        rw [← hq]
        refine gen_world (fun V => RW 35 V q (rmA c (some ⟨g, 0, none⟩) n c' 0 Acc.zero) ∧ Kept [] w1 V) ?_ ?_
        · rw [hq]; exact ⟨(RW.new 35 w1 rmZ).row _, ((Kept.refl [] w1).alloc _).setRow (Or.inr (Nat.le_refl _)) _⟩
        have hq1 : w1.heap.size ≤ q := by omega
        clear hq
        rintro V ⟨Q, KV⟩
        have CB2 := CB1.kept KV (by simp)
        have PB2 := PB1.kept KV (by simp)
        have K3 := K2.trans KV
        have p0 := cell_of_blk PB2 (i := 0) (v := .int .i64 fr) rfl
        clear CB1 PB1
        go_wp2_with fail
        refine (knew_any fr _).mono ?_
        rintro e w2 ⟨a, rfl, ha, SA, K4⟩
        have PB3 := PB2.kept K4 (by simp)
        have p1 := cell_of_blk PB3 (i := 1) (v := .int .i64 st) rfl
        clear p0
        have p0 := cell_of_blk PB3 (i := 0) (v := .int .i64 fr) rfl
        have p2 := cell_of_blk PB3 (i := 2) (v := .slice lo k lc) rfl
        have K5 := K3.trans K4
        have T := HT.out.kept K5
        have AL := hidOf (alive_any _ T)
        clear T HT
        go_wp2_with fail
        refine AL.out.mono ?_
        rintro e WA ⟨rfl, KA⟩
        go_wp2
        go_ret
        exact ⟨rfl, K5.trans KA⟩
      · have HI := hidOf hW
        obtain ⟨n0, n64⟩ := isW_cap hW
        have n4 := hW.2.2
        clear hW
        go_enter Tryd.func3, Tryd.ntmps3
        go_upto_region 1 with (fail)
        rw [← hb]
        refine gen_world (fun W => RW 23 W b #[.int .i64 c.t, .int .i64 c.s, .int .i64 c.c, .int .i64 c.h, .int .i64 c.k, .int .i64 c.e, .int .i64 c.l] ∧ RW 27 W (b + 1) (plA fr st lo k lc) ∧ Kept [] w W) BX.out ?_
        have hbw : w.heap.size ≤ b := by omega
        clear BX hb
        rintro W ⟨CB, PB, K0⟩
        have szb := PB.lt
        have OF := hidOf (kof_yes c ao xs n cap W HI.out HN.out (HS.out.new K0) HC.out)
        go_wp2_with (first | ((with_reducible change wpList _ _ _ (Oper.mk _ (Op.load 23 _) _ _ _ _ :: _) _ _); refine wpList_load_rw 23 isT_cf rfl (.tmp 3) rfl b rfl #[.int .i64 c.t, .int .i64 c.s, .int .i64 c.c, .int .i64 c.h, .int .i64 c.k, .int .i64 c.e, .int .i64 c.l] rfl CB ?_))
        refine OF.out.mono ?_
        rintro e w1 ⟨m, p, r, g, c', rfl, ⟨a1, a2, a3, a4, a5⟩, M, R, K1⟩
        have CB1 := CB.kept K1 (by simp)
        have PB1 := PB.kept K1 (by simp)
        have K2 := K0.trans K1
        have sz0 := K0.size
        have szp := PB1.lt
        clear OF CB PB
        have hsz : p < w1.heap.size ∧ r < w1.heap.size ∧ m < w1.heap.size := ⟨lt_of_blk M.bk.st, lt_of_blk M.bk.row, lt_of_blk M.st⟩
        obtain ⟨q, hq⟩ : ∃ q, q = w1.heap.size := ⟨_, rfl⟩
        go_upto_region 2 with (first | ((with_reducible change wpList _ _ _ (Oper.mk _ (Op.store 35 (Operand.tmp 8) _) _ _ _ _ :: _) _ _); refine wpList_store_rw 35 isT_rm rfl (.tmp 8) (.tmp 18) rfl w1.heap.size (rmA c (some ⟨g, 0, none⟩) n c' 0 Acc.zero) rfl rfl rfl (rm_one _ _ _ _ _ _) rmZ (RW.new 35 w1 rmZ) rfl ?_))
        rw [← hq]
        refine gen_world (fun V => RW 35 V q (rmA c (some ⟨g, 0, none⟩) n c' 0 Acc.zero) ∧ Kept [] w1 V) ?_ ?_
        · rw [hq]; exact ⟨(RW.new 35 w1 rmZ).row _, ((Kept.refl [] w1).alloc _).setRow (Or.inr (Nat.le_refl _)) _⟩
        have hq1 : w1.heap.size ≤ q := by omega
        clear hq
        rintro V ⟨Q, KV⟩
        have CB2 := CB1.kept KV (by simp)
        have PB2 := PB1.kept KV (by simp)
        have K3 := K2.trans KV
        have p0 := cell_of_blk PB2 (i := 0) (v := .int .i64 fr) rfl
        clear CB1 PB1
        go_wp2_with fail
        refine (knew_any fr _).mono ?_
        rintro e w2 ⟨a, rfl, ha, SA, K4⟩
        have PB3 := PB2.kept K4 (by simp)
        have p1 := cell_of_blk PB3 (i := 1) (v := .int .i64 st) rfl
        clear p0
        have p0 := cell_of_blk PB3 (i := 0) (v := .int .i64 fr) rfl
        have p2 := cell_of_blk PB3 (i := 2) (v := .slice lo k lc) rfl
        have K5 := K3.trans K4
        by_cases h0 : 0 < st
        · obtain ⟨N, hNN⟩ : ∃ N : Nat, st = N := ⟨st.toNat, by omega⟩
          subst hNN
          obtain ⟨gp, gm⟩ := row_ne_bk M R
          have HX := hidOf (And.intro M (And.intro R K1))
          clear M R
          have szq := Q.lt
          obtain ⟨q2, hq2⟩ : ∃ q2, q2 = w2.heap.size := ⟨_, rfl⟩
          have F0 : Hid (RW 35 w2 q (rmA c (some ⟨g, 0, none⟩) n c' 0 Acc.zero) ∧ RW 23 w2 b #[.int .i64 c.t, .int .i64 c.s, .int .i64 c.c, .int .i64 c.h, .int .i64 c.k, .int .i64 c.e, .int .i64 c.l] ∧ RW 27 w2 (b + 1) (plA fr (N : Int) lo k lc) ∧ KS w2 a ⟨0, fr, 0, 0, 0, 0, fr⟩ ∧ Mm w2 m p r c xs 0 Acc.zero ∧ RowR w2 g xs c' ∧ Kept [] w w2) := ⟨Q.kept K4 (by simp), CB2.kept K4 (by simp), PB3, SA, HX.out.1.new (KV.trans K4), HX.out.2.1.kept (KV.trans K4) (by simp), K5⟩
          clear Q CB2 PB2 SA K2 K3 K4 K5 KV HX K0 K1 PB3
          go_upto_region 6 with (first | ((with_reducible change wpList _ _ _ (Oper.mk _ (Op.store 42 _ _) _ _ _ _ :: _) _ _); refine wpList_store_rw 42 isT_rc rfl (.tmp 11) (.tmp 47) rfl w2.heap.size (rcA ⟨fr, 0, false, 0, 0, false⟩) rfl rfl rfl (rc_one _) rcZ (RW.new 42 w2 rcZ) rfl ?_))
          rw [← hq2]
          refine gen_world (fun U => RW 42 U q2 (rcA ⟨fr, 0, false, 0, 0, false⟩) ∧ Kept [] w2 U) ?_ ?_
          · rw [hq2]; exact ⟨(RW.new 42 w2 rcZ).row _, ((Kept.refl [] w2).alloc _).setRow (Or.inr (Nat.le_refl _)) _⟩
          have hq3 : w2.heap.size ≤ q2 := by omega
          clear hq2 p0 p1 p2
          rintro U ⟨RC0, KU⟩
          have F1 : Hid (SI w U a b q q2 m p r n k c fr (N : Int) lo lc 0 g c' ⟨0, fr, 0, 0, 0, 0, fr⟩ ⟨fr, 0, false, 0, 0, false⟩ ⟨xs, 0, Acc.zero⟩) := by
            obtain ⟨f1, f2, f3, f4, f5, f6, f7⟩ := F0.out
            exact ⟨f4.kept KU (by simp), RC0, f1.kept KU (by simp), f6.kept KU (by simp), f5.new KU, f2.kept KU (by simp), f3.kept KU (by simp), f7.trans KU, ⟨fun h => by simp at h, by show (0 : Int) ≤ 0 ∧ (0 : Int) < 18446744073709551616; decide⟩, Rel.start c fr n0, HW.out, HN.out.symm, Int.le_refl _, by show (0 : Int) ≤ 40 * ((0 : Nat) : Int); omega, a5⟩
          have szp2 : p < w1.heap.size ∧ r < w1.heap.size ∧ m < w1.heap.size := hsz
          have aw := F0.out.2.2.2.1.lt
          have szw := F0.out.2.2.2.2.2.2.size
          clear F0 RC0 KU
          have p1 := cell_of_blk F1.out.pl (i := 1) (v := .int .i64 (N : Int)) rfl
          skip
          go_wp2
          go_loopw [51] (fun i wr => ∃ (j g c' : Nat) (s : Ks) (t : RC) (x : Mst), j ≤ N ∧ i = .int .i64 j ∧ SI w wr a b q q2 m p r n k c fr (N : Int) lo lc j g c' s t x) (fun i _ => N - (intOf i).toNat)
          case atStart => exact ⟨0, g, c', _, _, _, Nat.zero_le _, rfl, F1.out⟩
          case round =>
            clear F1
            obtain ⟨j, g1, c1, s, t, x, hj, rfl, F⟩ := hrel
            have HF := hidOf F
            clear F
            by_cases hlt : j < N
            · have hltz : (j : Int) < (N : Nat) := by omega
              have p2 := cell_of_blk HF.out.pl (i := 2) (v := .slice lo k lc) rfl
              have PK := hidOf (poked_any m p r g1 c x c1 lo ps k lc j wr HF.out.mm HF.out.row HF.out.gr (by rw [HF.out.len]; omega) HK.out (HL.out.new HF.out.kp) (fun h0 ad e => by obtain ⟨b1, o1, e1, lt1, _⟩ := HL.out h0; rw [e1] at e; cases e; show ¬ b1 = p ∧ ¬ b1 = r; omega) (by omega) HF.out.n0 (by have := HF.out.n1; omega))
              rw [HF.out.len] at PK
              obtain ⟨y, hy⟩ : ∃ y, y = pkF j ps x := ⟨_, rfl⟩
              rw [← hy] at PK
              have HY : Hid (Wds y.cs ∧ y.cs.length = n ∧ 0 ≤ y.n ∧ y.n ≤ 40 * j + 30) := by
                have h1 := pkF_n j ps x
                have h2 := HF.out.n0
                have h3 := HF.out.n1
                have h4 := HK.out
                rw [hy]
                exact ⟨pkF_wd HF.out.wd HP.out, (pkF_len _ _ _).trans HF.out.len, by omega, by omega⟩
              clear hy
              go_wp2_with (first | ((with_reducible change wpList _ _ _ (Oper.mk _ (Op.load 35 _) _ _ _ _ :: _) _ _); refine wpList_load_rw 35 isT_rm rfl (.tmp 8) rfl q rfl (rmA c (some ⟨g1, 0, none⟩) n c1 x.n x.a) rfl HF.out.rm ?_))
              refine PK.out.mono ?_
              rintro e w3 ⟨g2, c2, rfl, hg2, R3, M3, K3⟩
              clear PK p2
              have szwr := HF.out.mm.mp
              have sz1 : p < wr.heap.size ∧ r < wr.heap.size := ⟨lt_of_blk HF.out.mm.bk.st, lt_of_blk HF.out.mm.bk.row⟩
              have gr2 : ¬ g2 = r := by
                rcases hg2 with h | h
                · rw [h]; exact HF.out.gr
                · omega
              obtain ⟨gp2, gm2⟩ := row_ne_bk M3 R3
              have qn : ¬ q = p ∧ ¬ q = r ∧ ¬ q = m := by omega
              have q2n : ¬ q2 = p ∧ ¬ q2 = r ∧ ¬ q2 = m ∧ ¬ q2 = q ∧ ¬ q2 = a := by omega
              have an : ¬ a = p ∧ ¬ a = r ∧ ¬ a = q := by omega
              have bn : ¬ b = p ∧ ¬ b = r ∧ ¬ b = q ∧ ¬ b = q2 ∧ ¬ b = a := by omega
              have bn1 : ¬ b + 1 = p ∧ ¬ b + 1 = r ∧ ¬ b + 1 = q ∧ ¬ b + 1 = q2 ∧ ¬ b + 1 = a := by omega
              have Q3 := HF.out.rm.kept K3 (by simp; omega)
              have ga : ¬ g2 = a := row_ne_ks (HF.out.ks.kept K3 (by simp; omega)) R3
              have gq : ¬ g2 = q := fun e => by obtain ⟨rest, z, _⟩ := R3; rw [e, Q3] at z; simp at z
              go_upto_region 10 with (first | ((with_reducible change wpList _ _ _ (Oper.mk _ (Op.store 35 _ _) _ _ _ _ :: _) _ _); refine wpList_store_rw 35 isT_rm rfl (.tmp 8) (.tmp 59) rfl q (rmA c (some ⟨g2, 0, none⟩) n c2 y.n y.a) rfl rfl rfl (rm_one _ _ _ _ _ _) _ Q3 rfl ?_))
              refine gen_world (fun V => RW 35 V q (rmA c (some ⟨g2, 0, none⟩) n c2 y.n y.a) ∧ Kept [q] w3 V) ⟨Q3.row _, (Kept.refl [q] w3).setRow (Or.inl (by simp)) _⟩ ?_
              rintro V3 ⟨Q4, K4⟩
              have K5 : Kept [p, r, q] wr V3 := (K3.weaken (m := [p, r, q]) (by simp)).then K4 (by simp)
              have F4 : Hid (KS V3 a s ∧ RW 42 V3 q2 (rcA t) ∧ RW 35 V3 q (rmA c (some ⟨g2, 0, none⟩) n c2 y.n y.a) ∧ RowR V3 g2 y.cs c2 ∧ Mm V3 m p r c y.cs y.n y.a ∧ RW 23 V3 b #[.int .i64 c.t, .int .i64 c.s, .int .i64 c.c, .int .i64 c.h, .int .i64 c.k, .int .i64 c.e, .int .i64 c.l] ∧ RW 27 V3 (b + 1) (plA fr (N : Int) lo k lc) ∧ Kept [] w V3) :=
                ⟨HF.out.ks.kept K5 (by simp; omega), HF.out.rc.kept K5 (by simp; omega), Q4, R3.kept K4 (by simp; omega), M3.kept K4 (by simp; omega) (by simp; omega) (by simp; omega), HF.out.cf.kept K5 (by simp; omega), HF.out.pl.kept K5 (by simp; omega), HF.out.kp.then K5 (by simp; omega)⟩
              have HE : Hid (KI c s ∧ Rel c s t) := ⟨HF.out.ki, HF.out.rel⟩
              clear HF Q3 Q4 K3 K4 K5 R3 M3 hg2
              have ST := hidOf (step_any a m p r c y.cs y.n y.a s V3 F4.out.1 F4.out.2.2.2.2.1 (HT.out.kept F4.out.2.2.2.2.2.2.2) HE.out.1 HY.out.1 n0 n64 HY.out.2.2.1 (by have := HY.out.2.2.2; omega))
              go_wp2_with fail
              refine ST.out.mono ?_
              rintro e w4 ⟨rfl, A4, M4, K4⟩
              have F5 : Hid (KS w4 a (stK c y.cs s) ∧ RW 42 w4 q2 (rcA t) ∧ RW 35 w4 q (rmA c (some ⟨g2, 0, none⟩) n c2 y.n y.a) ∧ RowR w4 g2 y.cs c2 ∧ Mm w4 m p r c (stC c y.cs s) (stN y.n s) (stA c y.cs y.a s) ∧ RW 23 w4 b #[.int .i64 c.t, .int .i64 c.s, .int .i64 c.c, .int .i64 c.h, .int .i64 c.k, .int .i64 c.e, .int .i64 c.l] ∧ RW 27 w4 (b + 1) (plA fr (N : Int) lo k lc) ∧ Kept [] w w4) := by
                obtain ⟨f1, f2, f3, f4, f5, f6, f7, f8⟩ := F4.out
                exact ⟨A4, f2.kept K4 (by simp; omega), f3.kept K4 (by simp; omega), f4.kept K4 (by simp; omega), M4, f6.kept K4 (by simp; omega), f7.kept K4 (by simp; omega), f8.then K4 (by simp; omega)⟩
              clear F4 ST A4 M4 K4
              have RS := hidOf (rstep_any t c g2 y.cs c2 y.n y.a w4 F5.out.2.2.2.1 (by rw [HY.out.2.1]; omega) HY.out.2.2.1 (by have := HY.out.2.2.2; omega) n0 n64 HE.out.2.l.1 (by have := HE.out.2.l.2; omega) HY.out.1 HE.out.2.w.1 HE.out.2.w.2)
              obtain ⟨e1, e2, e3⟩ := Rel.same HE.out.2 (cs := y.cs) y.n y.a
              rw [← e1, ← e2, ← e3, HY.out.2.1] at RS
              clear e1 e2 e3
              have RS2 : Hid (Calls Tryd.prog 14 #[.agg (rcA t), .agg (rmA c (some ⟨g2, 0, none⟩) n c2 y.n y.a)] w4 fun e w' => ∃ g' c', e = .returned (.tuple #[.agg (rcA (rsK c y.cs t)), .agg (rmA c (some ⟨g', 0, none⟩) n c' (stN y.n s) (stA c y.cs y.a s))]) ∧ (g' = g2 ∨ w4.heap.size ≤ g') ∧ RowR w' g' (stC c y.cs s) c' ∧ Kept [] w4 w') := RS.out
              go_wp2_with (first | ((with_reducible change wpList _ _ _ (Oper.mk _ (Op.load 42 _) _ _ _ _ :: _) _ _); refine wpList_load_rw 42 isT_rc rfl (.tmp 11) rfl q2 rfl (rcA t) rfl F5.out.2.1 ?_) | ((with_reducible change wpList _ _ _ (Oper.mk _ (Op.load 35 _) _ _ _ _ :: _) _ _); refine wpList_load_rw 35 isT_rm rfl (.tmp 8) rfl q rfl (rmA c (some ⟨g2, 0, none⟩) n c2 y.n y.a) rfl F5.out.2.2.1 ?_))
              refine RS2.out.mono ?_
              rintro e w5 ⟨g3, c3, rfl, hg3, R5, K5⟩
              have q7 := F5.out.2.1.kept K5 (by simp)
              have q8 := (F5.out.2.2.1.kept K5 (by simp)).rowOther (c := q2) (rcA (rsK c y.cs t)) (by omega)
              go_upto_region 12 with (first | ((with_reducible change wpList _ _ _ (Oper.mk _ (Op.store 42 _ _) _ _ _ _ :: _) _ _); refine wpList_store_rw 42 isT_rc rfl (.tmp 11) (.tmp 67) rfl q2 (rcA (rsK c y.cs t)) rfl rfl rfl (rc_one _) (rcA t) q7 rfl ?_) | ((with_reducible change wpList _ _ _ (Oper.mk _ (Op.store 35 _ _) _ _ _ _ :: _) _ _); refine wpList_store_rw 35 isT_rm rfl (.tmp 8) (.tmp 68) rfl q (rmA c (some ⟨g3, 0, none⟩) n c3 (stN y.n s) (stA c y.cs y.a s)) rfl rfl rfl (rm_one _ _ _ _ _ _) _ q8 rfl ?_))
              refine gen_world (fun V => RW 35 V q (rmA c (some ⟨g3, 0, none⟩) n c3 (stN y.n s) (stA c y.cs y.a s)) ∧ RW 42 V q2 (rcA (rsK c y.cs t)) ∧ Kept [q, q2] w5 V) ⟨q8.row _, (q7.row _).rowOther _ (by omega), ((Kept.refl [q, q2] w5).setRow (Or.inl (by simp)) _).setRow (Or.inl (by simp)) _⟩ ?_
              rintro V6 ⟨D6, B6, K6⟩
              have r2 := lt_of_blk F5.out.2.2.2.2.1.bk.row
              have gr3 : ¬ g3 = r := by
                rcases hg3 with h | h
                · rw [h]; exact gr2
                · omega
              have gq3 : ¬ g3 = q := fun e => by obtain ⟨rest, z, _⟩ := R5; rw [e, F5.out.2.2.1.kept K5 (by simp)] at z; simp at z
              have gq4 : ¬ g3 = q2 := fun e => by obtain ⟨rest, z, _⟩ := R5; rw [e, q7] at z; simp at z
              have K7 : Kept [q, q2] w4 V6 := (K5.weaken (m := [q, q2]) (by simp)).trans K6
              obtain ⟨t2, ht2⟩ : ∃ t2, t2 = rsK c y.cs t := ⟨_, rfl⟩
              have HRel := Rel.step HY.out.1 n0 n64 HE.out.1 HE.out.2
              rw [← ht2] at HRel B6
              have FN : Hid (SI w V6 a b q q2 m p r n k c fr (N : Int) lo lc (j + 1) g3 c3 (stK c y.cs s) t2 ⟨stC c y.cs s, stN y.n s, stA c y.cs y.a s⟩) := by
                obtain ⟨f1, f2, f3, f4, f5, f6, f7, f8⟩ := F5.out
                refine ⟨f1.kept K7 (by simp; omega), B6, D6, R5.kept K6 (by simp; omega), f5.kept K7 (by simp; omega) (by simp; omega) (by simp; omega), f6.kept K7 (by simp; omega), f7.kept K7 (by simp; omega), f8.then K7 (by simp; omega), stK_ki HY.out.1 n0 HE.out.1, HRel, stC_wd HY.out.1 HE.out.1, (stC_len _ _ _).trans HY.out.2.1, ?_, ?_, gr3⟩
                · show 0 ≤ stN y.n s; have := HY.out.2.2; unfold stN; split <;> omega
                · show stN y.n s ≤ 40 * ((j + 1 : Nat) : Int); have := HY.out.2.2; unfold stN; split <;> omega
              clear F5 RS RS2 D6 B6 K5 K6 K7 R5 q7 q8 hg3 ht2 HE HRel
              have HSM : Hid (∀ W, Kept [] V6.drew W → Calls Tryd.prog 15 #[.pointer (some ⟨m, 0, none⟩), .agg (rmA c (some ⟨g3, 0, none⟩) n c3 (stN y.n s) (stA c y.cs y.a s))] W fun e w' => e = .returned (.bool true) ∧ Kept [] W w') := fun W kk => ksame_any m p r g3 c c _ _ _ n c3 W ((FN.out.new ((Kept.refl [] V6).drew.trans kk)).mm) ((FN.out.new ((Kept.refl [] V6).drew.trans kk)).row) FN.out.len.symm (by omega)
              have HDN : Hid (∀ W, Kept [] V6.drew W → Calls Tryd.prog 16 #[.pointer (some ⟨a, 0, none⟩)] W fun e w' => e = .returned (.bool t2.d) ∧ Kept [] W w') := fun W kk => (kdone_any a _ W (FN.out.new ((Kept.refl [] V6).drew.trans kk)).ks).mono fun e w' hh => ⟨by rw [FN.out.rel.d]; exact hh.1, by rw [hh.2]; exact Kept.refl _ _⟩
              have HGT : Hid (∀ W, Kept [] V6.drew W → Calls Tryd.prog 17 #[.pointer (some ⟨a, 0, none⟩)] W fun e w' => e = .returned (.int .u64 t2.g) ∧ Kept [] W w') := fun W kk => (kgot_any a _ W (FN.out.new ((Kept.refl [] V6).drew.trans kk)).ks).mono fun e w' hh => ⟨by rw [FN.out.rel.g]; exact hh.1, by rw [hh.2]; exact Kept.refl _ _⟩
              obtain ⟨NX, hNX⟩ : ∃ NX, nxV t2 c.c = NX := ⟨_, rfl⟩
              have HNX : Hid (∀ W, Kept [] V6.drew W → Calls Tryd.prog 18 #[.pointer (some ⟨a, 0, none⟩)] W fun e w' => e = .returned (.int .i64 NX) ∧ Kept [] W w') := fun W kk => (knext_any a _ W (FN.out.new ((Kept.refl [] V6).drew.trans kk)).ks).mono fun e w' hh => ⟨by rw [← hNX, FN.out.rel.next]; exact hh.1, by rw [hh.2]; exact Kept.refl _ _⟩
              have HRN : Hid (∀ W, Calls Tryd.prog 19 #[.agg (rcA t2), .int .i64 c.c] W fun e w' => e = .returned (.int .i64 NX) ∧ Kept [] W w') := fun W => hNX ▸ rnext_any t2 c.c W n0 n64 FN.out.rel.gb.1 FN.out.rel.gb.2
              clear hNX
              have F5 : F3 V6.drew q q2 b (rmA c (some ⟨g3, 0, none⟩) n c3 (stN y.n s) (stA c y.cs y.a s)) (rcA t2) #[.int .i64 c.t, .int .i64 c.s, .int .i64 c.c, .int .i64 c.h, .int .i64 c.k, .int .i64 c.e, .int .i64 c.l] := ⟨FN.out.rm, FN.out.rc, FN.out.cf⟩
              refine wp_region_held_drew (S := fun w' => F3 w' q q2 b (rmA c (some ⟨g3, 0, none⟩) n c3 (stN y.n s) (stA c y.cs y.a s)) (rcA t2) #[.int .i64 c.t, .int .i64 c.s, .int .i64 c.c, .int .i64 c.h, .int .i64 c.k, .int .i64 c.e, .int .i64 c.l]) (by kernel_rfl) F5 (fun hS => ?_)
              replace FN := hidOf (FN.out.new (Kept.refl [] V6).drew)
              generalize V6.drew = V5 at F5 HSM HDN HGT HNX HRN FN hS ⊢
              refine wpAnyH_take (i := 0) (oi := { dst := some 69, op := Op.move (Operand.tmp 7), type := 28, pos := "law.go:72", after := #[], guard := none }) (v := Value.pointer (some ⟨m, 0, none⟩)) rfl (by kernel_rfl) (by kernel_rfl) (by kernel_rfl) (fun _ _ _ h => h) (Or.inl ⟨rfl, fun _ _ => by kernel_rfl⟩) hS ?_
              try simp only [Act.put, List.setIfInBounds_toArray, List.set_cons_zero, List.set_cons_succ]
              refine wpAnyH_take (i := 1) (oi := { dst := some 70, op := Op.load 35 (Operand.tmp 8), type := 35, pos := "law.go:72", after := #[], guard := none }) (v := Value.agg (rmA c (some ⟨g3, 0, none⟩) n c3 (stN y.n s) (stA c y.cs y.a s))) rfl (by kernel_rfl) (by kernel_rfl) (by kernel_rfl) (fun _ _ _ h => h) (yieldsIf_load_rw rfl 35 isT_rm (.tmp 8) rfl q rfl (rmA c (some ⟨g3, 0, none⟩) n c3 (stN y.n s) (stA c y.cs y.a s)) rfl (fun _ h => h.fa)) hS ?_
              try simp only [Act.put, List.setIfInBounds_toArray, List.set_cons_zero, List.set_cons_succ]
              refine wpAnyH_ready (rs := [2]) (by kernel_rfl) (by simp) ?_
              refine AllReadyH.cons (o := { dst := some 71, op := Op.call { callee := Callee.value (Operand.func 15), args := #[Operand.tmp 69, Operand.tmp 70], argTypes := #[28, 35] }, type := 4, pos := "law.go:72", after := #[{ on := 0, ground := Ground.data }, { on := 1, ground := Ground.data }], guard := none }) rfl (fun K hK => ?_) AllReadyH.nil
              rw [if_pos (by rfl)]
              refine wp_calls 15 #[.pointer (some ⟨m, 0, none⟩), .agg (rmA c (some ⟨g3, 0, none⟩) n c3 (stN y.n s) (stA c y.cs y.a s))] (by kernel_rfl) (fun v U => v = .bool true ∧ Kept [] V5 U) ((HSM.out _ (Kept.refl [] V5)).mono (fun e w' hh => ⟨_, hh.1, rfl, hh.2⟩)) ?_
              rintro _ u2 ⟨rfl, J2⟩
              have j2 := (Kept.refl [] V5).trans J2
              have f2 := F5.new J2
              try simp only [Act.put, List.setIfInBounds_toArray, List.set_cons_zero, List.set_cons_succ]
              refine hK.out _ _ (f2) (fun hS => ?_)
              clear hK K
              refine wpAnyH_take (i := 3) (oi := { dst := some 72, op := Op.unOp UnOp.not 4 (Operand.tmp 71), type := 4, pos := "law.go:72", after := #[{ on := 2, ground := Ground.data }], guard := none }) (v := Value.bool false) rfl (by kernel_rfl) (by kernel_rfl) (by kernel_rfl) (fun _ _ _ h => h) (Or.inl ⟨rfl, fun _ _ => by kernel_rfl⟩) hS ?_
              try simp only [Act.put, List.setIfInBounds_toArray, List.set_cons_zero, List.set_cons_succ]
              refine wpAnyH_take (i := 4) (oi := { dst := some 73, op := Op.move (Operand.tmp 72), type := 4, pos := "law.go:72", after := #[{ on := 3, ground := Ground.data }, { on := 2, ground := Ground.chain }], guard := none }) (v := Value.bool false) rfl (by kernel_rfl) (by kernel_rfl) (by kernel_rfl) (fun _ _ _ h => h) (Or.inl ⟨rfl, fun _ _ => by kernel_rfl⟩) hS ?_
              try simp only [Act.put, List.setIfInBounds_toArray, List.set_cons_zero, List.set_cons_succ]
              refine wpAnyH_take (i := 5) (oi := { dst := some 74, op := Op.move (Operand.tmp 10), type := 38, pos := "law.go:72", after := #[{ on := 4, ground := Ground.guard }], guard := some (4, false) }) (v := Value.pointer (some ⟨a, 0, none⟩)) rfl (by kernel_rfl) (by kernel_rfl) (by kernel_rfl) (fun _ _ _ h => h) (Or.inl ⟨rfl, fun _ _ => by kernel_rfl⟩) hS ?_
              try simp only [Act.put, List.setIfInBounds_toArray, List.set_cons_zero, List.set_cons_succ]
              refine wpAnyH_take (i := 7) (oi := { dst := some 76, op := Op.fieldAddr 42 (Operand.tmp 11) 5, type := 0, pos := "law.go:72", after := #[{ on := 4, ground := Ground.guard }], guard := some (4, false) }) (v := Value.pointer (some ⟨q2, 5, none⟩)) rfl (by kernel_rfl) (by kernel_rfl) (by kernel_rfl) (fun _ _ _ h => h) (Or.inl ⟨rfl, fun _ _ => by kernel_rfl⟩) hS ?_
              try simp only [Act.put, List.setIfInBounds_toArray, List.set_cons_zero, List.set_cons_succ]
              refine wpAnyH_take (i := 8) (oi := { dst := some 77, op := Op.load 4 (Operand.tmp 76), type := 4, pos := "law.go:72", after := #[{ on := 7, ground := Ground.data }, { on := 4, ground := Ground.guard }], guard := some (4, false) }) (v := Value.bool t2.d) rfl (by kernel_rfl) (by kernel_rfl) (by kernel_rfl) (fun _ _ _ h => h) (Or.inl ⟨rfl, fun w hSw => by have z := cell_of_blk hSw.fb (i := 5) (v := .bool t2.d) rfl; go_simp⟩) hS ?_
              try simp only [Act.put, List.setIfInBounds_toArray, List.set_cons_zero, List.set_cons_succ]
              refine wpAnyH_ready (rs := [6]) (by kernel_rfl) (by simp) ?_
              refine AllReadyH.cons (o := { dst := some 75, op := Op.call { callee := Callee.value (Operand.func 16), args := #[Operand.tmp 74], argTypes := #[38] }, type := 4, pos := "law.go:72", after := #[{ on := 5, ground := Ground.data }, { on := 4, ground := Ground.chain }, { on := 4, ground := Ground.guard }], guard := some (4, false) }) rfl (fun K hK => ?_) AllReadyH.nil
              rw [if_pos (by rfl)]
              refine wp_calls 16 #[.pointer (some ⟨a, 0, none⟩)] (by kernel_rfl) (fun v U => v = .bool t2.d ∧ Kept [] u2 U) ((HDN.out _ j2).mono (fun e w' hh => ⟨_, hh.1, rfl, hh.2⟩)) ?_
              rintro _ u6 ⟨rfl, J6⟩
              have j6 := j2.trans J6
              have f6 := f2.new J6
              try simp only [Act.put, List.setIfInBounds_toArray, List.set_cons_zero, List.set_cons_succ]
              refine hK.out _ _ (f6) (fun hS => ?_)
              clear hK K
              refine wpAnyH_take (i := 9) (oi := { dst := some 78, op := Op.binOp BinOp.neq 4 (Operand.tmp 75) (Operand.tmp 77) 4, type := 4, pos := "law.go:72", after := #[{ on := 6, ground := Ground.data }, { on := 8, ground := Ground.data }, { on := 4, ground := Ground.guard }], guard := some (4, false) }) (v := Value.bool false) rfl (by kernel_rfl) (by kernel_rfl) (by kernel_rfl) (fun _ _ _ h => h) (Or.inl ⟨rfl, fun _ _ => by go_simp⟩) hS ?_
              try simp only [Act.put, List.setIfInBounds_toArray, List.set_cons_zero, List.set_cons_succ]
              refine wpAnyH_take (i := 10) (oi := { dst := some 79, op := Op.pick (Operand.tmp 73) (Operand.const (Value.bool true)) (Operand.tmp 78), type := 4, pos := "law.go:72", after := #[{ on := 4, ground := Ground.data }, { on := 9, ground := Ground.data }], guard := none }) (v := Value.bool false) rfl (by kernel_rfl) (by kernel_rfl) (by kernel_rfl) (fun _ _ _ h => h) (Or.inl ⟨rfl, fun _ _ => by kernel_rfl⟩) hS ?_
              try simp only [Act.put, List.setIfInBounds_toArray, List.set_cons_zero, List.set_cons_succ]
              refine wpAnyH_take (i := 11) (oi := { dst := some 80, op := Op.move (Operand.tmp 79), type := 4, pos := "law.go:72", after := #[{ on := 10, ground := Ground.data }, { on := 6, ground := Ground.chain }], guard := none }) (v := Value.bool false) rfl (by kernel_rfl) (by kernel_rfl) (by kernel_rfl) (fun _ _ _ h => h) (Or.inl ⟨rfl, fun _ _ => by kernel_rfl⟩) hS ?_
              try simp only [Act.put, List.setIfInBounds_toArray, List.set_cons_zero, List.set_cons_succ]
              refine wpAnyH_take (i := 12) (oi := { dst := some 81, op := Op.move (Operand.tmp 10), type := 38, pos := "law.go:72", after := #[{ on := 11, ground := Ground.guard }], guard := some (11, false) }) (v := Value.pointer (some ⟨a, 0, none⟩)) rfl (by kernel_rfl) (by kernel_rfl) (by kernel_rfl) (fun _ _ _ h => h) (Or.inl ⟨rfl, fun _ _ => by kernel_rfl⟩) hS ?_
              try simp only [Act.put, List.setIfInBounds_toArray, List.set_cons_zero, List.set_cons_succ]
              refine wpAnyH_take (i := 14) (oi := { dst := some 83, op := Op.fieldAddr 42 (Operand.tmp 11) 4, type := 0, pos := "law.go:72", after := #[{ on := 11, ground := Ground.guard }], guard := some (11, false) }) (v := Value.pointer (some ⟨q2, 4, none⟩)) rfl (by kernel_rfl) (by kernel_rfl) (by kernel_rfl) (fun _ _ _ h => h) (Or.inl ⟨rfl, fun _ _ => by kernel_rfl⟩) hS ?_
              try simp only [Act.put, List.setIfInBounds_toArray, List.set_cons_zero, List.set_cons_succ]
              refine wpAnyH_take (i := 15) (oi := { dst := some 84, op := Op.load 29 (Operand.tmp 83), type := 29, pos := "law.go:72", after := #[{ on := 14, ground := Ground.data }, { on := 11, ground := Ground.guard }], guard := some (11, false) }) (v := Value.int .u64 t2.g) rfl (by kernel_rfl) (by kernel_rfl) (by kernel_rfl) (fun _ _ _ h => h) (Or.inl ⟨rfl, fun w hSw => by have z := cell_of_blk hSw.fb (i := 4) (v := .int .u64 t2.g) rfl; go_simp⟩) hS ?_
              try simp only [Act.put, List.setIfInBounds_toArray, List.set_cons_zero, List.set_cons_succ]
              refine wpAnyH_ready (rs := [13]) (by kernel_rfl) (by simp) ?_
              refine AllReadyH.cons (o := { dst := some 82, op := Op.call { callee := Callee.value (Operand.func 17), args := #[Operand.tmp 81], argTypes := #[38] }, type := 29, pos := "law.go:72", after := #[{ on := 12, ground := Ground.data }, { on := 11, ground := Ground.chain }, { on := 11, ground := Ground.guard }], guard := some (11, false) }) rfl (fun K hK => ?_) AllReadyH.nil
              rw [if_pos (by rfl)]
              refine wp_calls 17 #[.pointer (some ⟨a, 0, none⟩)] (by kernel_rfl) (fun v U => v = .int .u64 t2.g ∧ Kept [] u6 U) ((HGT.out _ j6).mono (fun e w' hh => ⟨_, hh.1, rfl, hh.2⟩)) ?_
              rintro _ u13 ⟨rfl, J13⟩
              have j13 := j6.trans J13
              have f13 := f6.new J13
              try simp only [Act.put, List.setIfInBounds_toArray, List.set_cons_zero, List.set_cons_succ]
              refine hK.out _ _ (f13) (fun hS => ?_)
              clear hK K
              refine wpAnyH_take (i := 16) (oi := { dst := some 85, op := Op.binOp BinOp.neq 29 (Operand.tmp 82) (Operand.tmp 84) 29, type := 4, pos := "law.go:72", after := #[{ on := 13, ground := Ground.data }, { on := 15, ground := Ground.data }, { on := 11, ground := Ground.guard }], guard := some (11, false) }) (v := Value.bool false) rfl (by kernel_rfl) (by kernel_rfl) (by kernel_rfl) (fun _ _ _ h => h) (Or.inl ⟨rfl, fun _ _ => by go_simp⟩) hS ?_
              try simp only [Act.put, List.setIfInBounds_toArray, List.set_cons_zero, List.set_cons_succ]
              refine wpAnyH_take (i := 17) (oi := { dst := some 86, op := Op.pick (Operand.tmp 80) (Operand.const (Value.bool true)) (Operand.tmp 85), type := 4, pos := "law.go:72", after := #[{ on := 11, ground := Ground.data }, { on := 16, ground := Ground.data }], guard := none }) (v := Value.bool false) rfl (by kernel_rfl) (by kernel_rfl) (by kernel_rfl) (fun _ _ _ h => h) (Or.inl ⟨rfl, fun _ _ => by kernel_rfl⟩) hS ?_
              try simp only [Act.put, List.setIfInBounds_toArray, List.set_cons_zero, List.set_cons_succ]
              refine wpAnyH_take (i := 18) (oi := { dst := some 87, op := Op.move (Operand.tmp 86), type := 4, pos := "law.go:72", after := #[{ on := 17, ground := Ground.data }, { on := 13, ground := Ground.chain }], guard := none }) (v := Value.bool false) rfl (by kernel_rfl) (by kernel_rfl) (by kernel_rfl) (fun _ _ _ h => h) (Or.inl ⟨rfl, fun _ _ => by kernel_rfl⟩) hS ?_
              try simp only [Act.put, List.setIfInBounds_toArray, List.set_cons_zero, List.set_cons_succ]
              refine wpAnyH_take (i := 19) (oi := { dst := some 88, op := Op.move (Operand.tmp 10), type := 38, pos := "law.go:72", after := #[{ on := 18, ground := Ground.guard }], guard := some (18, false) }) (v := Value.pointer (some ⟨a, 0, none⟩)) rfl (by kernel_rfl) (by kernel_rfl) (by kernel_rfl) (fun _ _ _ h => h) (Or.inl ⟨rfl, fun _ _ => by kernel_rfl⟩) hS ?_
              try simp only [Act.put, List.setIfInBounds_toArray, List.set_cons_zero, List.set_cons_succ]
              refine wpAnyH_take (i := 21) (oi := { dst := some 90, op := Op.load 42 (Operand.tmp 11), type := 42, pos := "law.go:72", after := #[{ on := 18, ground := Ground.guard }], guard := some (18, false) }) (v := Value.agg (rcA t2)) rfl (by kernel_rfl) (by kernel_rfl) (by kernel_rfl) (fun _ _ _ h => h) (yieldsIf_load_rw rfl 42 isT_rc (.tmp 11) rfl q2 rfl (rcA t2) rfl (fun _ h => h.fb)) hS ?_
              try simp only [Act.put, List.setIfInBounds_toArray, List.set_cons_zero, List.set_cons_succ]
              refine wpAnyH_take (i := 22) (oi := { dst := some 91, op := Op.fieldAddr 23 (Operand.tmp 3) 2, type := 0, pos := "law.go:72", after := #[{ on := 18, ground := Ground.guard }], guard := some (18, false) }) (v := Value.pointer (some ⟨b, 2, none⟩)) rfl (by kernel_rfl) (by kernel_rfl) (by kernel_rfl) (fun _ _ _ h => h) (Or.inl ⟨rfl, fun _ _ => by kernel_rfl⟩) hS ?_
              try simp only [Act.put, List.setIfInBounds_toArray, List.set_cons_zero, List.set_cons_succ]
              refine wpAnyH_take (i := 23) (oi := { dst := some 92, op := Op.load 3 (Operand.tmp 91), type := 3, pos := "law.go:72", after := #[{ on := 22, ground := Ground.data }, { on := 18, ground := Ground.guard }], guard := some (18, false) }) (v := Value.int .i64 c.c) rfl (by kernel_rfl) (by kernel_rfl) (by kernel_rfl) (fun _ _ _ h => h) (Or.inl ⟨rfl, fun w hSw => by have z := cell_of_blk hSw.fc (i := 2) (v := .int .i64 c.c) rfl; go_simp⟩) hS ?_
              try simp only [Act.put, List.setIfInBounds_toArray, List.set_cons_zero, List.set_cons_succ]
              refine wpAnyH_ready (rs := [20]) (by kernel_rfl) (by simp) ?_
              refine AllReadyH.cons (o := { dst := some 89, op := Op.call { callee := Callee.value (Operand.func 18), args := #[Operand.tmp 88], argTypes := #[38] }, type := 3, pos := "law.go:72", after := #[{ on := 19, ground := Ground.data }, { on := 18, ground := Ground.chain }, { on := 18, ground := Ground.guard }], guard := some (18, false) }) rfl (fun K hK => ?_) AllReadyH.nil
              rw [if_pos (by rfl)]
              refine wp_calls 18 #[.pointer (some ⟨a, 0, none⟩)] (by kernel_rfl) (fun v U => v = .int .i64 NX ∧ Kept [] u13 U) ((HNX.out _ j13).mono (fun e w' hh => ⟨_, hh.1, rfl, hh.2⟩)) ?_
              rintro _ u20 ⟨rfl, J20⟩
              have j20 := j13.trans J20
              have f20 := f13.new J20
              try simp only [Act.put, List.setIfInBounds_toArray, List.set_cons_zero, List.set_cons_succ]
              refine hK.out _ _ (f20) (fun hS => ?_)
              clear hK K
              refine wpAnyH_ready (rs := [24]) (by kernel_rfl) (by simp) ?_
              refine AllReadyH.cons (o := { dst := some 93, op := Op.call { callee := Callee.value (Operand.func 19), args := #[Operand.tmp 90, Operand.tmp 92], argTypes := #[42, 3] }, type := 3, pos := "law.go:72", after := #[{ on := 21, ground := Ground.data }, { on := 23, ground := Ground.data }, { on := 20, ground := Ground.chain }, { on := 18, ground := Ground.guard }], guard := some (18, false) }) rfl (fun K hK => ?_) AllReadyH.nil
              rw [if_pos (by rfl)]
              refine wp_calls 19 #[.agg (rcA t2), .int .i64 c.c] (by kernel_rfl) (fun v U => v = .int .i64 NX ∧ Kept [] u20 U) ((HRN.out _).mono (fun e w' hh => ⟨_, hh.1, rfl, hh.2⟩)) ?_
              rintro _ u24 ⟨rfl, J24⟩
              have j24 := j20.trans J24
              have f24 := f20.new J24
              try simp only [Act.put, List.setIfInBounds_toArray, List.set_cons_zero, List.set_cons_succ]
              refine hK.out _ _ (f24) (fun hS => ?_)
              clear hK K
              refine wpAnyH_take (i := 25) (oi := { dst := some 94, op := Op.binOp BinOp.neq 3 (Operand.tmp 89) (Operand.tmp 93) 3, type := 4, pos := "law.go:72", after := #[{ on := 20, ground := Ground.data }, { on := 24, ground := Ground.data }, { on := 18, ground := Ground.guard }], guard := some (18, false) }) (v := Value.bool false) rfl (by kernel_rfl) (by kernel_rfl) (by kernel_rfl) (fun _ _ _ h => h) (Or.inl ⟨rfl, fun _ _ => by go_simp⟩) hS ?_
              try simp only [Act.put, List.setIfInBounds_toArray, List.set_cons_zero, List.set_cons_succ]
              refine wpAnyH_take (i := 26) (oi := { dst := some 95, op := Op.pick (Operand.tmp 87) (Operand.const (Value.bool true)) (Operand.tmp 94), type := 4, pos := "law.go:72", after := #[{ on := 18, ground := Ground.data }, { on := 25, ground := Ground.data }], guard := none }) (v := Value.bool false) rfl (by kernel_rfl) (by kernel_rfl) (by kernel_rfl) (fun _ _ _ h => h) (Or.inl ⟨rfl, fun _ _ => by kernel_rfl⟩) hS ?_
              try simp only [Act.put, List.setIfInBounds_toArray, List.set_cons_zero, List.set_cons_succ]
              refine wpAnyH_done (by kernel_rfl) ?_ _
              have KF := j24
              clear hS HSM HDN HGT HNX HRN f2 f6 f13 f20 f24 J2 J6 J13 J20 J24 j2 j6 j13 j20
              go_wp2
              go_roundw
              case rel => exact ⟨j + 1, g3, c3, stK c y.cs s, t2, ⟨stC c y.cs s, stN y.n s, stA c y.cs y.a s⟩, by omega, by go_num, FN.out.new KF⟩
              case measure => simp [intOf]; omega
            · have hje : j = N := by omega
              have AL := hidOf (alive_any wr (HT.out.kept HF.out.kp))
              go_wp2_with fail
              refine AL.out.mono ?_
              rintro e WA ⟨rfl, KA⟩
              go_wp2
              go_ret
              exact ⟨rfl, HF.out.kp.trans KA⟩
        · have hst0 : ¬ 0 < st := h0
          obtain ⟨gp, gm⟩ := row_ne_bk M R
          have HX := hidOf (And.intro M (And.intro R K1))
          clear M R
          have szq := Q.lt
          obtain ⟨q2, hq2⟩ : ∃ q2, q2 = w2.heap.size := ⟨_, rfl⟩
          have F0 : Hid (RW 35 w2 q (rmA c (some ⟨g, 0, none⟩) n c' 0 Acc.zero) ∧ RW 23 w2 b #[.int .i64 c.t, .int .i64 c.s, .int .i64 c.c, .int .i64 c.h, .int .i64 c.k, .int .i64 c.e, .int .i64 c.l] ∧ RW 27 w2 (b + 1) (plA fr st lo k lc) ∧ KS w2 a ⟨0, fr, 0, 0, 0, 0, fr⟩ ∧ Mm w2 m p r c xs 0 Acc.zero ∧ RowR w2 g xs c' ∧ Kept [] w w2) := ⟨Q.kept K4 (by simp), CB2.kept K4 (by simp), PB3, SA, HX.out.1.new (KV.trans K4), HX.out.2.1.kept (KV.trans K4) (by simp), K5⟩
          clear Q CB2 PB2 SA K2 K3 K4 K5 KV HX K0 K1 PB3
          go_upto_region 6 with (first | ((with_reducible change wpList _ _ _ (Oper.mk _ (Op.store 42 _ _) _ _ _ _ :: _) _ _); refine wpList_store_rw 42 isT_rc rfl (.tmp 11) (.tmp 47) rfl w2.heap.size (rcA ⟨fr, 0, false, 0, 0, false⟩) rfl rfl rfl (rc_one _) rcZ (RW.new 42 w2 rcZ) rfl ?_))
          rw [← hq2]
          refine gen_world (fun U => RW 42 U q2 (rcA ⟨fr, 0, false, 0, 0, false⟩) ∧ Kept [] w2 U) ?_ ?_
          · rw [hq2]; exact ⟨(RW.new 42 w2 rcZ).row _, ((Kept.refl [] w2).alloc _).setRow (Or.inr (Nat.le_refl _)) _⟩
          have hq3 : w2.heap.size ≤ q2 := by omega
          clear hq2 p0 p1 p2
          rintro U ⟨RC0, KU⟩
          have F1 : Hid (SI w U a b q q2 m p r n k c fr st lo lc 0 g c' ⟨0, fr, 0, 0, 0, 0, fr⟩ ⟨fr, 0, false, 0, 0, false⟩ ⟨xs, 0, Acc.zero⟩) := by
            obtain ⟨f1, f2, f3, f4, f5, f6, f7⟩ := F0.out
            exact ⟨f4.kept KU (by simp), RC0, f1.kept KU (by simp), f6.kept KU (by simp), f5.new KU, f2.kept KU (by simp), f3.kept KU (by simp), f7.trans KU, ⟨fun h => by simp at h, by show (0 : Int) ≤ 0 ∧ (0 : Int) < 18446744073709551616; decide⟩, Rel.start c fr n0, HW.out, HN.out.symm, Int.le_refl _, by show (0 : Int) ≤ 40 * ((0 : Nat) : Int); omega, a5⟩
          have szp2 : p < w1.heap.size ∧ r < w1.heap.size ∧ m < w1.heap.size := hsz
          have aw := F0.out.2.2.2.1.lt
          have szw := F0.out.2.2.2.2.2.2.size
          clear F0 RC0 KU
          have p1 := cell_of_blk F1.out.pl (i := 1) (v := .int .i64 st) rfl
          skip
          go_wp2
          go_loopw [51] (fun i wr => ∃ (j g c' : Nat) (s : Ks) (t : RC) (x : Mst), j ≤ 0 ∧ i = .int .i64 j ∧ SI w wr a b q q2 m p r n k c fr st lo lc j g c' s t x) (fun i _ => 0 - (intOf i).toNat)
          case atStart => exact ⟨0, g, c', _, _, _, Nat.zero_le _, rfl, F1.out⟩
          case round =>
            clear F1
            obtain ⟨j, g1, c1, s, t, x, hj, rfl, F⟩ := hrel
            have HF := hidOf F
            clear F
            by_cases hlt : j < 0
            · exact absurd hlt (by omega)
            · have hje : j = 0 := by omega
              have AL := hidOf (alive_any wr (HT.out.kept HF.out.kp))
              go_wp2_with fail
              refine AL.out.mono ?_
              rintro e WA ⟨rfl, KA⟩
              go_wp2
              go_ret
              exact ⟨rfl, HF.out.kp.trans KA⟩
  · have HI := hidOf hW
    clear hW
    go_enter Tryd.func3, Tryd.ntmps3
    go_upto_region 1 with (fail)
    rw [← hb]
    refine gen_world (fun W => RW 23 W b #[.int .i64 c.t, .int .i64 c.s, .int .i64 c.c, .int .i64 c.h, .int .i64 c.k, .int .i64 c.e, .int .i64 c.l] ∧ RW 27 W (b + 1) (plA fr st lo k lc) ∧ Kept [] w W) BX.out ?_
    have hbw : w.heap.size ≤ b := by omega
    clear BX hb
    rintro W ⟨CB, PB, K0⟩
    have szb := PB.lt
    have OF := hidOf (kof_no c ao n cap W HI.out)
    go_wp2_with (first | ((with_reducible change wpList _ _ _ (Oper.mk _ (Op.load 23 _) _ _ _ _ :: _) _ _); refine wpList_load_rw 23 isT_cf rfl (.tmp 3) rfl b rfl #[.int .i64 c.t, .int .i64 c.s, .int .i64 c.c, .int .i64 c.h, .int .i64 c.k, .int .i64 c.e, .int .i64 c.l] rfl CB ?_))
    refine OF.out.mono ?_
    rintro e w1 ⟨rfl, K1⟩
    have CB1 := CB.kept K1 (by simp)
    have PB1 := PB.kept K1 (by simp)
    have K2 := K0.trans K1
    have sz0 := K0.size
    have szp := PB1.lt
    clear OF CB PB
    obtain ⟨q, hq⟩ : ∃ q, q = w1.heap.size := ⟨_, rfl⟩
    go_upto_region 2 with (first | ((with_reducible change wpList _ _ _ (Oper.mk _ (Op.store 35 (Operand.tmp 8) _) _ _ _ _ :: _) _ _); refine wpList_store_rw 35 isT_rm rfl (.tmp 8) (.tmp 18) rfl w1.heap.size rmZ rfl rfl rfl rmZ_one rmZ (RW.new 35 w1 rmZ) rfl ?_))
    rw [← hq]
    refine gen_world (fun V => RW 35 V q rmZ ∧ Kept [] w1 V) ?_ ?_
    · rw [hq]; exact ⟨(RW.new 35 w1 rmZ).row _, ((Kept.refl [] w1).alloc _).setRow (Or.inr (Nat.le_refl _)) _⟩
    have hq1 : w1.heap.size ≤ q := by omega
    clear hq
    rintro V ⟨Q, KV⟩
    have CB2 := CB1.kept KV (by simp)
    have PB2 := PB1.kept KV (by simp)
    have K3 := K2.trans KV
    have p0 := cell_of_blk PB2 (i := 0) (v := .int .i64 fr) rfl
    clear CB1 PB1
    go_wp2_with fail
    refine (knew_any fr _).mono ?_
    rintro e w2 ⟨a, rfl, ha, SA, K4⟩
    have PB3 := PB2.kept K4 (by simp)
    have p1 := cell_of_blk PB3 (i := 1) (v := .int .i64 st) rfl
    clear p0
    have p0 := cell_of_blk PB3 (i := 0) (v := .int .i64 fr) rfl
    have p2 := cell_of_blk PB3 (i := 2) (v := .slice lo k lc) rfl
    have K5 := K3.trans K4
    have T := HT.out.kept K5
    have AL := hidOf (alive_any _ T)
    clear T HT
    go_wp2_with fail
    refine AL.out.mono ?_
    rintro e WA ⟨rfl, KA⟩
    go_wp2
    go_ret
    exact ⟨rfl, K5.trans KA⟩

set_option maxRecDepth 100000 in
theorem claimSteps_lifted (os : Os) (started : os.Started) (H : Type) (enc : TypeId × Value → H) :
    ReturnsInHanded {} Tryd.checked os 3 .any (fun w args => (Rows.claimStepsSpec.pre enc Tryd.prog Tryd.f3 [] false w args ∧ laidMetH Tryd.prog laid1 w) ∧ sizedMet enc Tryd.prog Tryd.f3 (OpenSpec.ofChange Rows.claimStepsSpec) false w args)
      (Rows.claimStepsSpec.post enc Tryd.prog Tryd.f3 false true false false) := by
  refine returnsInHanded_of_change_and (C := Tryd.checked) (X := fun w _ => laidMetH Tryd.prog laid1 w) (fun _ _ _ hh h => h.of_heap hh) own started (by kernel_rfl) Tryd.func3
    (ChangeSpec.witness_shaped (enc := enc) (C := Tryd.checked) (os := os) (X := fun w _ => laidMetH Tryd.prog laid1 w) false (World.doorLaid Tryd.prog 400 os) #[.agg #[.int .i64 0, .int .i64 0, .int .i64 0, .int .i64 0, .int .i64 0, .int .i64 0, .int .i64 0], .slice none 0 0, .agg #[.int .i64 0, .int .i64 0, .slice none 0 0]] 8 rfl (World.shaped_of_RefB (by kernel_rfl) (by kernel_rfl)) (by kernel_rfl) (by kernel_rfl) (by kernel_rfl) (door_met os _)) ?_
  intro W base args ds gs before hval0 hW _ _ hL _
  have hval : ∀ (j : Nat) t v, Tryd.f3.params[j]? = some t → args[j]? = some v → Value.okWide Tryd.prog W .any base t v := hval0
  have hW' := hW
  obtain ⟨p, q, hA0, hV, rfl, _, _⟩ := hW
  have hA : DataW.TrodAll enc Tryd.prog W 0 (fun _ => true) true Tryd.f3.params.toList args.toList ds p := hA0
  rw [Tryd.params3] at hA hval
  clear hA0 hval0
  obtain ⟨v0, vs0, d0, ds0, p0, q0, hargs, rfl, rfl, h0, r0⟩ := trodAll_cons hA
  obtain ⟨v1, vs1, d1, ds1, p1, q1, rfl, rfl, rfl, h1, r1⟩ := trodAll_cons r0
  obtain ⟨v2, vs2, d2, ds2, p2, q2, rfl, rfl, rfl, h2, r2⟩ := trodAll_cons r1
  obtain ⟨rfl, rfl, rfl⟩ := trodAll_nil r2
  obtain rfl : args = #[v0, v1, v2] := by cases args; simp_all
  obtain ⟨rfl, rfl⟩ := trodVars_none hV
  have k0 := h0
  have k1 := h1
  have k2 := h2
  simp only [List.append_nil] at hW'
  have hlt0 : ∀ x ∈ p0, x.block < W.heap.size := fun x hx => hW'.lt x (by simp [hx])
  have hlt1 : ∀ x ∈ p1, x.block < W.heap.size := fun x hx => hW'.lt x (by simp [hx])
  have hlt2 : ∀ x ∈ p2, x.block < W.heap.size := fun x hx => hW'.lt x (by simp [hx])
  obtain ⟨c0, rfl, g0⟩ := open_cfg (hval 0 23 v0 rfl rfl) h0
  obtain ⟨ao1, cap1, xs1, rfl, s1, g1, z1, n1⟩ := open_words (hval 1 24 v1 rfl rfl) h1
  obtain ⟨fr2, st2, lo2, lc2, ps2, rfl, sl2, pw2⟩ := open_play (hval 2 27 v2 rfl rfl) h2
  refine (claimSteps_walk W c0 g0 ao1 xs1 cap1 s1 g1 n1 fr2 st2 lo2 lc2 ps2 sl2 pw2 (tab_of_laid hL)).mono fun e W' ⟨he, hg⟩ => ?_
  subst he
  have hb := hg.below (by simp)
  exact ⟨_, rfl, _, _, _, [], _, [], hW', (trodAll_cons_mk (shut_bool Tryd.underlying4 _) trodAll_mk0), (trodAll_cons_mk (Below.trod laidOut (by kernel_rfl) (of_decide_eq_true (by kernel_rfl)) k0 hb hlt0) (trodAll_cons_mk (Below.trod laidOut (by kernel_rfl) (of_decide_eq_true (by kernel_rfl)) k1 hb hlt1) (trodAll_cons_mk (Below.trod laidOut (by kernel_rfl) (of_decide_eq_true (by kernel_rfl)) k2 hb hlt2) trodAll_mk0))), rfl, hb.frame _, fun h => by cases h⟩

theorem claimSteps_over : Rows.ClaimStepsSaid :=
  OpenClaim.holds_of_wide 3 Tryd.f3 rfl rfl rfl rfl rfl rfl rfl ⟨rfl, rfl, rfl, rfl, rfl⟩ rfl rfl rfl rfl rfl (by kernel_rfl) Tryd.func3 (by kernel_rfl)
    (of_decide_eq_true (by kernel_rfl)) (by unfold Func.isWrapper; first | (rw [if_pos (by decide +kernel)]; kernel_rfl) | (rw [if_neg (by decide +kernel)]; exact ⟨rfl, rfl⟩))
    (fun os started H enc _ => claimSteps_lifted os started H enc)

theorem claimSteps_holds : Rows.ClaimStepsCardSaid :=
  Claim7.holds_tied_plain_at .later [] [.data] true (true, "16d24a33fc2aa0e14e1eec150c167cb59402c41f178cda57adfd34c93caf4e6b") false
    claimSteps_over (fun _ h => by cases h) (by kernel_rfl) (fun _ h => by cases h) claimSteps_row_tie rfl ⟨rfl, rfl⟩ (by kernel_rfl) rfl
    (fun f fn hf hfn => by
      obtain rfl : f = 3 := Option.some.inj ((show Tryd.prog.funcNamed "stepstone/stepstonelaw09.ClaimSteps" = some 3 by kernel_rfl).symm.trans hf) |>.symm
      obtain rfl : fn = Tryd.f3 := (Option.some.inj (Tryd.func3.symm.trans hfn)).symm
      exact ⟨by kernel_rfl, fun j t ht => by
          rw [Tryd.params3] at ht
          rcases j with _ | j
          · have : t = 23 := by simpa using ht.symm
            subst this; exact (show Tryd.prog.wantsStandIn 23 = false by kernel_rfl)
          rcases j with _ | j
          · have : t = 24 := by simpa using ht.symm
            subst this; exact (show Tryd.prog.wantsStandIn 24 = false by kernel_rfl)
          rcases j with _ | j
          · have : t = 27 := by simpa using ht.symm
            subst this; exact (show Tryd.prog.wantsStandIn 27 = false by kernel_rfl)
          simp at ht⟩)
    (by kernel_rfl)
#print axioms claimSteps_holds
end Go.Proofs.YtmmpafhfanldbaaDoor
