/-
  Each call of any script, over any words, is the access that the document says, and tells what it says.
  Conditions: the package variable of handle that the code reads starts as the program's text lays it (the card ties it to that text).
-/
import Derived.Test.YtpobanjpgdghlaaDoorGAlive
import Derived.Test.YtpobanjpgdghlaaDoorGArgs
import Derived.Test.YtpobanjpgdghlaaDoorGRef
import Derived.Test.YtpobanjpgdghlaaDoorHLaid
import Derived.Test.YtpobanjpgdghlaaDoorPArgs
import Derived.ProofKit
import Derived.SizedLaws
import Derived.Carry
namespace Go.Proofs.YtpobanjpgdghlaaDoor
open Go.ChangeShapes Go.WideShapes Go.ChangeAt Go.RowKit
open Go.Deep
open Go.Proofs.YtpobanjpgdghlaaDoor.K
set_option maxRecDepth 100000

theorem rw_ne {T1 T2 : TypeId} {w : World} {b c : Nat} {A B : Array Value} (h1 : w.heap[b]? = some (.cells A T1 (0, 0))) (h2 : w.heap[c]? = some (.cells B T2 (0, 0))) (hT : T1 ≠ T2) : ¬ b = c := fun e => by
  rw [e, h2] at h1; simp at h1; exact hT h1.2.symm
theorem rowR_ne {T : TypeId} {w : World} {g c cap : Nat} {cs : List Int} {B : Array Value} (h1 : RowR w g cs cap) (h2 : w.heap[c]? = some (.cells B T (0, 0))) (hT : 29 ≠ T) : ¬ g = c := by
  obtain ⟨rest, z, _⟩ := h1
  exact rw_ne z h2 hT
theorem nin2 {x a b : Nat} (h1 : ¬ x = a) (h2 : ¬ x = b) : x ∉ [a, b] := by simp [h1, h2]
theorem rowR_rw {T : TypeId} {w : World} {g c cap : Nat} {cs : List Int} {B : Array Value} (h1 : RowR w g cs cap) (h2 : RW T w c B) (hT : 29 ≠ T) : ¬ g = c := rowR_ne h1 h2 hT
/-- What holds at each call: the guard, the document's guard, both words. -/
structure AI (w0 wr : World) (b qm qh m p r n : Nat) (c : Cfg) (th : Int) (j : Nat) (g : Gs) (cs : List Int) (cnt : Int) (a : Acc) (gg cg : Nat) : Prop where
  gb : GB wr b g
  rg : RW 42 wr qh (rgA g)
  rm : RW 35 wr qm (rmA c (some ⟨gg, 0, none⟩) n cg cnt a)
  row : RowR wr gg cs cg
  mm : Mm wr m p r c cs cnt a
  kp : Kept [] w0 wr
  t : g.t = th
  u0 : 0 ≤ g.u
  u1 : g.u ≤ c.s
  len : cs.length = n
  n0 : 0 ≤ cnt
  n1 : cnt ≤ j
  gr : ¬ gg = r
  b0 : w0.heap.size ≤ b
  m0 : w0.heap.size ≤ qm
  h0 : w0.heap.size ≤ qh
  p0 : w0.heap.size ≤ p
  r0 : w0.heap.size ≤ r
section
variable {w0 wr w4 w5 w6 : World} {b qm qh m p r n : Nat} {c : Cfg} {th : Int} {j : Nat} {g g' : Gs} {cs cs' : List Int} {cnt cnt' : Int} {a a' : Acc} {gg cg g2 c2 : Nat}
theorem AI.new (h : AI w0 wr b qm qh m p r n c th j g cs cnt a gg cg) (k : Kept [] wr w4) : AI w0 w4 b qm qh m p r n c th j g cs cnt a gg cg :=
  ⟨h.gb.kept k (by simp), h.rg.kept k (by simp), h.rm.kept k (by simp), h.row.kept k (by simp), h.mm.new k, h.kp.trans k, h.t, h.u0, h.u1, h.len, h.n0, h.n1, h.gr, h.b0, h.m0, h.h0, h.p0, h.r0⟩
theorem AI.next (h : AI w0 wr b qm qh m p r n c th j g cs cnt a gg cg) : AI w0 wr b qm qh m p r n c th (j + 1) g cs cnt a gg cg :=
  ⟨h.gb, h.rg, h.rm, h.row, h.mm, h.kp, h.t, h.u0, h.u1, h.len, h.n0, by have := h.n1; omega, h.gr, h.b0, h.m0, h.h0, h.p0, h.r0⟩
theorem AI.ne (h : AI w0 wr b qm qh m p r n c th j g cs cnt a gg cg) : (¬ qm = b ∧ ¬ qm = p ∧ ¬ qm = r ∧ ¬ qm = m) ∧ (¬ qh = b ∧ ¬ qh = p ∧ ¬ qh = r ∧ ¬ qh = m) ∧ (¬ gg = b ∧ ¬ gg = p ∧ ¬ gg = r) ∧ ¬ qm = qh :=
  ⟨⟨rw_ne h.rm h.gb (by decide), rw_ne h.rm h.mm.bk.st (by decide), rw_ne h.rm h.mm.bk.row (by decide), rw_ne h.rm h.mm.st (by decide)⟩,
   ⟨rw_ne h.rg h.gb (by decide), rw_ne h.rg h.mm.bk.st (by decide), rw_ne h.rg h.mm.bk.row (by decide), rw_ne h.rg h.mm.st (by decide)⟩,
   ⟨rowR_ne h.row h.gb (by decide), rowR_ne h.row h.mm.bk.st (by decide), h.gr⟩, rw_ne h.rm h.rg (by decide)⟩
/-- Behind the program's call. -/
structure AJ (w0 w4 : World) (b qm qh m p r n : Nat) (c : Cfg) (g g' : Gs) (cs cs' : List Int) (cnt : Int) (a a' : Acc) (gg cg : Nat) : Prop where
  gb : GB w4 b g'
  mm : Mm w4 m p r c cs' (cnt + 1) a'
  rg : RW 42 w4 qh (rgA g)
  rm : RW 35 w4 qm (rmA c (some ⟨gg, 0, none⟩) n cg cnt a)
  row : RowR w4 gg cs cg
  kp : Kept [] w0 w4
theorem AI.mid (h : AI w0 wr b qm qh m p r n c th j g cs cnt a gg cg) (k : Kept [b, p, r] wr w4) (G : GB w4 b g') (M : Mm w4 m p r c cs' (cnt + 1) a') : AJ w0 w4 b qm qh m p r n c g g' cs cs' cnt a a' gg cg := by
  obtain ⟨⟨a1, a2, a3, a4⟩, ⟨b1, b2, b3, b4⟩, ⟨c1, c2, c3⟩, d⟩ := h.ne
  have := h.b0; have := h.p0; have := h.r0
  exact ⟨G, M, h.rg.kept k (by simp; omega), h.rm.kept k (by simp; omega), h.row.kept k (by simp; omega), h.kp.then k (by simp; omega)⟩
set_option maxHeartbeats 1000000 in
theorem AI.step (h : AI w0 wr b qm qh m p r n c th j g cs cnt a gg cg) (J : AJ w0 w4 b qm qh m p r n c g g' cs cs' cnt a a' gg cg) (K5 : Kept [] w4 w5) (R5 : RowR w5 g2 cs' c2) (h2 : g2 = gg ∨ w4.heap.size ≤ g2) (K6 : Kept [qm, qh] w5 w6)
    (D : RW 35 w6 qm (rmA c (some ⟨g2, 0, none⟩) n c2 (cnt + 1) a')) (B : RW 42 w6 qh (rgA g')) (t : g'.t = th) (u0 : 0 ≤ g'.u) (u1 : g'.u ≤ c.s) (len : cs'.length = n) : AI w0 w6 b qm qh m p r n c th (j + 1) g' cs' (cnt + 1) a' g2 c2 := by
  obtain ⟨⟨a1, a2, a3, a4⟩, ⟨b1, b2, b3, b4⟩, ⟨c1, c2', c3⟩, d⟩ := h.ne
  have rm5 := J.rm.kept K5 (by simp)
  have rg5 := J.rg.kept K5 (by simp)
  have e1 := rowR_rw R5 rm5 (by decide)
  have e2 := rowR_rw R5 rg5 (by decide)
  clear rm5 rg5
  have lr := lt_of_blk J.mm.bk.row
  have gr : ¬ g2 = r := by
    rcases h2 with e | e
    · rw [e]; exact c3
    · clear a1 a2 a3 a4 b1 b2 b3 b4 c1 c2' c3 d e1 e2; omega
  have m0 := h.m0
  have q0 := h.h0
  have kk : ∀ x ∈ [qm, qh], x ∈ ([] : List Nat) ∨ w0.heap.size ≤ x := fun x hx => by
    simp at hx
    rcases hx with e | e
    · right; rw [e]; exact m0
    · right; rw [e]; exact q0
  have n0 := h.n0
  have n1 := h.n1
  have kp := (J.kp.trans K5).then K6 kk
  have s := fun (x y : Nat) (e : ¬ x = y) => fun (z : y = x) => e z.symm
  exact ⟨(J.gb.kept K5 (by simp)).kept K6 (nin2 (s _ _ a1) (s _ _ b1)), B, D, R5.kept K6 (nin2 e1 e2), (J.mm.new K5).kept K6 (nin2 (s _ _ a4) (s _ _ b4)) (nin2 (s _ _ a2) (s _ _ b2)) (nin2 (s _ _ a3) (s _ _ b3)), kp, t, u0, u1, len, by clear a1 a2 a3 a4 b1 b2 b3 b4 c1 c2' c3 d e1 e2 gr; omega, by clear a1 a2 a3 a4 b1 b2 b3 b4 c1 c2' c3 d e1 e2 gr; omega, gr, h.b0, h.m0, h.h0, h.p0, h.r0⟩
structure F3 (w : World) (q q2 b : Nat) (A B C : Array Value) : Prop where
  fa : RW 35 w q A
  fb : RW 42 w q2 B
  fc : RW 27 w b C
theorem F3.new {w w' : World} {q q2 b : Nat} {A B C : Array Value} (h : F3 w q q2 b A B C) (k : Kept [] w w') : F3 w' q q2 b A B C := ⟨h.fa.kept k (by simp), h.fb.kept k (by simp), h.fc.kept k (by simp)⟩
end
set_option maxRecDepth 100000 in
set_option maxHeartbeats 8000000 in
theorem guardAll_walk (w : World) (c : Cfg) (_g : c.wf) (ao : Option Addr) (xs : List Int) (cap : Nat) (hs : Sl w ao xs) (_hg : ∀ x ∈ xs, isWord x) (hc : ao = none → cap = 0) (th : Int) (lo : Option Addr) (lc : Nat) (ps : List Gp) (hl : SlOf 3 gpL w lo ps) (_hp : ∀ x ∈ ps, x.wf) (hT : Tab w) :
    Calls Tryd.prog 3 #[c.val, .slice ao xs.length cap, .agg (plA th lo ps.length lc)] w fun e w' => e = .returned (.bool true) ∧ Kept [] w w' := by
  simp only [Cfg.val]
  obtain ⟨n, hn⟩ : ∃ n, n = xs.length := ⟨_, rfl⟩
  rw [← hn]
  have HN := hidOf hn
  have HS := hidOf hs
  have HC := hidOf hc
  have HT := hidOf hT
  clear hn hs hc hT
  obtain ⟨k, hk⟩ : ∃ k, k = ps.length := ⟨_, rfl⟩
  rw [← hk]
  have HK := hidOf hk
  have HL := hidOf hl
  clear hk hl
  obtain ⟨q, hq⟩ : ∃ q, q = w.heap.size := ⟨_, rfl⟩
  have BX := hidOf (two_new 23 27 w #[.int .i64 c.t, .int .i64 c.s, .int .i64 c.c, .int .i64 c.h, .int .i64 c.k, .int .i64 c.e, .int .i64 c.l] (plA th lo k lc) hq)
  by_cases hW : IsW c n
  · have HI := hidOf hW
    have n4 := hW.2.2
    have HRT := hidOf (riB_true.1 hW.1)
    have hn0 : 0 < n := by have h1 := ln_yes hW.1; have h2 := hW.2.1; have h3 := cf_bd HRT.out; have h4 := ts_bd HRT.out; omega
    clear hW
    obtain ⟨b1, o1, e1, l1, -⟩ := Sl.cell HS.out (i := 0) (by have := HN.out; omega)
    subst e1
    by_cases hlen : 60 < (k : Int)
    · go_enter Tryd.func3, Tryd.ntmps3
      go_upto_region 1 with (fail)
      rw [← hq]
      refine gen_world (fun W => RW 23 W q #[.int .i64 c.t, .int .i64 c.s, .int .i64 c.c, .int .i64 c.h, .int .i64 c.k, .int .i64 c.e, .int .i64 c.l] ∧ RW 27 W (q + 1) (plA th lo k lc) ∧ Kept [] w W) BX.out ?_
      have hqw : w.heap.size ≤ q := by omega
      clear BX hq
      rintro W ⟨CB, PB, K0⟩
      have HCB := hidOf CB
      have HPB := hidOf PB
      have HTW := hidOf (HT.out.kept K0)
      have HK0 := hidOf K0
      clear CB PB K0
      have OF := hidOf (kof_yes c (some ⟨b1, o1, none⟩) xs n cap W HI.out HN.out (HS.out.new HK0.out) HC.out)
      go_wp2_with (first | ((with_reducible change wpList _ _ _ (Oper.mk _ (Op.load 23 (Operand.tmp 3)) _ _ _ _ :: _) _ _); refine wpList_load_rw 23 isT_cf rfl (.tmp 3) rfl q rfl #[.int .i64 c.t, .int .i64 c.s, .int .i64 c.c, .int .i64 c.h, .int .i64 c.k, .int .i64 c.e, .int .i64 c.l] rfl HCB.out ?_))
      refine OF.out.mono ?_
      rintro e w1 ⟨m, p, r, gr, c', rfl, ⟨hm, hp, hr, hgr, hne⟩, M, R, K1⟩
      clear OF
      obtain ⟨qm, hqm⟩ : ∃ qm, qm = w1.heap.size := ⟨_, rfl⟩
      go_upto_region 2 with (first | ((with_reducible change wpList _ _ _ (Oper.mk _ (Op.store 35 (Operand.tmp 8) _) _ _ _ _ :: _) _ _); refine wpList_store_rw 35 isT_rm rfl (.tmp 8) (.tmp 23) rfl w1.heap.size (rmA c (some ⟨gr, 0, none⟩) n c' 0 Acc.zero) rfl rfl rfl (rm_one _ _ _ _ _ _) rmZ (RW.new 35 w1 rmZ) rfl ?_))
      rw [← hqm]
      refine gen_world (fun V => RW 35 V qm (rmA c (some ⟨gr, 0, none⟩) n c' 0 Acc.zero) ∧ Kept [] w1 V) ?_ ?_
      · rw [hqm]; exact ⟨(RW.new 35 w1 rmZ).row _, ((Kept.refl [] w1).alloc _).setRow (Or.inr (Nat.le_refl _)) _⟩
      have hqm1 : w1.heap.size ≤ qm := by omega
      clear hqm
      rintro V ⟨QM, KV⟩
      have p0 := cell_of_blk (HPB.out.kept (K1.trans KV) (by simp)) (i := 0) (v := .int .i64 th) rfl
      go_wp2_with fail
      refine (gnew_any th _).mono ?_
      rintro e w2 ⟨b, rfl, hb, G, K2⟩
      clear p0
      have HX := hidOf (Gw.start (K1.trans KV) hp hr (M.new KV) K2 hb G)
      have p1 := cell_of_blk (HPB.out.kept HX.out.kp (by simp)) (i := 1) (v := .slice lo k lc) rfl
      clear M R K1 K2 G hm hp hr hb hgr hne QM KV
      have AL := hidOf (alive_any _ (HTW.out.kept HX.out.kp))
      go_wp2_with fail
      refine AL.out.mono ?_
      rintro e WA ⟨rfl, KA⟩
      go_wp2
      go_ret
      exact ⟨rfl, HK0.out.trans (HX.out.kp.trans KA)⟩
    · go_enter Tryd.func3, Tryd.ntmps3
      go_upto_region 1 with (fail)
      rw [← hq]
      refine gen_world (fun W => RW 23 W q #[.int .i64 c.t, .int .i64 c.s, .int .i64 c.c, .int .i64 c.h, .int .i64 c.k, .int .i64 c.e, .int .i64 c.l] ∧ RW 27 W (q + 1) (plA th lo k lc) ∧ Kept [] w W) BX.out ?_
      have hqw : w.heap.size ≤ q := by omega
      clear BX hq
      rintro W ⟨CB, PB, K0⟩
      have HCB := hidOf CB
      have HPB := hidOf PB
      have HTW := hidOf (HT.out.kept K0)
      have HK0 := hidOf K0
      clear CB PB K0
      have OF := hidOf (kof_yes c (some ⟨b1, o1, none⟩) xs n cap W HI.out HN.out (HS.out.new HK0.out) HC.out)
      go_wp2_with (first | ((with_reducible change wpList _ _ _ (Oper.mk _ (Op.load 23 (Operand.tmp 3)) _ _ _ _ :: _) _ _); refine wpList_load_rw 23 isT_cf rfl (.tmp 3) rfl q rfl #[.int .i64 c.t, .int .i64 c.s, .int .i64 c.c, .int .i64 c.h, .int .i64 c.k, .int .i64 c.e, .int .i64 c.l] rfl HCB.out ?_))
      refine OF.out.mono ?_
      rintro e w1 ⟨m, p, r, gr, c', rfl, ⟨hm, hp, hr, hgr, hne⟩, M, R, K1⟩
      clear OF
      obtain ⟨qm, hqm⟩ : ∃ qm, qm = w1.heap.size := ⟨_, rfl⟩
      go_upto_region 2 with (first | ((with_reducible change wpList _ _ _ (Oper.mk _ (Op.store 35 (Operand.tmp 8) _) _ _ _ _ :: _) _ _); refine wpList_store_rw 35 isT_rm rfl (.tmp 8) (.tmp 23) rfl w1.heap.size (rmA c (some ⟨gr, 0, none⟩) n c' 0 Acc.zero) rfl rfl rfl (rm_one _ _ _ _ _ _) rmZ (RW.new 35 w1 rmZ) rfl ?_))
      rw [← hqm]
      refine gen_world (fun V => RW 35 V qm (rmA c (some ⟨gr, 0, none⟩) n c' 0 Acc.zero) ∧ Kept [] w1 V) ?_ ?_
      · rw [hqm]; exact ⟨(RW.new 35 w1 rmZ).row _, ((Kept.refl [] w1).alloc _).setRow (Or.inr (Nat.le_refl _)) _⟩
      have hqm1 : w1.heap.size ≤ qm := by omega
      clear hqm
      rintro V ⟨QM, KV⟩
      have p0 := cell_of_blk (HPB.out.kept (K1.trans KV) (by simp)) (i := 0) (v := .int .i64 th) rfl
      go_wp2_with fail
      refine (gnew_any th _).mono ?_
      rintro e w2 ⟨b, rfl, hb, G, K2⟩
      clear p0
      have HX := hidOf (And.intro G (And.intro (M.new (KV.trans K2)) (And.intro (R.kept (KV.trans K2) (by simp)) (And.intro (K1.trans (KV.trans K2)) (And.intro (QM.kept K2 (by simp)) (And.intro hm (And.intro hp (And.intro hr (And.intro hne (And.intro hb (And.intro KV.size (K1.size))))))))))))
      have p1 := cell_of_blk (HPB.out.kept HX.out.2.2.2.1 (by simp)) (i := 1) (v := .slice lo k lc) rfl
      clear M R K1 K2 G hm hp hr hb hgr hne QM KV
      have p0 := cell_of_blk (HPB.out.kept HX.out.2.2.2.1 (by simp)) (i := 0) (v := .int .i64 th) rfl
      obtain ⟨qh, hqh⟩ : ∃ qh, qh = w2.heap.size := ⟨_, rfl⟩
      go_upto_region 6 with (first | ((with_reducible change wpList _ _ _ (Oper.mk _ (Op.store 42 _ _) _ _ _ _ :: _) _ _); refine wpList_store_rw 42 isT_rg rfl (.tmp 11) (.tmp 47) rfl w2.heap.size (rgA ⟨0, 0, th⟩) rfl rfl rfl (rg_one _) rgZ (RW.new 42 w2 rgZ) rfl ?_))
      rw [← hqh]
      refine gen_world (fun U => RW 42 U qh (rgA ⟨0, 0, th⟩) ∧ Kept [] w2 U) ?_ ?_
      · rw [hqh]; exact ⟨(RW.new 42 w2 rgZ).row _, ((Kept.refl [] w2).alloc _).setRow (Or.inr (Nat.le_refl _)) _⟩
      have hqh1 : w2.heap.size ≤ qh := by omega
      clear hqh p0 p1
      rintro U ⟨RG0, KU⟩
      have HX0 : Hid (AI W U b qm qh m p r n c th 0 ⟨0, 0, th⟩ xs 0 Acc.zero gr c') := hidOf (by
        obtain ⟨f1, f2, f3, f4, f5, f6, f7, f8, f9, f10, f11, f12⟩ := HX.out
        have z := f4.size
        exact ⟨f1.kept KU (by simp), RG0, f5.kept KU (by simp), f3.kept KU (by simp), f2.new KU, f4.trans KU, rfl, Int.le_refl _, by show (0 : Int) ≤ c.s; have := HRT.out.s0; omega, HN.out.symm, Int.le_refl _, Int.le_refl _, f9, by omega, by omega, by omega, f7, f8⟩)
      clear HX RG0 KU
      have p1 := cell_of_blk (HPB.out.kept HX0.out.kp (by simp)) (i := 1) (v := .slice lo k lc) rfl
      go_wp2
      clear p1
      go_loopw [51] (fun i wr => ∃ (j : Nat) (g : Gs) (cs : List Int) (cnt : Int) (a : Acc) (gg cg : Nat), j ≤ k ∧ i = .int .i64 j ∧ AI W wr b qm qh m p r n c th j g cs cnt a gg cg) (fun i _ => k - (intOf i).toNat)
      case atStart => exact ⟨0, _, xs, 0, _, gr, c', Nat.zero_le _, rfl, HX0.out⟩
      case round =>
        clear HX0
        obtain ⟨j, g, cs, cnt, a, gg, cg, hj, rfl, X⟩ := hrel
        have HX := hidOf X
        clear X
        by_cases hlt : j < k
        · have hltz : (j : Int) < (k : Int) := by omega
          obtain ⟨b2, o2, e2, l2, s0, s1, s2⟩ := gp_row (HL.out.new (HK0.out.trans HX.out.kp)) (k := j) (by rw [← HK.out]; exact hlt)
          generalize ps.getD j gp0 = o at s0 s1 s2
          obtain ⟨kk, sl, er⟩ := o
          have t0 : wr.cell? ⟨b2, o2 + j * 3, none⟩ = some (.int .i64 kk) := s0
          have t1 : wr.cell? ⟨b2, o2 + j * 3 + 1, none⟩ = some (.int .i64 sl) := s1
          have t2 : wr.cell? ⟨b2, o2 + j * 3 + 2, none⟩ = some (.int .u64 er) := s2
          clear s0 s1 s2
          rw [e2]
          obtain ⟨nb, hnb⟩ : ∃ nb, nb = wr.heap.size := ⟨_, rfl⟩
          by_cases hk0 : kk = 0
          · subst hk0
            go_upto_region 10 with (fail)
            rw [← hnb]
            refine gen_world (fun V => RW 44 V nb (gpA ⟨0, sl, er⟩) ∧ Kept [] wr V) ?_ ?_
            · rw [hnb]; exact ⟨RW.new _ _ _, (Kept.refl [] wr).alloc _⟩
            have nle : wr.heap.size ≤ nb := by omega
            clear hnb t0 t1 t2
            rintro V1 ⟨N1, KV1⟩
            have HX1 := hidOf (HX.out.new KV1)
            clear HX KV1 nle
            have HX := HX1
            clear HX1
            have d0 := cell_of_blk N1 (i := 0) (v := .int .i64 0) rfl
            have d1 := cell_of_blk N1 (i := 1) (v := .int .i64 sl) rfl
            have d2 := cell_of_blk N1 (i := 2) (v := .int .u64 er) rfl
            obtain ⟨AC, hAC⟩ : ∃ AC, acV cs 1 0 0 0 0 = AC := ⟨_, rfl⟩
            obtain ⟨BB, hBB⟩ : ∃ BB, (AC.o == g.l) = BB := ⟨_, rfl⟩
            have nn : ¬ nb = b ∧ ¬ nb = p ∧ ¬ nb = r := ⟨rw_ne N1 HX.out.gb (by decide), rw_ne N1 HX.out.mm.bk.st (by decide), rw_ne N1 HX.out.mm.bk.row (by decide)⟩
            have ST := hidOf ((gcheck_any b m p r g c cs cnt a _ HX.out.gb HX.out.mm HX.out.n0 (by have := HX.out.n1; omega)).mono fun e w' hh => And.intro hh.1 (And.intro (HX.out.mid (hh.2.2.2.weaken (by simp)) hh.2.2.1 hh.2.1) (N1.kept hh.2.2.2 (by simp; omega))))
            rw [hAC, hBB] at ST
            clear nn N1
            go_wp2_with fail
            refine ST.out.mono ?_
            rintro e w4 ⟨rfl, JX, N4⟩
            have HJ := hidOf JX
            clear JX ST d0 d1 d2
            have RF := hidOf (rcheck_any g c gg cs cg cnt a w4 HJ.out.row (by rw [HX.out.len]; omega) HX.out.n0 (by have := HX.out.n1; omega))
            rw [hAC, hBB, HX.out.len] at RF
            clear hAC hBB
            have RF2 : Hid (Calls Tryd.prog 13 #[.agg (rgA g), .agg (rmA c (some ⟨gg, 0, none⟩) n cg cnt a)] w4 fun e w' => ∃ g' c', e = .returned (.tuple #[.agg (rmA c (some ⟨g', 0, none⟩) n c' (cnt + 1) AC), .int .u64 AC.o, .bool BB]) ∧ (g' = gg ∨ w4.heap.size ≤ g') ∧ RowR w' g' cs c' ∧ Kept [] w4 w') := RF.out
            clear RF
            have d1 := cell_of_blk N4 (i := 1) (v := .int .i64 sl) rfl
            have d2 := cell_of_blk N4 (i := 2) (v := .int .u64 er) rfl
            go_wp2_with (first | ((with_reducible change wpList _ _ _ (Oper.mk _ (Op.load 42 _) _ _ _ _ :: _) _ _); refine wpList_load_rw 42 isT_rg rfl (.tmp 11) rfl qh rfl (rgA g) rfl HJ.out.rg ?_) | ((with_reducible change wpList _ _ _ (Oper.mk _ (Op.load 35 _) _ _ _ _ :: _) _ _); refine wpList_load_rw 35 isT_rm rfl (.tmp 8) rfl qm rfl (rmA c (some ⟨gg, 0, none⟩) n cg cnt a) rfl HJ.out.rm ?_))
            refine RF2.out.mono ?_
            rintro e w5 ⟨g3, c3, rfl, h2, R5, K5⟩
            obtain ⟨-, -, -, nqq⟩ := HX.out.ne
            clear RF2 d1 d2 N4
            have q7 := HJ.out.rg.kept K5 (by simp)
            have q8 := HJ.out.rm.kept K5 (by simp)
            go_upto_region 23 with (first | ((with_reducible change wpList _ _ _ (Oper.mk _ (Op.store 35 _ _) _ _ _ _ :: _) _ _); refine wpList_store_rw 35 isT_rm rfl (.tmp 8) (.tmp 69) rfl qm (rmA c (some ⟨g3, 0, none⟩) n c3 (cnt + 1) AC) rfl rfl rfl (rm_one _ _ _ _ _ _) _ q8 rfl ?_))
            refine gen_world (fun V => RW 35 V qm (rmA c (some ⟨g3, 0, none⟩) n c3 (cnt + 1) AC) ∧ RW 42 V qh (rgA g) ∧ Kept [qm, qh] w5 V) ⟨q8.row _, q7.rowOther _ (fun e => nqq e.symm), (Kept.refl [qm, qh] w5).setRow (b := qm) (Or.inl (by simp)) _⟩ ?_
            rintro V6 ⟨D6, B6, K6⟩
            have FN := hidOf (HX.out.step HJ.out K5 R5 h2 K6 D6 B6 HX.out.t HX.out.u0 HX.out.u1 HX.out.len)
            clear HX HJ K5 R5 h2 K6 D6 B6 q7 q8 nqq
            obtain ⟨g3', hg3⟩ : ∃ g3', g3' = g := ⟨_, rfl⟩
            obtain ⟨cs3, hcs3⟩ : ∃ cs3, cs3 = cs := ⟨_, rfl⟩
            obtain ⟨cn3, hcn3⟩ : ∃ cn3, cn3 = cnt + 1 := ⟨_, rfl⟩
            obtain ⟨a3, ha3⟩ : ∃ a3, a3 = AC := ⟨_, rfl⟩
            rw [← hg3, ← hcs3, ← hcn3, ← ha3] at FN
            clear hg3 hcs3 hcn3
            rw [← ha3]
            clear ha3
            have PB6 := HPB.out.kept FN.out.kp (by simp)
            have HSM : Hid (∀ W2, Kept [] V6.drew W2 → Calls Tryd.prog 20 #[.pointer (some ⟨m, 0, none⟩), .agg (rmA c (some ⟨g3, 0, none⟩) n c3 cn3 a3)] W2 fun e w' => e = .returned (.bool true) ∧ Kept [] W2 w') := fun W2 kk => ksame_any m p r g3 c c _ _ _ n c3 W2 ((FN.out.new ((Kept.refl [] V6).drew.trans kk)).mm) ((FN.out.new ((Kept.refl [] V6).drew.trans kk)).row) FN.out.len.symm (by omega)
            have HLT : Hid (∀ W2, Kept [] V6.drew W2 → Calls Tryd.prog 21 #[.pointer (some ⟨b, 0, none⟩)] W2 fun e w' => e = .returned (.int .u64 g3'.l) ∧ Kept [] W2 w') := fun W2 kk => (glatest_any b g3' W2 (FN.out.new ((Kept.refl [] V6).drew.trans kk)).gb).mono fun e w' hh => ⟨hh.1, by rw [hh.2]; exact Kept.refl _ _⟩
            have HTH : Hid (∀ W2, Kept [] V6.drew W2 → Calls Tryd.prog 22 #[.pointer (some ⟨b, 0, none⟩)] W2 fun e w' => e = .returned (.int .i64 th) ∧ Kept [] W2 w') := fun W2 kk => (gthread_any b g3' W2 (FN.out.new ((Kept.refl [] V6).drew.trans kk)).gb).mono fun e w' hh => ⟨by rw [← FN.out.t]; exact hh.1, by rw [hh.2]; exact Kept.refl _ _⟩
            have F5 : F3 V6.drew qm qh (q + 1) (rmA c (some ⟨g3, 0, none⟩) n c3 cn3 a3) (rgA g3') (plA th lo k lc) := ⟨FN.out.rm, FN.out.rg, PB6⟩
            clear PB6
            refine wp_region_held_drew (S := fun w' => F3 w' qm qh (q + 1) (rmA c (some ⟨g3, 0, none⟩) n c3 cn3 a3) (rgA g3') (plA th lo k lc)) (by kernel_rfl) F5 (fun hS => ?_)
            replace FN := hidOf (FN.out.new (Kept.refl [] V6).drew)
            generalize V6.drew = V5 at F5 HSM HLT HTH FN hS ⊢
            refine wpAnyH_take (i := 0) (oi := { dst := some 112, op := Op.move (Operand.tmp 14), type := 29, pos := "law.go:60", after := #[], guard := none }) (v := Value.int .u64 a3.o) rfl (by kernel_rfl) (by kernel_rfl) (by kernel_rfl) (fun _ _ _ h => h) (Or.inl ⟨rfl, fun _ _ => by kernel_rfl⟩) hS ?_
            try simp only [Act.put, List.setIfInBounds_toArray, List.set_cons_zero, List.set_cons_succ]
            refine wpAnyH_take (i := 1) (oi := { dst := some 113, op := Op.move (Operand.tmp 16), type := 29, pos := "law.go:60", after := #[], guard := none }) (v := Value.int .u64 a3.o) rfl (by kernel_rfl) (by kernel_rfl) (by kernel_rfl) (fun _ _ _ h => h) (Or.inl ⟨rfl, fun _ _ => by kernel_rfl⟩) hS ?_
            try simp only [Act.put, List.setIfInBounds_toArray, List.set_cons_zero, List.set_cons_succ]
            refine wpAnyH_take (i := 2) (oi := { dst := some 114, op := Op.binOp BinOp.neq 29 (Operand.tmp 112) (Operand.tmp 113) 29, type := 4, pos := "law.go:60", after := #[{ on := 0, ground := Ground.data }, { on := 1, ground := Ground.data }], guard := none }) (v := Value.bool false) rfl (by kernel_rfl) (by kernel_rfl) (by kernel_rfl) (fun _ _ _ h => h) (Or.inl ⟨rfl, fun _ _ => by go_simp⟩) hS ?_
            try simp only [Act.put, List.setIfInBounds_toArray, List.set_cons_zero, List.set_cons_succ]
            refine wpAnyH_take (i := 3) (oi := { dst := some 115, op := Op.move (Operand.tmp 114), type := 4, pos := "law.go:60", after := #[{ on := 2, ground := Ground.data }], guard := none }) (v := Value.bool false) rfl (by kernel_rfl) (by kernel_rfl) (by kernel_rfl) (fun _ _ _ h => h) (Or.inl ⟨rfl, fun _ _ => by kernel_rfl⟩) hS ?_
            try simp only [Act.put, List.setIfInBounds_toArray, List.set_cons_zero, List.set_cons_succ]
            refine wpAnyH_take (i := 4) (oi := { dst := some 116, op := Op.move (Operand.tmp 15), type := 4, pos := "law.go:60", after := #[{ on := 3, ground := Ground.guard }], guard := some (3, false) }) (v := Value.bool BB) rfl (by kernel_rfl) (by kernel_rfl) (by kernel_rfl) (fun _ _ _ h => h) (Or.inl ⟨rfl, fun _ _ => by kernel_rfl⟩) hS ?_
            try simp only [Act.put, List.setIfInBounds_toArray, List.set_cons_zero, List.set_cons_succ]
            refine wpAnyH_take (i := 5) (oi := { dst := some 117, op := Op.move (Operand.tmp 17), type := 4, pos := "law.go:60", after := #[{ on := 3, ground := Ground.guard }], guard := some (3, false) }) (v := Value.bool BB) rfl (by kernel_rfl) (by kernel_rfl) (by kernel_rfl) (fun _ _ _ h => h) (Or.inl ⟨rfl, fun _ _ => by kernel_rfl⟩) hS ?_
            try simp only [Act.put, List.setIfInBounds_toArray, List.set_cons_zero, List.set_cons_succ]
            refine wpAnyH_take (i := 6) (oi := { dst := some 118, op := Op.binOp BinOp.neq 4 (Operand.tmp 116) (Operand.tmp 117) 4, type := 4, pos := "law.go:60", after := #[{ on := 4, ground := Ground.data }, { on := 5, ground := Ground.data }, { on := 3, ground := Ground.guard }], guard := some (3, false) }) (v := Value.bool false) rfl (by kernel_rfl) (by kernel_rfl) (by kernel_rfl) (fun _ _ _ h => h) (Or.inl ⟨rfl, fun _ _ => by go_simp⟩) hS ?_
            try simp only [Act.put, List.setIfInBounds_toArray, List.set_cons_zero, List.set_cons_succ]
            refine wpAnyH_take (i := 7) (oi := { dst := some 119, op := Op.pick (Operand.tmp 115) (Operand.const (Value.bool true)) (Operand.tmp 118), type := 4, pos := "law.go:60", after := #[{ on := 3, ground := Ground.data }, { on := 6, ground := Ground.data }], guard := none }) (v := Value.bool false) rfl (by kernel_rfl) (by kernel_rfl) (by kernel_rfl) (fun _ _ _ h => h) (Or.inl ⟨rfl, fun _ _ => by kernel_rfl⟩) hS ?_
            try simp only [Act.put, List.setIfInBounds_toArray, List.set_cons_zero, List.set_cons_succ]
            refine wpAnyH_take (i := 8) (oi := { dst := some 120, op := Op.move (Operand.tmp 119), type := 4, pos := "law.go:60", after := #[{ on := 7, ground := Ground.data }, { on := 3, ground := Ground.chain }], guard := none }) (v := Value.bool false) rfl (by kernel_rfl) (by kernel_rfl) (by kernel_rfl) (fun _ _ _ h => h) (Or.inl ⟨rfl, fun _ _ => by kernel_rfl⟩) hS ?_
            try simp only [Act.put, List.setIfInBounds_toArray, List.set_cons_zero, List.set_cons_succ]
            refine wpAnyH_take (i := 9) (oi := { dst := some 121, op := Op.move (Operand.tmp 7), type := 28, pos := "law.go:60", after := #[{ on := 8, ground := Ground.guard }], guard := some (8, false) }) (v := Value.pointer (some ⟨m, 0, none⟩)) rfl (by kernel_rfl) (by kernel_rfl) (by kernel_rfl) (fun _ _ _ h => h) (Or.inl ⟨rfl, fun _ _ => by kernel_rfl⟩) hS ?_
            try simp only [Act.put, List.setIfInBounds_toArray, List.set_cons_zero, List.set_cons_succ]
            refine wpAnyH_take (i := 10) (oi := { dst := some 122, op := Op.load 35 (Operand.tmp 8), type := 35, pos := "law.go:60", after := #[{ on := 8, ground := Ground.guard }], guard := some (8, false) }) (v := Value.agg (rmA c (some ⟨g3, 0, none⟩) n c3 cn3 a3)) rfl (by kernel_rfl) (by kernel_rfl) (by kernel_rfl) (fun _ _ _ h => h) (yieldsIf_load_rw rfl 35 isT_rm (.tmp 8) rfl qm rfl (rmA c (some ⟨g3, 0, none⟩) n c3 cn3 a3) rfl (fun _ h => h.fa)) hS ?_
            try simp only [Act.put, List.setIfInBounds_toArray, List.set_cons_zero, List.set_cons_succ]
            refine wpAnyH_ready (rs := [11]) (by kernel_rfl) (by simp) ?_
            refine AllReadyH.cons (o := { dst := some 123, op := Op.call { callee := Callee.value (Operand.func 20), args := #[Operand.tmp 121, Operand.tmp 122], argTypes := #[28, 35] }, type := 4, pos := "law.go:60", after := #[{ on := 9, ground := Ground.data }, { on := 10, ground := Ground.data }, { on := 8, ground := Ground.chain }, { on := 8, ground := Ground.guard }], guard := some (8, false) }) rfl (fun K hK => ?_) AllReadyH.nil
            rw [if_pos (by rfl)]
            refine wp_calls 20 #[.pointer (some ⟨m, 0, none⟩), .agg (rmA c (some ⟨g3, 0, none⟩) n c3 cn3 a3)] (by kernel_rfl) (fun v U => v = .bool true ∧ Kept [] V5 U) ((HSM.out _ (Kept.refl [] V5)).mono (fun e w' hh => ⟨_, hh.1, rfl, hh.2⟩)) ?_
            rintro _ u11 ⟨rfl, J11⟩
            have j11 := (Kept.refl [] V5).trans J11
            have f11 := F5.new J11
            try simp only [Act.put, List.setIfInBounds_toArray, List.set_cons_zero, List.set_cons_succ]
            refine hK.out _ _ (f11) (fun hS => ?_)
            clear hK K
            refine wpAnyH_take (i := 12) (oi := { dst := some 124, op := Op.unOp UnOp.not 4 (Operand.tmp 123), type := 4, pos := "law.go:60", after := #[{ on := 11, ground := Ground.data }, { on := 8, ground := Ground.guard }], guard := some (8, false) }) (v := Value.bool false) rfl (by kernel_rfl) (by kernel_rfl) (by kernel_rfl) (fun _ _ _ h => h) (Or.inl ⟨rfl, fun _ _ => by kernel_rfl⟩) hS ?_
            try simp only [Act.put, List.setIfInBounds_toArray, List.set_cons_zero, List.set_cons_succ]
            refine wpAnyH_take (i := 13) (oi := { dst := some 125, op := Op.pick (Operand.tmp 120) (Operand.const (Value.bool true)) (Operand.tmp 124), type := 4, pos := "law.go:60", after := #[{ on := 8, ground := Ground.data }, { on := 12, ground := Ground.data }], guard := none }) (v := Value.bool false) rfl (by kernel_rfl) (by kernel_rfl) (by kernel_rfl) (fun _ _ _ h => h) (Or.inl ⟨rfl, fun _ _ => by kernel_rfl⟩) hS ?_
            try simp only [Act.put, List.setIfInBounds_toArray, List.set_cons_zero, List.set_cons_succ]
            refine wpAnyH_take (i := 14) (oi := { dst := some 126, op := Op.move (Operand.tmp 125), type := 4, pos := "law.go:60", after := #[{ on := 13, ground := Ground.data }, { on := 11, ground := Ground.chain }], guard := none }) (v := Value.bool false) rfl (by kernel_rfl) (by kernel_rfl) (by kernel_rfl) (fun _ _ _ h => h) (Or.inl ⟨rfl, fun _ _ => by kernel_rfl⟩) hS ?_
            try simp only [Act.put, List.setIfInBounds_toArray, List.set_cons_zero, List.set_cons_succ]
            refine wpAnyH_take (i := 15) (oi := { dst := some 127, op := Op.move (Operand.tmp 10), type := 38, pos := "law.go:60", after := #[{ on := 14, ground := Ground.guard }], guard := some (14, false) }) (v := Value.pointer (some ⟨b, 0, none⟩)) rfl (by kernel_rfl) (by kernel_rfl) (by kernel_rfl) (fun _ _ _ h => h) (Or.inl ⟨rfl, fun _ _ => by kernel_rfl⟩) hS ?_
            try simp only [Act.put, List.setIfInBounds_toArray, List.set_cons_zero, List.set_cons_succ]
            refine wpAnyH_take (i := 16) (oi := { dst := some 128, op := Op.nilCheck (Operand.tmp 127), type := 0, pos := "law.go:60", after := #[{ on := 15, ground := Ground.data }, { on := 14, ground := Ground.guard }], guard := some (14, false) }) (v := Value.pointer (some ⟨b, 0, none⟩)) rfl (by kernel_rfl) (by kernel_rfl) (by kernel_rfl) (fun _ _ _ h => h) (Or.inl ⟨rfl, fun _ _ => by kernel_rfl⟩) hS ?_
            try simp only [Act.put, List.setIfInBounds_toArray, List.set_cons_zero, List.set_cons_succ]
            refine wpAnyH_take (i := 17) (oi := { dst := some 129, op := Op.fieldAddr 62 (Operand.tmp 128) 0, type := 0, pos := "law.go:60", after := #[{ on := 16, ground := Ground.data }, { on := 14, ground := Ground.guard }], guard := some (14, false) }) (v := Value.pointer (some ⟨b, 0, none⟩)) rfl (by kernel_rfl) (by kernel_rfl) (by kernel_rfl) (fun _ _ _ h => h) (Or.inl ⟨rfl, fun _ _ => by kernel_rfl⟩) hS ?_
            try simp only [Act.put, List.setIfInBounds_toArray, List.set_cons_zero, List.set_cons_succ]
            refine wpAnyH_take (i := 19) (oi := { dst := some 131, op := Op.fieldAddr 42 (Operand.tmp 11) 1, type := 0, pos := "law.go:60", after := #[{ on := 14, ground := Ground.guard }], guard := some (14, false) }) (v := Value.pointer (some ⟨qh, 1, none⟩)) rfl (by kernel_rfl) (by kernel_rfl) (by kernel_rfl) (fun _ _ _ h => h) (Or.inl ⟨rfl, fun _ _ => by kernel_rfl⟩) hS ?_
            try simp only [Act.put, List.setIfInBounds_toArray, List.set_cons_zero, List.set_cons_succ]
            refine wpAnyH_take (i := 20) (oi := { dst := some 132, op := Op.load 29 (Operand.tmp 131), type := 29, pos := "law.go:60", after := #[{ on := 19, ground := Ground.data }, { on := 14, ground := Ground.guard }], guard := some (14, false) }) (v := Value.int .u64 g3'.l) rfl (by kernel_rfl) (by kernel_rfl) (by kernel_rfl) (fun _ _ _ h => h) (Or.inl ⟨rfl, fun w hSw => by have z := cell_of_blk hSw.fb (i := 1) (v := .int .u64 g3'.l) rfl; go_simp⟩) hS ?_
            try simp only [Act.put, List.setIfInBounds_toArray, List.set_cons_zero, List.set_cons_succ]
            refine wpAnyH_ready (rs := [18]) (by kernel_rfl) (by simp) ?_
            refine AllReadyH.cons (o := { dst := some 130, op := Op.call { callee := Callee.value (Operand.func 21), args := #[Operand.tmp 129], argTypes := #[60] }, type := 29, pos := "law.go:60", after := #[{ on := 17, ground := Ground.data }, { on := 14, ground := Ground.chain }, { on := 14, ground := Ground.guard }], guard := some (14, false) }) rfl (fun K hK => ?_) AllReadyH.nil
            rw [if_pos (by rfl)]
            refine wp_calls 21 #[.pointer (some ⟨b, 0, none⟩)] (by kernel_rfl) (fun v U => v = .int .u64 g3'.l ∧ Kept [] u11 U) ((HLT.out _ j11).mono (fun e w' hh => ⟨_, hh.1, rfl, hh.2⟩)) ?_
            rintro _ u18 ⟨rfl, J18⟩
            have j18 := j11.trans J18
            have f18 := f11.new J18
            try simp only [Act.put, List.setIfInBounds_toArray, List.set_cons_zero, List.set_cons_succ]
            refine hK.out _ _ (f18) (fun hS => ?_)
            clear hK K
            refine wpAnyH_take (i := 21) (oi := { dst := some 133, op := Op.binOp BinOp.neq 29 (Operand.tmp 130) (Operand.tmp 132) 29, type := 4, pos := "law.go:60", after := #[{ on := 18, ground := Ground.data }, { on := 20, ground := Ground.data }, { on := 14, ground := Ground.guard }], guard := some (14, false) }) (v := Value.bool false) rfl (by kernel_rfl) (by kernel_rfl) (by kernel_rfl) (fun _ _ _ h => h) (Or.inl ⟨rfl, fun _ _ => by go_simp⟩) hS ?_
            try simp only [Act.put, List.setIfInBounds_toArray, List.set_cons_zero, List.set_cons_succ]
            refine wpAnyH_take (i := 22) (oi := { dst := some 134, op := Op.pick (Operand.tmp 126) (Operand.const (Value.bool true)) (Operand.tmp 133), type := 4, pos := "law.go:60", after := #[{ on := 14, ground := Ground.data }, { on := 21, ground := Ground.data }], guard := none }) (v := Value.bool false) rfl (by kernel_rfl) (by kernel_rfl) (by kernel_rfl) (fun _ _ _ h => h) (Or.inl ⟨rfl, fun _ _ => by kernel_rfl⟩) hS ?_
            try simp only [Act.put, List.setIfInBounds_toArray, List.set_cons_zero, List.set_cons_succ]
            refine wpAnyH_take (i := 23) (oi := { dst := some 135, op := Op.move (Operand.tmp 134), type := 4, pos := "law.go:60", after := #[{ on := 22, ground := Ground.data }, { on := 18, ground := Ground.chain }], guard := none }) (v := Value.bool false) rfl (by kernel_rfl) (by kernel_rfl) (by kernel_rfl) (fun _ _ _ h => h) (Or.inl ⟨rfl, fun _ _ => by kernel_rfl⟩) hS ?_
            try simp only [Act.put, List.setIfInBounds_toArray, List.set_cons_zero, List.set_cons_succ]
            refine wpAnyH_take (i := 24) (oi := { dst := some 136, op := Op.move (Operand.tmp 10), type := 38, pos := "law.go:60", after := #[{ on := 23, ground := Ground.guard }], guard := some (23, false) }) (v := Value.pointer (some ⟨b, 0, none⟩)) rfl (by kernel_rfl) (by kernel_rfl) (by kernel_rfl) (fun _ _ _ h => h) (Or.inl ⟨rfl, fun _ _ => by kernel_rfl⟩) hS ?_
            try simp only [Act.put, List.setIfInBounds_toArray, List.set_cons_zero, List.set_cons_succ]
            refine wpAnyH_take (i := 26) (oi := { dst := some 138, op := Op.fieldAddr 27 (Operand.tmp 5) 0, type := 0, pos := "law.go:60", after := #[{ on := 23, ground := Ground.guard }], guard := some (23, false) }) (v := Value.pointer (some ⟨q + 1, 0, none⟩)) rfl (by kernel_rfl) (by kernel_rfl) (by kernel_rfl) (fun _ _ _ h => h) (Or.inl ⟨rfl, fun _ _ => by kernel_rfl⟩) hS ?_
            try simp only [Act.put, List.setIfInBounds_toArray, List.set_cons_zero, List.set_cons_succ]
            refine wpAnyH_take (i := 27) (oi := { dst := some 139, op := Op.load 3 (Operand.tmp 138), type := 3, pos := "law.go:60", after := #[{ on := 26, ground := Ground.data }, { on := 23, ground := Ground.guard }], guard := some (23, false) }) (v := Value.int .i64 th) rfl (by kernel_rfl) (by kernel_rfl) (by kernel_rfl) (fun _ _ _ h => h) (Or.inl ⟨rfl, fun w hSw => by have z := cell_of_blk hSw.fc (i := 0) (v := .int .i64 th) rfl; go_simp⟩) hS ?_
            try simp only [Act.put, List.setIfInBounds_toArray, List.set_cons_zero, List.set_cons_succ]
            refine wpAnyH_ready (rs := [25]) (by kernel_rfl) (by simp) ?_
            refine AllReadyH.cons (o := { dst := some 137, op := Op.call { callee := Callee.value (Operand.func 22), args := #[Operand.tmp 136], argTypes := #[38] }, type := 3, pos := "law.go:60", after := #[{ on := 24, ground := Ground.data }, { on := 23, ground := Ground.chain }, { on := 23, ground := Ground.guard }], guard := some (23, false) }) rfl (fun K hK => ?_) AllReadyH.nil
            rw [if_pos (by rfl)]
            refine wp_calls 22 #[.pointer (some ⟨b, 0, none⟩)] (by kernel_rfl) (fun v U => v = .int .i64 th ∧ Kept [] u18 U) ((HTH.out _ j18).mono (fun e w' hh => ⟨_, hh.1, rfl, hh.2⟩)) ?_
            rintro _ u25 ⟨rfl, J25⟩
            have j25 := j18.trans J25
            have f25 := f18.new J25
            try simp only [Act.put, List.setIfInBounds_toArray, List.set_cons_zero, List.set_cons_succ]
            refine hK.out _ _ (f25) (fun hS => ?_)
            clear hK K
            refine wpAnyH_take (i := 28) (oi := { dst := some 140, op := Op.binOp BinOp.neq 3 (Operand.tmp 137) (Operand.tmp 139) 3, type := 4, pos := "law.go:60", after := #[{ on := 25, ground := Ground.data }, { on := 27, ground := Ground.data }, { on := 23, ground := Ground.guard }], guard := some (23, false) }) (v := Value.bool false) rfl (by kernel_rfl) (by kernel_rfl) (by kernel_rfl) (fun _ _ _ h => h) (Or.inl ⟨rfl, fun _ _ => by go_simp⟩) hS ?_
            try simp only [Act.put, List.setIfInBounds_toArray, List.set_cons_zero, List.set_cons_succ]
            refine wpAnyH_take (i := 29) (oi := { dst := some 141, op := Op.pick (Operand.tmp 135) (Operand.const (Value.bool true)) (Operand.tmp 140), type := 4, pos := "law.go:60", after := #[{ on := 23, ground := Ground.data }, { on := 28, ground := Ground.data }], guard := none }) (v := Value.bool false) rfl (by kernel_rfl) (by kernel_rfl) (by kernel_rfl) (fun _ _ _ h => h) (Or.inl ⟨rfl, fun _ _ => by kernel_rfl⟩) hS ?_
            try simp only [Act.put, List.setIfInBounds_toArray, List.set_cons_zero, List.set_cons_succ]
            refine wpAnyH_done (by kernel_rfl) ?_ _
            have KF := j25
            clear hS HSM HLT HTH f11 f18 f25 J11 J18 J25 j11 j18
            go_wp2
            go_roundw
            case rel => exact ⟨j + 1, g3', cs3, cn3, a3, g3, c3, by omega, by go_num, FN.out.new KF⟩
            case measure => simp [intOf]; omega
          · by_cases hk1 : kk = 1
            · subst hk1
              go_upto_region 10 with (fail)
              rw [← hnb]
              refine gen_world (fun V => RW 44 V nb (gpA ⟨1, sl, er⟩) ∧ Kept [] wr V) ?_ ?_
              · rw [hnb]; exact ⟨RW.new _ _ _, (Kept.refl [] wr).alloc _⟩
              have nle : wr.heap.size ≤ nb := by omega
              clear hnb t0 t1 t2
              rintro V1 ⟨N1, KV1⟩
              have HX1 := hidOf (HX.out.new KV1)
              clear HX KV1 nle
              have HX := HX1
              clear HX1
              have d0 := cell_of_blk N1 (i := 0) (v := .int .i64 1) rfl
              have d1 := cell_of_blk N1 (i := 1) (v := .int .i64 sl) rfl
              have d2 := cell_of_blk N1 (i := 2) (v := .int .u64 er) rfl
              obtain ⟨AC, hAC⟩ : ∃ AC, acV cs 2 (rsV c g.t (pubN c g)) 0 0 er = AC := ⟨_, rfl⟩
              obtain ⟨CC, hCC⟩ : ∃ CC, (clV cs 2 (rsV c g.t (pubN c g)) 0 er) = CC := ⟨_, rfl⟩
              have HCC : Hid (CC.length = n) := hidOf (by rw [← hCC, clV_len]; exact HX.out.len)
              obtain ⟨gn, hg⟩ : ∃ gn, (pubG c g er) = gn := ⟨_, rfl⟩
              have HFX : Hid (gn.t = th ∧ 0 ≤ gn.u ∧ gn.u ≤ c.s) := hidOf ⟨by rw [← hg]; exact HX.out.t, by have := (pubG_u (c := c) (g := g) HRT.out.s0 HX.out.u0 er).1; rw [← hg]; omega, by rw [← hg]; exact (pubG_u HRT.out.s0 HX.out.u0 er).2⟩
              obtain ⟨BB, hBB⟩ : ∃ BB, decide (g.u < c.s) = BB := ⟨_, rfl⟩
              have nn : ¬ nb = b ∧ ¬ nb = p ∧ ¬ nb = r := ⟨rw_ne N1 HX.out.gb (by decide), rw_ne N1 HX.out.mm.bk.st (by decide), rw_ne N1 HX.out.mm.bk.row (by decide)⟩
              have ST := hidOf ((gpublish_any b m p r g c cs cnt a er _ HX.out.gb HX.out.mm HX.out.u0 (by have := HX.out.u1; have := HRT.out.s1; omega) HX.out.n0 (by have := HX.out.n1; omega)).mono fun e w' hh => And.intro hh.1 (And.intro (HX.out.mid hh.2.2.2 hh.2.2.1 hh.2.1) (N1.kept hh.2.2.2 (by simp; omega))))
              rw [hAC, hCC, hg, hBB] at ST
              clear nn N1
              go_wp2_with fail
              refine ST.out.mono ?_
              rintro e w4 ⟨rfl, JX, N4⟩
              have HJ := hidOf JX
              clear JX ST d0 d1 d2
              have RF := hidOf (rpublish_any g c gg cs cg cnt a er w4 HJ.out.row (by rw [HX.out.len]; omega) HX.out.u0 (by have := HX.out.u1; have := HRT.out.s1; omega) HX.out.n0 (by have := HX.out.n1; omega))
              rw [hAC, hCC, hg, hBB, HX.out.len] at RF
              clear hAC hCC hg hBB
              have RF2 : Hid (Calls Tryd.prog 15 #[.agg (rgA g), .agg (rmA c (some ⟨gg, 0, none⟩) n cg cnt a), .int .u64 er] w4 fun e w' => ∃ g' c', e = .returned (.tuple #[.agg (rgA gn), .agg (rmA c (some ⟨g', 0, none⟩) n c' (cnt + 1) AC), .bool BB]) ∧ (g' = gg ∨ w4.heap.size ≤ g') ∧ RowR w' g' CC c' ∧ Kept [] w4 w') := RF.out
              clear RF
              have d1 := cell_of_blk N4 (i := 1) (v := .int .i64 sl) rfl
              have d2 := cell_of_blk N4 (i := 2) (v := .int .u64 er) rfl
              go_wp2_with (first | ((with_reducible change wpList _ _ _ (Oper.mk _ (Op.load 42 _) _ _ _ _ :: _) _ _); refine wpList_load_rw 42 isT_rg rfl (.tmp 11) rfl qh rfl (rgA g) rfl HJ.out.rg ?_) | ((with_reducible change wpList _ _ _ (Oper.mk _ (Op.load 35 _) _ _ _ _ :: _) _ _); refine wpList_load_rw 35 isT_rm rfl (.tmp 8) rfl qm rfl (rmA c (some ⟨gg, 0, none⟩) n cg cnt a) rfl HJ.out.rm ?_))
              refine RF2.out.mono ?_
              rintro e w5 ⟨g3, c3, rfl, h2, R5, K5⟩
              obtain ⟨-, -, -, nqq⟩ := HX.out.ne
              clear RF2 d1 d2 N4
              have q7 := HJ.out.rg.kept K5 (by simp)
              have q8 := HJ.out.rm.kept K5 (by simp)
              have q9 := q8.rowOther (c := qh) (rgA gn) nqq
              go_upto_region 23 with (first | ((with_reducible change wpList _ _ _ (Oper.mk _ (Op.store 42 _ _) _ _ _ _ :: _) _ _); refine wpList_store_rw 42 isT_rg rfl (.tmp 11) (.tmp 85) rfl qh (rgA gn) rfl rfl rfl (rg_one _) (rgA g) q7 rfl ?_) | ((with_reducible change wpList _ _ _ (Oper.mk _ (Op.store 35 _ _) _ _ _ _ :: _) _ _); refine wpList_store_rw 35 isT_rm rfl (.tmp 8) (.tmp 86) rfl qm (rmA c (some ⟨g3, 0, none⟩) n c3 (cnt + 1) AC) rfl rfl rfl (rm_one _ _ _ _ _ _) _ q9 rfl ?_))
              refine gen_world (fun V => RW 35 V qm (rmA c (some ⟨g3, 0, none⟩) n c3 (cnt + 1) AC) ∧ RW 42 V qh (rgA gn) ∧ Kept [qm, qh] w5 V) ⟨q9.row _, (q7.row _).rowOther _ (fun e => nqq e.symm), ((Kept.refl [qm, qh] w5).setRow (b := qh) (Or.inl (by simp)) _).setRow (b := qm) (Or.inl (by simp)) _⟩ ?_
              clear q9
              rintro V6 ⟨D6, B6, K6⟩
              have FN := hidOf (HX.out.step HJ.out K5 R5 h2 K6 D6 B6 HFX.out.1 HFX.out.2.1 HFX.out.2.2 HCC.out)
              clear HX HJ K5 R5 h2 K6 D6 B6 q7 q8 nqq HFX HCC
              obtain ⟨g3', hg3⟩ : ∃ g3', g3' = gn := ⟨_, rfl⟩
              obtain ⟨cs3, hcs3⟩ : ∃ cs3, cs3 = CC := ⟨_, rfl⟩
              obtain ⟨cn3, hcn3⟩ : ∃ cn3, cn3 = cnt + 1 := ⟨_, rfl⟩
              obtain ⟨a3, ha3⟩ : ∃ a3, a3 = AC := ⟨_, rfl⟩
              rw [← hg3, ← hcs3, ← hcn3, ← ha3] at FN
              clear hg3 hcs3 hcn3
              clear ha3
              have PB6 := HPB.out.kept FN.out.kp (by simp)
              have HSM : Hid (∀ W2, Kept [] V6.drew W2 → Calls Tryd.prog 20 #[.pointer (some ⟨m, 0, none⟩), .agg (rmA c (some ⟨g3, 0, none⟩) n c3 cn3 a3)] W2 fun e w' => e = .returned (.bool true) ∧ Kept [] W2 w') := fun W2 kk => ksame_any m p r g3 c c _ _ _ n c3 W2 ((FN.out.new ((Kept.refl [] V6).drew.trans kk)).mm) ((FN.out.new ((Kept.refl [] V6).drew.trans kk)).row) FN.out.len.symm (by omega)
              have HLT : Hid (∀ W2, Kept [] V6.drew W2 → Calls Tryd.prog 21 #[.pointer (some ⟨b, 0, none⟩)] W2 fun e w' => e = .returned (.int .u64 g3'.l) ∧ Kept [] W2 w') := fun W2 kk => (glatest_any b g3' W2 (FN.out.new ((Kept.refl [] V6).drew.trans kk)).gb).mono fun e w' hh => ⟨hh.1, by rw [hh.2]; exact Kept.refl _ _⟩
              have HTH : Hid (∀ W2, Kept [] V6.drew W2 → Calls Tryd.prog 22 #[.pointer (some ⟨b, 0, none⟩)] W2 fun e w' => e = .returned (.int .i64 th) ∧ Kept [] W2 w') := fun W2 kk => (gthread_any b g3' W2 (FN.out.new ((Kept.refl [] V6).drew.trans kk)).gb).mono fun e w' hh => ⟨by rw [← FN.out.t]; exact hh.1, by rw [hh.2]; exact Kept.refl _ _⟩
              have F5 : F3 V6.drew qm qh (q + 1) (rmA c (some ⟨g3, 0, none⟩) n c3 cn3 a3) (rgA g3') (plA th lo k lc) := ⟨FN.out.rm, FN.out.rg, PB6⟩
              clear PB6
              refine wp_region_held_drew (S := fun w' => F3 w' qm qh (q + 1) (rmA c (some ⟨g3, 0, none⟩) n c3 cn3 a3) (rgA g3') (plA th lo k lc)) (by kernel_rfl) F5 (fun hS => ?_)
              replace FN := hidOf (FN.out.new (Kept.refl [] V6).drew)
              generalize V6.drew = V5 at F5 HSM HLT HTH FN hS ⊢
              refine wpAnyH_take (i := 0) (oi := { dst := some 112, op := Op.move (Operand.tmp 14), type := 29, pos := "law.go:60", after := #[], guard := none }) (v := Value.int .u64 0) rfl (by kernel_rfl) (by kernel_rfl) (by kernel_rfl) (fun _ _ _ h => h) (Or.inl ⟨rfl, fun _ _ => by kernel_rfl⟩) hS ?_
              try simp only [Act.put, List.setIfInBounds_toArray, List.set_cons_zero, List.set_cons_succ]
              refine wpAnyH_take (i := 1) (oi := { dst := some 113, op := Op.move (Operand.tmp 16), type := 29, pos := "law.go:60", after := #[], guard := none }) (v := Value.int .u64 0) rfl (by kernel_rfl) (by kernel_rfl) (by kernel_rfl) (fun _ _ _ h => h) (Or.inl ⟨rfl, fun _ _ => by kernel_rfl⟩) hS ?_
              try simp only [Act.put, List.setIfInBounds_toArray, List.set_cons_zero, List.set_cons_succ]
              refine wpAnyH_take (i := 2) (oi := { dst := some 114, op := Op.binOp BinOp.neq 29 (Operand.tmp 112) (Operand.tmp 113) 29, type := 4, pos := "law.go:60", after := #[{ on := 0, ground := Ground.data }, { on := 1, ground := Ground.data }], guard := none }) (v := Value.bool false) rfl (by kernel_rfl) (by kernel_rfl) (by kernel_rfl) (fun _ _ _ h => h) (Or.inl ⟨rfl, fun _ _ => by go_simp⟩) hS ?_
              try simp only [Act.put, List.setIfInBounds_toArray, List.set_cons_zero, List.set_cons_succ]
              refine wpAnyH_take (i := 3) (oi := { dst := some 115, op := Op.move (Operand.tmp 114), type := 4, pos := "law.go:60", after := #[{ on := 2, ground := Ground.data }], guard := none }) (v := Value.bool false) rfl (by kernel_rfl) (by kernel_rfl) (by kernel_rfl) (fun _ _ _ h => h) (Or.inl ⟨rfl, fun _ _ => by kernel_rfl⟩) hS ?_
              try simp only [Act.put, List.setIfInBounds_toArray, List.set_cons_zero, List.set_cons_succ]
              refine wpAnyH_take (i := 4) (oi := { dst := some 116, op := Op.move (Operand.tmp 15), type := 4, pos := "law.go:60", after := #[{ on := 3, ground := Ground.guard }], guard := some (3, false) }) (v := Value.bool BB) rfl (by kernel_rfl) (by kernel_rfl) (by kernel_rfl) (fun _ _ _ h => h) (Or.inl ⟨rfl, fun _ _ => by kernel_rfl⟩) hS ?_
              try simp only [Act.put, List.setIfInBounds_toArray, List.set_cons_zero, List.set_cons_succ]
              refine wpAnyH_take (i := 5) (oi := { dst := some 117, op := Op.move (Operand.tmp 17), type := 4, pos := "law.go:60", after := #[{ on := 3, ground := Ground.guard }], guard := some (3, false) }) (v := Value.bool BB) rfl (by kernel_rfl) (by kernel_rfl) (by kernel_rfl) (fun _ _ _ h => h) (Or.inl ⟨rfl, fun _ _ => by kernel_rfl⟩) hS ?_
              try simp only [Act.put, List.setIfInBounds_toArray, List.set_cons_zero, List.set_cons_succ]
              refine wpAnyH_take (i := 6) (oi := { dst := some 118, op := Op.binOp BinOp.neq 4 (Operand.tmp 116) (Operand.tmp 117) 4, type := 4, pos := "law.go:60", after := #[{ on := 4, ground := Ground.data }, { on := 5, ground := Ground.data }, { on := 3, ground := Ground.guard }], guard := some (3, false) }) (v := Value.bool false) rfl (by kernel_rfl) (by kernel_rfl) (by kernel_rfl) (fun _ _ _ h => h) (Or.inl ⟨rfl, fun _ _ => by go_simp⟩) hS ?_
              try simp only [Act.put, List.setIfInBounds_toArray, List.set_cons_zero, List.set_cons_succ]
              refine wpAnyH_take (i := 7) (oi := { dst := some 119, op := Op.pick (Operand.tmp 115) (Operand.const (Value.bool true)) (Operand.tmp 118), type := 4, pos := "law.go:60", after := #[{ on := 3, ground := Ground.data }, { on := 6, ground := Ground.data }], guard := none }) (v := Value.bool false) rfl (by kernel_rfl) (by kernel_rfl) (by kernel_rfl) (fun _ _ _ h => h) (Or.inl ⟨rfl, fun _ _ => by kernel_rfl⟩) hS ?_
              try simp only [Act.put, List.setIfInBounds_toArray, List.set_cons_zero, List.set_cons_succ]
              refine wpAnyH_take (i := 8) (oi := { dst := some 120, op := Op.move (Operand.tmp 119), type := 4, pos := "law.go:60", after := #[{ on := 7, ground := Ground.data }, { on := 3, ground := Ground.chain }], guard := none }) (v := Value.bool false) rfl (by kernel_rfl) (by kernel_rfl) (by kernel_rfl) (fun _ _ _ h => h) (Or.inl ⟨rfl, fun _ _ => by kernel_rfl⟩) hS ?_
              try simp only [Act.put, List.setIfInBounds_toArray, List.set_cons_zero, List.set_cons_succ]
              refine wpAnyH_take (i := 9) (oi := { dst := some 121, op := Op.move (Operand.tmp 7), type := 28, pos := "law.go:60", after := #[{ on := 8, ground := Ground.guard }], guard := some (8, false) }) (v := Value.pointer (some ⟨m, 0, none⟩)) rfl (by kernel_rfl) (by kernel_rfl) (by kernel_rfl) (fun _ _ _ h => h) (Or.inl ⟨rfl, fun _ _ => by kernel_rfl⟩) hS ?_
              try simp only [Act.put, List.setIfInBounds_toArray, List.set_cons_zero, List.set_cons_succ]
              refine wpAnyH_take (i := 10) (oi := { dst := some 122, op := Op.load 35 (Operand.tmp 8), type := 35, pos := "law.go:60", after := #[{ on := 8, ground := Ground.guard }], guard := some (8, false) }) (v := Value.agg (rmA c (some ⟨g3, 0, none⟩) n c3 cn3 a3)) rfl (by kernel_rfl) (by kernel_rfl) (by kernel_rfl) (fun _ _ _ h => h) (yieldsIf_load_rw rfl 35 isT_rm (.tmp 8) rfl qm rfl (rmA c (some ⟨g3, 0, none⟩) n c3 cn3 a3) rfl (fun _ h => h.fa)) hS ?_
              try simp only [Act.put, List.setIfInBounds_toArray, List.set_cons_zero, List.set_cons_succ]
              refine wpAnyH_ready (rs := [11]) (by kernel_rfl) (by simp) ?_
              refine AllReadyH.cons (o := { dst := some 123, op := Op.call { callee := Callee.value (Operand.func 20), args := #[Operand.tmp 121, Operand.tmp 122], argTypes := #[28, 35] }, type := 4, pos := "law.go:60", after := #[{ on := 9, ground := Ground.data }, { on := 10, ground := Ground.data }, { on := 8, ground := Ground.chain }, { on := 8, ground := Ground.guard }], guard := some (8, false) }) rfl (fun K hK => ?_) AllReadyH.nil
              rw [if_pos (by rfl)]
              refine wp_calls 20 #[.pointer (some ⟨m, 0, none⟩), .agg (rmA c (some ⟨g3, 0, none⟩) n c3 cn3 a3)] (by kernel_rfl) (fun v U => v = .bool true ∧ Kept [] V5 U) ((HSM.out _ (Kept.refl [] V5)).mono (fun e w' hh => ⟨_, hh.1, rfl, hh.2⟩)) ?_
              rintro _ u11 ⟨rfl, J11⟩
              have j11 := (Kept.refl [] V5).trans J11
              have f11 := F5.new J11
              try simp only [Act.put, List.setIfInBounds_toArray, List.set_cons_zero, List.set_cons_succ]
              refine hK.out _ _ (f11) (fun hS => ?_)
              clear hK K
              refine wpAnyH_take (i := 12) (oi := { dst := some 124, op := Op.unOp UnOp.not 4 (Operand.tmp 123), type := 4, pos := "law.go:60", after := #[{ on := 11, ground := Ground.data }, { on := 8, ground := Ground.guard }], guard := some (8, false) }) (v := Value.bool false) rfl (by kernel_rfl) (by kernel_rfl) (by kernel_rfl) (fun _ _ _ h => h) (Or.inl ⟨rfl, fun _ _ => by kernel_rfl⟩) hS ?_
              try simp only [Act.put, List.setIfInBounds_toArray, List.set_cons_zero, List.set_cons_succ]
              refine wpAnyH_take (i := 13) (oi := { dst := some 125, op := Op.pick (Operand.tmp 120) (Operand.const (Value.bool true)) (Operand.tmp 124), type := 4, pos := "law.go:60", after := #[{ on := 8, ground := Ground.data }, { on := 12, ground := Ground.data }], guard := none }) (v := Value.bool false) rfl (by kernel_rfl) (by kernel_rfl) (by kernel_rfl) (fun _ _ _ h => h) (Or.inl ⟨rfl, fun _ _ => by kernel_rfl⟩) hS ?_
              try simp only [Act.put, List.setIfInBounds_toArray, List.set_cons_zero, List.set_cons_succ]
              refine wpAnyH_take (i := 14) (oi := { dst := some 126, op := Op.move (Operand.tmp 125), type := 4, pos := "law.go:60", after := #[{ on := 13, ground := Ground.data }, { on := 11, ground := Ground.chain }], guard := none }) (v := Value.bool false) rfl (by kernel_rfl) (by kernel_rfl) (by kernel_rfl) (fun _ _ _ h => h) (Or.inl ⟨rfl, fun _ _ => by kernel_rfl⟩) hS ?_
              try simp only [Act.put, List.setIfInBounds_toArray, List.set_cons_zero, List.set_cons_succ]
              refine wpAnyH_take (i := 15) (oi := { dst := some 127, op := Op.move (Operand.tmp 10), type := 38, pos := "law.go:60", after := #[{ on := 14, ground := Ground.guard }], guard := some (14, false) }) (v := Value.pointer (some ⟨b, 0, none⟩)) rfl (by kernel_rfl) (by kernel_rfl) (by kernel_rfl) (fun _ _ _ h => h) (Or.inl ⟨rfl, fun _ _ => by kernel_rfl⟩) hS ?_
              try simp only [Act.put, List.setIfInBounds_toArray, List.set_cons_zero, List.set_cons_succ]
              refine wpAnyH_take (i := 16) (oi := { dst := some 128, op := Op.nilCheck (Operand.tmp 127), type := 0, pos := "law.go:60", after := #[{ on := 15, ground := Ground.data }, { on := 14, ground := Ground.guard }], guard := some (14, false) }) (v := Value.pointer (some ⟨b, 0, none⟩)) rfl (by kernel_rfl) (by kernel_rfl) (by kernel_rfl) (fun _ _ _ h => h) (Or.inl ⟨rfl, fun _ _ => by kernel_rfl⟩) hS ?_
              try simp only [Act.put, List.setIfInBounds_toArray, List.set_cons_zero, List.set_cons_succ]
              refine wpAnyH_take (i := 17) (oi := { dst := some 129, op := Op.fieldAddr 62 (Operand.tmp 128) 0, type := 0, pos := "law.go:60", after := #[{ on := 16, ground := Ground.data }, { on := 14, ground := Ground.guard }], guard := some (14, false) }) (v := Value.pointer (some ⟨b, 0, none⟩)) rfl (by kernel_rfl) (by kernel_rfl) (by kernel_rfl) (fun _ _ _ h => h) (Or.inl ⟨rfl, fun _ _ => by kernel_rfl⟩) hS ?_
              try simp only [Act.put, List.setIfInBounds_toArray, List.set_cons_zero, List.set_cons_succ]
              refine wpAnyH_take (i := 19) (oi := { dst := some 131, op := Op.fieldAddr 42 (Operand.tmp 11) 1, type := 0, pos := "law.go:60", after := #[{ on := 14, ground := Ground.guard }], guard := some (14, false) }) (v := Value.pointer (some ⟨qh, 1, none⟩)) rfl (by kernel_rfl) (by kernel_rfl) (by kernel_rfl) (fun _ _ _ h => h) (Or.inl ⟨rfl, fun _ _ => by kernel_rfl⟩) hS ?_
              try simp only [Act.put, List.setIfInBounds_toArray, List.set_cons_zero, List.set_cons_succ]
              refine wpAnyH_take (i := 20) (oi := { dst := some 132, op := Op.load 29 (Operand.tmp 131), type := 29, pos := "law.go:60", after := #[{ on := 19, ground := Ground.data }, { on := 14, ground := Ground.guard }], guard := some (14, false) }) (v := Value.int .u64 g3'.l) rfl (by kernel_rfl) (by kernel_rfl) (by kernel_rfl) (fun _ _ _ h => h) (Or.inl ⟨rfl, fun w hSw => by have z := cell_of_blk hSw.fb (i := 1) (v := .int .u64 g3'.l) rfl; go_simp⟩) hS ?_
              try simp only [Act.put, List.setIfInBounds_toArray, List.set_cons_zero, List.set_cons_succ]
              refine wpAnyH_ready (rs := [18]) (by kernel_rfl) (by simp) ?_
              refine AllReadyH.cons (o := { dst := some 130, op := Op.call { callee := Callee.value (Operand.func 21), args := #[Operand.tmp 129], argTypes := #[60] }, type := 29, pos := "law.go:60", after := #[{ on := 17, ground := Ground.data }, { on := 14, ground := Ground.chain }, { on := 14, ground := Ground.guard }], guard := some (14, false) }) rfl (fun K hK => ?_) AllReadyH.nil
              rw [if_pos (by rfl)]
              refine wp_calls 21 #[.pointer (some ⟨b, 0, none⟩)] (by kernel_rfl) (fun v U => v = .int .u64 g3'.l ∧ Kept [] u11 U) ((HLT.out _ j11).mono (fun e w' hh => ⟨_, hh.1, rfl, hh.2⟩)) ?_
              rintro _ u18 ⟨rfl, J18⟩
              have j18 := j11.trans J18
              have f18 := f11.new J18
              try simp only [Act.put, List.setIfInBounds_toArray, List.set_cons_zero, List.set_cons_succ]
              refine hK.out _ _ (f18) (fun hS => ?_)
              clear hK K
              refine wpAnyH_take (i := 21) (oi := { dst := some 133, op := Op.binOp BinOp.neq 29 (Operand.tmp 130) (Operand.tmp 132) 29, type := 4, pos := "law.go:60", after := #[{ on := 18, ground := Ground.data }, { on := 20, ground := Ground.data }, { on := 14, ground := Ground.guard }], guard := some (14, false) }) (v := Value.bool false) rfl (by kernel_rfl) (by kernel_rfl) (by kernel_rfl) (fun _ _ _ h => h) (Or.inl ⟨rfl, fun _ _ => by go_simp⟩) hS ?_
              try simp only [Act.put, List.setIfInBounds_toArray, List.set_cons_zero, List.set_cons_succ]
              refine wpAnyH_take (i := 22) (oi := { dst := some 134, op := Op.pick (Operand.tmp 126) (Operand.const (Value.bool true)) (Operand.tmp 133), type := 4, pos := "law.go:60", after := #[{ on := 14, ground := Ground.data }, { on := 21, ground := Ground.data }], guard := none }) (v := Value.bool false) rfl (by kernel_rfl) (by kernel_rfl) (by kernel_rfl) (fun _ _ _ h => h) (Or.inl ⟨rfl, fun _ _ => by kernel_rfl⟩) hS ?_
              try simp only [Act.put, List.setIfInBounds_toArray, List.set_cons_zero, List.set_cons_succ]
              refine wpAnyH_take (i := 23) (oi := { dst := some 135, op := Op.move (Operand.tmp 134), type := 4, pos := "law.go:60", after := #[{ on := 22, ground := Ground.data }, { on := 18, ground := Ground.chain }], guard := none }) (v := Value.bool false) rfl (by kernel_rfl) (by kernel_rfl) (by kernel_rfl) (fun _ _ _ h => h) (Or.inl ⟨rfl, fun _ _ => by kernel_rfl⟩) hS ?_
              try simp only [Act.put, List.setIfInBounds_toArray, List.set_cons_zero, List.set_cons_succ]
              refine wpAnyH_take (i := 24) (oi := { dst := some 136, op := Op.move (Operand.tmp 10), type := 38, pos := "law.go:60", after := #[{ on := 23, ground := Ground.guard }], guard := some (23, false) }) (v := Value.pointer (some ⟨b, 0, none⟩)) rfl (by kernel_rfl) (by kernel_rfl) (by kernel_rfl) (fun _ _ _ h => h) (Or.inl ⟨rfl, fun _ _ => by kernel_rfl⟩) hS ?_
              try simp only [Act.put, List.setIfInBounds_toArray, List.set_cons_zero, List.set_cons_succ]
              refine wpAnyH_take (i := 26) (oi := { dst := some 138, op := Op.fieldAddr 27 (Operand.tmp 5) 0, type := 0, pos := "law.go:60", after := #[{ on := 23, ground := Ground.guard }], guard := some (23, false) }) (v := Value.pointer (some ⟨q + 1, 0, none⟩)) rfl (by kernel_rfl) (by kernel_rfl) (by kernel_rfl) (fun _ _ _ h => h) (Or.inl ⟨rfl, fun _ _ => by kernel_rfl⟩) hS ?_
              try simp only [Act.put, List.setIfInBounds_toArray, List.set_cons_zero, List.set_cons_succ]
              refine wpAnyH_take (i := 27) (oi := { dst := some 139, op := Op.load 3 (Operand.tmp 138), type := 3, pos := "law.go:60", after := #[{ on := 26, ground := Ground.data }, { on := 23, ground := Ground.guard }], guard := some (23, false) }) (v := Value.int .i64 th) rfl (by kernel_rfl) (by kernel_rfl) (by kernel_rfl) (fun _ _ _ h => h) (Or.inl ⟨rfl, fun w hSw => by have z := cell_of_blk hSw.fc (i := 0) (v := .int .i64 th) rfl; go_simp⟩) hS ?_
              try simp only [Act.put, List.setIfInBounds_toArray, List.set_cons_zero, List.set_cons_succ]
              refine wpAnyH_ready (rs := [25]) (by kernel_rfl) (by simp) ?_
              refine AllReadyH.cons (o := { dst := some 137, op := Op.call { callee := Callee.value (Operand.func 22), args := #[Operand.tmp 136], argTypes := #[38] }, type := 3, pos := "law.go:60", after := #[{ on := 24, ground := Ground.data }, { on := 23, ground := Ground.chain }, { on := 23, ground := Ground.guard }], guard := some (23, false) }) rfl (fun K hK => ?_) AllReadyH.nil
              rw [if_pos (by rfl)]
              refine wp_calls 22 #[.pointer (some ⟨b, 0, none⟩)] (by kernel_rfl) (fun v U => v = .int .i64 th ∧ Kept [] u18 U) ((HTH.out _ j18).mono (fun e w' hh => ⟨_, hh.1, rfl, hh.2⟩)) ?_
              rintro _ u25 ⟨rfl, J25⟩
              have j25 := j18.trans J25
              have f25 := f18.new J25
              try simp only [Act.put, List.setIfInBounds_toArray, List.set_cons_zero, List.set_cons_succ]
              refine hK.out _ _ (f25) (fun hS => ?_)
              clear hK K
              refine wpAnyH_take (i := 28) (oi := { dst := some 140, op := Op.binOp BinOp.neq 3 (Operand.tmp 137) (Operand.tmp 139) 3, type := 4, pos := "law.go:60", after := #[{ on := 25, ground := Ground.data }, { on := 27, ground := Ground.data }, { on := 23, ground := Ground.guard }], guard := some (23, false) }) (v := Value.bool false) rfl (by kernel_rfl) (by kernel_rfl) (by kernel_rfl) (fun _ _ _ h => h) (Or.inl ⟨rfl, fun _ _ => by go_simp⟩) hS ?_
              try simp only [Act.put, List.setIfInBounds_toArray, List.set_cons_zero, List.set_cons_succ]
              refine wpAnyH_take (i := 29) (oi := { dst := some 141, op := Op.pick (Operand.tmp 135) (Operand.const (Value.bool true)) (Operand.tmp 140), type := 4, pos := "law.go:60", after := #[{ on := 23, ground := Ground.data }, { on := 28, ground := Ground.data }], guard := none }) (v := Value.bool false) rfl (by kernel_rfl) (by kernel_rfl) (by kernel_rfl) (fun _ _ _ h => h) (Or.inl ⟨rfl, fun _ _ => by kernel_rfl⟩) hS ?_
              try simp only [Act.put, List.setIfInBounds_toArray, List.set_cons_zero, List.set_cons_succ]
              refine wpAnyH_done (by kernel_rfl) ?_ _
              have KF := j25
              clear hS HSM HLT HTH f11 f18 f25 J11 J18 J25 j11 j18
              go_wp2
              go_roundw
              case rel => exact ⟨j + 1, g3', cs3, cn3, a3, g3, c3, by omega, by go_num, FN.out.new KF⟩
              case measure => simp [intOf]; omega
            · by_cases hk2 : kk = 2
              · subst hk2
                go_upto_region 10 with (fail)
                rw [← hnb]
                refine gen_world (fun V => RW 44 V nb (gpA ⟨2, sl, er⟩) ∧ Kept [] wr V) ?_ ?_
                · rw [hnb]; exact ⟨RW.new _ _ _, (Kept.refl [] wr).alloc _⟩
                have nle : wr.heap.size ≤ nb := by omega
                clear hnb t0 t1 t2
                rintro V1 ⟨N1, KV1⟩
                have HX1 := hidOf (HX.out.new KV1)
                clear HX KV1 nle
                have HX := HX1
                clear HX1
                have d0 := cell_of_blk N1 (i := 0) (v := .int .i64 2) rfl
                have d1 := cell_of_blk N1 (i := 1) (v := .int .i64 sl) rfl
                have d2 := cell_of_blk N1 (i := 2) (v := .int .u64 er) rfl
                obtain ⟨AC, hAC⟩ : ∃ AC, acV cs 2 (rsV c g.t sl) 0 0 0 = AC := ⟨_, rfl⟩
                obtain ⟨CC, hCC⟩ : ∃ CC, (clV cs 2 (rsV c g.t sl) 0 0) = CC := ⟨_, rfl⟩
                have HCC : Hid (CC.length = n) := hidOf (by rw [← hCC, clV_len]; exact HX.out.len)
                obtain ⟨gn, hg⟩ : ∃ gn, (clrG c g sl) = gn := ⟨_, rfl⟩
                have HFX : Hid (gn.t = th ∧ 0 ≤ gn.u ∧ gn.u ≤ c.s) := hidOf ⟨by rw [← hg]; exact (clrG_t _).trans HX.out.t, by rw [← hg]; have := HX.out.u0; rcases clrG_u (c := c) (g := g) sl with h | h <;> omega, by rw [← hg]; have := HX.out.u1; have := HRT.out.s0; rcases clrG_u (c := c) (g := g) sl with h | h <;> omega⟩
                have nn : ¬ nb = b ∧ ¬ nb = p ∧ ¬ nb = r := ⟨rw_ne N1 HX.out.gb (by decide), rw_ne N1 HX.out.mm.bk.st (by decide), rw_ne N1 HX.out.mm.bk.row (by decide)⟩
                have ST := hidOf ((gclear_any b m p r g c cs cnt a sl _ HX.out.gb HX.out.mm (by have := HRT.out.s0; omega) (by have := HRT.out.s1; omega) HX.out.n0 (by have := HX.out.n1; omega)).mono fun e w' hh => And.intro hh.1 (And.intro (HX.out.mid hh.2.2.2 hh.2.2.1 hh.2.1) (N1.kept hh.2.2.2 (by simp; omega))))
                rw [hAC, hCC, hg] at ST
                clear nn N1
                go_wp2_with fail
                refine ST.out.mono ?_
                rintro e w4 ⟨rfl, JX, N4⟩
                have HJ := hidOf JX
                clear JX ST d0 d1 d2
                have RF := hidOf (rclear_any g c gg cs cg cnt a sl w4 HJ.out.row (by rw [HX.out.len]; omega) (by have := HRT.out.s0; omega) (by have := HRT.out.s1; omega) HX.out.n0 (by have := HX.out.n1; omega))
                rw [hAC, hCC, hg, HX.out.len] at RF
                clear hAC hCC hg
                have RF2 : Hid (Calls Tryd.prog 17 #[.agg (rgA g), .agg (rmA c (some ⟨gg, 0, none⟩) n cg cnt a), .int .i64 sl] w4 fun e w' => ∃ g' c', e = .returned (.tuple #[.agg (rgA gn), .agg (rmA c (some ⟨g', 0, none⟩) n c' (cnt + 1) AC)]) ∧ (g' = gg ∨ w4.heap.size ≤ g') ∧ RowR w' g' CC c' ∧ Kept [] w4 w') := RF.out
                clear RF
                have d1 := cell_of_blk N4 (i := 1) (v := .int .i64 sl) rfl
                have d2 := cell_of_blk N4 (i := 2) (v := .int .u64 er) rfl
                go_wp2_with (first | ((with_reducible change wpList _ _ _ (Oper.mk _ (Op.load 42 _) _ _ _ _ :: _) _ _); refine wpList_load_rw 42 isT_rg rfl (.tmp 11) rfl qh rfl (rgA g) rfl HJ.out.rg ?_) | ((with_reducible change wpList _ _ _ (Oper.mk _ (Op.load 35 _) _ _ _ _ :: _) _ _); refine wpList_load_rw 35 isT_rm rfl (.tmp 8) rfl qm rfl (rmA c (some ⟨gg, 0, none⟩) n cg cnt a) rfl HJ.out.rm ?_))
                refine RF2.out.mono ?_
                rintro e w5 ⟨g3, c3, rfl, h2, R5, K5⟩
                obtain ⟨-, -, -, nqq⟩ := HX.out.ne
                clear RF2 d1 d2 N4
                have q7 := HJ.out.rg.kept K5 (by simp)
                have q8 := HJ.out.rm.kept K5 (by simp)
                have q9 := q8.rowOther (c := qh) (rgA gn) nqq
                go_upto_region 23 with (first | ((with_reducible change wpList _ _ _ (Oper.mk _ (Op.store 42 _ _) _ _ _ _ :: _) _ _); refine wpList_store_rw 42 isT_rg rfl (.tmp 11) (.tmp 101) rfl qh (rgA gn) rfl rfl rfl (rg_one _) (rgA g) q7 rfl ?_) | ((with_reducible change wpList _ _ _ (Oper.mk _ (Op.store 35 _ _) _ _ _ _ :: _) _ _); refine wpList_store_rw 35 isT_rm rfl (.tmp 8) (.tmp 102) rfl qm (rmA c (some ⟨g3, 0, none⟩) n c3 (cnt + 1) AC) rfl rfl rfl (rm_one _ _ _ _ _ _) _ q9 rfl ?_))
                refine gen_world (fun V => RW 35 V qm (rmA c (some ⟨g3, 0, none⟩) n c3 (cnt + 1) AC) ∧ RW 42 V qh (rgA gn) ∧ Kept [qm, qh] w5 V) ⟨q9.row _, (q7.row _).rowOther _ (fun e => nqq e.symm), ((Kept.refl [qm, qh] w5).setRow (b := qh) (Or.inl (by simp)) _).setRow (b := qm) (Or.inl (by simp)) _⟩ ?_
                clear q9
                rintro V6 ⟨D6, B6, K6⟩
                have FN := hidOf (HX.out.step HJ.out K5 R5 h2 K6 D6 B6 HFX.out.1 HFX.out.2.1 HFX.out.2.2 HCC.out)
                clear HX HJ K5 R5 h2 K6 D6 B6 q7 q8 nqq HFX HCC
                obtain ⟨g3', hg3⟩ : ∃ g3', g3' = gn := ⟨_, rfl⟩
                obtain ⟨cs3, hcs3⟩ : ∃ cs3, cs3 = CC := ⟨_, rfl⟩
                obtain ⟨cn3, hcn3⟩ : ∃ cn3, cn3 = cnt + 1 := ⟨_, rfl⟩
                obtain ⟨a3, ha3⟩ : ∃ a3, a3 = AC := ⟨_, rfl⟩
                rw [← hg3, ← hcs3, ← hcn3, ← ha3] at FN
                clear hg3 hcs3 hcn3
                clear ha3
                have PB6 := HPB.out.kept FN.out.kp (by simp)
                have HSM : Hid (∀ W2, Kept [] V6.drew W2 → Calls Tryd.prog 20 #[.pointer (some ⟨m, 0, none⟩), .agg (rmA c (some ⟨g3, 0, none⟩) n c3 cn3 a3)] W2 fun e w' => e = .returned (.bool true) ∧ Kept [] W2 w') := fun W2 kk => ksame_any m p r g3 c c _ _ _ n c3 W2 ((FN.out.new ((Kept.refl [] V6).drew.trans kk)).mm) ((FN.out.new ((Kept.refl [] V6).drew.trans kk)).row) FN.out.len.symm (by omega)
                have HLT : Hid (∀ W2, Kept [] V6.drew W2 → Calls Tryd.prog 21 #[.pointer (some ⟨b, 0, none⟩)] W2 fun e w' => e = .returned (.int .u64 g3'.l) ∧ Kept [] W2 w') := fun W2 kk => (glatest_any b g3' W2 (FN.out.new ((Kept.refl [] V6).drew.trans kk)).gb).mono fun e w' hh => ⟨hh.1, by rw [hh.2]; exact Kept.refl _ _⟩
                have HTH : Hid (∀ W2, Kept [] V6.drew W2 → Calls Tryd.prog 22 #[.pointer (some ⟨b, 0, none⟩)] W2 fun e w' => e = .returned (.int .i64 th) ∧ Kept [] W2 w') := fun W2 kk => (gthread_any b g3' W2 (FN.out.new ((Kept.refl [] V6).drew.trans kk)).gb).mono fun e w' hh => ⟨by rw [← FN.out.t]; exact hh.1, by rw [hh.2]; exact Kept.refl _ _⟩
                have F5 : F3 V6.drew qm qh (q + 1) (rmA c (some ⟨g3, 0, none⟩) n c3 cn3 a3) (rgA g3') (plA th lo k lc) := ⟨FN.out.rm, FN.out.rg, PB6⟩
                clear PB6
                refine wp_region_held_drew (S := fun w' => F3 w' qm qh (q + 1) (rmA c (some ⟨g3, 0, none⟩) n c3 cn3 a3) (rgA g3') (plA th lo k lc)) (by kernel_rfl) F5 (fun hS => ?_)
                replace FN := hidOf (FN.out.new (Kept.refl [] V6).drew)
                generalize V6.drew = V5 at F5 HSM HLT HTH FN hS ⊢
                refine wpAnyH_take (i := 0) (oi := { dst := some 112, op := Op.move (Operand.tmp 14), type := 29, pos := "law.go:60", after := #[], guard := none }) (v := Value.int .u64 0) rfl (by kernel_rfl) (by kernel_rfl) (by kernel_rfl) (fun _ _ _ h => h) (Or.inl ⟨rfl, fun _ _ => by kernel_rfl⟩) hS ?_
                try simp only [Act.put, List.setIfInBounds_toArray, List.set_cons_zero, List.set_cons_succ]
                refine wpAnyH_take (i := 1) (oi := { dst := some 113, op := Op.move (Operand.tmp 16), type := 29, pos := "law.go:60", after := #[], guard := none }) (v := Value.int .u64 0) rfl (by kernel_rfl) (by kernel_rfl) (by kernel_rfl) (fun _ _ _ h => h) (Or.inl ⟨rfl, fun _ _ => by kernel_rfl⟩) hS ?_
                try simp only [Act.put, List.setIfInBounds_toArray, List.set_cons_zero, List.set_cons_succ]
                refine wpAnyH_take (i := 2) (oi := { dst := some 114, op := Op.binOp BinOp.neq 29 (Operand.tmp 112) (Operand.tmp 113) 29, type := 4, pos := "law.go:60", after := #[{ on := 0, ground := Ground.data }, { on := 1, ground := Ground.data }], guard := none }) (v := Value.bool false) rfl (by kernel_rfl) (by kernel_rfl) (by kernel_rfl) (fun _ _ _ h => h) (Or.inl ⟨rfl, fun _ _ => by go_simp⟩) hS ?_
                try simp only [Act.put, List.setIfInBounds_toArray, List.set_cons_zero, List.set_cons_succ]
                refine wpAnyH_take (i := 3) (oi := { dst := some 115, op := Op.move (Operand.tmp 114), type := 4, pos := "law.go:60", after := #[{ on := 2, ground := Ground.data }], guard := none }) (v := Value.bool false) rfl (by kernel_rfl) (by kernel_rfl) (by kernel_rfl) (fun _ _ _ h => h) (Or.inl ⟨rfl, fun _ _ => by kernel_rfl⟩) hS ?_
                try simp only [Act.put, List.setIfInBounds_toArray, List.set_cons_zero, List.set_cons_succ]
                refine wpAnyH_take (i := 4) (oi := { dst := some 116, op := Op.move (Operand.tmp 15), type := 4, pos := "law.go:60", after := #[{ on := 3, ground := Ground.guard }], guard := some (3, false) }) (v := Value.bool false) rfl (by kernel_rfl) (by kernel_rfl) (by kernel_rfl) (fun _ _ _ h => h) (Or.inl ⟨rfl, fun _ _ => by kernel_rfl⟩) hS ?_
                try simp only [Act.put, List.setIfInBounds_toArray, List.set_cons_zero, List.set_cons_succ]
                refine wpAnyH_take (i := 5) (oi := { dst := some 117, op := Op.move (Operand.tmp 17), type := 4, pos := "law.go:60", after := #[{ on := 3, ground := Ground.guard }], guard := some (3, false) }) (v := Value.bool false) rfl (by kernel_rfl) (by kernel_rfl) (by kernel_rfl) (fun _ _ _ h => h) (Or.inl ⟨rfl, fun _ _ => by kernel_rfl⟩) hS ?_
                try simp only [Act.put, List.setIfInBounds_toArray, List.set_cons_zero, List.set_cons_succ]
                refine wpAnyH_take (i := 6) (oi := { dst := some 118, op := Op.binOp BinOp.neq 4 (Operand.tmp 116) (Operand.tmp 117) 4, type := 4, pos := "law.go:60", after := #[{ on := 4, ground := Ground.data }, { on := 5, ground := Ground.data }, { on := 3, ground := Ground.guard }], guard := some (3, false) }) (v := Value.bool false) rfl (by kernel_rfl) (by kernel_rfl) (by kernel_rfl) (fun _ _ _ h => h) (Or.inl ⟨rfl, fun _ _ => by go_simp⟩) hS ?_
                try simp only [Act.put, List.setIfInBounds_toArray, List.set_cons_zero, List.set_cons_succ]
                refine wpAnyH_take (i := 7) (oi := { dst := some 119, op := Op.pick (Operand.tmp 115) (Operand.const (Value.bool true)) (Operand.tmp 118), type := 4, pos := "law.go:60", after := #[{ on := 3, ground := Ground.data }, { on := 6, ground := Ground.data }], guard := none }) (v := Value.bool false) rfl (by kernel_rfl) (by kernel_rfl) (by kernel_rfl) (fun _ _ _ h => h) (Or.inl ⟨rfl, fun _ _ => by kernel_rfl⟩) hS ?_
                try simp only [Act.put, List.setIfInBounds_toArray, List.set_cons_zero, List.set_cons_succ]
                refine wpAnyH_take (i := 8) (oi := { dst := some 120, op := Op.move (Operand.tmp 119), type := 4, pos := "law.go:60", after := #[{ on := 7, ground := Ground.data }, { on := 3, ground := Ground.chain }], guard := none }) (v := Value.bool false) rfl (by kernel_rfl) (by kernel_rfl) (by kernel_rfl) (fun _ _ _ h => h) (Or.inl ⟨rfl, fun _ _ => by kernel_rfl⟩) hS ?_
                try simp only [Act.put, List.setIfInBounds_toArray, List.set_cons_zero, List.set_cons_succ]
                refine wpAnyH_take (i := 9) (oi := { dst := some 121, op := Op.move (Operand.tmp 7), type := 28, pos := "law.go:60", after := #[{ on := 8, ground := Ground.guard }], guard := some (8, false) }) (v := Value.pointer (some ⟨m, 0, none⟩)) rfl (by kernel_rfl) (by kernel_rfl) (by kernel_rfl) (fun _ _ _ h => h) (Or.inl ⟨rfl, fun _ _ => by kernel_rfl⟩) hS ?_
                try simp only [Act.put, List.setIfInBounds_toArray, List.set_cons_zero, List.set_cons_succ]
                refine wpAnyH_take (i := 10) (oi := { dst := some 122, op := Op.load 35 (Operand.tmp 8), type := 35, pos := "law.go:60", after := #[{ on := 8, ground := Ground.guard }], guard := some (8, false) }) (v := Value.agg (rmA c (some ⟨g3, 0, none⟩) n c3 cn3 a3)) rfl (by kernel_rfl) (by kernel_rfl) (by kernel_rfl) (fun _ _ _ h => h) (yieldsIf_load_rw rfl 35 isT_rm (.tmp 8) rfl qm rfl (rmA c (some ⟨g3, 0, none⟩) n c3 cn3 a3) rfl (fun _ h => h.fa)) hS ?_
                try simp only [Act.put, List.setIfInBounds_toArray, List.set_cons_zero, List.set_cons_succ]
                refine wpAnyH_ready (rs := [11]) (by kernel_rfl) (by simp) ?_
                refine AllReadyH.cons (o := { dst := some 123, op := Op.call { callee := Callee.value (Operand.func 20), args := #[Operand.tmp 121, Operand.tmp 122], argTypes := #[28, 35] }, type := 4, pos := "law.go:60", after := #[{ on := 9, ground := Ground.data }, { on := 10, ground := Ground.data }, { on := 8, ground := Ground.chain }, { on := 8, ground := Ground.guard }], guard := some (8, false) }) rfl (fun K hK => ?_) AllReadyH.nil
                rw [if_pos (by rfl)]
                refine wp_calls 20 #[.pointer (some ⟨m, 0, none⟩), .agg (rmA c (some ⟨g3, 0, none⟩) n c3 cn3 a3)] (by kernel_rfl) (fun v U => v = .bool true ∧ Kept [] V5 U) ((HSM.out _ (Kept.refl [] V5)).mono (fun e w' hh => ⟨_, hh.1, rfl, hh.2⟩)) ?_
                rintro _ u11 ⟨rfl, J11⟩
                have j11 := (Kept.refl [] V5).trans J11
                have f11 := F5.new J11
                try simp only [Act.put, List.setIfInBounds_toArray, List.set_cons_zero, List.set_cons_succ]
                refine hK.out _ _ (f11) (fun hS => ?_)
                clear hK K
                refine wpAnyH_take (i := 12) (oi := { dst := some 124, op := Op.unOp UnOp.not 4 (Operand.tmp 123), type := 4, pos := "law.go:60", after := #[{ on := 11, ground := Ground.data }, { on := 8, ground := Ground.guard }], guard := some (8, false) }) (v := Value.bool false) rfl (by kernel_rfl) (by kernel_rfl) (by kernel_rfl) (fun _ _ _ h => h) (Or.inl ⟨rfl, fun _ _ => by kernel_rfl⟩) hS ?_
                try simp only [Act.put, List.setIfInBounds_toArray, List.set_cons_zero, List.set_cons_succ]
                refine wpAnyH_take (i := 13) (oi := { dst := some 125, op := Op.pick (Operand.tmp 120) (Operand.const (Value.bool true)) (Operand.tmp 124), type := 4, pos := "law.go:60", after := #[{ on := 8, ground := Ground.data }, { on := 12, ground := Ground.data }], guard := none }) (v := Value.bool false) rfl (by kernel_rfl) (by kernel_rfl) (by kernel_rfl) (fun _ _ _ h => h) (Or.inl ⟨rfl, fun _ _ => by kernel_rfl⟩) hS ?_
                try simp only [Act.put, List.setIfInBounds_toArray, List.set_cons_zero, List.set_cons_succ]
                refine wpAnyH_take (i := 14) (oi := { dst := some 126, op := Op.move (Operand.tmp 125), type := 4, pos := "law.go:60", after := #[{ on := 13, ground := Ground.data }, { on := 11, ground := Ground.chain }], guard := none }) (v := Value.bool false) rfl (by kernel_rfl) (by kernel_rfl) (by kernel_rfl) (fun _ _ _ h => h) (Or.inl ⟨rfl, fun _ _ => by kernel_rfl⟩) hS ?_
                try simp only [Act.put, List.setIfInBounds_toArray, List.set_cons_zero, List.set_cons_succ]
                refine wpAnyH_take (i := 15) (oi := { dst := some 127, op := Op.move (Operand.tmp 10), type := 38, pos := "law.go:60", after := #[{ on := 14, ground := Ground.guard }], guard := some (14, false) }) (v := Value.pointer (some ⟨b, 0, none⟩)) rfl (by kernel_rfl) (by kernel_rfl) (by kernel_rfl) (fun _ _ _ h => h) (Or.inl ⟨rfl, fun _ _ => by kernel_rfl⟩) hS ?_
                try simp only [Act.put, List.setIfInBounds_toArray, List.set_cons_zero, List.set_cons_succ]
                refine wpAnyH_take (i := 16) (oi := { dst := some 128, op := Op.nilCheck (Operand.tmp 127), type := 0, pos := "law.go:60", after := #[{ on := 15, ground := Ground.data }, { on := 14, ground := Ground.guard }], guard := some (14, false) }) (v := Value.pointer (some ⟨b, 0, none⟩)) rfl (by kernel_rfl) (by kernel_rfl) (by kernel_rfl) (fun _ _ _ h => h) (Or.inl ⟨rfl, fun _ _ => by kernel_rfl⟩) hS ?_
                try simp only [Act.put, List.setIfInBounds_toArray, List.set_cons_zero, List.set_cons_succ]
                refine wpAnyH_take (i := 17) (oi := { dst := some 129, op := Op.fieldAddr 62 (Operand.tmp 128) 0, type := 0, pos := "law.go:60", after := #[{ on := 16, ground := Ground.data }, { on := 14, ground := Ground.guard }], guard := some (14, false) }) (v := Value.pointer (some ⟨b, 0, none⟩)) rfl (by kernel_rfl) (by kernel_rfl) (by kernel_rfl) (fun _ _ _ h => h) (Or.inl ⟨rfl, fun _ _ => by kernel_rfl⟩) hS ?_
                try simp only [Act.put, List.setIfInBounds_toArray, List.set_cons_zero, List.set_cons_succ]
                refine wpAnyH_take (i := 19) (oi := { dst := some 131, op := Op.fieldAddr 42 (Operand.tmp 11) 1, type := 0, pos := "law.go:60", after := #[{ on := 14, ground := Ground.guard }], guard := some (14, false) }) (v := Value.pointer (some ⟨qh, 1, none⟩)) rfl (by kernel_rfl) (by kernel_rfl) (by kernel_rfl) (fun _ _ _ h => h) (Or.inl ⟨rfl, fun _ _ => by kernel_rfl⟩) hS ?_
                try simp only [Act.put, List.setIfInBounds_toArray, List.set_cons_zero, List.set_cons_succ]
                refine wpAnyH_take (i := 20) (oi := { dst := some 132, op := Op.load 29 (Operand.tmp 131), type := 29, pos := "law.go:60", after := #[{ on := 19, ground := Ground.data }, { on := 14, ground := Ground.guard }], guard := some (14, false) }) (v := Value.int .u64 g3'.l) rfl (by kernel_rfl) (by kernel_rfl) (by kernel_rfl) (fun _ _ _ h => h) (Or.inl ⟨rfl, fun w hSw => by have z := cell_of_blk hSw.fb (i := 1) (v := .int .u64 g3'.l) rfl; go_simp⟩) hS ?_
                try simp only [Act.put, List.setIfInBounds_toArray, List.set_cons_zero, List.set_cons_succ]
                refine wpAnyH_ready (rs := [18]) (by kernel_rfl) (by simp) ?_
                refine AllReadyH.cons (o := { dst := some 130, op := Op.call { callee := Callee.value (Operand.func 21), args := #[Operand.tmp 129], argTypes := #[60] }, type := 29, pos := "law.go:60", after := #[{ on := 17, ground := Ground.data }, { on := 14, ground := Ground.chain }, { on := 14, ground := Ground.guard }], guard := some (14, false) }) rfl (fun K hK => ?_) AllReadyH.nil
                rw [if_pos (by rfl)]
                refine wp_calls 21 #[.pointer (some ⟨b, 0, none⟩)] (by kernel_rfl) (fun v U => v = .int .u64 g3'.l ∧ Kept [] u11 U) ((HLT.out _ j11).mono (fun e w' hh => ⟨_, hh.1, rfl, hh.2⟩)) ?_
                rintro _ u18 ⟨rfl, J18⟩
                have j18 := j11.trans J18
                have f18 := f11.new J18
                try simp only [Act.put, List.setIfInBounds_toArray, List.set_cons_zero, List.set_cons_succ]
                refine hK.out _ _ (f18) (fun hS => ?_)
                clear hK K
                refine wpAnyH_take (i := 21) (oi := { dst := some 133, op := Op.binOp BinOp.neq 29 (Operand.tmp 130) (Operand.tmp 132) 29, type := 4, pos := "law.go:60", after := #[{ on := 18, ground := Ground.data }, { on := 20, ground := Ground.data }, { on := 14, ground := Ground.guard }], guard := some (14, false) }) (v := Value.bool false) rfl (by kernel_rfl) (by kernel_rfl) (by kernel_rfl) (fun _ _ _ h => h) (Or.inl ⟨rfl, fun _ _ => by go_simp⟩) hS ?_
                try simp only [Act.put, List.setIfInBounds_toArray, List.set_cons_zero, List.set_cons_succ]
                refine wpAnyH_take (i := 22) (oi := { dst := some 134, op := Op.pick (Operand.tmp 126) (Operand.const (Value.bool true)) (Operand.tmp 133), type := 4, pos := "law.go:60", after := #[{ on := 14, ground := Ground.data }, { on := 21, ground := Ground.data }], guard := none }) (v := Value.bool false) rfl (by kernel_rfl) (by kernel_rfl) (by kernel_rfl) (fun _ _ _ h => h) (Or.inl ⟨rfl, fun _ _ => by kernel_rfl⟩) hS ?_
                try simp only [Act.put, List.setIfInBounds_toArray, List.set_cons_zero, List.set_cons_succ]
                refine wpAnyH_take (i := 23) (oi := { dst := some 135, op := Op.move (Operand.tmp 134), type := 4, pos := "law.go:60", after := #[{ on := 22, ground := Ground.data }, { on := 18, ground := Ground.chain }], guard := none }) (v := Value.bool false) rfl (by kernel_rfl) (by kernel_rfl) (by kernel_rfl) (fun _ _ _ h => h) (Or.inl ⟨rfl, fun _ _ => by kernel_rfl⟩) hS ?_
                try simp only [Act.put, List.setIfInBounds_toArray, List.set_cons_zero, List.set_cons_succ]
                refine wpAnyH_take (i := 24) (oi := { dst := some 136, op := Op.move (Operand.tmp 10), type := 38, pos := "law.go:60", after := #[{ on := 23, ground := Ground.guard }], guard := some (23, false) }) (v := Value.pointer (some ⟨b, 0, none⟩)) rfl (by kernel_rfl) (by kernel_rfl) (by kernel_rfl) (fun _ _ _ h => h) (Or.inl ⟨rfl, fun _ _ => by kernel_rfl⟩) hS ?_
                try simp only [Act.put, List.setIfInBounds_toArray, List.set_cons_zero, List.set_cons_succ]
                refine wpAnyH_take (i := 26) (oi := { dst := some 138, op := Op.fieldAddr 27 (Operand.tmp 5) 0, type := 0, pos := "law.go:60", after := #[{ on := 23, ground := Ground.guard }], guard := some (23, false) }) (v := Value.pointer (some ⟨q + 1, 0, none⟩)) rfl (by kernel_rfl) (by kernel_rfl) (by kernel_rfl) (fun _ _ _ h => h) (Or.inl ⟨rfl, fun _ _ => by kernel_rfl⟩) hS ?_
                try simp only [Act.put, List.setIfInBounds_toArray, List.set_cons_zero, List.set_cons_succ]
                refine wpAnyH_take (i := 27) (oi := { dst := some 139, op := Op.load 3 (Operand.tmp 138), type := 3, pos := "law.go:60", after := #[{ on := 26, ground := Ground.data }, { on := 23, ground := Ground.guard }], guard := some (23, false) }) (v := Value.int .i64 th) rfl (by kernel_rfl) (by kernel_rfl) (by kernel_rfl) (fun _ _ _ h => h) (Or.inl ⟨rfl, fun w hSw => by have z := cell_of_blk hSw.fc (i := 0) (v := .int .i64 th) rfl; go_simp⟩) hS ?_
                try simp only [Act.put, List.setIfInBounds_toArray, List.set_cons_zero, List.set_cons_succ]
                refine wpAnyH_ready (rs := [25]) (by kernel_rfl) (by simp) ?_
                refine AllReadyH.cons (o := { dst := some 137, op := Op.call { callee := Callee.value (Operand.func 22), args := #[Operand.tmp 136], argTypes := #[38] }, type := 3, pos := "law.go:60", after := #[{ on := 24, ground := Ground.data }, { on := 23, ground := Ground.chain }, { on := 23, ground := Ground.guard }], guard := some (23, false) }) rfl (fun K hK => ?_) AllReadyH.nil
                rw [if_pos (by rfl)]
                refine wp_calls 22 #[.pointer (some ⟨b, 0, none⟩)] (by kernel_rfl) (fun v U => v = .int .i64 th ∧ Kept [] u18 U) ((HTH.out _ j18).mono (fun e w' hh => ⟨_, hh.1, rfl, hh.2⟩)) ?_
                rintro _ u25 ⟨rfl, J25⟩
                have j25 := j18.trans J25
                have f25 := f18.new J25
                try simp only [Act.put, List.setIfInBounds_toArray, List.set_cons_zero, List.set_cons_succ]
                refine hK.out _ _ (f25) (fun hS => ?_)
                clear hK K
                refine wpAnyH_take (i := 28) (oi := { dst := some 140, op := Op.binOp BinOp.neq 3 (Operand.tmp 137) (Operand.tmp 139) 3, type := 4, pos := "law.go:60", after := #[{ on := 25, ground := Ground.data }, { on := 27, ground := Ground.data }, { on := 23, ground := Ground.guard }], guard := some (23, false) }) (v := Value.bool false) rfl (by kernel_rfl) (by kernel_rfl) (by kernel_rfl) (fun _ _ _ h => h) (Or.inl ⟨rfl, fun _ _ => by go_simp⟩) hS ?_
                try simp only [Act.put, List.setIfInBounds_toArray, List.set_cons_zero, List.set_cons_succ]
                refine wpAnyH_take (i := 29) (oi := { dst := some 141, op := Op.pick (Operand.tmp 135) (Operand.const (Value.bool true)) (Operand.tmp 140), type := 4, pos := "law.go:60", after := #[{ on := 23, ground := Ground.data }, { on := 28, ground := Ground.data }], guard := none }) (v := Value.bool false) rfl (by kernel_rfl) (by kernel_rfl) (by kernel_rfl) (fun _ _ _ h => h) (Or.inl ⟨rfl, fun _ _ => by kernel_rfl⟩) hS ?_
                try simp only [Act.put, List.setIfInBounds_toArray, List.set_cons_zero, List.set_cons_succ]
                refine wpAnyH_done (by kernel_rfl) ?_ _
                have KF := j25
                clear hS HSM HLT HTH f11 f18 f25 J11 J18 J25 j11 j18
                go_wp2
                go_roundw
                case rel => exact ⟨j + 1, g3', cs3, cn3, a3, g3, c3, by omega, by go_num, FN.out.new KF⟩
                case measure => simp [intOf]; omega
              · by_cases hk3 : kk = 3
                · subst hk3
                  go_upto_region 10 with (fail)
                  rw [← hnb]
                  refine gen_world (fun V => RW 44 V nb (gpA ⟨3, sl, er⟩) ∧ Kept [] wr V) ?_ ?_
                  · rw [hnb]; exact ⟨RW.new _ _ _, (Kept.refl [] wr).alloc _⟩
                  have nle : wr.heap.size ≤ nb := by omega
                  clear hnb t0 t1 t2
                  rintro V1 ⟨N1, KV1⟩
                  have HX1 := hidOf (HX.out.new KV1)
                  clear HX KV1 nle
                  have HX := HX1
                  clear HX1
                  have d0 := cell_of_blk N1 (i := 0) (v := .int .i64 3) rfl
                  have d1 := cell_of_blk N1 (i := 1) (v := .int .i64 sl) rfl
                  have d2 := cell_of_blk N1 (i := 2) (v := .int .u64 er) rfl
                  obtain ⟨AC, hAC⟩ : ∃ AC, acV cs 4 0 0 0 1 = AC := ⟨_, rfl⟩
                  obtain ⟨CC, hCC⟩ : ∃ CC, (clV cs 4 0 0 1) = CC := ⟨_, rfl⟩
                  have HCC : Hid (CC.length = n) := hidOf (by rw [← hCC, clV_len]; exact HX.out.len)
                  have nn : ¬ nb = b ∧ ¬ nb = p ∧ ¬ nb = r := ⟨rw_ne N1 HX.out.gb (by decide), rw_ne N1 HX.out.mm.bk.st (by decide), rw_ne N1 HX.out.mm.bk.row (by decide)⟩
                  have ST := hidOf ((mtick_any m p r c cs cnt a _ HX.out.mm HX.out.n0 (by have := HX.out.n1; omega)).mono fun e w' hh => And.intro hh.1 (And.intro (HX.out.mid (hh.2.2.weaken (by simp)) (HX.out.gb.kept hh.2.2 (by have := HX.out.gb.nm HX.out.mm; simp; omega)) hh.2.1) (N1.kept hh.2.2 (by simp; omega))))
                  rw [hAC, hCC] at ST
                  clear nn N1
                  go_wp2_with fail
                  refine ST.out.mono ?_
                  rintro e w4 ⟨rfl, JX, N4⟩
                  have HJ := hidOf JX
                  clear JX ST d0 d1 d2
                  have RF := hidOf (qtick_any c gg cs cg cnt a w4 HJ.out.row (by rw [HX.out.len]; omega) HX.out.n0 (by have := HX.out.n1; omega))
                  rw [hAC, hCC, HX.out.len] at RF
                  clear hAC hCC
                  have RF2 : Hid (Calls Tryd.prog 19 #[.agg (rmA c (some ⟨gg, 0, none⟩) n cg cnt a)] w4 fun e w' => ∃ g' c', e = .returned (.tuple #[.agg (rmA c (some ⟨g', 0, none⟩) n c' (cnt + 1) AC), .int .u64 AC.o]) ∧ (g' = gg ∨ w4.heap.size ≤ g') ∧ RowR w' g' CC c' ∧ Kept [] w4 w') := RF.out
                  clear RF
                  have d1 := cell_of_blk N4 (i := 1) (v := .int .i64 sl) rfl
                  have d2 := cell_of_blk N4 (i := 2) (v := .int .u64 er) rfl
                  go_wp2_with (first | ((with_reducible change wpList _ _ _ (Oper.mk _ (Op.load 35 _) _ _ _ _ :: _) _ _); refine wpList_load_rw 35 isT_rm rfl (.tmp 8) rfl qm rfl (rmA c (some ⟨gg, 0, none⟩) n cg cnt a) rfl HJ.out.rm ?_))
                  refine RF2.out.mono ?_
                  rintro e w5 ⟨g3, c3, rfl, h2, R5, K5⟩
                  obtain ⟨-, -, -, nqq⟩ := HX.out.ne
                  clear RF2 d1 d2 N4
                  have q7 := HJ.out.rg.kept K5 (by simp)
                  have q8 := HJ.out.rm.kept K5 (by simp)
                  go_upto_region 23 with (first | ((with_reducible change wpList _ _ _ (Oper.mk _ (Op.store 35 _ _) _ _ _ _ :: _) _ _); refine wpList_store_rw 35 isT_rm rfl (.tmp 8) (.tmp 110) rfl qm (rmA c (some ⟨g3, 0, none⟩) n c3 (cnt + 1) AC) rfl rfl rfl (rm_one _ _ _ _ _ _) _ q8 rfl ?_))
                  refine gen_world (fun V => RW 35 V qm (rmA c (some ⟨g3, 0, none⟩) n c3 (cnt + 1) AC) ∧ RW 42 V qh (rgA g) ∧ Kept [qm, qh] w5 V) ⟨q8.row _, q7.rowOther _ (fun e => nqq e.symm), (Kept.refl [qm, qh] w5).setRow (b := qm) (Or.inl (by simp)) _⟩ ?_
                  rintro V6 ⟨D6, B6, K6⟩
                  have FN := hidOf (HX.out.step HJ.out K5 R5 h2 K6 D6 B6 HX.out.t HX.out.u0 HX.out.u1 HCC.out)
                  clear HX HJ K5 R5 h2 K6 D6 B6 q7 q8 nqq HCC
                  obtain ⟨g3', hg3⟩ : ∃ g3', g3' = g := ⟨_, rfl⟩
                  obtain ⟨cs3, hcs3⟩ : ∃ cs3, cs3 = CC := ⟨_, rfl⟩
                  obtain ⟨cn3, hcn3⟩ : ∃ cn3, cn3 = cnt + 1 := ⟨_, rfl⟩
                  obtain ⟨a3, ha3⟩ : ∃ a3, a3 = AC := ⟨_, rfl⟩
                  rw [← hg3, ← hcs3, ← hcn3, ← ha3] at FN
                  clear hg3 hcs3 hcn3
                  clear ha3
                  have PB6 := HPB.out.kept FN.out.kp (by simp)
                  have HSM : Hid (∀ W2, Kept [] V6.drew W2 → Calls Tryd.prog 20 #[.pointer (some ⟨m, 0, none⟩), .agg (rmA c (some ⟨g3, 0, none⟩) n c3 cn3 a3)] W2 fun e w' => e = .returned (.bool true) ∧ Kept [] W2 w') := fun W2 kk => ksame_any m p r g3 c c _ _ _ n c3 W2 ((FN.out.new ((Kept.refl [] V6).drew.trans kk)).mm) ((FN.out.new ((Kept.refl [] V6).drew.trans kk)).row) FN.out.len.symm (by omega)
                  have HLT : Hid (∀ W2, Kept [] V6.drew W2 → Calls Tryd.prog 21 #[.pointer (some ⟨b, 0, none⟩)] W2 fun e w' => e = .returned (.int .u64 g3'.l) ∧ Kept [] W2 w') := fun W2 kk => (glatest_any b g3' W2 (FN.out.new ((Kept.refl [] V6).drew.trans kk)).gb).mono fun e w' hh => ⟨hh.1, by rw [hh.2]; exact Kept.refl _ _⟩
                  have HTH : Hid (∀ W2, Kept [] V6.drew W2 → Calls Tryd.prog 22 #[.pointer (some ⟨b, 0, none⟩)] W2 fun e w' => e = .returned (.int .i64 th) ∧ Kept [] W2 w') := fun W2 kk => (gthread_any b g3' W2 (FN.out.new ((Kept.refl [] V6).drew.trans kk)).gb).mono fun e w' hh => ⟨by rw [← FN.out.t]; exact hh.1, by rw [hh.2]; exact Kept.refl _ _⟩
                  have F5 : F3 V6.drew qm qh (q + 1) (rmA c (some ⟨g3, 0, none⟩) n c3 cn3 a3) (rgA g3') (plA th lo k lc) := ⟨FN.out.rm, FN.out.rg, PB6⟩
                  clear PB6
                  refine wp_region_held_drew (S := fun w' => F3 w' qm qh (q + 1) (rmA c (some ⟨g3, 0, none⟩) n c3 cn3 a3) (rgA g3') (plA th lo k lc)) (by kernel_rfl) F5 (fun hS => ?_)
                  replace FN := hidOf (FN.out.new (Kept.refl [] V6).drew)
                  generalize V6.drew = V5 at F5 HSM HLT HTH FN hS ⊢
                  refine wpAnyH_take (i := 0) (oi := { dst := some 112, op := Op.move (Operand.tmp 14), type := 29, pos := "law.go:60", after := #[], guard := none }) (v := Value.int .u64 0) rfl (by kernel_rfl) (by kernel_rfl) (by kernel_rfl) (fun _ _ _ h => h) (Or.inl ⟨rfl, fun _ _ => by kernel_rfl⟩) hS ?_
                  try simp only [Act.put, List.setIfInBounds_toArray, List.set_cons_zero, List.set_cons_succ]
                  refine wpAnyH_take (i := 1) (oi := { dst := some 113, op := Op.move (Operand.tmp 16), type := 29, pos := "law.go:60", after := #[], guard := none }) (v := Value.int .u64 0) rfl (by kernel_rfl) (by kernel_rfl) (by kernel_rfl) (fun _ _ _ h => h) (Or.inl ⟨rfl, fun _ _ => by kernel_rfl⟩) hS ?_
                  try simp only [Act.put, List.setIfInBounds_toArray, List.set_cons_zero, List.set_cons_succ]
                  refine wpAnyH_take (i := 2) (oi := { dst := some 114, op := Op.binOp BinOp.neq 29 (Operand.tmp 112) (Operand.tmp 113) 29, type := 4, pos := "law.go:60", after := #[{ on := 0, ground := Ground.data }, { on := 1, ground := Ground.data }], guard := none }) (v := Value.bool false) rfl (by kernel_rfl) (by kernel_rfl) (by kernel_rfl) (fun _ _ _ h => h) (Or.inl ⟨rfl, fun _ _ => by go_simp⟩) hS ?_
                  try simp only [Act.put, List.setIfInBounds_toArray, List.set_cons_zero, List.set_cons_succ]
                  refine wpAnyH_take (i := 3) (oi := { dst := some 115, op := Op.move (Operand.tmp 114), type := 4, pos := "law.go:60", after := #[{ on := 2, ground := Ground.data }], guard := none }) (v := Value.bool false) rfl (by kernel_rfl) (by kernel_rfl) (by kernel_rfl) (fun _ _ _ h => h) (Or.inl ⟨rfl, fun _ _ => by kernel_rfl⟩) hS ?_
                  try simp only [Act.put, List.setIfInBounds_toArray, List.set_cons_zero, List.set_cons_succ]
                  refine wpAnyH_take (i := 4) (oi := { dst := some 116, op := Op.move (Operand.tmp 15), type := 4, pos := "law.go:60", after := #[{ on := 3, ground := Ground.guard }], guard := some (3, false) }) (v := Value.bool false) rfl (by kernel_rfl) (by kernel_rfl) (by kernel_rfl) (fun _ _ _ h => h) (Or.inl ⟨rfl, fun _ _ => by kernel_rfl⟩) hS ?_
                  try simp only [Act.put, List.setIfInBounds_toArray, List.set_cons_zero, List.set_cons_succ]
                  refine wpAnyH_take (i := 5) (oi := { dst := some 117, op := Op.move (Operand.tmp 17), type := 4, pos := "law.go:60", after := #[{ on := 3, ground := Ground.guard }], guard := some (3, false) }) (v := Value.bool false) rfl (by kernel_rfl) (by kernel_rfl) (by kernel_rfl) (fun _ _ _ h => h) (Or.inl ⟨rfl, fun _ _ => by kernel_rfl⟩) hS ?_
                  try simp only [Act.put, List.setIfInBounds_toArray, List.set_cons_zero, List.set_cons_succ]
                  refine wpAnyH_take (i := 6) (oi := { dst := some 118, op := Op.binOp BinOp.neq 4 (Operand.tmp 116) (Operand.tmp 117) 4, type := 4, pos := "law.go:60", after := #[{ on := 4, ground := Ground.data }, { on := 5, ground := Ground.data }, { on := 3, ground := Ground.guard }], guard := some (3, false) }) (v := Value.bool false) rfl (by kernel_rfl) (by kernel_rfl) (by kernel_rfl) (fun _ _ _ h => h) (Or.inl ⟨rfl, fun _ _ => by go_simp⟩) hS ?_
                  try simp only [Act.put, List.setIfInBounds_toArray, List.set_cons_zero, List.set_cons_succ]
                  refine wpAnyH_take (i := 7) (oi := { dst := some 119, op := Op.pick (Operand.tmp 115) (Operand.const (Value.bool true)) (Operand.tmp 118), type := 4, pos := "law.go:60", after := #[{ on := 3, ground := Ground.data }, { on := 6, ground := Ground.data }], guard := none }) (v := Value.bool false) rfl (by kernel_rfl) (by kernel_rfl) (by kernel_rfl) (fun _ _ _ h => h) (Or.inl ⟨rfl, fun _ _ => by kernel_rfl⟩) hS ?_
                  try simp only [Act.put, List.setIfInBounds_toArray, List.set_cons_zero, List.set_cons_succ]
                  refine wpAnyH_take (i := 8) (oi := { dst := some 120, op := Op.move (Operand.tmp 119), type := 4, pos := "law.go:60", after := #[{ on := 7, ground := Ground.data }, { on := 3, ground := Ground.chain }], guard := none }) (v := Value.bool false) rfl (by kernel_rfl) (by kernel_rfl) (by kernel_rfl) (fun _ _ _ h => h) (Or.inl ⟨rfl, fun _ _ => by kernel_rfl⟩) hS ?_
                  try simp only [Act.put, List.setIfInBounds_toArray, List.set_cons_zero, List.set_cons_succ]
                  refine wpAnyH_take (i := 9) (oi := { dst := some 121, op := Op.move (Operand.tmp 7), type := 28, pos := "law.go:60", after := #[{ on := 8, ground := Ground.guard }], guard := some (8, false) }) (v := Value.pointer (some ⟨m, 0, none⟩)) rfl (by kernel_rfl) (by kernel_rfl) (by kernel_rfl) (fun _ _ _ h => h) (Or.inl ⟨rfl, fun _ _ => by kernel_rfl⟩) hS ?_
                  try simp only [Act.put, List.setIfInBounds_toArray, List.set_cons_zero, List.set_cons_succ]
                  refine wpAnyH_take (i := 10) (oi := { dst := some 122, op := Op.load 35 (Operand.tmp 8), type := 35, pos := "law.go:60", after := #[{ on := 8, ground := Ground.guard }], guard := some (8, false) }) (v := Value.agg (rmA c (some ⟨g3, 0, none⟩) n c3 cn3 a3)) rfl (by kernel_rfl) (by kernel_rfl) (by kernel_rfl) (fun _ _ _ h => h) (yieldsIf_load_rw rfl 35 isT_rm (.tmp 8) rfl qm rfl (rmA c (some ⟨g3, 0, none⟩) n c3 cn3 a3) rfl (fun _ h => h.fa)) hS ?_
                  try simp only [Act.put, List.setIfInBounds_toArray, List.set_cons_zero, List.set_cons_succ]
                  refine wpAnyH_ready (rs := [11]) (by kernel_rfl) (by simp) ?_
                  refine AllReadyH.cons (o := { dst := some 123, op := Op.call { callee := Callee.value (Operand.func 20), args := #[Operand.tmp 121, Operand.tmp 122], argTypes := #[28, 35] }, type := 4, pos := "law.go:60", after := #[{ on := 9, ground := Ground.data }, { on := 10, ground := Ground.data }, { on := 8, ground := Ground.chain }, { on := 8, ground := Ground.guard }], guard := some (8, false) }) rfl (fun K hK => ?_) AllReadyH.nil
                  rw [if_pos (by rfl)]
                  refine wp_calls 20 #[.pointer (some ⟨m, 0, none⟩), .agg (rmA c (some ⟨g3, 0, none⟩) n c3 cn3 a3)] (by kernel_rfl) (fun v U => v = .bool true ∧ Kept [] V5 U) ((HSM.out _ (Kept.refl [] V5)).mono (fun e w' hh => ⟨_, hh.1, rfl, hh.2⟩)) ?_
                  rintro _ u11 ⟨rfl, J11⟩
                  have j11 := (Kept.refl [] V5).trans J11
                  have f11 := F5.new J11
                  try simp only [Act.put, List.setIfInBounds_toArray, List.set_cons_zero, List.set_cons_succ]
                  refine hK.out _ _ (f11) (fun hS => ?_)
                  clear hK K
                  refine wpAnyH_take (i := 12) (oi := { dst := some 124, op := Op.unOp UnOp.not 4 (Operand.tmp 123), type := 4, pos := "law.go:60", after := #[{ on := 11, ground := Ground.data }, { on := 8, ground := Ground.guard }], guard := some (8, false) }) (v := Value.bool false) rfl (by kernel_rfl) (by kernel_rfl) (by kernel_rfl) (fun _ _ _ h => h) (Or.inl ⟨rfl, fun _ _ => by kernel_rfl⟩) hS ?_
                  try simp only [Act.put, List.setIfInBounds_toArray, List.set_cons_zero, List.set_cons_succ]
                  refine wpAnyH_take (i := 13) (oi := { dst := some 125, op := Op.pick (Operand.tmp 120) (Operand.const (Value.bool true)) (Operand.tmp 124), type := 4, pos := "law.go:60", after := #[{ on := 8, ground := Ground.data }, { on := 12, ground := Ground.data }], guard := none }) (v := Value.bool false) rfl (by kernel_rfl) (by kernel_rfl) (by kernel_rfl) (fun _ _ _ h => h) (Or.inl ⟨rfl, fun _ _ => by kernel_rfl⟩) hS ?_
                  try simp only [Act.put, List.setIfInBounds_toArray, List.set_cons_zero, List.set_cons_succ]
                  refine wpAnyH_take (i := 14) (oi := { dst := some 126, op := Op.move (Operand.tmp 125), type := 4, pos := "law.go:60", after := #[{ on := 13, ground := Ground.data }, { on := 11, ground := Ground.chain }], guard := none }) (v := Value.bool false) rfl (by kernel_rfl) (by kernel_rfl) (by kernel_rfl) (fun _ _ _ h => h) (Or.inl ⟨rfl, fun _ _ => by kernel_rfl⟩) hS ?_
                  try simp only [Act.put, List.setIfInBounds_toArray, List.set_cons_zero, List.set_cons_succ]
                  refine wpAnyH_take (i := 15) (oi := { dst := some 127, op := Op.move (Operand.tmp 10), type := 38, pos := "law.go:60", after := #[{ on := 14, ground := Ground.guard }], guard := some (14, false) }) (v := Value.pointer (some ⟨b, 0, none⟩)) rfl (by kernel_rfl) (by kernel_rfl) (by kernel_rfl) (fun _ _ _ h => h) (Or.inl ⟨rfl, fun _ _ => by kernel_rfl⟩) hS ?_
                  try simp only [Act.put, List.setIfInBounds_toArray, List.set_cons_zero, List.set_cons_succ]
                  refine wpAnyH_take (i := 16) (oi := { dst := some 128, op := Op.nilCheck (Operand.tmp 127), type := 0, pos := "law.go:60", after := #[{ on := 15, ground := Ground.data }, { on := 14, ground := Ground.guard }], guard := some (14, false) }) (v := Value.pointer (some ⟨b, 0, none⟩)) rfl (by kernel_rfl) (by kernel_rfl) (by kernel_rfl) (fun _ _ _ h => h) (Or.inl ⟨rfl, fun _ _ => by kernel_rfl⟩) hS ?_
                  try simp only [Act.put, List.setIfInBounds_toArray, List.set_cons_zero, List.set_cons_succ]
                  refine wpAnyH_take (i := 17) (oi := { dst := some 129, op := Op.fieldAddr 62 (Operand.tmp 128) 0, type := 0, pos := "law.go:60", after := #[{ on := 16, ground := Ground.data }, { on := 14, ground := Ground.guard }], guard := some (14, false) }) (v := Value.pointer (some ⟨b, 0, none⟩)) rfl (by kernel_rfl) (by kernel_rfl) (by kernel_rfl) (fun _ _ _ h => h) (Or.inl ⟨rfl, fun _ _ => by kernel_rfl⟩) hS ?_
                  try simp only [Act.put, List.setIfInBounds_toArray, List.set_cons_zero, List.set_cons_succ]
                  refine wpAnyH_take (i := 19) (oi := { dst := some 131, op := Op.fieldAddr 42 (Operand.tmp 11) 1, type := 0, pos := "law.go:60", after := #[{ on := 14, ground := Ground.guard }], guard := some (14, false) }) (v := Value.pointer (some ⟨qh, 1, none⟩)) rfl (by kernel_rfl) (by kernel_rfl) (by kernel_rfl) (fun _ _ _ h => h) (Or.inl ⟨rfl, fun _ _ => by kernel_rfl⟩) hS ?_
                  try simp only [Act.put, List.setIfInBounds_toArray, List.set_cons_zero, List.set_cons_succ]
                  refine wpAnyH_take (i := 20) (oi := { dst := some 132, op := Op.load 29 (Operand.tmp 131), type := 29, pos := "law.go:60", after := #[{ on := 19, ground := Ground.data }, { on := 14, ground := Ground.guard }], guard := some (14, false) }) (v := Value.int .u64 g3'.l) rfl (by kernel_rfl) (by kernel_rfl) (by kernel_rfl) (fun _ _ _ h => h) (Or.inl ⟨rfl, fun w hSw => by have z := cell_of_blk hSw.fb (i := 1) (v := .int .u64 g3'.l) rfl; go_simp⟩) hS ?_
                  try simp only [Act.put, List.setIfInBounds_toArray, List.set_cons_zero, List.set_cons_succ]
                  refine wpAnyH_ready (rs := [18]) (by kernel_rfl) (by simp) ?_
                  refine AllReadyH.cons (o := { dst := some 130, op := Op.call { callee := Callee.value (Operand.func 21), args := #[Operand.tmp 129], argTypes := #[60] }, type := 29, pos := "law.go:60", after := #[{ on := 17, ground := Ground.data }, { on := 14, ground := Ground.chain }, { on := 14, ground := Ground.guard }], guard := some (14, false) }) rfl (fun K hK => ?_) AllReadyH.nil
                  rw [if_pos (by rfl)]
                  refine wp_calls 21 #[.pointer (some ⟨b, 0, none⟩)] (by kernel_rfl) (fun v U => v = .int .u64 g3'.l ∧ Kept [] u11 U) ((HLT.out _ j11).mono (fun e w' hh => ⟨_, hh.1, rfl, hh.2⟩)) ?_
                  rintro _ u18 ⟨rfl, J18⟩
                  have j18 := j11.trans J18
                  have f18 := f11.new J18
                  try simp only [Act.put, List.setIfInBounds_toArray, List.set_cons_zero, List.set_cons_succ]
                  refine hK.out _ _ (f18) (fun hS => ?_)
                  clear hK K
                  refine wpAnyH_take (i := 21) (oi := { dst := some 133, op := Op.binOp BinOp.neq 29 (Operand.tmp 130) (Operand.tmp 132) 29, type := 4, pos := "law.go:60", after := #[{ on := 18, ground := Ground.data }, { on := 20, ground := Ground.data }, { on := 14, ground := Ground.guard }], guard := some (14, false) }) (v := Value.bool false) rfl (by kernel_rfl) (by kernel_rfl) (by kernel_rfl) (fun _ _ _ h => h) (Or.inl ⟨rfl, fun _ _ => by go_simp⟩) hS ?_
                  try simp only [Act.put, List.setIfInBounds_toArray, List.set_cons_zero, List.set_cons_succ]
                  refine wpAnyH_take (i := 22) (oi := { dst := some 134, op := Op.pick (Operand.tmp 126) (Operand.const (Value.bool true)) (Operand.tmp 133), type := 4, pos := "law.go:60", after := #[{ on := 14, ground := Ground.data }, { on := 21, ground := Ground.data }], guard := none }) (v := Value.bool false) rfl (by kernel_rfl) (by kernel_rfl) (by kernel_rfl) (fun _ _ _ h => h) (Or.inl ⟨rfl, fun _ _ => by kernel_rfl⟩) hS ?_
                  try simp only [Act.put, List.setIfInBounds_toArray, List.set_cons_zero, List.set_cons_succ]
                  refine wpAnyH_take (i := 23) (oi := { dst := some 135, op := Op.move (Operand.tmp 134), type := 4, pos := "law.go:60", after := #[{ on := 22, ground := Ground.data }, { on := 18, ground := Ground.chain }], guard := none }) (v := Value.bool false) rfl (by kernel_rfl) (by kernel_rfl) (by kernel_rfl) (fun _ _ _ h => h) (Or.inl ⟨rfl, fun _ _ => by kernel_rfl⟩) hS ?_
                  try simp only [Act.put, List.setIfInBounds_toArray, List.set_cons_zero, List.set_cons_succ]
                  refine wpAnyH_take (i := 24) (oi := { dst := some 136, op := Op.move (Operand.tmp 10), type := 38, pos := "law.go:60", after := #[{ on := 23, ground := Ground.guard }], guard := some (23, false) }) (v := Value.pointer (some ⟨b, 0, none⟩)) rfl (by kernel_rfl) (by kernel_rfl) (by kernel_rfl) (fun _ _ _ h => h) (Or.inl ⟨rfl, fun _ _ => by kernel_rfl⟩) hS ?_
                  try simp only [Act.put, List.setIfInBounds_toArray, List.set_cons_zero, List.set_cons_succ]
                  refine wpAnyH_take (i := 26) (oi := { dst := some 138, op := Op.fieldAddr 27 (Operand.tmp 5) 0, type := 0, pos := "law.go:60", after := #[{ on := 23, ground := Ground.guard }], guard := some (23, false) }) (v := Value.pointer (some ⟨q + 1, 0, none⟩)) rfl (by kernel_rfl) (by kernel_rfl) (by kernel_rfl) (fun _ _ _ h => h) (Or.inl ⟨rfl, fun _ _ => by kernel_rfl⟩) hS ?_
                  try simp only [Act.put, List.setIfInBounds_toArray, List.set_cons_zero, List.set_cons_succ]
                  refine wpAnyH_take (i := 27) (oi := { dst := some 139, op := Op.load 3 (Operand.tmp 138), type := 3, pos := "law.go:60", after := #[{ on := 26, ground := Ground.data }, { on := 23, ground := Ground.guard }], guard := some (23, false) }) (v := Value.int .i64 th) rfl (by kernel_rfl) (by kernel_rfl) (by kernel_rfl) (fun _ _ _ h => h) (Or.inl ⟨rfl, fun w hSw => by have z := cell_of_blk hSw.fc (i := 0) (v := .int .i64 th) rfl; go_simp⟩) hS ?_
                  try simp only [Act.put, List.setIfInBounds_toArray, List.set_cons_zero, List.set_cons_succ]
                  refine wpAnyH_ready (rs := [25]) (by kernel_rfl) (by simp) ?_
                  refine AllReadyH.cons (o := { dst := some 137, op := Op.call { callee := Callee.value (Operand.func 22), args := #[Operand.tmp 136], argTypes := #[38] }, type := 3, pos := "law.go:60", after := #[{ on := 24, ground := Ground.data }, { on := 23, ground := Ground.chain }, { on := 23, ground := Ground.guard }], guard := some (23, false) }) rfl (fun K hK => ?_) AllReadyH.nil
                  rw [if_pos (by rfl)]
                  refine wp_calls 22 #[.pointer (some ⟨b, 0, none⟩)] (by kernel_rfl) (fun v U => v = .int .i64 th ∧ Kept [] u18 U) ((HTH.out _ j18).mono (fun e w' hh => ⟨_, hh.1, rfl, hh.2⟩)) ?_
                  rintro _ u25 ⟨rfl, J25⟩
                  have j25 := j18.trans J25
                  have f25 := f18.new J25
                  try simp only [Act.put, List.setIfInBounds_toArray, List.set_cons_zero, List.set_cons_succ]
                  refine hK.out _ _ (f25) (fun hS => ?_)
                  clear hK K
                  refine wpAnyH_take (i := 28) (oi := { dst := some 140, op := Op.binOp BinOp.neq 3 (Operand.tmp 137) (Operand.tmp 139) 3, type := 4, pos := "law.go:60", after := #[{ on := 25, ground := Ground.data }, { on := 27, ground := Ground.data }, { on := 23, ground := Ground.guard }], guard := some (23, false) }) (v := Value.bool false) rfl (by kernel_rfl) (by kernel_rfl) (by kernel_rfl) (fun _ _ _ h => h) (Or.inl ⟨rfl, fun _ _ => by go_simp⟩) hS ?_
                  try simp only [Act.put, List.setIfInBounds_toArray, List.set_cons_zero, List.set_cons_succ]
                  refine wpAnyH_take (i := 29) (oi := { dst := some 141, op := Op.pick (Operand.tmp 135) (Operand.const (Value.bool true)) (Operand.tmp 140), type := 4, pos := "law.go:60", after := #[{ on := 23, ground := Ground.data }, { on := 28, ground := Ground.data }], guard := none }) (v := Value.bool false) rfl (by kernel_rfl) (by kernel_rfl) (by kernel_rfl) (fun _ _ _ h => h) (Or.inl ⟨rfl, fun _ _ => by kernel_rfl⟩) hS ?_
                  try simp only [Act.put, List.setIfInBounds_toArray, List.set_cons_zero, List.set_cons_succ]
                  refine wpAnyH_done (by kernel_rfl) ?_ _
                  have KF := j25
                  clear hS HSM HLT HTH f11 f18 f25 J11 J18 J25 j11 j18
                  go_wp2
                  go_roundw
                  case rel => exact ⟨j + 1, g3', cs3, cn3, a3, g3, c3, by omega, by go_num, FN.out.new KF⟩
                  case measure => simp [intOf]; omega
                · go_upto_region 10 with (fail)
                  rw [← hnb]
                  refine gen_world (fun V => RW 44 V nb (gpA ⟨kk, sl, er⟩) ∧ Kept [] wr V) ?_ ?_
                  · rw [hnb]; exact ⟨RW.new _ _ _, (Kept.refl [] wr).alloc _⟩
                  have nle : wr.heap.size ≤ nb := by omega
                  clear hnb t0 t1 t2
                  rintro V1 ⟨N1, KV1⟩
                  have HX1 := hidOf (HX.out.new KV1)
                  clear HX KV1 nle
                  have HX := HX1
                  clear HX1
                  have d0 := cell_of_blk N1 (i := 0) (v := .int .i64 kk) rfl
                  have d1 := cell_of_blk N1 (i := 1) (v := .int .i64 sl) rfl
                  have d2 := cell_of_blk N1 (i := 2) (v := .int .u64 er) rfl
                  have FN := hidOf HX.out.next
                  clear HX N1
                  go_upto_region 23 with (fail)
                  clear d0 d1 d2
                  obtain ⟨V6, hV6⟩ : ∃ V6, V6 = V1 := ⟨_, rfl⟩
                  rw [← hV6] at FN ⊢
                  clear hV6
                  obtain ⟨g3, hgg3⟩ : ∃ g3, g3 = gg := ⟨_, rfl⟩
                  obtain ⟨c3, hcg3⟩ : ∃ c3, c3 = cg := ⟨_, rfl⟩
                  rw [← hgg3, ← hcg3] at FN
                  clear hgg3 hcg3
                  obtain ⟨g3', hg3⟩ : ∃ g3', g3' = g := ⟨_, rfl⟩
                  obtain ⟨cs3, hcs3⟩ : ∃ cs3, cs3 = cs := ⟨_, rfl⟩
                  obtain ⟨cn3, hcn3⟩ : ∃ cn3, cn3 = cnt := ⟨_, rfl⟩
                  obtain ⟨a3, ha3⟩ : ∃ a3, a3 = a := ⟨_, rfl⟩
                  rw [← hg3, ← hcs3, ← hcn3, ← ha3] at FN
                  clear hg3 hcs3 hcn3
                  clear ha3
                  have PB6 := HPB.out.kept FN.out.kp (by simp)
                  have HSM : Hid (∀ W2, Kept [] V6.drew W2 → Calls Tryd.prog 20 #[.pointer (some ⟨m, 0, none⟩), .agg (rmA c (some ⟨g3, 0, none⟩) n c3 cn3 a3)] W2 fun e w' => e = .returned (.bool true) ∧ Kept [] W2 w') := fun W2 kk => ksame_any m p r g3 c c _ _ _ n c3 W2 ((FN.out.new ((Kept.refl [] V6).drew.trans kk)).mm) ((FN.out.new ((Kept.refl [] V6).drew.trans kk)).row) FN.out.len.symm (by omega)
                  have HLT : Hid (∀ W2, Kept [] V6.drew W2 → Calls Tryd.prog 21 #[.pointer (some ⟨b, 0, none⟩)] W2 fun e w' => e = .returned (.int .u64 g3'.l) ∧ Kept [] W2 w') := fun W2 kk => (glatest_any b g3' W2 (FN.out.new ((Kept.refl [] V6).drew.trans kk)).gb).mono fun e w' hh => ⟨hh.1, by rw [hh.2]; exact Kept.refl _ _⟩
                  have HTH : Hid (∀ W2, Kept [] V6.drew W2 → Calls Tryd.prog 22 #[.pointer (some ⟨b, 0, none⟩)] W2 fun e w' => e = .returned (.int .i64 th) ∧ Kept [] W2 w') := fun W2 kk => (gthread_any b g3' W2 (FN.out.new ((Kept.refl [] V6).drew.trans kk)).gb).mono fun e w' hh => ⟨by rw [← FN.out.t]; exact hh.1, by rw [hh.2]; exact Kept.refl _ _⟩
                  have F5 : F3 V6.drew qm qh (q + 1) (rmA c (some ⟨g3, 0, none⟩) n c3 cn3 a3) (rgA g3') (plA th lo k lc) := ⟨FN.out.rm, FN.out.rg, PB6⟩
                  clear PB6
                  refine wp_region_held_drew (S := fun w' => F3 w' qm qh (q + 1) (rmA c (some ⟨g3, 0, none⟩) n c3 cn3 a3) (rgA g3') (plA th lo k lc)) (by kernel_rfl) F5 (fun hS => ?_)
                  replace FN := hidOf (FN.out.new (Kept.refl [] V6).drew)
                  generalize V6.drew = V5 at F5 HSM HLT HTH FN hS ⊢
                  refine wpAnyH_take (i := 0) (oi := { dst := some 112, op := Op.move (Operand.tmp 14), type := 29, pos := "law.go:60", after := #[], guard := none }) (v := Value.int .u64 0) rfl (by kernel_rfl) (by kernel_rfl) (by kernel_rfl) (fun _ _ _ h => h) (Or.inl ⟨rfl, fun _ _ => by kernel_rfl⟩) hS ?_
                  try simp only [Act.put, List.setIfInBounds_toArray, List.set_cons_zero, List.set_cons_succ]
                  refine wpAnyH_take (i := 1) (oi := { dst := some 113, op := Op.move (Operand.tmp 16), type := 29, pos := "law.go:60", after := #[], guard := none }) (v := Value.int .u64 0) rfl (by kernel_rfl) (by kernel_rfl) (by kernel_rfl) (fun _ _ _ h => h) (Or.inl ⟨rfl, fun _ _ => by kernel_rfl⟩) hS ?_
                  try simp only [Act.put, List.setIfInBounds_toArray, List.set_cons_zero, List.set_cons_succ]
                  refine wpAnyH_take (i := 2) (oi := { dst := some 114, op := Op.binOp BinOp.neq 29 (Operand.tmp 112) (Operand.tmp 113) 29, type := 4, pos := "law.go:60", after := #[{ on := 0, ground := Ground.data }, { on := 1, ground := Ground.data }], guard := none }) (v := Value.bool false) rfl (by kernel_rfl) (by kernel_rfl) (by kernel_rfl) (fun _ _ _ h => h) (Or.inl ⟨rfl, fun _ _ => by go_simp⟩) hS ?_
                  try simp only [Act.put, List.setIfInBounds_toArray, List.set_cons_zero, List.set_cons_succ]
                  refine wpAnyH_take (i := 3) (oi := { dst := some 115, op := Op.move (Operand.tmp 114), type := 4, pos := "law.go:60", after := #[{ on := 2, ground := Ground.data }], guard := none }) (v := Value.bool false) rfl (by kernel_rfl) (by kernel_rfl) (by kernel_rfl) (fun _ _ _ h => h) (Or.inl ⟨rfl, fun _ _ => by kernel_rfl⟩) hS ?_
                  try simp only [Act.put, List.setIfInBounds_toArray, List.set_cons_zero, List.set_cons_succ]
                  refine wpAnyH_take (i := 4) (oi := { dst := some 116, op := Op.move (Operand.tmp 15), type := 4, pos := "law.go:60", after := #[{ on := 3, ground := Ground.guard }], guard := some (3, false) }) (v := Value.bool false) rfl (by kernel_rfl) (by kernel_rfl) (by kernel_rfl) (fun _ _ _ h => h) (Or.inl ⟨rfl, fun _ _ => by kernel_rfl⟩) hS ?_
                  try simp only [Act.put, List.setIfInBounds_toArray, List.set_cons_zero, List.set_cons_succ]
                  refine wpAnyH_take (i := 5) (oi := { dst := some 117, op := Op.move (Operand.tmp 17), type := 4, pos := "law.go:60", after := #[{ on := 3, ground := Ground.guard }], guard := some (3, false) }) (v := Value.bool false) rfl (by kernel_rfl) (by kernel_rfl) (by kernel_rfl) (fun _ _ _ h => h) (Or.inl ⟨rfl, fun _ _ => by kernel_rfl⟩) hS ?_
                  try simp only [Act.put, List.setIfInBounds_toArray, List.set_cons_zero, List.set_cons_succ]
                  refine wpAnyH_take (i := 6) (oi := { dst := some 118, op := Op.binOp BinOp.neq 4 (Operand.tmp 116) (Operand.tmp 117) 4, type := 4, pos := "law.go:60", after := #[{ on := 4, ground := Ground.data }, { on := 5, ground := Ground.data }, { on := 3, ground := Ground.guard }], guard := some (3, false) }) (v := Value.bool false) rfl (by kernel_rfl) (by kernel_rfl) (by kernel_rfl) (fun _ _ _ h => h) (Or.inl ⟨rfl, fun _ _ => by go_simp⟩) hS ?_
                  try simp only [Act.put, List.setIfInBounds_toArray, List.set_cons_zero, List.set_cons_succ]
                  refine wpAnyH_take (i := 7) (oi := { dst := some 119, op := Op.pick (Operand.tmp 115) (Operand.const (Value.bool true)) (Operand.tmp 118), type := 4, pos := "law.go:60", after := #[{ on := 3, ground := Ground.data }, { on := 6, ground := Ground.data }], guard := none }) (v := Value.bool false) rfl (by kernel_rfl) (by kernel_rfl) (by kernel_rfl) (fun _ _ _ h => h) (Or.inl ⟨rfl, fun _ _ => by kernel_rfl⟩) hS ?_
                  try simp only [Act.put, List.setIfInBounds_toArray, List.set_cons_zero, List.set_cons_succ]
                  refine wpAnyH_take (i := 8) (oi := { dst := some 120, op := Op.move (Operand.tmp 119), type := 4, pos := "law.go:60", after := #[{ on := 7, ground := Ground.data }, { on := 3, ground := Ground.chain }], guard := none }) (v := Value.bool false) rfl (by kernel_rfl) (by kernel_rfl) (by kernel_rfl) (fun _ _ _ h => h) (Or.inl ⟨rfl, fun _ _ => by kernel_rfl⟩) hS ?_
                  try simp only [Act.put, List.setIfInBounds_toArray, List.set_cons_zero, List.set_cons_succ]
                  refine wpAnyH_take (i := 9) (oi := { dst := some 121, op := Op.move (Operand.tmp 7), type := 28, pos := "law.go:60", after := #[{ on := 8, ground := Ground.guard }], guard := some (8, false) }) (v := Value.pointer (some ⟨m, 0, none⟩)) rfl (by kernel_rfl) (by kernel_rfl) (by kernel_rfl) (fun _ _ _ h => h) (Or.inl ⟨rfl, fun _ _ => by kernel_rfl⟩) hS ?_
                  try simp only [Act.put, List.setIfInBounds_toArray, List.set_cons_zero, List.set_cons_succ]
                  refine wpAnyH_take (i := 10) (oi := { dst := some 122, op := Op.load 35 (Operand.tmp 8), type := 35, pos := "law.go:60", after := #[{ on := 8, ground := Ground.guard }], guard := some (8, false) }) (v := Value.agg (rmA c (some ⟨g3, 0, none⟩) n c3 cn3 a3)) rfl (by kernel_rfl) (by kernel_rfl) (by kernel_rfl) (fun _ _ _ h => h) (yieldsIf_load_rw rfl 35 isT_rm (.tmp 8) rfl qm rfl (rmA c (some ⟨g3, 0, none⟩) n c3 cn3 a3) rfl (fun _ h => h.fa)) hS ?_
                  try simp only [Act.put, List.setIfInBounds_toArray, List.set_cons_zero, List.set_cons_succ]
                  refine wpAnyH_ready (rs := [11]) (by kernel_rfl) (by simp) ?_
                  refine AllReadyH.cons (o := { dst := some 123, op := Op.call { callee := Callee.value (Operand.func 20), args := #[Operand.tmp 121, Operand.tmp 122], argTypes := #[28, 35] }, type := 4, pos := "law.go:60", after := #[{ on := 9, ground := Ground.data }, { on := 10, ground := Ground.data }, { on := 8, ground := Ground.chain }, { on := 8, ground := Ground.guard }], guard := some (8, false) }) rfl (fun K hK => ?_) AllReadyH.nil
                  rw [if_pos (by rfl)]
                  refine wp_calls 20 #[.pointer (some ⟨m, 0, none⟩), .agg (rmA c (some ⟨g3, 0, none⟩) n c3 cn3 a3)] (by kernel_rfl) (fun v U => v = .bool true ∧ Kept [] V5 U) ((HSM.out _ (Kept.refl [] V5)).mono (fun e w' hh => ⟨_, hh.1, rfl, hh.2⟩)) ?_
                  rintro _ u11 ⟨rfl, J11⟩
                  have j11 := (Kept.refl [] V5).trans J11
                  have f11 := F5.new J11
                  try simp only [Act.put, List.setIfInBounds_toArray, List.set_cons_zero, List.set_cons_succ]
                  refine hK.out _ _ (f11) (fun hS => ?_)
                  clear hK K
                  refine wpAnyH_take (i := 12) (oi := { dst := some 124, op := Op.unOp UnOp.not 4 (Operand.tmp 123), type := 4, pos := "law.go:60", after := #[{ on := 11, ground := Ground.data }, { on := 8, ground := Ground.guard }], guard := some (8, false) }) (v := Value.bool false) rfl (by kernel_rfl) (by kernel_rfl) (by kernel_rfl) (fun _ _ _ h => h) (Or.inl ⟨rfl, fun _ _ => by kernel_rfl⟩) hS ?_
                  try simp only [Act.put, List.setIfInBounds_toArray, List.set_cons_zero, List.set_cons_succ]
                  refine wpAnyH_take (i := 13) (oi := { dst := some 125, op := Op.pick (Operand.tmp 120) (Operand.const (Value.bool true)) (Operand.tmp 124), type := 4, pos := "law.go:60", after := #[{ on := 8, ground := Ground.data }, { on := 12, ground := Ground.data }], guard := none }) (v := Value.bool false) rfl (by kernel_rfl) (by kernel_rfl) (by kernel_rfl) (fun _ _ _ h => h) (Or.inl ⟨rfl, fun _ _ => by kernel_rfl⟩) hS ?_
                  try simp only [Act.put, List.setIfInBounds_toArray, List.set_cons_zero, List.set_cons_succ]
                  refine wpAnyH_take (i := 14) (oi := { dst := some 126, op := Op.move (Operand.tmp 125), type := 4, pos := "law.go:60", after := #[{ on := 13, ground := Ground.data }, { on := 11, ground := Ground.chain }], guard := none }) (v := Value.bool false) rfl (by kernel_rfl) (by kernel_rfl) (by kernel_rfl) (fun _ _ _ h => h) (Or.inl ⟨rfl, fun _ _ => by kernel_rfl⟩) hS ?_
                  try simp only [Act.put, List.setIfInBounds_toArray, List.set_cons_zero, List.set_cons_succ]
                  refine wpAnyH_take (i := 15) (oi := { dst := some 127, op := Op.move (Operand.tmp 10), type := 38, pos := "law.go:60", after := #[{ on := 14, ground := Ground.guard }], guard := some (14, false) }) (v := Value.pointer (some ⟨b, 0, none⟩)) rfl (by kernel_rfl) (by kernel_rfl) (by kernel_rfl) (fun _ _ _ h => h) (Or.inl ⟨rfl, fun _ _ => by kernel_rfl⟩) hS ?_
                  try simp only [Act.put, List.setIfInBounds_toArray, List.set_cons_zero, List.set_cons_succ]
                  refine wpAnyH_take (i := 16) (oi := { dst := some 128, op := Op.nilCheck (Operand.tmp 127), type := 0, pos := "law.go:60", after := #[{ on := 15, ground := Ground.data }, { on := 14, ground := Ground.guard }], guard := some (14, false) }) (v := Value.pointer (some ⟨b, 0, none⟩)) rfl (by kernel_rfl) (by kernel_rfl) (by kernel_rfl) (fun _ _ _ h => h) (Or.inl ⟨rfl, fun _ _ => by kernel_rfl⟩) hS ?_
                  try simp only [Act.put, List.setIfInBounds_toArray, List.set_cons_zero, List.set_cons_succ]
                  refine wpAnyH_take (i := 17) (oi := { dst := some 129, op := Op.fieldAddr 62 (Operand.tmp 128) 0, type := 0, pos := "law.go:60", after := #[{ on := 16, ground := Ground.data }, { on := 14, ground := Ground.guard }], guard := some (14, false) }) (v := Value.pointer (some ⟨b, 0, none⟩)) rfl (by kernel_rfl) (by kernel_rfl) (by kernel_rfl) (fun _ _ _ h => h) (Or.inl ⟨rfl, fun _ _ => by kernel_rfl⟩) hS ?_
                  try simp only [Act.put, List.setIfInBounds_toArray, List.set_cons_zero, List.set_cons_succ]
                  refine wpAnyH_take (i := 19) (oi := { dst := some 131, op := Op.fieldAddr 42 (Operand.tmp 11) 1, type := 0, pos := "law.go:60", after := #[{ on := 14, ground := Ground.guard }], guard := some (14, false) }) (v := Value.pointer (some ⟨qh, 1, none⟩)) rfl (by kernel_rfl) (by kernel_rfl) (by kernel_rfl) (fun _ _ _ h => h) (Or.inl ⟨rfl, fun _ _ => by kernel_rfl⟩) hS ?_
                  try simp only [Act.put, List.setIfInBounds_toArray, List.set_cons_zero, List.set_cons_succ]
                  refine wpAnyH_take (i := 20) (oi := { dst := some 132, op := Op.load 29 (Operand.tmp 131), type := 29, pos := "law.go:60", after := #[{ on := 19, ground := Ground.data }, { on := 14, ground := Ground.guard }], guard := some (14, false) }) (v := Value.int .u64 g3'.l) rfl (by kernel_rfl) (by kernel_rfl) (by kernel_rfl) (fun _ _ _ h => h) (Or.inl ⟨rfl, fun w hSw => by have z := cell_of_blk hSw.fb (i := 1) (v := .int .u64 g3'.l) rfl; go_simp⟩) hS ?_
                  try simp only [Act.put, List.setIfInBounds_toArray, List.set_cons_zero, List.set_cons_succ]
                  refine wpAnyH_ready (rs := [18]) (by kernel_rfl) (by simp) ?_
                  refine AllReadyH.cons (o := { dst := some 130, op := Op.call { callee := Callee.value (Operand.func 21), args := #[Operand.tmp 129], argTypes := #[60] }, type := 29, pos := "law.go:60", after := #[{ on := 17, ground := Ground.data }, { on := 14, ground := Ground.chain }, { on := 14, ground := Ground.guard }], guard := some (14, false) }) rfl (fun K hK => ?_) AllReadyH.nil
                  rw [if_pos (by rfl)]
                  refine wp_calls 21 #[.pointer (some ⟨b, 0, none⟩)] (by kernel_rfl) (fun v U => v = .int .u64 g3'.l ∧ Kept [] u11 U) ((HLT.out _ j11).mono (fun e w' hh => ⟨_, hh.1, rfl, hh.2⟩)) ?_
                  rintro _ u18 ⟨rfl, J18⟩
                  have j18 := j11.trans J18
                  have f18 := f11.new J18
                  try simp only [Act.put, List.setIfInBounds_toArray, List.set_cons_zero, List.set_cons_succ]
                  refine hK.out _ _ (f18) (fun hS => ?_)
                  clear hK K
                  refine wpAnyH_take (i := 21) (oi := { dst := some 133, op := Op.binOp BinOp.neq 29 (Operand.tmp 130) (Operand.tmp 132) 29, type := 4, pos := "law.go:60", after := #[{ on := 18, ground := Ground.data }, { on := 20, ground := Ground.data }, { on := 14, ground := Ground.guard }], guard := some (14, false) }) (v := Value.bool false) rfl (by kernel_rfl) (by kernel_rfl) (by kernel_rfl) (fun _ _ _ h => h) (Or.inl ⟨rfl, fun _ _ => by go_simp⟩) hS ?_
                  try simp only [Act.put, List.setIfInBounds_toArray, List.set_cons_zero, List.set_cons_succ]
                  refine wpAnyH_take (i := 22) (oi := { dst := some 134, op := Op.pick (Operand.tmp 126) (Operand.const (Value.bool true)) (Operand.tmp 133), type := 4, pos := "law.go:60", after := #[{ on := 14, ground := Ground.data }, { on := 21, ground := Ground.data }], guard := none }) (v := Value.bool false) rfl (by kernel_rfl) (by kernel_rfl) (by kernel_rfl) (fun _ _ _ h => h) (Or.inl ⟨rfl, fun _ _ => by kernel_rfl⟩) hS ?_
                  try simp only [Act.put, List.setIfInBounds_toArray, List.set_cons_zero, List.set_cons_succ]
                  refine wpAnyH_take (i := 23) (oi := { dst := some 135, op := Op.move (Operand.tmp 134), type := 4, pos := "law.go:60", after := #[{ on := 22, ground := Ground.data }, { on := 18, ground := Ground.chain }], guard := none }) (v := Value.bool false) rfl (by kernel_rfl) (by kernel_rfl) (by kernel_rfl) (fun _ _ _ h => h) (Or.inl ⟨rfl, fun _ _ => by kernel_rfl⟩) hS ?_
                  try simp only [Act.put, List.setIfInBounds_toArray, List.set_cons_zero, List.set_cons_succ]
                  refine wpAnyH_take (i := 24) (oi := { dst := some 136, op := Op.move (Operand.tmp 10), type := 38, pos := "law.go:60", after := #[{ on := 23, ground := Ground.guard }], guard := some (23, false) }) (v := Value.pointer (some ⟨b, 0, none⟩)) rfl (by kernel_rfl) (by kernel_rfl) (by kernel_rfl) (fun _ _ _ h => h) (Or.inl ⟨rfl, fun _ _ => by kernel_rfl⟩) hS ?_
                  try simp only [Act.put, List.setIfInBounds_toArray, List.set_cons_zero, List.set_cons_succ]
                  refine wpAnyH_take (i := 26) (oi := { dst := some 138, op := Op.fieldAddr 27 (Operand.tmp 5) 0, type := 0, pos := "law.go:60", after := #[{ on := 23, ground := Ground.guard }], guard := some (23, false) }) (v := Value.pointer (some ⟨q + 1, 0, none⟩)) rfl (by kernel_rfl) (by kernel_rfl) (by kernel_rfl) (fun _ _ _ h => h) (Or.inl ⟨rfl, fun _ _ => by kernel_rfl⟩) hS ?_
                  try simp only [Act.put, List.setIfInBounds_toArray, List.set_cons_zero, List.set_cons_succ]
                  refine wpAnyH_take (i := 27) (oi := { dst := some 139, op := Op.load 3 (Operand.tmp 138), type := 3, pos := "law.go:60", after := #[{ on := 26, ground := Ground.data }, { on := 23, ground := Ground.guard }], guard := some (23, false) }) (v := Value.int .i64 th) rfl (by kernel_rfl) (by kernel_rfl) (by kernel_rfl) (fun _ _ _ h => h) (Or.inl ⟨rfl, fun w hSw => by have z := cell_of_blk hSw.fc (i := 0) (v := .int .i64 th) rfl; go_simp⟩) hS ?_
                  try simp only [Act.put, List.setIfInBounds_toArray, List.set_cons_zero, List.set_cons_succ]
                  refine wpAnyH_ready (rs := [25]) (by kernel_rfl) (by simp) ?_
                  refine AllReadyH.cons (o := { dst := some 137, op := Op.call { callee := Callee.value (Operand.func 22), args := #[Operand.tmp 136], argTypes := #[38] }, type := 3, pos := "law.go:60", after := #[{ on := 24, ground := Ground.data }, { on := 23, ground := Ground.chain }, { on := 23, ground := Ground.guard }], guard := some (23, false) }) rfl (fun K hK => ?_) AllReadyH.nil
                  rw [if_pos (by rfl)]
                  refine wp_calls 22 #[.pointer (some ⟨b, 0, none⟩)] (by kernel_rfl) (fun v U => v = .int .i64 th ∧ Kept [] u18 U) ((HTH.out _ j18).mono (fun e w' hh => ⟨_, hh.1, rfl, hh.2⟩)) ?_
                  rintro _ u25 ⟨rfl, J25⟩
                  have j25 := j18.trans J25
                  have f25 := f18.new J25
                  try simp only [Act.put, List.setIfInBounds_toArray, List.set_cons_zero, List.set_cons_succ]
                  refine hK.out _ _ (f25) (fun hS => ?_)
                  clear hK K
                  refine wpAnyH_take (i := 28) (oi := { dst := some 140, op := Op.binOp BinOp.neq 3 (Operand.tmp 137) (Operand.tmp 139) 3, type := 4, pos := "law.go:60", after := #[{ on := 25, ground := Ground.data }, { on := 27, ground := Ground.data }, { on := 23, ground := Ground.guard }], guard := some (23, false) }) (v := Value.bool false) rfl (by kernel_rfl) (by kernel_rfl) (by kernel_rfl) (fun _ _ _ h => h) (Or.inl ⟨rfl, fun _ _ => by go_simp⟩) hS ?_
                  try simp only [Act.put, List.setIfInBounds_toArray, List.set_cons_zero, List.set_cons_succ]
                  refine wpAnyH_take (i := 29) (oi := { dst := some 141, op := Op.pick (Operand.tmp 135) (Operand.const (Value.bool true)) (Operand.tmp 140), type := 4, pos := "law.go:60", after := #[{ on := 23, ground := Ground.data }, { on := 28, ground := Ground.data }], guard := none }) (v := Value.bool false) rfl (by kernel_rfl) (by kernel_rfl) (by kernel_rfl) (fun _ _ _ h => h) (Or.inl ⟨rfl, fun _ _ => by kernel_rfl⟩) hS ?_
                  try simp only [Act.put, List.setIfInBounds_toArray, List.set_cons_zero, List.set_cons_succ]
                  refine wpAnyH_done (by kernel_rfl) ?_ _
                  have KF := j25
                  clear hS HSM HLT HTH f11 f18 f25 J11 J18 J25 j11 j18
                  go_wp2
                  go_roundw
                  case rel => exact ⟨j + 1, g3', cs3, cn3, a3, g3, c3, by omega, by go_num, FN.out.new KF⟩
                  case measure => simp [intOf]; omega
        · have hjz : ¬ (j : Int) < (k : Int) := by omega
          clear hj hlt
          have AL := hidOf (alive_any _ (HTW.out.kept HX.out.kp))
          go_wp2_with fail
          refine AL.out.mono ?_
          rintro e WA ⟨rfl, KA⟩
          go_wp2
          go_ret
          exact ⟨rfl, HK0.out.trans (HX.out.kp.trans KA)⟩
  · have HI := hidOf hW
    clear hW
    go_enter Tryd.func3, Tryd.ntmps3
    go_upto_region 1 with (fail)
    rw [← hq]
    refine gen_world (fun W => RW 23 W q #[.int .i64 c.t, .int .i64 c.s, .int .i64 c.c, .int .i64 c.h, .int .i64 c.k, .int .i64 c.e, .int .i64 c.l] ∧ RW 27 W (q + 1) (plA th lo k lc) ∧ Kept [] w W) BX.out ?_
    have hqw : w.heap.size ≤ q := by omega
    clear BX hq
    rintro W ⟨CB, PB, K0⟩
    have HCB := hidOf CB
    have HPB := hidOf PB
    have HTW := hidOf (HT.out.kept K0)
    have HK0 := hidOf K0
    clear CB PB K0
    have OF := hidOf (kof_no c ao n cap W HI.out)
    go_wp2_with (first | ((with_reducible change wpList _ _ _ (Oper.mk _ (Op.load 23 (Operand.tmp 3)) _ _ _ _ :: _) _ _); refine wpList_load_rw 23 isT_cf rfl (.tmp 3) rfl q rfl #[.int .i64 c.t, .int .i64 c.s, .int .i64 c.c, .int .i64 c.h, .int .i64 c.k, .int .i64 c.e, .int .i64 c.l] rfl HCB.out ?_))
    refine OF.out.mono ?_
    rintro e w1 ⟨rfl, K1⟩
    clear OF
    obtain ⟨qm, hqm⟩ : ∃ qm, qm = w1.heap.size := ⟨_, rfl⟩
    go_upto_region 2 with (first | ((with_reducible change wpList _ _ _ (Oper.mk _ (Op.store 35 (Operand.tmp 8) _) _ _ _ _ :: _) _ _); refine wpList_store_rw 35 isT_rm rfl (.tmp 8) (.tmp 23) rfl w1.heap.size rmZ rfl rfl rfl rmZ_one rmZ (RW.new 35 w1 rmZ) rfl ?_))
    rw [← hqm]
    refine gen_world (fun V => RW 35 V qm rmZ ∧ Kept [] w1 V) ?_ ?_
    · rw [hqm]; exact ⟨(RW.new 35 w1 rmZ).row _, ((Kept.refl [] w1).alloc _).setRow (Or.inr (Nat.le_refl _)) _⟩
    have hqm1 : w1.heap.size ≤ qm := by omega
    clear hqm
    rintro V ⟨QM, KV⟩
    have p0 := cell_of_blk (HPB.out.kept (K1.trans KV) (by simp)) (i := 0) (v := .int .i64 th) rfl
    go_wp2_with fail
    refine (gnew_any th _).mono ?_
    rintro e w2 ⟨b, rfl, hb, G, K2⟩
    clear p0
    have KX := hidOf (K1.trans (KV.trans K2))
    have p1 := cell_of_blk (HPB.out.kept KX.out (by simp)) (i := 1) (v := .slice lo k lc) rfl
    clear K1 KV K2 G hb QM
    have AL := hidOf (alive_any _ (HTW.out.kept KX.out))
    go_wp2_with fail
    refine AL.out.mono ?_
    rintro e WA ⟨rfl, KA⟩
    go_wp2
    go_ret
    exact ⟨rfl, HK0.out.trans (KX.out.trans KA)⟩

set_option maxRecDepth 100000 in
theorem guardAll_lifted (os : Os) (started : os.Started) (H : Type) (enc : TypeId × Value → H) :
    ReturnsInHanded {} Tryd.checked os 3 .any (fun w args => (Rows.guardAllSpec.pre enc Tryd.prog Tryd.f3 [] false w args ∧ laidMetH Tryd.prog laid1 w) ∧ sizedMet enc Tryd.prog Tryd.f3 (OpenSpec.ofChange Rows.guardAllSpec) false w args)
      (Rows.guardAllSpec.post enc Tryd.prog Tryd.f3 false true false false) := by
  refine returnsInHanded_of_change_and (C := Tryd.checked) (X := fun w _ => laidMetH Tryd.prog laid1 w) (fun _ _ _ hh h => h.of_heap hh) own started (by kernel_rfl) Tryd.func3
    (ChangeSpec.witness_shaped (enc := enc) (C := Tryd.checked) (os := os) (X := fun w _ => laidMetH Tryd.prog laid1 w) false (World.doorLaid Tryd.prog 400 os) #[.agg #[.int .i64 0, .int .i64 0, .int .i64 0, .int .i64 0, .int .i64 0, .int .i64 0, .int .i64 0], .slice none 0 0, .agg #[.int .i64 0, .slice none 0 0]] 8 rfl (World.shaped_of_RefB (by kernel_rfl) (by kernel_rfl)) (by kernel_rfl) (by kernel_rfl) (by kernel_rfl) (door_met os _)) ?_
  intro W base args ds gs before hval0 hW _ _ hL _
  have hval : ∀ (j : Nat) t v, Tryd.f3.params[j]? = some t → args[j]? = some v → Value.okWide Tryd.prog W .any base t v := hval0
  have hW' := hW
  obtain ⟨p, q, hA0, hV, rfl, _, _⟩ := hW
  have hA : DataW.TrodAll enc Tryd.prog W 0 (fun _ => true) true Tryd.f3.params.toList args.toList ds p := hA0
  rw [Tryd.params3] at hA hval
  clear hA0 hval0
  obtain ⟨v0, vs0, d0, ds0, p0, q0, hargs, rfl, rfl, h0, r0⟩ := trodAll_cons hA
  obtain ⟨v1, vs1, d1, ds1, p1, q1, rfl, rfl, rfl, h1, r1⟩ := trodAll_cons r0
  obtain ⟨v2, vs2, d2, ds2, p2, q2, rfl, rfl, rfl, h2, r2⟩ := trodAll_cons r1
  obtain ⟨rfl, rfl, rfl⟩ := trodAll_nil r2
  obtain rfl : args = #[v0, v1, v2] := by cases args; simp_all
  obtain ⟨rfl, rfl⟩ := trodVars_none hV
  have k0 := h0
  have k1 := h1
  have k2 := h2
  simp only [List.append_nil] at hW'
  have hlt0 : ∀ x ∈ p0, x.block < W.heap.size := fun x hx => hW'.lt x (by simp [hx])
  have hlt1 : ∀ x ∈ p1, x.block < W.heap.size := fun x hx => hW'.lt x (by simp [hx])
  have hlt2 : ∀ x ∈ p2, x.block < W.heap.size := fun x hx => hW'.lt x (by simp [hx])
  obtain ⟨c0, rfl, g0⟩ := open_cfg (hval 0 23 v0 rfl rfl) h0
  obtain ⟨ao1, cap1, xs1, rfl, s1, g1, z1, n1⟩ := open_words (hval 1 24 v1 rfl rfl) h1
  obtain ⟨th2, lo2, lc2, ps2, rfl, sl2, pw2⟩ := open_play (hval 2 27 v2 rfl rfl) h2
  refine (guardAll_walk W c0 g0 ao1 xs1 cap1 s1 g1 n1 th2 lo2 lc2 ps2 sl2 pw2 (tab_of_laid hL)).mono fun e W' ⟨he, hg⟩ => ?_
  subst he
  have hb := hg.below (by simp)
  exact ⟨_, rfl, _, _, _, [], _, [], hW', (trodAll_cons_mk (shut_bool Tryd.underlying4 _) trodAll_mk0), (trodAll_cons_mk (Below.trod laidOut (by kernel_rfl) (of_decide_eq_true (by kernel_rfl)) k0 hb hlt0) (trodAll_cons_mk (Below.trod laidOut (by kernel_rfl) (of_decide_eq_true (by kernel_rfl)) k1 hb hlt1) (trodAll_cons_mk (Below.trod laidOut (by kernel_rfl) (of_decide_eq_true (by kernel_rfl)) k2 hb hlt2) trodAll_mk0))), rfl, hb.frame _, fun h => by cases h⟩

theorem guardAll_over : Rows.GuardAllSaid :=
  OpenClaim.holds_of_wide 3 Tryd.f3 rfl rfl rfl rfl rfl rfl rfl ⟨rfl, rfl, rfl, rfl, rfl⟩ rfl rfl rfl rfl rfl (by kernel_rfl) Tryd.func3 (by kernel_rfl)
    (of_decide_eq_true (by kernel_rfl)) (by unfold Func.isWrapper; first | (rw [if_pos (by decide +kernel)]; kernel_rfl) | (rw [if_neg (by decide +kernel)]; exact ⟨rfl, rfl⟩))
    (fun os started H enc _ => guardAll_lifted os started H enc)

theorem guardAll_holds : Rows.GuardAllCardSaid :=
  Claim7.holds_tied_plain_at .later [] [.data] true (true, "b4883c6acc027d471720382080dd105359c62c6a05fa2fbd39293c40dd38c4e0") false
    guardAll_over (fun _ h => by cases h) (by kernel_rfl) (fun _ h => by cases h) guardAll_row_tie rfl ⟨rfl, rfl⟩ (by kernel_rfl) rfl
    (fun f fn hf hfn => by
      obtain rfl : f = 3 := Option.some.inj ((show Tryd.prog.funcNamed "stepstone/stepstonelaw10.GuardAll" = some 3 by kernel_rfl).symm.trans hf) |>.symm
      obtain rfl : fn = Tryd.f3 := (Option.some.inj (Tryd.func3.symm.trans hfn)).symm
      exact ⟨by kernel_rfl, fun j t ht => by
          rw [Tryd.params3] at ht
          rcases j with _ | j
          · have : t = 23 := by simpa using ht.symm
            subst this; exact (show Tryd.prog.wantsStandIn 23 = false by kernel_rfl)
          rcases j with _ | j
          · have : t = 24 := by simpa using ht.symm
            subst this; exact (show Tryd.prog.wantsStandIn 24 = false by kernel_rfl)
          rcases j with _ | j
          · have : t = 27 := by simpa using ht.symm
            subst this; exact (show Tryd.prog.wantsStandIn 27 = false by kernel_rfl)
          simp at ht⟩)
    (by kernel_rfl)
#print axioms guardAll_holds
end Go.Proofs.YtpobanjpgdghlaaDoor
