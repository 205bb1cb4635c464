/-
  Two guards of one world, and the document's, each with words of its own.
-/
import Derived.Test.YtpobanjpgdghlaaDoorGAlive
import Derived.Test.YtpobanjpgdghlaaDoorGRef
import Derived.Deep.Cut
namespace Go.Proofs.YtpobanjpgdghlaaDoor
open Go.RowKit (Grown Hid Below)
open Go.Deep
set_option maxRecDepth 100000
theorem rw_ne {T1 T2 : TypeId} {w : World} {b c : Nat} {A B : Array Value} (h1 : w.heap[b]? = some (.cells A T1 (0, 0))) (h2 : w.heap[c]? = some (.cells B T2 (0, 0))) (hT : T1 ≠ T2) : ¬ b = c := fun e => by
  rw [e, h2] at h1; simp at h1; exact hT h1.2.symm
theorem RW.ne {T1 T2 : TypeId} {w : World} {b c : Nat} {A B : Array Value} (h1 : RW T1 w b A) (h2 : RW T2 w c B) (hT : T1 ≠ T2) : ¬ b = c := rw_ne h1 h2 hT
theorem RowR.neRW {T : TypeId} {w : World} {g c cap : Nat} {cs : List Int} {B : Array Value} (h1 : RowR w g cs cap) (h2 : RW T w c B) (hT : 29 ≠ T) : ¬ g = c := by
  obtain ⟨rest, z, _⟩ := h1
  exact rw_ne z h2 hT
theorem Bk.rwp {w : World} {p r : Nat} {cs : List Int} {cnt : Int} {a : Acc} (h : Bk w p r cs cnt a) : ∃ A, RW 105 w p A := ⟨_, h.st⟩
theorem Bk.rwr {w : World} {p r : Nat} {cs : List Int} {cnt : Int} {a : Acc} (h : Bk w p r cs cnt a) : RW 29 w r (wd cs) := h.row
theorem Mm.rwm {w : World} {m p r : Nat} {c : Cfg} {cs : List Int} {cnt : Int} {a : Acc} (h : Mm w m p r c cs cnt a) : ∃ A, RW 89 w m A := ⟨_, h.st⟩
namespace K
theorem GB.rw {w : World} {b : Nat} {g : Gs} (h : GB w b g) : RW 62 w b #[.int .i64 g.u, .int .u64 g.l, .int .i64 g.t] := h
theorem nin2 {x a b : Nat} (h1 : ¬ x = a) (h2 : ¬ x = b) : x ∉ [a, b] := by simp [h1, h2]
theorem nin3 {x a b d : Nat} (h1 : ¬ x = a) (h2 : ¬ x = b) (h3 : ¬ x = d) : x ∉ [a, b, d] := by simp [h1, h2, h3]
theorem le2 {a b n : Nat} (h1 : n ≤ a) (h2 : n ≤ b) : ∀ x ∈ [a, b], x ∈ ([] : List Nat) ∨ n ≤ x := fun x hx => by
  simp at hx; rcases hx with rfl | rfl; exact Or.inr h1; exact Or.inr h2
theorem le3 {a b d n : Nat} (h1 : n ≤ a) (h2 : n ≤ b) (h3 : n ≤ d) : ∀ x ∈ [a, b, d], x ∈ ([] : List Nat) ∨ n ≤ x := fun x hx => by
  simp at hx; rcases hx with rfl | rfl | rfl; exact Or.inr h1; exact Or.inr h2; exact Or.inr h3
/-- The document's words, wherever their row lies. -/
def RMx (w : World) (q r L N : Nat) (c : Cfg) (cs : List Int) : Prop := ∃ gg cg cnt acc, RW 35 w q (rmA c (some ⟨gg, 0, none⟩) L cg cnt acc) ∧ RowR w gg cs cg ∧ ¬ gg = r ∧ 0 ≤ cnt ∧ cnt ≤ (N : Int)
theorem RMx.kept {l : List Nat} {w w' : World} {q r L N : Nat} {c : Cfg} {cs : List Int} (h : RMx w q r L N c cs) (k : Kept l w w') (hq : q ∉ l) (hg : ∀ gg cg, RowR w gg cs cg → ¬ gg = r → gg ∉ l) : RMx w' q r L N c cs := by
  obtain ⟨gg, cg, cnt, acc, h1, h2, h3, h4, h5⟩ := h
  exact ⟨gg, cg, cnt, acc, h1.kept k hq, h2.kept k (hg _ _ h2 h3), h3, h4, h5⟩
theorem RMx.new {w w' : World} {q r L N : Nat} {c : Cfg} {cs : List Int} (h : RMx w q r L N c cs) (k : Kept [] w w') : RMx w' q r L N c cs := h.kept k (by simp) (fun _ _ _ _ => by simp)
theorem RMx.mono {w : World} {q r L N N' : Nat} {c : Cfg} {cs : List Int} (h : RMx w q r L N c cs) (hN : N ≤ N') : RMx w q r L N' c cs := by
  obtain ⟨gg, cg, cnt, acc, h1, h2, h3, h4, h5⟩ := h
  exact ⟨gg, cg, cnt, acc, h1, h2, h3, h4, by omega⟩
/-- What holds of two guards, and of the document's two. -/
structure TW (w0 wr : World) (a b m p r qx qy qr qs L N : Nat) (c : Cfg) (ta tb : Int) (gA gB : Gs) (cs ca cb : List Int) : Prop where
  ga : GB wr a gA
  gb : GB wr b gB
  mm : ∃ cnt acc, Mm wr m p r c cs cnt acc ∧ 0 ≤ cnt ∧ cnt ≤ (N : Int)
  x : RW 42 wr qx (rgA gA)
  y : RW 42 wr qy (rgA gB)
  rr : RMx wr qr r L N c ca
  ss : RMx wr qs r L N c cb
  kp : Kept [] w0 wr
  ab : ¬ a = b
  xy : ¬ qx = qy
  rs : ¬ qr = qs
  a0 : w0.heap.size ≤ a
  b0 : w0.heap.size ≤ b
  p0 : w0.heap.size ≤ p
  r0 : w0.heap.size ≤ r
  x0 : w0.heap.size ≤ qx
  y0 : w0.heap.size ≤ qy
  q0 : w0.heap.size ≤ qr
  s0 : w0.heap.size ≤ qs
  tA : gA.t = ta
  tB : gB.t = tb
  uA : 0 ≤ gA.u ∧ gA.u ≤ (N : Int) ∧ gA.u ≤ c.s
  uB : 0 ≤ gB.u ∧ gB.u ≤ (N : Int) ∧ gB.u ≤ c.s
  len : cs.length = L ∧ ca.length = L ∧ cb.length = L
  eA : ∀ k, rdG cs (rsV c ta k) = rdG ca (rsV c ta k)
  eB : ∀ k, rdG cs (rsV c tb k) = rdG cb (rsV c tb k)
section
variable {w0 wr w4 w5 w6 : World} {a b m p r qx qy qr qs L N : Nat} {c : Cfg} {ta tb : Int} {gA gB : Gs} {cs ca cb : List Int}
theorem TW.new (h : TW w0 wr a b m p r qx qy qr qs L N c ta tb gA gB cs ca cb) (k : Kept [] wr w4) : TW w0 w4 a b m p r qx qy qr qs L N c ta tb gA gB cs ca cb := by
  obtain ⟨cnt, acc, M, h1, h2⟩ := h.mm
  exact ⟨h.ga.kept k (by simp), h.gb.kept k (by simp), ⟨cnt, acc, M.new k, h1, h2⟩, h.x.kept k (by simp), h.y.kept k (by simp), h.rr.new k, h.ss.new k, h.kp.trans k, h.ab, h.xy, h.rs, h.a0, h.b0, h.p0, h.r0, h.x0, h.y0, h.q0, h.s0, h.tA, h.tB, h.uA, h.uB, h.len, h.eA, h.eB⟩
theorem TW.mono {N' : Nat} (h : TW w0 wr a b m p r qx qy qr qs L N c ta tb gA gB cs ca cb) (hN : N ≤ N') : TW w0 wr a b m p r qx qy qr qs L N' c ta tb gA gB cs ca cb := by
  obtain ⟨cnt, acc, M, h1, h2⟩ := h.mm
  obtain ⟨i1, i2, i3⟩ := h.uA
  obtain ⟨j1, j2, j3⟩ := h.uB
  exact ⟨h.ga, h.gb, ⟨cnt, acc, M, h1, by omega⟩, h.x, h.y, h.rr.mono hN, h.ss.mono hN, h.kp, h.ab, h.xy, h.rs, h.a0, h.b0, h.p0, h.r0, h.x0, h.y0, h.q0, h.s0, h.tA, h.tB, ⟨i1, by omega, i3⟩, ⟨j1, by omega, j3⟩, h.len, h.eA, h.eB⟩
theorem TW.swap (h : TW w0 wr a b m p r qx qy qr qs L N c ta tb gA gB cs ca cb) : TW w0 wr b a m p r qy qx qs qr L N c tb ta gB gA cs cb ca :=
  ⟨h.gb, h.ga, h.mm, h.y, h.x, h.ss, h.rr, h.kp, fun e => h.ab e.symm, fun e => h.xy e.symm, fun e => h.rs e.symm, h.b0, h.a0, h.p0, h.r0, h.y0, h.x0, h.s0, h.q0, h.tB, h.tA, h.uB, h.uA, ⟨h.len.1, h.len.2.2, h.len.2.1⟩, h.eB, h.eA⟩
theorem TW.reserved (h : TW w0 wr a b m p r qx qy qr qs L N c ta tb gA gB cs ca cb) (x y : Int) (hN : N < 100000) {V : Int} (hv : rdG cs (rsV c x y) = V) : Calls Tryd.prog 24 #[.pointer (some ⟨m, 0, none⟩), .int .i64 x, .int .i64 y] wr fun ee w' => ee = .returned (.int .u64 V) ∧ TW w0 w' a b m p r qx qy qr qs L (N + 1) c ta tb gA gB cs ca cb := by
  subst hv
  obtain ⟨cnt, acc, M, h1, h2⟩ := h.mm
  refine (mreserved_any m p r c cs cnt acc x y wr M h1 (by omega)).mono ?_
  rintro e w' ⟨rfl, M', k⟩
  rw [clV_load] at M'
  obtain ⟨A1, P1⟩ := M.bk.rwp
  have a1 := h.ga.nm M
  have b1 := h.gb.nm M
  obtain ⟨i1, i2, i3⟩ := h.uA
  obtain ⟨j1, j2, j3⟩ := h.uB
  refine ⟨rfl, h.ga.kept k (nin2 a1.2.1 a1.2.2), h.gb.kept k (nin2 b1.2.1 b1.2.2), ⟨_, _, M', by omega, by omega⟩, h.x.kept k (nin2 (h.x.ne P1 (by decide)) (h.x.ne M.bk.rwr (by decide))), h.y.kept k (nin2 (h.y.ne P1 (by decide)) (h.y.ne M.bk.rwr (by decide))), ?_, ?_, h.kp.then k (le2 h.p0 h.r0), h.ab, h.xy, h.rs, h.a0, h.b0, h.p0, h.r0, h.x0, h.y0, h.q0, h.s0, h.tA, h.tB, ⟨i1, by omega, i3⟩, ⟨j1, by omega, j3⟩, h.len, h.eA, h.eB⟩
  · obtain ⟨gg, cg, cn, ac, g1, g2, g3, g4, g5⟩ := h.rr
    exact ⟨gg, cg, cn, ac, g1.kept k (nin2 (g1.ne P1 (by decide)) (g1.ne M.bk.rwr (by decide))), g2.kept k (nin2 (g2.neRW P1 (by decide)) g3), g3, g4, by omega⟩
  · obtain ⟨gg, cg, cn, ac, g1, g2, g3, g4, g5⟩ := h.ss
    exact ⟨gg, cg, cn, ac, g1.kept k (nin2 (g1.ne P1 (by decide)) (g1.ne M.bk.rwr (by decide))), g2.kept k (nin2 (g2.neRW P1 (by decide)) g3), g3, g4, by omega⟩
/-- Behind the program's publish of the first guard: the document's words are still as they were. -/
structure TJ (w0 w4 : World) (a b m p r qx qy qr qs L N : Nat) (c : Cfg) (gA gA' gB : Gs) (cs' ca cb : List Int) (gg cg : Nat) (cn : Int) (ac : Acc) : Prop where
  ga : GB w4 a gA'
  gb : GB w4 b gB
  mm : ∃ cnt acc, Mm w4 m p r c cs' cnt acc ∧ 0 ≤ cnt ∧ cnt ≤ (N : Int) + 1
  x : RW 42 w4 qx (rgA gA)
  y : RW 42 w4 qy (rgA gB)
  rm : RW 35 w4 qr (rmA c (some ⟨gg, 0, none⟩) L cg cn ac)
  row : RowR w4 gg ca cg
  ss : RMx w4 qs r L N c cb
  kp : Kept [] w0 w4
theorem TW.pub (h : TW w0 wr a b m p r qx qy qr qs L N c ta tb gA gB cs ca cb) {gg cg : Nat} {cn : Int} {ac : Acc} (rm : RW 35 wr qr (rmA c (some ⟨gg, 0, none⟩) L cg cn ac)) (row : RowR wr gg ca cg) (gr : ¬ gg = r) (e : Int) (hN : N < 100000) (hs : c.s < 1000) :
    Calls Tryd.prog 14 #[.pointer (some ⟨a, 0, none⟩), .pointer (some ⟨m, 0, none⟩), .int .u64 e] wr fun ee w' => ee = .returned (.bool (decide (gA.u < c.s))) ∧ TJ w0 w' a b m p r qx qy qr qs L N c gA (pubG c gA e) gB (clV cs 2 (rsV c gA.t (pubN c gA)) 0 e) ca cb gg cg cn ac := by
  obtain ⟨cnt, acc, M, h1, h2⟩ := h.mm
  obtain ⟨i1, i2, i3⟩ := h.uA
  refine (gpublish_any a m p r gA c cs cnt acc e wr h.ga M i1 (by omega) h1 (by omega)).mono ?_
  rintro ee w' ⟨rfl, M', G', k⟩
  obtain ⟨A1, P1⟩ := M.bk.rwp
  have GA := h.ga.rw
  have b1 := h.gb.nm M
  refine ⟨rfl, G', h.gb.kept k (nin3 (fun e => h.ab e.symm) b1.2.1 b1.2.2), ⟨_, _, M', by omega, by omega⟩, h.x.kept k (nin3 (h.x.ne GA (by decide)) (h.x.ne P1 (by decide)) (h.x.ne M.bk.rwr (by decide))), h.y.kept k (nin3 (h.y.ne GA (by decide)) (h.y.ne P1 (by decide)) (h.y.ne M.bk.rwr (by decide))), rm.kept k (nin3 (rm.ne GA (by decide)) (rm.ne P1 (by decide)) (rm.ne M.bk.rwr (by decide))), row.kept k (nin3 (row.neRW GA (by decide)) (row.neRW P1 (by decide)) gr), ?_, h.kp.then k (le3 h.a0 h.p0 h.r0)⟩
  obtain ⟨g1, g2, g3, g4, z1, z2, z3, z4, z5⟩ := h.ss
  exact ⟨g1, g2, g3, g4, z1.kept k (nin3 (z1.ne GA (by decide)) (z1.ne P1 (by decide)) (z1.ne M.bk.rwr (by decide))), z2.kept k (nin3 (z2.neRW GA (by decide)) (z2.neRW P1 (by decide)) z3), z3, z4, z5⟩
set_option maxHeartbeats 1000000 in
theorem TW.done (h : TW w0 wr a b m p r qx qy qr qs L N c ta tb gA gB cs ca cb) {gg cg g3 c3 : Nat} {cn : Int} {ac a' : Acc} {e : Int} (J : TJ w0 w4 a b m p r qx qy qr qs L N c gA (pubG c gA e) gB (clV cs 2 (rsV c gA.t (pubN c gA)) 0 e) ca cb gg cg cn ac) (gr : ¬ gg = r) (n0 : 0 ≤ cn) (n1 : cn ≤ (N : Int)) (R : Rt c) (hL : (L : Int) = lnV c) (hab : ¬ ta = tb)
    (K5 : Kept [] w4 w5) (R5 : RowR w5 g3 (clV ca 2 (rsV c gA.t (pubN c gA)) 0 e) c3) (h2 : g3 = gg ∨ w4.heap.size ≤ g3) (K6 : Kept [qx, qr] w5 w6) (B : RW 42 w6 qx (rgA (pubG c gA e))) (D : RW 35 w6 qr (rmA c (some ⟨g3, 0, none⟩) L c3 (cn + 1) a')) :
    TW w0 w6 a b m p r qx qy qr qs L (N + 1) c ta tb (pubG c gA e) gB (clV cs 2 (rsV c gA.t (pubN c gA)) 0 e) (clV ca 2 (rsV c gA.t (pubN c gA)) 0 e) cb := by
  obtain ⟨cnt, acc, M, m0, m1⟩ := J.mm
  obtain ⟨i1, i2, i3⟩ := h.uA
  obtain ⟨j1, j2, j3⟩ := h.uB
  obtain ⟨l1, l2, l3⟩ := h.len
  have lr := lt_of_blk M.bk.row
  have gr3 : ¬ g3 = r := by
    rcases h2 with e | e
    · rw [e]; exact gr
    · omega
  have X5 := J.x.kept K5 (by simp)
  have Y5 := J.y.kept K5 (by simp)
  have D5 := J.rm.kept K5 (by simp)
  have S5 := J.ss.new K5
  have M5 := M.new K5
  have GA := (J.ga.kept K5 (by simp)).rw
  have GB5 := (J.gb.kept K5 (by simp)).rw
  obtain ⟨P1, PP⟩ := M5.bk.rwp
  obtain ⟨P2, PM⟩ := M5.rwm
  have pu := pubG_u (c := c) (g := gA) R.s0 i1 e
  have pn : (pubG c gA e).u ≤ gA.u + 1 := by show pubN c gA + 1 ≤ _; unfold pubN; split <;> omega
  refine ⟨(J.ga.kept K5 (by simp)).kept K6 (nin2 (GA.ne X5 (by decide)) (GA.ne D5 (by decide))), (J.gb.kept K5 (by simp)).kept K6 (nin2 (GB5.ne X5 (by decide)) (GB5.ne D5 (by decide))), ⟨cnt, acc, M5.kept K6 (nin2 (PM.ne X5 (by decide)) (PM.ne D5 (by decide))) (nin2 (PP.ne X5 (by decide)) (PP.ne D5 (by decide))) (nin2 (M5.bk.rwr.ne X5 (by decide)) (M5.bk.rwr.ne D5 (by decide))), m0, by omega⟩, B, Y5.kept K6 (nin2 (fun e => h.xy e.symm) (Y5.ne D5 (by decide))), ⟨g3, c3, cn + 1, a', D, R5.kept K6 (nin2 (R5.neRW X5 (by decide)) (R5.neRW D5 (by decide))), gr3, by omega, by omega⟩, ?_, (J.kp.trans K5).then K6 (le2 h.x0 h.q0), h.ab, h.xy, h.rs, h.a0, h.b0, h.p0, h.r0, h.x0, h.y0, h.q0, h.s0, h.tA, h.tB, ⟨by omega, by omega, pu.2⟩, ⟨j1, by omega, j3⟩, ⟨by rw [clV_len]; exact l1, by rw [clV_len]; exact l2, l3⟩, fun k => ?_, fun k => ?_⟩
  · obtain ⟨k1, k2, k3, k4, z1, z2, z3, z4, z5⟩ := S5
    exact ⟨k1, k2, k3, k4, z1.kept K6 (nin2 (z1.ne X5 (by decide)) (fun e => h.rs e.symm)), z2.kept K6 (nin2 (z2.neRW X5 (by decide)) (z2.neRW D5 (by decide))), z3, z4, by omega⟩
  · rw [rs_store (by rw [l1]; exact hL), rs_store (by rw [l2]; exact hL), h.eA k]
  · rw [rs_store (by rw [l1]; exact hL), if_neg (fun z => hab (by rw [← h.tA, ← z.2.1])), h.eB k]
end
end K
end Go.Proofs.YtpobanjpgdghlaaDoor
