/-
  The document's own access to a bank by value, where the cell turns: the cells are copied first.
-/
import Derived.Test.YtgafmklfpiipcaaGreatDoorRefDo
namespace Go.Proofs.YtgafmklfpiipcaaGreatDoor
open Go.ChangeShapes Go.WideShapes Go.ChangeAt Go.RowKit
open Go.Deep
theorem blk5 (w : World) (a b c d e : Obj) : ((((((w.alloc a).alloc b).alloc c).alloc d).alloc e).heap[w.heap.size]? = some a ∧ (((((w.alloc a).alloc b).alloc c).alloc d).alloc e).heap[w.heap.size + 1]? = some b ∧ (((((w.alloc a).alloc b).alloc c).alloc d).alloc e).heap[w.heap.size + 1 + 1]? = some c ∧
    (((((w.alloc a).alloc b).alloc c).alloc d).alloc e).heap[w.heap.size + 1 + 1 + 1]? = some d ∧ (((((w.alloc a).alloc b).alloc c).alloc d).alloc e).heap[w.heap.size + 1 + 1 + 1 + 1]? = some e) := by
  simp only [blk_alloc, nblk_alloc]
  refine ⟨?_, ?_, ?_, ?_, ?_⟩
  · rw [if_neg (by omega), if_neg (by omega), if_neg (by omega), if_neg (by omega), if_true]
  · rw [if_neg (by omega), if_neg (by omega), if_neg (by omega), if_true]
  · rw [if_neg (by omega), if_neg (by omega), if_true]
  · rw [if_neg (by omega), if_true]
  · rw [if_true]
theorem blk_sets (b : Nat) {t : TypeId} : ∀ (l : List (Nat × Value)) (w : World) (c : Array Value), w.heap[b]? = some (.cells c t (0, 0)) → (sets b w l).heap[b]? = some (.cells (l.foldl (fun c p => c.setIfInBounds p.1 p.2) c) t (0, 0))
  | [], _, _, h => h
  | p :: l, _, _, h => blk_sets b l _ _ (blk_set h p.1 p.2)
/-- What the stores behind the copy leave: the bank that is handed back (block so), and its row. -/
theorem rdo_tail {w1 : World} {so g' i c' : Nat} {cs : List Int} {t : TypeId} {s0 n1 z2 z3 z4 z5 z6 z7 : Value} (zo : w1.heap[so]? = some (.cells #[s0, n1, z2, z3, z4, z5, z6, z7] t (0, 0))) (hR : RowR w1 g' cs c') (hne : ¬ g' = so) (hi : i < cs.length) (S : Value) (X : Int) (b2 b3 b4 b5 b6 b7 : Value) :
    (sets so ((w1.setCell ⟨so, 0, none⟩ S).setCell ⟨g', i, none⟩ (.int .u64 X)) [(2, b2), (3, b3), (4, b4), (5, b5), (6, b6), (7, b7)]).heap[so]? = some (.cells #[S, n1, b2, b3, b4, b5, b6, b7] t (0, 0)) ∧
    RowR (sets so ((w1.setCell ⟨so, 0, none⟩ S).setCell ⟨g', i, none⟩ (.int .u64 X)) [(2, b2), (3, b3), (4, b4), (5, b5), (6, b6), (7, b7)]) g' (cs.set i X) c' ∧
    Kept [so, g'] w1 (sets so ((w1.setCell ⟨so, 0, none⟩ S).setCell ⟨g', i, none⟩ (.int .u64 X)) [(2, b2), (3, b3), (4, b4), (5, b5), (6, b6), (7, b7)]) := by
  have k1 : Kept [so] w1 (w1.setCell ⟨so, 0, none⟩ S) := (Kept.refl _ _).setCell (Or.inl (by simp)) _
  have hR1 := hR.kept k1 (by simpa using hne)
  have z1 := blk_set zo 0 S
  have z2' : ((w1.setCell ⟨so, 0, none⟩ S).setCell ⟨g', i, none⟩ (.int .u64 X)).heap[so]? = _ := (blk_setCell_other _ _ _ _ (fun e => hne e.symm)).trans z1
  have k2 : Kept [so, g'] w1 ((w1.setCell ⟨so, 0, none⟩ S).setCell ⟨g', i, none⟩ (.int .u64 X)) := (k1.weaken (m := [so, g']) (by simp)).setCell (Or.inl (by simp)) _
  have k3 := kept_sets so [(2, b2), (3, b3), (4, b4), (5, b5), (6, b6), (7, b7)] ((w1.setCell ⟨so, 0, none⟩ S).setCell ⟨g', i, none⟩ (.int .u64 X))
  refine ⟨?_, (hR1.set hi X).kept k3 (by simpa using hne), k2.then k3 (by simp)⟩
  have := blk_sets so [(2, b2), (3, b3), (4, b4), (5, b5), (6, b6), (7, b7)] _ _ z2'
  simpa using this
set_option maxRecDepth 100000 in
set_option maxHeartbeats 1000000 in
theorem rdo_diff2 (g : Nat) (cs : List Int) (cap : Nat) (cnt : Int) (a : Acc) (i : Nat) (via old v had : Int) (w : World) (hR : RowR w g cs cap) (hl : cs.length ≤ 17592186044415) (h0 : 0 ≤ cnt) (h1 : cnt < 4611686018427387904) (hi : i < cs.length) (hcell : w.cell? ⟨g, i, none⟩ = some (.int .u64 had)) (hv : ¬ v = had) :
    Calls Tryz.prog 88 #[rbV (some ⟨g, 0, none⟩) cs.length cap cnt a, .int .i64 2, .int .i64 i, .int .u64 via, .int .u64 old, .int .u64 v] w fun e w' =>
      ∃ g' c', e = .returned (.tuple #[rbV (some ⟨g', 0, none⟩) cs.length c' (cnt + 1) ⟨2, i, via, had, v, true⟩, Acc.val ⟨2, i, via, had, v, true⟩]) ∧ (g' = g ∨ w.heap.size ≤ g') ∧ RowR w' g' (cs.set i v) c' ∧ Kept [] w w' := by
  have hgl := hR.lt
  have hi' : (i : Int) < (cs.length : Int) := by omega
  have l1 : g < w.heap.size + 1 := by omega
  have l2 : g < w.heap.size + 1 + 1 := by omega
  have l3 : g < w.heap.size + 1 + 1 + 1 := by omega
  have l4 : g < w.heap.size + 1 + 1 + 1 + 1 := by omega
  have l5 : g < w.heap.size + 1 + 1 + 1 + 1 + 1 := by omega
  simp only [rbV]
  go_enter Tryz.func88, Tryz.ntmps88
  go_upto_region 13 with (fail)
  refine gen_world (fun W => (W.heap[w.heap.size]? = some (.cells #[.slice (some ⟨g, 0, none⟩) cs.length cap, .int .i64 cnt, .int .i64 a.k, .int .i64 a.c, .int .u64 a.v, .int .u64 a.o, .int .u64 a.n, .bool a.d] 33 (0, 0)) ∧
    W.heap[w.heap.size + 1]? = some (.cells #[.slice none 0 0, .int .i64 0, .int .i64 0, .int .i64 0, .int .u64 0, .int .u64 0, .int .u64 0, .bool false] 33 (0, 0)) ∧
    W.heap[w.heap.size + 1 + 1]? = some (.cells #[.int .i64 0, .int .i64 0, .int .u64 0, .int .u64 0, .int .u64 0, .bool false] 31 (0, 0)) ∧
    W.heap[w.heap.size + 1 + 1 + 1]? = some (.cells #[.int .i64 2, .int .i64 i, .int .u64 via, .int .u64 had, .int .u64 v, .bool true] 31 (0, 0)) ∧
    W.heap[w.heap.size + 1 + 1 + 1 + 1]? = some (.cells #[.slice (some ⟨g, 0, none⟩) cs.length cap, .int .i64 (cnt + 1), .int .i64 0, .int .i64 0, .int .u64 0, .int .u64 0, .int .u64 0, .bool false] 33 (0, 0))) ∧ Kept [] w W) ?_ ?_
  · exact ⟨blk5 _ _ _ _ _ _, kept5 _ _ _ _ _ _⟩
  rintro W ⟨⟨Zb, Z1, Z2, Za, Zo⟩, TW⟩
  obtain ⟨g', c', w1, hap, hg', hR', hK⟩ := append_new 24 W (some ⟨g, 0, none⟩) cs cs.length cap rfl ((hR.kept TW (by simp)).sl) (by simp) hl
  have hb0 := cell_of_blk Zb (i := 0) rfl
  have Wb := lt_of_blk Zb
  have Wl := lt_of_blk Zo
  have zb := hK.blk Zb (by simp)
  have z1 := hK.blk Z1 (by simp)
  have z2 := hK.blk Z2 (by simp)
  have za := hK.blk Za (by simp)
  have zo := hK.blk Zo (by simp)
  have a0 := cell_of_blk za (i := 0) rfl
  have a1 := cell_of_blk za (i := 1) rfl
  have a2 := cell_of_blk za (i := 2) rfl
  have a3 := cell_of_blk za (i := 3) rfl
  have a4 := cell_of_blk za (i := 4) rfl
  have a5 := cell_of_blk za (i := 5) rfl
  have o0 := cell_of_blk zo (i := 0) rfl
  have o1 := cell_of_blk zo (i := 1) rfl
  have o2 := cell_of_blk zo (i := 2) rfl
  have o3 := cell_of_blk zo (i := 3) rfl
  have o4 := cell_of_blk zo (i := 4) rfl
  have o5 := cell_of_blk zo (i := 5) rfl
  have o6 := cell_of_blk zo (i := 6) rfl
  have o7 := cell_of_blk zo (i := 7) rfl
  have p0 := cell_of_blk z1 (i := 0) rfl
  have p1 := cell_of_blk z1 (i := 1) rfl
  have p2 := cell_of_blk z1 (i := 2) rfl
  have p3 := cell_of_blk z1 (i := 3) rfl
  have p4 := cell_of_blk z1 (i := 4) rfl
  have p5 := cell_of_blk z1 (i := 5) rfl
  have p6 := cell_of_blk z1 (i := 6) rfl
  have p7 := cell_of_blk z1 (i := 7) rfl
  have q0 := cell_of_blk z2 (i := 0) rfl
  have q1 := cell_of_blk z2 (i := 1) rfl
  have q2 := cell_of_blk z2 (i := 2) rfl
  have q3 := cell_of_blk z2 (i := 3) rfl
  have q4 := cell_of_blk z2 (i := 4) rfl
  have q5 := cell_of_blk z2 (i := 5) rfl
  have f1 := free_of_blk z1
  have f2 := free_of_blk z2
  have fo := free_of_blk zo
  have cg := hR'.cell hi
  have fg := hR'.free i
  have gl := hR'.lt
  have d1 : ¬ g' = w.heap.size + 1 := by omega
  have hnew : w.heap.size ≤ g' := by omega
  have d2 : ¬ g' = w.heap.size + 1 + 1 := by omega
  have d3 : ¬ g' = w.heap.size + 1 + 1 + 1 := by omega
  have d4 : ¬ g' = w.heap.size + 1 + 1 + 1 + 1 := by omega
  have wl := lt_of_blk zo
  clear Zb Z1 Z2 Za Zo l1 l2 l3 l4 l5 hcell
  have HZ : Hid _ := And.intro z1 (And.intro z2 (And.intro za zo))
  have TT := TW.trans hK
  clear zb z1 z2 za zo hK
  go_wp2_with (at_builtin; refine wpList_append_run rfl (.tmp 76) (.tmp 78) 24 rfl rfl rfl hap ?_)
  obtain ⟨z1, z2, za, zo⟩ := HZ.out
  obtain ⟨yo, yR, yK⟩ := rdo_tail (i := i) zo hR' d4 hi (.slice (some ⟨g', 0, none⟩) cs.length c') v (.int .i64 2) (.int .i64 i) (.int .u64 via) (.int .u64 had) (.int .u64 v) (.bool true)
  clear a0 a1 a2 a3 a4 a5 o0 o1 o2 o3 o4 o5 o6 o7 p0 p1 p2 p3 p4 p5 p6 p7 q0 q1 q2 q3 q4 q5 f1 f2 fo cg fg hap hb0
  refine gen_world (fun W2 => (W2.heap[w.heap.size + 1]? = some (.cells #[.slice none 0 0, .int .i64 0, .int .i64 0, .int .i64 0, .int .u64 0, .int .u64 0, .int .u64 0, .bool false] 33 (0, 0)) ∧
    W2.heap[w.heap.size + 1 + 1]? = some (.cells #[.int .i64 0, .int .i64 0, .int .u64 0, .int .u64 0, .int .u64 0, .bool false] 31 (0, 0)) ∧
    W2.heap[w.heap.size + 1 + 1 + 1]? = some (.cells #[.int .i64 2, .int .i64 i, .int .u64 via, .int .u64 had, .int .u64 v, .bool true] 31 (0, 0)) ∧
    W2.heap[w.heap.size + 1 + 1 + 1 + 1]? = some (.cells #[.slice (some ⟨g', 0, none⟩) cs.length c', .int .i64 (cnt + 1), .int .i64 2, .int .i64 i, .int .u64 via, .int .u64 had, .int .u64 v, .bool true] 33 (0, 0))) ∧ RowR W2 g' (cs.set i v) c' ∧ Kept [] w W2) ?_ ?_
  · exact ⟨⟨yK.blk z1 (by simp; omega), yK.blk z2 (by simp; omega), yK.blk za (by simp; omega), yo⟩, yR, TT.then yK (by simp; omega)⟩
  clear yo yR yK z1 z2 za zo HZ TT hR' gl wl Wl Wb TW hR hgl
  rintro W2 ⟨⟨z1, z2, za, zo⟩, R2, T2⟩
  have a0 := cell_of_blk za (i := 0) rfl
  have a1 := cell_of_blk za (i := 1) rfl
  have a2 := cell_of_blk za (i := 2) rfl
  have a3 := cell_of_blk za (i := 3) rfl
  have a4 := cell_of_blk za (i := 4) rfl
  have a5 := cell_of_blk za (i := 5) rfl
  have o0 := cell_of_blk zo (i := 0) rfl
  have o1 := cell_of_blk zo (i := 1) rfl
  have o2 := cell_of_blk zo (i := 2) rfl
  have o3 := cell_of_blk zo (i := 3) rfl
  have o4 := cell_of_blk zo (i := 4) rfl
  have o5 := cell_of_blk zo (i := 5) rfl
  have o6 := cell_of_blk zo (i := 6) rfl
  have o7 := cell_of_blk zo (i := 7) rfl
  have p0 := cell_of_blk z1 (i := 0) rfl
  have p1 := cell_of_blk z1 (i := 1) rfl
  have p2 := cell_of_blk z1 (i := 2) rfl
  have p3 := cell_of_blk z1 (i := 3) rfl
  have p4 := cell_of_blk z1 (i := 4) rfl
  have p5 := cell_of_blk z1 (i := 5) rfl
  have p6 := cell_of_blk z1 (i := 6) rfl
  have p7 := cell_of_blk z1 (i := 7) rfl
  have q0 := cell_of_blk z2 (i := 0) rfl
  have q1 := cell_of_blk z2 (i := 1) rfl
  have q2 := cell_of_blk z2 (i := 2) rfl
  have q3 := cell_of_blk z2 (i := 3) rfl
  have q4 := cell_of_blk z2 (i := 4) rfl
  have q5 := cell_of_blk z2 (i := 5) rfl
  have f1 := free_of_blk z1
  have f2 := free_of_blk z2
  have wl := lt_of_blk zo
  have ks1 := kept_sets (w.heap.size + 1) [(0, .slice (some ⟨g', 0, none⟩) cs.length c'), (1, .int .i64 (cnt + 1)), (2, .int .i64 2), (3, .int .i64 i), (4, .int .u64 via), (5, .int .u64 had), (6, .int .u64 v), (7, .bool true)] W2
  have ks2 := kept_sets (w.heap.size + 1 + 1) [(0, .int .i64 2), (1, .int .i64 i), (2, .int .u64 via), (3, .int .u64 had), (4, .int .u64 v), (5, .bool true)] (sets (w.heap.size + 1) W2 [(0, .slice (some ⟨g', 0, none⟩) cs.length c'), (1, .int .i64 (cnt + 1)), (2, .int .i64 2), (3, .int .i64 i), (4, .int .u64 via), (5, .int .u64 had), (6, .int .u64 v), (7, .bool true)])
  have RF := (R2.kept ks1 (by simpa using d1)).kept ks2.drew (by simpa using d2)
  have TF := ((T2.then ks1 (by simp)).then ks2 (by simp; omega)).drew
  have HF : Hid _ := And.intro RF TF
  clear ks1 ks2 RF TF R2 T2 z1 z2 za zo
  go_region
  all_goals
    go_wp2
    exact bodyPost_ret (v := .tuple #[rbV (some ⟨g', 0, none⟩) cs.length c' (cnt + 1) ⟨2, i, via, had, v, true⟩, Acc.val ⟨2, i, via, had, v, true⟩]) (by simp [results, Tryz.results88, go_sem, rbV, Acc.val, p0, p1, p2, p3, p4, p5, p6, p7, q0, q1, q2, q3, q4, q5]) rfl ⟨g', c', rfl, Or.inr hnew, HF.out.1, HF.out.2⟩
set_option maxRecDepth 100000 in
set_option maxHeartbeats 1000000 in
theorem rdo_diff3 (g : Nat) (cs : List Int) (cap : Nat) (cnt : Int) (a : Acc) (i : Nat) (via old v had : Int) (w : World) (hR : RowR w g cs cap) (hl : cs.length ≤ 17592186044415) (h0 : 0 ≤ cnt) (h1 : cnt < 4611686018427387904) (hi : i < cs.length) (hcell : w.cell? ⟨g, i, none⟩ = some (.int .u64 had)) (ho : had = old) (hv : ¬ v = had) :
    Calls Tryz.prog 88 #[rbV (some ⟨g, 0, none⟩) cs.length cap cnt a, .int .i64 3, .int .i64 i, .int .u64 via, .int .u64 old, .int .u64 v] w fun e w' =>
      ∃ g' c', e = .returned (.tuple #[rbV (some ⟨g', 0, none⟩) cs.length c' (cnt + 1) ⟨3, i, via, had, v, true⟩, Acc.val ⟨3, i, via, had, v, true⟩]) ∧ (g' = g ∨ w.heap.size ≤ g') ∧ RowR w' g' (cs.set i v) c' ∧ Kept [] w w' := by
  have hgl := hR.lt
  have hi' : (i : Int) < (cs.length : Int) := by omega
  have l1 : g < w.heap.size + 1 := by omega
  have l2 : g < w.heap.size + 1 + 1 := by omega
  have l3 : g < w.heap.size + 1 + 1 + 1 := by omega
  have l4 : g < w.heap.size + 1 + 1 + 1 + 1 := by omega
  have l5 : g < w.heap.size + 1 + 1 + 1 + 1 + 1 := by omega
  simp only [rbV]
  subst ho
  go_enter Tryz.func88, Tryz.ntmps88
  go_upto_region 13 with (fail)
  refine gen_world (fun W => (W.heap[w.heap.size]? = some (.cells #[.slice (some ⟨g, 0, none⟩) cs.length cap, .int .i64 cnt, .int .i64 a.k, .int .i64 a.c, .int .u64 a.v, .int .u64 a.o, .int .u64 a.n, .bool a.d] 33 (0, 0)) ∧
    W.heap[w.heap.size + 1]? = some (.cells #[.slice none 0 0, .int .i64 0, .int .i64 0, .int .i64 0, .int .u64 0, .int .u64 0, .int .u64 0, .bool false] 33 (0, 0)) ∧
    W.heap[w.heap.size + 1 + 1]? = some (.cells #[.int .i64 0, .int .i64 0, .int .u64 0, .int .u64 0, .int .u64 0, .bool false] 31 (0, 0)) ∧
    W.heap[w.heap.size + 1 + 1 + 1]? = some (.cells #[.int .i64 3, .int .i64 i, .int .u64 via, .int .u64 had, .int .u64 v, .bool true] 31 (0, 0)) ∧
    W.heap[w.heap.size + 1 + 1 + 1 + 1]? = some (.cells #[.slice (some ⟨g, 0, none⟩) cs.length cap, .int .i64 (cnt + 1), .int .i64 0, .int .i64 0, .int .u64 0, .int .u64 0, .int .u64 0, .bool false] 33 (0, 0))) ∧ Kept [] w W) ?_ ?_
  · exact ⟨blk5 _ _ _ _ _ _, kept5 _ _ _ _ _ _⟩
  rintro W ⟨⟨Zb, Z1, Z2, Za, Zo⟩, TW⟩
  obtain ⟨g', c', w1, hap, hg', hR', hK⟩ := append_new 24 W (some ⟨g, 0, none⟩) cs cs.length cap rfl ((hR.kept TW (by simp)).sl) (by simp) hl
  have hb0 := cell_of_blk Zb (i := 0) rfl
  have Wb := lt_of_blk Zb
  have Wl := lt_of_blk Zo
  have zb := hK.blk Zb (by simp)
  have z1 := hK.blk Z1 (by simp)
  have z2 := hK.blk Z2 (by simp)
  have za := hK.blk Za (by simp)
  have zo := hK.blk Zo (by simp)
  have a0 := cell_of_blk za (i := 0) rfl
  have a1 := cell_of_blk za (i := 1) rfl
  have a2 := cell_of_blk za (i := 2) rfl
  have a3 := cell_of_blk za (i := 3) rfl
  have a4 := cell_of_blk za (i := 4) rfl
  have a5 := cell_of_blk za (i := 5) rfl
  have o0 := cell_of_blk zo (i := 0) rfl
  have o1 := cell_of_blk zo (i := 1) rfl
  have o2 := cell_of_blk zo (i := 2) rfl
  have o3 := cell_of_blk zo (i := 3) rfl
  have o4 := cell_of_blk zo (i := 4) rfl
  have o5 := cell_of_blk zo (i := 5) rfl
  have o6 := cell_of_blk zo (i := 6) rfl
  have o7 := cell_of_blk zo (i := 7) rfl
  have p0 := cell_of_blk z1 (i := 0) rfl
  have p1 := cell_of_blk z1 (i := 1) rfl
  have p2 := cell_of_blk z1 (i := 2) rfl
  have p3 := cell_of_blk z1 (i := 3) rfl
  have p4 := cell_of_blk z1 (i := 4) rfl
  have p5 := cell_of_blk z1 (i := 5) rfl
  have p6 := cell_of_blk z1 (i := 6) rfl
  have p7 := cell_of_blk z1 (i := 7) rfl
  have q0 := cell_of_blk z2 (i := 0) rfl
  have q1 := cell_of_blk z2 (i := 1) rfl
  have q2 := cell_of_blk z2 (i := 2) rfl
  have q3 := cell_of_blk z2 (i := 3) rfl
  have q4 := cell_of_blk z2 (i := 4) rfl
  have q5 := cell_of_blk z2 (i := 5) rfl
  have f1 := free_of_blk z1
  have f2 := free_of_blk z2
  have fo := free_of_blk zo
  have cg := hR'.cell hi
  have fg := hR'.free i
  have gl := hR'.lt
  have d1 : ¬ g' = w.heap.size + 1 := by omega
  have hnew : w.heap.size ≤ g' := by omega
  have d2 : ¬ g' = w.heap.size + 1 + 1 := by omega
  have d3 : ¬ g' = w.heap.size + 1 + 1 + 1 := by omega
  have d4 : ¬ g' = w.heap.size + 1 + 1 + 1 + 1 := by omega
  have wl := lt_of_blk zo
  clear Zb Z1 Z2 Za Zo l1 l2 l3 l4 l5 hcell
  have HZ : Hid _ := And.intro z1 (And.intro z2 (And.intro za zo))
  have TT := TW.trans hK
  clear zb z1 z2 za zo hK
  go_wp2_with (at_builtin; refine wpList_append_run rfl (.tmp 76) (.tmp 78) 24 rfl rfl rfl hap ?_)
  obtain ⟨z1, z2, za, zo⟩ := HZ.out
  obtain ⟨yo, yR, yK⟩ := rdo_tail (i := i) zo hR' d4 hi (.slice (some ⟨g', 0, none⟩) cs.length c') v (.int .i64 3) (.int .i64 i) (.int .u64 via) (.int .u64 had) (.int .u64 v) (.bool true)
  clear a0 a1 a2 a3 a4 a5 o0 o1 o2 o3 o4 o5 o6 o7 p0 p1 p2 p3 p4 p5 p6 p7 q0 q1 q2 q3 q4 q5 f1 f2 fo cg fg hap hb0
  refine gen_world (fun W2 => (W2.heap[w.heap.size + 1]? = some (.cells #[.slice none 0 0, .int .i64 0, .int .i64 0, .int .i64 0, .int .u64 0, .int .u64 0, .int .u64 0, .bool false] 33 (0, 0)) ∧
    W2.heap[w.heap.size + 1 + 1]? = some (.cells #[.int .i64 0, .int .i64 0, .int .u64 0, .int .u64 0, .int .u64 0, .bool false] 31 (0, 0)) ∧
    W2.heap[w.heap.size + 1 + 1 + 1]? = some (.cells #[.int .i64 3, .int .i64 i, .int .u64 via, .int .u64 had, .int .u64 v, .bool true] 31 (0, 0)) ∧
    W2.heap[w.heap.size + 1 + 1 + 1 + 1]? = some (.cells #[.slice (some ⟨g', 0, none⟩) cs.length c', .int .i64 (cnt + 1), .int .i64 3, .int .i64 i, .int .u64 via, .int .u64 had, .int .u64 v, .bool true] 33 (0, 0))) ∧ RowR W2 g' (cs.set i v) c' ∧ Kept [] w W2) ?_ ?_
  · exact ⟨⟨yK.blk z1 (by simp; omega), yK.blk z2 (by simp; omega), yK.blk za (by simp; omega), yo⟩, yR, TT.then yK (by simp; omega)⟩
  clear yo yR yK z1 z2 za zo HZ TT hR' gl wl Wl Wb TW hR hgl
  rintro W2 ⟨⟨z1, z2, za, zo⟩, R2, T2⟩
  have a0 := cell_of_blk za (i := 0) rfl
  have a1 := cell_of_blk za (i := 1) rfl
  have a2 := cell_of_blk za (i := 2) rfl
  have a3 := cell_of_blk za (i := 3) rfl
  have a4 := cell_of_blk za (i := 4) rfl
  have a5 := cell_of_blk za (i := 5) rfl
  have o0 := cell_of_blk zo (i := 0) rfl
  have o1 := cell_of_blk zo (i := 1) rfl
  have o2 := cell_of_blk zo (i := 2) rfl
  have o3 := cell_of_blk zo (i := 3) rfl
  have o4 := cell_of_blk zo (i := 4) rfl
  have o5 := cell_of_blk zo (i := 5) rfl
  have o6 := cell_of_blk zo (i := 6) rfl
  have o7 := cell_of_blk zo (i := 7) rfl
  have p0 := cell_of_blk z1 (i := 0) rfl
  have p1 := cell_of_blk z1 (i := 1) rfl
  have p2 := cell_of_blk z1 (i := 2) rfl
  have p3 := cell_of_blk z1 (i := 3) rfl
  have p4 := cell_of_blk z1 (i := 4) rfl
  have p5 := cell_of_blk z1 (i := 5) rfl
  have p6 := cell_of_blk z1 (i := 6) rfl
  have p7 := cell_of_blk z1 (i := 7) rfl
  have q0 := cell_of_blk z2 (i := 0) rfl
  have q1 := cell_of_blk z2 (i := 1) rfl
  have q2 := cell_of_blk z2 (i := 2) rfl
  have q3 := cell_of_blk z2 (i := 3) rfl
  have q4 := cell_of_blk z2 (i := 4) rfl
  have q5 := cell_of_blk z2 (i := 5) rfl
  have f1 := free_of_blk z1
  have f2 := free_of_blk z2
  have wl := lt_of_blk zo
  have ks1 := kept_sets (w.heap.size + 1) [(0, .slice (some ⟨g', 0, none⟩) cs.length c'), (1, .int .i64 (cnt + 1)), (2, .int .i64 3), (3, .int .i64 i), (4, .int .u64 via), (5, .int .u64 had), (6, .int .u64 v), (7, .bool true)] W2
  have ks2 := kept_sets (w.heap.size + 1 + 1) [(0, .int .i64 3), (1, .int .i64 i), (2, .int .u64 via), (3, .int .u64 had), (4, .int .u64 v), (5, .bool true)] (sets (w.heap.size + 1) W2 [(0, .slice (some ⟨g', 0, none⟩) cs.length c'), (1, .int .i64 (cnt + 1)), (2, .int .i64 3), (3, .int .i64 i), (4, .int .u64 via), (5, .int .u64 had), (6, .int .u64 v), (7, .bool true)])
  have RF := (R2.kept ks1 (by simpa using d1)).kept ks2.drew (by simpa using d2)
  have TF := ((T2.then ks1 (by simp)).then ks2 (by simp; omega)).drew
  have HF : Hid _ := And.intro RF TF
  clear ks1 ks2 RF TF R2 T2 z1 z2 za zo
  go_region
  all_goals
    go_wp2
    exact bodyPost_ret (v := .tuple #[rbV (some ⟨g', 0, none⟩) cs.length c' (cnt + 1) ⟨3, i, via, had, v, true⟩, Acc.val ⟨3, i, via, had, v, true⟩]) (by simp [results, Tryz.results88, go_sem, rbV, Acc.val, p0, p1, p2, p3, p4, p5, p6, p7, q0, q1, q2, q3, q4, q5]) rfl ⟨g', c', rfl, Or.inr hnew, HF.out.1, HF.out.2⟩
set_option maxRecDepth 100000 in
set_option maxHeartbeats 1000000 in
theorem rdo_diff4 (g : Nat) (cs : List Int) (cap : Nat) (cnt : Int) (a : Acc) (i : Nat) (via old v had : Int) (w : World) (hR : RowR w g cs cap) (hl : cs.length ≤ 17592186044415) (h0 : 0 ≤ cnt) (h1 : cnt < 4611686018427387904) (hi : i < cs.length) (hcell : w.cell? ⟨g, i, none⟩ = some (.int .u64 had)) (X : Int) (hw : IntKind.u64.wrap (had + v) = X) (hv : ¬ X = had) :
    Calls Tryz.prog 88 #[rbV (some ⟨g, 0, none⟩) cs.length cap cnt a, .int .i64 4, .int .i64 i, .int .u64 via, .int .u64 old, .int .u64 v] w fun e w' =>
      ∃ g' c', e = .returned (.tuple #[rbV (some ⟨g', 0, none⟩) cs.length c' (cnt + 1) ⟨4, i, via, had, X, true⟩, Acc.val ⟨4, i, via, had, X, true⟩]) ∧ (g' = g ∨ w.heap.size ≤ g') ∧ RowR w' g' (cs.set i X) c' ∧ Kept [] w w' := by
  have hgl := hR.lt
  have hi' : (i : Int) < (cs.length : Int) := by omega
  have l1 : g < w.heap.size + 1 := by omega
  have l2 : g < w.heap.size + 1 + 1 := by omega
  have l3 : g < w.heap.size + 1 + 1 + 1 := by omega
  have l4 : g < w.heap.size + 1 + 1 + 1 + 1 := by omega
  have l5 : g < w.heap.size + 1 + 1 + 1 + 1 + 1 := by omega
  simp only [rbV]
  go_enter Tryz.func88, Tryz.ntmps88
  go_upto_region 13 with (fail)
  refine gen_world (fun W => (W.heap[w.heap.size]? = some (.cells #[.slice (some ⟨g, 0, none⟩) cs.length cap, .int .i64 cnt, .int .i64 a.k, .int .i64 a.c, .int .u64 a.v, .int .u64 a.o, .int .u64 a.n, .bool a.d] 33 (0, 0)) ∧
    W.heap[w.heap.size + 1]? = some (.cells #[.slice none 0 0, .int .i64 0, .int .i64 0, .int .i64 0, .int .u64 0, .int .u64 0, .int .u64 0, .bool false] 33 (0, 0)) ∧
    W.heap[w.heap.size + 1 + 1]? = some (.cells #[.int .i64 0, .int .i64 0, .int .u64 0, .int .u64 0, .int .u64 0, .bool false] 31 (0, 0)) ∧
    W.heap[w.heap.size + 1 + 1 + 1]? = some (.cells #[.int .i64 4, .int .i64 i, .int .u64 via, .int .u64 had, .int .u64 X, .bool true] 31 (0, 0)) ∧
    W.heap[w.heap.size + 1 + 1 + 1 + 1]? = some (.cells #[.slice (some ⟨g, 0, none⟩) cs.length cap, .int .i64 (cnt + 1), .int .i64 0, .int .i64 0, .int .u64 0, .int .u64 0, .int .u64 0, .bool false] 33 (0, 0))) ∧ Kept [] w W) ?_ ?_
  · exact ⟨blk5 _ _ _ _ _ _, kept5 _ _ _ _ _ _⟩
  rintro W ⟨⟨Zb, Z1, Z2, Za, Zo⟩, TW⟩
  obtain ⟨g', c', w1, hap, hg', hR', hK⟩ := append_new 24 W (some ⟨g, 0, none⟩) cs cs.length cap rfl ((hR.kept TW (by simp)).sl) (by simp) hl
  have hb0 := cell_of_blk Zb (i := 0) rfl
  have Wb := lt_of_blk Zb
  have Wl := lt_of_blk Zo
  have zb := hK.blk Zb (by simp)
  have z1 := hK.blk Z1 (by simp)
  have z2 := hK.blk Z2 (by simp)
  have za := hK.blk Za (by simp)
  have zo := hK.blk Zo (by simp)
  have a0 := cell_of_blk za (i := 0) rfl
  have a1 := cell_of_blk za (i := 1) rfl
  have a2 := cell_of_blk za (i := 2) rfl
  have a3 := cell_of_blk za (i := 3) rfl
  have a4 := cell_of_blk za (i := 4) rfl
  have a5 := cell_of_blk za (i := 5) rfl
  have o0 := cell_of_blk zo (i := 0) rfl
  have o1 := cell_of_blk zo (i := 1) rfl
  have o2 := cell_of_blk zo (i := 2) rfl
  have o3 := cell_of_blk zo (i := 3) rfl
  have o4 := cell_of_blk zo (i := 4) rfl
  have o5 := cell_of_blk zo (i := 5) rfl
  have o6 := cell_of_blk zo (i := 6) rfl
  have o7 := cell_of_blk zo (i := 7) rfl
  have p0 := cell_of_blk z1 (i := 0) rfl
  have p1 := cell_of_blk z1 (i := 1) rfl
  have p2 := cell_of_blk z1 (i := 2) rfl
  have p3 := cell_of_blk z1 (i := 3) rfl
  have p4 := cell_of_blk z1 (i := 4) rfl
  have p5 := cell_of_blk z1 (i := 5) rfl
  have p6 := cell_of_blk z1 (i := 6) rfl
  have p7 := cell_of_blk z1 (i := 7) rfl
  have q0 := cell_of_blk z2 (i := 0) rfl
  have q1 := cell_of_blk z2 (i := 1) rfl
  have q2 := cell_of_blk z2 (i := 2) rfl
  have q3 := cell_of_blk z2 (i := 3) rfl
  have q4 := cell_of_blk z2 (i := 4) rfl
  have q5 := cell_of_blk z2 (i := 5) rfl
  have f1 := free_of_blk z1
  have f2 := free_of_blk z2
  have fo := free_of_blk zo
  have cg := hR'.cell hi
  have fg := hR'.free i
  have gl := hR'.lt
  have d1 : ¬ g' = w.heap.size + 1 := by omega
  have hnew : w.heap.size ≤ g' := by omega
  have d2 : ¬ g' = w.heap.size + 1 + 1 := by omega
  have d3 : ¬ g' = w.heap.size + 1 + 1 + 1 := by omega
  have d4 : ¬ g' = w.heap.size + 1 + 1 + 1 + 1 := by omega
  have wl := lt_of_blk zo
  clear Zb Z1 Z2 Za Zo l1 l2 l3 l4 l5 hcell
  have HZ : Hid _ := And.intro z1 (And.intro z2 (And.intro za zo))
  have TT := TW.trans hK
  clear zb z1 z2 za zo hK
  go_wp2_with (at_builtin; refine wpList_append_run rfl (.tmp 76) (.tmp 78) 24 rfl rfl rfl hap ?_)
  obtain ⟨z1, z2, za, zo⟩ := HZ.out
  obtain ⟨yo, yR, yK⟩ := rdo_tail (i := i) zo hR' d4 hi (.slice (some ⟨g', 0, none⟩) cs.length c') X (.int .i64 4) (.int .i64 i) (.int .u64 via) (.int .u64 had) (.int .u64 X) (.bool true)
  clear a0 a1 a2 a3 a4 a5 o0 o1 o2 o3 o4 o5 o6 o7 p0 p1 p2 p3 p4 p5 p6 p7 q0 q1 q2 q3 q4 q5 f1 f2 fo cg fg hap hb0
  refine gen_world (fun W2 => (W2.heap[w.heap.size + 1]? = some (.cells #[.slice none 0 0, .int .i64 0, .int .i64 0, .int .i64 0, .int .u64 0, .int .u64 0, .int .u64 0, .bool false] 33 (0, 0)) ∧
    W2.heap[w.heap.size + 1 + 1]? = some (.cells #[.int .i64 0, .int .i64 0, .int .u64 0, .int .u64 0, .int .u64 0, .bool false] 31 (0, 0)) ∧
    W2.heap[w.heap.size + 1 + 1 + 1]? = some (.cells #[.int .i64 4, .int .i64 i, .int .u64 via, .int .u64 had, .int .u64 X, .bool true] 31 (0, 0)) ∧
    W2.heap[w.heap.size + 1 + 1 + 1 + 1]? = some (.cells #[.slice (some ⟨g', 0, none⟩) cs.length c', .int .i64 (cnt + 1), .int .i64 4, .int .i64 i, .int .u64 via, .int .u64 had, .int .u64 X, .bool true] 33 (0, 0))) ∧ RowR W2 g' (cs.set i X) c' ∧ Kept [] w W2) ?_ ?_
  · exact ⟨⟨yK.blk z1 (by simp; omega), yK.blk z2 (by simp; omega), yK.blk za (by simp; omega), yo⟩, yR, TT.then yK (by simp; omega)⟩
  clear yo yR yK z1 z2 za zo HZ TT hR' gl wl Wl Wb TW hR hgl
  rintro W2 ⟨⟨z1, z2, za, zo⟩, R2, T2⟩
  have a0 := cell_of_blk za (i := 0) rfl
  have a1 := cell_of_blk za (i := 1) rfl
  have a2 := cell_of_blk za (i := 2) rfl
  have a3 := cell_of_blk za (i := 3) rfl
  have a4 := cell_of_blk za (i := 4) rfl
  have a5 := cell_of_blk za (i := 5) rfl
  have o0 := cell_of_blk zo (i := 0) rfl
  have o1 := cell_of_blk zo (i := 1) rfl
  have o2 := cell_of_blk zo (i := 2) rfl
  have o3 := cell_of_blk zo (i := 3) rfl
  have o4 := cell_of_blk zo (i := 4) rfl
  have o5 := cell_of_blk zo (i := 5) rfl
  have o6 := cell_of_blk zo (i := 6) rfl
  have o7 := cell_of_blk zo (i := 7) rfl
  have p0 := cell_of_blk z1 (i := 0) rfl
  have p1 := cell_of_blk z1 (i := 1) rfl
  have p2 := cell_of_blk z1 (i := 2) rfl
  have p3 := cell_of_blk z1 (i := 3) rfl
  have p4 := cell_of_blk z1 (i := 4) rfl
  have p5 := cell_of_blk z1 (i := 5) rfl
  have p6 := cell_of_blk z1 (i := 6) rfl
  have p7 := cell_of_blk z1 (i := 7) rfl
  have q0 := cell_of_blk z2 (i := 0) rfl
  have q1 := cell_of_blk z2 (i := 1) rfl
  have q2 := cell_of_blk z2 (i := 2) rfl
  have q3 := cell_of_blk z2 (i := 3) rfl
  have q4 := cell_of_blk z2 (i := 4) rfl
  have q5 := cell_of_blk z2 (i := 5) rfl
  have f1 := free_of_blk z1
  have f2 := free_of_blk z2
  have wl := lt_of_blk zo
  have ks1 := kept_sets (w.heap.size + 1) [(0, .slice (some ⟨g', 0, none⟩) cs.length c'), (1, .int .i64 (cnt + 1)), (2, .int .i64 4), (3, .int .i64 i), (4, .int .u64 via), (5, .int .u64 had), (6, .int .u64 X), (7, .bool true)] W2
  have ks2 := kept_sets (w.heap.size + 1 + 1) [(0, .int .i64 4), (1, .int .i64 i), (2, .int .u64 via), (3, .int .u64 had), (4, .int .u64 X), (5, .bool true)] (sets (w.heap.size + 1) W2 [(0, .slice (some ⟨g', 0, none⟩) cs.length c'), (1, .int .i64 (cnt + 1)), (2, .int .i64 4), (3, .int .i64 i), (4, .int .u64 via), (5, .int .u64 had), (6, .int .u64 X), (7, .bool true)])
  have RF := (R2.kept ks1 (by simpa using d1)).kept ks2.drew (by simpa using d2)
  have TF := ((T2.then ks1 (by simp)).then ks2 (by simp; omega)).drew
  have HF : Hid _ := And.intro RF TF
  clear ks1 ks2 RF TF R2 T2 z1 z2 za zo
  go_region
  all_goals
    go_wp2
    exact bodyPost_ret (v := .tuple #[rbV (some ⟨g', 0, none⟩) cs.length c' (cnt + 1) ⟨4, i, via, had, X, true⟩, Acc.val ⟨4, i, via, had, X, true⟩]) (by simp [results, Tryz.results88, go_sem, rbV, Acc.val, p0, p1, p2, p3, p4, p5, p6, p7, q0, q1, q2, q3, q4, q5]) rfl ⟨g', c', rfl, Or.inr hnew, HF.out.1, HF.out.2⟩
theorem rdo_any (g : Nat) (cs : List Int) (cap : Nat) (cnt : Int) (a : Acc) (k c via old v : Int) (w : World) (hR : RowR w g cs cap) (hl : cs.length ≤ 17592186044415) (h0 : 0 ≤ cnt) (h1 : cnt < 4611686018427387904) :
    Calls Tryz.prog 88 #[rbV (some ⟨g, 0, none⟩) cs.length cap cnt a, .int .i64 k, .int .i64 c, .int .u64 via, .int .u64 old, .int .u64 v] w fun e w' =>
      ∃ g' c', e = .returned (.tuple #[rbV (some ⟨g', 0, none⟩) cs.length c' (cnt + 1) (acV cs k c via old v), (acV cs k c via old v).val]) ∧ (g' = g ∨ w.heap.size ≤ g') ∧ RowR w' g' (clV cs k c old v) c' ∧ Kept [] w w' := by
  by_cases hc : hasC cs c
  · have e1 : acV cs k c via old v = ⟨k, c, via, cs.getD c.toNat 0, bhV k (cs.getD c.toNat 0) old v, bhB k (cs.getD c.toNat 0) old⟩ := if_pos hc
    have e2 : clV cs k c old v = cs.set c.toNat (bhV k (cs.getD c.toNat 0) old v) := if_pos hc
    rw [e1, e2]
    clear e1 e2
    obtain ⟨hc0, hc1⟩ := hc
    obtain ⟨i, rfl⟩ : ∃ i : Nat, c = i := ⟨c.toNat, by omega⟩
    have hi : i < cs.length := by omega
    rw [show ((i : Int)).toNat = i from rfl]
    have hcell : w.cell? ⟨g, i, none⟩ = some (.int .u64 (cs.getD i 0)) := by rw [hR.cell hi]; simp [hi]
    have hset : cs.set i (cs.getD i 0) = cs := set_same cs i hi _ rfl
    generalize cs.getD i 0 = had at hcell hset ⊢
    by_cases k2 : k = 2
    · subst k2
      rw [show bhV 2 had old v = v from by simp [bhV], show bhB 2 had old = true from by simp [bhB]]
      by_cases hv : v = had
      · subst hv; exact rdo_same2 g cs cap cnt a i via old v v w hR hl h0 h1 hi hcell hset
      · exact rdo_diff2 g cs cap cnt a i via old v had w hR hl h0 h1 hi hcell hv
    by_cases k3 : k = 3
    · subst k3
      by_cases ho : had = old
      · rw [show bhV 3 had old v = v from by simp [bhV, ho], show bhB 3 had old = true from by simp [bhB, ho]]
        by_cases hv : v = had
        · subst hv; exact rdo_same3 g cs cap cnt a i via old v v w hR hl h0 h1 hi hcell ho hset
        · exact rdo_diff3 g cs cap cnt a i via old v had w hR hl h0 h1 hi hcell ho hv
      · rw [show bhV 3 had old v = had from by simp [bhV, ho], show bhB 3 had old = false from by simp [bhB, ho]]
        exact rdo_miss3 g cs cap cnt a i via old v had w hR hl h0 h1 hi hcell ho hset
    by_cases k4 : k = 4
    · subst k4
      rw [show bhV 4 had old v = IntKind.u64.wrap (had + v) from by simp [bhV, add64], show bhB 4 had old = true from by simp [bhB]]
      by_cases hv : IntKind.u64.wrap (had + v) = had
      · rw [hv]; exact rdo_same4 g cs cap cnt a i via old v had w hR hl h0 h1 hi hcell hv hset
      · exact rdo_diff4 g cs cap cnt a i via old v had w hR hl h0 h1 hi hcell _ rfl hv
    · rw [show bhV k had old v = had from by simp [bhV, k2, k3, k4], show bhB k had old = true from by simp [bhB, k3]]
      exact rdo_load g cs cap cnt a i via old v had w hR hl h0 h1 hi hcell k k2 k3 k4 hset
  · exact rdo_no g cs cap cnt a k c via old v w hR hl h0 h1 hc
end Go.Proofs.YtgafmklfpiipcaaGreatDoor
