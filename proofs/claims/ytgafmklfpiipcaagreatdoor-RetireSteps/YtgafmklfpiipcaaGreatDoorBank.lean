/-
  The contracts of package bank: a bank is a block of its own and a row of words; what each call makes of them.
-/
import Derived.Test.YtgafmklfpiipcaaGreatDoorMem
namespace Go.Proofs.YtgafmklfpiipcaaGreatDoor
open Go.RowKit (Grown Hid Below)
open Go.Deep

def add64 (a b : Int) : Int := IntKind.u64.wrap (a + b)
/-- What a cell has behind an access, and whether that is done. -/
def bhV (k had old v : Int) : Int := if k = 2 then v else if k = 3 then (if had = old then v else had) else if k = 4 then add64 had v else had
def bhB (k had old : Int) : Bool := !(k == 3) || had == old
theorem tup2 {a b : Int} {c d : Bool} (h : a = b) (k : c = d) : Ending.returned (.tuple #[.int .u64 a, .bool c]) = .returned (.tuple #[.int .u64 b, .bool d]) := by rw [h, k]
set_option maxRecDepth 100000 in
theorem behind_any (k had old v : Int) (w : World) :
    Calls Tryz.prog 87 #[.int .i64 k, .int .u64 had, .int .u64 old, .int .u64 v] w fun e w' => e = .returned (.tuple #[.int .u64 (bhV k had old v), .bool (bhB k had old)]) ∧ w' = w := by
  by_cases h2 : k = 2
  · subst h2
    go_enter Tryz.func87, Tryz.ntmps87
    go_wp2
    go_ret2
    exact ⟨tup2 (by simp [bhV]) (by simp [bhB]), rfl⟩
  by_cases h3 : k = 3
  · subst h3
    by_cases ho : had = old
    · subst ho
      go_enter Tryz.func87, Tryz.ntmps87
      go_wp2
      go_ret2
      exact ⟨tup2 (by simp [bhV]) (by simp [bhB]), rfl⟩
    · go_enter Tryz.func87, Tryz.ntmps87
      go_wp2
      go_ret2
      exact ⟨tup2 (by simp [bhV, ho]) (by simp [bhB, ho]), rfl⟩
  by_cases h4 : k = 4
  · subst h4
    go_enter Tryz.func87, Tryz.ntmps87
    go_wp2
    go_ret2
    exact ⟨tup2 (by simp [bhV, add64]) (by simp [bhB]), rfl⟩
  · go_enter Tryz.func87, Tryz.ntmps87
    go_wp2
    go_ret2
    exact ⟨tup2 (by simp [bhV, h2, h3, h4]) (by simp [bhB, h3]), rfl⟩
/-- An access, as it lies in memory. -/
structure Acc where
  k : Int
  c : Int
  v : Int
  o : Int
  n : Int
  d : Bool
def Acc.val (a : Acc) : Value := .agg #[.int .i64 a.k, .int .i64 a.c, .int .u64 a.v, .int .u64 a.o, .int .u64 a.n, .bool a.d]
/-- A bank: the block p, the row r. -/
structure Bk (w : World) (p r : Nat) (cs : List Int) (cnt : Int) (a : Acc) : Prop where
  st : w.heap[p]? = some (.cells #[.slice (some ⟨r, 0, none⟩) cs.length cs.length, .int .i64 cnt, .int .i64 a.k, .int .i64 a.c, .int .u64 a.v, .int .u64 a.o, .int .u64 a.n, .bool a.d] 143 (0, 0))
  row : Row w r cs
  ne : p ≠ r
  len : cs.length ≤ 17592186044415
theorem Bk.kept {l : List Nat} {w w' : World} {p r : Nat} {cs : List Int} {cnt : Int} {a : Acc} (h : Bk w p r cs cnt a) (k : Kept l w w') (hp : p ∉ l) (hr : r ∉ l) : Bk w' p r cs cnt a :=
  ⟨k.blk h.st hp, h.row.kept k hr, h.ne, h.len⟩
def hasC (cs : List Int) (c : Int) : Prop := 0 ≤ c ∧ c < cs.length
instance (cs : List Int) (c : Int) : Decidable (hasC cs c) := by unfold hasC; infer_instance
/-- The access that is told, and the cells behind it. -/
def acV (cs : List Int) (k c via old v : Int) : Acc := if hasC cs c then ⟨k, c, via, cs.getD c.toNat 0, bhV k (cs.getD c.toNat 0) old v, bhB k (cs.getD c.toNat 0) old⟩ else ⟨k, c, via, 0, 0, false⟩
def clV (cs : List Int) (k c old v : Int) : List Int := if hasC cs c then cs.set c.toNat (bhV k (cs.getD c.toNat 0) old v) else cs

/-- Seven stores into a bank's own block. -/
def wrote7 (w : World) (p : Nat) (b1 b2 b3 b4 b5 b6 b7 : Value) : World :=
  ((((((w.setCell ⟨p, 1, none⟩ b1).setCell ⟨p, 2, none⟩ b2).setCell ⟨p, 3, none⟩ b3).setCell ⟨p, 4, none⟩ b4).setCell ⟨p, 5, none⟩ b5).setCell ⟨p, 6, none⟩ b6).setCell ⟨p, 7, none⟩ b7
theorem wrote7_blk {w : World} {p : Nat} {s a1 a2 a3 a4 a5 a6 a7 : Value} {t : TypeId} (h : w.heap[p]? = some (.cells #[s, a1, a2, a3, a4, a5, a6, a7] t (0, 0))) (b1 b2 b3 b4 b5 b6 b7 : Value) :
    (wrote7 w p b1 b2 b3 b4 b5 b6 b7).heap[p]? = some (.cells #[s, b1, b2, b3, b4, b5, b6, b7] t (0, 0)) := by
  have q := blk_set (blk_set (blk_set (blk_set (blk_set (blk_set (blk_set h 1 b1) 2 b2) 3 b3) 4 b4) 5 b5) 6 b6) 7 b7
  simpa [wrote7] using q
theorem wrote7_kept (w : World) (p : Nat) (l : List Nat) (hp : p ∈ l) (b1 b2 b3 b4 b5 b6 b7 : Value) : Kept l w (wrote7 w p b1 b2 b3 b4 b5 b6 b7) :=
  ((((((((Kept.refl l w).setCell (Or.inl hp) _).setCell (Or.inl hp) _).setCell (Or.inl hp) _).setCell (Or.inl hp) _).setCell (Or.inl hp) _).setCell (Or.inl hp) _).setCell (Or.inl hp) _)
/-- What an access to no cell leaves. -/
theorem bk_no {w : World} {p r : Nat} {cs : List Int} {cnt : Int} {a : Acc} (hB : Bk w p r cs cnt a) (b : Acc) (o1 o2 : Obj) :
    Bk (((wrote7 w p (.int .i64 (cnt + 1)) (.int .i64 b.k) (.int .i64 b.c) (.int .u64 b.v) (.int .u64 b.o) (.int .u64 b.n) (.bool b.d)).alloc o1).alloc o2) p r cs (cnt + 1) b ∧
      Kept [p, r] w (((wrote7 w p (.int .i64 (cnt + 1)) (.int .i64 b.k) (.int .i64 b.c) (.int .u64 b.v) (.int .u64 b.o) (.int .u64 b.n) (.bool b.d)).alloc o1).alloc o2) := by
  have k := wrote7_kept w p [p] (by simp) (.int .i64 (cnt + 1)) (.int .i64 b.k) (.int .i64 b.c) (.int .u64 b.v) (.int .u64 b.o) (.int .u64 b.n) (.bool b.d)
  have g := wrote7_blk hB.st (.int .i64 (cnt + 1)) (.int .i64 b.k) (.int .i64 b.c) (.int .u64 b.v) (.int .u64 b.o) (.int .u64 b.n) (.bool b.d)
  have q : Bk (wrote7 w p (.int .i64 (cnt + 1)) (.int .i64 b.k) (.int .i64 b.c) (.int .u64 b.v) (.int .u64 b.o) (.int .u64 b.n) (.bool b.d)) p r cs (cnt + 1) b :=
    ⟨g, hB.row.kept k (by simpa using fun e => hB.ne e.symm), hB.ne, hB.len⟩
  have two : Kept [] (wrote7 w p (.int .i64 (cnt + 1)) (.int .i64 b.k) (.int .i64 b.c) (.int .u64 b.v) (.int .u64 b.o) (.int .u64 b.n) (.bool b.d)) _ := ((Kept.refl [] _).alloc o1).alloc o2
  exact ⟨q.kept two (by simp) (by simp), (k.weaken (m := [p, r]) (by simp)).then two (by simp)⟩
/-- What an access to a cell leaves. -/
theorem bk_yes {w : World} {p r : Nat} {cs : List Int} {cnt : Int} {a : Acc} (hB : Bk w p r cs cnt a) (b : Acc) (i : Nat) (x : Int) (o1 o2 : Obj) :
    Bk (((wrote7 (w.setCell ⟨r, i, none⟩ (.int .u64 x)) p (.int .i64 (cnt + 1)) (.int .i64 b.k) (.int .i64 b.c) (.int .u64 b.v) (.int .u64 b.o) (.int .u64 b.n) (.bool b.d)).alloc o1).alloc o2) p r (cs.set i x) (cnt + 1) b ∧
      Kept [p, r] w (((wrote7 (w.setCell ⟨r, i, none⟩ (.int .u64 x)) p (.int .i64 (cnt + 1)) (.int .i64 b.k) (.int .i64 b.c) (.int .u64 b.v) (.int .u64 b.o) (.int .u64 b.n) (.bool b.d)).alloc o1).alloc o2) := by
  have k0 : Kept [p, r] w (w.setCell ⟨r, i, none⟩ (.int .u64 x)) := (Kept.refl _ _).setCell (Or.inl (by simp)) _
  have q : Bk (w.setCell ⟨r, i, none⟩ (.int .u64 x)) p r (cs.set i x) cnt a :=
    ⟨by rw [blk_setCell_other _ _ _ _ (by simpa using hB.ne), List.length_set]; exact hB.st, hB.row.set i x, hB.ne, by rw [List.length_set]; exact hB.len⟩
  have z := bk_no q b o1 o2
  exact ⟨z.1, k0.trans z.2⟩

theorem bk_drew {w w' : World} {p r : Nat} {cs : List Int} {cnt : Int} {a : Acc} {l : List Nat} (h : Bk w' p r cs cnt a ∧ Kept l w w') : Bk w'.drew p r cs cnt a ∧ Kept l w w'.drew := ⟨⟨h.1.st, h.1.row, h.1.ne, h.1.len⟩, h.2.drew⟩
set_option maxRecDepth 100000 in
theorem access_no (p r : Nat) (cs : List Int) (cnt : Int) (a : Acc) (k c via old v : Int) (w : World) (hB : Bk w p r cs cnt a) (h0 : 0 ≤ cnt) (h1 : cnt < 4611686018427387904) (hc : ¬ hasC cs c) :
    Calls Tryz.prog 60 #[.pointer (some ⟨p, 0, none⟩), .int .i64 k, .int .i64 c, .int .u64 via, .int .u64 old, .int .u64 v] w fun e w' => e = .returned (acV cs k c via old v).val ∧ Bk w' p r (clV cs k c old v) (cnt + 1) (acV cs k c via old v) ∧ Kept [p, r] w w' := by
  have e1 : acV cs k c via old v = ⟨k, c, via, 0, 0, false⟩ := if_neg hc
  have e2 : clV cs k c old v = cs := if_neg hc
  rw [e1, e2]
  clear e1 e2
  have c0 := cell_of_blk hB.st (i := 0) rfl
  have c1 := cell_of_blk hB.st (i := 1) rfl
  have c2 := cell_of_blk hB.st (i := 2) rfl
  have c3 := cell_of_blk hB.st (i := 3) rfl
  have c4 := cell_of_blk hB.st (i := 4) rfl
  have c5 := cell_of_blk hB.st (i := 5) rfl
  have c6 := cell_of_blk hB.st (i := 6) rfl
  have c7 := cell_of_blk hB.st (i := 7) rfl
  have hf := free_of_blk hB.st
  have hl := hB.len
  have hp := lt_of_blk hB.st
  by_cases hc0 : 0 ≤ c
  · have hc1 : ¬ c < cs.length := fun h => hc ⟨hc0, h⟩
    clear hc
    go_enter Tryz.func60, Tryz.ntmps60
    go_wp2
    exact bodyPost_ret (v := Acc.val ⟨k, c, via, 0, 0, false⟩) (by simp [results, Tryz.results60, go_sem, Acc.val]) rfl ⟨rfl, bk_no hB ⟨k, c, via, 0, 0, false⟩ _ _⟩
  · clear hc
    go_enter Tryz.func60, Tryz.ntmps60
    go_wp2
    exact bodyPost_ret (v := Acc.val ⟨k, c, via, 0, 0, false⟩) (by simp [results, Tryz.results60, go_sem, Acc.val]) rfl ⟨rfl, bk_no hB ⟨k, c, via, 0, 0, false⟩ _ _⟩
set_option maxRecDepth 100000 in
theorem access_yes (p r : Nat) (cs : List Int) (cnt : Int) (a : Acc) (k c via old v : Int) (w : World) (hB : Bk w p r cs cnt a) (h0 : 0 ≤ cnt) (h1 : cnt < 4611686018427387904) (hc : hasC cs c) :
    Calls Tryz.prog 60 #[.pointer (some ⟨p, 0, none⟩), .int .i64 k, .int .i64 c, .int .u64 via, .int .u64 old, .int .u64 v] w fun e w' => e = .returned (acV cs k c via old v).val ∧ Bk w' p r (clV cs k c old v) (cnt + 1) (acV cs k c via old v) ∧ Kept [p, r] w w' := by
  have e1 : acV cs k c via old v = ⟨k, c, via, cs.getD c.toNat 0, bhV k (cs.getD c.toNat 0) old v, bhB k (cs.getD c.toNat 0) old⟩ := if_pos hc
  have e2 : clV cs k c old v = cs.set c.toNat (bhV k (cs.getD c.toNat 0) old v) := if_pos hc
  rw [e1, e2]
  clear e1 e2
  obtain ⟨hc0, hc1⟩ := hc
  obtain ⟨i, rfl⟩ : ∃ i : Nat, c = i := ⟨c.toNat, by omega⟩
  have hi : i < cs.length := by omega
  rw [show ((i : Int)).toNat = i from rfl]
  have cr : w.cell? ⟨r, i, none⟩ = some (.int .u64 (cs.getD i 0)) := by rw [hB.row.cell hi]; simp [hi]
  have hfr := hB.row.free
  have hr := hB.row.lt
  generalize cs.getD i 0 = had at cr ⊢
  have c0 := cell_of_blk hB.st (i := 0) rfl
  have c1 := cell_of_blk hB.st (i := 1) rfl
  have c2 := cell_of_blk hB.st (i := 2) rfl
  have c3 := cell_of_blk hB.st (i := 3) rfl
  have c4 := cell_of_blk hB.st (i := 4) rfl
  have c5 := cell_of_blk hB.st (i := 5) rfl
  have c6 := cell_of_blk hB.st (i := 6) rfl
  have c7 := cell_of_blk hB.st (i := 7) rfl
  have hf := free_of_blk hB.st
  have hl := hB.len
  have hp := lt_of_blk hB.st
  have hne := hB.ne
  have hne' : r ≠ p := fun e => hB.ne e.symm
  go_enter Tryz.func60, Tryz.ntmps60
  go_wp2_with (go_at_call 87; refine (behind_any _ _ _ _ _).mono ?_; rintro e w' ⟨rfl, rfl⟩)
  go_region
  all_goals
    go_wp2
    exact bodyPost_ret (v := Acc.val ⟨k, i, via, had, bhV k had old v, bhB k had old⟩) (by simp [results, Tryz.results60, go_sem, Acc.val]) rfl ⟨rfl, bk_drew (bk_yes hB ⟨k, i, via, had, bhV k had old v, bhB k had old⟩ i (bhV k had old v) _ _)⟩
theorem access_any (p r : Nat) (cs : List Int) (cnt : Int) (a : Acc) (k c via old v : Int) (w : World) (hB : Bk w p r cs cnt a) (h0 : 0 ≤ cnt) (h1 : cnt < 4611686018427387904) :
    Calls Tryz.prog 60 #[.pointer (some ⟨p, 0, none⟩), .int .i64 k, .int .i64 c, .int .u64 via, .int .u64 old, .int .u64 v] w fun e w' => e = .returned (acV cs k c via old v).val ∧ Bk w' p r (clV cs k c old v) (cnt + 1) (acV cs k c via old v) ∧ Kept [p, r] w w' := by
  by_cases hc : hasC cs c
  · exact access_yes p r cs cnt a k c via old v w hB h0 h1 hc
  · exact access_no p r cs cnt a k c via old v w hB h0 h1 hc
theorem fld3 (a : Acc) (w : World) : (Instr.field 103 a.val 3).run Tryz.prog w = .ok (.int .u64 a.o) w := by kernel_rfl
theorem fld5 (a : Acc) (w : World) : (Instr.field 103 a.val 5).run Tryz.prog w = .ok (.bool a.d) w := by kernel_rfl
set_option maxRecDepth 100000 in
theorem load_any (p r : Nat) (cs : List Int) (cnt : Int) (a : Acc) (c via : Int) (w : World) (hB : Bk w p r cs cnt a) (h0 : 0 ≤ cnt) (h1 : cnt < 4611686018427387904) :
    Calls Tryz.prog 57 #[.pointer (some ⟨p, 0, none⟩), .int .i64 c, .int .u64 via] w fun e w' => e = .returned (.int .u64 (acV cs 1 c via 0 0).o) ∧ Bk w' p r (clV cs 1 c 0 0) (cnt + 1) (acV cs 1 c via 0 0) ∧ Kept [p, r] w w' := by
  have hfd := fld3
  go_enter Tryz.func57, Tryz.ntmps57
  go_wp2_with fail
  refine (access_any p r cs cnt a _ _ _ _ _ w hB h0 h1).mono ?_
  rintro e w1 ⟨rfl, B1, K1⟩
  go_wp2
  go_ret
  exact ⟨rfl, B1, K1⟩
set_option maxRecDepth 100000 in
theorem store_any (p r : Nat) (cs : List Int) (cnt : Int) (a : Acc) (c via v : Int) (w : World) (hB : Bk w p r cs cnt a) (h0 : 0 ≤ cnt) (h1 : cnt < 4611686018427387904) :
    Calls Tryz.prog 31 #[.pointer (some ⟨p, 0, none⟩), .int .i64 c, .int .u64 via, .int .u64 v] w fun e w' => e = .returned (.tuple #[]) ∧ Bk w' p r (clV cs 2 c 0 v) (cnt + 1) (acV cs 2 c via 0 v) ∧ Kept [p, r] w w' := by
  go_enter Tryz.func31, Tryz.ntmps31
  go_wp2_with fail
  refine (access_any p r cs cnt a _ _ _ _ _ w hB h0 h1).mono ?_
  rintro e w1 ⟨rfl, B1, K1⟩
  go_wp2
  go_end0
  exact ⟨rfl, B1, K1⟩
set_option maxRecDepth 100000 in
theorem swap_any (p r : Nat) (cs : List Int) (cnt : Int) (a : Acc) (c via old v : Int) (w : World) (hB : Bk w p r cs cnt a) (h0 : 0 ≤ cnt) (h1 : cnt < 4611686018427387904) :
    Calls Tryz.prog 119 #[.pointer (some ⟨p, 0, none⟩), .int .i64 c, .int .u64 via, .int .u64 old, .int .u64 v] w fun e w' => e = .returned (.bool (acV cs 3 c via old v).d) ∧ Bk w' p r (clV cs 3 c old v) (cnt + 1) (acV cs 3 c via old v) ∧ Kept [p, r] w w' := by
  have hfd := fld5
  go_enter Tryz.func119, Tryz.ntmps119
  go_wp2_with fail
  refine (access_any p r cs cnt a _ _ _ _ _ w hB h0 h1).mono ?_
  rintro e w1 ⟨rfl, B1, K1⟩
  go_wp2
  go_ret
  exact ⟨rfl, B1, K1⟩
set_option maxRecDepth 100000 in
theorem add_any (p r : Nat) (cs : List Int) (cnt : Int) (a : Acc) (c via v : Int) (w : World) (hB : Bk w p r cs cnt a) (h0 : 0 ≤ cnt) (h1 : cnt < 4611686018427387904) :
    Calls Tryz.prog 79 #[.pointer (some ⟨p, 0, none⟩), .int .i64 c, .int .u64 via, .int .u64 v] w fun e w' => e = .returned (.int .u64 (acV cs 4 c via 0 v).o) ∧ Bk w' p r (clV cs 4 c 0 v) (cnt + 1) (acV cs 4 c via 0 v) ∧ Kept [p, r] w w' := by
  have hfd := fld3
  go_enter Tryz.func79, Tryz.ntmps79
  go_wp2_with fail
  refine (access_any p r cs cnt a _ _ _ _ _ w hB h0 h1).mono ?_
  rintro e w1 ⟨rfl, B1, K1⟩
  go_wp2
  go_ret
  exact ⟨rfl, B1, K1⟩
set_option maxRecDepth 100000 in
theorem count_any (p r : Nat) (cs : List Int) (cnt : Int) (a : Acc) (w : World) (hB : Bk w p r cs cnt a) :
    Calls Tryz.prog 40 #[.pointer (some ⟨p, 0, none⟩)] w fun e w' => e = .returned (.int .i64 cnt) ∧ w' = w := by
  have c1 := cell_of_blk hB.st (i := 1) rfl
  go_enter Tryz.func40, Tryz.ntmps40
  go_wp2
  go_ret
  exact ⟨rfl, rfl⟩
set_option maxRecDepth 100000 in
theorem last_any (p r : Nat) (cs : List Int) (cnt : Int) (a : Acc) (w : World) (hB : Bk w p r cs cnt a) :
    Calls Tryz.prog 41 #[.pointer (some ⟨p, 0, none⟩)] w fun e w' => e = .returned a.val ∧ Kept [] w w' := by
  have c2 := cell_of_blk hB.st (i := 2) rfl
  have c3 := cell_of_blk hB.st (i := 3) rfl
  have c4 := cell_of_blk hB.st (i := 4) rfl
  have c5 := cell_of_blk hB.st (i := 5) rfl
  have c6 := cell_of_blk hB.st (i := 6) rfl
  have c7 := cell_of_blk hB.st (i := 7) rfl
  have hp := lt_of_blk hB.st
  go_enter Tryz.func41, Tryz.ntmps41
  go_wp2
  exact bodyPost_ret (v := a.val) (by simp [results, Tryz.results41, go_sem, Acc.val]) rfl ⟨rfl, (Kept.refl _ _).alloc _⟩
end Go.Proofs.YtgafmklfpiipcaaGreatDoor
