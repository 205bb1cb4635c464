/-
  The contracts of package claim: a claim is a block of its own; what each call makes of it.
-/
import Derived.Test.YtmmpafhfanldbaaDoorMNew
import Derived.Test.YtmmpafhfanldbaaDoorHWords2
import Derived.Laws.EntriesVeiled
namespace Go.Proofs.YtmmpafhfanldbaaDoor
open Go.RowKit (Grown Hid Below)
open Go.Deep
namespace K
theorem eqnil (w : World) : (binOp .eql 44 .nilFunc .nilFunc).run Tryd.prog w = .ok (.bool true) w := by kernel_rfl
theorem eqfun (w : World) (f : Fn) (x y : Array Value) : (binOp .eql 44 (.func f x y) .nilFunc).run Tryd.prog w = .ok (.bool false) w := by kernel_rfl
/-- A claim's block. -/
def KB (w : World) (b : Nat) (v : Value) (fr ix lf lk gt nx : Int) : Prop := w.heap[b]? = some (.cells #[.int .i64 fr, v, .int .i64 ix, .int .i64 lf, .int .u64 lk, .int .u64 gt, .int .i64 nx] 73 (0, 0))
def fnV (f : Nat) (b : Nat) : Value := .func (.func f) #[.pointer (some ⟨b, 0, none⟩)] #[]
theorem KB.kept {l : List Nat} {w w' : World} {b : Nat} {v : Value} {fr ix lf lk gt nx : Int} (h : KB w b v fr ix lf lk gt nx) (k : Kept l w w') (hb : b ∉ l) : KB w' b v fr ix lf lk gt nx := k.blk h hb
theorem KB.nm {w : World} {b m p r : Nat} {v : Value} {fr ix lf lk gt nx : Int} {c : Cfg} {cs : List Int} {cnt : Int} {a : Acc} (h : KB w b v fr ix lf lk gt nx) (hM : Mm w m p r c cs cnt a) : ¬ b = m ∧ ¬ b = p ∧ ¬ b = r := by
  unfold KB at h
  refine ⟨fun e => ?_, fun e => ?_, fun e => ?_⟩
  · have z := hM.st; rw [← e, h] at z; simp at z
  · have z := hM.bk.st; rw [← e, h] at z; simp at z
  · have z := hM.bk.row; unfold Row at z; rw [← e, h] at z; simp at z
def bhI (c : Cfg) (x : Int) : Int := if c.c ≤ x then 1 else x + 1
theorem fldcap (c : Cfg) (w : World) : (Instr.field 23 c.val 2).run Tryd.prog w = .ok (.int .i64 c.c) w := by kernel_rfl
theorem fldlast (c : Cfg) (w : World) : (Instr.field 23 c.val 6).run Tryd.prog w = .ok (.int .i64 c.l) w := by kernel_rfl
set_option maxRecDepth 100000 in
set_option maxHeartbeats 2000000 in
theorem behind_any (m p r : Nat) (c : Cfg) (cs : List Int) (cnt : Int) (a : Acc) (x : Int) (w : World) (hM : Mm w m p r c cs cnt a) (h0 : 0 ≤ x) (h1 : c.c ≤ 64) :
    Calls Tryd.prog 91 #[.pointer (some ⟨m, 0, none⟩), .int .i64 x] w fun e w' => e = .returned (.int .i64 (bhI c x)) ∧ Kept [] w w' := by
  have q0 := cell_of_blk hM.st (i := 0) rfl
  have q1 := cell_of_blk hM.st (i := 1) rfl
  have q2 := cell_of_blk hM.st (i := 2) rfl
  have q3 := cell_of_blk hM.st (i := 3) rfl
  have q4 := cell_of_blk hM.st (i := 4) rfl
  have q5 := cell_of_blk hM.st (i := 5) rfl
  have q6 := cell_of_blk hM.st (i := 6) rfl
  have F2 := fldcap c
  by_cases hx : c.c ≤ x
  · have e : bhI c x = 1 := if_pos hx
    rw [e]; clear e
    go_enter Tryd.func91, Tryd.ntmps91
    go_wp2_with fail
    refine (config_any c _).mono ?_
    rintro e w1 ⟨rfl, K1⟩
    go_wp2
    go_ret
    exact ⟨rfl, K1⟩
  · have e : bhI c x = x + 1 := if_neg hx
    rw [e]; clear e
    go_enter Tryd.func91, Tryd.ntmps91
    go_wp2_with fail
    refine (config_any c _).mono ?_
    rintro e w1 ⟨rfl, K1⟩
    go_wp2
    go_ret
    exact ⟨ret_i64 (by go_num), K1⟩
set_option maxRecDepth 100000 in
set_option maxHeartbeats 2000000 in
theorem new_any (fr : Int) (w : World) :
    Calls Tryd.prog 10 #[.int .i64 fr] w fun e w' => ∃ b, e = .returned (.pointer (some ⟨b, 0, none⟩)) ∧ w.heap.size ≤ b ∧ KB w' b (fnV 37 b) fr 0 0 0 0 fr ∧ Kept [] w w' := by
  go_enter Tryd.func10, Tryd.ntmps10
  go_wp2
  go_ret
  exact ⟨_, rfl, Nat.le_refl _, blk_alloc_new w _, (Kept.refl [] w).alloc _⟩
set_option maxRecDepth 100000 in
set_option maxHeartbeats 2000000 in
theorem done_no (b f : Nat) (fr ix lf lk gt nx : Int) (w : World) (hK : KB w b (fnV f b) fr ix lf lk gt nx) :
    Calls Tryd.prog 16 #[.pointer (some ⟨b, 0, none⟩)] w fun e w' => e = .returned (.bool false) ∧ w' = w := by
  have q1 := cell_of_blk hK (i := 1) rfl
  unfold fnV at q1
  have E1 := eqfun
  go_enter Tryd.func16, Tryd.ntmps16
  go_wp2
  go_ret
  exact ⟨rfl, rfl⟩
set_option maxRecDepth 100000 in
set_option maxHeartbeats 2000000 in
theorem done_yes (b : Nat) (fr ix lf lk gt nx : Int) (w : World) (hK : KB w b .nilFunc fr ix lf lk gt nx) :
    Calls Tryd.prog 16 #[.pointer (some ⟨b, 0, none⟩)] w fun e w' => e = .returned (.bool true) ∧ w' = w := by
  have q1 := cell_of_blk hK (i := 1) rfl
  have E1 := eqnil
  go_enter Tryd.func16, Tryd.ntmps16
  go_wp2
  go_ret
  exact ⟨rfl, rfl⟩
set_option maxRecDepth 100000 in
set_option maxHeartbeats 2000000 in
theorem got_any (b : Nat) (v : Value) (fr ix lf lk gt nx : Int) (w : World) (hK : KB w b v fr ix lf lk gt nx) :
    Calls Tryd.prog 17 #[.pointer (some ⟨b, 0, none⟩)] w fun e w' => e = .returned (.int .u64 gt) ∧ w' = w := by
  have q1 := cell_of_blk hK (i := 5) rfl
  go_enter Tryd.func17, Tryd.ntmps17
  go_wp2
  go_ret
  exact ⟨rfl, rfl⟩
set_option maxRecDepth 100000 in
set_option maxHeartbeats 2000000 in
theorem next_any (b : Nat) (v : Value) (fr ix lf lk gt nx : Int) (w : World) (hK : KB w b v fr ix lf lk gt nx) :
    Calls Tryd.prog 18 #[.pointer (some ⟨b, 0, none⟩)] w fun e w' => e = .returned (.int .i64 nx) ∧ w' = w := by
  have q1 := cell_of_blk hK (i := 6) rfl
  go_enter Tryd.func18, Tryd.ntmps18
  go_wp2
  go_ret
  exact ⟨rfl, rfl⟩
set_option maxRecDepth 100000 in
set_option maxHeartbeats 2000000 in
theorem pass_last (b m : Nat) (v : Value) (fr ix lk gt nx : Int) (w : World) (hK : KB w b v fr ix 1 lk gt nx) :
    Calls Tryd.prog 85 #[.pointer (some ⟨b, 0, none⟩), .pointer (some ⟨m, 0, none⟩)] w fun e w' => e = .returned (.tuple #[]) ∧ KB w' b .nilFunc fr ix 0 lk gt nx ∧ Kept [b] w w' := by
  have q1 := cell_of_blk hK (i := 1) rfl
  have q3 := cell_of_blk hK (i := 3) rfl
  have hf := free_of_blk hK
  go_enter Tryd.func85, Tryd.ntmps85
  go_wp2
  refine bodyPost_ret (v := .tuple #[]) (by simp [results, Tryd.results85, go_sem]) rfl ⟨rfl, ?_, ?_⟩
  · have z := blk_set (blk_set hK 3 (.int .i64 0)) 1 .nilFunc
    simpa [KB] using z
  · exact ((Kept.refl [b] w).setCell (Or.inl (by simp)) _).setCell (Or.inl (by simp)) _
set_option maxRecDepth 100000 in
set_option maxHeartbeats 2000000 in
theorem pass_on (b m p r : Nat) (v : Value) (c : Cfg) (cs : List Int) (cnt : Int) (a : Acc) (fr ix lf lk gt nx : Int) (w : World) (hK : KB w b v fr ix lf lk gt nx) (hM : Mm w m p r c cs cnt a) (h0 : 0 ≤ ix) (h1 : c.c ≤ 64) (l0 : 1 < lf) (l1 : lf ≤ 64) :
    Calls Tryd.prog 85 #[.pointer (some ⟨b, 0, none⟩), .pointer (some ⟨m, 0, none⟩)] w fun e w' => e = .returned (.tuple #[]) ∧ KB w' b (fnV 66 b) fr (bhI c ix) (lf - 1) lk gt nx ∧ Kept [b] w w' := by
  have q1 := cell_of_blk hK (i := 1) rfl
  have q2 := cell_of_blk hK (i := 2) rfl
  have q3 := cell_of_blk hK (i := 3) rfl
  have hf := free_of_blk hK
  obtain ⟨n1, n2, n3⟩ := hK.nm hM
  have HM : Hid (Mm w m p r c cs cnt a) := hM
  have HB : Hid (KB w b v fr ix lf lk gt nx) := hK
  clear hM hK
  go_enter Tryd.func85, Tryd.ntmps85
  go_wp2_with fail
  refine (behind_any m p r c cs cnt a ix _ (HM.out.kept (l := [b]) ((Kept.refl [b] w).setCell (Or.inl (by simp)) _) (by simp; omega) (by simp; omega) (by simp; omega)) h0 h1).mono ?_
  rintro e w1 ⟨rfl, K1⟩
  have Z : KB w1 b v fr ix (lf - 1) lk gt nx := K1.blk (by have z := blk_set HB.out 3 (.int .i64 (lf - 1)); simpa [KB] using z) (by simp)
  have KK : Kept [b] w w1 := ((Kept.refl [b] w).setCell (p := ⟨b, 3, none⟩) (Or.inl (by simp)) (.int .i64 (lf - 1))).then K1 (by simp)
  clear q1 q2 q3 hf K1
  have q1 := cell_of_blk Z (i := 1) rfl
  have q2 := cell_of_blk Z (i := 2) rfl
  have hf := free_of_blk Z
  have HZ : Hid (KB w1 b v fr ix (lf - 1) lk gt nx) := Z
  clear Z
  go_wp2
  go_end0
  refine ⟨rfl, ?_, ?_⟩
  · have z := blk_set (blk_set HZ.out 2 (.int .i64 (bhI c ix))) 1 (fnV 66 b)
    simpa [KB, fnV] using z
  · exact (KK.setCell (Or.inl (by simp)) _).setCell (Or.inl (by simp)) _
end K
end Go.Proofs.YtmmpafhfanldbaaDoor
