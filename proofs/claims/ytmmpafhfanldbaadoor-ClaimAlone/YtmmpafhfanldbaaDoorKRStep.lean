/-
  The document's claim: its step.
-/
import Derived.Test.YtmmpafhfanldbaaDoorKRef
namespace Go.Proofs.YtmmpafhfanldbaaDoor
open Go.RowKit (Grown Hid Below)
open Go.Deep
namespace K
set_option maxRecDepth 100000
theorem rc_one (s : RC) : (rcA s).all (·.oneCell') = true := by simp [rcA, Value.oneCell']
theorem rm_one (c : Cfg) (ao : Option Addr) (n cap : Nat) (cnt : Int) (a : Acc) : (rmA c ao n cap cnt a).all (·.oneCell') = true := by simp [rmA, Value.oneCell']
def rcZ : Array Value := #[.int .i64 0, .int .i64 0, .bool false, .int .u64 0, .int .u64 0, .bool false]
def rmZ : Array Value := #[.int .i64 0, .int .i64 0, .int .i64 0, .int .i64 0, .int .i64 0, .int .i64 0, .int .i64 0, .slice none 0 0, .int .i64 0, .int .i64 0, .int .i64 0, .int .u64 0, .int .u64 0, .int .u64 0, .bool false]
set_option maxHeartbeats 2000000 in
theorem rstep_done (s : RC) (A : Array Value) (hA : A.size = 15) (oA : A.all (·.oneCell') = true) (w : World) (hd : s.d = true) :
    Calls Tryd.prog 14 #[.agg (rcA s), .agg A] w fun e w' => e = .returned (.tuple #[.agg (rcA s), .agg A]) ∧ Kept [] w w' := by
  obtain ⟨b, hb⟩ : ∃ b, b = w.heap.size := ⟨_, rfl⟩
  have ST := hidOf (R4.start 42 35 w (rcA s) A rcZ rmZ hb)
  go_enter Tryd.func14, Tryd.ntmps14
  go_upto_region 1 with (fail)
  rw [← hb]
  refine gen_world (fun W => R4 42 35 w W b (rcA s) A rcZ rmZ) ST.out ?_
  clear ST hb
  rintro W R
  have q5 := cell_of_blk R.c (i := 5) (v := .bool s.d) rfl
  rw [hd] at q5
  have HR := hidOf R
  clear R
  go_upto_region 2 with (fail)
  refine wp_ret2 isT_rc isT_rm (by kernel_rfl) (by kernel_rfl) (fun _ _ _ _ _ h => h) b (b + 1) (b + 1 + 1) (b + 1 + 1 + 1) (rcA s) A rcZ rmZ rfl hA (rc_one s) oA rfl rfl HR.out.c HR.out.m HR.out.c' HR.out.m' (by omega) (by omega) (by omega) (by omega) (by omega) rfl rfl rfl rfl rfl rfl ?_
  simp only [Act.put, List.setIfInBounds_toArray, List.set_cons_zero, List.set_cons_succ]
  go_wp2
  refine bodyPost_ret (v := .tuple #[.agg (rcA s), .agg A]) (results_rw2 Tryd.results14 isT_rc isT_rm _ _ (b + 1 + 1) (b + 1 + 1 + 1) (rcA s) A rfl hA rfl rfl ?_ ?_) rfl ⟨rfl, ?_⟩
  · exact ((RW.drew HR.out.c').row _).rowOther _ (by omega)
  · exact ((RW.drew HR.out.m').rowOther _ (by omega)).row _
  · exact (HR.out.k.drew.setRow (Or.inr (by have := HR.out.old; omega)) _).setRow (Or.inr (by have := HR.out.old; omega)) _

theorem taken_any (G : Int) (w : World) (h : 0 ≤ G ∧ G ≤ 1073741823) : Calls Tryd.prog 45 #[.int .i64 G] w fun e w' => e = .returned (.int .u64 (S.meV 1 G)) ∧ Kept [] w w' := by
  have ME := hidOf (fun W => S.rmeta_yes 1 G W (by unfold S.meB; rw [decide_eq_true_eq]; omega))
  go_enter Tryd.func45, Tryd.ntmps45
  go_wp2_with fail
  refine (ME.out _).mono ?_
  rintro e w1 ⟨rfl, K1⟩
  go_wp2
  go_ret
  exact ⟨rfl, K1⟩
theorem rof1_any (i G : Int) (w : World) (h : 0 ≤ G ∧ G ≤ 1073741823) (h2 : 0 ≤ i ∧ i ≤ 64) : Calls Tryd.prog 46 #[.int .i64 i, .int .i64 G] w fun e w' => e = .returned (.int .u64 (packV i G false)) ∧ Kept [] w w' := by
  have ME := hidOf (fun W => rpack_yes i G false W (by unfold fitB; simp; omega))
  go_enter Tryd.func46, Tryd.ntmps46
  go_wp2_with fail
  refine (ME.out _).mono ?_
  rintro e w1 ⟨rfl, K1⟩
  go_wp2
  go_ret
  exact ⟨rfl, K1⟩
/-- What the document's look tells: the words behind it, and the word that was there. -/
def LookP (w : World) (X : Int) (P : Array Value → World → Prop) (AT : Int) (A : Array Value) : Prop := ∀ W, Kept [] w W → Calls Tryd.prog 41 #[.agg A, .int .i64 AT] W fun e w' => ∃ A', e = .returned (.tuple #[.agg A', .int .u64 X]) ∧ (A'.size = 15 ∧ A'.all (·.oneCell') = true ∧ ∀ V l, Kept l w' V → (∀ x ∈ l, w.heap.size ≤ x ∧ x < W.heap.size) → P A' V) ∧ Kept [] W w'
set_option maxHeartbeats 2000000 in
theorem rstep_look (s : RC) (A : Array Value) (c : Cfg) (X AT T : Int) (P : Array Value → World → Prop) (w : World) (hA : A.size = 15) (hC : A[2]? = some (.int .i64 c.c)) (hd : s.d = false) (ht : s.t = false) (hP : LookP w X P AT A)
    (hAt : ∀ W, Calls Tryd.prog 40 #[.agg (rcA s), .int .i64 c.c] W fun e w' => e = .returned (.int .i64 AT) ∧ Kept [] W w')
    (hSt : ∀ W, Calls Tryd.prog 33 #[.int .u64 X] W fun e w' => e = .returned (.int .i64 T) ∧ Kept [] W w') (l0 : 0 ≤ s.l) (l1 : s.l ≤ 64) (s' : RC) (hs' : s' = if T = 0 then ⟨s.f, s.l, true, X, s.g, s.d⟩ else rgo s c.c) :
    Calls Tryd.prog 14 #[.agg (rcA s), .agg A] w fun e w' => ∃ A', e = .returned (.tuple #[.agg (rcA s'), .agg A']) ∧ P A' w' ∧ Kept [] w w' := by
  have HS' := hidOf hs'
  clear hs'
  obtain ⟨b, hb⟩ : ∃ b, b = w.heap.size := ⟨_, rfl⟩
  have ST := hidOf (R4.start 42 35 w (rcA s) A rcZ rmZ hb)
  have HP := hidOf hP
  have HA := hidOf hAt
  have HT := hidOf hSt
  have HG := hidOf (fun W => goes_any s c.c W l0 l1)
  clear hP hAt hSt
  go_enter Tryd.func14, Tryd.ntmps14
  go_upto_region 1 with (fail)
  rw [← hb]
  refine gen_world (fun W => R4 42 35 w W b (rcA s) A rcZ rmZ) ST.out ?_
  clear ST hb
  rintro W RR
  have q5 := cell_of_blk RR.c (i := 5) (v := .bool s.d) rfl
  have q2 := cell_of_blk RR.m (i := 2) hC
  rw [hd] at q5
  have HR := hidOf RR
  clear RR
  go_upto_region 4 with (fail)
  have RR := HR.out
  go_wp2_with (first | ((with_reducible change wpList _ _ _ (Oper.mk _ (Op.load 42 (Operand.tmp 2)) _ _ _ _ :: _) _ _); refine wpList_load_rw 42 isT_rc rfl (.tmp 2) rfl b rfl (rcA s) rfl RR.c ?_))
  clear RR
  refine (HA.out _).mono ?_
  rintro e w1 ⟨rfl, K1⟩
  have RR := HR.out.new K1
  have q2 := cell_of_blk RR.c (i := 2) (v := .bool s.t) rfl
  rw [ht] at q2
  go_wp2_with (first | ((with_reducible change wpList _ _ _ (Oper.mk _ (Op.load 35 (Operand.tmp 3)) _ _ _ _ :: _) _ _); refine wpList_load_rw 35 isT_rm rfl (.tmp 3) rfl (b + 1) rfl A hA RR.m ?_))
  refine (HP.out _ RR.k).mono ?_
  rintro e w2 ⟨A', rfl, ⟨z1, z2, z3⟩, K2⟩
  have HR2 := hidOf (RR.new K2)
  have o4 := RR.m'.lt
  have old := RR.old
  have o5 := K2.size
  have KS2 := hidOf K2
  have HZ3 : Hid (∀ V, Kept [b, b + 1 + 1, b + 1 + 1 + 1] w2 V → P A' V) := fun V k => z3 V _ k (by simp; omega)
  clear RR q2 q5 HR K1 z3
  go_wp2_with (first | ((with_reducible change wpList _ _ _ (Oper.mk _ (Op.store 35 _ _) _ _ _ _ :: _) _ _); refine wpList_store_rw 35 isT_rm rfl (.tmp 8) (.tmp 30) rfl w2.heap.size A' rfl rfl z1 z2 rmZ (RW.new _ _ rmZ) rfl ?_))
  refine (HT.out _).mono ?_
  rintro e w3 ⟨rfl, K3⟩
  obtain ⟨nb, hnb⟩ : ∃ nb, nb = w2.heap.size := ⟨_, rfl⟩
  have kz : Kept [] w2 ((w2.alloc (.cells rmZ 35)).setRow w2.heap.size A') := ((Kept.refl [] w2).alloc _).setRow (Or.inr (Nat.le_refl _)) _
  have HR3 := hidOf (HR2.out.new (kz.trans K3))
  have HN := hidOf (((RW.new 35 w2 rmZ).row A').kept K3 (by simp))
  have KF := hidOf (kz.trans K3)
  rw [← hnb] at HN
  rw [← hnb]
  have n1 : ¬ b = nb := by omega
  have n2 : ¬ b + 1 = nb := by omega
  have n3 : ¬ b + 1 + 1 = nb := by omega
  have n4 : ¬ b + 1 + 1 + 1 = nb := by omega
  clear K3 kz HR2 K2 o4 o5 hnb
  by_cases hz : T = 0
  · have e1 : s' = ⟨s.f, s.l, true, X, s.g, s.d⟩ := HS'.out.trans (if_pos hz)
    subst e1 hz
    have q2 := cell_of_blk HR3.out.c (i := 2) (v := .bool s.t) rfl
    have q3 := cell_of_blk HR3.out.c (i := 3) (v := .int .u64 s.w) rfl
    have hf := free_of_blk HR3.out.c
    go_upto_region 10 with (fail)
    refine gen_world (fun V => RW 42 V b (rcA ⟨s.f, s.l, true, X, s.g, s.d⟩) ∧ Kept [b] w3 V) ⟨?_, ((Kept.refl [b] w3).setCell (Or.inl (by simp)) _).setCell (Or.inl (by simp)) _⟩ ?_
    · have z := (HR3.out.c.set 2 (.bool true)).set 3 (.int .u64 X)
      simpa [rcA] using z
    rintro V ⟨C, KV⟩
    clear q2 q3 hf
    have M := HN.out.kept KV (by simp; omega)
    have C' := HR3.out.c'.kept KV (by simp; omega)
    have M' := HR3.out.m'.kept KV (by simp; omega)
    refine wp_ret2 isT_rc isT_rm (by kernel_rfl) (by kernel_rfl) (fun _ _ _ _ _ h => h) b nb (b + 1 + 1) (b + 1 + 1 + 1) (rcA ⟨s.f, s.l, true, X, s.g, s.d⟩) A' rcZ rmZ rfl z1 (rc_one _) z2 rfl rfl C M C' M' (by omega) (by omega) (by omega) (by omega) (by omega) rfl rfl rfl rfl rfl rfl ?_
    simp only [Act.put, List.setIfInBounds_toArray, List.set_cons_zero, List.set_cons_succ]
    go_wp2
    refine bodyPost_ret (v := .tuple #[.agg (rcA ⟨s.f, s.l, true, X, s.g, s.d⟩), .agg A']) (results_rw2 Tryd.results14 isT_rc isT_rm _ _ (b + 1 + 1) (b + 1 + 1 + 1) (rcA ⟨s.f, s.l, true, X, s.g, s.d⟩) A' rfl z1 rfl rfl ?_ ?_) rfl ⟨A', rfl, ?_, ?_⟩
    · exact ((RW.drew C').row _).rowOther _ (by omega)
    · exact ((RW.drew M').rowOther _ (by omega)).row _
    · exact HZ3.out _ ((((KF.out.weaken (m := [b, b + 1 + 1, b + 1 + 1 + 1]) (by simp)).then KV (by simp)).drew.setRow (Or.inl (by simp)) _).setRow (Or.inl (by simp)) _)
    · exact ((HR3.out.k.then KV (by simp; omega)).drew.setRow (Or.inr (by omega)) _).setRow (Or.inr (by omega)) _
  · have e1 : s' = rgo s c.c := HS'.out.trans (if_neg hz)
    subst e1
    have hz1 : (T == 0) = false := by simp [hz]
    go_upto_region 11 with (fail)
    refine wp_ret2c isT_rc isT_rm (by kernel_rfl) (by kernel_rfl) (by kernel_rfl) (fun _ _ _ _ _ h => h) b nb (b + 1 + 1) (b + 1 + 1 + 1) (rcA s) A' (rcA (rgo s c.c)) rcZ rmZ (.int .i64 c.c) rfl z1 rfl (rc_one _) z2 rfl rfl HR3.out.c HN.out HR3.out.c' HR3.out.m' (by omega) (by omega) (by omega) (by omega) (by omega) (fun W _ => HG.out W) rfl rfl rfl (fun _ => by kernel_rfl) rfl rfl rfl rfl ?_
    intro V KV
    simp only [Act.put, List.setIfInBounds_toArray, List.set_cons_zero, List.set_cons_succ]
    go_wp2
    have C' := HR3.out.c'.kept KV (by simp)
    have M' := HR3.out.m'.kept KV (by simp)
    refine bodyPost_ret (v := .tuple #[.agg (rcA (rgo s c.c)), .agg A']) (results_rw2 Tryd.results14 isT_rc isT_rm _ _ (b + 1 + 1) (b + 1 + 1 + 1) (rcA (rgo s c.c)) A' rfl z1 rfl rfl ?_ ?_) rfl ⟨A', rfl, ?_, ?_⟩
    · exact (C'.row _).rowOther _ (by omega)
    · exact (M'.rowOther _ (by omega)).row _
    · exact HZ3.out _ ((((KF.out.trans KV).weaken (m := [b, b + 1 + 1, b + 1 + 1 + 1]) (by simp)).setRow (Or.inl (by simp)) _).setRow (Or.inl (by simp)) _)
    · exact ((HR3.out.k.trans KV).setRow (Or.inr (by omega)) _).setRow (Or.inr (by omega)) _
end K
end Go.Proofs.YtmmpafhfanldbaaDoor
