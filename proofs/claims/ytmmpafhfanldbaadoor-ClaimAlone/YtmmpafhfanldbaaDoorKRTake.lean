/-
  The document's claim: its step, where it takes.
-/
import Derived.Test.YtmmpafhfanldbaaDoorKRStep
namespace Go.Proofs.YtmmpafhfanldbaaDoor
open Go.RowKit (Grown Hid Below)
open Go.Deep
namespace K
set_option maxRecDepth 100000
/-- What the document's take tells: the words behind it, and whether it took. -/
def TakeP (w : World) (V : Int) (D : Bool) (P : Array Value → World → Prop) (AT wd : Int) (A : Array Value) : Prop := ∀ W, Kept [] w W → Calls Tryd.prog 44 #[.agg A, .int .i64 AT, .int .u64 wd, .int .u64 V] W fun e w' => ∃ A', e = .returned (.tuple #[.agg A', .bool D]) ∧ (A'.size = 15 ∧ A'.all (·.oneCell') = true ∧ ∀ V l, Kept l w' V → (∀ x ∈ l, w.heap.size ≤ x ∧ x < W.heap.size) → P A' V) ∧ Kept [] W w'
set_option maxHeartbeats 4000000 in
theorem rstep_take (s : RC) (A : Array Value) (c : Cfg) (V AT G W1 : Int) (D : Bool) (P : Array Value → World → Prop) (w : World) (hA : A.size = 15) (hC : A[2]? = some (.int .i64 c.c)) (hd : s.d = false) (ht : s.t = true) (hP : TakeP w V D P AT s.w A)
    (hAt : ∀ W, Calls Tryd.prog 40 #[.agg (rcA s), .int .i64 c.c] W fun e w' => e = .returned (.int .i64 AT) ∧ Kept [] W w')
    (hGn : ∀ W, Calls Tryd.prog 43 #[.int .u64 s.w] W fun e w' => e = .returned (.int .i64 G) ∧ Kept [] W w')
    (hTk : ∀ W, Calls Tryd.prog 45 #[.int .i64 G] W fun e w' => e = .returned (.int .u64 V) ∧ Kept [] W w')
    (hOf : ∀ W, Calls Tryd.prog 46 #[.int .i64 AT, .int .i64 G] W fun e w' => e = .returned (.int .u64 W1) ∧ Kept [] W w') (l0 : 0 ≤ s.l) (l1 : s.l ≤ 64) (s' : RC) (hs' : s' = if D = true then ⟨s.f, s.l, s.t, s.w, W1, true⟩ else rgo s c.c) :
    Calls Tryd.prog 14 #[.agg (rcA s), .agg A] w fun e w' => ∃ A', e = .returned (.tuple #[.agg (rcA s'), .agg A']) ∧ P A' w' ∧ Kept [] w w' := by
  have HS' := hidOf hs'
  clear hs'
  obtain ⟨b, hb⟩ : ∃ b, b = w.heap.size := ⟨_, rfl⟩
  have ST := hidOf (R4.start 42 35 w (rcA s) A rcZ rmZ hb)
  have HP := hidOf hP
  have HA := hidOf hAt
  have HGN := hidOf hGn
  have HTK := hidOf hTk
  have HOF := hidOf hOf
  have HG := hidOf (fun W => goes_any s c.c W l0 l1)
  clear hP hAt hGn hTk hOf
  go_enter Tryd.func14, Tryd.ntmps14
  go_upto_region 1 with (fail)
  rw [← hb]
  refine gen_world (fun W => R4 42 35 w W b (rcA s) A rcZ rmZ) ST.out ?_
  clear ST hb
  rintro W RR
  have q5 := cell_of_blk RR.c (i := 5) (v := .bool s.d) rfl
  have q2 := cell_of_blk RR.m (i := 2) hC
  rw [hd] at q5
  have HR := hidOf RR
  clear RR
  go_upto_region 4 with (fail)
  have RR := HR.out
  go_wp2_with (first | ((with_reducible change wpList _ _ _ (Oper.mk _ (Op.load 42 (Operand.tmp 2)) _ _ _ _ :: _) _ _); refine wpList_load_rw 42 isT_rc rfl (.tmp 2) rfl b rfl (rcA s) rfl RR.c ?_))
  clear RR
  refine (HA.out _).mono ?_
  rintro e w0 ⟨rfl, K0⟩
  have RR := HR.out.new K0
  have q2 := cell_of_blk RR.c (i := 2) (v := .bool s.t) rfl
  have q3 := cell_of_blk RR.c (i := 3) (v := .int .u64 s.w) rfl
  rw [ht] at q2
  have HR0 := hidOf RR
  clear RR
  go_wp2_with fail
  refine (HGN.out _).mono ?_
  rintro e w1 ⟨rfl, K1⟩
  have R1 : R4 42 35 w w1.drew b (rcA s) A rcZ rmZ := HR0.out.new K1.drew
  clear q2 q3 q5 HR K0 K1 HR0
  have HR1 := hidOf R1
  clear R1
  go_upto_region 13 with (fail)
  have R1 := HR1.out
  refine wp_region_held_drew (S := fun w' => RW 42 w' b (rcA s) ∧ RW 35 w' (b + 1) A) (by kernel_rfl) ⟨R1.c, R1.m⟩ (fun hS => ?_)
  clear HR1
  generalize w1.drew = wx at R1 hS ⊢
  refine wpAnyH_take (i := 0) (oi := { dst := some 48, op := Op.load 35 (Operand.tmp 3), type := 35, pos := "ref.go:54", after := #[], guard := none }) (v := Value.agg A) rfl (by kernel_rfl) (by kernel_rfl) (by kernel_rfl) (fun _ _ _ h => h) (yieldsIf_load_rw rfl 35 isT_rm (.tmp 3) rfl (b + 1) rfl A hA (fun _ h => h.2)) hS ?_
  try simp only [Act.put, List.setIfInBounds_toArray, List.set_cons_zero, List.set_cons_succ]
  refine wpAnyH_take (i := 1) (oi := { dst := some 49, op := Op.move (Operand.tmp 7), type := 3, pos := "ref.go:54", after := #[], guard := none }) (v := Value.int .i64 AT) rfl (by kernel_rfl) (by kernel_rfl) (by kernel_rfl) (fun _ _ _ h => h) (Or.inl ⟨rfl, fun _ _ => by kernel_rfl⟩) hS ?_
  try simp only [Act.put, List.setIfInBounds_toArray, List.set_cons_zero, List.set_cons_succ]
  refine wpAnyH_take (i := 2) (oi := { dst := some 50, op := Op.fieldAddr 42 (Operand.tmp 2) 3, type := 0, pos := "ref.go:54", after := #[], guard := none }) (v := Value.pointer (some ⟨b, 3, none⟩)) rfl (by kernel_rfl) (by kernel_rfl) (by kernel_rfl) (fun _ _ _ h => h) (Or.inl ⟨rfl, fun _ _ => by kernel_rfl⟩) hS ?_
  try simp only [Act.put, List.setIfInBounds_toArray, List.set_cons_zero, List.set_cons_succ]
  refine wpAnyH_take (i := 3) (oi := { dst := some 51, op := Op.load 29 (Operand.tmp 50), type := 29, pos := "ref.go:54", after := #[{ on := 2, ground := Ground.data }], guard := none }) (v := Value.int .u64 s.w) rfl (by kernel_rfl) (by kernel_rfl) (by kernel_rfl) (fun _ _ _ h => h) (Or.inl ⟨rfl, fun w hSw => by have z := cell_of_blk hSw.1 (i := 3) (v := .int .u64 s.w) rfl; go_simp⟩) hS ?_
  try simp only [Act.put, List.setIfInBounds_toArray, List.set_cons_zero, List.set_cons_succ]
  refine wpAnyH_take (i := 4) (oi := { dst := some 52, op := Op.move (Operand.tmp 10), type := 3, pos := "ref.go:54", after := #[], guard := none }) (v := Value.int .i64 G) rfl (by kernel_rfl) (by kernel_rfl) (by kernel_rfl) (fun _ _ _ h => h) (Or.inl ⟨rfl, fun _ _ => by kernel_rfl⟩) hS ?_
  try simp only [Act.put, List.setIfInBounds_toArray, List.set_cons_zero, List.set_cons_succ]
  refine wpAnyH_ready (rs := [5, 10]) (by kernel_rfl) (by simp) ?_
  refine AllReadyH.cons (o := { dst := some 53, op := Op.call { callee := Callee.value (Operand.func 45), args := #[Operand.tmp 52], argTypes := #[3] }, type := 29, pos := "ref.go:54", after := #[{ on := 4, ground := Ground.data }], guard := none }) rfl (fun K hK => ?_) ?_
  · rw [if_pos (by rfl)]
    refine wp_calls 45 #[.int .i64 G] (by kernel_rfl) (fun v W => v = .int .u64 V ∧ Kept [] wx W) ((HTK.out _).mono fun e w' hh => ⟨_, hh.1, rfl, hh.2⟩) ?_
    rintro _ w5 ⟨rfl, K5⟩
    have R5 := R1.new K5
    have S5 := Nat.le_trans (Nat.le_refl _) K5.size
    try simp only [Act.put, List.setIfInBounds_toArray, List.set_cons_zero, List.set_cons_succ]
    refine hK.out _ _ (⟨R5.c, R5.m⟩) (fun hS => ?_)
    clear hK K
    refine wpAnyH_ready (rs := [6, 10]) (by kernel_rfl) (by simp) ?_
    refine AllReadyH.cons (o := { dst := some 54, op := Op.call { callee := Callee.value (Operand.func 44), args := #[Operand.tmp 48, Operand.tmp 49, Operand.tmp 51, Operand.tmp 53], argTypes := #[35, 3, 29, 29] }, type := 81, pos := "ref.go:54", after := #[{ on := 0, ground := Ground.data }, { on := 1, ground := Ground.data }, { on := 3, ground := Ground.data }, { on := 5, ground := Ground.data }, { on := 5, ground := Ground.chain }], guard := none }) rfl (fun K hK => ?_) ?_
    · rw [if_pos (by rfl)]
      refine wp_calls 44 #[.agg A, .int .i64 AT, .int .u64 s.w, .int .u64 V] (by kernel_rfl) (fun v W => ∃ A', v = .tuple #[.agg A', .bool D] ∧ (A'.size = 15 ∧ A'.all (·.oneCell') = true ∧ ∀ U l, Kept l W U → (∀ x ∈ l, w.heap.size ≤ x ∧ x < w5.heap.size) → P A' U) ∧ Kept [] w5 W) ((HP.out _ R5.k).mono fun e w' ⟨A', h1, h2, h3⟩ => ⟨_, h1, A', rfl, h2, h3⟩) ?_
      rintro _ w6 ⟨A', rfl, ⟨z1, z2, z3⟩, K6⟩
      have R6 := R5.new K6
      have o4 := R5.m'.lt
      have o5 := K6.size
      have HZ3 : Hid (∀ U, Kept [b, b + 1 + 1, b + 1 + 1 + 1] w6 U → P A' U) := fun U k => z3 U _ k (by have := R6.old; simp; omega)
      have S6 := Nat.le_trans S5 K6.size
      try simp only [Act.put, List.setIfInBounds_toArray, List.set_cons_zero, List.set_cons_succ]
      refine hK.out _ _ (⟨R6.c, R6.m⟩) (fun hS => ?_)
      clear hK K
      refine wpAnyH_take (i := 7) (oi := { dst := some 47, op := Op.move (Operand.tmp 54), type := 81, pos := "ref.go:54", after := #[{ on := 6, ground := Ground.data }], guard := none }) (v := Value.tuple #[.agg A', .bool D]) rfl (by kernel_rfl) (by kernel_rfl) (by kernel_rfl) (fun _ _ _ h => h) (Or.inl ⟨rfl, fun _ _ => by kernel_rfl⟩) hS ?_
      try simp only [Act.put, List.setIfInBounds_toArray, List.set_cons_zero, List.set_cons_succ]
      refine wpAnyH_take (i := 8) (oi := { dst := some 55, op := Op.extract (Operand.tmp 47) 0, type := 35, pos := "ref.go:54", after := #[{ on := 7, ground := Ground.data }], guard := none }) (v := Value.agg A') rfl (by kernel_rfl) (by kernel_rfl) (by kernel_rfl) (fun _ _ _ h => h) (Or.inl ⟨rfl, fun _ _ => by kernel_rfl⟩) hS ?_
      try simp only [Act.put, List.setIfInBounds_toArray, List.set_cons_zero, List.set_cons_succ]
      refine wpAnyH_take (i := 9) (oi := { dst := some 56, op := Op.extract (Operand.tmp 47) 1, type := 4, pos := "ref.go:54", after := #[{ on := 7, ground := Ground.data }, { on := 11, ground := Ground.gcOnly Departure.lateStores }], guard := none }) (v := Value.bool D) rfl (by kernel_rfl) (by kernel_rfl) (by kernel_rfl) (fun _ _ _ h => h) (Or.inl ⟨rfl, fun _ _ => by kernel_rfl⟩) hS ?_
      try simp only [Act.put, List.setIfInBounds_toArray, List.set_cons_zero, List.set_cons_succ]
      refine wpAnyH_ready (rs := [10]) (by kernel_rfl) (by simp) ?_
      refine AllReadyH.cons (o := { dst := some 11, op := Op.alloc 35, type := 0, pos := "ref.go:54", after := #[], guard := none }) rfl (fun K hK => ?_) AllReadyH.nil
      rw [if_pos (by rfl)]
      go_simp
      obtain ⟨nb, hnb⟩ : ∃ nb, nb = w6.heap.size := ⟨_, rfl⟩
      have KA : Kept [] w6 (w6.alloc (.cells rmZ 35)) := (Kept.refl [] w6).alloc _
      have RA := R6.new KA
      have NA := RW.new 35 w6 rmZ
      have LA : b + 1 + 1 + 1 < nb := by have := R6.m'.lt; omega
      rw [← hnb] at NA
      rw [← hnb]
      obtain ⟨wa, hwa⟩ : ∃ wa, wa = w6.alloc (.cells rmZ 35) := ⟨_, rfl⟩
      rw [← hwa] at KA RA NA
      have SA := Nat.le_trans S6 KA.size
      have E : w6.alloc (.cells #[.int .i64 0, .int .i64 0, .int .i64 0, .int .i64 0, .int .i64 0, .int .i64 0, .int .i64 0, .slice none 0 0, .int .i64 0, .int .i64 0, .int .i64 0, .int .u64 0, .int .u64 0, .int .u64 0, .bool false] 35) = wa := hwa.symm
      rw [E]
      have hle : w6.heap.size ≤ nb := by omega
      clear hwa E hnb
      have HZ4 : Hid (∀ U, Kept [b, b + 1 + 1, b + 1 + 1 + 1, nb] wa U → P A' U) := fun U k => HZ3.out U (((KA.weaken (m := [b, b + 1 + 1, b + 1 + 1 + 1]) (by simp)).then k (by simp; omega)))
      try simp only [Act.put, List.setIfInBounds_toArray, List.set_cons_zero, List.set_cons_succ]
      refine hK.out _ _ (⟨RA.c, RA.m⟩) (fun hS => ?_)
      clear hK K
      refine wpAnyH_ready (rs := [11]) (by kernel_rfl) (by simp) ?_
      refine AllReadyH.cons (o := { dst := none, op := Op.store 35 (Operand.tmp 11) (Operand.tmp 55), type := 0, pos := "ref.go:54", after := #[{ on := 10, ground := Ground.data }, { on := 8, ground := Ground.data }, { on := 6, ground := Ground.chain }, { on := 0, ground := Ground.phase }, { on := 1, ground := Ground.phase }, { on := 2, ground := Ground.phase }, { on := 3, ground := Ground.phase }, { on := 4, ground := Ground.phase }, { on := 5, ground := Ground.phase }, { on := 6, ground := Ground.phase }, { on := 7, ground := Ground.phase }, { on := 8, ground := Ground.phase }, { on := 9, ground := Ground.textOnly Departure.lateStores }, { on := 10, ground := Ground.phase }], guard := none }) rfl (fun K hK => ?_) AllReadyH.nil
      rw [if_pos (by rfl)]
      refine wp_store_row 35 (.tmp 11) (.tmp 55) rfl nb A' rfl rfl 35 rmZ NA (by rw [isT_rm.1, z1]) (by rw [z1]; rfl) z2 ?_
      have RB : R4 42 35 w (wa.setRow nb A') b (rcA s) A rcZ rmZ := ⟨RA.c.rowOther _ (by omega), RA.m.rowOther _ (by omega), RA.c'.rowOther _ (by omega), RA.m'.rowOther _ (by omega), RA.k.setRow (Or.inr (by have := RA.old; omega)) _, RA.old⟩
      have NB := NA.row A'
      have HZ5 : Hid (∀ U, Kept [b, b + 1 + 1, b + 1 + 1 + 1] (wa.setRow nb A') U → P A' U) := fun U k => HZ4.out U (((Kept.refl [b, b + 1 + 1, b + 1 + 1 + 1, nb] wa).setRow (Or.inl (by simp)) _).then k (by simp))
      simp only [Act.put]
      refine hK.out _ _ (⟨RB.c, RB.m⟩) (fun hS => ?_)
      clear hK K
      refine wpAnyH_take (i := 12) (oi := { dst := some 12, op := Op.assign (Operand.tmp 56), type := 4, pos := "ref.go:54", after := #[{ on := 9, ground := Ground.data }, { on := 11, ground := Ground.chain }, { on := 0, ground := Ground.phase }, { on := 1, ground := Ground.phase }, { on := 2, ground := Ground.phase }, { on := 3, ground := Ground.phase }, { on := 4, ground := Ground.phase }, { on := 5, ground := Ground.phase }, { on := 6, ground := Ground.phase }, { on := 7, ground := Ground.phase }, { on := 8, ground := Ground.phase }, { on := 9, ground := Ground.phase }, { on := 10, ground := Ground.phase }, { on := 11, ground := Ground.phase }], guard := none }) (v := Value.bool D) rfl (by kernel_rfl) (by kernel_rfl) (by kernel_rfl) (fun _ _ _ h => h) (Or.inl ⟨rfl, fun _ _ => by kernel_rfl⟩) hS ?_
      try simp only [Act.put, List.setIfInBounds_toArray, List.set_cons_zero, List.set_cons_succ]
      refine wpAnyH_done (by kernel_rfl) ?_ _
      have HR3 := hidOf RB
      have HN := hidOf NB
      have LB := LA
      generalize (wa.setRow nb A') = w3 at HR3 HN HZ5 ⊢
      cases D
      · have e1 : s' = rgo s c.c := HS'.out.trans (if_neg (by simp))
        subst e1
        go_upto_region 15 with (fail)
        refine wp_ret2c isT_rc isT_rm (by kernel_rfl) (by kernel_rfl) (by kernel_rfl) (fun _ _ _ _ _ h => h) b nb (b + 1 + 1) (b + 1 + 1 + 1) (rcA s) A' (rcA (rgo s c.c)) rcZ rmZ (.int .i64 c.c) rfl z1 rfl (rc_one _) z2 rfl rfl HR3.out.c HN.out HR3.out.c' HR3.out.m' (by omega) (by omega) (by omega) (by omega) (by omega) (fun W _ => HG.out W) rfl rfl rfl (fun _ => by kernel_rfl) rfl rfl rfl rfl ?_
        intro V KV
        simp only [Act.put, List.setIfInBounds_toArray, List.set_cons_zero, List.set_cons_succ]
        go_wp2
        have C' := HR3.out.c'.kept KV (by simp)
        have M' := HR3.out.m'.kept KV (by simp)
        have old := HR3.out.old
        refine bodyPost_ret (v := .tuple #[.agg (rcA (rgo s c.c)), .agg A']) (results_rw2 Tryd.results14 isT_rc isT_rm _ _ (b + 1 + 1) (b + 1 + 1 + 1) (rcA (rgo s c.c)) A' rfl z1 rfl rfl ?_ ?_) rfl ⟨A', rfl, ?_, ?_⟩
        · exact (C'.row _).rowOther _ (by omega)
        · exact (M'.rowOther _ (by omega)).row _
        · exact HZ5.out _ (((KV.weaken (m := [b, b + 1 + 1, b + 1 + 1 + 1]) (by simp)).setRow (Or.inl (by simp)) _).setRow (Or.inl (by simp)) _)
        · exact ((HR3.out.k.trans KV).setRow (Or.inr (by omega)) _).setRow (Or.inr (by omega)) _
      · have e1 : s' = ⟨s.f, s.l, s.t, s.w, W1, true⟩ := HS'.out.trans (if_pos rfl)
        subst e1
        go_wp2_with fail
        refine (HOF.out _).mono ?_
        rintro e w8 ⟨rfl, K8⟩
        have HR8 := hidOf (HR3.out.new K8)
        have HN8 := hidOf (HN.out.kept K8 (by simp))
        have q4 := cell_of_blk HR8.out.c (i := 4) (v := .int .u64 s.g) rfl
        have q5 := cell_of_blk HR8.out.c (i := 5) (v := .bool s.d) rfl
        have hf := free_of_blk HR8.out.c
        go_upto_region 18 with (fail)
        refine gen_world (fun V => RW 42 V b (rcA ⟨s.f, s.l, s.t, s.w, W1, true⟩) ∧ Kept [b] w8 V) ⟨?_, ((Kept.refl [b] w8).setCell (Or.inl (by simp)) _).setCell (Or.inl (by simp)) _⟩ ?_
        · have z := (HR8.out.c.set 4 (.int .u64 W1)).set 5 (.bool true)
          simpa [rcA] using z
        rintro V ⟨C, KV⟩
        clear q4 q5 hf
        have M := HN8.out.kept KV (by simp; omega)
        have C' := HR8.out.c'.kept KV (by simp; omega)
        have M' := HR8.out.m'.kept KV (by simp; omega)
        have old := HR8.out.old
        refine wp_ret2 isT_rc isT_rm (by kernel_rfl) (by kernel_rfl) (fun _ _ _ _ _ h => h) b nb (b + 1 + 1) (b + 1 + 1 + 1) (rcA ⟨s.f, s.l, s.t, s.w, W1, true⟩) A' rcZ rmZ rfl z1 (rc_one _) z2 rfl rfl C M C' M' (by omega) (by omega) (by omega) (by omega) (by omega) rfl rfl rfl rfl rfl rfl ?_
        simp only [Act.put, List.setIfInBounds_toArray, List.set_cons_zero, List.set_cons_succ]
        go_wp2
        refine bodyPost_ret (v := .tuple #[.agg (rcA ⟨s.f, s.l, s.t, s.w, W1, true⟩), .agg A']) (results_rw2 Tryd.results14 isT_rc isT_rm _ _ (b + 1 + 1) (b + 1 + 1 + 1) (rcA ⟨s.f, s.l, s.t, s.w, W1, true⟩) A' rfl z1 rfl rfl ?_ ?_) rfl ⟨A', rfl, ?_, ?_⟩
        · exact ((RW.drew C').row _).rowOther _ (by omega)
        · exact ((RW.drew M').rowOther _ (by omega)).row _
        · exact HZ5.out _ ((((K8.weaken (m := [b, b + 1 + 1, b + 1 + 1 + 1]) (by simp)).then KV (by simp)).drew.setRow (Or.inl (by simp)) _).setRow (Or.inl (by simp)) _)
        · exact ((HR8.out.k.then KV (by simp; omega)).drew.setRow (Or.inr (by omega)) _).setRow (Or.inr (by omega)) _
    refine AllReadyH.cons (o := { dst := some 11, op := Op.alloc 35, type := 0, pos := "ref.go:54", after := #[], guard := none }) rfl (fun K hK => ?_) AllReadyH.nil
    rw [if_pos (by rfl)]
    go_simp
    obtain ⟨nb, hnb⟩ : ∃ nb, nb = w5.heap.size := ⟨_, rfl⟩
    have KA : Kept [] w5 (w5.alloc (.cells rmZ 35)) := (Kept.refl [] w5).alloc _
    have RA := R5.new KA
    have NA := RW.new 35 w5 rmZ
    have LA : b + 1 + 1 + 1 < nb := by have := R5.m'.lt; omega
    rw [← hnb] at NA
    rw [← hnb]
    obtain ⟨wa, hwa⟩ : ∃ wa, wa = w5.alloc (.cells rmZ 35) := ⟨_, rfl⟩
    rw [← hwa] at KA RA NA
    have SA := Nat.le_trans S5 KA.size
    have E : w5.alloc (.cells #[.int .i64 0, .int .i64 0, .int .i64 0, .int .i64 0, .int .i64 0, .int .i64 0, .int .i64 0, .slice none 0 0, .int .i64 0, .int .i64 0, .int .i64 0, .int .u64 0, .int .u64 0, .int .u64 0, .bool false] 35) = wa := hwa.symm
    rw [E]
    have hle : w5.heap.size ≤ nb := by omega
    clear hwa E hnb
    try simp only [Act.put, List.setIfInBounds_toArray, List.set_cons_zero, List.set_cons_succ]
    refine hK.out _ _ (⟨RA.c, RA.m⟩) (fun hS => ?_)
    clear hK K
    refine wpAnyH_ready (rs := [6]) (by kernel_rfl) (by simp) ?_
    refine AllReadyH.cons (o := { dst := some 54, op := Op.call { callee := Callee.value (Operand.func 44), args := #[Operand.tmp 48, Operand.tmp 49, Operand.tmp 51, Operand.tmp 53], argTypes := #[35, 3, 29, 29] }, type := 81, pos := "ref.go:54", after := #[{ on := 0, ground := Ground.data }, { on := 1, ground := Ground.data }, { on := 3, ground := Ground.data }, { on := 5, ground := Ground.data }, { on := 5, ground := Ground.chain }], guard := none }) rfl (fun K hK => ?_) AllReadyH.nil
    rw [if_pos (by rfl)]
    refine wp_calls 44 #[.agg A, .int .i64 AT, .int .u64 s.w, .int .u64 V] (by kernel_rfl) (fun v W => ∃ A', v = .tuple #[.agg A', .bool D] ∧ (A'.size = 15 ∧ A'.all (·.oneCell') = true ∧ ∀ U l, Kept l W U → (∀ x ∈ l, w.heap.size ≤ x ∧ x < wa.heap.size) → P A' U) ∧ Kept [] wa W) ((HP.out _ RA.k).mono fun e w' ⟨A', h1, h2, h3⟩ => ⟨_, h1, A', rfl, h2, h3⟩) ?_
    rintro _ w6 ⟨A', rfl, ⟨z1, z2, z3⟩, K6⟩
    have R6 := RA.new K6
    have o4 := RA.m'.lt
    have o5 := K6.size
    have N6 := NA.kept K6 (by simp)
    have L6 := LA
    have HZ3 : Hid (∀ U, Kept [b, b + 1 + 1, b + 1 + 1 + 1, nb] w6 U → P A' U) := fun U k => z3 U _ k (by have := R6.old; have := NA.lt; simp; omega)
    have S6 := Nat.le_trans SA K6.size
    try simp only [Act.put, List.setIfInBounds_toArray, List.set_cons_zero, List.set_cons_succ]
    refine hK.out _ _ (⟨R6.c, R6.m⟩) (fun hS => ?_)
    clear hK K
    refine wpAnyH_take (i := 7) (oi := { dst := some 47, op := Op.move (Operand.tmp 54), type := 81, pos := "ref.go:54", after := #[{ on := 6, ground := Ground.data }], guard := none }) (v := Value.tuple #[.agg A', .bool D]) rfl (by kernel_rfl) (by kernel_rfl) (by kernel_rfl) (fun _ _ _ h => h) (Or.inl ⟨rfl, fun _ _ => by kernel_rfl⟩) hS ?_
    try simp only [Act.put, List.setIfInBounds_toArray, List.set_cons_zero, List.set_cons_succ]
    refine wpAnyH_take (i := 8) (oi := { dst := some 55, op := Op.extract (Operand.tmp 47) 0, type := 35, pos := "ref.go:54", after := #[{ on := 7, ground := Ground.data }], guard := none }) (v := Value.agg A') rfl (by kernel_rfl) (by kernel_rfl) (by kernel_rfl) (fun _ _ _ h => h) (Or.inl ⟨rfl, fun _ _ => by kernel_rfl⟩) hS ?_
    try simp only [Act.put, List.setIfInBounds_toArray, List.set_cons_zero, List.set_cons_succ]
    refine wpAnyH_take (i := 9) (oi := { dst := some 56, op := Op.extract (Operand.tmp 47) 1, type := 4, pos := "ref.go:54", after := #[{ on := 7, ground := Ground.data }, { on := 11, ground := Ground.gcOnly Departure.lateStores }], guard := none }) (v := Value.bool D) rfl (by kernel_rfl) (by kernel_rfl) (by kernel_rfl) (fun _ _ _ h => h) (Or.inl ⟨rfl, fun _ _ => by kernel_rfl⟩) hS ?_
    try simp only [Act.put, List.setIfInBounds_toArray, List.set_cons_zero, List.set_cons_succ]
    refine wpAnyH_ready (rs := [11]) (by kernel_rfl) (by simp) ?_
    refine AllReadyH.cons (o := { dst := none, op := Op.store 35 (Operand.tmp 11) (Operand.tmp 55), type := 0, pos := "ref.go:54", after := #[{ on := 10, ground := Ground.data }, { on := 8, ground := Ground.data }, { on := 6, ground := Ground.chain }, { on := 0, ground := Ground.phase }, { on := 1, ground := Ground.phase }, { on := 2, ground := Ground.phase }, { on := 3, ground := Ground.phase }, { on := 4, ground := Ground.phase }, { on := 5, ground := Ground.phase }, { on := 6, ground := Ground.phase }, { on := 7, ground := Ground.phase }, { on := 8, ground := Ground.phase }, { on := 9, ground := Ground.textOnly Departure.lateStores }, { on := 10, ground := Ground.phase }], guard := none }) rfl (fun K hK => ?_) AllReadyH.nil
    rw [if_pos (by rfl)]
    refine wp_store_row 35 (.tmp 11) (.tmp 55) rfl nb A' rfl rfl 35 rmZ N6 (by rw [isT_rm.1, z1]) (by rw [z1]; rfl) z2 ?_
    have RB : R4 42 35 w (w6.setRow nb A') b (rcA s) A rcZ rmZ := ⟨R6.c.rowOther _ (by omega), R6.m.rowOther _ (by omega), R6.c'.rowOther _ (by omega), R6.m'.rowOther _ (by omega), R6.k.setRow (Or.inr (by have := R6.old; omega)) _, R6.old⟩
    have NB := N6.row A'
    have HZ5 : Hid (∀ U, Kept [b, b + 1 + 1, b + 1 + 1 + 1] (w6.setRow nb A') U → P A' U) := fun U k => HZ3.out U (((Kept.refl [b, b + 1 + 1, b + 1 + 1 + 1, nb] w6).setRow (Or.inl (by simp)) _).then k (by simp))
    simp only [Act.put]
    refine hK.out _ _ (⟨RB.c, RB.m⟩) (fun hS => ?_)
    clear hK K
    refine wpAnyH_take (i := 12) (oi := { dst := some 12, op := Op.assign (Operand.tmp 56), type := 4, pos := "ref.go:54", after := #[{ on := 9, ground := Ground.data }, { on := 11, ground := Ground.chain }, { on := 0, ground := Ground.phase }, { on := 1, ground := Ground.phase }, { on := 2, ground := Ground.phase }, { on := 3, ground := Ground.phase }, { on := 4, ground := Ground.phase }, { on := 5, ground := Ground.phase }, { on := 6, ground := Ground.phase }, { on := 7, ground := Ground.phase }, { on := 8, ground := Ground.phase }, { on := 9, ground := Ground.phase }, { on := 10, ground := Ground.phase }, { on := 11, ground := Ground.phase }], guard := none }) (v := Value.bool D) rfl (by kernel_rfl) (by kernel_rfl) (by kernel_rfl) (fun _ _ _ h => h) (Or.inl ⟨rfl, fun _ _ => by kernel_rfl⟩) hS ?_
    try simp only [Act.put, List.setIfInBounds_toArray, List.set_cons_zero, List.set_cons_succ]
    refine wpAnyH_done (by kernel_rfl) ?_ _
    have HR3 := hidOf RB
    have HN := hidOf NB
    have LB := L6
    generalize (w6.setRow nb A') = w3 at HR3 HN HZ5 ⊢
    cases D
    · have e1 : s' = rgo s c.c := HS'.out.trans (if_neg (by simp))
      subst e1
      go_upto_region 15 with (fail)
      refine wp_ret2c isT_rc isT_rm (by kernel_rfl) (by kernel_rfl) (by kernel_rfl) (fun _ _ _ _ _ h => h) b nb (b + 1 + 1) (b + 1 + 1 + 1) (rcA s) A' (rcA (rgo s c.c)) rcZ rmZ (.int .i64 c.c) rfl z1 rfl (rc_one _) z2 rfl rfl HR3.out.c HN.out HR3.out.c' HR3.out.m' (by omega) (by omega) (by omega) (by omega) (by omega) (fun W _ => HG.out W) rfl rfl rfl (fun _ => by kernel_rfl) rfl rfl rfl rfl ?_
      intro V KV
      simp only [Act.put, List.setIfInBounds_toArray, List.set_cons_zero, List.set_cons_succ]
      go_wp2
      have C' := HR3.out.c'.kept KV (by simp)
      have M' := HR3.out.m'.kept KV (by simp)
      have old := HR3.out.old
      refine bodyPost_ret (v := .tuple #[.agg (rcA (rgo s c.c)), .agg A']) (results_rw2 Tryd.results14 isT_rc isT_rm _ _ (b + 1 + 1) (b + 1 + 1 + 1) (rcA (rgo s c.c)) A' rfl z1 rfl rfl ?_ ?_) rfl ⟨A', rfl, ?_, ?_⟩
      · exact (C'.row _).rowOther _ (by omega)
      · exact (M'.rowOther _ (by omega)).row _
      · exact HZ5.out _ (((KV.weaken (m := [b, b + 1 + 1, b + 1 + 1 + 1]) (by simp)).setRow (Or.inl (by simp)) _).setRow (Or.inl (by simp)) _)
      · exact ((HR3.out.k.trans KV).setRow (Or.inr (by omega)) _).setRow (Or.inr (by omega)) _
    · have e1 : s' = ⟨s.f, s.l, s.t, s.w, W1, true⟩ := HS'.out.trans (if_pos rfl)
      subst e1
      go_wp2_with fail
      refine (HOF.out _).mono ?_
      rintro e w8 ⟨rfl, K8⟩
      have HR8 := hidOf (HR3.out.new K8)
      have HN8 := hidOf (HN.out.kept K8 (by simp))
      have q4 := cell_of_blk HR8.out.c (i := 4) (v := .int .u64 s.g) rfl
      have q5 := cell_of_blk HR8.out.c (i := 5) (v := .bool s.d) rfl
      have hf := free_of_blk HR8.out.c
      go_upto_region 18 with (fail)
      refine gen_world (fun V => RW 42 V b (rcA ⟨s.f, s.l, s.t, s.w, W1, true⟩) ∧ Kept [b] w8 V) ⟨?_, ((Kept.refl [b] w8).setCell (Or.inl (by simp)) _).setCell (Or.inl (by simp)) _⟩ ?_
      · have z := (HR8.out.c.set 4 (.int .u64 W1)).set 5 (.bool true)
        simpa [rcA] using z
      rintro V ⟨C, KV⟩
      clear q4 q5 hf
      have M := HN8.out.kept KV (by simp; omega)
      have C' := HR8.out.c'.kept KV (by simp; omega)
      have M' := HR8.out.m'.kept KV (by simp; omega)
      have old := HR8.out.old
      refine wp_ret2 isT_rc isT_rm (by kernel_rfl) (by kernel_rfl) (fun _ _ _ _ _ h => h) b nb (b + 1 + 1) (b + 1 + 1 + 1) (rcA ⟨s.f, s.l, s.t, s.w, W1, true⟩) A' rcZ rmZ rfl z1 (rc_one _) z2 rfl rfl C M C' M' (by omega) (by omega) (by omega) (by omega) (by omega) rfl rfl rfl rfl rfl rfl ?_
      simp only [Act.put, List.setIfInBounds_toArray, List.set_cons_zero, List.set_cons_succ]
      go_wp2
      refine bodyPost_ret (v := .tuple #[.agg (rcA ⟨s.f, s.l, s.t, s.w, W1, true⟩), .agg A']) (results_rw2 Tryd.results14 isT_rc isT_rm _ _ (b + 1 + 1) (b + 1 + 1 + 1) (rcA ⟨s.f, s.l, s.t, s.w, W1, true⟩) A' rfl z1 rfl rfl ?_ ?_) rfl ⟨A', rfl, ?_, ?_⟩
      · exact ((RW.drew C').row _).rowOther _ (by omega)
      · exact ((RW.drew M').rowOther _ (by omega)).row _
      · exact HZ5.out _ ((((K8.weaken (m := [b, b + 1 + 1, b + 1 + 1 + 1]) (by simp)).then KV (by simp)).drew.setRow (Or.inl (by simp)) _).setRow (Or.inl (by simp)) _)
      · exact ((HR8.out.k.then KV (by simp; omega)).drew.setRow (Or.inr (by omega)) _).setRow (Or.inr (by omega)) _
  refine AllReadyH.cons (o := { dst := some 11, op := Op.alloc 35, type := 0, pos := "ref.go:54", after := #[], guard := none }) rfl (fun K hK => ?_) AllReadyH.nil
  rw [if_pos (by rfl)]
  go_simp
  obtain ⟨nb, hnb⟩ : ∃ nb, nb = wx.heap.size := ⟨_, rfl⟩
  have KA : Kept [] wx (wx.alloc (.cells rmZ 35)) := (Kept.refl [] wx).alloc _
  have RA := R1.new KA
  have NA := RW.new 35 wx rmZ
  have LA : b + 1 + 1 + 1 < nb := by have := R1.m'.lt; omega
  rw [← hnb] at NA
  rw [← hnb]
  obtain ⟨wa, hwa⟩ : ∃ wa, wa = wx.alloc (.cells rmZ 35) := ⟨_, rfl⟩
  rw [← hwa] at KA RA NA
  have SA := Nat.le_trans (Nat.le_refl _) KA.size
  have E : wx.alloc (.cells #[.int .i64 0, .int .i64 0, .int .i64 0, .int .i64 0, .int .i64 0, .int .i64 0, .int .i64 0, .slice none 0 0, .int .i64 0, .int .i64 0, .int .i64 0, .int .u64 0, .int .u64 0, .int .u64 0, .bool false] 35) = wa := hwa.symm
  rw [E]
  have hle : wx.heap.size ≤ nb := by omega
  clear hwa E hnb
  try simp only [Act.put, List.setIfInBounds_toArray, List.set_cons_zero, List.set_cons_succ]
  refine hK.out _ _ (⟨RA.c, RA.m⟩) (fun hS => ?_)
  clear hK K
  refine wpAnyH_ready (rs := [5]) (by kernel_rfl) (by simp) ?_
  refine AllReadyH.cons (o := { dst := some 53, op := Op.call { callee := Callee.value (Operand.func 45), args := #[Operand.tmp 52], argTypes := #[3] }, type := 29, pos := "ref.go:54", after := #[{ on := 4, ground := Ground.data }], guard := none }) rfl (fun K hK => ?_) AllReadyH.nil
  rw [if_pos (by rfl)]
  refine wp_calls 45 #[.int .i64 G] (by kernel_rfl) (fun v W => v = .int .u64 V ∧ Kept [] wa W) ((HTK.out _).mono fun e w' hh => ⟨_, hh.1, rfl, hh.2⟩) ?_
  rintro _ w5 ⟨rfl, K5⟩
  have R5 := RA.new K5
  have N5 := NA.kept K5 (by simp)
  have L5 := LA
  have S5 := Nat.le_trans SA K5.size
  try simp only [Act.put, List.setIfInBounds_toArray, List.set_cons_zero, List.set_cons_succ]
  refine hK.out _ _ (⟨R5.c, R5.m⟩) (fun hS => ?_)
  clear hK K
  refine wpAnyH_ready (rs := [6]) (by kernel_rfl) (by simp) ?_
  refine AllReadyH.cons (o := { dst := some 54, op := Op.call { callee := Callee.value (Operand.func 44), args := #[Operand.tmp 48, Operand.tmp 49, Operand.tmp 51, Operand.tmp 53], argTypes := #[35, 3, 29, 29] }, type := 81, pos := "ref.go:54", after := #[{ on := 0, ground := Ground.data }, { on := 1, ground := Ground.data }, { on := 3, ground := Ground.data }, { on := 5, ground := Ground.data }, { on := 5, ground := Ground.chain }], guard := none }) rfl (fun K hK => ?_) AllReadyH.nil
  rw [if_pos (by rfl)]
  refine wp_calls 44 #[.agg A, .int .i64 AT, .int .u64 s.w, .int .u64 V] (by kernel_rfl) (fun v W => ∃ A', v = .tuple #[.agg A', .bool D] ∧ (A'.size = 15 ∧ A'.all (·.oneCell') = true ∧ ∀ U l, Kept l W U → (∀ x ∈ l, w.heap.size ≤ x ∧ x < w5.heap.size) → P A' U) ∧ Kept [] w5 W) ((HP.out _ R5.k).mono fun e w' ⟨A', h1, h2, h3⟩ => ⟨_, h1, A', rfl, h2, h3⟩) ?_
  rintro _ w6 ⟨A', rfl, ⟨z1, z2, z3⟩, K6⟩
  have R6 := R5.new K6
  have o4 := R5.m'.lt
  have o5 := K6.size
  have N6 := N5.kept K6 (by simp)
  have L6 := L5
  have HZ3 : Hid (∀ U, Kept [b, b + 1 + 1, b + 1 + 1 + 1, nb] w6 U → P A' U) := fun U k => z3 U _ k (by have := R6.old; have := N5.lt; simp; omega)
  have S6 := Nat.le_trans S5 K6.size
  try simp only [Act.put, List.setIfInBounds_toArray, List.set_cons_zero, List.set_cons_succ]
  refine hK.out _ _ (⟨R6.c, R6.m⟩) (fun hS => ?_)
  clear hK K
  refine wpAnyH_take (i := 7) (oi := { dst := some 47, op := Op.move (Operand.tmp 54), type := 81, pos := "ref.go:54", after := #[{ on := 6, ground := Ground.data }], guard := none }) (v := Value.tuple #[.agg A', .bool D]) rfl (by kernel_rfl) (by kernel_rfl) (by kernel_rfl) (fun _ _ _ h => h) (Or.inl ⟨rfl, fun _ _ => by kernel_rfl⟩) hS ?_
  try simp only [Act.put, List.setIfInBounds_toArray, List.set_cons_zero, List.set_cons_succ]
  refine wpAnyH_take (i := 8) (oi := { dst := some 55, op := Op.extract (Operand.tmp 47) 0, type := 35, pos := "ref.go:54", after := #[{ on := 7, ground := Ground.data }], guard := none }) (v := Value.agg A') rfl (by kernel_rfl) (by kernel_rfl) (by kernel_rfl) (fun _ _ _ h => h) (Or.inl ⟨rfl, fun _ _ => by kernel_rfl⟩) hS ?_
  try simp only [Act.put, List.setIfInBounds_toArray, List.set_cons_zero, List.set_cons_succ]
  refine wpAnyH_take (i := 9) (oi := { dst := some 56, op := Op.extract (Operand.tmp 47) 1, type := 4, pos := "ref.go:54", after := #[{ on := 7, ground := Ground.data }, { on := 11, ground := Ground.gcOnly Departure.lateStores }], guard := none }) (v := Value.bool D) rfl (by kernel_rfl) (by kernel_rfl) (by kernel_rfl) (fun _ _ _ h => h) (Or.inl ⟨rfl, fun _ _ => by kernel_rfl⟩) hS ?_
  try simp only [Act.put, List.setIfInBounds_toArray, List.set_cons_zero, List.set_cons_succ]
  refine wpAnyH_ready (rs := [11]) (by kernel_rfl) (by simp) ?_
  refine AllReadyH.cons (o := { dst := none, op := Op.store 35 (Operand.tmp 11) (Operand.tmp 55), type := 0, pos := "ref.go:54", after := #[{ on := 10, ground := Ground.data }, { on := 8, ground := Ground.data }, { on := 6, ground := Ground.chain }, { on := 0, ground := Ground.phase }, { on := 1, ground := Ground.phase }, { on := 2, ground := Ground.phase }, { on := 3, ground := Ground.phase }, { on := 4, ground := Ground.phase }, { on := 5, ground := Ground.phase }, { on := 6, ground := Ground.phase }, { on := 7, ground := Ground.phase }, { on := 8, ground := Ground.phase }, { on := 9, ground := Ground.textOnly Departure.lateStores }, { on := 10, ground := Ground.phase }], guard := none }) rfl (fun K hK => ?_) AllReadyH.nil
  rw [if_pos (by rfl)]
  refine wp_store_row 35 (.tmp 11) (.tmp 55) rfl nb A' rfl rfl 35 rmZ N6 (by rw [isT_rm.1, z1]) (by rw [z1]; rfl) z2 ?_
  have RB : R4 42 35 w (w6.setRow nb A') b (rcA s) A rcZ rmZ := ⟨R6.c.rowOther _ (by omega), R6.m.rowOther _ (by omega), R6.c'.rowOther _ (by omega), R6.m'.rowOther _ (by omega), R6.k.setRow (Or.inr (by have := R6.old; omega)) _, R6.old⟩
  have NB := N6.row A'
  have HZ5 : Hid (∀ U, Kept [b, b + 1 + 1, b + 1 + 1 + 1] (w6.setRow nb A') U → P A' U) := fun U k => HZ3.out U (((Kept.refl [b, b + 1 + 1, b + 1 + 1 + 1, nb] w6).setRow (Or.inl (by simp)) _).then k (by simp))
  simp only [Act.put]
  refine hK.out _ _ (⟨RB.c, RB.m⟩) (fun hS => ?_)
  clear hK K
  refine wpAnyH_take (i := 12) (oi := { dst := some 12, op := Op.assign (Operand.tmp 56), type := 4, pos := "ref.go:54", after := #[{ on := 9, ground := Ground.data }, { on := 11, ground := Ground.chain }, { on := 0, ground := Ground.phase }, { on := 1, ground := Ground.phase }, { on := 2, ground := Ground.phase }, { on := 3, ground := Ground.phase }, { on := 4, ground := Ground.phase }, { on := 5, ground := Ground.phase }, { on := 6, ground := Ground.phase }, { on := 7, ground := Ground.phase }, { on := 8, ground := Ground.phase }, { on := 9, ground := Ground.phase }, { on := 10, ground := Ground.phase }, { on := 11, ground := Ground.phase }], guard := none }) (v := Value.bool D) rfl (by kernel_rfl) (by kernel_rfl) (by kernel_rfl) (fun _ _ _ h => h) (Or.inl ⟨rfl, fun _ _ => by kernel_rfl⟩) hS ?_
  try simp only [Act.put, List.setIfInBounds_toArray, List.set_cons_zero, List.set_cons_succ]
  refine wpAnyH_done (by kernel_rfl) ?_ _
  have HR3 := hidOf RB
  have HN := hidOf NB
  have LB := L6
  generalize (w6.setRow nb A') = w3 at HR3 HN HZ5 ⊢
  cases D
  · have e1 : s' = rgo s c.c := HS'.out.trans (if_neg (by simp))
    subst e1
    go_upto_region 15 with (fail)
    refine wp_ret2c isT_rc isT_rm (by kernel_rfl) (by kernel_rfl) (by kernel_rfl) (fun _ _ _ _ _ h => h) b nb (b + 1 + 1) (b + 1 + 1 + 1) (rcA s) A' (rcA (rgo s c.c)) rcZ rmZ (.int .i64 c.c) rfl z1 rfl (rc_one _) z2 rfl rfl HR3.out.c HN.out HR3.out.c' HR3.out.m' (by omega) (by omega) (by omega) (by omega) (by omega) (fun W _ => HG.out W) rfl rfl rfl (fun _ => by kernel_rfl) rfl rfl rfl rfl ?_
    intro V KV
    simp only [Act.put, List.setIfInBounds_toArray, List.set_cons_zero, List.set_cons_succ]
    go_wp2
    have C' := HR3.out.c'.kept KV (by simp)
    have M' := HR3.out.m'.kept KV (by simp)
    have old := HR3.out.old
    refine bodyPost_ret (v := .tuple #[.agg (rcA (rgo s c.c)), .agg A']) (results_rw2 Tryd.results14 isT_rc isT_rm _ _ (b + 1 + 1) (b + 1 + 1 + 1) (rcA (rgo s c.c)) A' rfl z1 rfl rfl ?_ ?_) rfl ⟨A', rfl, ?_, ?_⟩
    · exact (C'.row _).rowOther _ (by omega)
    · exact (M'.rowOther _ (by omega)).row _
    · exact HZ5.out _ (((KV.weaken (m := [b, b + 1 + 1, b + 1 + 1 + 1]) (by simp)).setRow (Or.inl (by simp)) _).setRow (Or.inl (by simp)) _)
    · exact ((HR3.out.k.trans KV).setRow (Or.inr (by omega)) _).setRow (Or.inr (by omega)) _
  · have e1 : s' = ⟨s.f, s.l, s.t, s.w, W1, true⟩ := HS'.out.trans (if_pos rfl)
    subst e1
    go_wp2_with fail
    refine (HOF.out _).mono ?_
    rintro e w8 ⟨rfl, K8⟩
    have HR8 := hidOf (HR3.out.new K8)
    have HN8 := hidOf (HN.out.kept K8 (by simp))
    have q4 := cell_of_blk HR8.out.c (i := 4) (v := .int .u64 s.g) rfl
    have q5 := cell_of_blk HR8.out.c (i := 5) (v := .bool s.d) rfl
    have hf := free_of_blk HR8.out.c
    go_upto_region 18 with (fail)
    refine gen_world (fun V => RW 42 V b (rcA ⟨s.f, s.l, s.t, s.w, W1, true⟩) ∧ Kept [b] w8 V) ⟨?_, ((Kept.refl [b] w8).setCell (Or.inl (by simp)) _).setCell (Or.inl (by simp)) _⟩ ?_
    · have z := (HR8.out.c.set 4 (.int .u64 W1)).set 5 (.bool true)
      simpa [rcA] using z
    rintro V ⟨C, KV⟩
    clear q4 q5 hf
    have M := HN8.out.kept KV (by simp; omega)
    have C' := HR8.out.c'.kept KV (by simp; omega)
    have M' := HR8.out.m'.kept KV (by simp; omega)
    have old := HR8.out.old
    refine wp_ret2 isT_rc isT_rm (by kernel_rfl) (by kernel_rfl) (fun _ _ _ _ _ h => h) b nb (b + 1 + 1) (b + 1 + 1 + 1) (rcA ⟨s.f, s.l, s.t, s.w, W1, true⟩) A' rcZ rmZ rfl z1 (rc_one _) z2 rfl rfl C M C' M' (by omega) (by omega) (by omega) (by omega) (by omega) rfl rfl rfl rfl rfl rfl ?_
    simp only [Act.put, List.setIfInBounds_toArray, List.set_cons_zero, List.set_cons_succ]
    go_wp2
    refine bodyPost_ret (v := .tuple #[.agg (rcA ⟨s.f, s.l, s.t, s.w, W1, true⟩), .agg A']) (results_rw2 Tryd.results14 isT_rc isT_rm _ _ (b + 1 + 1) (b + 1 + 1 + 1) (rcA ⟨s.f, s.l, s.t, s.w, W1, true⟩) A' rfl z1 rfl rfl ?_ ?_) rfl ⟨A', rfl, ?_, ?_⟩
    · exact ((RW.drew C').row _).rowOther _ (by omega)
    · exact ((RW.drew M').rowOther _ (by omega)).row _
    · exact HZ5.out _ ((((K8.weaken (m := [b, b + 1 + 1, b + 1 + 1 + 1]) (by simp)).then KV (by simp)).drew.setRow (Or.inl (by simp)) _).setRow (Or.inl (by simp)) _)
    · exact ((HR8.out.k.then KV (by simp; omega)).drew.setRow (Or.inr (by omega)) _).setRow (Or.inr (by omega)) _
end K
end Go.Proofs.YtmmpafhfanldbaaDoor
