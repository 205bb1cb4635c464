/-
  Words that somebody else writes ahead of a step: the program's, and the document's.
-/
import Derived.Test.YtmmpafhfanldbaaDoorKPoke
import Derived.Deep.Cut
namespace Go.Proofs.YtmmpafhfanldbaaDoor
open Go.RowKit (Grown Hid Below intOf)
open Go.Deep
namespace K
set_option maxRecDepth 100000
def pkL (p : Pk) : List Value := [.int .i64 p.s, .int .i64 p.c, .int .u64 p.v]
def pk0 : Pk := ⟨0, 0, 0⟩
/-- Cells, how many accesses there were, and the last one. -/
structure Mst where
  cs : List Int
  n : Int
  a : Acc
def pkS (k : Int) (p : Pk) (x : Mst) : Mst := if p.s = k then ⟨clV x.cs 2 p.c 0 p.v, x.n + 1, acV x.cs 2 p.c 0 0 p.v⟩ else x
def pkF (k : Int) (ps : List Pk) (x : Mst) : Mst := ps.foldl (fun y p => pkS k p y) x
theorem pkS_len (k : Int) (p : Pk) (x : Mst) : (pkS k p x).cs.length = x.cs.length := by
  unfold pkS; split
  · show (clV x.cs 2 p.c 0 p.v).length = _
    unfold clV; split <;> simp
  · rfl
theorem pkS_n (k : Int) (p : Pk) (x : Mst) : x.n ≤ (pkS k p x).n ∧ (pkS k p x).n ≤ x.n + 1 := by
  unfold pkS; split
  · show x.n ≤ x.n + 1 ∧ x.n + 1 ≤ x.n + 1; omega
  · omega
theorem pkF_len (k : Int) : ∀ (ps : List Pk) (x : Mst), (pkF k ps x).cs.length = x.cs.length
  | [], _ => rfl
  | p :: ps, x => (pkF_len k ps (pkS k p x)).trans (pkS_len k p x)
theorem pkF_n (k : Int) : ∀ (ps : List Pk) (x : Mst), x.n ≤ (pkF k ps x).n ∧ (pkF k ps x).n ≤ x.n + ps.length
  | [], x => by show x.n ≤ x.n ∧ x.n ≤ x.n + ((0 : Nat) : Int); omega
  | p :: ps, x => by
    have h1 := pkF_n k ps (pkS k p x)
    have h2 := pkS_n k p x
    show x.n ≤ (pkF k ps (pkS k p x)).n ∧ (pkF k ps (pkS k p x)).n ≤ x.n + (((p :: ps).length : Nat) : Int)
    rw [List.length_cons]; omega
theorem pkF_next (k : Int) (ps : List Pk) (x : Mst) {i : Nat} (h : i < ps.length) : pkF k (ps.take (i + 1)) x = pkS k (ps.getD i pk0) (pkF k (ps.take i) x) := by
  unfold pkF
  rw [List.take_add_one, List.foldl_append]
  simp [h]
theorem pk_row {w : World} {ao : Option Addr} {ps : List Pk} (h : SlOf 3 pkL w ao ps) {k : Nat} (hk : k < ps.length) :
    ∃ b off, ao = some ⟨b, off, none⟩ ∧ b < w.heap.size ∧ w.cell? ⟨b, off + k * 3, none⟩ = some (.int .i64 (ps.getD k pk0).s) ∧ w.cell? ⟨b, off + k * 3 + 1, none⟩ = some (.int .i64 (ps.getD k pk0).c) ∧ w.cell? ⟨b, off + k * 3 + 2, none⟩ = some (.int .u64 (ps.getD k pk0).v) := by
  obtain ⟨b, off, rfl, hb, hc⟩ := h (by omega)
  have e : ps.getD k pk0 = ps[k] := by simp [hk]
  rw [e]
  exact ⟨b, off, rfl, hb, hc k hk 0 _ rfl, hc k hk 1 _ rfl, hc k hk 2 _ rfl⟩
set_option maxHeartbeats 4000000 in
theorem poked_any (m p r g : Nat) (c : Cfg) (x : Mst) (cap : Nat) (ao : Option Addr) (ps : List Pk) (n cp : Nat) (k : Int) (w : World) (hM : Mm w m p r c x.cs x.n x.a) (hR : RowR w g x.cs cap) (hgr : ¬ g = r) (hl : x.cs.length ≤ 17592186044415) (hn : n = ps.length)
    (hs : SlOf 3 pkL w ao ps) (hx : 0 < ps.length → ∀ ad, ao = some ad → ¬ ad.block = p ∧ ¬ ad.block = r) (hc : n ≤ 1000) (c0 : 0 ≤ x.n) (c1 : x.n < 4611686018427386000) :
    Calls Tryd.prog 12 #[.pointer (some ⟨m, 0, none⟩), .agg (rmA c (some ⟨g, 0, none⟩) x.cs.length cap x.n x.a), .slice ao n cp, .int .i64 k] w fun e w' =>
      ∃ g' c', e = .returned (.agg (rmA c (some ⟨g', 0, none⟩) x.cs.length c' (pkF k ps x).n (pkF k ps x).a)) ∧ (g' = g ∨ w.heap.size ≤ g') ∧ RowR w' g' (pkF k ps x).cs c' ∧ Mm w' m p r c (pkF k ps x).cs (pkF k ps x).n (pkF k ps x).a ∧ Kept [p, r] w w' := by
  obtain ⟨b, hb⟩ : ∃ b, b = w.heap.size := ⟨_, rfl⟩
  obtain ⟨L, hL⟩ : ∃ L, L = x.cs.length := ⟨_, rfl⟩
  rw [← hL]
  have ST := hidOf (two_new 35 35 w (rmA c (some ⟨g, 0, none⟩) L cap x.n x.a) rmZ hb)
  have hg := hR.lt
  have HM := hidOf hM
  have HMr : Hid (m < w.heap.size ∧ p < w.heap.size ∧ r < w.heap.size) := ⟨lt_of_blk hM.st, lt_of_blk hM.bk.st, lt_of_blk hM.bk.row⟩
  have HR := hidOf hR
  have HS := hidOf hs
  have HN := hidOf hn
  have HLe := hidOf hL
  clear hM hR hs hn hL
  go_enter Tryd.func12, Tryd.ntmps12
  go_upto_region 1 with (fail)
  rw [← hb]
  refine gen_world (fun W => RW 35 W b (rmA c (some ⟨g, 0, none⟩) L cap x.n x.a) ∧ RW 35 W (b + 1) rmZ ∧ Kept [] w W) ST.out ?_
  have hbw : w.heap.size ≤ b := by omega
  clear ST hb
  rintro W ⟨B0, C0, K0⟩
  have HX := hidOf (And.intro B0 (And.intro C0 K0))
  clear B0 C0 K0
  go_wp2
  go_loopw [13] (fun i wr => ∃ (j g' c' : Nat), j ≤ n ∧ i = .int .i64 j ∧ RW 35 wr b (rmA c (some ⟨g', 0, none⟩) L c' (pkF k (ps.take j) x).n (pkF k (ps.take j) x).a) ∧ RW 35 wr (b + 1) rmZ ∧ Hid (g' = g ∨ w.heap.size ≤ g') ∧ RowR wr g' (pkF k (ps.take j) x).cs c' ∧ Mm wr m p r c (pkF k (ps.take j) x).cs (pkF k (ps.take j) x).n (pkF k (ps.take j) x).a ∧ Kept [p, r] w wr) (fun i _ => n - (intOf i).toNat)
  case atStart =>
    obtain ⟨B0, C0, K0⟩ := HX.out
    exact ⟨0, g, cap, Nat.zero_le _, rfl, B0, C0, Or.inl rfl, HR.out.kept K0 (by simp), HM.out.new K0, K0.weaken (by simp)⟩
  case round =>
    obtain ⟨j, g', c', hj, rfl, D0, C0, hg0, R0, M0, KR⟩ := hrel
    clear HX HR HM
    by_cases hlt : j < n
    · have hltz : (j : Int) < (n : Int) := by omega
      have NX := hidOf (pkF_next k ps x (by rw [← HN.out]; exact hlt))
      obtain ⟨Y, hYe⟩ : ∃ Y, pkF k (ps.take j) x = Y := ⟨_, rfl⟩
      have yb := pkF_n k (ps.take j) x
      have hY : Y.cs.length = L := by rw [← hYe, pkF_len]; exact HLe.out.symm
      rw [List.length_take] at yb
      rw [hYe] at NX D0 R0 M0 yb
      clear hYe
      have y0 : 0 ≤ Y.n := by omega
      have y1 : Y.n < 4611686018427387904 := by have := HN.out; omega
      have hYl : Y.cs.length ≤ 17592186044415 := by rw [hY, HLe.out]; exact hl
      have SL := HS.out.kept KR (fun ad e => by have := hx (by have := HN.out; omega) ad e; simp; omega)
      obtain ⟨b1, o1, e1, lt1, s0, s1, s2⟩ := pk_row SL (by rw [← HN.out]; exact hlt)
      have hgr' : ¬ g' = r := by
        rcases hg0.out with h | h
        · rw [h]; exact hgr
        · have := HMr.out; omega
      have hgp' : ¬ g' = p := fun e => by obtain ⟨rest, z1, z2⟩ := R0; rw [e, M0.bk.st] at z1; simp at z1
      have hgb' : ¬ g' = b := fun e => by obtain ⟨rest, z1, z2⟩ := R0; rw [e, D0] at z1; simp at z1
      have bp : ¬ b = p := by have := HMr.out; omega
      have br : ¬ b = r := by have := HMr.out; omega
      have bm : ¬ b = m := by have := HMr.out; omega
      have cp' : ¬ b + 1 = p := by have := HMr.out; omega
      have cr' : ¬ b + 1 = r := by have := HMr.out; omega
      generalize ps.getD j pk0 = q at NX s0 s1 s2
      obtain ⟨sk, ce, v⟩ := q
      have ss0 : wr.cell? ⟨b1, o1 + j * 3, none⟩ = some (.int .i64 sk) := s0
      have ss1 : wr.cell? ⟨b1, o1 + j * 3 + 1, none⟩ = some (.int .i64 ce) := s1
      have ss2 : wr.cell? ⟨b1, o1 + j * 3 + 2, none⟩ = some (.int .u64 v) := s2
      clear s0 s1 s2 SL
      rw [e1]
      have HF := hidOf (And.intro D0 (And.intro C0 (And.intro R0 (And.intro M0 KR))))
      have szr := D0.lt
      clear D0 C0 R0 M0 KR
      by_cases hk : sk = k
      · subst hk
        have NX' : Hid (pkF sk (ps.take (j + 1)) x = ⟨clV Y.cs 2 ce 0 v, Y.n + 1, acV Y.cs 2 ce 0 0 v⟩) := NX.out.trans (if_pos rfl)
        clear NX
        have NX := NX'
        clear NX'
        obtain ⟨nb, hnb⟩ : ∃ nb, nb = wr.heap.size := ⟨_, rfl⟩
        go_upto_region 5 with (fail)
        rw [← hnb]
        refine gen_world (fun V => RW 75 V nb (pkA ⟨sk, ce, v⟩) ∧ Kept [] wr V) ?_ ?_
        · rw [hnb]; exact ⟨RW.new _ _ _, (Kept.refl [] wr).alloc _⟩
        have nle : wr.heap.size ≤ nb := by omega
        clear hnb ss0 ss1 ss2
        rintro V1 ⟨N1, KV1⟩
        have D1 := HF.out.1.kept KV1.drew (by simp)
        have C1 := HF.out.2.1.kept KV1.drew (by simp)
        have R1 := HF.out.2.2.1.kept KV1.drew (by simp)
        have M1 : Mm V1.drew m p r c Y.cs Y.n Y.a := HF.out.2.2.2.1.new KV1.drew
        have KV : Kept [p, r] w V1.drew := HF.out.2.2.2.2.then KV1.drew (by simp)
        have N1' : RW 75 V1.drew nb (pkA ⟨sk, ce, v⟩) := N1
        have np : ¬ nb = p := by have := HMr.out; have := HF.out.2.2.2.2.size; omega
        have nr : ¬ nb = r := by have := HMr.out; have := HF.out.2.2.2.2.size; omega
        clear HF KV1
        refine wp_region_held_drew (S := fun w' => RW 75 w' nb (pkA ⟨sk, ce, v⟩)) (by kernel_rfl) N1 (fun hS => ?_)
        refine wpAnyH_take (i := 0) (oi := { dst := some 21, op := Op.move (Operand.tmp 0), type := 28, pos := "law.go:53", after := #[], guard := none }) (v := Value.pointer (some ⟨m, 0, none⟩)) rfl (by kernel_rfl) (by kernel_rfl) (by kernel_rfl) (fun _ _ _ h => h) (Or.inl ⟨rfl, fun _ _ => by kernel_rfl⟩) hS ?_
        try simp only [Act.put, List.setIfInBounds_toArray, List.set_cons_zero, List.set_cons_succ]
        refine wpAnyH_take (i := 2) (oi := { dst := some 23, op := Op.fieldAddr 75 (Operand.tmp 10) 1, type := 0, pos := "law.go:53", after := #[], guard := none }) (v := Value.pointer (some ⟨nb, 1, none⟩)) rfl (by kernel_rfl) (by kernel_rfl) (by kernel_rfl) (fun _ _ _ h => h) (Or.inl ⟨rfl, fun _ _ => by kernel_rfl⟩) hS ?_
        try simp only [Act.put, List.setIfInBounds_toArray, List.set_cons_zero, List.set_cons_succ]
        refine wpAnyH_take (i := 3) (oi := { dst := some 24, op := Op.load 3 (Operand.tmp 23), type := 3, pos := "law.go:53", after := #[{ on := 2, ground := Ground.data }], guard := none }) (v := Value.int .i64 ce) rfl (by kernel_rfl) (by kernel_rfl) (by kernel_rfl) (fun _ _ _ h => h) (Or.inl ⟨rfl, fun w hSw => by have z := cell_of_blk hSw (i := 1) (v := .int .i64 ce) rfl; go_simp⟩) hS ?_
        try simp only [Act.put, List.setIfInBounds_toArray, List.set_cons_zero, List.set_cons_succ]
        refine wpAnyH_take (i := 4) (oi := { dst := some 25, op := Op.fieldAddr 75 (Operand.tmp 10) 2, type := 0, pos := "law.go:53", after := #[], guard := none }) (v := Value.pointer (some ⟨nb, 2, none⟩)) rfl (by kernel_rfl) (by kernel_rfl) (by kernel_rfl) (fun _ _ _ h => h) (Or.inl ⟨rfl, fun _ _ => by kernel_rfl⟩) hS ?_
        try simp only [Act.put, List.setIfInBounds_toArray, List.set_cons_zero, List.set_cons_succ]
        refine wpAnyH_take (i := 5) (oi := { dst := some 26, op := Op.load 29 (Operand.tmp 25), type := 29, pos := "law.go:53", after := #[{ on := 4, ground := Ground.data }], guard := none }) (v := Value.int .u64 v) rfl (by kernel_rfl) (by kernel_rfl) (by kernel_rfl) (fun _ _ _ h => h) (Or.inl ⟨rfl, fun w hSw => by have z := cell_of_blk hSw (i := 2) (v := .int .u64 v) rfl; go_simp⟩) hS ?_
        try simp only [Act.put, List.setIfInBounds_toArray, List.set_cons_zero, List.set_cons_succ]
        refine wpAnyH_ready (rs := [1]) (by kernel_rfl) (by simp) ?_
        refine AllReadyH.cons (o := { dst := some 22, op := Op.call { callee := Callee.value (Operand.func 22), args := #[Operand.tmp 21], argTypes := #[28] }, type := 54, pos := "law.go:53", after := #[{ on := 0, ground := Ground.data }], guard := none }) rfl (fun K hK => ?_) AllReadyH.nil
        rw [if_pos (by rfl)]
        refine wp_calls 22 #[.pointer (some ⟨m, 0, none⟩)] (by kernel_rfl) (fun v V => v = .pointer (some ⟨p, 0, none⟩) ∧ V = V1.drew) ((bank_any m p r c Y.cs Y.n Y.a V1.drew M1).mono fun e w' hh => ⟨_, hh.1, rfl, hh.2⟩) ?_
        rintro _ _ ⟨rfl, rfl⟩
        try simp only [Act.put, List.setIfInBounds_toArray, List.set_cons_zero, List.set_cons_succ]
        refine hK.out _ _ (N1') (fun hS => ?_)
        clear hK K
        refine wpAnyH_ready (rs := [6]) (by kernel_rfl) (by simp) ?_
        refine AllReadyH.cons (o := { dst := some 27, op := Op.call { callee := Callee.value (Operand.func 38), args := #[Operand.tmp 22, Operand.tmp 24, Operand.const (Value.int IntKind.u64 0), Operand.tmp 26], argTypes := #[54, 3, 29, 29] }, type := 0, pos := "law.go:53", after := #[{ on := 1, ground := Ground.data }, { on := 3, ground := Ground.data }, { on := 5, ground := Ground.data }, { on := 1, ground := Ground.chain }], guard := none }) rfl (fun K hK => ?_) AllReadyH.nil
        rw [if_pos (by rfl)]
        refine wp_calls 38 #[.pointer (some ⟨p, 0, none⟩), .int .i64 ce, .int .u64 0, .int .u64 v] (by kernel_rfl) (fun u V => u = .tuple #[] ∧ Bk V p r (clV Y.cs 2 ce 0 v) (Y.n + 1) (acV Y.cs 2 ce 0 0 v) ∧ Kept [p, r] V1.drew V) ((store_any p r Y.cs Y.n Y.a ce 0 v V1.drew M1.bk y0 y1).mono fun e w' hh => ⟨_, hh.1, rfl, hh.2.1, hh.2.2⟩) ?_
        rintro _ w6 ⟨rfl, B6, K6⟩
        have N6 := N1'.kept K6 (by simp; omega)
        try simp only [Act.put, List.setIfInBounds_toArray, List.set_cons_zero, List.set_cons_succ]
        refine hK.out _ _ (N6) (fun hS => ?_)
        clear hK K
        refine wpAnyH_done (by kernel_rfl) ?_ _
        have nouse := hS
        clear nouse
        have M6 : Mm w6 m p r c (clV Y.cs 2 ce 0 v) (Y.n + 1) (acV Y.cs 2 ce 0 0 v) := Mm.step M1 K6 B6
        have D6 := D1.kept K6 (by simp; omega)
        have C6 := C1.kept K6 (by simp; omega)
        have R6 := R1.kept K6 (by simp; omega)
        have K7 : Kept [p, r] w w6 := KV.trans K6
        have HX6 := hidOf (And.intro M6 (And.intro D6 (And.intro C6 (And.intro R6 (And.intro K7 N6)))))
        have PR := hidOf (pokedRef_any sk ce v c g' Y.cs c' Y.n Y.a w6 R6 hYl y0 y1)
        rw [hY] at PR
        have szb := D6.lt
        have szc := C6.lt
        clear M6 D6 C6 R6 K7 N6 B6 K6 M1 D1 C1 R1 N1 N1' KV hS
        go_wp2_with (first
          | ((with_reducible change wpList _ _ _ (Oper.mk _ (Op.load 35 _) _ _ _ _ :: _) _ _); refine wpList_load_rw 35 isT_rm rfl (.tmp 5) rfl b rfl (rmA c (some ⟨g', 0, none⟩) L c' Y.n Y.a) rfl HX6.out.2.1 ?_)
          | ((with_reducible change wpList _ _ _ (Oper.mk _ (Op.load 75 _) _ _ _ _ :: _) _ _); refine wpList_load_rw 75 isT_pk rfl (.tmp 10) rfl nb rfl (pkA ⟨sk, ce, v⟩) rfl HX6.out.2.2.2.2.2 ?_))
        refine PR.out.mono ?_
        rintro e w8 ⟨g2, c2, rfl, h2, R8, K8⟩
        have D8 := HX6.out.2.1.kept K8 (by simp)
        have HX8 := hidOf (And.intro (HX6.out.1.new K8) (And.intro (HX6.out.2.2.1.kept K8 (by simp)) (And.intro R8 (HX6.out.2.2.2.2.1.then K8 (by simp)))))
        have G2 : Hid (g2 = g ∨ w.heap.size ≤ g2) := by
          rcases h2 with rfl | h2
          · exact hg0.out
          · exact Or.inr (by have := HX6.out.2.2.2.2.1.size; omega)
        have gb : ¬ g2 = b := fun e => by obtain ⟨rest, z1, z2⟩ := R8; rw [e] at z1; rw [D8] at z1; simp at z1
        clear PR HX6 K8 R8 h2
        go_wp2_with (first
          | ((with_reducible change wpList _ _ _ (Oper.mk _ (Op.store 35 _ _) _ _ _ _ :: _) _ _); refine wpList_store_rw 35 isT_rm rfl (.tmp 5) (.tmp 30) rfl b (rmA c (some ⟨g2, 0, none⟩) L c2 (Y.n + 1) (acV Y.cs 2 ce 0 0 v)) rfl rfl rfl (rm_one _ _ _ _ _ _) _ D8 rfl ?_))
        go_roundw
        case rel =>
          obtain ⟨MM, CC, RR, KK⟩ := HX8.out
          have kr : Kept [b] w8 (w8.setRow b (rmA c (some ⟨g2, 0, none⟩) L c2 (Y.n + 1) (acV Y.cs 2 ce 0 0 v))) := (Kept.refl [b] w8).setRow (Or.inl (by simp)) _
          refine ⟨j + 1, g2, c2, by omega, by go_num, ?_, CC.kept kr (by simp), G2, ?_, ?_, KK.then kr (by simp; omega)⟩
          · rw [NX.out]; exact D8.row _
          · rw [NX.out]; exact RR.kept kr (by simp; omega)
          · rw [NX.out]; exact MM.kept kr (by simp; omega) (by simp; omega) (by simp; omega)
        case measure => simp [intOf]; omega
      · have NX' : Hid (pkF k (ps.take (j + 1)) x = Y) := NX.out.trans (if_neg hk)
        have hkb : (sk == k) = false := by simp [hk]
        clear NX
        go_wp2
        go_roundw
        case rel =>
          have kr : Kept [] wr (wr.alloc (.cells (pkA ⟨sk, ce, v⟩) 75)) := (Kept.refl [] wr).alloc _
          obtain ⟨D0, C0, R0, M0, KR⟩ := HF.out
          refine ⟨j + 1, g', c', by omega, by go_num, ?_, C0.kept kr (by simp), hg0, ?_, ?_, KR.then kr (by simp)⟩
          · rw [NX'.out]; exact D0.kept kr (by simp)
          · rw [NX'.out]; exact R0.kept kr (by simp)
          · rw [NX'.out]; exact M0.new kr
        case measure => simp [intOf]; omega
    · have hje : j = n := by omega
      have e2 : ps.take j = ps := List.take_of_length_le (by rw [hje]; exact Nat.le_of_eq HN.out.symm)
      rw [e2] at D0 R0 M0
      have HF := hidOf (And.intro D0 (And.intro C0 (And.intro R0 (And.intro M0 KR))))
      have HMr' := HMr.out
      clear D0 C0 R0 M0 KR e2 HMr
      go_wp2_with (first
        | ((with_reducible change wpList _ _ _ (Oper.mk _ (Op.load 35 _) _ _ _ _ :: _) _ _); refine wpList_load_rw 35 isT_rm rfl (.tmp 5) rfl b rfl (rmA c (some ⟨g', 0, none⟩) L c' (pkF k ps x).n (pkF k ps x).a) rfl HF.out.1 ?_)
        | ((with_reducible change wpList _ _ _ (Oper.mk _ (Op.store 35 _ _) _ _ _ _ :: _) _ _); refine wpList_store_rw 35 isT_rm rfl (.tmp 8) (.tmp 32) rfl (b + 1) (rmA c (some ⟨g', 0, none⟩) L c' (pkF k ps x).n (pkF k ps x).a) rfl rfl rfl (rm_one _ _ _ _ _ _) rmZ HF.out.2.1 rfl ?_))
      obtain ⟨D0, C0, R0, M0, KR⟩ := HF.out
      have kr : Kept [b + 1] wr (wr.setRow (b + 1) (rmA c (some ⟨g', 0, none⟩) L c' (pkF k ps x).n (pkF k ps x).a)) := (Kept.refl [b + 1] wr).setRow (Or.inl (by simp)) _
      have hgb' : ¬ g' = b + 1 := fun e => by obtain ⟨rest, z1, z2⟩ := R0; rw [e, C0] at z1; simp at z1
      refine bodyPost_ret (v := .agg (rmA c (some ⟨g', 0, none⟩) L c' (pkF k ps x).n (pkF k ps x).a)) ?_ rfl ⟨g', c', rfl, hg0.out, R0.kept kr (by simp; omega), M0.kept kr (by simp; omega) (by simp; omega) (by simp; omega), KR.then kr (by simp; omega)⟩
      obtain ⟨fs, hu⟩ := isT_rm.2
      exact results_cell_row Tryd.results12 _ _ (b + 1) 35 _ (0, 0) _ rfl (C0.row _) hu rfl (by rw [isT_rm.1]; rfl)
end K
end Go.Proofs.YtmmpafhfanldbaaDoor
