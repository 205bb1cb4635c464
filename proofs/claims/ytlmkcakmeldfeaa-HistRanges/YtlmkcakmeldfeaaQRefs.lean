/-
  The document's own map: With, Of, Without, get.
  The document's own map: Of, Without, get.
-/
import Derived.Test.YtlmkcakmeldfeaaQKeyed
import Derived.Test.YtlmkcakmeldfeaaQAlike
namespace Go.Proofs.Ytlmkcakmeldfeaa.Q
set_option maxRecDepth 100000
open Go.RowKit
open Go.Deep
/-- What With has made of the first i pairs. -/
def wl (l : List Pr) (p : Pr) : List Pr := blw l p.k ++ (if l.any (fun q => decide (p.k ≤ q.k)) then p :: abv l p.k else [])
def wd (l : List Pr) (p : Pr) : Bool := l.any (fun q => decide (p.k ≤ q.k))
theorem filter_snoc {f : Pr → Bool} (l : List Pr) (x : Pr) : (l ++ [x]).filter f = l.filter f ++ (if f x then [x] else []) := by
  rw [List.filter_append]; congr 1
  by_cases h : f x = true
  · rw [List.filter_cons_of_pos h, if_pos h]; rfl
  · rw [List.filter_cons_of_neg h, if_neg h]; rfl
theorem wd_snoc (l : List Pr) (x p : Pr) : wd (l ++ [x]) p = (wd l p || decide (p.k ≤ x.k)) := by unfold wd; simp
/-- Below, and none was above: at the end of those that are below. -/
theorem wl_below {l : List Pr} {x p : Pr} (h : Str (l ++ [x])) (hx : x.k < p.k) : wd l p = false ∧ wl (l ++ [x]) p = wl l p ++ [x] ∧ wd (l ++ [x]) p = false := by
  have h1 : wd l p = false := by
    unfold wd
    rw [List.any_eq_false]
    intro y hy
    have := (List.pairwise_append.1 h).2.2 y hy x (by simp)
    simp; omega
  have h2 : wd (l ++ [x]) p = false := by rw [wd_snoc, h1, decide_eq_false (by omega)]; rfl
  refine ⟨h1, ?_, h2⟩
  unfold wl
  unfold wd at h1 h2
  rw [h1, h2]
  simp only [Bool.false_eq_true, if_false, List.append_nil]
  unfold blw
  rw [filter_snoc, if_pos (by simpa using hx)]
/-- Not below: the pair comes first, if it has not come. -/
theorem wl_not_below {l : List Pr} {x p : Pr} (hx : p.k ≤ x.k) : wl (l ++ [x]) p = (if wd l p then wl l p else wl l p ++ [p]) ++ (if x.k = p.k then [] else [x]) ∧ wd (l ++ [x]) p = true := by
  have h2 : wd (l ++ [x]) p = true := by rw [wd_snoc, decide_eq_true hx]; simp
  refine ⟨?_, h2⟩
  unfold wl
  have e1 : blw (l ++ [x]) p.k = blw l p.k := by unfold blw; rw [filter_snoc, if_neg (by simp; omega), List.append_nil]
  have e2 : abv (l ++ [x]) p.k = abv l p.k ++ (if x.k = p.k then [] else [x]) := by
    unfold abv; rw [filter_snoc]; congr 1
    by_cases q : x.k = p.k
    · rw [if_pos q, if_neg (by simp; omega)]
    · rw [if_neg q, if_pos (by simp; omega)]
  have h3 : (l ++ [x]).any (fun q => decide (p.k ≤ q.k)) = true := h2
  rw [h3, e1, e2]
  simp only [if_true]
  cases h1 : wd l p with
  | true =>
    have h4 : l.any (fun q => decide (p.k ≤ q.k)) = true := h1
    rw [h4]; simp
  | false =>
    have h4 : l.any (fun q => decide (p.k ≤ q.k)) = false := h1
    rw [h4]
    have e3 : abv l p.k = [] := by
      unfold abv; rw [List.filter_eq_nil_iff]; intro y hy
      have := (List.any_eq_false.1 h4) y hy
      simp at this ⊢; omega
    rw [e3]; simp
theorem wl_end (l : List Pr) (p : Pr) : (if wd l p then wl l p else wl l p ++ [p]) = wi l p := by
  unfold wi wl
  cases h1 : wd l p with
  | true => have h4 : l.any (fun q => decide (p.k ≤ q.k)) = true := h1
            rw [h4]; simp
  | false =>
    have h4 : l.any (fun q => decide (p.k ≤ q.k)) = false := h1
    rw [h4]
    have e3 : abv l p.k = [] := by
      unfold abv; rw [List.filter_eq_nil_iff]; intro y hy
      have := (List.any_eq_false.1 h4) y hy
      simp at this ⊢; omega
    rw [e3]; simp
theorem wl_len (l : List Pr) (p : Pr) : (wl l p).length ≤ l.length + l.length + 1 := by
  unfold wl; have := parts_len l p.k; rw [List.length_append]; split <;> simp <;> omega
theorem Str.take {l : List Pr} (h : Str l) (n : Nat) : Str (l.take n) := List.Pairwise.sublist (List.take_sublist n l) h
set_option maxHeartbeats 4000000 in
theorem rwith_any (ao : Option Addr) (ps : List Pr) (n cap : Nat) (p : Pr) (w : World) (h : MpV w ao n cap ps) (hst : Str ps) (hl : n ≤ 1000) :
    Calls Try.prog 50 #[.slice ao n cap, .agg #[.int .u64 p.k, .int .u64 p.v]] w fun o w' => ∃ bo m cb, o = .returned (.slice bo m cb) ∧ MpV w' bo m cb (wi ps p) ∧ Kept [] w w' := by
  have K0 : Kept [] w (w.alloc (.cells #[.int .u64 p.k, .int .u64 p.v] 61)) := (Kept.refl _ _).alloc _
  have Z0 := blk_alloc_new w (.cells #[.int .u64 p.k, .int .u64 p.v] 61)
  have HN : Hid _ := h.1
  have hs := h.2.1
  clear h
  go_enter Try.func50, Try.ntmps50
  go_wp2
  obtain ⟨H, hH⟩ : ∃ H, H = w.heap.size := ⟨_, rfl⟩
  rw [← hH] at Z0 ⊢
  refine gen_world (fun W => W.heap[H]? = some (.cells #[.int .u64 p.k, .int .u64 p.v] 61 (0, 0)) ∧ Kept [] w W) ⟨Z0, K0⟩ ?_
  clear Z0 K0 hH
  rintro W0 ⟨Z0, K0⟩
  go_loopw [5, 6, 7] (fun o d i wr => ∃ k : Nat, k ≤ n ∧ i = .int .i64 k ∧ d = .bool (wd (ps.take k) p) ∧ OwnP wr W0.heap.size 61 o (wl (ps.take k) p) ∧ Kept [] W0 wr) (fun _ _ i _ => n - (intOf i).toNat)
  case atStart => exact ⟨0, Nat.zero_le _, rfl, rfl, OwnP.nil _ _ _, Kept.refl _ _⟩
  case round =>
    obtain ⟨k, hk, rfl, rfl, O, K⟩ := hrel
    by_cases hlt : k < n
    · have hkx : k < ps.length := by have := HN.out; omega
      obtain ⟨b1, o1, rfl, -, -⟩ := SlP.row (hs.new (K0.trans K)) hkx
      have ht := take_next hkx default
      obtain ⟨x, hx0⟩ : ∃ x, ps.getD k default = x := ⟨_, rfl⟩
      rw [hx0] at ht
      have FX : Hid (∀ W', Kept [] W0 W' → W'.cell? ⟨b1, o1 + k * 2, none⟩ = some (.int .u64 x.k) ∧ W'.cell? ⟨b1, o1 + k * 2 + 1, none⟩ = some (.int .u64 x.v) ∧ W'.cell? ⟨H, 0, none⟩ = some (.int .u64 p.k) ∧ W'.cell? ⟨H, 1, none⟩ = some (.int .u64 p.v)) := fun W' K' => by
        obtain ⟨b2, o2, e2, _, d0, d1⟩ := SlP.row (hs.new (K0.trans K')) hkx
        cases e2
        rw [hx0] at d0 d1
        exact ⟨d0, d1, cell_of_blk (K'.blk Z0 (by simp)) (i := 0) rfl, cell_of_blk (K'.blk Z0 (by simp)) (i := 1) rfl⟩
      clear hx0
      have hstk : Hid (Str (ps.take k ++ [x])) := by rw [← ht]; exact hst.take _
      have HT : Hid (ps.take (k + 1) = ps.take k ++ [x]) := ht
      clear ht
      have hlen := wl_len (ps.take k) p
      rw [List.length_take] at hlen
      have hlen : (wl (ps.take k) p).length ≤ 2001 := by omega
      have c0 := (FX.out wr K).1
      have c1 := (FX.out wr K).2.1
      have z0 := (FX.out wr K).2.2.1
      have z1 := (FX.out wr K).2.2.2
      by_cases hx : x.k < p.k
      · have WB : Hid _ := wl_below hstk.out hx
        have hxz : ¬ p.k ≤ x.k := by omega
        have hxd : decide (p.k ≤ x.k) = false := decide_eq_false hxz
        have hne : (x.k == p.k) = false := by simp; omega
        have hnn : ¬ x.k = p.k := by omega
        go_wp2_with fail
        go_quiet (fail)
        have K1 := K.drewN nq
        have O1 := OwnP.new O ((Kept.refl [] wr).drewN nq)
        generalize wr.drewN nq = W1 at K1 O1 ⊢
        clear c0 c1 z0 z1 nq K O
        have c0 := (FX.out W1 K1).1
        have c1 := (FX.out W1 K1).2.1
        have z0 := (FX.out W1 K1).2.2.1
        have z1 := (FX.out W1 K1).2.2.2
        go_wp2_with fail
        go_quiet (fail)
        have K2 := K1.drewN nq
        have O2 := OwnP.new O1 ((Kept.refl [] W1).drewN nq)
        generalize W1.drewN nq = W2 at K2 O2 ⊢
        clear c0 c1 z0 z1 nq K1 O1
        have c0 := (FX.out W2 K2).1
        have c1 := (FX.out W2 K2).2.1
        have z0 := (FX.out W2 K2).2.2.1
        have z1 := (FX.out W2 K2).2.2.2
        obtain ⟨g3, cp3, W3, hap, O3, _, KA⟩ := append_pair 31 Try.underlying31 info_ref W2 W0.heap.size W2.heap.size _ _ x rfl O2 K2.size (by omega)
        have K3 := Kept.ofOwn K2 O2 (Nat.le_refl _) KA
        clear KA
        go_wp2_with (at_builtin; refine wpList_append_run rfl (.tmp 38) (.tmp 43) 31 rfl rfl rfl hap ?_)
        clear hap
        refine ⟨⟨k + 1, by omega, by go_num, ?_, ?_, K3⟩, by simp [intOf]; omega⟩
        · rw [HT.out, WB.out.1, WB.out.2.2]
        · rw [HT.out, WB.out.2.1]; exact O3
      · have hxz : p.k ≤ x.k := by omega
        have hxd : decide (p.k ≤ x.k) = true := decide_eq_true hxz
        have WB : Hid _ := wl_not_below (l := ps.take k) hxz
        cases hd : wd (ps.take k) p with
        | true =>
          go_wp2_with fail
          go_quiet (fail)
          have K1 := K.drewN nq
          have O1 := OwnP.new O ((Kept.refl [] wr).drewN nq)
          generalize wr.drewN nq = W1 at K1 O1 ⊢
          clear c0 c1 z0 z1 nq K O
          have c0 := (FX.out W1 K1).1
          have c1 := (FX.out W1 K1).2.1
          have z0 := (FX.out W1 K1).2.2.1
          have z1 := (FX.out W1 K1).2.2.2
          by_cases hq : x.k = p.k
          · have hne : (x.k == p.k) = true := by simpa using hq
            have HQ : Hid _ := hq
            clear hq
            go_wp2_with fail
            go_quiet (fail)
            have K2 := K1.drewN nq
            have O2 := OwnP.new O1 ((Kept.refl [] W1).drewN nq)
            generalize W1.drewN nq = W2 at K2 O2 ⊢
            clear c0 c1 z0 z1 nq K1 O1
            have c0 := (FX.out W2 K2).1
            have c1 := (FX.out W2 K2).2.1
            have z0 := (FX.out W2 K2).2.2.1
            have z1 := (FX.out W2 K2).2.2.2
            go_wp2
            refine ⟨⟨k + 1, by omega, by go_num, ?_, ?_, K2⟩, by simp [intOf]; omega⟩
            · rw [HT.out, WB.out.2]
            · rw [HT.out, WB.out.1, hd, if_pos HQ.out, List.append_nil]; exact O2
          · have hne : (x.k == p.k) = false := by simpa using hq
            go_wp2_with fail
            go_quiet (fail)
            have K2 := K1.drewN nq
            have O2 := OwnP.new O1 ((Kept.refl [] W1).drewN nq)
            generalize W1.drewN nq = W2 at K2 O2 ⊢
            clear c0 c1 z0 z1 nq K1 O1
            have c0 := (FX.out W2 K2).1
            have c1 := (FX.out W2 K2).2.1
            have z0 := (FX.out W2 K2).2.2.1
            have z1 := (FX.out W2 K2).2.2.2
            obtain ⟨g3, cp3, W3, hap, O3, _, KA⟩ := append_pair 31 Try.underlying31 info_ref W2 W0.heap.size W2.heap.size _ _ x rfl O2 K2.size (by omega)
            have K3 := Kept.ofOwn K2 O2 (Nat.le_refl _) KA
            clear KA
            go_wp2_with (at_builtin; refine wpList_append_run rfl (.tmp 38) (.tmp 43) 31 rfl rfl rfl hap ?_)
            clear hap
            refine ⟨⟨k + 1, by omega, by go_num, ?_, ?_, K3⟩, by simp [intOf]; omega⟩
            · rw [HT.out, WB.out.2]
            · rw [HT.out, WB.out.1, hd, if_neg hq]; exact O3
        | false =>
          go_wp2_with fail
          go_quiet (fail)
          have K1 := K.drewN nq
          have O1 := OwnP.new O ((Kept.refl [] wr).drewN nq)
          generalize wr.drewN nq = W1 at K1 O1 ⊢
          clear c0 c1 z0 z1 nq K O
          have c0 := (FX.out W1 K1).1
          have c1 := (FX.out W1 K1).2.1
          have z0 := (FX.out W1 K1).2.2.1
          have z1 := (FX.out W1 K1).2.2.2
          obtain ⟨g2, cp2, W2, hap, O2, _, KA⟩ := append_pair 31 Try.underlying31 info_ref W1 W0.heap.size W1.heap.size _ _ p rfl O1 K1.size (by omega)
          have K2 := Kept.ofOwn K1 O1 (Nat.le_refl _) KA
          clear KA
          clear c0 c1
          have c0 := (FX.out W2 K2).1
          have c1 := (FX.out W2 K2).2.1
          have y0 := (FX.out W2 K2).2.2.1
          have y1 := (FX.out W2 K2).2.2.2
          have hl2 : (wl (ps.take k) p ++ [p]).length ≤ 2002 := by rw [List.length_append]; simp; omega
          by_cases hq : x.k = p.k
          · have hne : (x.k == p.k) = true := by simpa using hq
            have HQ : Hid _ := hq
            clear hq
            go_wp2_with (at_builtin; refine wpList_append_run rfl (.tmp 26) (.tmp 28) 31 rfl rfl rfl hap ?_)
            go_quiet (fail)
            go_wp2
            refine ⟨⟨k + 1, by omega, by go_num, ?_, ?_, K2.drewN _⟩, by simp [intOf]; omega⟩
            · rw [HT.out, WB.out.2]
            · rw [HT.out, WB.out.1, hd, if_pos HQ.out, List.append_nil]; exact OwnP.new O2 ((Kept.refl [] W2).drewN _)
          · have hne : (x.k == p.k) = false := by simpa using hq
            go_wp2_with (at_builtin; refine wpList_append_run rfl (.tmp 26) (.tmp 28) 31 rfl rfl rfl hap ?_)
            clear hap
            go_quiet (fail)
            have K3 := K2.drewN nq
            have O3 := OwnP.new O2 ((Kept.refl [] W2).drewN nq)
            generalize W2.drewN nq = W3 at K3 O3 ⊢
            clear c0 c1 y0 y1 z0 z1 nq K2 O2
            have c0 := (FX.out W3 K3).1
            have c1 := (FX.out W3 K3).2.1
            have z0 := (FX.out W3 K3).2.2.1
            have z1 := (FX.out W3 K3).2.2.2
            obtain ⟨g4, cp4, W4, hap, O4, _, KA⟩ := append_pair 31 Try.underlying31 info_ref W3 W0.heap.size W3.heap.size _ _ x rfl O3 K3.size (by omega)
            have K4 := Kept.ofOwn K3 O3 (Nat.le_refl _) KA
            clear KA
            go_wp2_with (at_builtin; refine wpList_append_run rfl (.tmp 38) (.tmp 43) 31 rfl rfl rfl hap ?_)
            clear hap
            refine ⟨⟨k + 1, by omega, by go_num, ?_, ?_, K4⟩, by simp [intOf]; omega⟩
            · rw [HT.out, WB.out.2]
            · have e7 : (wl (ps.take k) p ++ [p]).length = (wl (ps.take k) p).length + 1 := by rw [List.length_append]; rfl
              rw [e7] at O4
              rw [HT.out, WB.out.1, hd, if_neg hq]; exact O4
    · have e2 : ps.take k = ps := List.take_of_length_le (by have := HN.out; omega)
      rw [e2] at O ⊢
      have hlen := wl_len ps p
      have hlen : (wl ps p).length ≤ 2001 := by have := HN.out; omega
      have z0 := cell_of_blk (K.blk Z0 (by simp)) (i := 0) rfl
      have z1 := cell_of_blk (K.blk Z0 (by simp)) (i := 1) rfl
      have WE : Hid _ := wl_end ps p
      cases hd : wd ps p with
      | true =>
        rw [hd] at WE
        have e9 : wl ps p = wi ps p := WE.out
        rw [e9] at O
        obtain ⟨bo, c', rfl, S, hle, hc⟩ := O.shape
        go_wp2
        go_ret
        exact ⟨bo, _, c', rfl, ⟨rfl, S, hle, hc⟩, K0.trans K⟩
      | false =>
        rw [hd] at WE
        have e9 : wl ps p ++ [p] = wi ps p := WE.out
        obtain ⟨g2, cp2, W2, hap, O2, _, KA⟩ := append_pair 31 Try.underlying31 info_ref wr W0.heap.size wr.heap.size _ _ p rfl O K.size (by omega)
        have K2 := Kept.ofOwn K O (Nat.le_refl _) KA
        rw [e9] at O2
        obtain ⟨bo, c', eO, S, hle, hc⟩ := O2.shape
        have HO : Hid _ := And.intro eO (And.intro S (And.intro hle hc))
        clear KA O2 O eO S hle hc e9
        go_wp2_with (at_builtin; refine wpList_append_run rfl (.tmp 47) (.tmp 49) 31 rfl rfl rfl hap ?_)
        go_ret
        exact ⟨bo, _, c', congrArg _ HO.out.1, ⟨rfl, HO.out.2⟩, K0.trans K2⟩
end Go.Proofs.Ytlmkcakmeldfeaa.Q
namespace Go.Proofs.Ytlmkcakmeldfeaa.Q
set_option maxRecDepth 100000
open Go.RowKit
open Go.Deep
theorem foldl_take (l : List Pr) {k : Nat} (h : k < l.length) : mapOf (l.take (k + 1)) = wi (mapOf (l.take k)) (l.getD k default) := by
  rw [take_next h default, mapOf_snoc]
theorem wo_ne {ps : List Pr} (h : Str ps) (k : Int) : ps.filter (fun q => !(q.k == k)) = wo ps k := by
  refine (h.filter _).ext_mem (h.wo k) (fun x => ?_)
  unfold wo
  rw [List.mem_filter, List.mem_append, mem_blw, mem_abv]
  constructor
  · rintro ⟨h1, h2⟩
    simp at h2
    by_cases q : x.k < k
    · exact Or.inl ⟨h1, q⟩
    · exact Or.inr ⟨h1, by omega⟩
  · rintro (⟨h1, h2⟩ | ⟨h1, h2⟩) <;> exact ⟨h1, by simp; omega⟩
set_option maxHeartbeats 1000000 in
theorem rwithout_any (ao : Option Addr) (ps : List Pr) (n cap : Nat) (j : Int) (w : World) (h : MpV w ao n cap ps) (hst : Str ps) (hl : n ≤ 1000) :
    Calls Try.prog 51 #[.slice ao n cap, .int .u64 j] w fun o w' => ∃ bo m cb, o = .returned (.slice bo m cb) ∧ MpV w' bo m cb (wo ps j) ∧ Kept [] w w' := by
  have HN : Hid _ := h.1
  have hs := h.2.1
  clear h
  go_enter Try.func51, Try.ntmps51
  go_wp2
  go_loopw [5, 6] (fun o i wr => ∃ k : Nat, k ≤ n ∧ i = .int .i64 k ∧ OwnP wr w.heap.size 61 o ((ps.take k).filter (fun q => !(q.k == j))) ∧ Kept [] w wr) (fun _ i _ => n - (intOf i).toNat)
  case atStart => exact ⟨0, Nat.zero_le _, rfl, OwnP.nil _ _ _, Kept.refl _ _⟩
  case round =>
    obtain ⟨k, hk, rfl, O, K⟩ := hrel
    by_cases hlt : k < n
    · have hkx : k < ps.length := by have := HN.out; omega
      obtain ⟨b1, o1, rfl, -, c0, c1⟩ := SlP.row (hs.new K) hkx
      have ht := take_next hkx default
      obtain ⟨x, hx0⟩ : ∃ x, ps.getD k default = x := ⟨_, rfl⟩
      rw [hx0] at ht c0 c1
      clear hx0
      have hf : Hid ((ps.take (k + 1)).filter (fun q => !(q.k == j)) = (ps.take k).filter (fun q => !(q.k == j)) ++ (if !(x.k == j) then [x] else [])) := by rw [ht]; exact filter_snoc _ _
      clear ht
      have hle : ((ps.take k).filter (fun q => !(q.k == j))).length ≤ 1000 := by have := List.length_filter_le (fun q : Pr => !(q.k == j)) (ps.take k); rw [List.length_take] at this; omega
      by_cases hq : x.k = j
      · have hne : (x.k == j) = true := by simpa using hq
        rw [hne] at hf
        have HQ : Hid _ := hq
        clear hq
        go_wp2
        refine ⟨⟨k + 1, by omega, by go_num, ?_, K⟩, by simp [intOf]; omega⟩
        rw [hf.out]; simpa using O
      · have hne : (x.k == j) = false := by simpa using hq
        rw [hne] at hf
        obtain ⟨g2, cp2, W2, hap, O2, _, KA⟩ := append_pair 31 Try.underlying31 info_ref wr w.heap.size wr.heap.size _ _ x rfl O K.size (by omega)
        have K2 := Kept.ofOwn K O (Nat.le_refl _) KA
        have HO : Hid _ := And.intro O2 K2
        clear O2 K2 KA O
        go_wp2_with (at_builtin; refine wpList_append_run rfl (.tmp 20) (.tmp 25) 31 rfl rfl rfl hap ?_)
        clear hap
        refine ⟨⟨k + 1, by omega, by go_num, ?_, HO.out.2⟩, by simp [intOf]; omega⟩
        rw [hf.out]; exact HO.out.1
    · have e2 : ps.take k = ps := List.take_of_length_le (by have := HN.out; omega)
      rw [e2, wo_ne hst] at O
      obtain ⟨bo, c', rfl, S, hle, hc⟩ := O.shape
      go_wp2
      go_ret
      exact ⟨bo, _, c', rfl, ⟨rfl, S, hle, hc⟩, K⟩
theorem fd_take_none {ps : List Pr} {k : Nat} {j : Int} (h : k < ps.length) (h1 : fd (ps.take k) j = none) : ((ps.getD k default).k = j → fd ps j = some (ps.getD k default)) ∧ (¬ (ps.getD k default).k = j → fd (ps.take (k + 1)) j = none) := by
  have e : ps = ps.take k ++ (ps.getD k default :: ps.drop (k + 1)) := by
    conv => lhs; rw [← List.take_append_drop k ps]
    congr 1
    rw [List.drop_eq_getElem_cons h]
    simp [h]
  unfold fd at h1 ⊢
  constructor
  · intro q
    conv => lhs; rw [e]
    rw [List.find?_append, h1]
    simp only [Option.none_or]
    rw [List.find?_cons_of_pos (by simpa using q)]
  · intro q
    rw [take_next h default, List.find?_append, h1]
    simp only [Option.none_or]
    rw [List.find?_cons_of_neg (by simpa using q)]; rfl
set_option maxHeartbeats 1000000 in
theorem rget_any (ao : Option Addr) (ps : List Pr) (n cap : Nat) (j : Int) (w : World) (h : MpV w ao n cap ps) (hl : n ≤ 1000) :
    Calls Try.prog 49 #[.slice ao n cap, .int .u64 j] w fun o w' => o = .returned (.agg #[.bool false, .bool (gtH ps j), .int .u64 (gtV ps j), .slice none 0 0]) ∧ Kept [] w w' := by
  have HN : Hid _ := h.1
  have hs := h.2.1
  clear h
  have K0 : Kept [] w (w.alloc (.cells #[.bool false, .bool false, .int .u64 0, .slice none 0 0] 46)) := (Kept.refl _ _).alloc _
  have Z0 := blk_alloc_new w (.cells #[.bool false, .bool false, .int .u64 0, .slice none 0 0] 46)
  go_enter Try.func49, Try.ntmps49
  go_wp2
  go_loopw [5] (fun i wr => ∃ k : Nat, k ≤ n ∧ i = .int .i64 k ∧ Hid (fd (ps.take k) j = none) ∧ wr = w.alloc (.cells #[.bool false, .bool false, .int .u64 0, .slice none 0 0] 46)) (fun i _ => n - (intOf i).toNat)
  case atStart => exact ⟨0, Nat.zero_le _, rfl, rfl, rfl⟩
  case round =>
    obtain ⟨k, hk, rfl, N, rfl⟩ := hrel
    have q0 := cell_of_blk Z0 (i := 0) rfl
    have q1 := cell_of_blk Z0 (i := 1) rfl
    have q2 := cell_of_blk Z0 (i := 2) rfl
    have q3 := cell_of_blk Z0 (i := 3) rfl
    have fr := free_of_blk Z0
    by_cases hlt : k < n
    · have hkx : k < ps.length := by have := HN.out; omega
      obtain ⟨b1, o1, rfl, -, c0, c1⟩ := SlP.row (hs.new K0) hkx
      have ht : Hid _ := fd_take_none hkx N.out
      generalize ps.getD k default = x at c0 c1 ht
      by_cases hq : x.k = j
      · have hne : (x.k == j) = true := by simpa using hq
        have HQ : Hid _ := hq
        have hf : fd ps j = some x := ht.out.1 hq
        clear hq
        go_wp2
        exact bodyPost_ret (v := .agg #[.bool false, .bool true, .int .u64 x.v, .slice none 0 0]) (by simp [results, Try.results49, go_sem]) rfl ⟨by unfold gtH gtV; rw [hf]; rfl, (Kept.refl _ _).alloc _⟩
      · have hne : (x.k == j) = false := by simpa using hq
        go_wp2
        refine ⟨⟨k + 1, by omega, by go_num, ht.out.2 hq, trivial⟩, by simp [intOf]; omega⟩
    · have e2 : ps.take k = ps := List.take_of_length_le (by have := HN.out; omega)
      rw [e2] at N
      have hf : fd ps j = none := N.out
      go_wp2
      exact bodyPost_ret (v := .agg #[.bool false, .bool false, .int .u64 0, .slice none 0 0]) (by simp [results, Try.results49, go_sem]) rfl ⟨by unfold gtH gtV; rw [hf]; rfl, K0⟩
end Go.Proofs.Ytlmkcakmeldfeaa.Q
