/-
  The document's own map: Of, Without, get.
-/
import Derived.Test.YtapbkonfjieadaaQRef
namespace Go.Proofs.Ytapbkonfjieadaa.Q
set_option maxRecDepth 100000
open Go.RowKit
open Go.Deep
theorem foldl_take (l : List Pr) {k : Nat} (h : k < l.length) : mapOf (l.take (k + 1)) = wi (mapOf (l.take k)) (l.getD k default) := by
  rw [take_next h default, mapOf_snoc]
set_option maxHeartbeats 1000000 in
theorem rof_any (ao : Option Addr) (es : List Pr) (n cap : Nat) (w : World) (hn : n = es.length) (hs : SlP w ao es) (hl : n ≤ 1000) :
    Calls Try.prog 15 #[.slice ao n cap] w fun o w' => ∃ bo m cb, o = .returned (.slice bo m cb) ∧ MpV w' bo m cb (mapOf es) ∧ Kept [] w w' := by
  have HN : Hid _ := hn
  clear hn
  go_enter Try.func15, Try.ntmps15
  go_wp2
  go_loopw [3, 4] (fun o i wr => ∃ (k : Nat) (bo : Option Addr) (m cb : Nat), k ≤ n ∧ i = .int .i64 k ∧ o = .slice bo m cb ∧ Hid (MpV wr bo m cb (mapOf (es.take k))) ∧ Kept [] w wr) (fun _ i _ => n - (intOf i).toNat)
  case atStart => exact ⟨0, none, 0, 0, Nat.zero_le _, rfl, rfl, MpV.nil _, Kept.refl _ _⟩
  case round =>
    obtain ⟨k, bo, m, cb, hk, rfl, rfl, M, K⟩ := hrel
    by_cases hlt : k < n
    · have hkx : k < es.length := by have := HN.out; omega
      obtain ⟨b1, o1, rfl, -, c0, c1⟩ := SlP.row (hs.new K) hkx
      have ht : Hid _ := foldl_take es hkx
      generalize es.getD k default = x at c0 c1 ht
      have hml : m ≤ 1000 := by have := M.out.1; have := mapOf_len (es.take k); rw [List.length_take] at this; omega
      have hc := rwith_any bo (mapOf (es.take k)) m cb x wr M.out (mapOf_str _) hml
      go_wp2_with (go_at_call 28; refine hc.mono ?_; rintro o w1 ⟨b2, m2, c2, rfl, M2, K2⟩)
      refine ⟨⟨k + 1, b2, m2, c2, by omega, by go_num, rfl, ?_, K.trans K2⟩, by simp [intOf]; omega⟩
      rw [ht.out]; exact M2
    · have e2 : es.take k = es := List.take_of_length_le (by have := HN.out; omega)
      rw [e2] at M
      go_wp2
      go_ret
      exact ⟨bo, m, cb, rfl, M.out, K⟩
theorem wo_ne {ps : List Pr} (h : Str ps) (k : Int) : ps.filter (fun q => !(q.k == k)) = wo ps k := by
  refine (h.filter _).ext_mem (h.wo k) (fun x => ?_)
  unfold wo
  rw [List.mem_filter, List.mem_append, mem_blw, mem_abv]
  constructor
  · rintro ⟨h1, h2⟩
    simp at h2
    by_cases q : x.k < k
    · exact Or.inl ⟨h1, q⟩
    · exact Or.inr ⟨h1, by omega⟩
  · rintro (⟨h1, h2⟩ | ⟨h1, h2⟩) <;> exact ⟨h1, by simp; omega⟩
set_option maxHeartbeats 1000000 in
theorem rwithout_any (ao : Option Addr) (ps : List Pr) (n cap : Nat) (j : Int) (w : World) (h : MpV w ao n cap ps) (hst : Str ps) (hl : n ≤ 1000) :
    Calls Try.prog 35 #[.slice ao n cap, .int .u64 j] w fun o w' => ∃ bo m cb, o = .returned (.slice bo m cb) ∧ MpV w' bo m cb (wo ps j) ∧ Kept [] w w' := by
  have HN : Hid _ := h.1
  have hs := h.2.1
  clear h
  go_enter Try.func35, Try.ntmps35
  go_wp2
  go_loopw [5, 6] (fun o i wr => ∃ k : Nat, k ≤ n ∧ i = .int .i64 k ∧ OwnP wr w.heap.size 62 o ((ps.take k).filter (fun q => !(q.k == j))) ∧ Kept [] w wr) (fun _ i _ => n - (intOf i).toNat)
  case atStart => exact ⟨0, Nat.zero_le _, rfl, OwnP.nil _ _ _, Kept.refl _ _⟩
  case round =>
    obtain ⟨k, hk, rfl, O, K⟩ := hrel
    by_cases hlt : k < n
    · have hkx : k < ps.length := by have := HN.out; omega
      obtain ⟨b1, o1, rfl, -, c0, c1⟩ := SlP.row (hs.new K) hkx
      have ht := take_next hkx default
      obtain ⟨x, hx0⟩ : ∃ x, ps.getD k default = x := ⟨_, rfl⟩
      rw [hx0] at ht c0 c1
      clear hx0
      have hf : Hid ((ps.take (k + 1)).filter (fun q => !(q.k == j)) = (ps.take k).filter (fun q => !(q.k == j)) ++ (if !(x.k == j) then [x] else [])) := by rw [ht]; exact filter_snoc _ _
      clear ht
      have hle : ((ps.take k).filter (fun q => !(q.k == j))).length ≤ 1000 := by have := List.length_filter_le (fun q : Pr => !(q.k == j)) (ps.take k); rw [List.length_take] at this; omega
      by_cases hq : x.k = j
      · have hne : (x.k == j) = true := by simpa using hq
        rw [hne] at hf
        have HQ : Hid _ := hq
        clear hq
        go_wp2
        refine ⟨⟨k + 1, by omega, by go_num, ?_, K⟩, by simp [intOf]; omega⟩
        rw [hf.out]; simpa using O
      · have hne : (x.k == j) = false := by simpa using hq
        rw [hne] at hf
        obtain ⟨g2, cp2, W2, hap, O2, _, KA⟩ := append_pair 22 Try.underlying22 info_ref wr w.heap.size wr.heap.size _ _ x rfl O K.size (by omega)
        have K2 := Kept.ofOwn K O (Nat.le_refl _) KA
        have HO : Hid _ := And.intro O2 K2
        clear O2 K2 KA O
        go_wp2_with (at_builtin; refine wpList_append_run rfl (.tmp 20) (.tmp 25) 22 rfl rfl rfl hap ?_)
        clear hap
        refine ⟨⟨k + 1, by omega, by go_num, ?_, HO.out.2⟩, by simp [intOf]; omega⟩
        rw [hf.out]; exact HO.out.1
    · have e2 : ps.take k = ps := List.take_of_length_le (by have := HN.out; omega)
      rw [e2, wo_ne hst] at O
      obtain ⟨bo, c', rfl, S, hle, hc⟩ := O.shape
      go_wp2
      go_ret
      exact ⟨bo, _, c', rfl, ⟨rfl, S, hle, hc⟩, K⟩
theorem fd_take_none {ps : List Pr} {k : Nat} {j : Int} (h : k < ps.length) (h1 : fd (ps.take k) j = none) : ((ps.getD k default).k = j → fd ps j = some (ps.getD k default)) ∧ (¬ (ps.getD k default).k = j → fd (ps.take (k + 1)) j = none) := by
  have e : ps = ps.take k ++ (ps.getD k default :: ps.drop (k + 1)) := by
    conv => lhs; rw [← List.take_append_drop k ps]
    congr 1
    rw [List.drop_eq_getElem_cons h]
    simp [h]
  unfold fd at h1 ⊢
  constructor
  · intro q
    conv => lhs; rw [e]
    rw [List.find?_append, h1]
    simp only [Option.none_or]
    rw [List.find?_cons_of_pos (by simpa using q)]
  · intro q
    rw [take_next h default, List.find?_append, h1]
    simp only [Option.none_or]
    rw [List.find?_cons_of_neg (by simpa using q)]; rfl
set_option maxHeartbeats 1000000 in
theorem rget_any (ao : Option Addr) (ps : List Pr) (n cap : Nat) (j : Int) (w : World) (h : MpV w ao n cap ps) (hl : n ≤ 1000) :
    Calls Try.prog 34 #[.slice ao n cap, .int .u64 j] w fun o w' => o = .returned (.agg #[.bool false, .bool (gtH ps j), .int .u64 (gtV ps j), .slice none 0 0]) ∧ Kept [] w w' := by
  have HN : Hid _ := h.1
  have hs := h.2.1
  clear h
  have K0 : Kept [] w (w.alloc (.cells #[.bool false, .bool false, .int .u64 0, .slice none 0 0] 41)) := (Kept.refl _ _).alloc _
  have Z0 := blk_alloc_new w (.cells #[.bool false, .bool false, .int .u64 0, .slice none 0 0] 41)
  go_enter Try.func34, Try.ntmps34
  go_wp2
  go_loopw [5] (fun i wr => ∃ k : Nat, k ≤ n ∧ i = .int .i64 k ∧ Hid (fd (ps.take k) j = none) ∧ wr = w.alloc (.cells #[.bool false, .bool false, .int .u64 0, .slice none 0 0] 41)) (fun i _ => n - (intOf i).toNat)
  case atStart => exact ⟨0, Nat.zero_le _, rfl, rfl, rfl⟩
  case round =>
    obtain ⟨k, hk, rfl, N, rfl⟩ := hrel
    have q0 := cell_of_blk Z0 (i := 0) rfl
    have q1 := cell_of_blk Z0 (i := 1) rfl
    have q2 := cell_of_blk Z0 (i := 2) rfl
    have q3 := cell_of_blk Z0 (i := 3) rfl
    have fr := free_of_blk Z0
    by_cases hlt : k < n
    · have hkx : k < ps.length := by have := HN.out; omega
      obtain ⟨b1, o1, rfl, -, c0, c1⟩ := SlP.row (hs.new K0) hkx
      have ht : Hid _ := fd_take_none hkx N.out
      generalize ps.getD k default = x at c0 c1 ht
      by_cases hq : x.k = j
      · have hne : (x.k == j) = true := by simpa using hq
        have HQ : Hid _ := hq
        have hf : fd ps j = some x := ht.out.1 hq
        clear hq
        go_wp2
        exact bodyPost_ret (v := .agg #[.bool false, .bool true, .int .u64 x.v, .slice none 0 0]) (by simp [results, Try.results34, go_sem]) rfl ⟨by unfold gtH gtV; rw [hf]; rfl, (Kept.refl _ _).alloc _⟩
      · have hne : (x.k == j) = false := by simpa using hq
        go_wp2
        refine ⟨⟨k + 1, by omega, by go_num, ht.out.2 hq, trivial⟩, by simp [intOf]; omega⟩
    · have e2 : ps.take k = ps := List.take_of_length_le (by have := HN.out; omega)
      rw [e2] at N
      have hf : fd ps j = none := N.out
      go_wp2
      exact bodyPost_ret (v := .agg #[.bool false, .bool false, .int .u64 0, .slice none 0 0]) (by simp [results, Try.results34, go_sem]) rfl ⟨by unfold gtH gtV; rw [hf]; rfl, K0⟩
end Go.Proofs.Ytapbkonfjieadaa.Q
