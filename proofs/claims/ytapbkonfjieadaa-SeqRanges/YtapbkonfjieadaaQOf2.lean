/-
  The map with any pairs (Of); the pairs of a map (Pairs).
-/
import Derived.Test.YtapbkonfjieadaaQComp
namespace Go.Proofs.Ytapbkonfjieadaa.Q
set_option maxRecDepth 100000
open Go.RowKit
open Go.Deep
/-- What a map is: a slice of its pairs. -/
def MpV (w : World) (ao : Option Addr) (n cap : Nat) (ps : List Pr) : Prop := n = ps.length ∧ SlP w ao ps ∧ n ≤ cap ∧ (ao = none → cap = 0)
theorem MpV.new {w w' : World} {ao : Option Addr} {n cap : Nat} {ps : List Pr} (h : MpV w ao n cap ps) (k : Kept [] w w') : MpV w' ao n cap ps := ⟨h.1, h.2.1.new k, h.2.2⟩
theorem MpV.nil (w : World) : MpV w none 0 0 [] := ⟨rfl, SlP.nil _ _, Nat.le_refl _, fun _ => rfl⟩
theorem mapOf_len (l : List Pr) : (mapOf l).length ≤ l.length := by
  have h : ∀ (l a : List Pr), (l.foldl wi a).length ≤ a.length + l.length := by
    intro l
    induction l with
    | nil => intro a; simp
    | cons p l ih =>
      intro a
      rw [List.foldl_cons]
      have h1 := ih (wi a p)
      have h2 : (wi a p).length ≤ a.length + 1 := by
        unfold wi blw abv
        rw [List.length_append, List.length_cons]
        have : ∀ a : List Pr, (a.filter (fun q => decide (q.k < p.k))).length + (a.filter (fun q => decide (p.k < q.k))).length ≤ a.length := by
          intro a
          induction a with
          | nil => simp
          | cons x a ih =>
            rw [List.filter_cons, List.filter_cons]
            have e1 : decide (x.k < p.k) = true → decide (p.k < x.k) = false := by simp; omega
            split
            · rename_i q; rw [e1 q]; simp; omega
            · split <;> simp <;> omega
        have := this a; omega
      simp at h1 ⊢; omega
  have := h l []; simpa [mapOf] using this
set_option maxHeartbeats 1000000 in
theorem of_any (ao : Option Addr) (es : List Pr) (n cap : Nat) (w : World) (hn : n = es.length) (hs : SlP w ao es) (hc : ao = none → cap = 0) (hl : n ≤ 1000) :
    Calls Try.prog 10 #[.slice ao n cap] w fun o w' => ∃ bo m cb, o = .returned (.agg #[.slice bo m cb]) ∧ MpV w' bo m cb (mapOf es) ∧ Kept [] w w' := by
  have K0 : Kept [] w (w.alloc (.cells #[.slice none 0 0] 26)) := (Kept.refl _ _).alloc _
  have Z0 := blk_alloc_new w (.cells #[.slice none 0 0] 26)
  have hc1 := clone_any ao es n cap _ hn (hs.new K0) hc hl
  have HN : Hid _ := hn
  clear hn hs hc
  go_enter Try.func10, Try.ntmps10
  go_wp2_with fail
  refine hc1.mono ?_
  clear hc1
  rintro o w1 ⟨v, rfl, O1, K1⟩
  have KT := K0.trans K1
  have Z1 := K1.blk Z0 (by simp)
  rcases O1.rf with ⟨rfl, rfl⟩ | ⟨g, c, rfl, hb, hle, R⟩
  · clear O1
    have q0 := cell_of_blk Z1 (i := 0) rfl
    have q1 := free_of_blk Z1 0
    go_wp2_with (first | (go_at_call 23; refine (reverse_nil _).mono ?_; rintro o w' ⟨rfl, rfl⟩) | (go_at_call 24; refine (sort_nil _).mono ?_; rintro o w' ⟨rfl, rfl⟩) | (go_at_call 26; refine (compact_nil _).mono ?_; rintro o w' ⟨rfl, rfl⟩))
    have Z2 := blk_set Z1 0 (.slice none 0 0)
    have q2 := cell_of_blk Z2 (i := 0) rfl
    exact bodyPost_ret (v := .agg #[.slice none 0 0]) (by simp [results, Try.results10, go_sem, q2]) rfl ⟨none, 0, 0, rfl, MpV.nil _, KT.setCell (Or.inr (Nat.le_refl _)) _⟩
  · have hgB : ¬ w.heap.size = g := by rw [nblk_alloc] at hb; omega
    have hc2 := reverse_any g es.length c _ w1 R (by have := HN.out; omega)
    obtain ⟨f0, hf0⟩ : ∃ f0 : Fn, f0 = (fun t => es.getD (es.length - 1 - t) default) := ⟨_, rfl⟩
    rw [← hf0] at hc2
    have F0 : Hid (∀ t, t < es.length → f0 t = es.getD (es.length - 1 - t) default) := fun t _ => by rw [hf0]
    obtain ⟨N, hN⟩ : ∃ N, N = es.length := ⟨_, rfl⟩
    rw [← hN] at hc2 hle ⊢
    have EN : Hid _ := hN
    have hl2 : N ≤ 1000 := by have := HN.out; omega
    clear R O1 hf0 hN
    go_wp2_with fail
    refine hc2.mono ?_
    clear hc2
    rintro o w2 ⟨rfl, R2, K2⟩
    have hc3 := sortStable_any g N c f0 w2 R2 hl2
    go_wp2_with fail
    refine hc3.mono ?_
    clear hc3
    rintro o w3 ⟨rfl, f3, R3, P3, S3, K3⟩
    have hc4 := compact_any g N c f3 w3 R3 hl2 hle
    have KS : Kept [g] w1 w3 := K2.trans K3
    have Z3 := KS.blk Z1 (by simpa using hgB)
    have HE : Hid (kp f3 N = mapOf es) := by show _ = _; rw [EN.out] at P3 S3 ⊢; exact of_is F0.out P3 S3
    clear R2 R3 P3 S3 K2 K3
    go_wp2_with fail
    refine hc4.mono ?_
    clear hc4
    rintro o w4 ⟨m, rfl, hm, S4, K4⟩
    have Z4 := K4.blk Z3 (by simpa using hgB)
    have KF : Kept [] w w4 := (KT.then KS (by intro x hx; right; simp at hx; subst hx; rw [nblk_alloc] at hb; omega)).then K4 (by intro x hx; right; simp at hx; subst hx; rw [nblk_alloc] at hb; omega)
    rw [HE.out] at hm S4
    have hmc : m ≤ c := by have := mapOf_len es; have := EN.out; omega
    have HM : Hid _ := And.intro hm (And.intro S4 hmc)
    clear hm S4 hmc Z3 Z1 KS K4 KT
    have q0 := cell_of_blk Z4 (i := 0) rfl
    have q1 := free_of_blk Z4 0
    go_wp2
    have Z5 := blk_set Z4 0 (.slice (some ⟨g, 0, none⟩) m c)
    have q2 := cell_of_blk Z5 (i := 0) rfl
    refine bodyPost_ret (v := .agg #[.slice (some ⟨g, 0, none⟩) m c]) (by simp [results, Try.results10, go_sem, q2]) rfl ⟨some ⟨g, 0, none⟩, m, c, rfl, ⟨HM.out.1, ?_, HM.out.2.2, by simp⟩, KF.setCell (Or.inr (Nat.le_refl _)) _⟩
    exact HM.out.2.1.kept ((Kept.refl [w.heap.size] w4).setCell (p := ⟨w.heap.size, 0, none⟩) (Or.inl (by simp)) _) (by intro ad h; cases h; simpa using fun e => hgB e.symm)
theorem pairs_any (ao : Option Addr) (es : List Pr) (n cap : Nat) (w : World) (h : MpV w ao n cap es) (hl : n ≤ 1000) :
    Calls Try.prog 14 #[.agg #[.slice ao n cap]] w fun o w' => ∃ bo cb, o = .returned (.slice bo n cb) ∧ MpV w' bo n cb es ∧ Kept [] w w' := by
  have K0 : Kept [] w (w.alloc (.cells #[.slice ao n cap] 26)) := (Kept.refl _ _).alloc _
  have hc := clone_any ao es n cap _ h.1 (h.2.1.new K0) h.2.2.2 hl
  have HN : Hid _ := h.1
  clear h
  go_enter Try.func14, Try.ntmps14
  go_wp2_with fail
  refine hc.mono ?_
  rintro o w1 ⟨v, rfl, O1, K1⟩
  obtain ⟨bo, cb, rfl, S1, l1, l2⟩ := O1.shape
  rw [← HN.out] at l1 ⊢
  clear hc O1
  go_wp2
  go_ret
  exact ⟨bo, cb, rfl, ⟨HN.out, S1, l1, l2⟩, K0.trans K1⟩
end Go.Proofs.Ytapbkonfjieadaa.Q
