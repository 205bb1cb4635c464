/-
  The keys of a range: a loop over a function.
-/
import Derived.Test.YtapbkonfjieadaaQFrom
namespace Go.Proofs.Ytapbkonfjieadaa.Q
set_option maxRecDepth 100000
open Go.RowKit Go.Shelf
open Go.Deep
attribute [local go_sem] Oper.semAt_some
theorem from_stops (m : Nat) (hm : 1 ≤ m) (B1 B2 n₀ n cap n1 : Nat) (ao a1 : Option Addr) (ps : List Pr) (w : World) (hn : n = ps.length) (hnc : n ≤ cap) (h1 : n1 ≤ n) (hz : ao = none → cap = 0) (hl : n ≤ 1000) (hn0 : n₀ ≤ w.heap.size)
    (z1 : w.heap[B1]? = some (.cells #[.slice ao n cap] 26 (0, 0))) (z2 : w.heap[B2]? = some (.cells #[.slice a1 n1 n1] 24 (0, 0))) (hS : SlB n₀ w ao ps) :
    SeqStopsK Fence.wide m Try.prog 45 #[.pointer (some ⟨B1, 0, none⟩), .pointer (some ⟨B2, 0, none⟩)] (fun x : Pr => #[.agg #[.int .u64 x.k, .int .u64 x.v]]) (Below n₀) (fun ys => ys = ps.drop n1) (fun pre => ∃ j, j < n - n1 ∧ pre = (ps.drop n1).take (j + 1)) (n - n1) w := fun l J Jx W hW hJ _ hY h0 => by
  have c1 := cell_of_blk ((hW.block B1 (lt_of_blk z1)).trans z1) (i := 0) rfl
  have c2 := cell_of_blk ((hW.block B2 (lt_of_blk z2)).trans z2) (i := 0) rfl
  exact from1_in Fence.wide m trivial rfl hm l B1 B2 n₀ n cap n1 ao a1 ps hn hnc h1 hz hl J Jx hY W hJ (Nat.le_trans hn0 hW.size) c1 c2 (hS.below (hW.mono hn0)) h0
/-- What has been taken of a range. -/
def Tk (most nn : Int) (pre : List Pr) : Prop := (∀ x ∈ pre, x.k ≤ most) ∧ pre.length ≤ nn.toNat
/-- All but the last one. -/
def dl (l : List Pr) : List Pr := l.dropLast
theorem dl_concat (l : List Pr) (x : Pr) : dl (l ++ [x]) = l := by unfold dl; simp
def kW (pre : List Pr) : List Value := pre.map (fun p => .int .u64 p.k)
/-- The keys of a range. -/
def rgK (ps : List Pr) (least most nn : Int) : List Int := (((nbl ps least).filter (fun p => decide (p.k ≤ most))).map Pr.k).take nn.toNat
theorem Str.parts {ps : List Pr} (h : Str ps) (k : Int) : ps = blw ps k ++ nbl ps k := by
  refine h.ext_mem ?_ (fun x => ?_)
  · unfold Str; rw [List.pairwise_append]
    refine ⟨h.filter _, h.filter _, fun x hx y hy => ?_⟩
    have h1 := (mem_blw.1 hx).2
    have h2 := (mem_nbl.1 hy).2
    omega
  · rw [List.mem_append, mem_blw, mem_nbl]
    constructor
    · intro hx
      by_cases q : x.k < k
      · exact Or.inl ⟨hx, q⟩
      · exact Or.inr ⟨hx, by omega⟩
    · rintro (⟨hx, _⟩ | ⟨hx, _⟩) <;> exact hx
theorem drop_parts {ps : List Pr} (h : Str ps) (k : Int) : ps.drop (blw ps k).length = nbl ps k := by
  conv => lhs; rw [h.parts k]
  rw [List.drop_left' (by rw [← h.parts k])]
theorem rgK_done {ps : List Pr} {least most nn : Int} (h : Tk most nn (nbl ps least)) : rgK ps least most nn = (nbl ps least).map Pr.k := by
  unfold rgK
  rw [List.filter_eq_self.2 (fun x hx => by simpa using h.1 x hx), List.take_of_length_le (by simpa using h.2)]
theorem rgK_stop {ps : List Pr} (hs : Str ps) {least most nn : Int} {pre : List Pr} {x : Pr} {j : Nat} (he : (nbl ps least).take (j + 1) = pre ++ [x]) (h : Tk most nn pre) (hx : most < x.k ∨ nn ≤ pre.length) : rgK ps least most nn = pre.map Pr.k := by
  have e : nbl ps least = pre ++ ([x] ++ (nbl ps least).drop (j + 1)) := by
    conv => lhs; rw [← List.take_append_drop (j + 1) (nbl ps least), he]
    rw [List.append_assoc]
  unfold rgK
  have f1 : pre.filter (fun p => decide (p.k ≤ most)) = pre := List.filter_eq_self.2 (fun y hy => by simpa using h.1 y hy)
  rcases hx with q | q
  · have f2 : ([x] ++ (nbl ps least).drop (j + 1)).filter (fun p => decide (p.k ≤ most)) = [] := by
      rw [List.filter_eq_nil_iff]
      intro y hy
      have hp : Str ([x] ++ (nbl ps least).drop (j + 1)) := by
        have : Str (nbl ps least) := hs.filter _
        rw [e] at this
        exact (List.pairwise_append.1 this).2.1
      rw [List.singleton_append, Str, List.pairwise_cons] at hp
      rw [List.singleton_append] at hy
      rcases List.mem_cons.1 hy with r | r
      · subst r; simp; omega
      · have := hp.1 y r; simp; omega
    rw [e, List.filter_append, f1, f2, List.append_nil, List.take_of_length_le (by simpa using h.2)]
  · have hl : pre.length = nn.toNat := by have := h.2; omega
    rw [e, List.filter_append, f1, List.map_append, ← hl, List.take_left' (by simp)]
theorem Tk.next {most nn : Int} {pre : List Pr} {x : Pr} (h : Tk most nn pre) (h1 : x.k ≤ most) (h2 : (pre.length : Int) < nn) : Tk most nn (pre ++ [x]) :=
  ⟨fun y hy => by rcases List.mem_append.1 hy with q | q; exact h.1 y q; simp at q; subst q; exact h1, by rw [List.length_append]; simp; omega⟩
theorem kW_sl {W : World} {base : Nat} {v : Value} {pre : List Pr} (h : W.ownsRow base 36 1 v pre.length (kW pre)) : ∃ co c', v = .slice co pre.length c' ∧ Sl W co (pre.map Pr.k) ∧ ∀ ad, co = some ad → base ≤ ad.block := by
  obtain ⟨h1, ⟨rfl, h0⟩ | ⟨g, cap, cur, rfl, hb, hg, hnc, hcm, hsz, htk⟩⟩ := h
  · have : pre = [] := List.eq_nil_of_length_eq_zero h0
    subst this
    exact ⟨none, 0, rfl, fun h => absurd h (by simp), by simp⟩
  · refine ⟨_, cap, rfl, fun _ => ⟨_, rfl, fun i hi => ?_⟩, by intro ad e; cases e; exact hb⟩
    rw [addr_add0]
    refine cell_of_blk hg ?_
    have q : (kW pre)[i]? = some (.int .u64 (pre.map Pr.k)[i]) := by simp at hi; simp [kW, hi]
    rw [← htk, List.getElem?_take] at q
    split at q
    · rw [← Array.getElem?_toList]; exact q
    · cases q
theorem box_alloc {W : World} {B : Nat} {c : Array Value} {t : TypeId} (h : W.heap[B]? = some (.cells c t (0, 0))) (o : Obj) : (W.alloc o).heap[B]? = some (.cells c t (0, 0)) := by
  rw [blk_alloc_lt _ _ _ (lt_of_blk h)]; exact h
theorem own_mono {W : World} {b b' : Nat} {e : TypeId} {sz : Nat} {v : Value} {k : Nat} {xs : List Value} (h : W.ownsRow b e sz v k xs) (hb : b' ≤ b) : W.ownsRow b' e sz v k xs := by
  obtain ⟨h1, h2 | ⟨g, cap, cur, rfl, hg, hr⟩⟩ := h
  · exact ⟨h1, Or.inl h2⟩
  · exact ⟨h1, Or.inr ⟨g, cap, cur, rfl, by omega, hr⟩⟩
/-- A box that is elder than a row is not the row. -/
theorem box_old {W w2 : World} {base B C : Nat} {e t : TypeId} {sz : Nat} {v u u' : Value} {k : Nat} {xs : List Value} {tmp : Obj} (h : Boxed W B t u) (hr : W.ownsRow base e sz v k xs) (hB : B < base) (hg : (W.alloc tmp).grownBy w2 v.ownBlock) (hne : B ≠ C) : Boxed (w2.setCell ⟨C, 0, none⟩ u') B t u := by
  have h2 : Boxed w2 B t u := (h.alloc tmp).kept hg (by
    intro q
    have := (World.ownsRow.lt hr B q.symm).1; omega)
  show (w2.setCell ⟨C, 0, none⟩ u').heap[B]? = _
  rw [blk_setCell_other _ _ _ _ (fun q => hne q)]; exact h2
set_option maxHeartbeats 4000000 in
theorem keys_any (ao : Option Addr) (ps : List Pr) (n cap : Nat) (least most nn : Int) (w : World) (h : MpV w ao n cap ps) (hst : Str ps) (hl : n ≤ 1000) :
    Calls Try.prog 33 #[.agg #[.slice ao n cap], .int .u64 least, .int .u64 most, .int .i64 nn] w fun o w' => ∃ ko kn kc, o = .returned (.slice ko kn kc) ∧ kn = (rgK ps least most nn).length ∧ Sl w' ko (rgK ps least most nn) ∧ (∀ ad, ko = some ad → w.heap.size ≤ ad.block) ∧ Kept [] w w' := by
  have h1 : (1 : Nat) ≤ 4 := by omega
  have h40 : Fence.wide.fn 40 := trivial
  have h45 : Fence.wide.fn 45 := trivial
  have hro : Fence.wide.round = none := rfl
  obtain ⟨i0, hi, hz0, hz1, hz2⟩ := info_parts info_u64
  obtain ⟨W0, hW0⟩ : ∃ W0, W0 = (((w.alloc (.cells #[.slice ao n cap] 26)).alloc (.cells #[.int .u64 most] 36)).alloc (.cells #[.int .i64 nn] 3)).alloc (.cells #[.slice none 0 0] 39) := ⟨_, rfl⟩
  have K0 : Kept [] w W0 := by rw [hW0]; exact ((((Kept.refl _ _).alloc _).alloc _).alloc _).alloc _
  have hc := from_any ao ps n cap least W0 (h.new K0) hst hl
  refine (callsIn_wide (n := 4)).1 ?_
  refine callsIn_of_wp_marks Try.func33 rfl trivial ?_ hro
  simp only [Try.ntmps33, List.size_toArray, List.length_cons, List.length_nil, Nat.reduceAdd, Nat.reduceSub, Array.replicate_succ, Array.replicate_zero, List.push_toArray, List.append_toArray, List.nil_append, List.cons_append]
  rw [hW0] at hc
  gi_wp2_with (gi_at_call 40; refine (callsIn_wide.2 hc).mono ?_; rintro o w1 ⟨B2, a1, rfl, Z1, Z2, K1⟩)
  have MB := h.new (K0.trans (by rw [hW0]; exact K1))
  rw [← hW0] at Z1 K1
  obtain ⟨H, hH⟩ : ∃ H, H = w.heap.size := ⟨_, rfl⟩
  have hs0 : W0.heap.size = H + 1 + 1 + 1 + 1 := by rw [hW0, hH]; simp only [nblk_alloc]
  rw [hs0] at Z1
  have bK : Boxed W0 (H + 1 + 1 + 1) 39 (.slice none 0 0) := by rw [hW0, hH]; have := blk_alloc_new (((w.alloc (.cells #[.slice ao n cap] 26)).alloc (.cells #[.int .u64 most] 36)).alloc (.cells #[.int .i64 nn] 3)) (.cells #[.slice none 0 0] 39); simp only [nblk_alloc] at this; exact this
  have bN : Boxed W0 (H + 1 + 1) 3 (.int .i64 nn) := by rw [hW0, hH]; have := box_alloc (blk_alloc_new ((w.alloc (.cells #[.slice ao n cap] 26)).alloc (.cells #[.int .u64 most] 36)) (.cells #[.int .i64 nn] 3)) (.cells #[.slice none 0 0] 39); simp only [nblk_alloc] at this; exact this
  have bM : Boxed W0 (H + 1) 36 (.int .u64 most) := by rw [hW0, hH]; have := box_alloc (box_alloc (blk_alloc_new (w.alloc (.cells #[.slice ao n cap] 26)) (.cells #[.int .u64 most] 36)) (.cells #[.int .i64 nn] 3)) (.cells #[.slice none 0 0] 39); simp only [nblk_alloc] at this; exact this
  have bK1 : Boxed w1 (H + 1 + 1 + 1) 39 (.slice none 0 0) := K1.blk bK (by simp)
  have bN1 : Boxed w1 (H + 1 + 1) 3 (.int .i64 nn) := K1.blk bN (by simp)
  have bM1 : Boxed w1 (H + 1) 36 (.int .u64 most) := K1.blk bM (by simp)
  have hs1 : H + 1 + 1 + 1 + 1 ≤ w1.heap.size := by rw [← hs0]; exact K1.size
  have KT := K0.trans K1
  have hB0 : Below H w w1 := by rw [hH]; exact KT.below (by simp)
  have hSB : SlB H w1 ao ps := (SlP.slb h.2.1).below (by have := hB0; rw [hH] at this; exact this) |> fun q => by rw [hH]; exact q
  have HD : Hid _ := drop_parts hst least
  have hn1 : (blw ps least).length ≤ n := by have := (parts_len ps least).1; rw [← h.1] at this; exact this
  obtain ⟨n1, hn1e⟩ : ∃ n1, n1 = (blw ps least).length := ⟨_, rfl⟩
  rw [← hn1e] at Z2 HD hn1
  have hseq := from_stops 3 (by omega) (H + 1 + 1 + 1 + 1) B2 H n cap n1 ao a1 ps w1 MB.1 MB.2.2.1 hn1 MB.2.2.2 hl (by omega) Z1 Z2 hSB
  rw [← hH]
  have hHw : H ≤ w.heap.size := by omega
  have HH : Hid (H = w.heap.size) := hH
  clear hH
  clear hc bK bN bM K1 hW0 hs0 K0 Z1 Z2 MB hn1e hSB h W0
  refine wpIn_rangeFunc_ownH hro h1 (gf := 45) (lb := #[.pointer (some ⟨H + 1 + 1 + 1 + 1, 0, none⟩), .pointer (some ⟨B2, 0, none⟩)]) rfl h45 (enters_of Try.func45 (by kernel_rfl) rfl)
    hseq belowK_t (belowK_b (by omega)) (Below.refl _ _) (fun _ => rfl)
    (fun pre W => (∃ v, Boxed W (H + 1 + 1 + 1) 39 v ∧ W.ownsRow (H + 1 + 1 + 1 + 1) 36 1 v pre.length (kW pre) ∧ Tk most nn pre) ∧ (Boxed W (H + 1 + 1) 3 (.int .i64 nn) ∧ Boxed W (H + 1) 36 (.int .u64 most)) ∧ Below H w W)
    (fun c pre' W => (∃ v, Boxed W (H + 1 + 1 + 1) 39 v ∧ W.ownsRow (H + 1 + 1 + 1 + 1) 36 1 v (dl pre').length (kW (dl pre')) ∧ (c = .exit 0 ∧ ∃ pre x, pre' = pre ++ [x] ∧ Tk most nn pre ∧ (most < x.k ∨ nn ≤ pre.length))) ∧ Below H w W)
    (OwnFrom.and (Own.from (holdsRow_own (H + 1 + 1 + 1 + 1) (H + 1 + 1 + 1) 39 36 1 (fun pre => pre.length) (fun pre => kW pre) (fun pre _ => Tk most nn pre)) _) (OwnFrom.and (OwnFrom.and (Own.from (boxed_own _ _ _) _) (Own.from (boxed_own _ _ _) _)) (ownFrom_below hHw (by omega))))
    (fun c => OwnFrom.and (Own.from (holdsRow_own (H + 1 + 1 + 1 + 1) (H + 1 + 1 + 1) 39 36 1 (fun pre' => (dl pre').length) (fun pre' => kW (dl pre')) (fun pre' _ => (c = .exit 0 ∧ ∃ pre x, pre' = pre ++ [x] ∧ Tk most nn pre ∧ (most < x.k ∨ nn ≤ pre.length)))) _) (ownFrom_below hHw (by omega)))
    ⟨⟨_, bK1, World.ownsRow_nil _ _ _ _, ⟨by simp, by simp⟩⟩, ⟨bN1, bM1⟩, hB0⟩
    (fun x a' W => ∃ Bx, W.heap[Bx]? = some (.cells #[.int .u64 x.k, .int .u64 x.v] 52 (0, 0)) ∧ a' = { tmps := #[.agg #[.slice ao n cap], .int .u64 least, .int .u64 most, .int .i64 nn, .pointer (some ⟨H, 0, none⟩), undef, .pointer (some ⟨H + 1, 0, none⟩), .pointer (some ⟨H + 1 + 1, 0, none⟩), .slice none 0 0, .pointer (some ⟨H + 1 + 1 + 1, 0, none⟩), .pointer (some ⟨Bx, 0, none⟩), .agg #[.slice ao n cap], .int .u64 least, .func (.func 45) #[] #[.pointer (some ⟨H + 1 + 1 + 1 + 1, 0, none⟩), .pointer (some ⟨B2, 0, none⟩)], .agg #[.int .u64 x.k, .int .u64 x.v], undef, undef, undef, undef, undef, undef, undef, undef, undef, undef, undef, undef, undef, undef, undef, undef], defers := [] })
    (fun x a' _ X Y row hs hg hr => by
      obtain ⟨Bx, hb2, hb3⟩ := hs
      refine ⟨Bx, (hg.block Bx (lt_of_blk hb2) (fun e => ?_)).trans hb2, hb3⟩
      obtain ⟨_, o, ho, hcl⟩ := hr Bx e.symm
      rw [hb2] at ho; cases ho; cases hcl)
    ?assign ?body ?done ?stop
  case assign =>
    rintro l pre x W K ⟨⟨v, bV, hrow, hT⟩, ⟨bN2, bM2⟩, hB⟩ hK
    gi_wp2
    exact hK _ _ ((KeepsOthers.alloc _ _).from _) ((Below.refl _ W).alloc (Nat.le_trans hHw hB.size) _) ⟨⟨v, bV.alloc _, hrow.alloc _, hT⟩, ⟨bN2.alloc _, bM2.alloc _⟩, hB.alloc (Nat.le_trans hHw hB.size) _⟩ ⟨W.heap.size, blk_alloc_new _ _, rfl⟩
  case body =>
    rintro l pre x a' W hl2 ⟨r, hr⟩ ⟨⟨v, bV, hrow, hT⟩, ⟨bN2, bM2⟩, hB⟩ ⟨Bx, bX, rfl⟩ hlt
    obtain ⟨co, c', rfl, _⟩ := kW_sl hrow
    have cV := bV.cell
    have cN := bN2.cell
    have cM := bM2.cell
    have x0 := cell_of_blk bX (i := 0) rfl
    have x1 := cell_of_blk bX (i := 1) rfl
    have hdl := dl_concat pre x
    by_cases q1 : most < x.k
    · have d1 : decide (most < x.k) = true := decide_eq_true q1
      gi_wp2
      exact ⟨KeepsFrom.refl _ _, ⟨_, bV, by rw [hdl]; exact hrow, rfl, pre, x, rfl, hT, Or.inl q1⟩, hB⟩
    · have d1 : decide (most < x.k) = false := decide_eq_false q1
      by_cases q2 : nn ≤ (pre.length : Int)
      · have d2 : decide (nn ≤ (pre.length : Int)) = true := decide_eq_true q2
        gi_wp2
        exact ⟨KeepsFrom.refl _ _, ⟨_, bV, by rw [hdl]; exact hrow, rfl, pre, x, rfl, hT, Or.inr q2⟩, hB⟩
      · have d2 : decide (nn ≤ (pre.length : Int)) = false := decide_eq_false q2
        have hle : H ≤ H + 1 + 1 + 1 := by omega
        gi_wp2_with (gi_at_builtin; refine wpListIn_append_own _ rfl _ _ 39 rfl (H + 1 + 1 + 1 + 1) 36 i0 (.int .u64 0) 1 8 Try.underlying39 hi hz0 hz1 hz2 rfl (by decide) _ _ _ rfl (hrow.alloc _) ⟨W.heap.size, 0, none⟩ 1 1 [.int .u64 x.k] rfl rfl (cell_one_new _ _ _) (by simp [Value.oneCell']) (by unfold maxLen; omega) (by omega) (by have := hl2; simp; have := bV.lt; omega) ?_; intro v' w2 hown' hgrow _; obtain ⟨g', cap', rfl⟩ := ownsRow_succ hown'; obtain ⟨hv1, hv2, hr2, hk2, hb2⟩ := bV.appended (by decide) (own_mono hrow (by omega)) (Nat.le_trans hHw hB.size) hle (own_mono hown' (by omega)) hgrow; have hr3 := hown'.kept (grownBy_setCell' w2 (H + 1 + 1 + 1) (.slice (some ⟨g', 0, none⟩) (pre.length + 1) cap')) (.inr (hv1.not_row (by decide) hown').symm); have hc1 := hv1.cell; have hf1 := hv1.frozen)
        have hN := hT.next (x := x) (by omega) (by omega)
        exact ⟨hk2.from _, hb2, ⟨_, hv2, by unfold kW at hr3 ⊢; rw [List.length_append, List.map_append]; exact hr3, hN⟩, ⟨box_old bN2 hrow (by omega) hgrow (by omega), box_old bM2 hrow (by omega) hgrow (by omega)⟩, hB.trans hb2⟩
  case done =>
    rintro D ys W hD rfl ⟨⟨v, bV, hrow, hT⟩, ⟨bN2, bM2⟩, hB⟩ hK
    rw [HD.out] at hrow hT
    obtain ⟨co, c', rfl, _, hbk⟩ := kW_sl hrow
    have cV := bV.cell
    gi_wp2
    refine ⟨by simp, .inl ⟨_, _, rfl, run_takeDeferred hK, ?_⟩⟩
    refine ⟨_, results_tmp rfl _ _ _, co, _, c', rfl, ?_, ?_, (by have := HH.out; intro ad e; have := hbk ad e; omega), ?_⟩
    · rw [rgK_done hT]; simp
    · obtain ⟨co2, c2, e2, S2, _⟩ := kW_sl (ownsRow_putObj hrow (.deferred none) hK rfl)
      cases e2
      rw [rgK_done hT]; exact S2
    · exact Kept.of_below (by have := hB.trans (belowK_b (w := w) hHw W D (.deferred (some [])) (.deferred none) (by have := HH.out; omega) hK rfl rfl); rw [HH.out] at this; exact this)
  case stop =>
    rintro D c pre' W hD ⟨j, hj, hpre⟩ ⟨⟨v, bV, hrow, rfl, pre, x, rfl, hT, hx⟩, hB⟩ hK
    rw [HD.out] at hpre
    rw [dl_concat] at hrow
    have E : Hid _ := rgK_stop hst hpre.symm hT hx
    obtain ⟨co, c', rfl, _, hbk⟩ := kW_sl hrow
    have cV := bV.cell
    gi_wp2
    refine ⟨by simp, .inl ⟨_, _, rfl, run_takeDeferred hK, ?_⟩⟩
    refine ⟨_, results_tmp rfl _ _ _, co, _, c', rfl, ?_, ?_, (by have := HH.out; intro ad e; have := hbk ad e; omega), ?_⟩
    · rw [E.out]; simp
    · obtain ⟨co2, c2, e2, S2, _⟩ := kW_sl (ownsRow_putObj hrow (.deferred none) hK rfl)
      cases e2
      rw [E.out]; exact S2
    · exact Kept.of_below (by have := hB.trans (belowK_b (w := w) hHw W D (.deferred (some [])) (.deferred none) (by have := HH.out; omega) hK rfl rfl); rw [HH.out] at this; exact this)
end Go.Proofs.Ytapbkonfjieadaa.Q
