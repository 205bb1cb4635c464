/-
  A claim that goes on alone: what it does to the slots' words.
  The slots' words, told in order.
-/
import Derived.Test.YtmmpafhfanldbaaDoorKMeta
import Derived.Deep.AppendLies
import Derived.Deep.RegionHeld3
import Derived.Deep.Cut
namespace Go.Proofs.YtmmpafhfanldbaaDoor
open Go.RowKit (Grown Hid Below)
open Go.Deep
namespace K
/-- How far a slot lies behind the first one, going round. -/
def dsA (c : Cfg) (f i : Int) : Int := (i - f) % c.c
theorem dsA_next {c : Cfg} (h : 1 ≤ c.c) (f : Int) {i : Int} (h1 : i ≤ c.c) : dsA c f (bhI c i) = if dsA c f i + 1 = c.c then 0 else dsA c f i + 1 := by
  unfold dsA
  have e : (bhI c i - f) % c.c = (i - f + 1) % c.c := by
    unfold bhI; split
    · have : i = c.c := by omega
      subst this
      rw [show c.c - f + 1 = (1 - f) + c.c by omega, Int.add_emod_right]
    · congr 1; omega
  rw [e, mod_next _ _ h]
theorem dsA_bd {c : Cfg} (h : 1 ≤ c.c) (f i : Int) : 0 ≤ dsA c f i ∧ dsA c f i < c.c := ⟨Int.emod_nonneg _ (by omega), Int.emod_lt_of_pos _ (by omega)⟩
theorem dsA_inj {c : Cfg} {f i j : Int} (h0 : 1 ≤ i) (h1 : i ≤ c.c) (h2 : 1 ≤ j) (h3 : j ≤ c.c) (e : dsA c f i = dsA c f j) : i = j := by
  unfold dsA at e
  have a := Int.emod_add_mul_ediv (i - f) c.c
  have b := Int.emod_add_mul_ediv (j - f) c.c
  rw [e] at a
  have d : i - j = c.c * ((i - f) / c.c - (j - f) / c.c) := by rw [Int.mul_sub]; omega
  generalize (i - f) / c.c - (j - f) / c.c = u at d
  rcases (by omega : u = 0 ∨ 1 ≤ u ∨ u ≤ -1) with q | q | q
  · rw [q] at d; omega
  · have := Int.mul_le_mul_of_nonneg_left q (by omega : 0 ≤ c.c); omega
  · have := Int.mul_le_mul_of_nonneg_left q (by omega : 0 ≤ c.c); omega
/-- It got the slot: that one was free, and is taken, in its generation; the others are as they were. -/
structure GotIt (c : Cfg) (cs0 cs : List Int) (s : Ks) (I : Int) : Prop where
  ph : s.ph = 3
  i0 : 1 ≤ I
  i1 : I ≤ c.c
  st : S.stV (wdK c cs0 I) = 0
  gt : s.gt = packV I (S.gnV (wdK c cs0 I)) false
  at_ : ∀ i, 1 ≤ i → i ≤ c.c → wdK c cs i = if i = I then S.meV 1 (S.gnV (wdK c cs0 I)) else wdK c cs0 i
structure NoneFree (c : Cfg) (cs0 cs : List Int) (s : Ks) : Prop where
  ph : s.ph = 3
  gt : s.gt = 0
  cs : cs = cs0
  no : ∀ i, 1 ≤ i → i ≤ c.c → ¬ S.stV (wdK c cs0 i) = 0
/-- Where it is, so many steps on. -/
structure AlS (c : Cfg) (cs0 : List Int) (f : Int) (j : Int) (cs : List Int) (s : Ks) : Prop where
  ki : KI c s
  wd : Wds cs
  len : (cs.length : Int) = lnV c
  wd0 : Wds cs0
  len0 : (cs0.length : Int) = lnV c
  c0 : s.ph = 0 → j = 0 ∧ cs = cs0 ∧ s.gt = 0 ∧ bgI c s.fr = f
  c1 : s.ph = 1 → 1 ≤ j ∧ j < c.c ∧ cs = cs0 ∧ s.gt = 0 ∧ s.lf = c.c - j ∧ dsA c f s.ix = j ∧ ∀ i, 1 ≤ i → i ≤ c.c → dsA c f i < j → ¬ S.stV (wdK c cs0 i) = 0
  c2 : s.ph = 2 → 1 ≤ j ∧ j ≤ c.c ∧ cs = cs0 ∧ s.gt = 0 ∧ s.lk = wdK c cs0 s.ix ∧ S.stV s.lk = 0 ∧ s.lf = c.c - (j - 1) ∧ dsA c f s.ix = j - 1
  c3 : 3 ≤ s.ph → (∃ I, GotIt c cs0 cs s I) ∨ NoneFree c cs0 cs s
theorem AlS.start {c : Cfg} {cs : List Int} (hw : Wds cs) (hl : (cs.length : Int) = lnV c) (fr : Int) : AlS c cs (bgI c fr) 0 cs ⟨0, fr, 0, 0, 0, 0, fr⟩ :=
  ⟨KI.start c fr, hw, hl, hw, hl, fun _ => ⟨rfl, rfl, rfl, rfl⟩, fun h => by simp at h, fun h => by simp at h, fun h => by simp at h⟩
/-- It looks at a slot. -/
theorem al_look {c : Cfg} {cs0 : List Int} {f j : Int} {s : Ks} (hc : 1 ≤ c.c) (hw : Wds cs0) (hl : (cs0.length : Int) = lnV c) (j0 : 0 ≤ j) (i0 : 1 ≤ s.ix) (i1 : s.ix ≤ c.c) (g0 : s.gt = 0) (l0 : s.lf = c.c - j) (hj : j < c.c) (hd : dsA c f s.ix = j) (hv : ∀ i, 1 ≤ i → i ≤ c.c → dsA c f i < j → ¬ S.stV (wdK c cs0 i) = 0) :
    AlS c cs0 f (j + 1) cs0 (lookK c cs0 s) := by
  have hk : KI c (lookK c cs0 s) := lookK_ki hw hc i0 i1 (by omega) (by omega)
  refine ⟨hk, hw, hl, hw, hl, fun x => ?_, fun x => ?_, fun x => ?_, fun x => ?_⟩
  · unfold lookK at x; split at x
    · simp at x
    · unfold passK at x; split at x <;> simp at x
  · unfold lookK at x ⊢
    split at x
    · simp at x
    · rename_i hz
      rw [if_neg hz]
      unfold passK at x ⊢
      split at x
      · simp at x
      · rename_i h1
        have h1' : ¬ s.lf = 1 := h1
        rw [if_neg h1]
        refine ⟨by omega, by omega, rfl, g0, by show s.lf - 1 = c.c - (j + 1); omega, ?_, fun i a b d => ?_⟩
        · show dsA c f (bhI c s.ix) = j + 1
          rw [dsA_next hc f i1, hd, if_neg (by omega)]
        · by_cases q : dsA c f i < j
          · exact hv i a b q
          · have : i = s.ix := dsA_inj (f := f) a b i0 i1 (by omega)
            rw [this]; exact hz
  · unfold lookK at x ⊢
    split at x
    · rename_i hz
      rw [if_pos hz]
      exact ⟨by omega, by omega, rfl, g0, rfl, hz, by show s.lf = c.c - (j + 1 - 1); omega, by show dsA c f s.ix = j + 1 - 1; omega⟩
    · unfold passK at x; split at x <;> simp at x
  · right
    unfold lookK at x ⊢
    split at x
    · simp at x
    · rename_i hz
      rw [if_neg hz]
      unfold passK at x ⊢
      split at x
      · rename_i h1
        have h1' : s.lf = 1 := h1
        rw [if_pos h1]
        refine ⟨rfl, g0, rfl, fun i a b => ?_⟩
        by_cases q : dsA c f i < j
        · exact hv i a b q
        · have := (dsA_bd hc f i).2
          have : i = s.ix := dsA_inj (f := f) a b i0 i1 (by omega)
          rw [this]; exact hz
      · simp at x
theorem AlS.step {c : Cfg} {cs0 cs : List Int} {f j : Int} {s : Ks} (hr : riB c = true) (hc : 1 ≤ c.c) (j0 : 0 ≤ j) (h : AlS c cs0 f j cs s) : AlS c cs0 f (j + 1) (stC c cs s) (stK c cs s) := by
  by_cases q0 : s.ph = 0
  · obtain ⟨e1, e2, e3, e4⟩ := h.c0 q0
    have z : stC c cs s = cs := by unfold stC; rw [if_neg (by omega)]
    have bb := bgI_bd (c := c) s.fr hc
    rw [z, e2]
    unfold stK; rw [if_pos q0]
    refine al_look (s := ⟨0, s.fr, bgI c s.fr, c.c, s.lk, s.gt, s.nx⟩) hc h.wd0 h.len0 j0 bb.1 bb.2 e3 (by show c.c = c.c - j; omega) (by omega) ?_ (fun i a b d => by have := (dsA_bd hc f i).1; omega)
    show dsA c f (bgI c s.fr) = j
    rw [e4, e1]; unfold dsA; simp
  · by_cases q1 : s.ph = 1
    · obtain ⟨e1, e2, e3, e4, e5, e6, e7⟩ := h.c1 q1
      obtain ⟨a, b, d, e⟩ := h.ki.pos (by omega) (by omega)
      have z : stC c cs s = cs := by unfold stC; rw [if_neg (by omega)]
      rw [z, e3]
      unfold stK; rw [if_neg q0, if_pos q1]
      exact al_look hc h.wd0 h.len0 j0 a b e4 e5 e2 e6 e7
    · by_cases q2 : s.ph = 2
      · obtain ⟨e1, e2, e3, e4, e5, e6, e7, e8⟩ := h.c2 q2
        obtain ⟨a, b, d, e⟩ := h.ki.pos (by omega) (by omega)
        have hk := stK_ki (cs := cs) h.wd hc h.ki
        have ec : stK c cs s = ⟨3, s.fr, s.ix, s.lf, s.lk, packV s.ix (S.gnV s.lk) false, bhI c s.ix⟩ := by
          unfold stK; rw [if_neg q0, if_neg q1, if_pos q2]
          unfold takeK
          rw [if_pos ((tk_d hr h.len (by omega) b).2 (by rw [e3, e5]))]
        refine ⟨hk, stC_wd h.wd h.ki, by rw [stC_len]; exact h.len, h.wd0, h.len0, ?_, ?_, ?_, fun _ => Or.inl ⟨s.ix, ?_⟩⟩
        · rw [ec]; intro x; simp at x
        · rw [ec]; intro x; simp at x
        · rw [ec]; intro x; simp at x
        · rw [ec]
          refine ⟨rfl, a, b, by rw [← e5]; exact e6, by rw [← e5], fun i a1 b1 => ?_⟩
          rw [wd_step hr h.len h.ki (by omega) b1, e3]
          by_cases q : i = s.ix
          · rw [if_pos ⟨q2, q, by rw [q, e5]⟩, if_pos q, e5]
          · rw [if_neg (fun x => q x.2.1), if_neg q]
      · have e : stK c cs s = s := by unfold stK; rw [if_neg q0, if_neg q1, if_neg q2]
        have z : stC c cs s = cs := by unfold stC; rw [if_neg q2]
        rw [e, z]
        exact ⟨h.ki, h.wd, h.len, h.wd0, h.len0, fun x => absurd x q0, fun x => absurd x q1, fun x => absurd x q2, h.c3⟩
theorem AlS.fin {c : Cfg} {cs0 cs : List Int} {f : Int} {s : Ks} (h : AlS c cs0 f (c.c + 1) cs s) (hc : 1 ≤ c.c) : (∃ I, GotIt c cs0 cs s I) ∨ NoneFree c cs0 cs s := by
  by_cases q : 3 ≤ s.ph
  · exact h.c3 q
  · exfalso
    rcases (by omega : s.ph = 0 ∨ s.ph = 1 ∨ s.ph = 2) with e | e | e
    · have := h.c0 e; omega
    · have := h.c1 e; omega
    · have := h.c2 e; omega
/-- The slots' words, in order. -/
def ml (c : Cfg) (cs : List Int) (k : Nat) : List Int := (List.range k).map fun (i : Nat) => wdK c cs ((i : Int) + 1)
theorem ml_len (c : Cfg) (cs : List Int) (k : Nat) : (ml c cs k).length = k := by simp [ml]
theorem ml_next (c : Cfg) (cs : List Int) (k : Nat) : ml c cs (k + 1) = ml c cs k ++ [wdK c cs ((k : Int) + 1)] := by simp [ml, List.range_succ]
theorem ml_get (c : Cfg) (cs : List Int) {k i : Nat} (h : i < k) : (ml c cs k)[i]'(by rw [ml_len]; exact h) = wdK c cs ((i : Int) + 1) := by simp [ml]
end K
end Go.Proofs.YtmmpafhfanldbaaDoor
namespace Go.Proofs.YtmmpafhfanldbaaDoor
open Go.RowKit (Grown Hid Below intOf)
open Go.Deep
namespace K
set_option maxRecDepth 100000
theorem keptOb {w w1 : World} {v : Value} (hg : w.grownBy w1 v.ownBlock) : Kept v.ownBlock.toList w w1 :=
  ⟨hg.os, hg.tape, hg.output, hg.size, fun k hk hn => hg.block k hk (fun e => hn (by rw [← e]; simp))⟩
/-- Words in a row of their own. -/
def OwnU (w : World) (base : Nat) (v : Value) (ks : List Int) : Prop := w.ownsRow base 29 1 v ks.length (ks.map (Value.int .u64))
theorem OwnU.nil (w : World) (base : Nat) : OwnU w base (.slice none 0 0) [] := ⟨rfl, Or.inl ⟨rfl, rfl⟩⟩
theorem OwnU.kept {l : List Nat} {w w' : World} {base : Nat} {v : Value} {es : List Int} (h : OwnU w base v es) (k : Kept l w w') (hn : ∀ g, v.ownBlock = some g → g ∉ l) : OwnU w' base v es := by
  obtain ⟨h1, h2 | ⟨g, cap, cur, rfl, hb, hg, hr⟩⟩ := h
  · exact ⟨h1, Or.inl h2⟩
  · exact ⟨h1, Or.inr ⟨g, cap, cur, rfl, hb, k.blk hg (hn g rfl), hr⟩⟩
theorem OwnU.row {w : World} {base : Nat} {v : Value} {es : List Int} (h : OwnU w base v es) (h0 : 0 < es.length) : ∃ g cap, v = .slice (some ⟨g, 0, none⟩) es.length cap ∧ base ≤ g ∧ g < w.heap.size ∧ ∀ i (hi : i < es.length), w.cell? ⟨g, i, none⟩ = some (.int .u64 es[i]) := by
  obtain ⟨h1, ⟨rfl, h2⟩ | ⟨g, cap, cur, rfl, hb, hg, hnc, hcm, hsz, htk⟩⟩ := h
  · omega
  · refine ⟨g, cap, rfl, hb, lt_of_blk hg, fun i hi => ?_⟩
    refine cell_of_blk hg ?_
    have q : (es.map (Value.int .u64))[i]? = some (.int .u64 es[i]) := by simp [hi]
    rw [← htk, List.getElem?_take] at q
    split at q
    · rw [← Array.getElem?_toList]; exact q
    · cases q
/-- The slots' words, in a row. -/
def WR (w : World) (g : Nat) (c : Cfg) (cs : List Int) (k : Nat) : Prop := g < w.heap.size ∧ ∀ i, i < k → w.cell? ⟨g, i, none⟩ = some (.int .u64 (wdK c cs ((i : Int) + 1)))
theorem WR.kept {l : List Nat} {w w' : World} {g : Nat} {c : Cfg} {cs : List Int} {k : Nat} (h : WR w g c cs k) (kk : Kept l w w') (hn : g ∉ l) : WR w' g c cs k :=
  ⟨Nat.lt_of_lt_of_le h.1 kk.size, fun i hi => by rw [World.cell?_of_block (w := w) (a := ⟨g, i, none⟩) (kk.block g h.1 hn)]; exact h.2 i hi⟩
theorem append_word (ty : TypeId) (w : World) (base H : Nat) (v : Value) (es : List Int) (e : Int) (hH : w.heap.size = H) (hR : OwnU w base v es) (hb : base ≤ w.heap.size) (hm : es.length ≤ 100000) :
    ∃ g cap w1, (Builtin.append_ #[24, 24] ty #[v, .slice (some ⟨H, 0, none⟩) 1 1]).run Tryd.prog (w.alloc (.cells #[.int .u64 e] 29)) = .ok (.slice (some ⟨g, 0, none⟩) (es.length + 1) cap) w1 ∧
      OwnU w1 base (.slice (some ⟨g, 0, none⟩) (es.length + 1) cap) (es ++ [e]) ∧ (v.ownBlock = some g ∨ w.heap.size ≤ g) ∧ Kept v.ownBlock.toList w w1 := by
  subst hH
  obtain ⟨i, hi, hz0, hz1, hz2⟩ := info_parts' info_u64
  have hR' := hR.kept ((Kept.refl [] w).alloc (.cells #[.int .u64 e] 29)) (by simp)
  have hnews := World.news_of_block (blk_alloc_new w (.cells #[.int .u64 e] 29))
  obtain ⟨g, cap, w1, hrun, hown, hg, hat, hlt⟩ := run_append_lies (P := Tryd.prog) (w.alloc (.cells #[.int .u64 e] 29)) 24 ty base 29 i _ 1 8 Tryd.underlying24 hi hz0 hz1 hz2 rfl (by decide) v es.length (es.map (Value.int .u64)) hR' ⟨w.heap.size, 0, none⟩ 1 1 [.int .u64 e] rfl hnews
    (by intro u hu; simp at hu; rw [hu]; rfl) (by omega) (by unfold maxLen; omega) (by omega) (by rw [nblk_alloc]; omega) _ rfl
  refine ⟨g, cap, w1, hrun, ?_, ?_, ?_⟩
  · unfold OwnU; rw [List.length_append, List.map_append]; exact hown
  · rcases hat with h | h
    · exact Or.inl h
    · right; rw [h, nblk_alloc]; omega
  · exact ((Kept.refl _ w).alloc _).trans (keptOb hg)
/-- A block that holds a pointer. -/
def PB (w : World) (b m : Nat) : Prop := w.heap[b]? = some (.cells #[.pointer (some ⟨m, 0, none⟩)] 28 (0, 0))
theorem PB.kept {l : List Nat} {w w' : World} {b m : Nat} (h : PB w b m) (k : Kept l w w') (hn : b ∉ l) : PB w' b m := k.blk h hn
def MetasP (W : World) (c : Cfg) (cs : List Int) (k : Nat) (e : Ending) (w' : World) : Prop := ∃ g cap, e = .returned (.slice (some ⟨g, 0, none⟩) k cap) ∧ WR w' g c cs k ∧ W.heap.size ≤ g ∧ Kept [] W w'
set_option maxHeartbeats 8000000 in
theorem metas_any (q q7 m p r : Nat) (c : Cfg) (cs : List Int) (cnt : Int) (x : Acc) (k : Nat) (W : World) (hC : RW 23 W q #[.int .i64 c.t, .int .i64 c.s, .int .i64 c.c, .int .i64 c.h, .int .i64 c.k, .int .i64 c.e, .int .i64 c.l]) (hQ : PB W q7 m) (hM : Mm W m p r c cs cnt x) (hri : riB c = true) (hlen : (cs.length : Int) = lnV c) (hk : (k : Int) = c.c) (n0 : 1 ≤ c.c) (n64 : c.c ≤ 64) :
    Calls Tryd.prog 24 #[.pointer (some ⟨q, 0, none⟩), .pointer (some ⟨q7, 0, none⟩)] W fun e w' => MetasP W c cs k e w' := by
  have szC := hC.lt
  have HC := hidOf hC
  have HQ := hidOf hQ
  have HM := hidOf hM
  clear hC hQ hM
  go_enter Tryd.func24, Tryd.ntmps24
  go_upto_region 2 with (fail)
  refine wp_region_held_drew (S := fun w' => RW 23 w' q #[.int .i64 c.t, .int .i64 c.s, .int .i64 c.c, .int .i64 c.h, .int .i64 c.k, .int .i64 c.e, .int .i64 c.l] ∧ PB w' q7 m) (by kernel_rfl) ⟨HC.out, HQ.out⟩ (fun hS => ?_)
  have KU : Kept [] W W.drew := (Kept.refl [] W).drew
  have C0 : RW 23 W.drew q #[.int .i64 c.t, .int .i64 c.s, .int .i64 c.c, .int .i64 c.h, .int .i64 c.k, .int .i64 c.e, .int .i64 c.l] := HC.out
  have Q0 : PB W.drew q7 m := HQ.out
  have M0 : Mm W.drew m p r c cs cnt x := HM.out.new KU
  clear HC HQ HM
  generalize W.drew = U at KU C0 Q0 M0 hS ⊢
  refine wpAnyH_take (i := 0) (oi := { dst := some 8, op := Op.load 23 (Operand.tmp 0), type := 23, pos := "law.go:104", after := #[], guard := none }) (v := Value.agg #[.int .i64 c.t, .int .i64 c.s, .int .i64 c.c, .int .i64 c.h, .int .i64 c.k, .int .i64 c.e, .int .i64 c.l]) rfl (by kernel_rfl) (by kernel_rfl) (by kernel_rfl) (fun _ _ _ h => h) (yieldsIf_load_rw rfl 23 isT_cf (.tmp 0) rfl q rfl #[.int .i64 c.t, .int .i64 c.s, .int .i64 c.c, .int .i64 c.h, .int .i64 c.k, .int .i64 c.e, .int .i64 c.l] rfl (fun _ h => h.1)) hS ?_
  try simp only [Act.put, List.setIfInBounds_toArray, List.set_cons_zero, List.set_cons_succ]
  refine wpAnyH_take (i := 1) (oi := { dst := some 9, op := Op.load 28 (Operand.tmp 1), type := 28, pos := "law.go:104", after := #[], guard := none }) (v := Value.pointer (some ⟨m, 0, none⟩)) rfl (by kernel_rfl) (by kernel_rfl) (by kernel_rfl) (fun _ _ _ h => h) (Or.inl ⟨rfl, fun w hSw => by have z := cell_of_blk hSw.2 (i := 0) (v := .pointer (some ⟨m, 0, none⟩)) rfl; go_simp⟩) hS ?_
  try simp only [Act.put, List.setIfInBounds_toArray, List.set_cons_zero, List.set_cons_succ]
  refine wpAnyH_ready (rs := [2]) (by kernel_rfl) (by simp) ?_
  refine AllReadyH.cons (o := { dst := some 10, op := Op.call { callee := Callee.value (Operand.func 22), args := #[Operand.tmp 9], argTypes := #[28] }, type := 54, pos := "law.go:104", after := #[{ on := 1, ground := Ground.data }], guard := none }) rfl (fun K hK => ?_) AllReadyH.nil
  rw [if_pos (by rfl)]
  refine wp_calls 22 #[.pointer (some ⟨m, 0, none⟩)] (by kernel_rfl) (fun v V => v = .pointer (some ⟨p, 0, none⟩) ∧ V = U) ((bank_any m p r c cs cnt x U M0).mono fun e w' hh => ⟨_, hh.1, rfl, hh.2⟩) ?_
  rintro _ V2 ⟨rfl, hV⟩
  rw [hV]
  clear hV V2
  try simp only [Act.put, List.setIfInBounds_toArray, List.set_cons_zero, List.set_cons_succ]
  refine hK.out _ _ (⟨C0, Q0⟩) (fun hS => ?_)
  clear hK K
  refine wpAnyH_ready (rs := [3]) (by kernel_rfl) (by simp) ?_
  refine AllReadyH.cons (o := { dst := some 11, op := Op.call { callee := Callee.value (Operand.func 26), args := #[Operand.tmp 10], argTypes := #[54] }, type := 24, pos := "law.go:104", after := #[{ on := 2, ground := Ground.data }, { on := 2, ground := Ground.chain }], guard := none }) rfl (fun K hK => ?_) AllReadyH.nil
  rw [if_pos (by rfl)]
  refine wp_calls 26 #[.pointer (some ⟨p, 0, none⟩)] (by kernel_rfl) (fun v V => v = .slice (some ⟨U.heap.size, 0, none⟩) cs.length cs.length ∧ Row V U.heap.size cs ∧ Kept [] U V) ((cells_any p r cs cnt x U M0.bk).mono fun e w' hh => ⟨_, hh.1, rfl, hh.2.1, hh.2.2⟩) ?_
  rintro _ u3 ⟨rfl, R3, K3⟩
  have C3 := C0.kept K3 (by simp)
  have Q3 := Q0.kept K3 (by simp)
  try simp only [Act.put, List.setIfInBounds_toArray, List.set_cons_zero, List.set_cons_succ]
  refine hK.out _ _ (⟨C3, Q3⟩) (fun hS => ?_)
  clear hK K
  refine wpAnyH_ready (rs := [4]) (by kernel_rfl) (by simp) ?_
  refine AllReadyH.cons (o := { dst := some 12, op := Op.call { callee := Callee.value (Operand.func 25), args := #[Operand.tmp 8, Operand.tmp 11], argTypes := #[23, 24] }, type := 58, pos := "law.go:104", after := #[{ on := 0, ground := Ground.data }, { on := 3, ground := Ground.data }, { on := 3, ground := Ground.chain }], guard := none }) rfl (fun K hK => ?_) AllReadyH.nil
  rw [if_pos (by rfl)]
  refine wp_calls 25 #[.agg #[.int .i64 c.t, .int .i64 c.s, .int .i64 c.c, .int .i64 c.h, .int .i64 c.k, .int .i64 c.e, .int .i64 c.l], .slice (some ⟨U.heap.size, 0, none⟩) cs.length cs.length] (by kernel_rfl) (fun v V => ∃ o po ro, v = .tuple #[.pointer (some ⟨o, 0, none⟩), .int .i64 0] ∧ (u3.heap.size ≤ o ∧ u3.heap.size ≤ po ∧ u3.heap.size ≤ ro) ∧ Mm V o po ro c cs 0 Acc.zero ∧ Kept [] u3 V) ((mof_yes c _ cs cs.length cs.length u3 hri hlen rfl R3.sl).mono fun e w' ⟨o, po, ro, h1, h2, h3, h4⟩ => ⟨_, h1, o, po, ro, rfl, h2, h3, h4⟩) ?_
  rintro _ u4 ⟨o, po, ro, rfl, ⟨b1, b2, b3⟩, M4, K4⟩
  have C4 := C3.kept K4 (by simp)
  have Q4 := Q3.kept K4 (by simp)
  try simp only [Act.put, List.setIfInBounds_toArray, List.set_cons_zero, List.set_cons_succ]
  refine hK.out _ _ (⟨C4, Q4⟩) (fun hS => ?_)
  clear hK K
  refine wpAnyH_take (i := 5) (oi := { dst := some 7, op := Op.move (Operand.tmp 12), type := 58, pos := "law.go:104", after := #[{ on := 4, ground := Ground.data }], guard := none }) (v := Value.tuple #[.pointer (some ⟨o, 0, none⟩), .int .i64 0]) rfl (by kernel_rfl) (by kernel_rfl) (by kernel_rfl) (fun _ _ _ h => h) (Or.inl ⟨rfl, fun _ _ => by kernel_rfl⟩) hS ?_
  try simp only [Act.put, List.setIfInBounds_toArray, List.set_cons_zero, List.set_cons_succ]
  refine wpAnyH_take (i := 6) (oi := { dst := some 13, op := Op.extract (Operand.tmp 7) 0, type := 28, pos := "law.go:104", after := #[{ on := 5, ground := Ground.data }], guard := none }) (v := Value.pointer (some ⟨o, 0, none⟩)) rfl (by kernel_rfl) (by kernel_rfl) (by kernel_rfl) (fun _ _ _ h => h) (Or.inl ⟨rfl, fun _ _ => by kernel_rfl⟩) hS ?_
  try simp only [Act.put, List.setIfInBounds_toArray, List.set_cons_zero, List.set_cons_succ]
  refine wpAnyH_take (i := 7) (oi := { dst := some 14, op := Op.extract (Operand.tmp 7) 1, type := 57, pos := "law.go:104", after := #[{ on := 5, ground := Ground.data }, { on := 8, ground := Ground.gcOnly Departure.lateStores }], guard := none }) (v := Value.int .i64 0) rfl (by kernel_rfl) (by kernel_rfl) (by kernel_rfl) (fun _ _ _ h => h) (Or.inl ⟨rfl, fun _ _ => by kernel_rfl⟩) hS ?_
  try simp only [Act.put, List.setIfInBounds_toArray, List.set_cons_zero, List.set_cons_succ]
  refine wpAnyH_take (i := 8) (oi := { dst := some 4, op := Op.assign (Operand.tmp 13), type := 28, pos := "law.go:104", after := #[{ on := 6, ground := Ground.data }, { on := 4, ground := Ground.chain }, { on := 0, ground := Ground.phase }, { on := 1, ground := Ground.phase }, { on := 2, ground := Ground.phase }, { on := 3, ground := Ground.phase }, { on := 4, ground := Ground.phase }, { on := 5, ground := Ground.phase }, { on := 6, ground := Ground.phase }, { on := 7, ground := Ground.textOnly Departure.lateStores }], guard := none }) (v := Value.pointer (some ⟨o, 0, none⟩)) rfl (by kernel_rfl) (by kernel_rfl) (by kernel_rfl) (fun _ _ _ h => h) (Or.inl ⟨rfl, fun _ _ => by kernel_rfl⟩) hS ?_
  try simp only [Act.put, List.setIfInBounds_toArray, List.set_cons_zero, List.set_cons_succ]
  refine wpAnyH_take (i := 9) (oi := { dst := some 5, op := Op.assign (Operand.tmp 14), type := 57, pos := "law.go:104", after := #[{ on := 7, ground := Ground.data }, { on := 8, ground := Ground.chain }, { on := 0, ground := Ground.phase }, { on := 1, ground := Ground.phase }, { on := 2, ground := Ground.phase }, { on := 3, ground := Ground.phase }, { on := 4, ground := Ground.phase }, { on := 5, ground := Ground.phase }, { on := 6, ground := Ground.phase }, { on := 7, ground := Ground.phase }, { on := 8, ground := Ground.phase }], guard := none }) (v := Value.int .i64 0) rfl (by kernel_rfl) (by kernel_rfl) (by kernel_rfl) (fun _ _ _ h => h) (Or.inl ⟨rfl, fun _ _ => by kernel_rfl⟩) hS ?_
  try simp only [Act.put, List.setIfInBounds_toArray, List.set_cons_zero, List.set_cons_succ]
  refine wpAnyH_done (by kernel_rfl) ?_ _
  have sU := K3.size
  have sWU := KU.size
  have K5 : Kept [] W u4 := (KU.trans K3).trans K4
  have F0 := hidOf (And.intro M4 (And.intro C4 K5))
  clear hS M0 C0 Q0 C3 Q3 Q4 C4 M4 K3 K4 R3 KU
  obtain ⟨base, hbase⟩ : ∃ base, base = u4.heap.size := ⟨_, rfl⟩
  have lro : ro < base ∧ po < base ∧ o < base := by rw [hbase]; exact ⟨lt_of_blk F0.out.1.bk.row, lt_of_blk F0.out.1.bk.st, lt_of_blk F0.out.1.st⟩
  have bW : W.heap.size ≤ base := by rw [hbase]; exact F0.out.2.2.size
  have HB0 : Hid (base ≤ u4.heap.size) := by show _ ≤ _; omega
  clear hbase
  go_wp2
  go_loopw [3, 6] (fun v3 i wr => ∃ (v : Value) (j : Nat) (cnt : Int) (y : Acc), v = v3 ∧ (j : Int) ≤ c.c ∧ i = .int .i64 ((j : Int) + 1) ∧ 0 ≤ cnt ∧ cnt ≤ j ∧ OwnU wr base v (ml c cs j) ∧ Mm wr o po ro c cs cnt y ∧ RW 23 wr q #[.int .i64 c.t, .int .i64 c.s, .int .i64 c.c, .int .i64 c.h, .int .i64 c.k, .int .i64 c.e, .int .i64 c.l] ∧ Kept [] W wr ∧ Hid (base ≤ wr.heap.size)) (fun _ i _ => (c.c + 1 - intOf i).toNat)
  case atStart => exact ⟨_, 0, 0, Acc.zero, rfl, by omega, rfl, Int.le_refl _, Int.le_refl _, OwnU.nil _ _, F0.out.1, F0.out.2.1, F0.out.2.2, HB0.out⟩
  case round =>
    clear F0 HB0
    obtain ⟨v, j, cn, y, rfl, hj, rfl, c0, c1, O, M, CB, K, HB⟩ := hrel
    have HM := hidOf M
    have HO := hidOf O
    have q2 := cell_of_blk CB (i := 2) (v := .int .i64 c.c) rfl
    clear M O
    by_cases hlt : (j : Int) + 1 ≤ c.c
    · have MT := hidOf (mmeta_any o po ro c cs cn y ((j : Int) + 1) wr HM.out c0 (by omega))
      rw [clV_load] at MT
      have MT2 : Hid (Calls Tryd.prog 27 #[.pointer (some ⟨o, 0, none⟩), .int .i64 ((j : Int) + 1)] wr fun e w' => e = .returned (.int .u64 (wdK c cs ((j : Int) + 1))) ∧ Mm w' o po ro c cs (cn + 1) (acV cs 1 (clV' c ((j : Int) + 1) 0) 0 0 0) ∧ Kept [po, ro] wr w') := MT.out
      clear MT
      go_wp2_with fail
      refine MT2.out.mono ?_
      rintro e w4 ⟨rfl, M4, K4⟩
      have O4 := HO.out.kept K4 (fun g hg => by have := (World.ownsRow.lt HO.out g hg).1; simp; omega)
      obtain ⟨g5, cap5, w5, hap, O5, hg5, K5⟩ := append_word 24 w4 base w4.heap.size v (ml c cs j) (wdK c cs ((j : Int) + 1)) rfl O4 (by have := HB.out; have := K4.size; omega) (by rw [ml_len]; omega)
      rw [ml_len] at hap O5
      rw [← ml_next] at O5
      have own := fun x (hx : x ∈ v.ownBlock.toList) => World.ownsRow.lt O4 x (by simpa using hx)
      have M5 := M4.kept K5 (fun hx => by have := own _ hx; omega) (fun hx => by have := own _ hx; omega) (fun hx => by have := own _ hx; omega)
      have szq := CB.lt
      have CB5 := (CB.kept K4 (by simp; omega)).kept K5 (fun hx => by have := own _ hx; omega)
      have K6 : Kept [] W w5 := (K.then K4 (by simp; omega)).then K5 (fun x hx => Or.inr (by have := own x hx; omega))
      have HB5 : Hid (base ≤ w5.heap.size) := by show _ ≤ _; have := HB.out; have := K4.size; have := K5.size; omega
      have HF := hidOf (And.intro O5 (And.intro M5 (And.intro CB5 K6)))
      clear O5 M5 CB5 K6 O4 M4 K4 K5 own MT2 HM HO CB K hg5 HB
      go_wp2_with (at_builtin; refine wpList_append_run rfl (.tmp 25) (.tmp 29) 24 rfl rfl rfl hap ?_)
      go_roundw
      case rel => exact ⟨_, j + 1, _, _, rfl, by omega, by go_num, by omega, by omega, HF.out.1, HF.out.2.1, HF.out.2.2.1, HF.out.2.2.2, HB5.out⟩
      case measure => simp [intOf]; omega
    · have hje : (j : Int) = c.c := by omega
      have hjn : j = k := by omega
      subst hjn
      obtain ⟨g, cap, ev, gb, gl, SL⟩ := HO.out.row (by rw [ml_len]; omega)
      rw [ml_len] at ev
      subst ev
      have HF : Hid (WR wr g c cs j ∧ base ≤ g ∧ Kept [] W wr) := ⟨⟨gl, fun i hi => by rw [SL i (by rw [ml_len]; exact hi), ml_get c cs hi]⟩, gb, K⟩
      clear SL K HM HO gb gl
      go_wp2
      exact bodyPost_ret (v := .slice (some ⟨g, 0, none⟩) j cap) (by simp [results, Tryd.results24, go_sem]) rfl ⟨g, cap, rfl, HF.out.1, Nat.le_trans bW HF.out.2.1, HF.out.2.2⟩
end K
end Go.Proofs.YtmmpafhfanldbaaDoor
