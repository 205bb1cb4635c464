/-
  Events that did not happen, and are not done, are of no account: the mathematics; a row of events laid anew.
-/
import Derived.Test.YtlmkcakmeldfeaaHAlive
import Derived.Test.YtlmkcakmeldfeaaHArgs
namespace Go.Proofs.Ytlmkcakmeldfeaa.Q
set_option maxRecDepth 100000
open Go.ChangeShapes Go.WideShapes Go.ChangeAt Go.RowKit
open Go.Deep
/-- As if it went on, and had not happened. -/
def pend (e : Ev) : Ev := ⟨e.th, e.op, e.bg, min e.at_ 0, e.en, false, e.fu, e.ha, e.go, e.ka, e.kc, e.ks⟩
theorem pend_hp (e : Ev) : hpB (pend e) = false := by unfold hpB pend; simp; intro h; omega
theorem pend_as (e : Ev) : asB (pend e) = false := by
  unfold asB
  rw [pend_hp, show fuB (pend e) = false from rfl]
  cases irB (pend e) <;> rfl
theorem evAt_left {es ms : List Ev} {i : Nat} (h : i < es.length) : evAt (es ++ ms) i = evAt es i := by
  unfold evAt; simp [List.getElem?_append_left h]
theorem evAt_right {es ms : List Ev} {i : Nat} (h : ¬ i < es.length) (h2 : i < (es ++ ms).length) : evAt (es ++ ms) i ∈ ms := by
  unfold evAt
  rw [List.length_append] at h2
  rw [List.getD_eq_getElem?_getD, List.getElem?_append_right (by omega), List.getElem?_eq_getElem (by omega)]
  simp
theorem ord_app {es ms : List Ev} (h : ∀ m ∈ ms, hpB m = false) : ordOf (es ++ ms) = ordOf es := by
  symm
  refine IsOrd.eq ⟨fun i => ?_, ?_⟩
  · rw [(ordOf_is es).mem]
    constructor
    · rintro ⟨h1, h2⟩
      exact ⟨by rw [List.length_append]; omega, by rw [evAt_left h1]; exact h2⟩
    · rintro ⟨h1, h2⟩
      by_cases q : i < es.length
      · rw [evAt_left q] at h2; exact ⟨q, h2⟩
      · rw [h _ (evAt_right q h1)] at h2; cases h2
  · refine List.Pairwise.imp_of_mem ?_ (ordOf_is es).pw
    intro a b ha hb hab
    unfold ahd at hab ⊢
    rw [evAt_left (ord_lt ha), evAt_left (ord_lt hb)]; exact hab
theorem exB_congr {es fs : List Ev} : ∀ {l : List Nat} {la : Int} {m : List Pr}, (∀ i ∈ l, evAt es i = evAt fs i) → exB es l la m = exB fs l la m
  | [], _, _, _ => rfl
  | i :: l, la, m, h => by
    unfold exB
    rw [h i (by simp), exB_congr (l := l) (fun j hj => h j (List.mem_cons_of_mem _ hj))]
theorem lg_app {es ms : List Ev} (h : ∀ m ∈ ms, hpB m = false ∧ asB m = false) : lgB (es ++ ms) = lgB es := by
  unfold lgB
  rw [ord_app (fun m hm => (h m hm).1), List.any_append, show ms.any asB = false from by rw [List.any_eq_false]; intro m hm; rw [(h m hm).2]; simp, Bool.or_false,
    exB_congr (es := es ++ ms) (fs := es) (fun i hi => evAt_left (ord_lt hi))]
theorem lf_congr {es fs : List Ev} {l : List Nat} (h : ∀ i ∈ l, evAt es i = evAt fs i) (k : Int) : lfF es l k = lfF fs l k := by
  unfold lfF
  rw [List.filter_congr (q := pdB fs k) (fun i hi => by unfold pdB; rw [h i hi])]
  apply List.map_congr_left
  intro i hi
  rw [h i (List.mem_filter.1 hi).1]
theorem rg_app {es ms : List Ev} (h : ∀ m ∈ ms, hpB m = false ∧ m.dn = false) : rgB (es ++ ms) = rgB es := by
  unfold rgB
  rw [List.all_append]
  have h1 : ms.all (rgO (es ++ ms)) = true := List.all_eq_true.2 (fun m hm => by unfold rgO; rw [(h m hm).2]; simp)
  have h2 : ∀ e, rgO (es ++ ms) e = rgO es e := fun e => by
    unfold rgO rgE
    have hd : ∀ k, dk (es ++ ms) e k = dk es e k := fun k => by
      unfold dk
      rw [ord_app (fun m hm => (h m hm).1), lf_congr (es := es ++ ms) (fs := es) (fun i hi => evAt_left (ord_lt hi))]
    simp only [hd]
    rw [ord_app (fun m hm => (h m hm).1)]
    congr 4
    rw [Bool.eq_iff_iff, List.all_eq_true, List.all_eq_true]
    constructor
    · intro q i hi; have := q i hi; rwa [evAt_left (ord_lt hi)] at this
    · intro q i hi; have := q i hi; rwa [evAt_left (ord_lt hi)]
  rw [h1, Bool.and_true]
  rw [Bool.eq_iff_iff, List.all_eq_true, List.all_eq_true]
  constructor
  · intro q e he; have := q e he; rwa [h2] at this
  · intro q e he; have := q e he; rwa [h2]
theorem info_rev : (Try.prog.info? 48).map (fun i => (i.zero, i.size, i.bytes)) = some (some (.agg #[.int .i64 0, .int .i64 0, .int .u64 0, .int .u64 0, .int .i64 0, .int .i64 0, .int .i64 0, .int .i64 0, .int .i64 0, .bool false, .bool false, .bool false, .int .u64 0, .slice none 0 0]), 14, 120) := by kernel_rfl
theorem append_rev (ty : TypeId) (w : World) (base H : Nat) (v : Value) (xs : List Ev) (x : Ev) (hH : w.heap.size = H) (hR : OwnV 14 evL w base 48 v xs) (hb : base ≤ w.heap.size) (hm : xs.length ≤ 100000) :
    ∃ g cap w1, (Builtin.append_ #[22, 22] ty #[v, .slice (some ⟨H, 0, none⟩) 1 1]).run Try.prog (w.alloc (.cells (evA x) 48)) = .ok (.slice (some ⟨g, 0, none⟩) (xs.length + 1) cap) w1 ∧
      OwnV 14 evL w1 base 48 (.slice (some ⟨g, 0, none⟩) (xs.length + 1) cap) (xs ++ [x]) ∧ (v.ownBlock = some g ∨ w.heap.size ≤ g) ∧ Kept v.ownBlock.toList w w1 :=
  append_v evL_len evL_one (by decide) ty Try.underlying22 info_rev rfl (by decide) w base H v xs x _ rfl hH hR hb hm
/-- 'append([]Event{}, l...)'. -/
theorem append_all (ty : TypeId) (w : World) (ao : Option Addr) (es : List Ev) (n cap : Nat) (hn : n = es.length) (hs : SlV w ao es) (hc : ao = none → cap = 0) (hl : n ≤ 1000) :
    ∃ u w1, (Builtin.append_ #[22, 22] ty #[.slice (some ⟨w.heap.size, 0, none⟩) 0 0, .slice ao n cap]).run Try.prog (w.alloc (.cells #[] 48)) = .ok u w1 ∧ OwnV 14 evL w1 w.heap.size 48 u es ∧ Kept [] w w1 := by
  subst hn
  obtain ⟨i, hi, hz0, hz1, hz2⟩ := info_parts' info_rev
  have hown : (w.alloc (.cells #[] 48)).ownsRow w.heap.size 48 14 (.slice (some ⟨w.heap.size, 0, none⟩) 0 0) 0 [] := World.ownsRow_made w #[] 0 (Nat.le_refl _) (by decide) rfl
  have hs' := hs.new ((Kept.refl [] w).alloc (.cells #[] 48))
  cases ao with
  | none =>
    have hx : es = [] := by
      cases es with
      | nil => rfl
      | cons a r => obtain ⟨_, _, h, _⟩ := hs (by simp); cases h
    subst hx
    obtain rfl := hc rfl
    have hrun := run_append_owned_none (P := Try.prog) (w := w.alloc (.cells #[] 48)) w.heap.size 22 ty 48 i 14 Try.underlying22 hi _ 0 [] hown
    exact ⟨_, _, hrun, hown, (Kept.refl _ _).alloc _⟩
  | some ad =>
    have hcells : ∀ j v, (es.flatMap evL)[j]? = some v → (w.alloc (.cells #[] 48)).cell? (ad.add j) = some v := by
      intro j v hv
      have hj : j < es.length * 14 := by rw [← fm_len evL_len]; exact (List.getElem?_eq_some_iff.1 hv).1
      obtain ⟨b, off, e, _, hcc⟩ := hs' (by omega)
      cases e
      have hi : j / 14 < es.length := by omega
      rw [add_plain]
      have e : j = j / 14 * 14 + j % 14 := by omega
      have hlt : j % 14 < (evL es[j / 14]).length := by rw [evL_len]; omega
      have q := fm_get evL_len es (j / 14) hi (j % 14) _ (List.getElem?_eq_getElem hlt)
      rw [← e, hv] at q
      have := hcc (j / 14) hi (j % 14) v (by rw [List.getElem?_eq_getElem hlt]; exact q.symm)
      rwa [Nat.add_assoc, ← e] at this
    obtain ⟨v', w1, hrun, hown', hg, _⟩ := run_append_own (P := Try.prog) (w.alloc (.cells #[] 48)) w.heap.size 22 ty 48 i _ 14 120 Try.underlying22 hi hz0 hz1 hz2 rfl (by decide) _ 0 [] hown ad es.length cap (es.flatMap evL) (by rw [fm_len evL_len]) hcells (by intro u hu; obtain ⟨e, _, he⟩ := List.mem_flatMap.1 hu; exact evL_one e u he) (by unfold maxLen; omega) (by omega) (by rw [nblk_alloc]; omega)
    refine ⟨v', w1, hrun, own_v (by simp) (by simp) hown', ?_⟩
    exact ((Kept.refl [] w).alloc (.cells #[] 48)).then (m := [w.heap.size]) ⟨hg.os, hg.tape, hg.output, hg.size, fun k hk hn => hg.block k hk (fun e => hn (by simp [Value.ownBlock] at e; simp [e]))⟩ (by simp)
end Go.Proofs.Ytlmkcakmeldfeaa.Q
