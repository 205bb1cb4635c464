/-
  Ops one behind the other, each with what the map tells: the mathematics.
-/
import Derived.Test.YtlmkcakmeldfeaaHDurM
import Derived.Test.YtlmkcakmeldfeaaQLaws
namespace Go.Proofs.Ytlmkcakmeldfeaa.Q
open Go.RowKit
/-- The map behind the first j ops. -/
def mT (ops : List OpQ) (j : Nat) : List Pr := (ops.take j).foldl doM []
def opZ : OpQ := ⟨0, 0, 0, 0, 0⟩
theorem mT_succ {ops : List OpQ} {j : Nat} (h : j < ops.length) : mT ops (j + 1) = doM (mT ops j) (ops.getD j opZ) := by
  unfold mT
  rw [take_next h opZ, List.foldl_append]; rfl
/-- Event j of such. -/
structure TrE (ops : List OpQ) (j : Nat) (e : Ev) : Prop where
  op : e.op = ops.getD j opZ
  bg : e.bg = 3 * (j : Int) + 1
  at_ : e.at_ = 3 * (j : Int) + 2
  en : e.en = 3 * (j : Int) + 3
  dn : e.dn = true
  fu : e.fu = false
  ha : e.ha = doH (mT ops j) (ops.getD j opZ)
  go : e.go = doG (mT ops j) (ops.getD j opZ)
  ks : e.ks = doK (mT ops j) (ops.getD j opZ)
def Trn (ops : List OpQ) (es : List Ev) : Prop := es.length ≤ ops.length ∧ ∀ j, j < es.length → TrE ops j (evAt es j)
def nrB (es : List Ev) (i : Nat) : Bool := !(irB (evAt es i))
theorem TrE.hp {ops : List OpQ} {j : Nat} {e : Ev} (h : TrE ops j e) : hpB e = !irB e := by
  unfold hpB fuB; rw [h.at_, h.fu, decide_eq_true (by omega)]; simp
theorem trn_ord {ops : List OpQ} {es : List Ev} (h : Trn ops es) : ordOf es = (List.range es.length).filter (nrB es) := by
  symm
  refine IsOrd.eq ⟨fun i => ?_, ?_⟩
  · rw [List.mem_filter, List.mem_range]
    constructor
    · rintro ⟨h1, h2⟩; exact ⟨h1, by rw [(h.2 i h1).hp]; exact h2⟩
    · rintro ⟨h1, h2⟩; exact ⟨h1, by rw [(h.2 i h1).hp] at h2; exact h2⟩
  · refine List.Pairwise.imp_of_mem ?_ (List.Pairwise.filter (nrB es) (List.pairwise_lt_range (n := es.length)))
    intro a b ha hb hab
    have a1 := (List.mem_range.1 (List.mem_filter.1 ha).1)
    have b1 := (List.mem_range.1 (List.mem_filter.1 hb).1)
    left
    rw [(h.2 a a1).at_, (h.2 b b1).at_]; omega
theorem doM_range {m : List Pr} {o : OpQ} (h : o.d = 5) : doM m o = m := by unfold doM; rw [if_neg (by omega), if_neg (by omega)]
theorem range_cons (a d : Nat) : List.range' a (d + 1) = a :: List.range' (a + 1) d := by rw [List.range'_succ]
theorem fold_trn {ops : List OpQ} {es : List Ev} (h : Trn ops es) : ∀ (d a : Nat), a + d ≤ es.length → ((List.range' a d).filter (nrB es)).foldl (fun m i => doM m (evAt es i).op) (mT ops a) = mT ops (a + d)
  | 0, a, _ => rfl
  | d + 1, a, ha => by
    have t := h.2 a (by omega)
    have hs := mT_succ (ops := ops) (j := a) (by have := h.1; omega)
    have ih := fold_trn h d (a + 1) (by omega)
    rw [range_cons, show a + (d + 1) = a + 1 + d by omega, ← ih]
    by_cases q : nrB es a = true
    · rw [List.filter_cons_of_pos q, List.foldl_cons, t.op, ← hs]
    · rw [List.filter_cons_of_neg q, hs, doM_range]
      unfold nrB irB at q
      rw [t.op] at q
      simpa using q
theorem td_trn {ops : List OpQ} {j : Nat} {e : Ev} (h : TrE ops j e) : tdB e (mT ops j) = true := by
  unfold tdB
  rw [h.fu, h.ha, h.go, h.ks, h.op]
  exact smB_self _ _ _ _
theorem ex_trn {ops : List OpQ} {es : List Ev} (h : Trn ops es) : ∀ (d a : Nat) (la : Int), a + d ≤ es.length → la < 3 * (a : Int) + 2 → exB es ((List.range' a d).filter (nrB es)) la (mT ops a) = true
  | 0, _, _, _, _ => rfl
  | d + 1, a, la, ha, hla => by
    have t := h.2 a (by omega)
    have hs := mT_succ (ops := ops) (j := a) (by have := h.1; omega)
    rw [range_cons]
    by_cases q : nrB es a = true
    · rw [List.filter_cons_of_pos q]
      unfold exB
      rw [if_neg (by rw [t.at_]; omega), td_trn t]
      rw [if_neg (by simp), t.op, ← hs]
      exact ex_trn h d (a + 1) _ (by omega) (by rw [t.at_]; omega)
    · rw [List.filter_cons_of_neg q]
      have e : mT ops (a + 1) = mT ops a := by
        rw [hs, doM_range]
        unfold nrB irB at q
        rw [t.op] at q
        simpa using q
      rw [← e]
      exact ex_trn h d (a + 1) la (by omega) (by omega)
theorem as_trn {ops : List OpQ} {j : Nat} {e : Ev} (h : TrE ops j e) : asB e = false := by
  unfold asB
  rw [h.hp, show fuB e = false by unfold fuB; rw [h.fu]; simp]
  cases irB e
  · simp [h.at_, h.bg, h.en, h.dn] <;> omega
  · rfl
theorem any_no' {es : List Ev} (h : ∀ k, k < es.length → asB (evAt es k) = false) : es.any asB = false := by
  rw [List.any_eq_false]
  intro x hx
  obtain ⟨i, hi, e⟩ := List.mem_iff_getElem.1 hx
  have := h i hi
  rw [show evAt es i = x by unfold evAt; rw [← e]; simp [hi]] at this
  simp [this]
theorem lg_trn {ops : List OpQ} {es : List Ev} (h : Trn ops es) : lgB es = true := by
  unfold lgB
  rw [any_no' (fun k hk => as_trn (h.2 k hk)), trn_ord h, List.range_eq_range']
  have := ex_trn h es.length 0 0 (by omega) (by omega)
  simpa [mT] using this
theorem map_end {ops : List OpQ} {es : List Ev} (h : Trn ops es) (hl : es.length = ops.length) : mpA es (3 * (ops.length : Int)) = mT ops ops.length := by
  unfold mpA mpF
  rw [List.filter_eq_self.2 (fun i hi => by
    have := (h.2 i (ord_lt hi)).at_
    have := ord_lt hi
    unfold leB; simp; omega), trn_ord h, List.range_eq_range']
  have := fold_trn h es.length 0 (by omega)
  rw [Nat.zero_add, hl] at this
  rw [hl]
  simpa [mT] using this
theorem map_at {ops : List OpQ} {es : List Ev} (h : Trn ops es) {j : Nat} (hj : j < es.length) (hr : irB (evAt es j) = true) {t : Int} (h1 : 3 * (j : Int) + 1 ≤ t) (h2 : t ≤ 3 * (j : Int) + 3) : mpA es t = mT ops j := by
  unfold mpA mpF
  have e : (ordOf es).filter (leB es t) = (List.range j).filter (nrB es) := by
    rw [trn_ord h, List.filter_filter]
    have : List.range es.length = List.range j ++ List.range' j (es.length - j) := by
      rw [List.range_eq_range', List.range_eq_range']
      have := @List.range'_append 0 j (es.length - j) 1
      rw [show 0 + 1 * j = j by omega, show j + (es.length - j) = es.length by omega] at this
      exact this.symm
    rw [this, List.filter_append]
    have a1 : (List.range j).filter (fun i => leB es t i && nrB es i) = (List.range j).filter (nrB es) := List.filter_congr (fun i hi => by
      have hij := List.mem_range.1 hi
      have := (h.2 i (by omega)).at_
      have q : leB es t i = true := by unfold leB; simp; omega
      rw [q]; rfl)
    have a2 : (List.range' j (es.length - j)).filter (fun i => leB es t i && nrB es i) = [] := by
      rw [List.filter_eq_nil_iff]
      intro i hi
      rw [List.mem_range'_1] at hi
      by_cases q : i = j
      · subst q; unfold nrB; rw [hr]; simp
      · have := (h.2 i (by omega)).at_
        have q : leB es t i = false := by unfold leB; simp; omega
        rw [q]; simp
    rw [a1, a2, List.append_nil]
  rw [e, List.range_eq_range']
  have := fold_trn h j 0 (by omega)
  rw [Nat.zero_add] at this
  simpa [mT] using this
/-- All keys of a range. -/
def rgA (m : List Pr) (a b : Int) : List Int := ((nbl m a).filter (fun p => decide (p.k ≤ b))).map Pr.k
theorem rgA_asc {m : List Pr} (h : Str m) (a b : Int) : (rgA m a b).Pairwise (· < ·) := by
  unfold rgA
  rw [List.pairwise_map]
  exact (h.filter _).filter _
theorem mem_rgA {m : List Pr} {a b k : Int} : k ∈ rgA m a b ↔ (∃ p ∈ m, p.k = k) ∧ a ≤ k ∧ k ≤ b := by
  unfold rgA nbl
  simp only [List.mem_map, List.mem_filter, decide_eq_true_eq]
  constructor
  · rintro ⟨p, ⟨⟨h1, h2⟩, h3⟩, rfl⟩; exact ⟨⟨p, h1, rfl⟩, h2, h3⟩
  · rintro ⟨⟨p, h1, rfl⟩, h2, h3⟩; exact ⟨p, ⟨⟨h1, h2⟩, h3⟩, rfl⟩
theorem gtH_mem {m : List Pr} {k : Int} : gtH m k = true ↔ ∃ p ∈ m, p.k = k := by
  unfold gtH
  constructor
  · intro h
    cases hf : fd m k with
    | none => rw [hf] at h; cases h
    | some p => exact ⟨p, fd_some hf⟩
  · rintro ⟨p, hp, rfl⟩
    cases hf : fd m p.k with
    | none => unfold fd at hf; rw [List.find?_eq_none] at hf; exact absurd (hf p hp) (by simp)
    | some q => rfl
/-- A Range that told what the map tells. -/
theorem rg_one {es : List Ev} {e : Ev} {m : List Pr} (hs : Str m) (hk : e.ks = rgK m e.op.k e.op.v e.op.n) (hb : e.bg ≤ e.en) (hm : ∀ t, e.bg ≤ t → t ≤ e.en → mpA es t = m) : rgE es e = true := by
  have hA : e.ks = (rgA m e.op.k e.op.v).take e.op.n.toNat := hk
  have asc := rgA_asc hs e.op.k e.op.v
  have asc2 : e.ks.Pairwise (· < ·) := by rw [hA]; exact asc.sublist (List.take_sublist _ _)
  have mem1 : ∀ k ∈ e.ks, (∃ p ∈ m, p.k = k) ∧ e.op.k ≤ k ∧ k ≤ e.op.v := fun k hk' => by rw [hA] at hk'; exact mem_rgA.1 (List.mem_of_mem_take hk')
  have gd : ∀ j, j < e.ks.length → e.ks.getD j 0 ∈ e.ks := fun j hj => by simp [hj]
  have len : e.ks.length ≤ e.op.n.toNat := by rw [hA, List.length_take]; omega
  refine rgE_yes (by omega) ?_ (fun j hj => ?_) (fun i _ h2 => ?_)
  · refine kf_yes (by omega) (fun i hi => ?_)
    unfold okI
    obtain ⟨_, q1, q2⟩ := mem1 _ (gd i hi)
    rw [decide_eq_false (by omega), decide_eq_false (by omega)]
    by_cases q : 0 < i
    · have := (List.pairwise_iff_getElem.1 asc2) (i - 1) i (by omega) hi (by omega)
      rw [decide_eq_false (p := e.ks.getD i 0 ≤ e.ks.getD (i - 1) 0) (by rw [show e.ks.getD i 0 = e.ks[i] by simp [hi], show e.ks.getD (i - 1) 0 = e.ks[i - 1] by simp [show i - 1 < e.ks.length by omega]]; omega)]
      simp
    · rw [decide_eq_false q]; rfl
  · rw [dk_some hb]
    refine ⟨e.bg, by omega, hb, ?_⟩
    unfold hasT
    rw [hm e.bg (by omega) hb, gtH_mem]
    exact (mem1 _ (gd j hj)).1
  · generalize (evAt es i).op.k = k at h2 ⊢
    rw [dk_each hb] at h2
    have h3 := h2 e.bg (by omega) hb
    unfold hasT at h3
    rw [hm e.bg (by omega) hb, gtH_mem] at h3
    unfold loB
    by_cases q1 : k ∈ e.ks
    · rw [decide_eq_true q1]; rfl
    · by_cases q2 : k < e.op.k
      · rw [decide_eq_true q2]; simp
      · by_cases q3 : e.op.v < k
        · rw [decide_eq_true q3]; simp
        · by_cases q4 : e.op.n < 1
          · rw [decide_eq_true q4]; simp
          · have inA : k ∈ rgA m e.op.k e.op.v := mem_rgA.2 ⟨h3, by omega, by omega⟩
            obtain ⟨x, hx, ex⟩ := List.mem_iff_getElem.1 inA
            have hxn : ¬ x < e.op.n.toNat := fun q => q1 (by
              rw [hA]
              exact List.mem_iff_getElem.2 ⟨x, by rw [List.length_take]; omega, by rw [List.getElem_take]; exact ex⟩)
            have hlen : e.ks.length = e.op.n.toNat := by rw [hA, List.length_take]; omega
            have hlast : e.ks.getD (e.ks.length - 1) 0 < k := by
              obtain ⟨q, hq⟩ : ∃ q, q = e.ks.length - 1 := ⟨_, rfl⟩
              have hl1 : q < e.ks.length := by omega
              rw [← hq, show e.ks.getD q 0 = e.ks[q] by simp [hl1]]
              have e3 : e.ks[q]? = (rgA m e.op.k e.op.v)[q]? := by rw [hA, List.getElem?_take, if_pos (by omega)]
              rw [List.getElem?_eq_getElem hl1, List.getElem?_eq_getElem (by omega)] at e3
              have e4 := Option.some.inj e3
              have e5 := (List.pairwise_iff_getElem.1 asc) q x (by omega) hx (by omega)
              omega
            rw [decide_eq_false (p := (e.ks.length : Int) < e.op.n) (by omega), decide_eq_false (p := k < e.ks.getD (e.ks.length - 1) 0) (by omega)]
            simp
theorem mT_str {ops : List OpQ} (j : Nat) : Str (mT ops j) := by
  unfold mT
  have : ∀ (l : List OpQ) (m : List Pr), Str m → Str (l.foldl doM m) := by
    intro l
    induction l with
    | nil => intro m h; exact h
    | cons o l ih => intro m h; exact ih _ (doM_str h o)
  exact this _ _ str_nil
theorem rg_trn {ops : List OpQ} {es : List Ev} (h : Trn ops es) : rgB es = true := by
  refine rg_yes rfl (fun j hj => ?_)
  have t := h.2 j hj
  unfold rgO
  cases hr : irB (evAt es j)
  · rfl
  · have hd : (ops.getD j opZ).d = 5 := by unfold irB at hr; rw [t.op] at hr; simpa using hr
    rw [rg_one (m := mT ops j) (mT_str j) (by rw [t.ks, t.op]; unfold doK; rw [if_pos hd]) (by rw [t.bg, t.en]; omega) (fun q h1 h2 => map_at h hj hr (by rw [t.bg] at h1; exact h1) (by rw [t.en] at h2; exact h2))]
    simp
/-- Told otherwise. -/
theorem lg_other {ops : List OpQ} {es : List Ev} {j : Nat} {x : Ev} (h : Trn ops es) (hj : j < es.length) (hr : irB (evAt es j) = false) (hop : x.op = (evAt es j).op) (hat : x.at_ = (evAt es j).at_) (hdn : x.dn = true) (hfu : x.fu = false) (hgo : x.go ≠ (evAt es j).go) : lgB (es.set j x) = false := by
  have el : (es.set j x).length = es.length := List.length_set
  have ej : evAt (es.set j x) j = x := by unfold evAt; simp [hj]
  have eo : ∀ i, i ≠ j → evAt (es.set j x) i = evAt es i := fun i hi => by unfold evAt; simp [Ne.symm hi]
  have hatj : ∀ i, (evAt (es.set j x) i).at_ = (evAt es i).at_ := fun i => by
    by_cases q : i = j
    · subst q; rw [ej, hat]
    · rw [eo i q]
  have hhp : ∀ i, i < es.length → hpB (evAt (es.set j x) i) = hpB (evAt es i) := fun i hi => by
    by_cases q : i = j
    · subst q
      rw [ej]
      unfold hpB irB fuB
      rw [hat, hop, hfu, (h.2 i hi).fu]; simp
    · rw [eo i q]
  have ord : ordOf (es.set j x) = ordOf es := by
    symm
    refine IsOrd.eq ⟨fun i => ?_, ?_⟩
    · rw [(ordOf_is es).mem, el]
      constructor
      · rintro ⟨h1, h2⟩; exact ⟨h1, by rw [hhp i h1]; exact h2⟩
      · rintro ⟨h1, h2⟩; exact ⟨h1, by rw [hhp i h1] at h2; exact h2⟩
    · refine (ordOf_is es).pw.imp (fun {a b} hab => ?_)
      unfold ahd at hab ⊢
      rw [hatj, hatj]; exact hab
  have ex : ∀ (d a : Nat) (la : Int), a ≤ j → a + d = es.length → la < 3 * (a : Int) + 2 → exB (es.set j x) ((List.range' a d).filter (nrB es)) la (mT ops a) = false := by
    intro d
    induction d with
    | zero => intro a la h1 h2 _; omega
    | succ d ih =>
      intro a la h1 h2 hla
      have t := h.2 a (by omega)
      have hs := mT_succ (ops := ops) (j := a) (by have := h.1; omega)
      rw [range_cons]
      by_cases q : a = j
      · subst q
        rw [List.filter_cons_of_pos (by unfold nrB; rw [hr]; rfl)]
        unfold exB
        rw [ej, hat, t.at_, if_neg (by omega)]
        have td : tdB x (mT ops a) = false := by
          unfold tdB smB
          rw [hop, t.op]
          have : (x.go == doG (mT ops a) (ops.getD a opZ)) = false := by rw [← t.go]; simpa using hgo
          rw [this]; simp
        rw [td, hdn]; rfl
      · by_cases p : nrB es a = true
        · rw [List.filter_cons_of_pos p]
          unfold exB
          rw [eo a q, if_neg (by rw [t.at_]; omega), td_trn t, if_neg (by simp), t.op, ← hs]
          exact ih (a + 1) _ (by omega) (by omega) (by rw [t.at_]; omega)
        · rw [List.filter_cons_of_neg p]
          have e : mT ops (a + 1) = mT ops a := by
            rw [hs, doM_range]
            unfold nrB irB at p
            rw [t.op] at p
            simpa using p
          rw [← e]
          exact ih (a + 1) la (by omega) (by omega) (by omega)
  unfold lgB
  rw [ord, trn_ord h, List.range_eq_range']
  have := ex es.length 0 0 (by omega) (by omega) (by omega)
  rw [show exB (es.set j x) ((List.range' 0 es.length).filter (nrB es)) 0 [] = false by simpa [mT] using this]
  simp
end Go.Proofs.Ytlmkcakmeldfeaa.Q
