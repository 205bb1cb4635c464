/-
  Nodes of which one is deleted on all its levels, and has so many owners: the words; a copy of the nodes in a row of its own.
  What the laws of retire share: what holds at each step of one that goes on to its end; entries, compared and loaded; two retires over the same words.
  The law's own world of nodes, of which one is deleted on all its levels, and has so many owners.
  Two owners of a node, one behind the other: the last one retires it.
-/
import Derived.Test.YtgafmklfpiipcaaGreatDoorRZRet
import Derived.Test.YtgafmklfpiipcaaGreatDoorRZLay
import Derived.Test.YtgafmklfpiipcaaGreatDoorGOwn
import Derived.Test.YtgafmklfpiipcaaGreatDoorHWords2
import Derived.Test.YtgafmklfpiipcaaGreatDoorMNew
import Derived.Deep.RegionHeld3
namespace Go.Proofs.YtgafmklfpiipcaaGreatDoor
open Go.RowKit (Grown Hid Below)
open Go.Deep
namespace K
set_option maxRecDepth 100000
theorem getD_put {α : Type} (l : List α) (k i : Nat) (x d : α) (hk : k < l.length) : (l.set k x).getD i d = if i = k then x else l.getD i d := by
  rw [List.getD_eq_getElem?_getD, List.getD_eq_getElem?_getD, List.getElem?_set]
  by_cases h : k = i
  · subst h; simp [hk]
  · rw [if_neg h, if_neg (fun e => h e.symm)]
/-- Deleted on all its levels. -/
def del1 (x : Nn) : Nn := { x with m := x.t, d := true }
def delN (ns : List Nn) (k : Nat) : List Nn := ns.set k (del1 (ns.getD k nn0))
theorem delN_len (ns : List Nn) (k : Nat) : (delN ns k).length = ns.length := by simp [delN]
theorem delN_get {ns : List Nn} {k : Nat} (hk : k < ns.length) (i : Nat) : (delN ns k).getD i nn0 = if i = k then del1 (ns.getD k nn0) else ns.getD i nn0 := getD_put _ _ _ _ _ hk
theorem del_b {c : Cfg} {x : Nn} (h : nnB c x) : nnB c (del1 x) := by
  obtain ⟨a, b, d, e, f, g⟩ := h
  exact ⟨a, b, by show 0 ≤ x.t; omega, by show x.t ≤ x.t; omega, fun _ => rfl, g⟩
theorem RightN.del {c : Cfg} {ns : List Nn} {k : Nat} (h : RightN c ns) (hk : k < ns.length) : RightN c (delN ns k) := by
  refine ⟨h.r, by rw [delN_len]; exact h.n, fun i hi => ?_, fun i hi => ?_⟩
  · rw [delN_len] at hi
    rw [delN_get hk]
    split
    · exact del_b (h.b k hk)
    · exact h.b i hi
  · rw [delN_len] at hi
    have z := h.up i hi
    have e : ∀ j, ((delN ns k).getD j nn0).k = (ns.getD j nn0).k := fun j => by
      rw [delN_get hk]; split
      · rename_i q; rw [q]; rfl
      · rfl
    rw [e, e]; exact z
theorem wf_del {ns : List Nn} {k : Nat} (hw : ∀ x ∈ ns, x.wf) (hk : k < ns.length) : ∀ x ∈ delN ns k, x.wf := by
  intro x hx
  rcases List.mem_or_eq_of_mem_set hx with hx | rfl
  · exact hw x hx
  · have e : ns.getD k nn0 = ns[k] := by simp [hk]
    have z : (ns.getD k nn0).wf := by rw [e]; exact hw _ (List.getElem_mem _)
    exact z
/-- A node is born in the first era. -/
theorem lay_birth {c : Cfg} {ns : List Nn} (h : RightN c ns) {i : Nat} (i1 : 1 ≤ i) (hi : i ≤ ns.length) : ∀ j, j ≤ ns.length → i ≤ j → fd c (lyAll c ns j) i (3 : Nat) = 1
  | 0, _, h0 => by omega
  | j + 1, hj, hij => by
    have hn := h.n
    have hz : ((j + 1 : Nat) : Int) ≤ c.c := by omega
    have htj : (ndOf c ns).tl (j + 1) ≤ HN c := h.ok.tl (j + 1) hj
    have ihl : ((lyAll c ns j).length : Int) = lnV c := by rw [lyAll_len, lnN_eq]
    have l6 : ((lySix c (ns.getD j nn0) (j + 1) (lyAll c ns j)).length : Int) = lnV c := by rw [lySix_len]; exact ihl
    show fd c (lyLv c (ndOf c ns) (j + 1) (lySix c (ns.getD j nn0) (j + 1) (lyAll c ns j)) ((ndOf c ns).tl (j + 1))) i (3 : Nat) = 1
    rw [lyLv_fd h.r l6 hz _ htj, lySix_fd h.r ihl hz, if_neg (by omega)]
    by_cases e : i = j + 1
    · rw [if_pos (by omega), if_neg (by omega), if_neg (by omega), if_neg (by omega), if_pos rfl]
    · rw [if_neg (by omega)]; exact lay_birth h i1 hi j (by omega) (by omega)
/-- A word is stored: the same as it is written. -/
theorem st_stW {c : Cfg} {cs : List Int} (hl : (cs.length : Int) = lnV c) {i f : Int} (h : inF c i f) (v : Int) : clV cs 2 (clV' c i f) 0 v = stW c cs i f v := by
  have hx := cl_has hl h
  unfold Go.Proofs.YtgafmklfpiipcaaGreatDoor.clV stW
  rw [if_pos hx]; simp [bhV]
/-- The words of a world in which a node is deleted on all its levels, and has so many owners. -/
structure LdR (c : Cfg) (ns : List Nn) (k : Nat) (ow : Int) (cs : List Int) : Prop where
  ok : (ndOf c (delN ns k)).ok c
  nn : (ndOf c (delN ns k)).n = ns.length
  kz : (ndOf c (delN ns k)).K (k + 1) = (ns.getD k nn0).k
  uz : (ndOf c (delN ns k)).um (k + 1) = 0
  ln : (cs.length : Int) = lnV c
  wd : Wds cs
  rep : Rep c (ndOf c (delN ns k)) cs (N0 (ndOf c (delN ns k)))
  sk : Sk (ndOf c (delN ns k)) (N0 (ndOf c (delN ns k)))
  bi : fd c cs ((k + 1 : Nat) : Int) 3 = 1
  own : fd c cs ((k + 1 : Nat) : Int) 5 = ow
  ck : rdG cs 0 = 1
def ownV (c : Cfg) (ns : List Nn) (k : Nat) (ow : Int) : List Int := clV (layV c (delN ns k)) 2 (clV' c ((k : Int) + 1) 5) 0 ow
theorem ldr_is {c : Cfg} {ns : List Nn} {k : Nat} (h : RightN c ns) (hw : ∀ x ∈ ns, x.wf) (hk : k < ns.length) {ow : Int} (how : isW ow) : LdR c ns k ow (ownV c ns k ow) := by
  have R := riB_true.1 h.r
  have hh := HN_eq R
  have hn := h.n
  have h0 := R.h0
  have hL := h.del hk
  have ok := hL.ok
  have nn : (ndOf c (delN ns k)).n = ns.length := delN_len _ _
  have ge : (delN ns k).getD k nn0 = del1 (ns.getD k nn0) := by rw [delN_get hk, if_pos rfl]
  have L := Ld.laid hL
  have ll : ((layV c (delN ns k)).length : Int) = lnV c := L.len
  have i5 : inF c ((k : Int) + 1) 5 := ⟨h.r, by omega, by omega, by omega, by omega⟩
  have e1 : ownV c ns k ow = stW c (layV c (delN ns k)) ((k : Int) + 1) 5 ow := st_stW ll i5 ow
  have f5 := fun (i' f' : Int) => fd_stW ll i5 ow i' f'
  have rp := L.rep ok
  rw [e1]
  refine ⟨ok, nn, ?_, ?_, by rw [stW_len]; exact ll, wds_stW (wds_all hL (wf_del hw hk) _ (Nat.le_refl _)) _ _ how, ⟨fun M i hi => ?_, fun i a b => ?_⟩, Sk.laid ok, ?_, ?_, (clk_stW i5 _).trans L.clk⟩
  · show ((delN ns k).getD (k + 1 - 1) nn0).k = _
    rw [show k + 1 - 1 = k by omega, ge]; rfl
  · show (if k + 1 = 0 then HN c else (((delN ns k).getD (k + 1 - 1) nn0).t - ((delN ns k).getD (k + 1 - 1) nn0).m).toNat) = 0
    rw [if_neg (by omega), show k + 1 - 1 = k by omega, ge]
    show ((ns.getD k nn0).t - (ns.getD k nn0).t).toNat = 0
    omega
  · rw [f5, if_neg (by omega)]; exact rp.nx M i hi
  · rw [f5, if_neg (by omega)]; exact rp.ky i a b
  · rw [f5, if_neg (by omega)]
    exact lay_birth hL (i := k + 1) (by omega) (by rw [delN_len]; omega) _ (Nat.le_refl _) (by rw [delN_len]; omega)
  · rw [f5, if_pos (by omega)]
/-- The node's birth is written. -/
theorem LdR.birth {c : Cfg} {ns : List Nn} {k : Nat} {ow : Int} {cs : List Int} (h : LdR c ns k ow cs) (hr : riB c = true) (hk : k < ns.length) (hn : (ns.length : Int) ≤ c.c) {B : Int} (hB : isW B) :
    (let ds := clV cs 2 (clV' c ((k : Int) + 1) 3) 0 B; (ds.length : Int) = lnV c ∧ Wds ds ∧ Rep c (ndOf c (delN ns k)) ds (N0 (ndOf c (delN ns k))) ∧ fd c ds ((k + 1 : Nat) : Int) 3 = B ∧ fd c ds ((k + 1 : Nat) : Int) 5 = ow ∧ rdG ds 0 = 1) := by
  have R := riB_true.1 hr
  have h0 := R.h0
  have i3 : inF c ((k : Int) + 1) 3 := ⟨hr, by omega, by omega, by omega, by omega⟩
  have e1 := st_stW h.ln i3 B
  have f3 := fun (i' f' : Int) => fd_stW h.ln i3 B i' f'
  intro ds
  show (((clV cs 2 (clV' c ((k : Int) + 1) 3) 0 B).length : Nat) : Int) = lnV c ∧ Wds (clV cs 2 (clV' c ((k : Int) + 1) 3) 0 B) ∧ Rep c (ndOf c (delN ns k)) (clV cs 2 (clV' c ((k : Int) + 1) 3) 0 B) (N0 (ndOf c (delN ns k))) ∧ fd c (clV cs 2 (clV' c ((k : Int) + 1) 3) 0 B) ((k + 1 : Nat) : Int) 3 = B ∧ fd c (clV cs 2 (clV' c ((k : Int) + 1) 3) 0 B) ((k + 1 : Nat) : Int) 5 = ow ∧ rdG (clV cs 2 (clV' c ((k : Int) + 1) 3) 0 B) 0 = 1
  rw [e1]
  refine ⟨by rw [stW_len]; exact h.ln, wds_stW h.wd _ _ hB, ⟨fun M i hi => ?_, fun i a b => ?_⟩, ?_, ?_, (clk_stW i3 _).trans h.ck⟩
  · rw [f3, if_neg (by omega)]; exact h.rep.nx M i hi
  · rw [f3, if_neg (by omega)]; exact h.rep.ky i a b
  · rw [f3, if_pos (by omega)]
  · rw [f3, if_neg (by omega)]; exact h.own
/-- One owner goes, that is not the last one. -/
theorem LdR.less {c : Cfg} {ns : List Nn} {k : Nat} {ow : Int} {cs : List Int} (h : LdR c ns k ow cs) (hr : riB c = true) (hk : k < ns.length) (hn : (ns.length : Int) ≤ c.c) (h2 : 2 ≤ ow) (h3 : isW ow) : LdR c ns k (ow - 1) (clV cs 4 (clV' c ((k : Int) + 1) 5) 0 oneL) := by
  have R := riB_true.1 hr
  have h0 := R.h0
  have i5 : inF c ((k : Int) + 1) 5 := ⟨hr, by omega, by omega, by omega, by omega⟩
  have ad := fun (i' f' : Int) => fd_add h.ln i5 oneL i' f'
  refine ⟨h.ok, h.nn, h.kz, h.uz, by rw [clV_len]; exact h.ln, wds_add h.wd _ _, ⟨fun M i hi => ?_, fun i a b => ?_⟩, h.sk, ?_, ?_, (clk_add h.ln i5 _).trans h.ck⟩
  · rw [ad, if_neg (by omega)]; exact h.rep.nx M i hi
  · rw [ad, if_neg (by omega)]; exact h.rep.ky i a b
  · rw [ad, if_neg (by omega)]; exact h.bi
  · have e : fd c cs ((k : Int) + 1) 5 = ow := by
      have z := h.own
      rw [show ((k + 1 : Nat) : Int) = (k : Int) + 1 by omega] at z; exact z
    rw [ad, if_pos (by omega), e]; exact add_less (by omega) h3.2
/-- A new retire of the node, alone. -/
theorem LdR.rv {c : Cfg} {ns : List Nn} {k : Nat} {cs : List Int} (h : LdR c ns k 1 cs) (hr : riB c = true) (hk : k < ns.length) (g : Gs) {left : Int} (hl : full c (ndOf c (delN ns k)) + HN c + 9 ≤ left) : Rv c (ndOf c (delN ns k)) (k + 1) cs g (rtS (hw (k + 1)) (ns.getD k nn0).k) 1 left := by
  have R := riB_true.1 hr
  have hn := n_lt R h.ok
  rw [h.nn] at hn
  have pl : plainV (hw (k + 1)) = hw (k + 1) := by
    have z := plainV_of (hw (k + 1))
    exact z.2 (hw_mk (by omega))
  exact ⟨h.ok, hr, by omega, by rw [h.nn]; omega, h.uz, pl, h.ln, h.bi, by have := full_nn c (ndOf c (delN ns k)); omega, Or.inl ⟨rfl, rfl, by show fmS _ = fmS _; rw [h.kz], h.own, ⟨_, h.rep, h.sk⟩, hl⟩⟩
/-- Nodes in a row of their own. -/
def NRow (w : World) (g : Nat) (ns : List Nn) : Prop := ∃ A, w.heap[g]? = some (.cells A 82 (0, 0)) ∧ ∀ i, i < ns.length → A[i * 5]? = some (.int .u64 (ns.getD i nn0).k) ∧ A[i * 5 + 1]? = some (.int .u64 (ns.getD i nn0).v) ∧ A[i * 5 + 2]? = some (.int .i64 (ns.getD i nn0).t) ∧ A[i * 5 + 3]? = some (.int .i64 (ns.getD i nn0).m) ∧ A[i * 5 + 4]? = some (.bool (ns.getD i nn0).d)
theorem NRow.kept {l : List Nat} {w w' : World} {g : Nat} {ns : List Nn} (h : NRow w g ns) (k : Kept l w w') (hg : g ∉ l) : NRow w' g ns := by
  obtain ⟨A, z, q⟩ := h; exact ⟨A, k.blk z hg, q⟩
theorem NRow.lt {w : World} {g : Nat} {ns : List Nn} (h : NRow w g ns) : g < w.heap.size := by obtain ⟨A, z, _⟩ := h; exact lt_of_blk z
theorem NRow.sl {w : World} {g : Nat} {ns : List Nn} (h : NRow w g ns) : SlOf 5 nnL w (some ⟨g, 0, none⟩) ns := by
  obtain ⟨A, z, q⟩ := h
  intro _
  refine ⟨g, 0, rfl, lt_of_blk z, fun i hi j v hv => ?_⟩
  obtain ⟨a0, a1, a2, a3, a4⟩ := q i hi
  have e : ns.getD i nn0 = ns[i] := by simp [hi]
  rw [e] at a0 a1 a2 a3 a4
  rw [Nat.zero_add]
  rcases j with _ | _ | _ | _ | _ | j
  · exact (cell_of_blk z a0).trans hv
  · exact (cell_of_blk z a1).trans hv
  · exact (cell_of_blk z a2).trans hv
  · exact (cell_of_blk z a3).trans hv
  · exact (cell_of_blk z a4).trans hv
  · simp [nnL] at hv
theorem NRow.set {w : World} {g : Nat} {ns : List Nn} (h : NRow w g ns) {k : Nat} (hk : k < ns.length) (x : Nn) (o : Nat) (v : Value) (ho : o < 5) (hx : ∀ j, j < 5 → (nnL x)[j]? = if j = o then some v else (nnL (ns.getD k nn0))[j]?) : NRow (w.setCell ⟨g, k * 5 + o, none⟩ v) g (ns.set k x) := by
  obtain ⟨A, z, q⟩ := h
  refine ⟨A.setIfInBounds (k * 5 + o) v, blk_set z _ _, fun i hi => ?_⟩
  have hi' : i < ns.length := by simpa using hi
  rw [getD_put _ _ _ _ _ hk]
  have qk := q k hk
  have sz : k * 5 + o < A.size := by
    have : k * 5 + 4 < A.size := (Array.getElem?_eq_some_iff.1 qk.2.2.2.2).1
    omega
  have key : ∀ j, j < 5 → (A.setIfInBounds (k * 5 + o) v)[i * 5 + j]? = if i = k ∧ j = o then some v else A[i * 5 + j]? := fun j hj => by
    rw [Array.getElem?_setIfInBounds]
    by_cases e : i = k ∧ j = o
    · obtain ⟨rfl, rfl⟩ := e
      rw [if_pos rfl, if_pos sz, if_pos ⟨rfl, rfl⟩]
    · rw [if_neg (by omega), if_neg e]
  have k0 := key 0 (by omega)
  have k1 := key 1 (by omega)
  have k2 := key 2 (by omega)
  have k3 := key 3 (by omega)
  have k4 := key 4 (by omega)
  rw [Nat.add_zero] at k0
  rw [k0, k1, k2, k3, k4]
  by_cases e : i = k
  · subst e
    have x0 := hx 0 (by omega)
    have x1 := hx 1 (by omega)
    have x2 := hx 2 (by omega)
    have x3 := hx 3 (by omega)
    have x4 := hx 4 (by omega)
    rw [if_pos rfl, qk.1, qk.2.1, qk.2.2.1, qk.2.2.2.1, qk.2.2.2.2]
    have E : ∀ j, (if i = i ∧ j = o then some v else (nnL (ns.getD i nn0))[j]?) = if j = o then some v else (nnL (ns.getD i nn0))[j]? := fun j => by simp
    refine ⟨(E 0).trans x0.symm, (E 1).trans x1.symm, (E 2).trans x2.symm, (E 3).trans x3.symm, (E 4).trans x4.symm⟩
  · simp only [e, false_and, if_false]
    exact q i hi'
theorem nnL_len (x : Nn) : (nnL x).length = 5 := rfl
theorem nnL_one (x : Nn) : ∀ u ∈ nnL x, u.oneCell' = true := by
  intro u hu; simp [nnL] at hu; rcases hu with rfl | rfl | rfl | rfl | rfl <;> rfl
theorem info_nn : (Tryz.prog.info? 82).map (fun i => (i.zero, i.size, i.bytes)) = some (some (.agg #[.int .u64 0, .int .u64 0, .int .i64 0, .int .i64 0, .bool false]), 5, 40) := by kernel_rfl
/-- 'append' of nodes to an empty literal. -/
theorem append_nn (ty : TypeId) (w : World) (xs : List Nn) (ao : Option Addr) (n cap : Nat) (hn : n = xs.length) (hs : SlOf 5 nnL w ao xs) (hc : ao = none → cap = 0) (hm : xs.length ≤ 100000) :
    ∃ g c' w1, (Builtin.append_ #[83, 83] ty #[.slice (some ⟨w.heap.size, 0, none⟩) 0 0, .slice ao n cap]).run Tryz.prog (w.alloc (.cells #[] 82)) = .ok (.slice (some ⟨g, 0, none⟩) n c') w1 ∧ w.heap.size ≤ g ∧ NRow w1 g xs ∧ Kept [] w w1 := by
  subst hn
  obtain ⟨i, hi, hz0, hz1, hz2⟩ := info_parts' info_nn
  have K0 : Kept [] w (w.alloc (.cells #[] 82)) := (Kept.refl [] w).alloc _
  have hown : (w.alloc (.cells #[] 82)).ownsRow w.heap.size 82 5 (.slice (some ⟨w.heap.size, 0, none⟩) 0 0) 0 [] := World.ownsRow_made w #[] 0 (Nat.le_refl _) (by decide) rfl
  cases ao with
  | none =>
    have hx : xs = [] := by
      cases xs with
      | nil => rfl
      | cons a r => obtain ⟨b, off, h, _⟩ := hs (by simp); cases h
    subst hx
    obtain rfl := hc rfl
    exact ⟨_, _, _, run_append_owned_none (P := Tryz.prog) (w := w.alloc (.cells #[] 82)) w.heap.size 83 ty 82 i 5 Tryz.underlying83 hi _ 0 [] hown, Nat.le_refl _, ⟨#[], blk_alloc_new w _, fun i hi => absurd hi (by simp)⟩, K0⟩
  | some ad =>
    have hs1 := hs.new K0
    have hcells : ∀ j u, (xs.flatMap nnL)[j]? = some u → (w.alloc (.cells #[] 82)).cell? (ad.add j) = some u := by
      intro j u hu
      have hj : j < xs.length * 5 := by
        have := (List.getElem?_eq_some_iff.1 hu).1
        rwa [fm_len nnL_len] at this
      obtain ⟨b, off, e, _, hc2⟩ := hs1 (by omega)
      cases e
      have hq : j / 5 < xs.length := by omega
      obtain ⟨v, hv⟩ : ∃ v, (nnL xs[j / 5])[j % 5]? = some v := ⟨_, List.getElem?_eq_getElem (l := nnL xs[j / 5]) (i := j % 5) (by rw [nnL_len]; omega)⟩
      have z := fm_get nnL_len xs (j / 5) hq (j % 5) v hv
      rw [show j / 5 * 5 + j % 5 = j by omega, hu] at z
      cases z
      have y := hc2 (j / 5) hq (j % 5) _ hv
      rw [show (⟨b, off, none⟩ : Addr).add j = ⟨b, off + j, none⟩ by unfold Addr.add; split <;> simp_all]
      have e5 : off + j / 5 * 5 + j % 5 = off + j := by omega
      rw [e5] at y
      exact y
    obtain ⟨v', w1, hrun, hown', hg, hne⟩ := run_append_own (P := Tryz.prog) (w.alloc (.cells #[] 82)) w.heap.size 83 ty 82 i _ 5 40 Tryz.underlying83 hi hz0 hz1 hz2 rfl (by decide) _ 0 [] hown ad xs.length cap (xs.flatMap nnL) (by rw [fm_len nnL_len]) hcells
      (by intro u hu; obtain ⟨x, _, hx⟩ := List.mem_flatMap.1 hu; exact nnL_one x u hx) (by unfold maxLen; omega) (by omega) (by rw [nblk_alloc]; omega)
    rw [Nat.zero_add, List.nil_append] at hown'
    obtain ⟨h1, h2 | ⟨g, cp, cur, rfl, hb, hgb, hnc, hcm, hsz, htk⟩⟩ := hown'
    · have := (hne.1 h2.1).1; cases this
    · refine ⟨g, cp, w1, hrun, hb, ⟨cur, hgb, fun q hq => ?_⟩, (kept_ob hg |> fun z => K0.then z (fun y hy => by simp [Value.ownBlock] at hy; subst hy; exact Or.inr (Nat.le_refl _)))⟩
      have e : xs.getD q nn0 = xs[q] := by simp [hq]
      have key : ∀ j v, (nnL xs[q])[j]? = some v → cur[q * 5 + j]? = some v := fun j v hv => by
        have z := fm_get nnL_len xs q hq j v hv
        rw [← htk, List.getElem?_take] at z
        split at z
        · rw [← Array.getElem?_toList]; exact z
        · cases z
      rw [e]
      exact ⟨key 0 _ rfl, key 1 _ rfl, key 2 _ rfl, key 3 _ rfl, key 4 _ rfl⟩
section
variable {H : Type} {enc : TypeId × Value → H} {w : World}
theorem open_nodes2 {r : Reach} {b0 : Nat} {v : Value} {d : DataW H} {p : List MemPlace} (hv : Value.okWide Tryz.prog w r b0 83 v) (h : DataW.Trod enc Tryz.prog w 0 (fun _ => true) true 83 v d p) :
    ∃ (ao : Option Addr) (cap : Nat) (ns : List Nn), v = .slice ao (List.length ns) cap ∧ SlOf 5 nnL w ao ns ∧ (∀ x ∈ ns, x.wf) ∧ (ao = none → cap = 0) := by
  have : Inhabited Nn := ⟨nn0⟩
  obtain ⟨ao, cap, xs, e, S, G, _, hc⟩ := open_slice_of (ks := [.int .u64, .int .u64, .int .i64, .int .i64, .bool]) nnL Nn.wf Tryz.underlying83 flat_nn cells_nn (by decide) (fun cs hF => nn_cells hF) hv h
  exact ⟨ao, cap, xs, e, S, G, hc⟩
end
end K
end Go.Proofs.YtgafmklfpiipcaaGreatDoor
namespace Go.Proofs.YtgafmklfpiipcaaGreatDoor
open Go.RowKit (Grown Hid Below intOf)
open Go.Deep
namespace K
set_option maxRecDepth 100000
theorem rpart_u64 (xs : Array Value) (n : Nat) (v : Value) (h : xs[n]? = some v) (w : World) : Sem.run Tryz.prog (part 25 xs n) w = .ok v w := by
  have ha : ∀ w, Sem.run Tryz.prog (isAgg 25) w = .ok false w := fun _ => by kernel_rfl
  unfold part
  simp [Sem.run_bind, ha, h]
theorem rfields3e {l : List Field} {x y z : String × TypeId × Nat} (h : l.map (fun f => (f.name, f.type, f.offset)) = [x, y, z]) : ∃ a b c, l = [a, b, c] ∧ (a.name = x.1 ∧ a.type = x.2.1 ∧ a.offset = x.2.2) ∧ (b.name = y.1 ∧ b.type = y.2.1 ∧ b.offset = y.2.2) ∧ (c.name = z.1 ∧ c.type = z.2.1 ∧ c.offset = z.2.2) := by
  match l, h with
  | [a, b, c], h =>
    simp only [List.map_cons, List.map_nil, List.cons.injEq, and_true] at h
    obtain ⟨h1, h2, h3⟩ := h
    subst h1 h2 h3
    exact ⟨a, b, c, rfl, ⟨rfl, rfl, rfl⟩, ⟨rfl, rfl, rfl⟩, ⟨rfl, rfl, rfl⟩⟩
theorem req_cent (a0 a1 a2 b0 b1 b2 : Int) (w : World) :
    Sem.run Tryz.prog (Op.equalIn 10000 56 (.agg #[.int .u64 a0, .int .u64 a1, .int .u64 a2]) (.agg #[.int .u64 b0, .int .u64 b1, .int .u64 b2])) w = .ok (a0 == b0 && a1 == b1 && a2 == b2) w := by
  rw [show (10000 : Nat) = 9999 + 1 from rfl, run_equalIn_struct w 9999 56 _ _ Tryz.underlying56 (by kernel_rfl)]
  have hf : (Tryz.prog.fieldsOf 56).toList.map (fun f => (f.name, f.type, f.offset)) = [("Node", 25, 0), ("Birth", 25, 1), ("Retired", 25, 2)] := by kernel_rfl
  obtain ⟨f0, f1, f2, hl, g0, g1, g2⟩ := rfields3e hf
  have he := fun (a b : Int) w => run_equalIn_int (P := Tryz.prog) w 9998 25 .u64 .u64 a b Tryz.underlying25
  have ha0 : ∀ w, Sem.run Tryz.prog (part 25 #[Value.int IntKind.u64 a0, Value.int IntKind.u64 a1, Value.int IntKind.u64 a2] 0) w = .ok (.int .u64 a0) w := fun w => rpart_u64 _ 0 _ rfl w
  have ha1 : ∀ w, Sem.run Tryz.prog (part 25 #[Value.int IntKind.u64 a0, Value.int IntKind.u64 a1, Value.int IntKind.u64 a2] 1) w = .ok (.int .u64 a1) w := fun w => rpart_u64 _ 1 _ rfl w
  have ha2 : ∀ w, Sem.run Tryz.prog (part 25 #[Value.int IntKind.u64 a0, Value.int IntKind.u64 a1, Value.int IntKind.u64 a2] 2) w = .ok (.int .u64 a2) w := fun w => rpart_u64 _ 2 _ rfl w
  have hb0 : ∀ w, Sem.run Tryz.prog (part 25 #[Value.int IntKind.u64 b0, Value.int IntKind.u64 b1, Value.int IntKind.u64 b2] 0) w = .ok (.int .u64 b0) w := fun w => rpart_u64 _ 0 _ rfl w
  have hb1 : ∀ w, Sem.run Tryz.prog (part 25 #[Value.int IntKind.u64 b0, Value.int IntKind.u64 b1, Value.int IntKind.u64 b2] 1) w = .ok (.int .u64 b1) w := fun w => rpart_u64 _ 1 _ rfl w
  have hb2 : ∀ w, Sem.run Tryz.prog (part 25 #[Value.int IntKind.u64 b0, Value.int IntKind.u64 b1, Value.int IntKind.u64 b2] 2) w = .ok (.int .u64 b2) w := fun w => rpart_u64 _ 2 _ rfl w
  rw [hl]
  simp only at g0 g1 g2
  cases e0 : (a0 == b0) <;> cases e1 : (a1 == b1) <;> cases e2 : (a2 == b2) <;>
    simp [Op.eqFields, Sem.run_bind, ha0, ha1, ha2, hb0, hb1, hb2, he, e0, e1, e2, g0, g1, g2]
theorem isT_en : IsT 56 3 := ⟨by kernel_rfl, _, Tryz.underlying56⟩
/-- One step, and it is done: an owner that is not the last one. -/
def I1 (c : Cfg) (cs0 : List Int) (s0 : Rtm) (cs : List Int) (_g : Gs) (s : Rtm) (lf : Int) : Prop := (lf = 1 ∧ s = s0 ∧ cs = cs0) ∨ (lf = 0 ∧ s = { s0 with la := false, nx := 1, d := true } ∧ cs = clV cs0 4 (clV' c (ixV s0.h) 5) 0 oneL)
theorem I1.step {c : Cfg} {cs0 : List Int} {s0 : Rtm} (hd0 : s0.d = false) (n0 : s0.nx = 0) (ow : s0.ow c cs0 ≠ 1) {cs : List Int} {g : Gs} {s : Rtm} {lf : Int} (h : I1 c cs0 s0 cs g s lf) (hd : s.d = false) (cnt : Int) : I1 c cs0 s0 (rtC c cs g s) (rtG c g s) (rtF c cs cnt g s) (lf - 1) := by
  rcases h with ⟨e1, e2, e3⟩ | ⟨_, e2, _⟩
  · subst e2 e3
    obtain ⟨f1, f2, f3⟩ := rtF_0 (c := c) (cs := cs) (cnt := cnt) (g := g) hd0 n0
    rw [decide_eq_false ow] at f1
    exact Or.inr ⟨by omega, f1, f2⟩
  · rw [e2] at hd; cases hd
theorem I1.done {c : Cfg} {cs0 : List Int} {s0 : Rtm} {cs : List Int} {g : Gs} {s : Rtm} {lf : Int} (h : I1 c cs0 s0 cs g s lf) (hl : lf ≤ 0) : s.d = true := by
  rcases h with ⟨e1, _⟩ | ⟨_, e2, _⟩
  · omega
  · rw [e2]
/-- At its end. -/
theorem I1.fin {c : Cfg} {cs0 : List Int} {s0 : Rtm} (hd0 : s0.d = false) {cs : List Int} {g : Gs} {s : Rtm} {n : Nat} (h : I1 c cs0 s0 cs g s (1 - (n : Int))) (hd : s.d = true) : n = 1 ∧ s.la = false ∧ s.ent = entV 0 0 0 ∧ s.told = false ∧ cs = clV cs0 4 (clV' c (ixV s0.h) 5) 0 oneL := by
  rcases h with ⟨_, e2, _⟩ | ⟨e1, e2, e3⟩
  · rw [e2, hd0] at hd; cases hd
  · refine ⟨by omega, by rw [e2], ?_, ?_, e3⟩
    · unfold Rtm.ent; rw [e2, if_neg (fun z => by have := z.2; cases this)]
    · unfold Rtm.told; rw [e2]; rfl
/-- The last owner, alone, while the clock stands. -/
def IV (c : Cfg) (l : Nd) (z : Nat) (B T : Int) (cs : List Int) (g : Gs) (s : Rtm) (lf : Int) : Prop := Rv c l z cs g s B lf ∧ rdG cs 0 = T ∧ (s.d = true → s.er = T)
theorem IV.step {c : Cfg} {l : Nd} {z : Nat} {B T : Int} {cs : List Int} {g : Gs} {s : Rtm} {lf : Int} (h : IV c l z B T cs g s lf) (hd : s.d = false) (cnt : Int) : IV c l z B T (rtC c cs g s) (rtG c g s) (rtF c cs cnt g s) (lf - 1) := by
  obtain ⟨V, ck, er⟩ := h
  obtain ⟨V', ck', er'⟩ := V.step cnt
  have l0 : ¬ lf = 0 := fun e => by
    have z := (V.fin e).1
    rw [hd] at z; cases z
  rw [if_neg l0] at V'
  refine ⟨V', ck'.trans ck, fun q => ?_⟩
  rw [er' q, hd, ← ck]; rfl
theorem IV.done {c : Cfg} {l : Nd} {z : Nat} {B T : Int} {cs : List Int} {g : Gs} {s : Rtm} {lf : Int} (h : IV c l z B T cs g s lf) (hl : lf ≤ 0) : s.d = true := (h.1.fin (by have := h.1.l0; omega)).1
theorem IV.fin {c : Cfg} {l : Nd} {z : Nat} {B T : Int} {cs : List Int} {g : Gs} {s : Rtm} {lf : Int} (h : IV c l z B T cs g s lf) (hd : s.d = true) : s.ent = entV (hw z) B T ∧ s.told = true ∧ Unl c l z cs ∧ fd c cs z 5 = 0 := by
  obtain ⟨f1, la, eb, o0⟩ := h.1.done hd
  refine ⟨?_, ?_, h.1.unl f1, o0⟩
  · unfold Rtm.ent; rw [if_pos ⟨hd, la⟩, h.1.sh, eb, h.2.2 hd]
  · unfold Rtm.told; rw [hd, la]; rfl
theorem Rp.acc {w0 w w' : World} {b fb m p r : Nat} {c : Cfg} {h k : Int} {cs cs' : List Int} {cnt cnt' : Int} {a a' : Acc} (x : Rp w0 w b fb m p r c h k cs cnt a) (M : Mm w' m p r c cs' cnt' a') (K : Kept [p, r] w w') (wd : Wds cs') (n0 : 0 ≤ cnt') : Rp w0 w' b fb m p r c h k cs' cnt' a' := by
  have n1 : ¬ b = p := blk_ne (T1 := 75) x.rb x.mm.bk.st (by decide)
  have n2 : ¬ b = r := blk_ne (T1 := 75) x.rb x.mm.bk.row (by decide)
  have n3 : ¬ fb = p := blk_ne (T1 := 113) x.ff x.mm.bk.st (by decide)
  have n4 : ¬ fb = r := blk_ne (T1 := 113) x.ff x.mm.bk.row (by decide)
  exact ⟨x.rb.kept K (by simp; omega), x.ff.kept K (by simp; omega), M, x.kp.then K (by have := x.op; have := x.ow; simp; omega), x.t0, x.ob, x.of, x.op, x.ow, x.hr, wd, n0, x.hW⟩
end K
end Go.Proofs.YtgafmklfpiipcaaGreatDoor
namespace Go.Proofs.YtgafmklfpiipcaaGreatDoor
open Go.RowKit (Grown Hid Below intOf)
open Go.Deep
namespace K
set_option maxRecDepth 100000
theorem rpack_hw1 (k : Nat) : packV ((k : Int) + 1) 0 false = hw (k + 1) := by
  unfold packV hw; simp; omega
theorem rhw_isW {k : Nat} (hk : k < 1000) : isW (hw k) := by unfold isW hw; omega
/-- The answer: none, or a world. -/
def NdR (c : Cfg) (ns : List Nn) (kz ow : Int) (e : Ending) (w w' : World) : Prop := Kept [] w w' ∧ ((e = .returned (.tuple #[.pointer none, .int .u64 0, .bool false]) ∧ ¬ (RightN c ns ∧ 0 ≤ kz ∧ kz < ns.length)) ∨ (∃ k : Nat, kz = k ∧ k < ns.length ∧ RightN c ns ∧ ∃ m p r a, e = .returned (.tuple #[.pointer (some ⟨m, 0, none⟩), .int .u64 (hw (k + 1)), .bool true]) ∧ (w.heap.size ≤ m ∧ w.heap.size ≤ p ∧ w.heap.size ≤ r) ∧ Mm w' m p r c (ownV c ns k ow) 1 a))
theorem NdR.no {c : Cfg} {ns : List Nn} {kz ow : Int} {e : Ending} {w w' : World} (he : e = .returned (.tuple #[.pointer none, .int .u64 0, .bool false])) (h : ¬ (RightN c ns ∧ 0 ≤ kz ∧ kz < ns.length)) (k : Kept [] w w') : NdR c ns kz ow e w w' := ⟨k, Or.inl ⟨he, h⟩⟩
end K
end Go.Proofs.YtgafmklfpiipcaaGreatDoor
namespace Go.Proofs.YtgafmklfpiipcaaGreatDoor
open Go.RowKit (Grown Hid Below intOf)
open Go.Deep
namespace K
set_option maxRecDepth 100000
def c14 : Cfg := ⟨1, 1, 1, 1, 1, 1, 9⟩
def n14 : List Nn := [⟨7, 0, 1, 1, true⟩]
theorem right14 : RightN c14 n14 := by
  refine ⟨by decide +kernel, by decide, fun i hi => ?_, fun i hi => ?_⟩
  · have hi' : i < 1 := hi
    rcases (by omega : i = 0) with e; subst e; exact ⟨by decide, by decide, by decide, by decide, by decide, by decide⟩
  · have hi' : i + 1 < 1 := hi
    omega
theorem wf14 : ∀ x ∈ n14, x.wf := by
  intro x hx
  simp [n14] at hx
  subst hx; exact ⟨by decide, by decide⟩
theorem del14 : delN n14 0 = n14 := rfl
theorem blk_alloc_drew (w : World) (o : Obj) : (w.alloc o).drew.heap[w.heap.size]? = some o := blk_alloc_new w o
theorem slOf14 {w : World} {b : Nat} (h : w.heap[b]? = some (.cells #[.int .u64 7, .int .u64 0, .int .i64 1, .int .i64 1, .bool true] 82 (0, 0))) : SlOf 5 nnL w (some ⟨b, 0, none⟩) n14 := by
  intro _
  refine ⟨b, 0, rfl, lt_of_blk h, fun k hk j v hv => ?_⟩
  have hk' : k < 1 := hk
  rcases (by omega : k = 0) with e; subst e
  rcases j with _ | _ | _ | _ | _ | j
  all_goals first | (refine cell_of_blk h ?_; exact hv) | simp [n14, nnL] at hv
theorem laid14 : LdR c14 n14 0 2 (ownV c14 n14 0 2) := ldr_is right14 wf14 (by decide) (by unfold isW; omega)
theorem fd14 {cs : List Int} (h : Unl c14 (ndOf c14 (delN n14 0)) 1 cs) : fd c14 cs 0 6 = 0 := by
  obtain ⟨P, p1, ⟨j, e, j1, j2, q⟩, _⟩ := h 0 (by decide)
  have n1 : (ndOf c14 (delN n14 0)).n = 1 := rfl
  rw [n1] at e j2 q
  have hj : j = 2 := by
    by_cases e1 : j = 1
    · exact absurd e1 (p1 j (q (by omega)))
    · omega
  subst hj
  exact e
set_option maxHeartbeats 8000000 in
theorem alive_any (w : World) (hT : Tab w) : Calls Tryz.prog 7 #[] w fun e w' => e = .returned (.bool true) ∧ Kept [] w w' := by
  have HT := hidOf hT
  clear hT
  obtain ⟨q, hq⟩ : ∃ q, q = w.heap.size := ⟨_, rfl⟩
  have BX : Hid (RW 23 (w.alloc (.cells #[.int .i64 1, .int .i64 1, .int .i64 1, .int .i64 1, .int .i64 1, .int .i64 1, .int .i64 9] 23)) q #[.int .i64 1, .int .i64 1, .int .i64 1, .int .i64 1, .int .i64 1, .int .i64 1, .int .i64 9] ∧ Kept [] w (w.alloc (.cells #[.int .i64 1, .int .i64 1, .int .i64 1, .int .i64 1, .int .i64 1, .int .i64 1, .int .i64 9] 23))) := by rw [hq]; exact ⟨RW.new _ _ _, (Kept.refl [] w).alloc _⟩
  go_enter Tryz.func7, Tryz.ntmps7
  go_upto_region 2 with (fail)
  rw [← hq]
  refine gen_world (fun W => RW 23 W q #[.int .i64 1, .int .i64 1, .int .i64 1, .int .i64 1, .int .i64 1, .int .i64 1, .int .i64 9] ∧ Kept [] w W) BX.out ?_
  clear BX hq
  rintro W ⟨CB0, K0⟩
  have HX := hidOf (And.intro CB0 K0)
  clear CB0 K0
  have SX : Hid (∀ W' : World, Kept [] W W' → W'.cell? ⟨q, 0, none⟩ = some (.int .i64 1) ∧ W'.cell? ⟨q, 1, none⟩ = some (.int .i64 1) ∧ W'.cell? ⟨q, 2, none⟩ = some (.int .i64 1) ∧ W'.cell? ⟨q, 3, none⟩ = some (.int .i64 1) ∧ W'.cell? ⟨q, 4, none⟩ = some (.int .i64 1) ∧ W'.cell? ⟨q, 5, none⟩ = some (.int .i64 1) ∧ W'.cell? ⟨q, 6, none⟩ = some (.int .i64 9)) := hidOf (by
    intro W' kk
    have y := HX.out.1.kept kk (by simp)
    exact ⟨cell_of_blk y (i := 0) rfl, cell_of_blk y (i := 1) rfl, cell_of_blk y (i := 2) rfl, cell_of_blk y (i := 3) rfl, cell_of_blk y (i := 4) rfl, cell_of_blk y (i := 5) rfl, cell_of_blk y (i := 6) rfl⟩)
  have LY : Hid (∀ (W' : World) (b : Nat), Kept [] W W' → W'.heap[b]? = some (.cells #[.int .u64 7, .int .u64 0, .int .i64 1, .int .i64 1, .bool true] 82 (0, 0)) → Calls Tryz.prog 24 #[.agg #[.int .i64 1, .int .i64 1, .int .i64 1, .int .i64 1, .int .i64 1, .int .i64 1, .int .i64 9], .slice (some ⟨b, 0, none⟩) 1 1] W' fun e w' => ∃ g3 c3, e = .returned (.slice (some ⟨g3, 0, none⟩) (lnN c14) c3) ∧ RowR w' g3 (layV c14 (delN n14 0)) c3 ∧ Kept [] W w') := hidOf (fun W' b kk hb => (lay_any c14 (delN n14 0) (some ⟨b, 0, none⟩) 1 1 W' (right14.del (by decide)) (wf_del wf14 (by decide)) (slOf14 hb) rfl).mono fun e w' hh => by
    obtain ⟨g, c', e1, _, R, K⟩ := hh
    exact ⟨g, c', e1, R, kk.trans K⟩)
  have OF : Hid (∀ (W' : World) (g3 c3 : Nat), Kept [] W W' → RowR W' g3 (layV c14 (delN n14 0)) c3 → Calls Tryz.prog 18 #[.agg #[.int .i64 1, .int .i64 1, .int .i64 1, .int .i64 1, .int .i64 1, .int .i64 1, .int .i64 9], .slice (some ⟨g3, 0, none⟩) (lnN c14) c3] W' fun e w' => ∃ m p r, e = .returned (.tuple #[.pointer (some ⟨m, 0, none⟩), .int .i64 0]) ∧ (W.heap.size ≤ m ∧ W.heap.size ≤ p ∧ W.heap.size ≤ r) ∧ Mm w' m p r c14 (layV c14 (delN n14 0)) 0 Acc.zero ∧ Kept [] W w') := hidOf (fun W' g c' kk R => (mof_yes c14 (some ⟨g, 0, none⟩) (layV c14 (delN n14 0)) (lnN c14) c' W' right14.r (lnN_eq c14) (by have z := (Ld.laid (right14.del (k := 0) (by decide))).len; have y := lnN_eq c14; omega) R.sl).mono fun e w' hh => by
    obtain ⟨m, p, r, e1, ⟨h0, h1, h2⟩, M, K⟩ := hh
    have := kk.size
    exact ⟨m, p, r, e1, ⟨by omega, by omega, by omega⟩, M, kk.trans K⟩)
  obtain ⟨LN, hLN⟩ : ∃ LN, LN = lnN c14 := ⟨_, rfl⟩
  rw [← hLN] at LY OF
  obtain ⟨LV, hLV⟩ : ∃ LV, LV = layV c14 (delN n14 0) := ⟨_, rfl⟩
  rw [← hLV] at LY OF
  have HLV := hidOf hLV
  clear hLN hLV
  go_region_held3 (fun W' => W'.cell? ⟨q, 0, none⟩ = some (.int .i64 1) ∧ W'.cell? ⟨q, 1, none⟩ = some (.int .i64 1) ∧ W'.cell? ⟨q, 2, none⟩ = some (.int .i64 1) ∧ W'.cell? ⟨q, 3, none⟩ = some (.int .i64 1) ∧ W'.cell? ⟨q, 4, none⟩ = some (.int .i64 1) ∧ W'.cell? ⟨q, 5, none⟩ = some (.int .i64 1) ∧ W'.cell? ⟨q, 6, none⟩ = some (.int .i64 9))
    (exact SX.out _ (by first | assumption | exact (Kept.refl _ _).drew | exact ((Kept.refl _ _).alloc _).drew | exact Kept.refl _ _))
    (first
      | (go_at_call 24; with_reducible refine (LY.out _ _ (by exact ((Kept.refl _ _).alloc _).drew) (blk_alloc_drew _ _)).mono ?_; rintro e w5 ⟨g3, c3, rfl, R5, K5⟩)
      | (go_at_call 18; with_reducible refine (OF.out _ _ _ (by assumption) (by assumption)).mono ?_; rintro e w6 ⟨m, p, r, rfl, hpr, M6, K6⟩))
  have HY := hidOf (And.intro hpr (And.intro M6 (And.intro K6 (HX.out.2.trans K6))))
  have HSZ := hidOf HX.out.2.size
  clear R5 K5 hpr M6 K6 SX LY OF HX
  have OF1 := hidOf (fun (Y : World) => rof1_any 1 0 Y (by omega) (by omega))
  rw [show packV 1 0 false = 9223372036854775809 by decide] at OF1
  go_wp2_with fail
  with_reducible refine (OF1.out _).mono ?_
  rintro e w7 ⟨rfl, K7⟩
  have HY7 := hidOf (And.intro (show w.heap.size ≤ p ∧ w.heap.size ≤ r by have := HY.out.1; have := HSZ.out; omega) (And.intro (HY.out.2.1.new K7) (HY.out.2.2.2.trans K7)))
  clear K7 OF1 HY HSZ
  have W0 : isW 9223372036854775809 := by unfold isW; omega
  have NA := hidOf (rtnew_any 9223372036854775809 7 w7 (HT.out.kept HY7.out.2.2) W0.1 W0.2)
  go_wp2_with fail
  with_reducible refine NA.out.mono ?_
  rintro e w8 ⟨a, fa, rfl, ha, hfa, RA, FA, K8⟩
  have WD : Wds LV := by rw [HLV.out]; exact wds_all (right14.del (k := 0) (by decide)) (wf_del wf14 (by decide)) _ (Nat.le_refl _)
  have PA : Rp w w8 a fa m p r c14 9223372036854775809 7 LV 0 Acc.zero := by
    have sz := HY7.out.2.2.size
    exact ⟨RA, FA, HY7.out.2.1.new K8, HY7.out.2.2.trans K8, HT.out, by omega, by omega, HY7.out.1.1, HY7.out.1.2, right14.r, WD, Int.le_refl _, W0⟩
  have HPA := hidOf PA
  have HAA := hidOf (And.intro (lt_of_blk RA) (lt_of_blk FA))
  clear ha hfa RA FA K8 PA NA
  have NB := hidOf (rtnew_any 9223372036854775809 7 w8 (HT.out.kept HPA.out.kp) W0.1 W0.2)
  go_wp2_with fail
  with_reducible refine NB.out.mono ?_
  rintro e w9 ⟨b, fb, rfl, hb, hfb, RB, FB9, K9⟩
  have PB : Rp w w9 b fb m p r c14 9223372036854775809 7 LV 0 Acc.zero := by
    have sz := HPA.out.kp.size
    exact ⟨RB, FB9, HPA.out.mm.new K9, HPA.out.kp.trans K9, HT.out, by omega, by omega, HY7.out.1.1, HY7.out.1.2, right14.r, WD, Int.le_refl _, W0⟩
  have HP := hidOf (And.intro (HPA.out.new K9) (And.intro PB (show ¬ b = a ∧ ¬ b = fa ∧ ¬ fb = a ∧ ¬ fb = fa by have := HAA.out; omega)))
  clear hb hfb RB FB9 K9 PB NB HPA HAA HY7
  have L14 := laid14
  have eo : ownV c14 n14 0 2 = clV LV 2 (clV' c14 1 5) 0 2 := by unfold ownV; rw [← HLV.out]; rfl
  rw [eo] at L14
  have ST := hidOf (mstore_any m p r c14 LV 0 Acc.zero 9223372036854775809 5 2 w9 HP.out.1.mm (HT.out.kept HP.out.1.kp) W0.1 W0.2 (Int.le_refl _) (by omega))
  rw [show ixV 9223372036854775809 = 1 by decide] at ST
  generalize acV LV 2 (clV' c14 1 5) (plainV 9223372036854775809) 0 2 = A1 at ST
  obtain ⟨C2, hC2⟩ : ∃ C2, C2 = clV LV 2 (clV' c14 1 5) 0 2 := ⟨_, rfl⟩
  rw [← hC2] at L14 ST
  have HL14 := hidOf L14
  clear eo hC2 L14 WD
  go_wp2_with fail
  with_reducible refine ST.out.mono ?_
  rintro e w10 ⟨rfl, M10, K10⟩
  have HQ := hidOf (And.intro (HP.out.1.acc M10 K10 HL14.out.wd (by omega)) (And.intro (HP.out.2.1.acc M10 K10 HL14.out.wd (by omega)) HP.out.2.2))
  clear M10 K10 ST HP
  have EA := hidOf (ends14_any (I1 c14 C2 (rtS 9223372036854775809 7)) w w10 a fa m p r c14 9223372036854775809 7 C2 (0 + 1) A1 100 1 HQ.out.1 (by omega) (by omega) (by omega) (Or.inl ⟨rfl, rfl, rfl⟩)
    (fun cs g s lf cnt' h hd => I1.step rfl rfl (by have z := HL14.out.own; have e : (rtS 9223372036854775809 7).ow c14 C2 = 2 := z; rw [e]; decide) h hd cnt') (fun cs g s lf h hl => h.done hl))
  go_wp2_with fail
  refine EA.out.mono ?_
  rintro e w11 ⟨n1, rfl, -, E1⟩
  obtain ⟨ga, g1, s1, cs1, cnt1, acc1, W1, II1, hd1, z1, z2, -⟩ := E1.fin
  obtain ⟨rfl, la1, en1, to1, ec1⟩ := II1.fin rfl hd1
  have L2 : LdR c14 n14 0 1 cs1 := by
    rw [ec1]
    have z := HL14.out.less right14.r (by decide) (by decide) (by omega) (by unfold isW; omega)
    exact z
  have PB11 : Rp w w11 b fb m p r c14 9223372036854775809 7 cs1 cnt1 acc1 := by
    have x := HQ.out.2.1
    have nn := HQ.out.2.2
    have np : ¬ b = p ∧ ¬ b = r ∧ ¬ fb = p ∧ ¬ fb = r := ⟨blk_ne (T1 := 75) x.rb x.mm.bk.st (by decide), blk_ne (T1 := 75) x.rb x.mm.bk.row (by decide), blk_ne (T1 := 113) x.ff x.mm.bk.st (by decide), blk_ne (T1 := 113) x.ff x.mm.bk.row (by decide)⟩
    exact ⟨E1.fk.blk x.rb (by decide) (by simp; omega), E1.fk.blk x.ff (by decide) (by simp; omega), W1.fw.st.mm, W1.fw.kp, HT.out, x.ob, x.of, x.op, x.ow, x.hr, L2.wd, by omega, W0⟩
  have HW1 := hidOf (And.intro W1 (And.intro hd1 (And.intro la1 (show b ≠ a ∧ fb ≠ a from ⟨HQ.out.2.2.1, HQ.out.2.2.2.2.1⟩))))
  have HE1 := hidOf (And.intro en1 to1)
  have HPB := hidOf PB11
  have HL2 := hidOf (And.intro L2 (show 0 ≤ cnt1 ∧ cnt1 ≤ 2 by omega))
  clear E1 W1 II1 hd1 z1 z2 la1 en1 to1 ec1 L2 PB11 EA HQ HL14
  have ET := hidOf (rtentry_any a fa s1 w11 HW1.out.1.rb)
  rw [HE1.out.1, HE1.out.2] at ET
  unfold entV at ET
  go_wp2_with fail
  with_reducible refine ET.out.mono ?_
  rintro e w12 ⟨rfl, K12⟩
  obtain ⟨x8, hx8⟩ : ∃ x, x = w12.heap.size := ⟨_, rfl⟩
  have BX : Hid (RW 56 (w12.alloc (.cells #[.int .u64 0, .int .u64 0, .int .u64 0] 56)) x8 #[.int .u64 0, .int .u64 0, .int .u64 0] ∧ Kept [] w11 (w12.alloc (.cells #[.int .u64 0, .int .u64 0, .int .u64 0] 56))) := by rw [hx8]; exact ⟨RW.new _ _ _, K12.alloc _⟩
  have HX8 := hidOf (show w.heap.size ≤ x8 by have := HW1.out.1.fw.kp.size; have := K12.size; omega)
  clear ET K12
  go_upto_region 10 with (fail)
  rw [← hx8]
  refine gen_world (fun Y => RW 56 Y x8 #[.int .u64 0, .int .u64 0, .int .u64 0] ∧ Kept [] w11 Y) BX.out ?_
  clear BX hx8
  rintro Y ⟨R8, K13⟩
  have HR8 := hidOf (And.intro R8 K13)
  clear R8 K13
  have EB := hidOf (ends14_any (IV c14 (ndOf c14 (delN n14 0)) 1 1 1) w Y b fb m p r c14 9223372036854775809 7 cs1 cnt1 acc1 100 15 (HPB.out.new HR8.out.2) (by omega) (by omega) (by have := HL2.out.2; omega)
    ⟨HL2.out.1.rv (left := 15) right14.r (by decide) _ (by decide), HL2.out.1.ck, fun q => by cases q⟩
    (fun cs g s lf cnt' h hd => h.step hd cnt') (fun cs g s lf h hl => h.done hl))
  go_wp2_with fail
  refine EB.out.mono ?_
  rintro e w14 ⟨n2, rfl, hn2, E2⟩
  obtain ⟨gb, g2, s2, cs2, cnt2, acc2, W2, II2, hd2, z1, z2, -⟩ := E2.fin
  obtain ⟨en2, to2, un2, -⟩ := II2.fin hd2
  have F0 := fd14 un2
  have RA2 : RtB w14 a fa (phT s1 a) s1.la s1.h s1.bi s1.er := by
    have x := HW1.out.1.rb.kept HR8.out.2 (by simp)
    have MM := HW1.out.1.fw.st.mm.new HR8.out.2
    exact E2.fk.blk x (by decide) (by
      have n1 : ¬ a = p := blk_ne (T1 := 75) x MM.bk.st (by decide)
      have n2 : ¬ a = r := blk_ne (T1 := 75) x MM.bk.row (by decide)
      have := HW1.out.2.2.2
      simp; omega)
  have R82 : RW 56 w14 x8 #[.int .u64 0, .int .u64 0, .int .u64 0] := E2.fk.blk HR8.out.1 (by decide) (by
    have x := HPB.out.new HR8.out.2
    have n1 : ¬ x8 = p := blk_ne (T1 := 56) HR8.out.1 x.mm.bk.st (by decide)
    have n2 : ¬ x8 = r := blk_ne (T1 := 56) HR8.out.1 x.mm.bk.row (by decide)
    have n3 : ¬ x8 = b := blk_ne (T1 := 56) HR8.out.1 x.rb (by decide)
    have n4 : ¬ x8 = fb := blk_ne (T1 := 56) HR8.out.1 x.ff (by decide)
    simp; omega)
  have HZ := hidOf (And.intro W2 (And.intro RA2 (And.intro R82 (And.intro hd2 (And.intro HW1.out.2.1 (And.intro F0 (show 0 ≤ cnt2 ∧ cnt2 ≤ 20 by have := HL2.out.2; omega)))))))
  have HE2 := hidOf (And.intro en2 to2)
  have hn2z : (n2 : Int) < 100 := hn2
  clear E2 W2 II2 hd2 z1 z2 en2 to2 un2 F0 RA2 R82 EB HR8 HPB HL2 HW1 HE1 hn2
  have ET := hidOf (rtentry_any b fb s2 w14 HZ.out.1.rb)
  rw [HE2.out.1, HE2.out.2, show hw 1 = 9223372036854775809 by decide] at ET
  unfold entV at ET
  go_wp2_with fail
  with_reducible refine ET.out.mono ?_
  rintro e w15 ⟨rfl, K15⟩
  obtain ⟨x11, hx11⟩ : ∃ x, x = w15.heap.size := ⟨_, rfl⟩
  have BX : Hid (RW 56 (w15.alloc (.cells #[.int .u64 9223372036854775809, .int .u64 1, .int .u64 1] 56)) x11 #[.int .u64 9223372036854775809, .int .u64 1, .int .u64 1] ∧ Kept [] w14 (w15.alloc (.cells #[.int .u64 9223372036854775809, .int .u64 1, .int .u64 1] 56))) := by rw [hx11]; exact ⟨RW.new _ _ _, K15.alloc _⟩
  clear ET K15 HE2
  go_upto_region 12 with (fail)
  rw [← hx11]
  refine gen_world (fun Y => RW 56 Y x11 #[.int .u64 9223372036854775809, .int .u64 1, .int .u64 1] ∧ Kept [] w14 Y) BX.out ?_
  clear BX hx11
  rintro Y2 ⟨R11, K16⟩
  have HR := hidOf (And.intro R11 (And.intro (HZ.out.2.2.1.kept K16 (by simp)) K16))
  clear R11 K16
  have DA := hidOf (rtdone_any a fa s1 _ _ _ _ Y2 (HZ.out.2.1.kept HR.out.2.2 (by simp)))
  have DB := hidOf (rtdone_any b fb s2 _ _ _ _ Y2 (HZ.out.1.new HR.out.2.2).rb)
  rw [HZ.out.2.2.2.2.1] at DA
  rw [HZ.out.2.2.2.1] at DB
  have heq0 : ∀ w, Sem.run Tryz.prog (Op.equalIn 10000 56 (.agg #[.int .u64 0, .int .u64 0, .int .u64 0]) (.agg #[.int .u64 0, .int .u64 0, .int .u64 0])) w = .ok true w := fun w => req_cent 0 0 0 0 0 0 w
  have heq1 : ∀ w, Sem.run Tryz.prog (Op.equalIn 10000 56 (.agg #[.int .u64 9223372036854775809, .int .u64 1, .int .u64 1]) (.agg #[.int .u64 9223372036854775809, .int .u64 1, .int .u64 1])) w = .ok true w := fun w => req_cent 9223372036854775809 1 1 9223372036854775809 1 1 w
  have HDW := hidOf (HZ.out.1.new HR.out.2.2)
  have HHD := hidOf (head_any Y2 HDW.out.fw.st.tb)
  have LD := hidOf (fun (Y : World) (kk : Kept [] Y2 Y) => (HDW.out.fw.new kk).load 9223372036854775808 6 (by unfold isW; omega) (by have := HZ.out.2.2.2.2.2.2; omega))
  rw [show ixV 9223372036854775808 = 0 by decide, HZ.out.2.2.2.2.2.1] at LD
  have c80 := cell_of_blk HR.out.2.1 (i := 0) rfl
  have c81 := cell_of_blk HR.out.2.1 (i := 1) rfl
  have c82 := cell_of_blk HR.out.2.1 (i := 2) rfl
  have c110 := cell_of_blk HR.out.1 (i := 0) rfl
  have c111 := cell_of_blk HR.out.1 (i := 1) rfl
  have c112 := cell_of_blk HR.out.1 (i := 2) rfl
  go_wp2_with fail
  with_reducible refine DA.out.mono ?_
  rintro e w16 ⟨rfl, rfl⟩
  go_wp2_with fail
  with_reducible refine DB.out.mono ?_
  rintro e w17 ⟨rfl, rfl⟩
  go_wp2_with fail
  with_reducible refine HHD.out.mono ?_
  rintro e w18 ⟨rfl, K18⟩
  have LD2 := hidOf (LD.out _ K18)
  clear LD
  go_wp2_with fail
  with_reducible refine LD2.out.mono ?_
  rintro e w19 ⟨a9, rfl, F9, -⟩
  have KF := hidOf F9.kp
  clear F9
  go_wp2
  go_ret
  exact ⟨rfl, KF.out⟩
end K
end Go.Proofs.YtgafmklfpiipcaaGreatDoor
