/-
  Alone, of a node that is linked on level 0 and not deleted, it ends, and the node is linked on all its levels, in its place; all other nodes that are not deleted are linked as they were: the law BuildAlone is true for every input.
  Conditions: the package variable of handle that the code reads starts as the program's text lays it (the card ties it to that text).
-/
import Derived.Test.YtkjjieklccbmoaaDoorBLaws
import Derived.Test.YtkjjieklccbmoaaDoorHLaid
import Derived.Test.YtkjjieklccbmoaaDoorPArgs
import Derived.Deep.CutRange
import Derived.ProofKit
import Derived.SizedLaws
import Derived.Carry
namespace Go.Proofs.YtkjjieklccbmoaaDoor
open Go.ChangeShapes Go.WideShapes Go.ChangeAt Go.RowKit
open Go.Deep
open Go.Proofs.YtkjjieklccbmoaaDoor.K
set_option maxRecDepth 100000

namespace K
/-- 'append' of nodes to an empty literal. -/
theorem append_nn2 (ty : TypeId) (w : World) (xs : List Nn) (ao : Option Addr) (n cap : Nat) (hn : n = xs.length) (hs : SlOf 5 nnL w ao xs) (hc : ao = none → cap = 0) (hm : xs.length * 40 ≤ 140737488351232) :
    ∃ g c' w1, (Builtin.append_ #[24, 24] ty #[.slice (some ⟨w.heap.size, 0, none⟩) 0 0, .slice ao n cap]).run Tryd.prog (w.alloc (.cells #[] 27)) = .ok (.slice (some ⟨g, 0, none⟩) n c') w1 ∧ w.heap.size ≤ g ∧ NRow w1 g xs ∧ Kept [] w w1 := by
  subst hn
  obtain ⟨i, hi, hz0, hz1, hz2⟩ := info_parts' info_nn
  have K0 : Kept [] w (w.alloc (.cells #[] 27)) := (Kept.refl [] w).alloc _
  have hown : (w.alloc (.cells #[] 27)).ownsRow w.heap.size 27 5 (.slice (some ⟨w.heap.size, 0, none⟩) 0 0) 0 [] := World.ownsRow_made w #[] 0 (Nat.le_refl _) (by decide) rfl
  cases ao with
  | none =>
    have hx : xs = [] := by
      cases xs with
      | nil => rfl
      | cons a r => obtain ⟨b, off, h, _⟩ := hs (by simp); cases h
    subst hx
    obtain rfl := hc rfl
    exact ⟨_, _, _, run_append_owned_none (P := Tryd.prog) (w := w.alloc (.cells #[] 27)) w.heap.size 24 ty 27 i 5 Tryd.underlying24 hi _ 0 [] hown, Nat.le_refl _, ⟨#[], blk_alloc_new w _, fun i hi => absurd hi (by simp)⟩, K0⟩
  | some ad =>
    have hs1 := hs.new K0
    have hcells : ∀ j u, (xs.flatMap nnL)[j]? = some u → (w.alloc (.cells #[] 27)).cell? (ad.add j) = some u := by
      intro j u hu
      have hj : j < xs.length * 5 := by
        have := (List.getElem?_eq_some_iff.1 hu).1
        rwa [fm_len nnL_len] at this
      obtain ⟨b, off, e, _, hc2⟩ := hs1 (by omega)
      cases e
      have hq : j / 5 < xs.length := by omega
      obtain ⟨v, hv⟩ : ∃ v, (nnL xs[j / 5])[j % 5]? = some v := ⟨_, List.getElem?_eq_getElem (l := nnL xs[j / 5]) (i := j % 5) (by rw [nnL_len]; omega)⟩
      have z := fm_get nnL_len xs (j / 5) hq (j % 5) v hv
      rw [show j / 5 * 5 + j % 5 = j by omega, hu] at z
      cases z
      have y := hc2 (j / 5) hq (j % 5) _ hv
      rw [show (⟨b, off, none⟩ : Addr).add j = ⟨b, off + j, none⟩ by unfold Addr.add; split <;> simp_all]
      have e5 : off + j / 5 * 5 + j % 5 = off + j := by omega
      rw [e5] at y
      exact y
    obtain ⟨v', w1, hrun, hown', hg, hne⟩ := run_append_own (P := Tryd.prog) (w.alloc (.cells #[] 27)) w.heap.size 24 ty 27 i _ 5 40 Tryd.underlying24 hi hz0 hz1 hz2 rfl (by decide) _ 0 [] hown ad xs.length cap (xs.flatMap nnL) (by rw [fm_len nnL_len]) hcells
      (by intro u hu; obtain ⟨x, _, hx⟩ := List.mem_flatMap.1 hu; exact nnL_one x u hx) (by unfold maxLen; omega) (by omega) (by rw [nblk_alloc]; omega)
    rw [Nat.zero_add, List.nil_append] at hown'
    obtain ⟨h1, h2 | ⟨g, cp, cur, rfl, hb, hgb, hnc, hcm, hsz, htk⟩⟩ := hown'
    · have := (hne.1 h2.1).1; cases this
    · refine ⟨g, cp, w1, hrun, hb, ⟨cur, hgb, fun q hq => ?_⟩, (kept_ob hg |> fun z => K0.then z (fun y hy => by simp [Value.ownBlock] at hy; subst hy; exact Or.inr (Nat.le_refl _)))⟩
      have e : xs.getD q nn0 = xs[q] := by simp [hq]
      have key : ∀ j v, (nnL xs[q])[j]? = some v → cur[q * 5 + j]? = some v := fun j v hv => by
        have z := fm_get nnL_len xs q hq j v hv
        rw [← htk, List.getElem?_take] at z
        split at z
        · rw [← Array.getElem?_toList]; exact z
        · cases z
      rw [e]
      exact ⟨key 0 _ rfl, key 1 _ rfl, key 2 _ rfl, key 3 _ rfl, key 4 _ rfl⟩
theorem bytes_nn : Tryd.prog.bytesOf 27 = 40 := by kernel_rfl
theorem len_nodes {H : Type} {ts : List TypeId} {ds : List (DataW H)} (hsz : (DataW.weightsEach Tryd.prog ts ds).all (· ≤ reachBytes) = true) {j : Nat} {d : DataW H} {xs : List Nn} (ht : ts[j]? = some 24)
    (hd : ∀ el sp, d = .slice el sp → ds[j]? = some (.slice el sp)) (hz : (∃ el sp, d = .slice el sp ∧ el.length = xs.length) ∨ xs = []) : xs.length * 40 ≤ 140737488351232 := by
  rcases hz with ⟨el, sp, rfl, hl⟩ | rfl
  · have := sized_slice hsz ht (hd el sp rfl) Tryd.underlying24
    rw [bytes_nn] at this
    simp only [reachBytes] at this
    omega
  · simp
theorem open_nodes4 {H : Type} {enc : TypeId × Value → H} {w : World} {r : Reach} {b0 : Nat} {v : Value} {d : DataW H} {p : List MemPlace} (hv : Value.okWide Tryd.prog w r b0 24 v) (h : DataW.Trod enc Tryd.prog w 0 (fun _ => true) true 24 v d p) :
    ∃ (ao : Option Addr) (cap : Nat) (ns : List Nn), v = .slice ao (List.length ns) cap ∧ SlOf 5 nnL w ao ns ∧ (∀ x ∈ ns, x.wf) ∧ ((∃ el sp, d = .slice el sp ∧ el.length = ns.length) ∨ ns = []) ∧ (ao = none → cap = 0) := by
  have : Inhabited Nn := ⟨nn0⟩
  obtain ⟨ao, cap, xs, e, S, G, z, hc⟩ := open_slice_of (ks := [.int .u64, .int .u64, .int .i64, .int .i64, .bool]) nnL Nn.wf Tryd.underlying24 flat_nn cells_nn (by decide) (fun cs hF => nn_cells hF) hv h
  exact ⟨ao, cap, xs, e, S, G, z, hc⟩
theorem Lst.lt {n : Nat} {P Q : Nat → Prop} {js : List Nat} (h : Lst n P Q js) {i j : Nat} (hij : i < j) (hj : j < js.length) : js.getD i 0 < js.getD j 0 := by
  have z := List.pairwise_iff_getElem.1 h.up i j (by omega) hj hij
  have e1 : js.getD i 0 = js[i] := by simp [show i < js.length by omega]
  have e2 : js.getD j 0 = js[j] := by simp [hj]
  rw [e1, e2]; exact z
end K
set_option maxRecDepth 100000 in
set_option maxHeartbeats 8000000 in
theorem buildAlone_walk (w : World) (c : Cfg) (_hg : c.wf) (ao : Option Addr) (ns : List Nn) (cap : Nat) (hs : SlOf 5 nnL w ao ns) (hw : ∀ x ∈ ns, x.wf) (hc : ao = none → cap = 0) (hlen : ns.length * 40 ≤ 140737488351232) (kz : Int) (_hk : (Lit.int .i64 kz).wf = true) (hT : Tab w) :
    Calls Tryd.prog 3 #[c.val, .slice ao ns.length cap, .int .i64 kz] w fun e w' => e = .returned (.bool true) ∧ Kept [] w w' := by
  simp only [Cfg.val]
  obtain ⟨n, hn⟩ : ∃ n, n = ns.length := ⟨_, rfl⟩
  rw [← hn]
  have HNN := hidOf hn
  have HS := hidOf hs
  have HW := hidOf hw
  have HCP := hidOf hc
  have HT := hidOf hT
  have HLN := hidOf hlen
  clear hn hs hw hT hc hlen
  obtain ⟨q, hq⟩ : ∃ q, q = w.heap.size := ⟨_, rfl⟩
  have BX : Hid (RW 23 (w.alloc (.cells #[.int .i64 c.t, .int .i64 c.s, .int .i64 c.c, .int .i64 c.h, .int .i64 c.k, .int .i64 c.e, .int .i64 c.l] 23)) q #[.int .i64 c.t, .int .i64 c.s, .int .i64 c.c, .int .i64 c.h, .int .i64 c.k, .int .i64 c.e, .int .i64 c.l] ∧ Kept [] w (w.alloc (.cells #[.int .i64 c.t, .int .i64 c.s, .int .i64 c.c, .int .i64 c.h, .int .i64 c.k, .int .i64 c.e, .int .i64 c.l] 23))) := by rw [hq]; exact ⟨RW.new _ _ _, (Kept.refl [] w).alloc _⟩
  go_enter Tryd.func3, Tryd.ntmps3
  go_upto_region 1 with (fail)
  rw [← hq]
  refine gen_world (fun W => RW 23 W q #[.int .i64 c.t, .int .i64 c.s, .int .i64 c.c, .int .i64 c.h, .int .i64 c.k, .int .i64 c.e, .int .i64 c.l] ∧ Kept [] w W) BX.out ?_
  have hqw : w.heap.size ≤ q := by omega
  clear BX hq
  rintro W ⟨CB0, K0⟩
  have HX := hidOf (And.intro CB0 K0)
  clear CB0 K0
  by_cases hk0 : kz < 0
  · have hk0b : decide (0 ≤ kz) = false := by simp; omega
    go_wp2_with (first | ((with_reducible change wpList _ _ _ (Oper.mk _ (Op.load 23 (Operand.tmp 3)) _ _ _ _ :: _) _ _); refine wpList_load_rw 23 isT_cf rfl (.tmp 3) rfl q rfl #[.int .i64 c.t, .int .i64 c.s, .int .i64 c.c, .int .i64 c.h, .int .i64 c.k, .int .i64 c.e, .int .i64 c.l] rfl HX.out.1 ?_))
    refine (laid_any c ns ao n cap kz W HW.out (HS.out.new HX.out.2) HNN.out HCP.out).mono ?_
    rintro e w1 ⟨K1, ⟨rfl, no⟩ | ⟨k, rfl, hk, -⟩⟩
    · have K2 := hidOf (HX.out.2.trans K1)
      clear K1 no
      have AL := hidOf (alive_any _ (HT.out.kept (K2.out)))
      have KF := hidOf (K2.out)
      go_wp2_with fail
      refine AL.out.mono ?_
      rintro e WA ⟨rfl, KA⟩
      have KG := hidOf (KF.out.trans KA)
      clear KA
      go_wp2
      go_ret
      exact ⟨rfl, KG.out⟩
    · exfalso; have := HNN.out; omega
  have hk0b : decide (0 ≤ kz) = true := by simp; omega
  by_cases hk1 : (n : Int) ≤ kz
  · have hk1b : decide (kz < (n : Int)) = false := by simp; omega
    go_wp2_with (first | ((with_reducible change wpList _ _ _ (Oper.mk _ (Op.load 23 (Operand.tmp 3)) _ _ _ _ :: _) _ _); refine wpList_load_rw 23 isT_cf rfl (.tmp 3) rfl q rfl #[.int .i64 c.t, .int .i64 c.s, .int .i64 c.c, .int .i64 c.h, .int .i64 c.k, .int .i64 c.e, .int .i64 c.l] rfl HX.out.1 ?_))
    refine (laid_any c ns ao n cap kz W HW.out (HS.out.new HX.out.2) HNN.out HCP.out).mono ?_
    rintro e w1 ⟨K1, ⟨rfl, no⟩ | ⟨k, rfl, hk, -⟩⟩
    · have K2 := hidOf (HX.out.2.trans K1)
      clear K1 no
      have AL := hidOf (alive_any _ (HT.out.kept (K2.out)))
      have KF := hidOf (K2.out)
      go_wp2_with fail
      refine AL.out.mono ?_
      rintro e WA ⟨rfl, KA⟩
      have KG := hidOf (KF.out.trans KA)
      clear KA
      go_wp2
      go_ret
      exact ⟨rfl, KG.out⟩
    · exfalso; have := HNN.out; omega
  obtain ⟨k, rfl⟩ : ∃ k : Nat, kz = k := ⟨kz.toNat, by omega⟩
  have hkn : (k : Int) < n := by omega
  have hknl : k < n := by omega
  have HK0 := hidOf (show k < ns.length by have := HNN.out; omega)
  obtain ⟨g, c', w2, hap, hg, NR0, K2⟩ := append_nn2 24 W ns ao n cap HNN.out (HS.out.new HX.out.2) HCP.out HLN.out
  obtain ⟨x0, hx0⟩ : ∃ x, x = ns.getD k nn0 := ⟨_, rfl⟩
  have HX0 := hidOf hx0
  have HGQ := hidOf (show ¬ g = q ∧ w.heap.size ≤ g from ⟨by have := lt_of_blk HX.out.1; omega, by have := HX.out.2.size; omega⟩)
  have KS : Hid (∀ (Y : World), Y = (w2.setCell ⟨g, k * 5 + 3, none⟩ (.int .i64 0)).setCell ⟨g, k * 5 + 4, none⟩ (.bool false) → RW 23 Y q #[.int .i64 c.t, .int .i64 c.s, .int .i64 c.c, .int .i64 c.h, .int .i64 c.k, .int .i64 c.e, .int .i64 c.l] ∧ Kept [] w Y ∧ NRow Y g (ns.set k { x0 with m := 0, d := false })) := hidOf (fun Y e => by
    subst e
    have ks := ((Kept.refl [g] w2).setCell (p := ⟨g, k * 5 + 3, none⟩) (Or.inl (by simp)) (.int .i64 0)).setCell (p := ⟨g, k * 5 + 4, none⟩) (Or.inl (by simp)) (.bool false)
    have z := (NR0.set HK0.out { x0 with m := 0 } 3 (.int .i64 0) (by omega) (fun j hj => by rw [← HX0.out]; rcases (by omega : j = 0 ∨ j = 1 ∨ j = 2 ∨ j = 3 ∨ j = 4) with e | e | e | e | e <;> subst e <;> rfl)).set (k := k) (by simpa using HK0.out) { x0 with m := 0, d := false } 4 (.bool false) (by omega) (fun j hj => by rw [getD_put _ _ _ _ _ HK0.out, if_pos rfl]; rcases (by omega : j = 0 ∨ j = 1 ∨ j = 2 ∨ j = 3 ∨ j = 4) with e | e | e | e | e <;> subst e <;> rfl)
    rw [List.set_set] at z
    exact ⟨(HX.out.1.kept K2 (by simp)).kept ks (by simp; have := HGQ.out; omega), (HX.out.2.trans K2).then ks (fun y hy => by simp at hy; subst hy; exact Or.inr HGQ.out.2), z⟩)
  obtain ⟨A, zA, qA⟩ := NR0
  have n3 := cell_of_blk zA (qA k HK0.out).2.2.2.1
  have n4 := cell_of_blk zA (qA k HK0.out).2.2.2.2
  have nf := free_of_blk zA
  have nl := lt_of_blk zA
  clear zA qA hg K2 hk0 hk1 hx0
  go_upto_region 4 with (first | (at_builtin; refine wpList_append_run rfl (.tmp 24) (.tmp 25) 24 rfl rfl rfl hap ?_))
  obtain ⟨ns2, hns2⟩ : ∃ ns2, ns2 = ns.set k { x0 with m := 0, d := false } := ⟨_, rfl⟩
  have HN2 := hidOf (show n = ns2.length ∧ (∀ x ∈ ns2, x.wf) ∧ (ns2.getD k nn0).m = 0 from by
    rw [hns2]
    refine ⟨by have := HNN.out; simp; omega, fun x hx => ?_, by rw [getD_put _ _ _ _ _ HK0.out, if_pos rfl]⟩
    rcases List.mem_or_eq_of_mem_set hx with hx | rfl
    · exact HW.out x hx
    · have e : ns.getD k nn0 = ns[k]'HK0.out := by simp [HK0.out]
      have z : x0.wf := by rw [HX0.out, e]; exact HW.out _ (List.getElem_mem _)
      exact z)
  rw [← hns2] at KS
  refine gen_world (fun U => RW 23 U q #[.int .i64 c.t, .int .i64 c.s, .int .i64 c.c, .int .i64 c.h, .int .i64 c.k, .int .i64 c.e, .int .i64 c.l] ∧ Kept [] w U ∧ NRow U g ns2) (KS.out _ rfl) ?_
  clear KS hap nf nl n3 n4 hns2 hk0b HX HX0
  rintro U ⟨UC, UK, UN⟩
  have HX := hidOf (And.intro UC UK)
  have HU := hidOf UN
  clear UC UK UN
  go_wp2_with (first | ((with_reducible change wpList _ _ _ (Oper.mk _ (Op.load 23 (Operand.tmp 3)) _ _ _ _ :: _) _ _); refine wpList_load_rw 23 isT_cf rfl (.tmp 3) rfl q rfl #[.int .i64 c.t, .int .i64 c.s, .int .i64 c.c, .int .i64 c.h, .int .i64 c.k, .int .i64 c.e, .int .i64 c.l] rfl HX.out.1 ?_))
  refine (laid_any c ns2 (some ⟨g, 0, none⟩) n c' (k : Int) U HN2.out.2.1 HU.out.sl HN2.out.1 (fun z => by cases z)).mono ?_
  rintro e w1 ⟨K1, ⟨rfl, no⟩ | ⟨k', hkk, hk, hR, m, p, r, rfl, hpr, M⟩⟩
  · have K2 := hidOf (HX.out.2.trans K1)
    clear K1 no
    have AL := hidOf (alive_any _ (HT.out.kept (K2.out)))
    have KF := hidOf (K2.out)
    go_wp2_with fail
    refine AL.out.mono ?_
    rintro e WA ⟨rfl, KA⟩
    have KG := hidOf (KF.out.trans KA)
    clear KA
    go_wp2
    go_ret
    exact ⟨rfl, KG.out⟩
  obtain rfl : k = k' := by omega
  have HR := hidOf hR
  have RR := hidOf (riB_true.1 hR.r)
  have HK := hidOf hk
  have n64 : (n : Int) ≤ 64 := by have := HR.out.n; have := HN2.out.1; have := RR.out.c1; omega
  have HY := hidOf (And.intro M K1)
  have HPR := hidOf hpr
  have HK1 := hidOf K1
  clear M K1 hpr hR hk hkk
  obtain ⟨x, hx⟩ : ∃ x, x = ns2.getD k nn0 := ⟨_, rfl⟩
  have HXE := hidOf hx
  have nb := HR.out.b k HK.out
  rw [← hx] at nb
  have HNB := hidOf nb
  have HM0 := hidOf (show x.m = 0 by rw [hx]; exact HN2.out.2.2)
  obtain ⟨TT, hTT⟩ : ∃ TT, TT = x.t := ⟨_, rfl⟩
  have RO : Hid (∀ Y, Kept [] U Y → (Y.cell? ⟨g, k * 5, none⟩ = some (.int .u64 x.k) ∧ Y.cell? ⟨g, k * 5 + 2, none⟩ = some (.int .i64 TT) ∧ True) ∧ g < Y.heap.size) := hidOf (fun Y kk => by
    obtain ⟨A, zA, qA⟩ := HU.out.kept kk (by simp)
    have y0 := cell_of_blk zA (qA k HK.out).1
    have y2 := cell_of_blk zA (qA k HK.out).2.2.1
    rw [← HXE.out] at y0 y2
    exact ⟨⟨y0, by rw [hTT]; exact y2, trivial⟩, lt_of_blk zA⟩)
  have HTM := hidOf hTT
  have bds : 1 ≤ TT ∧ TT ≤ 6 ∧ TT ≤ c.h := by obtain ⟨a1, a2, a3, a4, _⟩ := HNB.out; have := RR.out.h1; omega
  have t1 := bds.1
  have t6 := bds.2.1
  have HTH := hidOf bds.2.2
  clear hx nb hTT bds
  have OF1 : Hid (∀ (Y : World), Kept [] w1 Y → Calls Tryd.prog 11 #[.int .i64 (IntKind.i64.wrap ((k : Int) + 1)), .int .i64 0] Y fun e w' => e = .returned (.int .u64 (hw (k + 1))) ∧ Kept [] w1 w') := hidOf (fun Y kk => by
    rw [show IntKind.i64.wrap ((k : Int) + 1) = (k : Int) + 1 by rw [IntKind.wrap_i64]; omega]
    have z := rof1_any ((k : Int) + 1) 0 Y (by omega) (by omega)
    rw [pack_hw1] at z
    exact z.mono fun _ _ hh => And.intro hh.1 (kk.trans hh.2))
  have HWI := hidOf (hw_isW (k := k + 1) (by omega))
  obtain ⟨HWK, hHWK⟩ : ∃ z, z = hw (k + 1) := ⟨_, rfl⟩
  rw [← hHWK] at OF1 HWI
  have HHW := hidOf hHWK
  clear hHWK
  have SX : Hid (∀ W' : World, Kept [] w1 W' → W'.cell? ⟨g, k * 5, none⟩ = some (.int .u64 x.k) ∧ W'.cell? ⟨g, k * 5 + 2, none⟩ = some (.int .i64 TT)) := hidOf (fun W' kk => by
    have z := (RO.out W' (HY.out.2.trans kk)).1
    exact ⟨z.1, z.2.1⟩)
  have NW := hidOf (fun (W' : World) (kk : Kept [] w1 W') => (bnew_any HWK x.k TT W').mono fun e w' hh => (by
    obtain ⟨b, fb, e1, h1, h2, B, F, K⟩ := hh
    have := kk.size
    exact ⟨b, fb, e1, by omega, by omega, B, F, kk.trans K⟩ : ∃ b fb, e = .returned (.pointer (some ⟨b, 0, none⟩)) ∧ w1.heap.size ≤ b ∧ w1.heap.size ≤ fb ∧ BB w' b fb HWK x.k TT (if TT < 2 then .nilFunc else K.ffV 46 b) 1 0 ∧ FB w' fb (K.ffV 60 fb) x.k 0 0 0 0 0 none 0 0 ∧ Kept [] w1 w'))
  go_wp2_with fail
  go_region_held3 (fun W' => W'.cell? ⟨g, k * 5, none⟩ = some (.int .u64 x.k) ∧ W'.cell? ⟨g, k * 5 + 2, none⟩ = some (.int .i64 TT))
    (exact SX.out _ (by first | assumption | exact (Kept.refl _ _).drew | exact Kept.refl _ _))
    (first
      | (go_at_call 11; with_reducible refine (OF1.out _ (by first | assumption | exact (Kept.refl _ _).drew)).mono ?_; rintro e w7 ⟨rfl, K7⟩)
      | (go_at_call 10; with_reducible refine (NW.out _ (by first | assumption | exact (Kept.refl _ _).drew)).mono ?_; rintro e w8 ⟨b, fb, rfl, hb, hfb, B8, F8, K8⟩))
  have WFX : x.wf := by
    rw [HXE.out]
    have e : ns2.getD k nn0 = ns2[k]'HK.out := by simp [HK.out]
    rw [e]; exact HN2.out.2.1 _ (List.getElem_mem _)
  have LP := laid_is HR.out HN2.out.2.1 HK.out
  have hT0 : ((tT ns2 k : Nat) : Int) = TT := by unfold tT; rw [← HXE.out, ← HTM.out]; omega
  have hU0 : ((tU ns2 k : Nat) : Int) = TT := by unfold tU; rw [← HXE.out, ← HTM.out, HM0.out]; omega
  obtain ⟨l1, hl1⟩ : ∃ l1, l1 = ndOf c (lowN ns2 k) := ⟨_, rfl⟩
  obtain ⟨LV, hLV⟩ : ∃ LV, LV = laidV c ns2 k := ⟨_, rfl⟩
  obtain ⟨T, hT⟩ : ∃ T, T = tT ns2 k := ⟨_, rfl⟩
  have hTU : tU ns2 k = T := by omega
  rw [← hLV] at HY
  rw [← hT] at hT0
  have HLP : Hid ((Low c l1 (k + 1) T T ∧ l1.K (k + 1) = x.k ∧ ((LV.length : Nat) : Int) = lnV c ∧ Wds LV) ∧ Rep c l1 LV (N0 l1) ∧ Sk l1 (N0 l1) ∧ Zup c l1 (k + 1) T T LV 1 ∧ l1.n = n ∧ ∀ L i : Nat, i < n → ((L : Int) < (ns2.getD i nn0).t - (ns2.getD i nn0).m ↔ LiveF l1 (k + 1) T L (i + 1))) := hidOf (by
    have z1 := LP.lo
    have z2 := LP.up
    have z3 := LP.lv
    rw [hTU] at z1 z2 z3
    rw [← hT] at z1 z2
    rw [hl1, hLV, HXE.out]
    exact ⟨⟨z1, LP.kz, LP.ln, LP.wd⟩, LP.rep, LP.sk, z2, by have := HN2.out.1; rw [LP.nn]; omega, fun L i hi => z3 L i (by have := HN2.out.1; omega)⟩)
  clear LP hl1 hLV hT hTU hU0
  have HP : Hid (Bp U w8 b fb m p r c HWK x.k TT LV 0 Acc.zero) := hidOf (by
    have sz := HK1.out.size
    exact ⟨B8, F8, HY.out.1.new K8, HK1.out.trans K8, HT.out.kept HX.out.2, by omega, by omega, HPR.out.2.1, HPR.out.2.2, HR.out.r, HLP.out.1.2.2.2, Int.le_refl _, HWI.out, WFX.1⟩)
  have FL := full_le RR.out HLP.out.1.1.ok
  have EA := hidOf (ends_any (fun cs g s lf => Ba c l1 (k + 1) T T x.k cs g s lf) U w8 b fb m p r c HWK x.k TT LV 0 Acc.zero 2000 (full c l1 + 3 + 3 * T) HP.out (by omega) (by omega) (by omega)
    (by
      have z := Ba.start (t := 0) HR.out.r HLP.out.1.1 HLP.out.1.2.1 HLP.out.1.2.2.1 HLP.out.2.1 HLP.out.2.2.1 HLP.out.2.2.2.1
      rw [hT0, ← HHW.out] at z
      rw [hT0]
      exact z) (fun cs g s lf cnt' h hd => Ba.step HR.out.r h cnt' hd) (fun cs g s lf h hl => (Ba.done h hl).d))
  clear hb hfb B8 F8 K8 HP SX NW OF1 K7 FL
  go_wp2_with fail
  refine EA.out.mono ?_
  rintro e wE ⟨n9, rfl, -, gb, fb9, g0, s, cs, cnt, a, BW, ⟨lf, II⟩, hd, z1, z2⟩
  have E := II.fin hd
  have HI := hidOf (And.intro hd E)
  have HBW := hidOf (And.intro BW (show 0 ≤ cnt ∧ cnt ≤ 3000 by have := full_le RR.out HLP.out.1.1.ok; omega))
  have HHN := hidOf (HN_eq RR.out)
  have h6 : c.h ≤ 6 := RR.out.h1
  have h0 : 1 ≤ c.h := RR.out.h0
  clear EA BW II hd z1 z2 E lf
  have y3 := cell_of_blk (HX.out.1.kept HBW.out.1.fw.kp (by simp)) (i := 3) (v := .int .i64 c.h) rfl
  go_wp2
  clear y3
  go_loopw [67, 11, 12, 13, 14, 15] (fun s67 _ _ _ _ _ wr => ∃ L : Nat, (L : Int) ≤ c.h ∧ s67 = .int .i64 L ∧ ∃ cnt a, Bw (Bh U) U wr b fb9 gb m p r c g0 s cs cnt a ∧ 0 ≤ cnt ∧ cnt ≤ 3000 + 500 * L) (fun s67 _ _ _ _ _ _ => (c.h - intOf s67).toNat)
  case atStart => exact ⟨0, by omega, by first | rfl | go_num, cnt, a, HBW.out.1, HBW.out.2.1, by have := HBW.out.2.2; omega⟩
  case round =>
    clear HBW
    obtain ⟨L, hL, rfl, cnt, a, Z, z0, z1⟩ := hrel
    have HZ := hidOf (And.intro Z (And.intro z0 z1))
    clear Z z0 z1
    by_cases hlt : (L : Int) < c.h
    · have hLH : L < HN c := by have := HHN.out; omega
      have LK := hidOf (linked_any wr m p r c cs cnt a L n (LiveF l1 (k + 1) T L) (fun i => i = k + 1 → L = 0 ∨ L < T) HZ.out.1.fw.st.mm HZ.out.1.fw.st.tb RR.out HZ.out.1.pr0.1 HZ.out.1.pr0.2 (by have := HR.out.n; have := HN2.out.1; omega) hLH (by have z := HI.out.2.ch L hLH; rw [HLP.out.2.2.2.2.1] at z; exact z) HZ.out.2.1 (by have := HZ.out.2.2; omega))
      have hL6 : (L : Int) ≤ 6 := by omega
      go_wp2_with fail
      refine LK.out.mono ?_
      rintro e w10 ⟨js, v, cnt2, a2, rfl, O, LS, M, c3, c4, K⟩
      obtain ⟨jo, jc, rfl, CL⟩ := own_i O
      have HB10 := hidOf (And.intro (HZ.out.1.mm M K (by have := HZ.out.2.1; omega)) (show 0 ≤ cnt2 ∧ cnt2 ≤ 3000 + 500 * L + 70 by have := HZ.out.2; omega))
      rw [jsI_len] at CL ⊢
      obtain ⟨jn, hjn⟩ : ∃ jn, jn = js.length := ⟨_, rfl⟩
      rw [← hjn] at CL ⊢
      have HIN := hidOf (show (∀ i : Nat, i < n → (L : Int) < (ns2.getD i nn0).t - (ns2.getD i nn0).m → ∃ e, e < jn ∧ js.getD e 0 = i + 1 ∧ ∀ j, j < e → js.getD j 0 < i + 1) from fun i hi hl => by
        have z := LS.all (i + 1) (by omega) (by omega) ((HLP.out.2.2.2.2.2 L i hi).1 hl)
        obtain ⟨e, he, ee⟩ := mem_getD.1 z
        exact ⟨e, by omega, ee, fun j hj => by rw [← ee]; exact LS.lt hj he⟩)
      have HCL := hidOf CL
      have jn64 : (jn : Int) ≤ 64 := by have := LS.len; omega
      clear LK O LS M c3 c4 K HZ hjn CL
      go_wp2
      go_loopw [75, 12, 14, 15] (fun s75 s12 _ _ wr2 => ∃ (i t : Nat), i ≤ n ∧ s75 = .int .i64 i ∧ s12 = .int .i64 t ∧ Hid (t ≤ jn ∧ ∀ j, j < t → js.getD j 0 < i + 1) ∧ Kept [] w10 wr2) (fun s75 _ _ _ _ => n - (intOf s75).toNat)
      case atStart => exact ⟨0, 0, by omega, by first | rfl | go_num, by first | rfl | go_num, hidOf ⟨Nat.zero_le _, fun j h => absurd h (Nat.not_lt_zero _)⟩, Kept.refl _ _⟩
      case round =>
        obtain ⟨i, t, hi, rfl, rfl, HD, KI⟩ := hrel
        have HKI := hidOf KI
        clear KI
        by_cases hlti : i < n
        · have hiz : (i : Int) < (n : Int) := by omega
          obtain ⟨A, zA, qA⟩ := (HU.out.kept HB10.out.1.fw.kp (by simp)).kept HKI.out (by simp)
          obtain ⟨y, hy⟩ : ∃ y, y = ns2.getD i nn0 := ⟨_, rfl⟩
          have qi := qA i (by have := HN2.out.1; omega)
          rw [← hy] at qi
          have HYE := hidOf hy
          have nb1 := HR.out.b i (by have := HN2.out.1; omega)
          rw [← hy] at nb1
          have yt0 : 1 ≤ y.t ∧ y.t ≤ 6 ∧ 0 ≤ y.m ∧ y.m ≤ y.t := by obtain ⟨a1, a2, a3, a4, _⟩ := nb1; omega
          have u1 := yt0.1
          have u2 := yt0.2.1
          have u3 := yt0.2.2.1
          have u4 := yt0.2.2.2
          have s0 := cell_of_blk zA qi.1
          have s1 := cell_of_blk zA qi.2.1
          have s2 := cell_of_blk zA qi.2.2.1
          have s3 := cell_of_blk zA qi.2.2.2.1
          have s4 := cell_of_blk zA qi.2.2.2.2
          have sl := lt_of_blk zA
          clear hy nb1 zA qA qi yt0
          have HIi := hidOf (HIN.out i hlti)
          rw [← HYE.out] at HIi
          have inb : (n : Int) ≤ 3518437208832 := by have := HLN.out; have := HNN.out; omega
          obtain ⟨yb, hyb⟩ : ∃ yb, yb = wr.heap.size := ⟨_, rfl⟩
          go_upto_region 19 with (fail)
          rw [← hyb]
          refine gen_world (fun V => Kept [] w10 V ∧ RW 27 V yb (nnA y)) ?_ ?_
          · rw [hyb]; exact ⟨HKI.out.trans ((Kept.refl [] wr).alloc _), RW.new 27 wr (nnA y)⟩
          clear hyb s0 s1 s2 s3 s4 sl HKI
          rintro V ⟨KV, YB⟩
          have HKV := hidOf KV
          clear KV
          have z2 := cell_of_blk YB (i := 2) (v := .int .i64 y.t) rfl
          have z3 := cell_of_blk YB (i := 3) (v := .int .i64 y.m) rfl
          clear YB
          have HCV : Hid (∀ at0, at0 < jn → ∃ b, jo = some ⟨b, 0, none⟩ ∧ ∀ Y, Kept [] w10 Y → b < Y.heap.size ∧ Y.cell? ⟨b, at0, none⟩ = some (.int .i64 ((js.getD at0 0 : Nat) : Int))) := hidOf (fun at0 h => by
            obtain ⟨b, e, h1, h2⟩ := HCL.out at0 h
            rw [jsI_get] at h2
            exact ⟨b, e, fun Y kk => ⟨by have := kk.size; omega, (kept_cell kk (b := b) (o := at0) h1).trans h2⟩⟩)
          by_cases hc1 : y.t ≤ (L : Int)
          · go_wp2
            go_roundw
            case rel => exact ⟨i + 1, t, by omega, by go_num, rfl, hidOf ⟨HD.out.1, fun j h => by have := HD.out.2 j h; omega⟩, HKV.out⟩
            case measure => simp [intOf]; omega
          · by_cases hc2 : y.t - y.m ≤ (L : Int)
            · go_wp2
              go_roundw
              case rel => exact ⟨i + 1, t, by omega, by go_num, rfl, hidOf ⟨HD.out.1, fun j h => by have := HD.out.2 j h; omega⟩, HKV.out⟩
              case measure => simp [intOf]; omega
            · obtain ⟨e0, he0, ee, el⟩ := HIi.out (by omega)
              have HE := hidOf (And.intro ee el)
              have HT0 := hidOf (show t ≤ e0 from by
                rcases Nat.lt_or_ge e0 t with h | h
                · have := HD.out.2 e0 h; omega
                · exact h)
              clear ee el HIi
              go_wp2
              go_loopw [12] (fun s12 wr => ∃ t2 : Nat, t2 ≤ e0 ∧ s12 = .int .i64 t2 ∧ Kept [] w10 wr) (fun s12 _ => e0 - (intOf s12).toNat)
              case atStart => exact ⟨t, HT0.out, by first | rfl | go_num, HKV.out⟩
              case round =>
                obtain ⟨t2, ht2, rfl, KT⟩ := hrel
                have htj : (t2 : Int) < (jn : Int) := by omega
                obtain ⟨jb, ej, jj⟩ := HCV.out t2 (by omega)
                have jl := (jj _ KT).1
                have jc0 := (jj _ KT).2
                have HKT := hidOf KT
                clear KT jj
                subst ej
                by_cases hte : t2 = e0
                · subst hte
                  rw [HE.out.1] at jc0
                  have hj1 : ¬ (t2 : Int) = (jn : Int) := by omega
                  go_wp2
                  go_roundw
                  case rel => exact ⟨i + 1, t2, by omega, by go_num, rfl, hidOf ⟨by omega, fun j h => by have := HE.out.2 j h; omega⟩, HKT.out⟩
                  case measure => simp [intOf]; omega
                · have hjv : ¬ ((js.getD t2 0 : Nat) : Int) = (i : Int) + 1 := by have := HE.out.2 t2 (by omega); omega
                  obtain ⟨J, hJ⟩ : ∃ J : Int, J = ((js.getD t2 0 : Nat) : Int) := ⟨_, rfl⟩
                  rw [← hJ] at hjv jc0
                  clear hJ
                  go_wp2
                  go_roundw
                  case rel => exact ⟨t2 + 1, by omega, by go_num, HKT.out⟩
                  case measure => simp [intOf]; omega
        · have hie : i = n := by omega
          subst hie
          have HB11 := hidOf (HB10.out.1.new HKI.out)
          go_wp2
          go_roundw
          case rel => exact ⟨L + 1, by omega, by go_num, cnt2, a2, HB11.out, HB10.out.2.1, by have := HB10.out.2.2; omega⟩
          case measure => simp [intOf]; omega
    · have KF := hidOf (HX.out.2.trans HZ.out.1.fw.kp)
      have ALV := hidOf (fun (Y : World) (kk : Kept [] wr Y) => (alive_any Y (HZ.out.1.new kk).fw.st.tb).mono fun _ _ z => And.intro z.1 (kk.trans z.2))
      have DNE := hidOf (fun (Y : World) (kk : Kept [] wr Y) => (bdone_any b fb9 s Y (HZ.out.1.new kk).bb).mono fun _ w' z => (⟨z.1, by rw [z.2]; exact kk⟩ : _ ∧ Kept [] wr w'))
      rw [HI.out.1] at DNE
      have LVL := hidOf (fun (Y : World) (kk : Kept [] wr Y) => (blevel_any b fb9 _ _ _ _ _ _ Y (HZ.out.1.new kk).bb).mono fun _ w' z => (⟨z.1, by rw [z.2]; exact kk⟩ : _ ∧ Kept [] wr w'))
      rw [HI.out.2.lv, show ((max 1 T : Nat) : Int) = TT by omega] at LVL
      have HS0 : Hid (∀ W' : World, Kept [] wr W' → W'.cell? ⟨g, k * 5 + 2, none⟩ = some (.int .i64 TT)) := hidOf (fun W' kk => by
        have z := (RO.out W' (HZ.out.1.fw.kp.trans kk)).1
        exact z.2.1)
      by_cases ht2 : TT < 2
      · have ht2b : decide (TT < 2) = true := by simpa using ht2
        go_wp2_with fail
        refine wp_region_held_drew (S := fun w' => Kept [] wr w') (by kernel_rfl) (Kept.refl [] wr).drew (fun hS => ?_)
        refine wpAnyH_ready (rs := [0]) (by kernel_rfl) (by simp) ?_
        refine AllReadyH.cons (o := { dst := some 114, op := Op.call { callee := Callee.value (Operand.func 9), args := #[], argTypes := #[] }, type := 4, pos := "law.go:142", after := #[], guard := none }) rfl (fun K hK => ?_) AllReadyH.nil
        rw [if_pos (by rfl)]
        refine wp_calls 9 #[] (by kernel_rfl) (fun v V => v = .bool true ∧ Kept [] wr V) ((ALV.out _ hS).mono fun e w' hh => ⟨_, hh.1, rfl, hh.2⟩) ?_
        rintro _ wt0 ⟨rfl, KT0⟩
        try simp only [Act.put, List.setIfInBounds_toArray, List.set_cons_zero, List.set_cons_succ]
        refine hK.out _ _ (KT0) (fun hS => ?_)
        clear hK K
        refine wpAnyH_take (i := 1) (oi := { dst := some 115, op := Op.move (Operand.tmp 114), type := 4, pos := "law.go:142", after := #[{ on := 0, ground := Ground.data }, { on := 0, ground := Ground.chain }], guard := none }) (v := .bool true) rfl (by kernel_rfl) (by kernel_rfl) (by kernel_rfl) (fun _ _ _ h => h) (Or.inl ⟨by rfl, fun w hSw => by have q0 := HS0.out _ hSw; go_simp⟩) hS ?_
        try simp only [Act.put, List.setIfInBounds_toArray, List.set_cons_zero, List.set_cons_succ]
        refine wpAnyH_take (i := 2) (oi := { dst := some 116, op := Op.move (Operand.tmp 10), type := 32, pos := "law.go:142", after := #[{ on := 1, ground := Ground.guard }], guard := some (1, true) }) (v := .pointer (some ⟨b, 0, none⟩)) rfl (by kernel_rfl) (by kernel_rfl) (by kernel_rfl) (fun _ _ _ h => h) (Or.inl ⟨by rfl, fun w hSw => by have q0 := HS0.out _ hSw; go_simp⟩) hS ?_
        try simp only [Act.put, List.setIfInBounds_toArray, List.set_cons_zero, List.set_cons_succ]
        refine wpAnyH_ready (rs := [3]) (by kernel_rfl) (by simp) ?_
        refine AllReadyH.cons (o := { dst := some 117, op := Op.call { callee := Callee.value (Operand.func 14), args := #[Operand.tmp 116], argTypes := #[32] }, type := 4, pos := "law.go:142", after := #[{ on := 2, ground := Ground.data }, { on := 1, ground := Ground.chain }, { on := 1, ground := Ground.guard }], guard := some (1, true) }) rfl (fun K hK => ?_) AllReadyH.nil
        rw [if_pos (by rfl)]
        refine wp_calls 14 #[.pointer (some ⟨b, 0, none⟩)] (by kernel_rfl) (fun v V => v = .bool true ∧ Kept [] wr V) ((DNE.out _ hS).mono fun e w' hh => ⟨_, hh.1, rfl, hh.2⟩) ?_
        rintro _ wt1 ⟨rfl, KT1⟩
        try simp only [Act.put, List.setIfInBounds_toArray, List.set_cons_zero, List.set_cons_succ]
        refine hK.out _ _ (KT1) (fun hS => ?_)
        clear hK K
        refine wpAnyH_take (i := 4) (oi := { dst := some 118, op := Op.pick (Operand.tmp 115) (Operand.tmp 117) (Operand.const (Value.bool false)), type := 4, pos := "law.go:142", after := #[{ on := 1, ground := Ground.data }, { on := 3, ground := Ground.data }], guard := none }) (v := .bool true) rfl (by kernel_rfl) (by kernel_rfl) (by kernel_rfl) (fun _ _ _ h => h) (Or.inl ⟨by rfl, fun w hSw => by have q0 := HS0.out _ hSw; go_simp⟩) hS ?_
        try simp only [Act.put, List.setIfInBounds_toArray, List.set_cons_zero, List.set_cons_succ]
        refine wpAnyH_take (i := 5) (oi := { dst := some 119, op := Op.move (Operand.tmp 118), type := 4, pos := "law.go:142", after := #[{ on := 4, ground := Ground.data }, { on := 3, ground := Ground.chain }], guard := none }) (v := .bool true) rfl (by kernel_rfl) (by kernel_rfl) (by kernel_rfl) (fun _ _ _ h => h) (Or.inl ⟨by rfl, fun w hSw => by have q0 := HS0.out _ hSw; go_simp⟩) hS ?_
        try simp only [Act.put, List.setIfInBounds_toArray, List.set_cons_zero, List.set_cons_succ]
        refine wpAnyH_take (i := 6) (oi := { dst := some 120, op := Op.move (Operand.tmp 1), type := 24, pos := "law.go:142", after := #[{ on := 5, ground := Ground.guard }], guard := some (5, true) }) (v := .slice (some ⟨g, 0, none⟩) n c') rfl (by kernel_rfl) (by kernel_rfl) (by kernel_rfl) (fun _ _ _ h => h) (Or.inl ⟨by rfl, fun w hSw => by have q0 := HS0.out _ hSw; go_simp⟩) hS ?_
        try simp only [Act.put, List.setIfInBounds_toArray, List.set_cons_zero, List.set_cons_succ]
        refine wpAnyH_take (i := 7) (oi := { dst := some 121, op := Op.move (Operand.tmp 2), type := 3, pos := "law.go:142", after := #[{ on := 5, ground := Ground.guard }], guard := some (5, true) }) (v := .int .i64 (k : Int)) rfl (by kernel_rfl) (by kernel_rfl) (by kernel_rfl) (fun _ _ _ h => h) (Or.inl ⟨by rfl, fun w hSw => by have q0 := HS0.out _ hSw; go_simp⟩) hS ?_
        try simp only [Act.put, List.setIfInBounds_toArray, List.set_cons_zero, List.set_cons_succ]
        refine wpAnyH_take (i := 8) (oi := { dst := some 122, op := Op.indexAddr 24 (Operand.tmp 120) (Operand.tmp 121), type := 0, pos := "law.go:142", after := #[{ on := 6, ground := Ground.data }, { on := 7, ground := Ground.data }, { on := 5, ground := Ground.guard }], guard := some (5, true) }) (v := .pointer (some ⟨g, k * 5, none⟩)) rfl (by kernel_rfl) (by kernel_rfl) (by kernel_rfl) (fun _ _ _ h => h) (Or.inl ⟨by rfl, fun w hSw => by have q0 := HS0.out _ hSw; go_simp⟩) hS ?_
        try simp only [Act.put, List.setIfInBounds_toArray, List.set_cons_zero, List.set_cons_succ]
        refine wpAnyH_take (i := 9) (oi := { dst := some 123, op := Op.fieldAddr 27 (Operand.tmp 122) 2, type := 0, pos := "law.go:142", after := #[{ on := 8, ground := Ground.data }, { on := 5, ground := Ground.guard }], guard := some (5, true) }) (v := .pointer (some ⟨g, k * 5 + 2, none⟩)) rfl (by kernel_rfl) (by kernel_rfl) (by kernel_rfl) (fun _ _ _ h => h) (Or.inl ⟨by rfl, fun w hSw => by have q0 := HS0.out _ hSw; go_simp⟩) hS ?_
        try simp only [Act.put, List.setIfInBounds_toArray, List.set_cons_zero, List.set_cons_succ]
        refine wpAnyH_take (i := 10) (oi := { dst := some 124, op := Op.load 3 (Operand.tmp 123), type := 3, pos := "law.go:142", after := #[{ on := 9, ground := Ground.data }, { on := 5, ground := Ground.guard }], guard := some (5, true) }) (v := .int .i64 TT) rfl (by kernel_rfl) (by kernel_rfl) (by kernel_rfl) (fun _ _ _ h => h) (Or.inl ⟨by rfl, fun w hSw => by have q0 := HS0.out _ hSw; go_simp⟩) hS ?_
        try simp only [Act.put, List.setIfInBounds_toArray, List.set_cons_zero, List.set_cons_succ]
        refine wpAnyH_take (i := 11) (oi := { dst := some 125, op := Op.binOp BinOp.lss 3 (Operand.tmp 124) (Operand.const (Value.int IntKind.i64 2)) 3, type := 4, pos := "law.go:142", after := #[{ on := 10, ground := Ground.data }, { on := 5, ground := Ground.guard }], guard := some (5, true) }) (v := .bool true) rfl (by kernel_rfl) (by kernel_rfl) (by kernel_rfl) (fun _ _ _ h => h) (Or.inl ⟨by rfl, fun w hSw => by have q0 := HS0.out _ hSw; go_simp⟩) hS ?_
        try simp only [Act.put, List.setIfInBounds_toArray, List.set_cons_zero, List.set_cons_succ]
        refine wpAnyH_take (i := 12) (oi := { dst := some 126, op := Op.move (Operand.tmp 125), type := 4, pos := "law.go:142", after := #[{ on := 11, ground := Ground.data }, { on := 5, ground := Ground.chain }, { on := 5, ground := Ground.guard }], guard := some (5, true) }) (v := .bool true) rfl (by kernel_rfl) (by kernel_rfl) (by kernel_rfl) (fun _ _ _ h => h) (Or.inl ⟨by rfl, fun w hSw => by have q0 := HS0.out _ hSw; go_simp⟩) hS ?_
        try simp only [Act.put, List.setIfInBounds_toArray, List.set_cons_zero, List.set_cons_succ]
        refine wpAnyH_take (i := 13) (oi := { dst := some 127, op := Op.move (Operand.tmp 10), type := 32, pos := "law.go:142", after := #[{ on := 12, ground := Ground.guard }], guard := some (12, false) }) (v := undef) rfl (by kernel_rfl) (by kernel_rfl) (by kernel_rfl) (fun _ _ _ h => h) (Or.inr ⟨by kernel_rfl, rfl⟩) hS ?_
        try simp only [Act.put, List.setIfInBounds_toArray, List.set_cons_zero, List.set_cons_succ]
        refine wpAnyH_take (i := 14) (oi := { dst := some 128, op := Op.call { callee := Callee.value (Operand.func 15), args := #[Operand.tmp 127], argTypes := #[32] }, type := 3, pos := "law.go:142", after := #[{ on := 13, ground := Ground.data }, { on := 12, ground := Ground.chain }, { on := 12, ground := Ground.guard }], guard := some (12, false) }) (v := undef) rfl (by kernel_rfl) (by kernel_rfl) (by kernel_rfl) (fun _ _ _ h => h) (Or.inr ⟨by kernel_rfl, rfl⟩) hS ?_
        try simp only [Act.put, List.setIfInBounds_toArray, List.set_cons_zero, List.set_cons_succ]
        refine wpAnyH_take (i := 15) (oi := { dst := some 129, op := Op.move (Operand.tmp 1), type := 24, pos := "law.go:142", after := #[{ on := 12, ground := Ground.guard }], guard := some (12, false) }) (v := undef) rfl (by kernel_rfl) (by kernel_rfl) (by kernel_rfl) (fun _ _ _ h => h) (Or.inr ⟨by kernel_rfl, rfl⟩) hS ?_
        try simp only [Act.put, List.setIfInBounds_toArray, List.set_cons_zero, List.set_cons_succ]
        refine wpAnyH_take (i := 16) (oi := { dst := some 130, op := Op.move (Operand.tmp 2), type := 3, pos := "law.go:142", after := #[{ on := 12, ground := Ground.guard }], guard := some (12, false) }) (v := undef) rfl (by kernel_rfl) (by kernel_rfl) (by kernel_rfl) (fun _ _ _ h => h) (Or.inr ⟨by kernel_rfl, rfl⟩) hS ?_
        try simp only [Act.put, List.setIfInBounds_toArray, List.set_cons_zero, List.set_cons_succ]
        refine wpAnyH_take (i := 17) (oi := { dst := some 131, op := Op.indexAddr 24 (Operand.tmp 129) (Operand.tmp 130), type := 0, pos := "law.go:142", after := #[{ on := 15, ground := Ground.data }, { on := 16, ground := Ground.data }, { on := 12, ground := Ground.guard }], guard := some (12, false) }) (v := undef) rfl (by kernel_rfl) (by kernel_rfl) (by kernel_rfl) (fun _ _ _ h => h) (Or.inr ⟨by kernel_rfl, rfl⟩) hS ?_
        try simp only [Act.put, List.setIfInBounds_toArray, List.set_cons_zero, List.set_cons_succ]
        refine wpAnyH_take (i := 18) (oi := { dst := some 132, op := Op.fieldAddr 27 (Operand.tmp 131) 2, type := 0, pos := "law.go:142", after := #[{ on := 17, ground := Ground.data }, { on := 12, ground := Ground.guard }], guard := some (12, false) }) (v := undef) rfl (by kernel_rfl) (by kernel_rfl) (by kernel_rfl) (fun _ _ _ h => h) (Or.inr ⟨by kernel_rfl, rfl⟩) hS ?_
        try simp only [Act.put, List.setIfInBounds_toArray, List.set_cons_zero, List.set_cons_succ]
        refine wpAnyH_take (i := 19) (oi := { dst := some 133, op := Op.load 3 (Operand.tmp 132), type := 3, pos := "law.go:142", after := #[{ on := 18, ground := Ground.data }, { on := 12, ground := Ground.guard }], guard := some (12, false) }) (v := undef) rfl (by kernel_rfl) (by kernel_rfl) (by kernel_rfl) (fun _ _ _ h => h) (Or.inr ⟨by kernel_rfl, rfl⟩) hS ?_
        try simp only [Act.put, List.setIfInBounds_toArray, List.set_cons_zero, List.set_cons_succ]
        refine wpAnyH_take (i := 20) (oi := { dst := some 134, op := Op.binOp BinOp.eql 3 (Operand.tmp 128) (Operand.tmp 133) 3, type := 4, pos := "law.go:142", after := #[{ on := 14, ground := Ground.data }, { on := 19, ground := Ground.data }, { on := 12, ground := Ground.guard }], guard := some (12, false) }) (v := undef) rfl (by kernel_rfl) (by kernel_rfl) (by kernel_rfl) (fun _ _ _ h => h) (Or.inr ⟨by kernel_rfl, rfl⟩) hS ?_
        try simp only [Act.put, List.setIfInBounds_toArray, List.set_cons_zero, List.set_cons_succ]
        refine wpAnyH_take (i := 21) (oi := { dst := some 135, op := Op.pick (Operand.tmp 126) (Operand.const (Value.bool true)) (Operand.tmp 134), type := 4, pos := "law.go:142", after := #[{ on := 12, ground := Ground.data }, { on := 20, ground := Ground.data }, { on := 5, ground := Ground.guard }], guard := some (5, true) }) (v := .bool true) rfl (by kernel_rfl) (by kernel_rfl) (by kernel_rfl) (fun _ _ _ h => h) (Or.inl ⟨by rfl, fun w hSw => by have q0 := HS0.out _ hSw; go_simp⟩) hS ?_
        try simp only [Act.put, List.setIfInBounds_toArray, List.set_cons_zero, List.set_cons_succ]
        refine wpAnyH_take (i := 22) (oi := { dst := some 136, op := Op.pick (Operand.tmp 119) (Operand.tmp 135) (Operand.const (Value.bool false)), type := 4, pos := "law.go:142", after := #[{ on := 5, ground := Ground.data }, { on := 21, ground := Ground.data }], guard := none }) (v := .bool true) rfl (by kernel_rfl) (by kernel_rfl) (by kernel_rfl) (fun _ _ _ h => h) (Or.inl ⟨by rfl, fun w hSw => by have q0 := HS0.out _ hSw; go_simp⟩) hS ?_
        try simp only [Act.put, List.setIfInBounds_toArray, List.set_cons_zero, List.set_cons_succ]
        refine wpAnyH_take (i := 23) (oi := { dst := some 6, op := Op.assign (Operand.tmp 136), type := 4, pos := "law.go:142", after := #[{ on := 22, ground := Ground.data }, { on := 14, ground := Ground.chain }, { on := 0, ground := Ground.phase }, { on := 1, ground := Ground.phase }, { on := 2, ground := Ground.phase }, { on := 3, ground := Ground.phase }, { on := 4, ground := Ground.phase }, { on := 5, ground := Ground.phase }, { on := 6, ground := Ground.phase }, { on := 7, ground := Ground.phase }, { on := 8, ground := Ground.phase }, { on := 9, ground := Ground.phase }, { on := 10, ground := Ground.phase }, { on := 11, ground := Ground.phase }, { on := 12, ground := Ground.phase }, { on := 13, ground := Ground.phase }, { on := 14, ground := Ground.phase }, { on := 15, ground := Ground.phase }, { on := 16, ground := Ground.phase }, { on := 17, ground := Ground.phase }, { on := 18, ground := Ground.phase }, { on := 19, ground := Ground.phase }, { on := 20, ground := Ground.phase }, { on := 21, ground := Ground.phase }, { on := 22, ground := Ground.phase }], guard := none }) (v := .bool true) rfl (by kernel_rfl) (by kernel_rfl) (by kernel_rfl) (fun _ _ _ h => h) (Or.inl ⟨by rfl, fun w hSw => by have q0 := HS0.out _ hSw; go_simp⟩) hS ?_
        try simp only [Act.put, List.setIfInBounds_toArray, List.set_cons_zero, List.set_cons_succ]
        refine wpAnyH_done (by kernel_rfl) ?_ _
        have KR := hidOf (KF.out.trans KT1)
        clear hS
        go_wp2
        go_ret
        exact ⟨rfl, KR.out⟩
      · have ht2b : decide (TT < 2) = false := by simpa using ht2
        go_wp2_with fail
        refine wp_region_held_drew (S := fun w' => Kept [] wr w') (by kernel_rfl) (Kept.refl [] wr).drew (fun hS => ?_)
        refine wpAnyH_ready (rs := [0]) (by kernel_rfl) (by simp) ?_
        refine AllReadyH.cons (o := { dst := some 114, op := Op.call { callee := Callee.value (Operand.func 9), args := #[], argTypes := #[] }, type := 4, pos := "law.go:142", after := #[], guard := none }) rfl (fun K hK => ?_) AllReadyH.nil
        rw [if_pos (by rfl)]
        refine wp_calls 9 #[] (by kernel_rfl) (fun v V => v = .bool true ∧ Kept [] wr V) ((ALV.out _ hS).mono fun e w' hh => ⟨_, hh.1, rfl, hh.2⟩) ?_
        rintro _ wt0 ⟨rfl, KT0⟩
        try simp only [Act.put, List.setIfInBounds_toArray, List.set_cons_zero, List.set_cons_succ]
        refine hK.out _ _ (KT0) (fun hS => ?_)
        clear hK K
        refine wpAnyH_take (i := 1) (oi := { dst := some 115, op := Op.move (Operand.tmp 114), type := 4, pos := "law.go:142", after := #[{ on := 0, ground := Ground.data }, { on := 0, ground := Ground.chain }], guard := none }) (v := .bool true) rfl (by kernel_rfl) (by kernel_rfl) (by kernel_rfl) (fun _ _ _ h => h) (Or.inl ⟨by rfl, fun w hSw => by have q0 := HS0.out _ hSw; go_simp⟩) hS ?_
        try simp only [Act.put, List.setIfInBounds_toArray, List.set_cons_zero, List.set_cons_succ]
        refine wpAnyH_take (i := 2) (oi := { dst := some 116, op := Op.move (Operand.tmp 10), type := 32, pos := "law.go:142", after := #[{ on := 1, ground := Ground.guard }], guard := some (1, true) }) (v := .pointer (some ⟨b, 0, none⟩)) rfl (by kernel_rfl) (by kernel_rfl) (by kernel_rfl) (fun _ _ _ h => h) (Or.inl ⟨by rfl, fun w hSw => by have q0 := HS0.out _ hSw; go_simp⟩) hS ?_
        try simp only [Act.put, List.setIfInBounds_toArray, List.set_cons_zero, List.set_cons_succ]
        refine wpAnyH_ready (rs := [3]) (by kernel_rfl) (by simp) ?_
        refine AllReadyH.cons (o := { dst := some 117, op := Op.call { callee := Callee.value (Operand.func 14), args := #[Operand.tmp 116], argTypes := #[32] }, type := 4, pos := "law.go:142", after := #[{ on := 2, ground := Ground.data }, { on := 1, ground := Ground.chain }, { on := 1, ground := Ground.guard }], guard := some (1, true) }) rfl (fun K hK => ?_) AllReadyH.nil
        rw [if_pos (by rfl)]
        refine wp_calls 14 #[.pointer (some ⟨b, 0, none⟩)] (by kernel_rfl) (fun v V => v = .bool true ∧ Kept [] wr V) ((DNE.out _ hS).mono fun e w' hh => ⟨_, hh.1, rfl, hh.2⟩) ?_
        rintro _ wt1 ⟨rfl, KT1⟩
        try simp only [Act.put, List.setIfInBounds_toArray, List.set_cons_zero, List.set_cons_succ]
        refine hK.out _ _ (KT1) (fun hS => ?_)
        clear hK K
        refine wpAnyH_take (i := 4) (oi := { dst := some 118, op := Op.pick (Operand.tmp 115) (Operand.tmp 117) (Operand.const (Value.bool false)), type := 4, pos := "law.go:142", after := #[{ on := 1, ground := Ground.data }, { on := 3, ground := Ground.data }], guard := none }) (v := .bool true) rfl (by kernel_rfl) (by kernel_rfl) (by kernel_rfl) (fun _ _ _ h => h) (Or.inl ⟨by rfl, fun w hSw => by have q0 := HS0.out _ hSw; go_simp⟩) hS ?_
        try simp only [Act.put, List.setIfInBounds_toArray, List.set_cons_zero, List.set_cons_succ]
        refine wpAnyH_take (i := 5) (oi := { dst := some 119, op := Op.move (Operand.tmp 118), type := 4, pos := "law.go:142", after := #[{ on := 4, ground := Ground.data }, { on := 3, ground := Ground.chain }], guard := none }) (v := .bool true) rfl (by kernel_rfl) (by kernel_rfl) (by kernel_rfl) (fun _ _ _ h => h) (Or.inl ⟨by rfl, fun w hSw => by have q0 := HS0.out _ hSw; go_simp⟩) hS ?_
        try simp only [Act.put, List.setIfInBounds_toArray, List.set_cons_zero, List.set_cons_succ]
        refine wpAnyH_take (i := 6) (oi := { dst := some 120, op := Op.move (Operand.tmp 1), type := 24, pos := "law.go:142", after := #[{ on := 5, ground := Ground.guard }], guard := some (5, true) }) (v := .slice (some ⟨g, 0, none⟩) n c') rfl (by kernel_rfl) (by kernel_rfl) (by kernel_rfl) (fun _ _ _ h => h) (Or.inl ⟨by rfl, fun w hSw => by have q0 := HS0.out _ hSw; go_simp⟩) hS ?_
        try simp only [Act.put, List.setIfInBounds_toArray, List.set_cons_zero, List.set_cons_succ]
        refine wpAnyH_take (i := 7) (oi := { dst := some 121, op := Op.move (Operand.tmp 2), type := 3, pos := "law.go:142", after := #[{ on := 5, ground := Ground.guard }], guard := some (5, true) }) (v := .int .i64 (k : Int)) rfl (by kernel_rfl) (by kernel_rfl) (by kernel_rfl) (fun _ _ _ h => h) (Or.inl ⟨by rfl, fun w hSw => by have q0 := HS0.out _ hSw; go_simp⟩) hS ?_
        try simp only [Act.put, List.setIfInBounds_toArray, List.set_cons_zero, List.set_cons_succ]
        refine wpAnyH_take (i := 8) (oi := { dst := some 122, op := Op.indexAddr 24 (Operand.tmp 120) (Operand.tmp 121), type := 0, pos := "law.go:142", after := #[{ on := 6, ground := Ground.data }, { on := 7, ground := Ground.data }, { on := 5, ground := Ground.guard }], guard := some (5, true) }) (v := .pointer (some ⟨g, k * 5, none⟩)) rfl (by kernel_rfl) (by kernel_rfl) (by kernel_rfl) (fun _ _ _ h => h) (Or.inl ⟨by rfl, fun w hSw => by have q0 := HS0.out _ hSw; go_simp⟩) hS ?_
        try simp only [Act.put, List.setIfInBounds_toArray, List.set_cons_zero, List.set_cons_succ]
        refine wpAnyH_take (i := 9) (oi := { dst := some 123, op := Op.fieldAddr 27 (Operand.tmp 122) 2, type := 0, pos := "law.go:142", after := #[{ on := 8, ground := Ground.data }, { on := 5, ground := Ground.guard }], guard := some (5, true) }) (v := .pointer (some ⟨g, k * 5 + 2, none⟩)) rfl (by kernel_rfl) (by kernel_rfl) (by kernel_rfl) (fun _ _ _ h => h) (Or.inl ⟨by rfl, fun w hSw => by have q0 := HS0.out _ hSw; go_simp⟩) hS ?_
        try simp only [Act.put, List.setIfInBounds_toArray, List.set_cons_zero, List.set_cons_succ]
        refine wpAnyH_take (i := 10) (oi := { dst := some 124, op := Op.load 3 (Operand.tmp 123), type := 3, pos := "law.go:142", after := #[{ on := 9, ground := Ground.data }, { on := 5, ground := Ground.guard }], guard := some (5, true) }) (v := .int .i64 TT) rfl (by kernel_rfl) (by kernel_rfl) (by kernel_rfl) (fun _ _ _ h => h) (Or.inl ⟨by rfl, fun w hSw => by have q0 := HS0.out _ hSw; go_simp⟩) hS ?_
        try simp only [Act.put, List.setIfInBounds_toArray, List.set_cons_zero, List.set_cons_succ]
        refine wpAnyH_take (i := 11) (oi := { dst := some 125, op := Op.binOp BinOp.lss 3 (Operand.tmp 124) (Operand.const (Value.int IntKind.i64 2)) 3, type := 4, pos := "law.go:142", after := #[{ on := 10, ground := Ground.data }, { on := 5, ground := Ground.guard }], guard := some (5, true) }) (v := .bool false) rfl (by kernel_rfl) (by kernel_rfl) (by kernel_rfl) (fun _ _ _ h => h) (Or.inl ⟨by rfl, fun w hSw => by have q0 := HS0.out _ hSw; go_simp⟩) hS ?_
        try simp only [Act.put, List.setIfInBounds_toArray, List.set_cons_zero, List.set_cons_succ]
        refine wpAnyH_take (i := 12) (oi := { dst := some 126, op := Op.move (Operand.tmp 125), type := 4, pos := "law.go:142", after := #[{ on := 11, ground := Ground.data }, { on := 5, ground := Ground.chain }, { on := 5, ground := Ground.guard }], guard := some (5, true) }) (v := .bool false) rfl (by kernel_rfl) (by kernel_rfl) (by kernel_rfl) (fun _ _ _ h => h) (Or.inl ⟨by rfl, fun w hSw => by have q0 := HS0.out _ hSw; go_simp⟩) hS ?_
        try simp only [Act.put, List.setIfInBounds_toArray, List.set_cons_zero, List.set_cons_succ]
        refine wpAnyH_take (i := 13) (oi := { dst := some 127, op := Op.move (Operand.tmp 10), type := 32, pos := "law.go:142", after := #[{ on := 12, ground := Ground.guard }], guard := some (12, false) }) (v := .pointer (some ⟨b, 0, none⟩)) rfl (by kernel_rfl) (by kernel_rfl) (by kernel_rfl) (fun _ _ _ h => h) (Or.inl ⟨by rfl, fun w hSw => by have q0 := HS0.out _ hSw; go_simp⟩) hS ?_
        try simp only [Act.put, List.setIfInBounds_toArray, List.set_cons_zero, List.set_cons_succ]
        refine wpAnyH_take (i := 15) (oi := { dst := some 129, op := Op.move (Operand.tmp 1), type := 24, pos := "law.go:142", after := #[{ on := 12, ground := Ground.guard }], guard := some (12, false) }) (v := .slice (some ⟨g, 0, none⟩) n c') rfl (by kernel_rfl) (by kernel_rfl) (by kernel_rfl) (fun _ _ _ h => h) (Or.inl ⟨by rfl, fun w hSw => by have q0 := HS0.out _ hSw; go_simp⟩) hS ?_
        try simp only [Act.put, List.setIfInBounds_toArray, List.set_cons_zero, List.set_cons_succ]
        refine wpAnyH_take (i := 16) (oi := { dst := some 130, op := Op.move (Operand.tmp 2), type := 3, pos := "law.go:142", after := #[{ on := 12, ground := Ground.guard }], guard := some (12, false) }) (v := .int .i64 (k : Int)) rfl (by kernel_rfl) (by kernel_rfl) (by kernel_rfl) (fun _ _ _ h => h) (Or.inl ⟨by rfl, fun w hSw => by have q0 := HS0.out _ hSw; go_simp⟩) hS ?_
        try simp only [Act.put, List.setIfInBounds_toArray, List.set_cons_zero, List.set_cons_succ]
        refine wpAnyH_take (i := 17) (oi := { dst := some 131, op := Op.indexAddr 24 (Operand.tmp 129) (Operand.tmp 130), type := 0, pos := "law.go:142", after := #[{ on := 15, ground := Ground.data }, { on := 16, ground := Ground.data }, { on := 12, ground := Ground.guard }], guard := some (12, false) }) (v := .pointer (some ⟨g, k * 5, none⟩)) rfl (by kernel_rfl) (by kernel_rfl) (by kernel_rfl) (fun _ _ _ h => h) (Or.inl ⟨by rfl, fun w hSw => by have q0 := HS0.out _ hSw; go_simp⟩) hS ?_
        try simp only [Act.put, List.setIfInBounds_toArray, List.set_cons_zero, List.set_cons_succ]
        refine wpAnyH_take (i := 18) (oi := { dst := some 132, op := Op.fieldAddr 27 (Operand.tmp 131) 2, type := 0, pos := "law.go:142", after := #[{ on := 17, ground := Ground.data }, { on := 12, ground := Ground.guard }], guard := some (12, false) }) (v := .pointer (some ⟨g, k * 5 + 2, none⟩)) rfl (by kernel_rfl) (by kernel_rfl) (by kernel_rfl) (fun _ _ _ h => h) (Or.inl ⟨by rfl, fun w hSw => by have q0 := HS0.out _ hSw; go_simp⟩) hS ?_
        try simp only [Act.put, List.setIfInBounds_toArray, List.set_cons_zero, List.set_cons_succ]
        refine wpAnyH_take (i := 19) (oi := { dst := some 133, op := Op.load 3 (Operand.tmp 132), type := 3, pos := "law.go:142", after := #[{ on := 18, ground := Ground.data }, { on := 12, ground := Ground.guard }], guard := some (12, false) }) (v := .int .i64 TT) rfl (by kernel_rfl) (by kernel_rfl) (by kernel_rfl) (fun _ _ _ h => h) (Or.inl ⟨by rfl, fun w hSw => by have q0 := HS0.out _ hSw; go_simp⟩) hS ?_
        try simp only [Act.put, List.setIfInBounds_toArray, List.set_cons_zero, List.set_cons_succ]
        refine wpAnyH_ready (rs := [14]) (by kernel_rfl) (by simp) ?_
        refine AllReadyH.cons (o := { dst := some 128, op := Op.call { callee := Callee.value (Operand.func 15), args := #[Operand.tmp 127], argTypes := #[32] }, type := 3, pos := "law.go:142", after := #[{ on := 13, ground := Ground.data }, { on := 12, ground := Ground.chain }, { on := 12, ground := Ground.guard }], guard := some (12, false) }) rfl (fun K hK => ?_) AllReadyH.nil
        rw [if_pos (by rfl)]
        refine wp_calls 15 #[.pointer (some ⟨b, 0, none⟩)] (by kernel_rfl) (fun v V => v = .int .i64 TT ∧ Kept [] wr V) ((LVL.out _ hS).mono fun e w' hh => ⟨_, hh.1, rfl, hh.2⟩) ?_
        rintro _ wt2 ⟨rfl, KT2⟩
        try simp only [Act.put, List.setIfInBounds_toArray, List.set_cons_zero, List.set_cons_succ]
        refine hK.out _ _ (KT2) (fun hS => ?_)
        clear hK K
        refine wpAnyH_take (i := 20) (oi := { dst := some 134, op := Op.binOp BinOp.eql 3 (Operand.tmp 128) (Operand.tmp 133) 3, type := 4, pos := "law.go:142", after := #[{ on := 14, ground := Ground.data }, { on := 19, ground := Ground.data }, { on := 12, ground := Ground.guard }], guard := some (12, false) }) (v := .bool true) rfl (by kernel_rfl) (by kernel_rfl) (by kernel_rfl) (fun _ _ _ h => h) (Or.inl ⟨by rfl, fun w hSw => by have q0 := HS0.out _ hSw; go_simp⟩) hS ?_
        try simp only [Act.put, List.setIfInBounds_toArray, List.set_cons_zero, List.set_cons_succ]
        refine wpAnyH_take (i := 21) (oi := { dst := some 135, op := Op.pick (Operand.tmp 126) (Operand.const (Value.bool true)) (Operand.tmp 134), type := 4, pos := "law.go:142", after := #[{ on := 12, ground := Ground.data }, { on := 20, ground := Ground.data }, { on := 5, ground := Ground.guard }], guard := some (5, true) }) (v := .bool true) rfl (by kernel_rfl) (by kernel_rfl) (by kernel_rfl) (fun _ _ _ h => h) (Or.inl ⟨by rfl, fun w hSw => by have q0 := HS0.out _ hSw; go_simp⟩) hS ?_
        try simp only [Act.put, List.setIfInBounds_toArray, List.set_cons_zero, List.set_cons_succ]
        refine wpAnyH_take (i := 22) (oi := { dst := some 136, op := Op.pick (Operand.tmp 119) (Operand.tmp 135) (Operand.const (Value.bool false)), type := 4, pos := "law.go:142", after := #[{ on := 5, ground := Ground.data }, { on := 21, ground := Ground.data }], guard := none }) (v := .bool true) rfl (by kernel_rfl) (by kernel_rfl) (by kernel_rfl) (fun _ _ _ h => h) (Or.inl ⟨by rfl, fun w hSw => by have q0 := HS0.out _ hSw; go_simp⟩) hS ?_
        try simp only [Act.put, List.setIfInBounds_toArray, List.set_cons_zero, List.set_cons_succ]
        refine wpAnyH_take (i := 23) (oi := { dst := some 6, op := Op.assign (Operand.tmp 136), type := 4, pos := "law.go:142", after := #[{ on := 22, ground := Ground.data }, { on := 14, ground := Ground.chain }, { on := 0, ground := Ground.phase }, { on := 1, ground := Ground.phase }, { on := 2, ground := Ground.phase }, { on := 3, ground := Ground.phase }, { on := 4, ground := Ground.phase }, { on := 5, ground := Ground.phase }, { on := 6, ground := Ground.phase }, { on := 7, ground := Ground.phase }, { on := 8, ground := Ground.phase }, { on := 9, ground := Ground.phase }, { on := 10, ground := Ground.phase }, { on := 11, ground := Ground.phase }, { on := 12, ground := Ground.phase }, { on := 13, ground := Ground.phase }, { on := 14, ground := Ground.phase }, { on := 15, ground := Ground.phase }, { on := 16, ground := Ground.phase }, { on := 17, ground := Ground.phase }, { on := 18, ground := Ground.phase }, { on := 19, ground := Ground.phase }, { on := 20, ground := Ground.phase }, { on := 21, ground := Ground.phase }, { on := 22, ground := Ground.phase }], guard := none }) (v := .bool true) rfl (by kernel_rfl) (by kernel_rfl) (by kernel_rfl) (fun _ _ _ h => h) (Or.inl ⟨by rfl, fun w hSw => by have q0 := HS0.out _ hSw; go_simp⟩) hS ?_
        try simp only [Act.put, List.setIfInBounds_toArray, List.set_cons_zero, List.set_cons_succ]
        refine wpAnyH_done (by kernel_rfl) ?_ _
        have KR := hidOf (KF.out.trans KT2)
        clear hS
        go_wp2
        go_ret
        exact ⟨rfl, KR.out⟩

set_option maxRecDepth 100000 in
theorem buildAlone_lifted (os : Os) (started : os.Started) (H : Type) (enc : TypeId × Value → H) :
    ReturnsInHanded {} Tryd.checked os 3 .any (fun w args => (Rows.buildAloneSpec.pre enc Tryd.prog Tryd.f3 [] false w args ∧ laidMetH Tryd.prog laid1 w) ∧ sizedMet enc Tryd.prog Tryd.f3 (OpenSpec.ofChange Rows.buildAloneSpec) false w args)
      (Rows.buildAloneSpec.post enc Tryd.prog Tryd.f3 false true false false) := by
  refine returnsInHanded_of_change_and (C := Tryd.checked) (X := fun w _ => laidMetH Tryd.prog laid1 w) (fun _ _ _ hh h => h.of_heap hh) own started (by kernel_rfl) Tryd.func3
    (ChangeSpec.witness_shaped (enc := enc) (C := Tryd.checked) (os := os) (X := fun w _ => laidMetH Tryd.prog laid1 w) false (World.doorLaid Tryd.prog 400 os) #[.agg #[.int .i64 0, .int .i64 0, .int .i64 0, .int .i64 0, .int .i64 0, .int .i64 0, .int .i64 0], .slice none 0 0, .int .i64 0] 8 rfl (World.shaped_of_RefB (by kernel_rfl) (by kernel_rfl)) (by kernel_rfl) (by kernel_rfl) (by kernel_rfl) (door_met os _)) ?_
  intro W base args ds gs before hval0 hW _ hsz0 hL _
  have hsz : (DataW.weightsEach Tryd.prog (Tryd.f3.params.toList ++ Rows.buildAloneSpec.plain.varTypes Tryd.prog) (ds ++ gs)).all (· ≤ reachBytes) = true := hsz0
  clear hsz0
  have hval : ∀ (j : Nat) t v, Tryd.f3.params[j]? = some t → args[j]? = some v → Value.okWide Tryd.prog W .any base t v := hval0
  have hW' := hW
  obtain ⟨p, q, hA0, hV, rfl, _, _⟩ := hW
  have hA : DataW.TrodAll enc Tryd.prog W 0 (fun _ => true) true Tryd.f3.params.toList args.toList ds p := hA0
  rw [Tryd.params3] at hA hval hsz
  clear hA0 hval0
  obtain ⟨v0, vs0, d0, ds0, p0, q0, hargs, rfl, rfl, h0, r0⟩ := trodAll_cons hA
  obtain ⟨v1, vs1, d1, ds1, p1, q1, rfl, rfl, rfl, h1, r1⟩ := trodAll_cons r0
  obtain ⟨v2, vs2, d2, ds2, p2, q2, rfl, rfl, rfl, h2, r2⟩ := trodAll_cons r1
  obtain ⟨rfl, rfl, rfl⟩ := trodAll_nil r2
  obtain rfl : args = #[v0, v1, v2] := by cases args; simp_all
  obtain ⟨rfl, rfl⟩ := trodVars_none hV
  have k0 := h0
  have k1 := h1
  have k2 := h2
  simp only [List.append_nil] at hW'
  have hlt0 : ∀ x ∈ p0, x.block < W.heap.size := fun x hx => hW'.lt x (by simp [hx])
  have hlt1 : ∀ x ∈ p1, x.block < W.heap.size := fun x hx => hW'.lt x (by simp [hx])
  have hlt2 : ∀ x ∈ p2, x.block < W.heap.size := fun x hx => hW'.lt x (by simp [hx])
  obtain ⟨c0, rfl, g0⟩ := open_cfg (hval 0 23 v0 rfl rfl) h0
  obtain ⟨ao1, cap1, ns1, rfl, s1, g1, z1, n1⟩ := open_nodes4 (hval 1 24 v1 rfl rfl) h1
  have b1 := len_nodes hsz (j := 1) rfl (fun el sp e => by subst e; rfl) z1
  obtain ⟨a2, rfl, rfl, rfl, w2⟩ := open_int Tryd.underlying3 (hval 2 3 v2 rfl rfl) h2
  refine (buildAlone_walk W c0 g0 ao1 ns1 cap1 s1 g1 n1 b1 a2 w2 (tab_of_laid hL)).mono fun e W' ⟨he, hg⟩ => ?_
  subst he
  have hb := hg.below (by simp)
  exact ⟨_, rfl, _, _, _, [], _, [], hW', (trodAll_cons_mk (shut_bool Tryd.underlying4 _) trodAll_mk0), (trodAll_cons_mk (Below.trod laidOut (by kernel_rfl) (of_decide_eq_true (by kernel_rfl)) k0 hb hlt0) (trodAll_cons_mk (Below.trod laidOut (by kernel_rfl) (of_decide_eq_true (by kernel_rfl)) k1 hb hlt1) (trodAll_cons_mk (Below.trod laidOut (by kernel_rfl) (of_decide_eq_true (by kernel_rfl)) k2 hb hlt2) trodAll_mk0))), rfl, hb.frame _, fun h => by cases h⟩

theorem buildAlone_over : Rows.BuildAloneSaid :=
  OpenClaim.holds_of_wide 3 Tryd.f3 rfl rfl rfl rfl rfl rfl rfl ⟨rfl, rfl, rfl, rfl, rfl⟩ rfl rfl rfl rfl rfl (by kernel_rfl) Tryd.func3 (by kernel_rfl)
    (of_decide_eq_true (by kernel_rfl)) (by unfold Func.isWrapper; first | (rw [if_pos (by decide +kernel)]; kernel_rfl) | (rw [if_neg (by decide +kernel)]; exact ⟨rfl, rfl⟩))
    (fun os started H enc _ => buildAlone_lifted os started H enc)

theorem buildAlone_holds : Rows.BuildAloneCardSaid :=
  Claim7.holds_tied_plain_at .later [] [.data] true (true, "7598bd54c92d53e360db6de8ec306489af839585ba1e399dd7dd108781c18b49") false
    buildAlone_over (fun _ h => by cases h) (by kernel_rfl) (fun _ h => by cases h) buildAlone_row_tie rfl ⟨rfl, rfl⟩ (by kernel_rfl) rfl
    (fun f fn hf hfn => by
      obtain rfl : f = 3 := Option.some.inj ((show Tryd.prog.funcNamed "stepstone/stepstonelaw13.BuildAlone" = some 3 by kernel_rfl).symm.trans hf) |>.symm
      obtain rfl : fn = Tryd.f3 := (Option.some.inj (Tryd.func3.symm.trans hfn)).symm
      exact ⟨by kernel_rfl, fun j t ht => by
          rw [Tryd.params3] at ht
          rcases j with _ | j
          · have : t = 23 := by simpa using ht.symm
            subst this; exact (show Tryd.prog.wantsStandIn 23 = false by kernel_rfl)
          rcases j with _ | j
          · have : t = 24 := by simpa using ht.symm
            subst this; exact (show Tryd.prog.wantsStandIn 24 = false by kernel_rfl)
          rcases j with _ | j
          · have : t = 3 := by simpa using ht.symm
            subst this; exact (show Tryd.prog.wantsStandIn 3 = false by kernel_rfl)
          simp at ht⟩)
    (by kernel_rfl)
#print axioms buildAlone_holds
end Go.Proofs.YtkjjieklccbmoaaDoor
