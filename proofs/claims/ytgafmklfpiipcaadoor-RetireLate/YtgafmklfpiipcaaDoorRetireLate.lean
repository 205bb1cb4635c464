/-
  An entry's Retired is not below the era at which the node was found to be linked nowhere, and its Birth is the node's: the law RetireLate is true for every input.
  Conditions: the package variable of handle that the code reads starts as the program's text lays it (the card ties it to that text).
-/
import Derived.Test.YtgafmklfpiipcaaDoorRLaws
import Derived.Test.YtgafmklfpiipcaaDoorHLaid
import Derived.Test.YtgafmklfpiipcaaDoorPArgs
import Derived.Deep.CutRange
import Derived.ProofKit
import Derived.SizedLaws
import Derived.Carry
namespace Go.Proofs.YtgafmklfpiipcaaDoor
open Go.ChangeShapes Go.WideShapes Go.ChangeAt Go.RowKit
open Go.Deep
open Go.Proofs.YtgafmklfpiipcaaDoor.K
set_option maxRecDepth 100000

namespace K
section
variable {w : World} {H : Type} {enc : TypeId × Value → H}
def boC (x : Bool) : List Value := [.bool x]
theorem flat_bo : flat Tryd.prog 3 4 = some [.bool] := by kernel_rfl
theorem cells_bo : Tryd.prog.cellsOf 4 = 1 := by kernel_rfl
theorem bo_cells {cs : List Value} (h : F2 [.bool] cs) : ∃ p : Bool, cs = boC p ∧ True := by
  obtain ⟨a0, r, rfl, h2⟩ := F2_bool h
  obtain rfl := F2_nil h2
  exact ⟨a0, rfl, trivial⟩
theorem bo_row {w : World} {ao : Option Addr} {ts : List Bool} (h : SlOf 1 boC w ao ts) {k : Nat} (hk : k < ts.length) : ∃ b off, ao = some ⟨b, off, none⟩ ∧ b < w.heap.size ∧ w.cell? ⟨b, off + k, none⟩ = some (.bool (ts.getD k false)) := by
  obtain ⟨b, off, rfl, hb, hc⟩ := h (by omega)
  have e : ts.getD k false = ts[k] := by simp [hk]
  rw [e]
  have := hc k hk 0 _ rfl
  rw [Nat.mul_one, Nat.add_zero] at this
  exact ⟨b, off, rfl, hb, this⟩
theorem open_late14 {r : Reach} {b0 : Nat} {v : Value} {d : DataW H} {p : List MemPlace} (hv : Value.okWide Tryd.prog w r b0 59 v) (h : DataW.Trod enc Tryd.prog w 0 (fun _ => true) true 59 v d p) :
    ∃ (a b : Int) (ao : Option Addr) (cap : Nat) (ts : List Bool), v = .agg #[.int .i64 a, .int .u64 b, .slice ao (List.length ts) cap] ∧ isW b ∧ SlOf 1 boC w ao ts := by
  obtain ⟨cs, rfl, hsz⟩ := okWide_struct Tryd.underlying59 hv
  obtain ⟨fuel, h⟩ := h
  have h' : DataW.trod enc Tryd.prog w 0 (fun _ => true) true fuel 59 cs.toList = some (d, p) := by simpa [Value.cells] using h
  obtain ⟨xs, m, _, _, hlen, hxl, hx⟩ := DataW.trod_struct Tryd.underlying59 h'
  have cc : Tryd.prog.cellsOf 59 = 3 := by kernel_rfl
  have w0 : Tryd.prog.cellsOf 3 = 1 := by kernel_rfl
  have w1 : Tryd.prog.cellsOf 26 = 1 := by kernel_rfl
  have w2 : Tryd.prog.cellsOf 51 = 1 := by kernel_rfl
  rw [cc] at hlen
  have hxl3 : xs.length = 3 := hxl
  have x0 := hx 0 _ rfl
  have x1 := hx 1 _ rfl
  have x2 := hx 2 _ rfl
  rw [List.getElem?_eq_getElem (by omega)] at x0 x1 x2
  obtain ⟨a, e0, b0⟩ := DataW.trod_int Tryd.underlying3 x0
  obtain ⟨b, e1, b1⟩ := DataW.trod_int Tryd.underlying26 x1
  obtain ⟨ao, cap, ks, e2, S, G⟩ := open_slice_cells true (ks := [.bool]) boC (fun _ => True) Tryd.underlying51 flat_bo cells_bo (by decide) (fun cs hF => bo_cells hF) x2
  change List.take (Tryd.prog.cellsOf 3) (List.drop 0 cs.toList) = _ at e0
  change List.take (Tryd.prog.cellsOf 26) (List.drop 1 cs.toList) = _ at e1
  change List.take (Tryd.prog.cellsOf 51) (List.drop 2 cs.toList) = _ at e2
  rw [w0] at e0
  rw [w1] at e1
  rw [w2] at e2
  refine ⟨a, b, ao, cap, ks, ?_, ?_, S⟩
  · match hcs : cs.toList, hlen with
    | [a1, b1, d1], _ =>
      rw [hcs] at e0 e1 e2
      simp at e0 e1 e2
      subst e0 e1 e2
      rw [show cs = cs.toList.toArray by simp, hcs]
  · have := bounds_u64 b1.2; unfold isW; omega
end
theorem rtN_le14 (cnt : Int) (s : Rtm) : cnt ≤ rtN cnt s ∧ rtN cnt s ≤ cnt + 1 := by unfold rtN; split <;> omega
theorem rnin5 {x a b c d e : Nat} (h1 : ¬ x = a) (h2 : ¬ x = b) (h3 : ¬ x = c) (h4 : ¬ x = d) (h5 : ¬ x = e) : x ∉ [a, b, c, d, e] := by simp [h1, h2, h3, h4, h5]
theorem rfs_ne {base : Nat → Prop} {w : World} {b x : Nat} {T : TypeId} {c : Cfg} {f : Fm} {A : Array Value} (h : FS base w b c f) (hx : w.heap[x]? = some (.cells A T (0, 0))) (hT : T ≠ 113) : ¬ x = b := by
  rcases h.2 with z | ⟨_, _, _, _, gg, A, z⟩
  · exact blk_ne hx z.fb hT
  · exact blk_ne hx z.fb hT
theorem RtW.keeps14 {base : Nat → Prop} {w0 w w' : World} {b fb gb m p r : Nat} {c : Cfg} {g : Gs} {s : Rtm} {cs : List Int} {cnt : Int} {a : Acc} (h : RtW base w0 w b fb gb m p r c g s cs cnt a) (F : FK base [b, fb, gb, p, r] w w') {x : Nat} {A : Array Value} {T : TypeId} (hx : RW T w x A) (h1 : T ≠ 77) (h2 : T ≠ 113) (h3 : T ≠ 96) (h4 : T ≠ 87) (h5 : T ≠ 26) (h6 : T ≠ 129) : RW T w' x A :=
  F.blk hx h6 (rnin5 (blk_ne hx h.rb h1) (rfs_ne h.fw.st.fs hx h2) (blk_ne hx h.fw.st.gd h3) (blk_ne hx h.fw.st.mm.bk.st h4) (blk_ne hx h.fw.st.mm.bk.row h5))
/-- A retire alone, while the clock goes on; since when the node is linked nowhere. -/
structure Lt (c : Cfg) (l : Nd) (z : Nat) (cs : List Int) (g : Gs) (s : Rtm) (B left era gone : Int) : Prop where
  v : Rv c l z cs g s B left
  wd : Wds cs
  ck : rdG cs 0 = era
  e1 : 1 ≤ era
  g0 : 0 ≤ gone ∧ gone ≤ era
  fd : s.f.d = true → ¬ gone = 0
  dn : s.d = true → gone ≤ s.er ∧ s.er ≤ era
/-- Behind a step, ahead of a look. -/
structure Lm (c : Cfg) (l : Nd) (z : Nat) (cs : List Int) (g : Gs) (s : Rtm) (B left era gone : Int) : Prop where
  v : Rv c l z cs g s B left
  wd : Wds cs
  ck : rdG cs 0 = era
  e1 : 1 ≤ era
  g0 : 0 ≤ gone ∧ gone ≤ era
  nd : s.d = true → ¬ gone = 0
  dn : s.d = true → gone ≤ s.er ∧ s.er ≤ era
section
variable {c : Cfg} {l : Nd} {z : Nat} {cs : List Int} {g : Gs} {s : Rtm} {B left era gone : Int}
theorem Lt.tick (h : Lt c l z cs g s B left era gone) {left' : Int} (hl : full c l + HN c + 9 ≤ left') (he : era < 18446744073709551615) : Lt c l z (clV cs 4 0 0 1) g s B left' (era + 1) gone :=
  ⟨h.v.tick hl, wds_add h.wd 0 1, clk_tick h.v.hr h.v.ln h.ck (by have := h.e1; omega), by have := h.e1; omega, by have := h.g0; omega, h.fd, fun d => by have := h.dn d; omega⟩
theorem Rv.ends (h : Rv c l z cs g s B left) (cnt : Int) (hd : (rtF c cs cnt g s).d = true) : s.f.d = true := by
  rcases h.ph with ⟨d, nx, ef, ow, q, le⟩ | ⟨d, la, nx, fd0, o0, N, rp, rs, p, I, le⟩ | ⟨d, la, nx, fd1, o0, I, le⟩ | ⟨d, la, nx, fd1, eb, o0, I, le⟩ | ⟨d, la, fd1, eb, o0, I⟩
  · exfalso
    have zx : ixV s.h = z := by rw [h.sh]; exact hw_ix (z_lt h)
    rw [(rtF_0 (c := c) (cs := cs) (cnt := cnt) (g := g) d nx).1] at hd
    have e : s.ow c cs = 1 := by show fd c cs (ixV s.h) 5 = 1; rw [zx]; exact ow
    rw [e] at hd; cases hd
  · exfalso
    rw [(rtF_1 (c := c) (cs := cs) (cnt := cnt) (g := g) d nx).1] at hd
    rw [show ({ s with f := fF c cs cnt g s.f, nx := if (fF c cs cnt g s.f).d = true then 2 else 1 } : Rtm).d = s.d from rfl, d] at hd; cases hd
  · exact fd1
  · exact fd1
  · exact fd1
theorem Lt.step (R : RtI c s) (h : Lt c l z cs g s B left era gone) (cnt : Int) : Lm c l z (rtC c cs g s) (rtG c g s) (rtF c cs cnt g s) B (if left = 0 then 0 else left - 1) era gone := by
  obtain ⟨V, ck, er⟩ := h.v.step cnt
  refine ⟨V, rtC_wds R h.wd, ck.trans h.ck, h.e1, h.g0, fun d => h.fd (h.v.ends cnt d), fun d => ?_⟩
  rw [er d]
  have g0 := h.g0
  split
  · exact h.dn ‹_›
  · rw [h.ck]; omega
theorem Lm.stay (h : Lm c l z cs g s B left era gone) (q : ¬ gone = 0 ∨ ¬ s.f.d = true) : Lt c l z cs g s B left era gone :=
  ⟨h.v, h.wd, h.ck, h.e1, h.g0, fun d => q.resolve_right (fun x => x d), h.dn⟩
theorem Lm.set (h : Lm c l z cs g s B left era gone) (q : gone = 0) : Lt c l z cs g s B left era era :=
  ⟨h.v, h.wd, h.ck, h.e1, by have := h.e1; omega, fun _ => by have := h.e1; omega, fun d => absurd q (h.nd d)⟩
end
end K
set_option maxRecDepth 100000 in
set_option maxHeartbeats 8000000 in
theorem retireLate_walk (w : World) (c : Cfg) (_hg : c.wf) (ao : Option Addr) (ns : List Nn) (cap : Nat) (hs : SlOf 5 nnL w ao ns) (hw : ∀ x ∈ ns, x.wf) (hc : ao = none → cap = 0) (kz bz : Int) (lo : Option Addr) (ts : List Bool) (lc : Nat) (hbz : isW bz) (hts : SlOf 1 boC w lo ts) (hT : Tab w) :
    Calls Tryd.prog 6 #[c.val, .slice ao ns.length cap, .agg #[.int .i64 kz, .int .u64 bz, .slice lo ts.length lc]] w fun e w' => e = .returned (.bool true) ∧ Kept [] w w' := by
  obtain ⟨tn, htn⟩ : ∃ tn, tn = ts.length := ⟨_, rfl⟩
  rw [← htn]
  have HTN := hidOf htn
  have HTS := hidOf hts
  have HBZ := hidOf hbz
  clear htn hts hbz
  simp only [Cfg.val]
  obtain ⟨n, hn⟩ : ∃ n, n = ns.length := ⟨_, rfl⟩
  rw [← hn]
  have HNN := hidOf hn
  have HS := hidOf hs
  have HW := hidOf hw
  have HCP := hidOf hc
  have HT := hidOf hT
  clear hn hs hw hT hc
  obtain ⟨q, hq⟩ : ∃ q, q = w.heap.size := ⟨_, rfl⟩
  have BX : Hid (RW 23 ((w.alloc (.cells #[.int .i64 c.t, .int .i64 c.s, .int .i64 c.c, .int .i64 c.h, .int .i64 c.k, .int .i64 c.e, .int .i64 c.l] 23)).alloc (.cells #[.int .i64 kz, .int .u64 bz, .slice lo tn lc] 59)) q #[.int .i64 c.t, .int .i64 c.s, .int .i64 c.c, .int .i64 c.h, .int .i64 c.k, .int .i64 c.e, .int .i64 c.l] ∧ RW 59 ((w.alloc (.cells #[.int .i64 c.t, .int .i64 c.s, .int .i64 c.c, .int .i64 c.h, .int .i64 c.k, .int .i64 c.e, .int .i64 c.l] 23)).alloc (.cells #[.int .i64 kz, .int .u64 bz, .slice lo tn lc] 59)) (q + 1) #[.int .i64 kz, .int .u64 bz, .slice lo tn lc] ∧ Kept [] w ((w.alloc (.cells #[.int .i64 c.t, .int .i64 c.s, .int .i64 c.c, .int .i64 c.h, .int .i64 c.k, .int .i64 c.e, .int .i64 c.l] 23)).alloc (.cells #[.int .i64 kz, .int .u64 bz, .slice lo tn lc] 59))) := hidOf (by
    have z := two_new 23 59 w #[.int .i64 c.t, .int .i64 c.s, .int .i64 c.c, .int .i64 c.h, .int .i64 c.k, .int .i64 c.e, .int .i64 c.l] #[.int .i64 kz, .int .u64 bz, .slice lo tn lc] hq
    exact ⟨z.1, z.2.1, z.2.2⟩)
  go_enter Tryd.func6, Tryd.ntmps6
  go_upto_region 1 with (fail)
  rw [← hq]
  refine gen_world (fun W => RW 23 W q #[.int .i64 c.t, .int .i64 c.s, .int .i64 c.c, .int .i64 c.h, .int .i64 c.k, .int .i64 c.e, .int .i64 c.l] ∧ RW 59 W (q + 1) #[.int .i64 kz, .int .u64 bz, .slice lo tn lc] ∧ Kept [] w W) BX.out ?_
  have hqw : w.heap.size ≤ q := by omega
  clear BX hq
  rintro W ⟨CB0, CB1, K0⟩
  have HX := hidOf (And.intro CB0 K0)
  have HXP := hidOf CB1
  clear CB0 CB1 K0
  have z0 := cell_of_blk HXP.out (i := 0) (v := .int .i64 kz) rfl
  have zl := lt_of_blk HXP.out
  have ND := hidOf (node_any c ns ao n cap kz 1 W (HT.out.kept HX.out.2) HW.out (HS.out.new HX.out.2) HNN.out HCP.out)
  go_wp2_with (first | ((with_reducible change wpList _ _ _ (Oper.mk _ (Op.load 23 (Operand.tmp 3)) _ _ _ _ :: _) _ _); refine wpList_load_rw 23 isT_cf rfl (.tmp 3) rfl q rfl #[.int .i64 c.t, .int .i64 c.s, .int .i64 c.c, .int .i64 c.h, .int .i64 c.k, .int .i64 c.e, .int .i64 c.l] rfl HX.out.1 ?_))
  with_reducible refine ND.out.mono ?_
  rintro e w1 ⟨K1, ⟨rfl, no⟩ | ⟨k, hkz, hk, hR, m, p, r, a0, rfl, hpr, M⟩⟩
  · have K2 := hidOf (HX.out.2.trans K1)
    clear K1 no ND
    
    have AL := hidOf (alive_any _ (HT.out.kept (K2.out)))
    have KF := hidOf (K2.out)
    go_wp2_with fail
    with_reducible refine AL.out.mono ?_
    rintro e WA ⟨rfl, KA⟩
    have KG := hidOf (KF.out.trans KA)
    clear KA
    go_wp2
    go_ret
    exact ⟨rfl, KG.out⟩
  have HR := hidOf hR
  have RR := hidOf (riB_true.1 hR.r)
  have HK := hidOf hk
  have hkn : (k : Int) < n := by have := HNN.out; omega
  have hknl : k < n := by omega
  have n64 : (n : Int) ≤ 64 := by have := HR.out.n; have := HNN.out; have := RR.out.c1; omega
  have HY := hidOf (And.intro M (HX.out.2.trans K1))
  have HPR := hidOf (show w.heap.size ≤ m ∧ w.heap.size ≤ p ∧ w.heap.size ≤ r by have := HX.out.2.size; omega)
  have HBX := hidOf (HX.out.1.kept K1 (by simp))
  have HWI := hidOf (rhw_isW (k := k + 1) (by omega))
  have HWX := hidOf (show ixV (hw (k + 1)) = (k : Int) + 1 by rw [hw_ix (by omega)]; omega)
  have HWP := hidOf (show plainV (hw (k + 1)) = hw (k + 1) from (plainV_of (hw (k + 1))).2 (hw_mk (by omega)))
  obtain ⟨HWK, hHWK⟩ : ∃ z, z = hw (k + 1) := ⟨_, rfl⟩
  rw [← hHWK] at HWI HWX HWP
  try rw [← hHWK]
  have HHW := hidOf hHWK
  have HXP1 := hidOf (HXP.out.kept K1 (by simp))
  clear M K1 hpr hR hk ND HX hHWK
  obtain ⟨b1, o1, ea, -⟩ := nn_row HS.out HK.out
  subst ea
  obtain ⟨x, hx⟩ : ∃ x, x = ns.getD k nn0 := ⟨_, rfl⟩
  have HXE := hidOf hx
  have RO : Hid (∀ Y, Kept [] w Y → Y.cell? ⟨b1, o1 + k * 5, none⟩ = some (.int .u64 x.k) ∧ b1 < Y.heap.size) := hidOf (fun Y kk => by
    obtain ⟨b, o, e, l, y0, _⟩ := nn_row (HS.out.new kk) HK.out
    cases e
    rw [HXE.out]; exact ⟨y0, l⟩)
  clear hx
  subst hkz
  clear z0 zl HXP
  have z0 := cell_of_blk HXP1.out (i := 0) (v := .int .i64 (k : Int)) rfl
  have z1 := cell_of_blk HXP1.out (i := 1) (v := .int .u64 bz) rfl
  have z2 := cell_of_blk HXP1.out (i := 2) (v := .slice lo tn lc) rfl
  have zl := lt_of_blk HXP1.out
  by_cases hb0 : bz = 0
  · have hb0b : (bz == 0) = true := by simpa using hb0
    have AL := hidOf (alive_any _ (HT.out.kept (HY.out.2)))
    have KF := hidOf (HY.out.2)
    go_wp2_with fail
    with_reducible refine AL.out.mono ?_
    rintro e WA ⟨rfl, KA⟩
    have KG := hidOf (KF.out.trans KA)
    clear KA
    go_wp2
    go_ret
    exact ⟨rfl, KG.out⟩
  have hb0b : (bz == 0) = false := by simpa using hb0
  have hb0c : decide (bz = 0) = false := by simpa using hb0
  by_cases hk5 : (60 : Int) < tn
  · have hk5b : decide ((60 : Int) < tn) = true := by simp; omega
    have hk5c : decide (60 < tn) = true := by simp; omega
    have AL := hidOf (alive_any _ (HT.out.kept (HY.out.2)))
    have KF := hidOf (HY.out.2)
    go_wp2_with fail
    with_reducible refine AL.out.mono ?_
    rintro e WA ⟨rfl, KA⟩
    have KG := hidOf (KF.out.trans KA)
    clear KA
    go_wp2
    go_ret
    exact ⟨rfl, KG.out⟩
  have hk5b : decide ((60 : Int) < tn) = false := by simp; omega
  have hk5c : decide (60 < tn) = false := by simp; omega
  have LR0 := ldr_is (ow := 1) HR.out HW.out HK.out (by unfold isW; omega)
  obtain ⟨OV, hOV⟩ : ∃ OV, OV = ownV c ns k 1 := ⟨_, rfl⟩
  rw [← hOV] at LR0 HY
  clear hOV
  have BI := LR0.birth HR.out.r HK.out HR.out.n HBZ.out
  have ST := hidOf (mstore_any m p r c OV 1 a0 HWK 3 bz w1 HY.out.1 (HT.out.kept HY.out.2) HWI.out.1 HWI.out.2 (by omega) (by omega))
  rw [HWX.out] at ST
  obtain ⟨DS, hDS⟩ : ∃ DS, DS = clV OV 2 (clV' c ((k : Int) + 1) 3) 0 bz := ⟨_, rfl⟩
  simp only [← hDS] at BI
  rw [← hDS] at ST
  clear hDS
  have HV0 : Hid (Rv c (ndOf c (delN ns k)) (k + 1) DS ⟨0, 0, 0⟩ (rtS HWK x.k) bz 1560 ∧ Wds DS ∧ rdG DS 0 = 1) := hidOf (by
    have hn := n_lt RR.out LR0.ok
    rw [LR0.nn] at hn
    have hk := HK.out
    have fb := full_bd RR.out LR0.ok
    have e1 := HHW.out
    have e2 := HXE.out
    exact ⟨⟨LR0.ok, HR.out.r, by omega, by rw [LR0.nn]; omega, LR0.uz, by show plainV HWK = _; rw [HWP.out, e1], BI.1, BI.2.2.2.1, by omega, Or.inl ⟨rfl, rfl, by show fmS _ = fmS _; rw [LR0.kz, e2], BI.2.2.2.2.1, ⟨_, BI.2.2.1, LR0.sk⟩, fb⟩⟩, BI.2.1, BI.2.2.2.2.2⟩)
  have HNL := hidOf (show (ndOf c (delN ns k)).n < 4294967296 ∧ full c (ndOf c (delN ns k)) + HN c + 9 ≤ 1560 from ⟨n_lt RR.out LR0.ok, full_bd RR.out LR0.ok⟩)
  clear LR0 BI
  obtain ⟨l, hl⟩ : ∃ l, l = ndOf c (delN ns k) := ⟨_, rfl⟩
  rw [← hl] at HV0 HNL
  clear hl
  go_wp2_with fail
  with_reducible refine ST.out.mono ?_
  rintro e w2 ⟨rfl, M2, K2⟩
  have HY2 := hidOf (And.intro M2 (HY.out.2.then K2 (by have := HPR.out; simp; omega)))
  have HXP2 := hidOf (rw_pr HXP1.out HY.out.1 (by decide) (by decide) K2)
  clear ST M2 K2 HXP1 z0 z1 z2 zl HBX
  have NA := hidOf (rtnew_any HWK x.k w2 (HT.out.kept HY2.out.2) HWI.out.1 HWI.out.2)
  have r0 := (RO.out w2 HY2.out.2).1
  have rl := (RO.out w2 HY2.out.2).2
  have y0 := cell_of_blk HXP2.out (i := 0) (v := .int .i64 (k : Int)) rfl
  have yl := lt_of_blk HXP2.out
  go_wp2_with fail
  with_reducible refine NA.out.mono ?_
  rintro e w3 ⟨b, fb, rfl, hb, hfb, RB, FB3, K3⟩
  have HP : Hid (Rp w w3 b fb m p r c HWK x.k DS 2 _) := hidOf (by
    have sz := HY2.out.2.size
    exact ⟨RB, FB3, HY2.out.1.new K3, HY2.out.2.trans K3, HT.out, by omega, by omega, HPR.out.2.1, HPR.out.2.2, HR.out.r, HV0.out.2.1, by omega, HWI.out⟩)
  have HXP3 := hidOf (HXP2.out.kept K3 (by simp))
  clear hb hfb RB FB3 K3 NA r0 rl y0 yl HY HY2 HXP2
  go_wp2_with fail
  with_reducible refine (gnew_any 0 _).mono ?_
  rintro e w4 ⟨gb, rfl, hgb0, G4, K4⟩
  have HW0 := hidOf ((HP.out.new K4).start G4 (by have := HP.out.kp.size; omega))
  have HXP4 := hidOf (HXP3.out.kept K4 (by simp))
  have HL0 : Hid (Lt c l (k + 1) DS ⟨0, 0, 0⟩ (rtS HWK x.k) bz 1560 1 0) := hidOf ⟨HV0.out.1, HV0.out.2.1, HV0.out.2.2, by omega, by omega, (fun q => by cases q), (fun q => by cases q)⟩
  clear hgb0 G4 K4 HP HXP3 HV0
  have z2 := cell_of_blk HXP4.out (i := 2) (v := .slice lo tn lc) rfl
  have tn2 : (tn : Int) ≤ 60 := by omega
  have wk1 : IntKind.i64.wrap ((k : Int) + 1) = (k : Int) + 1 := by rw [IntKind.wrap_i64]; omega
  go_wp2
  clear z2
  go_loopw [64, 15, 12, 13] (fun s64 _ s12 s13 wr => ∃ i : Nat, i ≤ tn ∧ s64 = .int .i64 i ∧ RW 59 wr (q + 1) #[.int .i64 (k : Int), .int .u64 bz, .slice lo tn lc] ∧ ∃ era gone left g s cs cnt a, s12 = .int .u64 era ∧ s13 = .int .u64 gone ∧ RtW (Bhr w) w wr b fb gb m p r c g s cs cnt a ∧ Lt c l (k + 1) cs g s bz left era gone ∧ left ≤ 1560 ∧ era ≤ 1 + i ∧ cnt ≤ 2 + 502 * i) (fun s64 _ _ _ _ => tn - (intOf s64).toNat)
  case atStart => exact ⟨0, by omega, by first | rfl | go_num, HXP4.out, 1, 0, 1560, _, _, _, _, _, rfl, rfl, HW0.out, HL0.out, by omega, by omega, by omega⟩
  case round =>
    clear HW0 HL0 HXP4
    obtain ⟨i, hi, rfl, XP, era, gone, left, g, s, cs, cnt, a, rfl, rfl, W, LT, hle, hera, hc⟩ := hrel
    have HZ := hidOf (And.intro W (And.intro LT (And.intro (show cnt ≤ 2 + 502 * (i : Int) ∧ left ≤ 1560 ∧ era ≤ 1 + i from ⟨hc, hle, hera⟩) XP)))
    have he1 := LT.e1
    have hg0 := LT.g0
    clear W LT hle hc XP
    by_cases hlt : i < tn
    · have hltz : (i : Int) < (tn : Int) := by omega
      obtain ⟨b3, o3, rfl, l3, c3⟩ := bo_row (HTS.out.new HZ.out.1.fw.kp) (k := i) (by have := HTN.out; omega)
      obtain ⟨tv, htv⟩ : ∃ t, t = ts.getD i false := ⟨_, rfl⟩
      rw [← htv] at c3
      clear htv
      cases tv with
      | true =>
        have wera : IntKind.u64.wrap (era + 1) = era + 1 := by rw [IntKind.wrap_u64]; omega
        have TK := hidOf (mtick_any m p r c cs cnt a wr HZ.out.1.fw.st.mm HZ.out.1.fw.n0 (by have := HZ.out.2.2.1; omega))
        go_wp2_with fail
        with_reducible refine TK.out.mono ?_
        rintro e w4 ⟨rfl, M4, K4⟩
        have LT4 := HZ.out.2.1.tick (left' := 1560) HNL.out.2 (by omega)
        have HM4 := hidOf (And.intro (HZ.out.1.mm M4 K4 LT4.wd (by have := HZ.out.1.fw.n0; omega)) (And.intro LT4 (And.intro (show cnt + 1 ≤ 3 + 502 * (i : Int) by have := HZ.out.2.2.1; omega) (rw_pr HZ.out.2.2.2 HZ.out.1.fw.st.mm (by decide) (by decide) K4))))
        clear TK M4 K4 LT4 HZ
        have SP := hidOf (rtstep_any HM4.out.1 (by have := HM4.out.2.2.1; omega))
        go_wp2_with fail
        with_reducible refine SP.out.mono ?_
        rintro e w5 ⟨rfl, W5, F5⟩
        have LS := HM4.out.2.1.step HM4.out.1.ri (cnt + 1)
        have cb := rtN_le14 (cnt + 1) s
        have HM := hidOf (And.intro W5 (And.intro LS (And.intro (show rtN (cnt + 1) s ≤ 4 + 502 * (i : Int) by have := HM4.out.2.2.1; omega) (HM4.out.1.keeps14 F5 HM4.out.2.2.2 (by decide) (by decide) (by decide) (by decide) (by decide) (by decide)))))
        have hl4 : (if (1560 : Int) = 0 then 0 else (1560 : Int) - 1) ≤ 1560 := by split <;> omega
        clear SP W5 F5 LS cb HM4
        generalize rtF c (clV cs 4 0 0 1) (cnt + 1) g s = s2 at HM
        generalize rtC c (clV cs 4 0 0 1) g s = cs2 at HM
        generalize rtN (cnt + 1) s = cnt2 at HM
        generalize rtG c g s = g2 at HM
        generalize rtA c (clV cs 4 0 0 1) g s _ = ac2 at HM
        by_cases hgz : gone = 0
        · subst hgz
          have LK := hidOf (linked14_any w5 m p r c cs2 cnt2 ac2 l (k + 1) HM.out.1.fw.st.mm HM.out.1.fw.st.tb RR.out (by have := HM.out.1.fw.op; have := lt_of_cell HT.out.1; omega) (by have := HM.out.1.fw.ow; have := lt_of_cell HT.out.1; omega) HM.out.2.1.wd HNL.out.1 HM.out.1.fw.n0 (by have := HM.out.2.2.1; omega))
          rw [show ((k + 1 : Nat) : Int) = (k : Int) + 1 by omega] at LK
          have c0 := cell_of_blk HM.out.2.2.2 (i := 0) (v := .int .i64 (k : Int)) rfl
          have cl := lt_of_blk HM.out.2.2.2
          go_wp2_with fail
          with_reducible refine LK.out.mono ?_
          rintro e w8 ⟨LB, cnt3, a3, rfl, hB, M8, c3, c4, K8⟩
          have HW8 := hidOf (HM.out.1.mm M8 K8 HM.out.2.1.wd (by have := HM.out.1.fw.n0; omega))
          have HC8 := hidOf (show cnt3 ≤ 2 + 502 * ((i + 1 : Nat) : Int) by have := HM.out.2.2.1; omega)
          have HXQ := hidOf (rw_pr HM.out.2.2.2 HM.out.1.fw.st.mm (by decide) (by decide) K8)
          have HUN := hidOf hB
          clear hB M8 c3 c4 K8 LK c0 cl
          cases LB with
          | true =>
            have HL9 := hidOf (HM.out.2.1.stay (Or.inr (fun q => by have z := HUN.out (HM.out.2.1.v.unl q); cases z)))
            clear HM HUN
            go_wp2
            go_roundw
            case rel => exact ⟨i + 1, by omega, by go_num, HXQ.out, era + 1, 0, _, _, _, _, _, _, rfl, rfl, HW8.out, HL9.out, hl4, by omega, HC8.out⟩
            case measure => simp [intOf]; omega
          | false =>
            have HL9 := hidOf (HM.out.2.1.set rfl)
            clear HM HUN
            go_wp2
            go_roundw
            case rel => exact ⟨i + 1, by omega, by go_num, HXQ.out, era + 1, era + 1, _, _, _, _, _, _, rfl, rfl, HW8.out, HL9.out, hl4, by omega, HC8.out⟩
            case measure => simp [intOf]; omega
        · have hgb : (gone == 0) = false := by simpa using hgz
          have hgb2 : decide (gone = 0) = false := by simpa using hgz
          have HL9 := hidOf (HM.out.2.1.stay (Or.inl hgz))
          have HW8 := hidOf HM.out.1
          have HXQ := hidOf HM.out.2.2.2
          have HC8 := hidOf (show cnt2 ≤ 2 + 502 * ((i + 1 : Nat) : Int) by have := HM.out.2.2.1; omega)
          clear HM
          go_wp2
          go_roundw
          case rel => exact ⟨i + 1, by omega, by go_num, HXQ.out, era + 1, gone, _, _, _, _, _, _, rfl, rfl, HW8.out, HL9.out, hl4, by omega, HC8.out⟩
          case measure => simp [intOf]; omega
      | false =>
        have SP := hidOf (rtstep_any HZ.out.1 (by have := HZ.out.2.2.1; omega))
        go_wp2_with fail
        with_reducible refine SP.out.mono ?_
        rintro e w5 ⟨rfl, W5, F5⟩
        have LS := HZ.out.2.1.step HZ.out.1.ri cnt
        have cb := rtN_le14 cnt s
        have HM := hidOf (And.intro W5 (And.intro LS (And.intro (show rtN cnt s ≤ 4 + 502 * (i : Int) by have := HZ.out.2.2.1; omega) (HZ.out.1.keeps14 F5 HZ.out.2.2.2 (by decide) (by decide) (by decide) (by decide) (by decide) (by decide)))))
        have hl3 : (if left = 0 then 0 else left - 1) ≤ 1560 := by have := HZ.out.2.2.1; split <;> omega
        clear SP W5 F5 LS cb HZ
        generalize rtF c cs cnt g s = s2 at HM
        generalize rtC c cs g s = cs2 at HM
        generalize rtN cnt s = cnt2 at HM
        generalize rtG c g s = g2 at HM
        generalize rtA c cs g s a = ac2 at HM
        generalize (if left = 0 then 0 else left - 1) = left2 at HM hl3
        by_cases hgz : gone = 0
        · subst hgz
          have LK := hidOf (linked14_any w5 m p r c cs2 cnt2 ac2 l (k + 1) HM.out.1.fw.st.mm HM.out.1.fw.st.tb RR.out (by have := HM.out.1.fw.op; have := lt_of_cell HT.out.1; omega) (by have := HM.out.1.fw.ow; have := lt_of_cell HT.out.1; omega) HM.out.2.1.wd HNL.out.1 HM.out.1.fw.n0 (by have := HM.out.2.2.1; omega))
          rw [show ((k + 1 : Nat) : Int) = (k : Int) + 1 by omega] at LK
          have c0 := cell_of_blk HM.out.2.2.2 (i := 0) (v := .int .i64 (k : Int)) rfl
          have cl := lt_of_blk HM.out.2.2.2
          go_wp2_with fail
          with_reducible refine LK.out.mono ?_
          rintro e w8 ⟨LB, cnt3, a3, rfl, hB, M8, c3, c4, K8⟩
          have HW8 := hidOf (HM.out.1.mm M8 K8 HM.out.2.1.wd (by have := HM.out.1.fw.n0; omega))
          have HC8 := hidOf (show cnt3 ≤ 2 + 502 * ((i + 1 : Nat) : Int) by have := HM.out.2.2.1; omega)
          have HXQ := hidOf (rw_pr HM.out.2.2.2 HM.out.1.fw.st.mm (by decide) (by decide) K8)
          have HUN := hidOf hB
          clear hB M8 c3 c4 K8 LK c0 cl
          cases LB with
          | true =>
            have HL9 := hidOf (HM.out.2.1.stay (Or.inr (fun q => by have z := HUN.out (HM.out.2.1.v.unl q); cases z)))
            clear HM HUN
            go_wp2
            go_roundw
            case rel => exact ⟨i + 1, by omega, by go_num, HXQ.out, era, 0, left2, _, _, _, _, _, rfl, rfl, HW8.out, HL9.out, hl3, by omega, HC8.out⟩
            case measure => simp [intOf]; omega
          | false =>
            have HL9 := hidOf (HM.out.2.1.set rfl)
            clear HM HUN
            go_wp2
            go_roundw
            case rel => exact ⟨i + 1, by omega, by go_num, HXQ.out, era, era, left2, _, _, _, _, _, rfl, rfl, HW8.out, HL9.out, hl3, by omega, HC8.out⟩
            case measure => simp [intOf]; omega
        · have hgb : (gone == 0) = false := by simpa using hgz
          have hgb2 : decide (gone = 0) = false := by simpa using hgz
          have HL9 := hidOf (HM.out.2.1.stay (Or.inl hgz))
          have HW8 := hidOf HM.out.1
          have HXQ := hidOf HM.out.2.2.2
          have HC8 := hidOf (show cnt2 ≤ 2 + 502 * ((i + 1 : Nat) : Int) by have := HM.out.2.2.1; omega)
          clear HM
          go_wp2
          go_roundw
          case rel => exact ⟨i + 1, by omega, by go_num, HXQ.out, era, gone, left2, _, _, _, _, _, rfl, rfl, HW8.out, HL9.out, hl3, by omega, HC8.out⟩
          case measure => simp [intOf]; omega
    · have hltz : ¬ (i : Int) < (tn : Int) := by omega
      have HQ := hidOf HZ.out
      clear HZ
      go_wp2
      go_loopw [89, 13] (fun s89 s13 wr => ∃ i : Nat, i ≤ 2000 ∧ s89 = .int .i64 i ∧ RW 59 wr (q + 1) #[.int .i64 (k : Int), .int .u64 bz, .slice lo tn lc] ∧ ∃ gone left g s cs cnt a, s13 = .int .u64 gone ∧ RtW (Bhr w) w wr b fb gb m p r c g s cs cnt a ∧ Lt c l (k + 1) cs g s bz left era gone ∧ (left = 0 ∨ left + i ≤ 1560) ∧ cnt ≤ 40000 + 502 * i) (fun s89 _ _ => 2000 - (intOf s89).toNat)
      case atStart => exact ⟨0, by omega, by first | rfl | go_num, HQ.out.2.2.2, gone, left, g, s, cs, cnt, a, rfl, HQ.out.1, HQ.out.2.1, by have := HQ.out.2.2.1; omega, by have := HQ.out.2.2.1; omega⟩
      case round =>
        clear HQ hg0
        obtain ⟨j, hj, rfl, XP, gone, left, g, s, cs, cnt, a, rfl, W, LT, hle, hc⟩ := hrel
        have HZ := hidOf (And.intro W (And.intro LT (And.intro (show cnt ≤ 40000 + 502 * (j : Int) ∧ (left = 0 ∨ left + j ≤ 1560) from ⟨hc, hle⟩) XP)))
        have hg0 := LT.g0
        clear W LT hle hc XP
        by_cases hlt2 : j < 2000
        · have hltz2 : (j : Int) < 2000 := by omega
          have SP := hidOf (rtstep_any HZ.out.1 (by have := HZ.out.2.2.1; omega))
          go_wp2_with fail
          with_reducible refine SP.out.mono ?_
          rintro e w5 ⟨rfl, W5, F5⟩
          have LS := HZ.out.2.1.step HZ.out.1.ri cnt
          have cb := rtN_le14 cnt s
          have HM := hidOf (And.intro W5 (And.intro LS (And.intro (show rtN cnt s ≤ 40001 + 502 * (j : Int) by have := HZ.out.2.2.1; omega) (HZ.out.1.keeps14 F5 HZ.out.2.2.2 (by decide) (by decide) (by decide) (by decide) (by decide) (by decide)))))
          have hl3 : (if left = 0 then 0 else left - 1) = 0 ∨ (if left = 0 then 0 else left - 1) + ((j + 1 : Nat) : Int) ≤ 1560 := by have := HZ.out.2.2.1; split <;> omega
          clear SP W5 F5 LS cb HZ
          generalize rtF c cs cnt g s = s2 at HM
          generalize rtC c cs g s = cs2 at HM
          generalize rtN cnt s = cnt2 at HM
          generalize rtG c g s = g2 at HM
          generalize rtA c cs g s a = ac2 at HM
          generalize (if left = 0 then 0 else left - 1) = left2 at HM hl3
          by_cases hgz : gone = 0
          · subst hgz
            have LK := hidOf (linked14_any w5 m p r c cs2 cnt2 ac2 l (k + 1) HM.out.1.fw.st.mm HM.out.1.fw.st.tb RR.out (by have := HM.out.1.fw.op; have := lt_of_cell HT.out.1; omega) (by have := HM.out.1.fw.ow; have := lt_of_cell HT.out.1; omega) HM.out.2.1.wd HNL.out.1 HM.out.1.fw.n0 (by have := HM.out.2.2.1; omega))
            rw [show ((k + 1 : Nat) : Int) = (k : Int) + 1 by omega] at LK
            have c0 := cell_of_blk HM.out.2.2.2 (i := 0) (v := .int .i64 (k : Int)) rfl
            have cl := lt_of_blk HM.out.2.2.2
            go_wp2_with fail
            with_reducible refine LK.out.mono ?_
            rintro e w8 ⟨LB, cnt3, a3, rfl, hB, M8, c3, c4, K8⟩
            have HW8 := hidOf (HM.out.1.mm M8 K8 HM.out.2.1.wd (by have := HM.out.1.fw.n0; omega))
            have HC8 := hidOf (show cnt3 ≤ 40000 + 502 * ((j + 1 : Nat) : Int) by have := HM.out.2.2.1; omega)
            have HXQ := hidOf (rw_pr HM.out.2.2.2 HM.out.1.fw.st.mm (by decide) (by decide) K8)
            have HUN := hidOf hB
            clear hB M8 c3 c4 K8 LK c0 cl
            cases LB with
            | true =>
              have HL9 := hidOf (HM.out.2.1.stay (Or.inr (fun q => by have z := HUN.out (HM.out.2.1.v.unl q); cases z)))
              clear HM HUN
              go_wp2
              go_roundw
              case rel => exact ⟨j + 1, by omega, by go_num, HXQ.out, 0, left2, _, _, _, _, _, rfl, HW8.out, HL9.out, hl3, HC8.out⟩
              case measure => simp [intOf]; omega
            | false =>
              have HL9 := hidOf (HM.out.2.1.set rfl)
              clear HM HUN
              go_wp2
              go_roundw
              case rel => exact ⟨j + 1, by omega, by go_num, HXQ.out, era, left2, _, _, _, _, _, rfl, HW8.out, HL9.out, hl3, HC8.out⟩
              case measure => simp [intOf]; omega
          · have hgb : (gone == 0) = false := by simpa using hgz
            have hgb2 : decide (gone = 0) = false := by simpa using hgz
            have HL9 := hidOf (HM.out.2.1.stay (Or.inl hgz))
            have HW8 := hidOf HM.out.1
            have HXQ := hidOf HM.out.2.2.2
            have HC8 := hidOf (show cnt2 ≤ 40000 + 502 * ((j + 1 : Nat) : Int) by have := HM.out.2.2.1; omega)
            clear HM
            go_wp2
            go_roundw
            case rel => exact ⟨j + 1, by omega, by go_num, HXQ.out, gone, left2, _, _, _, _, _, rfl, HW8.out, HL9.out, hl3, HC8.out⟩
            case measure => simp [intOf]; omega
        · have hje : j = 2000 := by omega
          subst hje
          have l0 : left = 0 := by have := HZ.out.2.2.1; have := HZ.out.2.1.v.l0; omega
          obtain ⟨hd, la, eb, -⟩ := HZ.out.2.1.v.fin l0
          have hen : s.ent = .agg #[.int .u64 s.h, .int .u64 bz, .int .u64 s.er] ∧ s.told = true := by
            refine ⟨?_, by unfold Rtm.told; rw [hd, la]; rfl⟩
            unfold Rtm.ent; rw [if_pos ⟨hd, la⟩, eb]; rfl
          have hgf := HZ.out.2.1.fd (HZ.out.2.1.v.done hd).1
          have her := HZ.out.2.1.dn hd
          have ET := hidOf (rtentry_any b fb s wr HZ.out.1.rb)
          rw [hen.1, hen.2] at ET
          obtain ⟨HH, hHH⟩ : ∃ z, z = s.h := ⟨_, rfl⟩
          obtain ⟨EE, hEE⟩ : ∃ z, z = s.er := ⟨_, rfl⟩
          rw [← hHH, ← hEE] at ET
          rw [← hEE] at her
          clear hen hHH hEE hd la eb l0
          go_wp2_with fail
          with_reducible refine ET.out.mono ?_
          rintro e w5 ⟨rfl, K5⟩
          obtain ⟨x16, hx16⟩ : ∃ x, x = w5.heap.size := ⟨_, rfl⟩
          have BX : Hid (RW 37 (w5.alloc (.cells #[.int .u64 HH, .int .u64 bz, .int .u64 EE] 37)) x16 #[.int .u64 HH, .int .u64 bz, .int .u64 EE] ∧ Kept [] wr (w5.alloc (.cells #[.int .u64 HH, .int .u64 bz, .int .u64 EE] 37))) := by rw [hx16]; exact ⟨RW.new _ _ _, K5.alloc _⟩
          clear ET K5
          go_upto_region 27 with (fail)
          rw [← hx16]
          refine gen_world (fun Y => RW 37 Y x16 #[.int .u64 HH, .int .u64 bz, .int .u64 EE] ∧ Kept [] wr Y) BX.out ?_
          clear BX hx16
          rintro Y ⟨R16, K7⟩
          have AL := hidOf (alive_any Y (HZ.out.1.fw.st.tb.kept K7))
          have HV := hidOf (And.intro R16 K7)
          clear R16 K7
          go_wp2_with fail
          with_reducible refine AL.out.mono ?_
          rintro e w6 ⟨rfl, K6⟩
          have HV6 := hidOf (And.intro (HV.out.1.kept K6 (by simp)) (HV.out.2.trans K6))
          clear K6 AL HV
          have c0 := cell_of_blk HV6.out.1 (i := 0) rfl
          have c1 := cell_of_blk HV6.out.1 (i := 1) rfl
          have c2 := cell_of_blk HV6.out.1 (i := 2) rfl
          have cl := lt_of_blk HV6.out.1
          have xq := HZ.out.2.2.2.kept HV6.out.2 (by simp)
          have d1 := cell_of_blk xq (i := 1) (v := .int .u64 bz) rfl
          have dl := lt_of_blk xq
          have g1 : decide (0 < gone) = true := by simp; omega
          have g2 : decide (gone ≤ EE) = true := by simp; omega
          have g3 : decide (EE ≤ era) = true := by simp; omega
          have KF := hidOf (HZ.out.1.fw.kp.trans HV6.out.2)
          clear xq
          go_wp2
          go_ret
          exact ⟨rfl, KF.out⟩

set_option maxRecDepth 100000 in
theorem retireLate_lifted (os : Os) (started : os.Started) (H : Type) (enc : TypeId × Value → H) :
    ReturnsInHanded {} Tryd.checked os 6 .any (fun w args => (Rows.retireLateSpec.pre enc Tryd.prog Tryd.f6 [] false w args ∧ laidMetH Tryd.prog laid1 w) ∧ sizedMet enc Tryd.prog Tryd.f6 (OpenSpec.ofChange Rows.retireLateSpec) false w args)
      (Rows.retireLateSpec.post enc Tryd.prog Tryd.f6 false true false false) := by
  refine returnsInHanded_of_change_and (C := Tryd.checked) (X := fun w _ => laidMetH Tryd.prog laid1 w) (fun _ _ _ hh h => h.of_heap hh) own started (by kernel_rfl) Tryd.func6
    (ChangeSpec.witness_shaped (enc := enc) (C := Tryd.checked) (os := os) (X := fun w _ => laidMetH Tryd.prog laid1 w) false (World.doorLaid Tryd.prog 400 os) #[.agg #[.int .i64 0, .int .i64 0, .int .i64 0, .int .i64 0, .int .i64 0, .int .i64 0, .int .i64 0], .slice none 0 0, .agg #[.int .i64 0, .int .u64 0, .slice none 0 0]] 8 rfl (World.shaped_of_RefB (by kernel_rfl) (by kernel_rfl)) (by kernel_rfl) (by kernel_rfl) (by kernel_rfl) (door_met os _)) ?_
  intro W base args ds gs before hval0 hW _ _ hL _
  have hval : ∀ (j : Nat) t v, Tryd.f6.params[j]? = some t → args[j]? = some v → Value.okWide Tryd.prog W .any base t v := hval0
  have hW' := hW
  obtain ⟨p, q, hA0, hV, rfl, _, _⟩ := hW
  have hA : DataW.TrodAll enc Tryd.prog W 0 (fun _ => true) true Tryd.f6.params.toList args.toList ds p := hA0
  rw [Tryd.params6] at hA hval
  clear hA0 hval0
  obtain ⟨v0, vs0, d0, ds0, p0, q0, hargs, rfl, rfl, h0, r0⟩ := trodAll_cons hA
  obtain ⟨v1, vs1, d1, ds1, p1, q1, rfl, rfl, rfl, h1, r1⟩ := trodAll_cons r0
  obtain ⟨v2, vs2, d2, ds2, p2, q2, rfl, rfl, rfl, h2, r2⟩ := trodAll_cons r1
  obtain ⟨rfl, rfl, rfl⟩ := trodAll_nil r2
  obtain rfl : args = #[v0, v1, v2] := by cases args; simp_all
  obtain ⟨rfl, rfl⟩ := trodVars_none hV
  have k0 := h0
  have k1 := h1
  have k2 := h2
  simp only [List.append_nil] at hW'
  have hlt0 : ∀ x ∈ p0, x.block < W.heap.size := fun x hx => hW'.lt x (by simp [hx])
  have hlt1 : ∀ x ∈ p1, x.block < W.heap.size := fun x hx => hW'.lt x (by simp [hx])
  have hlt2 : ∀ x ∈ p2, x.block < W.heap.size := fun x hx => hW'.lt x (by simp [hx])
  obtain ⟨c0, rfl, g0⟩ := open_cfg (hval 0 23 v0 rfl rfl) h0
  obtain ⟨ao1, cap1, ns1, rfl, s1, g1, n1⟩ := open_nodes2 (hval 1 24 v1 rfl rfl) h1
  obtain ⟨az2, bz2, lo2, lc2, ts2, rfl, v2, t2⟩ := open_late14 (hval 2 59 v2 rfl rfl) h2
  refine (retireLate_walk W c0 g0 ao1 ns1 cap1 s1 g1 n1 az2 bz2 lo2 ts2 lc2 v2 t2 (tab_of_laid hL)).mono fun e W' ⟨he, hg⟩ => ?_
  subst he
  have hb := hg.below (by simp)
  exact ⟨_, rfl, _, _, _, [], _, [], hW', (trodAll_cons_mk (shut_bool Tryd.underlying4 _) trodAll_mk0), (trodAll_cons_mk (Below.trod laidOut (by kernel_rfl) (of_decide_eq_true (by kernel_rfl)) k0 hb hlt0) (trodAll_cons_mk (Below.trod laidOut (by kernel_rfl) (of_decide_eq_true (by kernel_rfl)) k1 hb hlt1) (trodAll_cons_mk (Below.trod laidOut (by kernel_rfl) (of_decide_eq_true (by kernel_rfl)) k2 hb hlt2) trodAll_mk0))), rfl, hb.frame _, fun h => by cases h⟩

theorem retireLate_over : Rows.RetireLateSaid :=
  OpenClaim.holds_of_wide 6 Tryd.f6 rfl rfl rfl rfl rfl rfl rfl ⟨rfl, rfl, rfl, rfl, rfl⟩ rfl rfl rfl rfl rfl (by kernel_rfl) Tryd.func6 (by kernel_rfl)
    (of_decide_eq_true (by kernel_rfl)) (by unfold Func.isWrapper; first | (rw [if_pos (by decide +kernel)]; kernel_rfl) | (rw [if_neg (by decide +kernel)]; exact ⟨rfl, rfl⟩))
    (fun os started H enc _ => retireLate_lifted os started H enc)

theorem retireLate_holds : Rows.RetireLateCardSaid :=
  Claim7.holds_tied_plain_at .later [] [.data] true (true, "a31f6f01599eee3ce13a6e1683cb531bb06135781a9e9eb854bb6c4ee7479a88") false
    retireLate_over (fun _ h => by cases h) (by kernel_rfl) (fun _ h => by cases h) retireLate_row_tie rfl ⟨rfl, rfl⟩ (by kernel_rfl) rfl
    (fun f fn hf hfn => by
      obtain rfl : f = 6 := Option.some.inj ((show Tryd.prog.funcNamed "stepstone/stepstonelaw14.RetireLate" = some 6 by kernel_rfl).symm.trans hf) |>.symm
      obtain rfl : fn = Tryd.f6 := (Option.some.inj (Tryd.func6.symm.trans hfn)).symm
      exact ⟨by kernel_rfl, fun j t ht => by
          rw [Tryd.params6] at ht
          rcases j with _ | j
          · have : t = 23 := by simpa using ht.symm
            subst this; exact (show Tryd.prog.wantsStandIn 23 = false by kernel_rfl)
          rcases j with _ | j
          · have : t = 24 := by simpa using ht.symm
            subst this; exact (show Tryd.prog.wantsStandIn 24 = false by kernel_rfl)
          rcases j with _ | j
          · have : t = 59 := by simpa using ht.symm
            subst this; exact (show Tryd.prog.wantsStandIn 59 = false by kernel_rfl)
          simp at ht⟩)
    (by kernel_rfl)
#print axioms retireLate_holds
end Go.Proofs.YtgafmklfpiipcaaDoor
