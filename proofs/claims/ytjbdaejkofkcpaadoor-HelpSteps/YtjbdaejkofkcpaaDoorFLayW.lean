/-
  The document's laying of nodes: the words that it makes.
-/
import Derived.Test.YtjbdaejkofkcpaaDoorFLay
import Derived.Test.YtjbdaejkofkcpaaDoorFBeh
import Derived.Test.YtjbdaejkofkcpaaDoorKBase
import Derived.Test.YtjbdaejkofkcpaaDoorPRef
import Derived.Test.YtjbdaejkofkcpaaDoorMNewR
import Derived.Deep.RegionHeld3
import Derived.Deep.CutRange
namespace Go.Proofs.YtjbdaejkofkcpaaDoor
open Go.RowKit (Grown Hid Below intOf)
open Go.Deep
namespace K
set_option maxRecDepth 100000
theorem isT_nn : IsT 72 5 := ⟨by kernel_rfl, _, Tryd.underlying72⟩
/-- What holds while nodes are laid: the configuration's box, the row. -/
structure Ly (w0 w : World) (q g cap : Nat) (c : Cfg) (cs : List Int) : Prop where
  cb : RW 23 w q #[.int .i64 c.t, .int .i64 c.s, .int .i64 c.c, .int .i64 c.h, .int .i64 c.k, .int .i64 c.e, .int .i64 c.l]
  row : RowR w g cs cap
  kp : Kept [] w0 w
  g0 : w0.heap.size ≤ g
  len : cs.length = lnN c
theorem Ly.new {w0 w w' : World} {q g cap : Nat} {c : Cfg} {cs : List Int} (h : Ly w0 w q g cap c cs) (k : Kept [] w w') : Ly w0 w' q g cap c cs := ⟨h.cb.kept k (by simp), h.row.kept k (by simp), h.kp.trans k, h.g0, h.len⟩
theorem Ly.set {w0 w : World} {q g cap : Nat} {c : Cfg} {cs : List Int} (h : Ly w0 w q g cap c cs) {X : Nat} {i f : Int} (hX : clV' c i f = X) (hl : X < lnN c) (v : Int) : Ly w0 (w.setCell ⟨g, X, none⟩ (.int .u64 v)) q g cap c (stW c cs i f v) := by
  have e : stW c cs i f v = cs.set X v := by unfold stW; rw [hX]; rfl
  have ks := (Kept.refl [g] w).setCell (p := ⟨g, X, none⟩) (Or.inl (by simp)) (.int .u64 v)
  have ne : ¬ q = g := by
    obtain ⟨rest, z, _⟩ := h.row
    intro e; have y := h.cb; unfold RW at y; rw [e, z] at y; simp at y
  rw [e]
  exact ⟨h.cb.kept ks (by simp; exact ne), h.row.set (by rw [h.len]; exact hl) v, h.kp.then ks (by simp; have := h.g0; omega), h.g0, by simp; exact h.len⟩
theorem mark_nw {n j : Nat} (hn : n < 4294967296) : markV (nw n j false) = nw n j true := by
  rw [(markV_of _).2 (nw_mk hn false)]; unfold nw; simp
theorem cell_at {c : Cfg} {i f : Int} (h : inF c i f) : ∃ X : Nat, clV' c i f = X ∧ X < lnN c := by
  have z := cl_has (cs := List.replicate (lnN c) 0) (by simp [lnN_eq]) h
  unfold hasC at z
  simp at z
  exact ⟨(clV' c i f).toNat, by omega, by omega⟩
theorem ly_row {w0 w : World} {q g cap : Nat} {c : Cfg} {cs : List Int} (h : Ly w0 w q g cap c cs) {X : Nat} (hl : X < lnN c) : ∃ v, w.cell? ⟨g, X, none⟩ = some v := ⟨_, h.row.cell (i := X) (by rw [h.len]; exact hl)⟩
set_option maxHeartbeats 8000000 in
theorem lay_any (c : Cfg) (ns : List Nn) (ao : Option Addr) (k cap : Nat) (w : World) (h : RightN c ns) (hw : ∀ x ∈ ns, x.wf) (hs : SlOf 5 nnL w ao ns) (hk : k = ns.length) :
    Calls Tryd.prog 27 #[.agg #[.int .i64 c.t, .int .i64 c.s, .int .i64 c.c, .int .i64 c.h, .int .i64 c.k, .int .i64 c.e, .int .i64 c.l], .slice ao k cap] w fun e w' => ∃ g c', e = .returned (.slice (some ⟨g, 0, none⟩) (lnN c) c') ∧ w.heap.size ≤ g ∧ RowR w' g (layV c ns) c' ∧ Kept [] w w' := by
  have R := riB_true.1 h.r
  have HR := hidOf h
  have HW := hidOf hw
  have HS := hidOf hs
  have HK := hidOf hk
  have hh := HN_eq R
  have k64 : (k : Int) ≤ 64 := by have := h.n; have := R.c1; omega
  have h6 : c.h ≤ 6 ∧ 1 ≤ c.h := ⟨R.h1, R.h0⟩
  obtain ⟨n, hn⟩ : ∃ n, n = lnN c := ⟨_, rfl⟩
  have NW : Hid (∀ W : World, Calls Tryd.prog 57 #[.agg #[.int .i64 c.t, .int .i64 c.s, .int .i64 c.c, .int .i64 c.h, .int .i64 c.k, .int .i64 c.e, .int .i64 c.l]] W fun e w' => ∃ g, e = .returned (.agg (rmA c (some ⟨g, 0, none⟩) n n 0 Acc.zero)) ∧ W.heap.size ≤ g ∧ Row w' g (fcV c) ∧ Kept [] W w') := hidOf (fun W => by rw [hn]; exact rmnew_any c W h.r)
  rw [← hn]
  have HLN := hidOf hn
  clear hn
  obtain ⟨q, hq⟩ : ∃ q, q = w.heap.size := ⟨_, rfl⟩
  have BX : Hid (RW 23 (w.alloc (.cells #[.int .i64 c.t, .int .i64 c.s, .int .i64 c.c, .int .i64 c.h, .int .i64 c.k, .int .i64 c.e, .int .i64 c.l] 23)) q #[.int .i64 c.t, .int .i64 c.s, .int .i64 c.c, .int .i64 c.h, .int .i64 c.k, .int .i64 c.e, .int .i64 c.l] ∧ Kept [] w (w.alloc (.cells #[.int .i64 c.t, .int .i64 c.s, .int .i64 c.c, .int .i64 c.h, .int .i64 c.k, .int .i64 c.e, .int .i64 c.l] 23))) := by rw [hq]; exact ⟨RW.new _ _ _, (Kept.refl [] w).alloc _⟩
  have HH := hidOf (And.intro hh h6)
  clear h hw hs hk R hh h6
  go_enter Tryd.func27, Tryd.ntmps27
  go_upto_region 1 with (fail)
  rw [← hq]
  refine gen_world (fun W => RW 23 W q #[.int .i64 c.t, .int .i64 c.s, .int .i64 c.c, .int .i64 c.h, .int .i64 c.k, .int .i64 c.e, .int .i64 c.l] ∧ Kept [] w W) BX.out ?_
  have hqw : w.heap.size ≤ q := by omega
  clear BX hq
  rintro W ⟨CB0, K0⟩
  have HCB := hidOf CB0
  have HK0 := hidOf K0
  clear CB0 K0
  go_wp2_with (first | ((with_reducible change wpList _ _ _ (Oper.mk _ (Op.load 23 (Operand.tmp 2)) _ _ _ _ :: _) _ _); refine wpList_load_rw 23 isT_cf rfl (.tmp 2) rfl q rfl #[.int .i64 c.t, .int .i64 c.s, .int .i64 c.c, .int .i64 c.h, .int .i64 c.k, .int .i64 c.e, .int .i64 c.l] rfl HCB.out ?_))
  refine (NW.out W).mono ?_
  rintro e w1 ⟨g, rfl, hg, RG, K1⟩
  have HX1 := hidOf (And.intro hg (And.intro RG K1))
  clear hg RG K1 NW
  obtain ⟨qm, hqm⟩ : ∃ qm, qm = w1.heap.size := ⟨_, rfl⟩
  go_upto_region 2 with (first | ((with_reducible change wpList _ _ _ (Oper.mk _ (Op.store 35 _ _) _ _ _ _ :: _) _ _); refine wpList_store_rw 35 isT_rm rfl (.tmp 5) (.tmp 13) rfl w1.heap.size (rmA c (some ⟨g, 0, none⟩) n n 0 Acc.zero) rfl rfl rfl (rm_one _ _ _ _ _ _) rmZ (RW.new 35 w1 rmZ) rfl ?_))
  rw [← hqm]
  refine gen_world (fun V => RW 35 V qm (rmA c (some ⟨g, 0, none⟩) n n 0 Acc.zero) ∧ Kept [] w1 V) ?_ ?_
  · rw [hqm]; exact ⟨(RW.new 35 w1 rmZ).row _, ((Kept.refl [] w1).alloc _).setRow (Or.inr (Nat.le_refl _)) _⟩
  clear hqm
  rintro V ⟨QM, KV⟩
  have RV := Row.kept HX1.out.2.1 KV (by simp)
  have eln : n = (fcV c).length := by rw [fcV_len]; exact HLN.out
  obtain ⟨g2, c2, w2, hap, hg2, R2, K2⟩ := append_new 24 V (some ⟨g, 0, none⟩) (fcV c) n n eln RV.sl (fun e => by cases e) (by have := lnN_le c; rw [← eln, HLN.out]; omega)
  have L0 : Ly w w2 q g2 c2 c (lyHd c (ndOf c ns) (fcV c) 0) := ⟨((HCB.out.kept HX1.out.2.2 (by simp)).kept KV (by simp)).kept K2 (by simp), R2, ((HK0.out.trans HX1.out.2.2).trans KV).trans K2, by have := KV.size; have := HX1.out.2.2.size; have := HK0.out.size; omega, fcV_len c⟩
  have HL0 := hidOf L0
  have q7 := cell_of_blk QM (i := 7) (v := .slice (some ⟨g, 0, none⟩) n n) rfl
  have hqV := lt_of_blk QM
  clear L0 R2 K2 hg2 QM RV KV HX1 HCB eln
  go_wp2_with (first | (at_builtin; refine wpList_append_run rfl (.tmp 14) (.tmp 17) 24 rfl rfl rfl hap ?_))
  clear hap q7 hqV
  go_loopw [7] (fun s wr => ∃ M : Nat, M ≤ HN c ∧ s = .int .i64 M ∧ Ly w wr q g2 c2 c (lyHd c (ndOf c ns) (fcV c) M)) (fun s _ => HN c - (intOf s).toNat)
  case atStart => exact ⟨0, by omega, by first | rfl | go_num, HL0.out⟩
  case round =>
    clear HL0
    obtain ⟨M, hM, rfl, L⟩ := hrel
    have HL := hidOf L
    clear L
    have p3 := cell_of_blk HL.out.cb (i := 3) (v := .int .i64 c.h) rfl
    by_cases hlt : M < HN c
    · have hltz : (M : Int) < c.h := by have := HH.out.1; omega
      obtain ⟨X, hX, hXl⟩ := cell_at (c := c) (i := 0) (f := ((6 + M : Nat) : Int)) ⟨HR.out.r, by omega, by have := (riB_true.1 HR.out.r).c0; omega, by omega, by have := HH.out; omega⟩
      have hX2 : clV' c 0 (6 + (M : Int)) = X := by rw [show 6 + (M : Int) = ((6 + M : Nat) : Int) by omega]; exact hX
      have CX := hidOf (fun W' => rcell_is hX2 W')
      have HXX := hidOf (And.intro hX hXl)
      have HXn : (X : Int) < n := by have := HLN.out; omega
      have VV : Hid (nw k (N0 (ndOf c ns) M 0) false = nw (ndOf c ns).n (N0 (ndOf c ns) M 0) false) := hidOf (by rw [HK.out]; rfl)
      have BH := hidOf (fun (W' : World) (kk : Kept [] w W') => behind_any c ns ao k cap (-1) 0 M W' (HS.out.new kk) HK.out (by omega) (by omega) (by omega))
      generalize nw k (N0 (ndOf c ns) M 0) false = V9 at BH VV
      clear hX hXl hX2
      have hM6 : (M : Int) ≤ 6 := by have := HH.out; omega
      go_wp2_with (first | ((with_reducible change wpList _ _ _ (Oper.mk _ (Op.load 23 (Operand.tmp 2)) _ _ _ _ :: _) _ _); refine wpList_load_rw 23 isT_cf rfl (.tmp 2) rfl q rfl #[.int .i64 c.t, .int .i64 c.s, .int .i64 c.c, .int .i64 c.h, .int .i64 c.k, .int .i64 c.e, .int .i64 c.l] rfl HL.out.cb ?_))
      refine (CX.out wr).mono ?_
      rintro e w3 ⟨rfl, K3⟩
      have HL3 := hidOf (HL.out.new K3)
      clear K3 p3 HL CX
      go_wp2_with fail
      refine (BH.out w3 HL3.out.kp).mono ?_
      rintro e w4 ⟨rfl, K4⟩
      have HL4 := hidOf (HL3.out.new K4)
      obtain ⟨v9, cx⟩ := ly_row HL4.out HXX.out.2
      have cf := HL4.out.row.free X
      have cl := HL4.out.row.lt
      clear K4 HL3 BH
      go_wp2
      go_roundw
      case rel =>
        have z := HL4.out.set HXX.out.1 HXX.out.2 V9
        rw [VV.out] at z ⊢
        exact ⟨M + 1, by omega, by go_num, z⟩
      case measure => simp [intOf]; omega
    · have hME : M = HN c := by omega
      have hltz : ¬ (M : Int) < c.h := by have := HH.out.1; omega
      subst hME
      go_wp2
      go_loopw [8] (fun s wr => ∃ j : Nat, j ≤ k ∧ s = .int .i64 j ∧ Ly w wr q g2 c2 c (lyAll c ns j)) (fun s _ => k - (intOf s).toNat)
      case atStart => exact ⟨0, by omega, by first | rfl | go_num, HL.out⟩
      case round =>
        clear HL p3
        obtain ⟨j, hj, rfl, L⟩ := hrel
        have HL := hidOf L
        clear L
        by_cases hlt : j < k
        · have hltz : (j : Int) < (k : Int) := by omega
          obtain ⟨b1, o1, e1, l1, s0, s1, s2, s3, s4⟩ := nn_row (HS.out.new HL.out.kp) (k := j) (by rw [← HK.out]; exact hlt)
          obtain ⟨x, hx⟩ : ∃ x, x = ns.getD j nn0 := ⟨_, rfl⟩
          rw [← hx] at s0 s1 s2 s3 s4
          have HXE := hidOf hx
          have nb1 := HR.out.b j (by rw [← HK.out]; exact hlt)
          have wf1 : x.wf := by
            rw [hx]
            have e : ns.getD j nn0 = ns[j]'(by rw [← HK.out]; exact hlt) := by simp [show j < ns.length by rw [← HK.out]; exact hlt]
            rw [e]; exact HW.out _ (List.getElem_mem _)
          rw [← hx] at nb1
          have HNB := hidOf (And.intro nb1 wf1)
          have v0 := wf1.2.1
          have v1 : x.v < 9223372036854775808 := nb1.2.2.2.2.2
          have t0 : 0 ≤ x.t := by have := nb1.1; omega
          have t1 : x.t ≤ 6 := by have := nb1.2.1; have := HH.out; omega
          have ew : IntKind.i64.wrap ((j : Int) + 1) = (j : Int) + 1 := by rw [IntKind.wrap_i64]; omega
          have HEW := hidOf ew
          clear ew
          have HJ := hidOf (show ((j : Nat) : Int) + 1 ≤ c.c by have := HR.out.n; have := HK.out; omega)
          clear hx nb1 wf1
          rw [e1]
          obtain ⟨nb, hnb⟩ : ∃ nb, nb = wr.heap.size := ⟨_, rfl⟩
          go_upto_region 11 with (fail)
          rw [← hnb]
          refine gen_world (fun U => Ly w U q g2 c2 c (lyAll c ns j) ∧ RW 72 U nb (nnA x)) ?_ ?_
          · rw [hnb]; exact ⟨HL.out.new ((Kept.refl [] wr).alloc _), RW.new 72 wr (nnA x)⟩
          have HNE := hidOf (show ¬ q = g2 ∧ ¬ nb = g2 from ⟨by
            obtain ⟨rest, z, _⟩ := HL.out.row
            intro e; have y := HL.out.cb; unfold RW at y; rw [e, z] at y; simp at y, by have := HL.out.row.lt; omega⟩)
          have HWW := hidOf (show Kept [] w wr from HL.out.kp)
          clear hnb s0 s1 s2 s3 s4 l1 HL
          rintro U ⟨UL, UB⟩
          have HU := hidOf (And.intro UL UB)
          clear UL UB
          obtain ⟨X, hX, hXl⟩ := cell_at (c := c) (i := ((j : Nat) : Int) + 1) (f := 0) ⟨HR.out.r, by omega, by have := HJ.out; omega, by omega, by have := HH.out; omega⟩
          have CX := hidOf (fun W' => rcell_is hX W')
          have HXX := hidOf (And.intro hX hXl)
          have HXn : (X : Int) < n := by have := HLN.out; omega
          clear hX hXl
          go_wp2_with (first | ((with_reducible change wpList _ _ _ (Oper.mk _ (Op.load 23 (Operand.tmp 2)) _ _ _ _ :: _) _ _); refine wpList_load_rw 23 isT_cf rfl (.tmp 2) rfl q rfl #[.int .i64 c.t, .int .i64 c.s, .int .i64 c.c, .int .i64 c.h, .int .i64 c.k, .int .i64 c.e, .int .i64 c.l] rfl HU.out.1.cb ?_))
          refine (CX.out _).mono ?_
          rintro e w5 ⟨rfl, K5⟩
          have HU5 := hidOf (And.intro (HU.out.1.new K5) (HU.out.2.kept K5 (by simp)))
          clear K5 CX HU
          go_wp2_with fail
          refine (taken0 _).mono ?_
          rintro e w6 ⟨rfl, K6⟩
          have HU6 := hidOf (And.intro (HU5.out.1.new K6) (HU5.out.2.kept K6 (by simp)))
          clear K6 HU5
          have HU5 := HU6
          clear HU6
          obtain ⟨v9, cx⟩ := ly_row HU5.out.1 HXX.out.2
          have cf := HU5.out.1.row.free X
          have cl := HU5.out.1.row.lt
          go_upto_region 12 with (fail)
          refine gen_world (fun U => Ly w U q g2 c2 c (stW c (lyAll c ns j) ((j : Nat) + 1 : Int) 0 1) ∧ RW 72 U nb (nnA x)) ?_ ?_
          · have ks := (Kept.refl [g2] w6).setCell (p := ⟨g2, X, none⟩) (Or.inl (by simp)) (.int .u64 1)
            exact ⟨HU5.out.1.set HXX.out.1 HXX.out.2 1, HU5.out.2.kept ks (by simp; exact HNE.out.2)⟩
          clear HU5 cx cf cl HXX HXn
          rintro U ⟨UL, UB⟩
          have HU := hidOf (And.intro UL UB)
          clear UL UB
          obtain ⟨X, hX, hXl⟩ := cell_at (c := c) (i := ((j : Nat) : Int) + 1) (f := 1) ⟨HR.out.r, by omega, by have := HJ.out; omega, by omega, by have := HH.out; omega⟩
          have CX := hidOf (fun W' => rcell_is hX W')
          have HXX := hidOf (And.intro hX hXl)
          have HXn : (X : Int) < n := by have := HLN.out; omega
          clear hX hXl
          have CY : Hid (∀ W' : World, Kept [] U W' → Calls Tryd.prog 59 #[.agg #[.int .i64 c.t, .int .i64 c.s, .int .i64 c.c, .int .i64 c.h, .int .i64 c.k, .int .i64 c.e, .int .i64 c.l], .int .i64 (IntKind.i64.wrap ((j : Int) + 1)), .int .i64 1] W' fun e w' => e = .returned (.int .i64 X) ∧ Kept [] U w') := hidOf (fun W' kk => by rw [HEW.out]; exact (CX.out W').mono fun _ _ hh => And.intro hh.1 (kk.trans hh.2))
          clear CX
          have SX : Hid (∀ W' : World, Kept [g2] U W' → W'.cell? ⟨q, 0, none⟩ = some (.int .i64 c.t) ∧ W'.cell? ⟨q, 1, none⟩ = some (.int .i64 c.s) ∧ W'.cell? ⟨q, 2, none⟩ = some (.int .i64 c.c) ∧ W'.cell? ⟨q, 3, none⟩ = some (.int .i64 c.h) ∧ W'.cell? ⟨q, 4, none⟩ = some (.int .i64 c.k) ∧ W'.cell? ⟨q, 5, none⟩ = some (.int .i64 c.e) ∧ W'.cell? ⟨q, 6, none⟩ = some (.int .i64 c.l) ∧ W'.cell? ⟨nb, 0, none⟩ = some (.int .u64 x.k)) := hidOf (by
            intro W' kk
            have y := HU.out.1.cb.kept kk (by simp; exact HNE.out.1)
            have z := HU.out.2.kept kk (by simp; exact HNE.out.2)
            exact ⟨cell_of_blk y (i := 0) rfl, cell_of_blk y (i := 1) rfl, cell_of_blk y (i := 2) rfl, cell_of_blk y (i := 3) rfl, cell_of_blk y (i := 4) rfl, cell_of_blk y (i := 5) rfl, cell_of_blk y (i := 6) rfl, cell_of_blk z (i := 0) rfl⟩)
          go_region_held3 (fun W' => W'.cell? ⟨q, 0, none⟩ = some (.int .i64 c.t) ∧ W'.cell? ⟨q, 1, none⟩ = some (.int .i64 c.s) ∧ W'.cell? ⟨q, 2, none⟩ = some (.int .i64 c.c) ∧ W'.cell? ⟨q, 3, none⟩ = some (.int .i64 c.h) ∧ W'.cell? ⟨q, 4, none⟩ = some (.int .i64 c.k) ∧ W'.cell? ⟨q, 5, none⟩ = some (.int .i64 c.e) ∧ W'.cell? ⟨q, 6, none⟩ = some (.int .i64 c.l) ∧ W'.cell? ⟨nb, 0, none⟩ = some (.int .u64 x.k))
            (exact SX.out _ (by (repeat (first | (with_reducible refine Kept.setCell ?_ ?_ _) | (with_reducible refine Kept.alloc ?_ _) | (with_reducible refine Kept.drew ?_))); (first | (with_reducible assumption) | (with_reducible exact Kept.refl _ _) | exact Kept.weaken (l := []) (by with_reducible assumption) (by simp)); all_goals (first | (refine Or.inl ?_; simp; done) | exact Or.inr (Nat.le_refl _))))
            (first | (go_at_call 59; with_reducible refine (CY.out _ (by first | assumption | exact (Kept.refl _ _).drew)).mono ?_; rintro e w5 ⟨rfl, K6⟩
                      have HU5 := hidOf (And.intro (HU.out.1.new K6) (HU.out.2.kept K6 (by simp)))
                      obtain ⟨v9, cx⟩ := ly_row HU5.out.1 HXX.out.2
                      have cf := HU5.out.1.row.free X
                      have cl := HU5.out.1.row.lt))
          clear K6 SX CY HU
          go_upto_region 13 with (fail)
          refine gen_world (fun U => Ly w U q g2 c2 c (stW c (stW c (lyAll c ns j) ((j : Nat) + 1 : Int) 0 1) ((j : Nat) + 1 : Int) 1 x.k) ∧ RW 72 U nb (nnA x)) ?_ ?_
          · have ks := (Kept.refl [g2] w5).setCell (p := ⟨g2, X, none⟩) (Or.inl (by simp)) (.int .u64 x.k)
            exact ⟨HU5.out.1.set HXX.out.1 HXX.out.2 x.k, HU5.out.2.kept ks (by simp; exact HNE.out.2)⟩
          clear HU5 cx cf cl HXX HXn
          rintro U ⟨UL, UB⟩
          have HU := hidOf (And.intro UL UB)
          clear UL UB
          obtain ⟨X, hX, hXl⟩ := cell_at (c := c) (i := ((j : Nat) : Int) + 1) (f := 2) ⟨HR.out.r, by omega, by have := HJ.out; omega, by omega, by have := HH.out; omega⟩
          have CX := hidOf (fun W' => rcell_is hX W')
          have HXX := hidOf (And.intro hX hXl)
          have HXn : (X : Int) < n := by have := HLN.out; omega
          clear hX hXl
          have CY : Hid (∀ W' : World, Kept [] U W' → Calls Tryd.prog 59 #[.agg #[.int .i64 c.t, .int .i64 c.s, .int .i64 c.c, .int .i64 c.h, .int .i64 c.k, .int .i64 c.e, .int .i64 c.l], .int .i64 (IntKind.i64.wrap ((j : Int) + 1)), .int .i64 2] W' fun e w' => e = .returned (.int .i64 X) ∧ Kept [] U w') := hidOf (fun W' kk => by rw [HEW.out]; exact (CX.out W').mono fun _ _ hh => And.intro hh.1 (kk.trans hh.2))
          clear CX
          have SX : Hid (∀ W' : World, Kept [g2] U W' → W'.cell? ⟨q, 0, none⟩ = some (.int .i64 c.t) ∧ W'.cell? ⟨q, 1, none⟩ = some (.int .i64 c.s) ∧ W'.cell? ⟨q, 2, none⟩ = some (.int .i64 c.c) ∧ W'.cell? ⟨q, 3, none⟩ = some (.int .i64 c.h) ∧ W'.cell? ⟨q, 4, none⟩ = some (.int .i64 c.k) ∧ W'.cell? ⟨q, 5, none⟩ = some (.int .i64 c.e) ∧ W'.cell? ⟨q, 6, none⟩ = some (.int .i64 c.l) ∧ W'.cell? ⟨nb, 1, none⟩ = some (.int .u64 x.v)) := hidOf (by
            intro W' kk
            have y := HU.out.1.cb.kept kk (by simp; exact HNE.out.1)
            have z := HU.out.2.kept kk (by simp; exact HNE.out.2)
            exact ⟨cell_of_blk y (i := 0) rfl, cell_of_blk y (i := 1) rfl, cell_of_blk y (i := 2) rfl, cell_of_blk y (i := 3) rfl, cell_of_blk y (i := 4) rfl, cell_of_blk y (i := 5) rfl, cell_of_blk y (i := 6) rfl, cell_of_blk z (i := 1) rfl⟩)
          go_region_held3 (fun W' => W'.cell? ⟨q, 0, none⟩ = some (.int .i64 c.t) ∧ W'.cell? ⟨q, 1, none⟩ = some (.int .i64 c.s) ∧ W'.cell? ⟨q, 2, none⟩ = some (.int .i64 c.c) ∧ W'.cell? ⟨q, 3, none⟩ = some (.int .i64 c.h) ∧ W'.cell? ⟨q, 4, none⟩ = some (.int .i64 c.k) ∧ W'.cell? ⟨q, 5, none⟩ = some (.int .i64 c.e) ∧ W'.cell? ⟨q, 6, none⟩ = some (.int .i64 c.l) ∧ W'.cell? ⟨nb, 1, none⟩ = some (.int .u64 x.v))
            (exact SX.out _ (by (repeat (first | (with_reducible refine Kept.setCell ?_ ?_ _) | (with_reducible refine Kept.alloc ?_ _) | (with_reducible refine Kept.drew ?_))); (first | (with_reducible assumption) | (with_reducible exact Kept.refl _ _) | exact Kept.weaken (l := []) (by with_reducible assumption) (by simp)); all_goals (first | (refine Or.inl ?_; simp; done) | exact Or.inr (Nat.le_refl _))))
            (first | (go_at_call 59; with_reducible refine (CY.out _ (by first | assumption | exact (Kept.refl _ _).drew)).mono ?_; rintro e w5 ⟨rfl, K6⟩
                      have HU5 := hidOf (And.intro (HU.out.1.new K6) (HU.out.2.kept K6 (by simp)))
                      obtain ⟨v9, cx⟩ := ly_row HU5.out.1 HXX.out.2
                      have cf := HU5.out.1.row.free X
                      have cl := HU5.out.1.row.lt))
          clear K6 SX CY HU
          go_upto_region 14 with (fail)
          refine gen_world (fun U => Ly w U q g2 c2 c (stW c (stW c (stW c (lyAll c ns j) ((j : Nat) + 1 : Int) 0 1) ((j : Nat) + 1 : Int) 1 x.k) ((j : Nat) + 1 : Int) 2 (2 * x.v)) ∧ RW 72 U nb (nnA x)) ?_ ?_
          · have ks := (Kept.refl [g2] w5).setCell (p := ⟨g2, X, none⟩) (Or.inl (by simp)) (.int .u64 (2 * x.v))
            rw [show IntKind.u64.wrap (2 * x.v) = 2 * x.v by rw [IntKind.wrap_u64]; omega]
            exact ⟨HU5.out.1.set HXX.out.1 HXX.out.2 (2 * x.v), HU5.out.2.kept ks (by simp; exact HNE.out.2)⟩
          clear HU5 cx cf cl HXX HXn
          rintro U ⟨UL, UB⟩
          have HU := hidOf (And.intro UL UB)
          clear UL UB
          have z4 := cell_of_blk HU.out.2 (i := 4) (v := .bool x.d) rfl
          go_upto_if 69 with (fail)
          clear z4
          go_cut [6] from 34 to 128 (fun s6 U => s6 = .slice (some ⟨g2, 0, none⟩) n c2 ∧ Ly w U q g2 c2 c (stW c (stW c (stW c (lyAll c ns j) ((j : Nat) + 1 : Int) 0 1) ((j : Nat) + 1 : Int) 1 x.k) ((j : Nat) + 1 : Int) 2 (lyV x)) ∧ RW 72 U nb (nnA x))
          case first =>
            cases hd : x.d with
            | true =>
              have eV : lyV x = 2 * x.v + 1 := by unfold lyV; rw [if_pos hd]
              have HDD := hidOf eV
              have hdb : x.d = true := hd
              clear eV hd
              go_upto_region 15 with (fail)
              obtain ⟨X, hX, hXl⟩ := cell_at (c := c) (i := ((j : Nat) : Int) + 1) (f := 2) ⟨HR.out.r, by omega, by have := HJ.out; omega, by omega, by have := HH.out; omega⟩
              have CX := hidOf (fun W' => rcell_is hX W')
              have HXX := hidOf (And.intro hX hXl)
              have HXn : (X : Int) < n := by have := HLN.out; omega
              clear hX hXl
              have CY : Hid (∀ W' : World, Kept [] U W' → Calls Tryd.prog 59 #[.agg #[.int .i64 c.t, .int .i64 c.s, .int .i64 c.c, .int .i64 c.h, .int .i64 c.k, .int .i64 c.e, .int .i64 c.l], .int .i64 (IntKind.i64.wrap ((j : Int) + 1)), .int .i64 2] W' fun e w' => e = .returned (.int .i64 X) ∧ Kept [] U w') := hidOf (fun W' kk => by rw [HEW.out]; exact (CX.out W').mono fun _ _ hh => And.intro hh.1 (kk.trans hh.2))
              clear CX
              have SX : Hid (∀ W' : World, Kept [g2] U W' → W'.cell? ⟨q, 0, none⟩ = some (.int .i64 c.t) ∧ W'.cell? ⟨q, 1, none⟩ = some (.int .i64 c.s) ∧ W'.cell? ⟨q, 2, none⟩ = some (.int .i64 c.c) ∧ W'.cell? ⟨q, 3, none⟩ = some (.int .i64 c.h) ∧ W'.cell? ⟨q, 4, none⟩ = some (.int .i64 c.k) ∧ W'.cell? ⟨q, 5, none⟩ = some (.int .i64 c.e) ∧ W'.cell? ⟨q, 6, none⟩ = some (.int .i64 c.l) ∧ W'.cell? ⟨nb, 1, none⟩ = some (.int .u64 x.v)) := hidOf (by
                intro W' kk
                have y := HU.out.1.cb.kept kk (by simp; exact HNE.out.1)
                have z := HU.out.2.kept kk (by simp; exact HNE.out.2)
                exact ⟨cell_of_blk y (i := 0) rfl, cell_of_blk y (i := 1) rfl, cell_of_blk y (i := 2) rfl, cell_of_blk y (i := 3) rfl, cell_of_blk y (i := 4) rfl, cell_of_blk y (i := 5) rfl, cell_of_blk y (i := 6) rfl, cell_of_blk z (i := 1) rfl⟩)
              go_region_held3 (fun W' => W'.cell? ⟨q, 0, none⟩ = some (.int .i64 c.t) ∧ W'.cell? ⟨q, 1, none⟩ = some (.int .i64 c.s) ∧ W'.cell? ⟨q, 2, none⟩ = some (.int .i64 c.c) ∧ W'.cell? ⟨q, 3, none⟩ = some (.int .i64 c.h) ∧ W'.cell? ⟨q, 4, none⟩ = some (.int .i64 c.k) ∧ W'.cell? ⟨q, 5, none⟩ = some (.int .i64 c.e) ∧ W'.cell? ⟨q, 6, none⟩ = some (.int .i64 c.l) ∧ W'.cell? ⟨nb, 1, none⟩ = some (.int .u64 x.v))
                (exact SX.out _ (by (repeat (first | (with_reducible refine Kept.setCell ?_ ?_ _) | (with_reducible refine Kept.alloc ?_ _) | (with_reducible refine Kept.drew ?_))); (first | (with_reducible assumption) | (with_reducible exact Kept.refl _ _) | exact Kept.weaken (l := []) (by with_reducible assumption) (by simp)); all_goals (first | (refine Or.inl ?_; simp; done) | exact Or.inr (Nat.le_refl _))))
                (first | (go_at_call 59; with_reducible refine (CY.out _ (by first | assumption | exact (Kept.refl _ _).drew)).mono ?_; rintro e w5 ⟨rfl, K6⟩
                          have HU5 := hidOf (And.intro (HU.out.1.new K6) (HU.out.2.kept K6 (by simp)))
                          obtain ⟨v9, cx⟩ := ly_row HU5.out.1 HXX.out.2
                          have cf := HU5.out.1.row.free X
                          have cl := HU5.out.1.row.lt))
              clear K6 SX CY HU
              skip
              go_wp2
              go_meet
              case rel =>
                have ks := (Kept.refl [g2] w5).setCell (p := ⟨g2, X, none⟩) (Or.inl (by simp)) (.int .u64 (2 * x.v + 1))
                rw [show IntKind.u64.wrap (IntKind.u64.wrap (2 * x.v) + 1) = 2 * x.v + 1 by rw [IntKind.wrap_u64, IntKind.wrap_u64]; omega, HDD.out]
                have y := HU5.out.1.set HXX.out.1 HXX.out.2 (2 * x.v + 1)
                have ey : ∀ u v : Int, stW c (stW c (stW c (stW c (lyAll c ns j) ((j : Nat) + 1 : Int) 0 1) ((j : Nat) + 1 : Int) 1 x.k) ((j : Nat) + 1 : Int) 2 u) ((j : Nat) + 1 : Int) 2 v = stW c (stW c (stW c (lyAll c ns j) ((j : Nat) + 1 : Int) 0 1) ((j : Nat) + 1 : Int) 1 x.k) ((j : Nat) + 1 : Int) 2 v := fun u v => by unfold stW; rw [List.set_set]
                rw [ey] at y
                exact ⟨rfl, y, HU5.out.2.kept ks (by simp; exact HNE.out.2)⟩
            | false =>
              have eV : lyV x = 2 * x.v := by unfold lyV; rw [if_neg (by rw [hd]; decide)]
              have HDD := hidOf eV
              have hdb : x.d = false := hd
              clear hd eV
              go_wp2
              go_meet
              case rel => exact ⟨rfl, by rw [HDD.out]; exact HU.out.1, HU.out.2⟩
          case rest =>
            obtain ⟨rfl, UL, UB⟩ := hcut
            clear HU
            have HU := hidOf (And.intro UL UB)
            clear UL UB
            obtain ⟨X, hX, hXl⟩ := cell_at (c := c) (i := ((j : Nat) : Int) + 1) (f := 3) ⟨HR.out.r, by omega, by have := HJ.out; omega, by omega, by have := HH.out; omega⟩
            have CX := hidOf (fun W' => rcell_is hX W')
            have HXX := hidOf (And.intro hX hXl)
            have HXn : (X : Int) < n := by have := HLN.out; omega
            clear hX hXl
            go_wp2_with (first | ((with_reducible change wpList _ _ _ (Oper.mk _ (Op.load 23 (Operand.tmp 2)) _ _ _ _ :: _) _ _); refine wpList_load_rw 23 isT_cf rfl (.tmp 2) rfl q rfl #[.int .i64 c.t, .int .i64 c.s, .int .i64 c.c, .int .i64 c.h, .int .i64 c.k, .int .i64 c.e, .int .i64 c.l] rfl HU.out.1.cb ?_))
            refine (CX.out _).mono ?_
            rintro e w5 ⟨rfl, K5⟩
            have HU5 := hidOf (And.intro (HU.out.1.new K5) (HU.out.2.kept K5 (by simp)))
            clear K5 CX HU
            obtain ⟨v9, cx⟩ := ly_row HU5.out.1 HXX.out.2
            have cf := HU5.out.1.row.free X
            have cl := HU5.out.1.row.lt
            go_upto_region 17 with (fail)
            refine gen_world (fun U => Ly w U q g2 c2 c (stW c (stW c (stW c (stW c (lyAll c ns j) ((j : Nat) + 1 : Int) 0 1) ((j : Nat) + 1 : Int) 1 x.k) ((j : Nat) + 1 : Int) 2 (lyV x)) ((j : Nat) + 1 : Int) 3 1) ∧ RW 72 U nb (nnA x)) ?_ ?_
            · have ks := (Kept.refl [g2] w5).setCell (p := ⟨g2, X, none⟩) (Or.inl (by simp)) (.int .u64 1)
              exact ⟨HU5.out.1.set HXX.out.1 HXX.out.2 1, HU5.out.2.kept ks (by simp; exact HNE.out.2)⟩
            clear HU5 cx cf cl HXX HXn
            rintro U ⟨UL, UB⟩
            have HU := hidOf (And.intro UL UB)
            clear UL UB
            obtain ⟨X, hX, hXl⟩ := cell_at (c := c) (i := ((j : Nat) : Int) + 1) (f := 4) ⟨HR.out.r, by omega, by have := HJ.out; omega, by omega, by have := HH.out; omega⟩
            have CX := hidOf (fun W' => rcell_is hX W')
            have HXX := hidOf (And.intro hX hXl)
            have HXn : (X : Int) < n := by have := HLN.out; omega
            clear hX hXl
            have CY : Hid (∀ W' : World, Kept [] U W' → Calls Tryd.prog 59 #[.agg #[.int .i64 c.t, .int .i64 c.s, .int .i64 c.c, .int .i64 c.h, .int .i64 c.k, .int .i64 c.e, .int .i64 c.l], .int .i64 (IntKind.i64.wrap ((j : Int) + 1)), .int .i64 4] W' fun e w' => e = .returned (.int .i64 X) ∧ Kept [] U w') := hidOf (fun W' kk => by rw [HEW.out]; exact (CX.out W').mono fun _ _ hh => And.intro hh.1 (kk.trans hh.2))
            clear CX
            have SX : Hid (∀ W' : World, Kept [g2] U W' → W'.cell? ⟨q, 0, none⟩ = some (.int .i64 c.t) ∧ W'.cell? ⟨q, 1, none⟩ = some (.int .i64 c.s) ∧ W'.cell? ⟨q, 2, none⟩ = some (.int .i64 c.c) ∧ W'.cell? ⟨q, 3, none⟩ = some (.int .i64 c.h) ∧ W'.cell? ⟨q, 4, none⟩ = some (.int .i64 c.k) ∧ W'.cell? ⟨q, 5, none⟩ = some (.int .i64 c.e) ∧ W'.cell? ⟨q, 6, none⟩ = some (.int .i64 c.l) ∧ W'.cell? ⟨nb, 2, none⟩ = some (.int .i64 x.t)) := hidOf (by
              intro W' kk
              have y := HU.out.1.cb.kept kk (by simp; exact HNE.out.1)
              have z := HU.out.2.kept kk (by simp; exact HNE.out.2)
              exact ⟨cell_of_blk y (i := 0) rfl, cell_of_blk y (i := 1) rfl, cell_of_blk y (i := 2) rfl, cell_of_blk y (i := 3) rfl, cell_of_blk y (i := 4) rfl, cell_of_blk y (i := 5) rfl, cell_of_blk y (i := 6) rfl, cell_of_blk z (i := 2) rfl⟩)
            go_region_held3 (fun W' => W'.cell? ⟨q, 0, none⟩ = some (.int .i64 c.t) ∧ W'.cell? ⟨q, 1, none⟩ = some (.int .i64 c.s) ∧ W'.cell? ⟨q, 2, none⟩ = some (.int .i64 c.c) ∧ W'.cell? ⟨q, 3, none⟩ = some (.int .i64 c.h) ∧ W'.cell? ⟨q, 4, none⟩ = some (.int .i64 c.k) ∧ W'.cell? ⟨q, 5, none⟩ = some (.int .i64 c.e) ∧ W'.cell? ⟨q, 6, none⟩ = some (.int .i64 c.l) ∧ W'.cell? ⟨nb, 2, none⟩ = some (.int .i64 x.t))
              (exact SX.out _ (by (repeat (first | (with_reducible refine Kept.setCell ?_ ?_ _) | (with_reducible refine Kept.alloc ?_ _) | (with_reducible refine Kept.drew ?_))); (first | (with_reducible assumption) | (with_reducible exact Kept.refl _ _) | exact Kept.weaken (l := []) (by with_reducible assumption) (by simp)); all_goals (first | (refine Or.inl ?_; simp; done) | exact Or.inr (Nat.le_refl _))))
              (first | (go_at_call 59; with_reducible refine (CY.out _ (by first | assumption | exact (Kept.refl _ _).drew)).mono ?_; rintro e w5 ⟨rfl, K6⟩
                        have HU5 := hidOf (And.intro (HU.out.1.new K6) (HU.out.2.kept K6 (by simp)))
                        obtain ⟨v9, cx⟩ := ly_row HU5.out.1 HXX.out.2
                        have cf := HU5.out.1.row.free X
                        have cl := HU5.out.1.row.lt))
            clear K6 SX CY HU
            go_upto_region 18 with (fail)
            refine gen_world (fun U => Ly w U q g2 c2 c (stW c (stW c (stW c (stW c (stW c (lyAll c ns j) ((j : Nat) + 1 : Int) 0 1) ((j : Nat) + 1 : Int) 1 x.k) ((j : Nat) + 1 : Int) 2 (lyV x)) ((j : Nat) + 1 : Int) 3 1) ((j : Nat) + 1 : Int) 4 x.t) ∧ RW 72 U nb (nnA x)) ?_ ?_
            · have ks := (Kept.refl [g2] w5).setCell (p := ⟨g2, X, none⟩) (Or.inl (by simp)) (.int .u64 x.t)
              rw [show IntKind.u64.wrap x.t = x.t by rw [IntKind.wrap_u64]; omega]
              exact ⟨HU5.out.1.set HXX.out.1 HXX.out.2 x.t, HU5.out.2.kept ks (by simp; exact HNE.out.2)⟩
            clear HU5 cx cf cl HXX HXn
            rintro U ⟨UL, UB⟩
            have HU := hidOf (And.intro UL UB)
            clear UL UB
            obtain ⟨X, hX, hXl⟩ := cell_at (c := c) (i := ((j : Nat) : Int) + 1) (f := 5) ⟨HR.out.r, by omega, by have := HJ.out; omega, by omega, by have := HH.out; omega⟩
            have CX := hidOf (fun W' => rcell_is hX W')
            have HXX := hidOf (And.intro hX hXl)
            have HXn : (X : Int) < n := by have := HLN.out; omega
            clear hX hXl
            go_wp2_with (first | ((with_reducible change wpList _ _ _ (Oper.mk _ (Op.load 23 (Operand.tmp 2)) _ _ _ _ :: _) _ _); refine wpList_load_rw 23 isT_cf rfl (.tmp 2) rfl q rfl #[.int .i64 c.t, .int .i64 c.s, .int .i64 c.c, .int .i64 c.h, .int .i64 c.k, .int .i64 c.e, .int .i64 c.l] rfl HU.out.1.cb ?_))
            refine (CX.out _).mono ?_
            rintro e w5 ⟨rfl, K5⟩
            have HU5 := hidOf (And.intro (HU.out.1.new K5) (HU.out.2.kept K5 (by simp)))
            clear K5 CX HU
            obtain ⟨v9, cx⟩ := ly_row HU5.out.1 HXX.out.2
            have cf := HU5.out.1.row.free X
            have cl := HU5.out.1.row.lt
            go_upto_region 19 with (fail)
            refine gen_world (fun U => Ly w U q g2 c2 c (stW c (stW c (stW c (stW c (stW c (stW c (lyAll c ns j) ((j : Nat) + 1 : Int) 0 1) ((j : Nat) + 1 : Int) 1 x.k) ((j : Nat) + 1 : Int) 2 (lyV x)) ((j : Nat) + 1 : Int) 3 1) ((j : Nat) + 1 : Int) 4 x.t) ((j : Nat) + 1 : Int) 5 1) ∧ RW 72 U nb (nnA x)) ?_ ?_
            · have ks := (Kept.refl [g2] w5).setCell (p := ⟨g2, X, none⟩) (Or.inl (by simp)) (.int .u64 1)
              exact ⟨HU5.out.1.set HXX.out.1 HXX.out.2 1, HU5.out.2.kept ks (by simp; exact HNE.out.2)⟩
            clear HU5 cx cf cl HXX HXn
            rintro U ⟨UL, UB⟩
            have HU := hidOf (And.intro UL UB)
            clear UL UB
            have LS : Hid ((stW c (stW c (stW c (stW c (stW c (stW c (lyAll c ns j) ((j : Nat) + 1 : Int) 0 1) ((j : Nat) + 1 : Int) 1 x.k) ((j : Nat) + 1 : Int) 2 (lyV x)) ((j : Nat) + 1 : Int) 3 1) ((j : Nat) + 1 : Int) 4 x.t) ((j : Nat) + 1 : Int) 5 1) = lySix c x (j + 1) (lyAll c ns j)) := hidOf (by unfold lySix; rfl)
            have HTL : Hid (((ndOf c ns).tl (j + 1) : Int) = x.t ∧ ((ndOf c ns).um (j + 1) : Int) = x.t - x.m) := hidOf (by
              have e := HXE.out
              have b := HNB.out.1
              unfold nnB at b
              have e1 : (ndOf c ns).tl (j + 1) = x.t.toNat := by rw [e]; rfl
              have e2 : (ndOf c ns).um (j + 1) = (x.t - x.m).toNat := by rw [e]; rfl
              omega)
            generalize (stW c (stW c (stW c (stW c (stW c (stW c (lyAll c ns j) ((j : Nat) + 1 : Int) 0 1) ((j : Nat) + 1 : Int) 1 x.k) ((j : Nat) + 1 : Int) 2 (lyV x)) ((j : Nat) + 1 : Int) 3 1) ((j : Nat) + 1 : Int) 4 x.t) ((j : Nat) + 1 : Int) 5 1) = CS at LS HU
            go_upto_region 20 with (fail)
            go_loopw [10, 11] (fun s10 s11 wr => ∃ M : Nat, M ≤ (ndOf c ns).tl (j + 1) ∧ s10 = .int .i64 M ∧ Ly w wr q g2 c2 c (lyLv c (ndOf c ns) (j + 1) CS M) ∧ RW 72 wr nb (nnA x)) (fun s10 _ _ => (ndOf c ns).tl (j + 1) - (intOf s10).toNat)
            case atStart => exact ⟨0, by omega, by first | rfl | go_num, HU.out.1, HU.out.2⟩
            case round =>
              clear HU
              obtain ⟨M, hM, rfl, UL, UB⟩ := hrel
              have HU := hidOf (And.intro UL UB)
              have z2 := cell_of_blk UB (i := 2) (v := .int .i64 x.t) rfl
              have z3 := cell_of_blk UB (i := 3) (v := .int .i64 x.m) rfl
              clear UL UB
              by_cases hlt3 : M < (ndOf c ns).tl (j + 1)
              · have hz3 : (M : Int) < x.t := by have := HTL.out.1; omega
                have BH : Hid (∀ W' : World, Kept [] w W' → Calls Tryd.prog 58 #[.slice (some ⟨b1, o1, none⟩) k cap, .int .i64 j, .int .i64 M] W' fun e w' => e = .returned (.int .u64 (nw k (N0 (ndOf c ns) M (j + 1)) false)) ∧ Kept [] W' w') := hidOf (fun W' kk => by rw [← e1]; exact behind_any c ns ao k cap j (j + 1) M W' (HS.out.new kk) HK.out (by omega) (by omega) (by omega))
                have kn : k < 4294967296 := by omega
                have HV0 := hidOf (And.intro (nw_word (n := k) (j := N0 (ndOf c ns) M (j + 1)) kn false) (And.intro (mark_nw (n := k) (j := N0 (ndOf c ns) M (j + 1)) kn) (show k = (ndOf c ns).n from HK.out)))
                have HME := hidOf (show (nw (ndOf c ns).n (N0 (ndOf c ns) M (j + 1)) (decide ((ndOf c ns).um (j + 1) ≤ M))) = if (ndOf c ns).um (j + 1) ≤ M then nw k (N0 (ndOf c ns) M (j + 1)) true else nw k (N0 (ndOf c ns) M (j + 1)) false by rw [HV0.out.2.2]; by_cases h : (ndOf c ns).um (j + 1) ≤ M; rw [if_pos h, decide_eq_true h]; rw [if_neg h, decide_eq_false h])
                obtain ⟨VT, hVT⟩ : ∃ VT, VT = nw k (N0 (ndOf c ns) M (j + 1)) true := ⟨_, rfl⟩
                obtain ⟨VF, hVF⟩ : ∃ VF, VF = nw k (N0 (ndOf c ns) M (j + 1)) false := ⟨_, rfl⟩
                obtain ⟨VV, hVV⟩ : ∃ VV, VV = nw (ndOf c ns).n (N0 (ndOf c ns) M (j + 1)) (decide ((ndOf c ns).um (j + 1) ≤ M)) := ⟨_, rfl⟩
                rw [← hVF] at BH HV0
                rw [← hVT] at HV0 HME
                rw [← hVF, ← hVV] at HME
                have HVV := hidOf hVV
                clear hVT hVF hVV kn
                have m0 : 0 ≤ x.m := HNB.out.1.2.2.1
                have m1 : x.m ≤ x.t := HNB.out.1.2.2.2.1
                have hM6 : (M : Int) ≤ 6 := by omega
                go_wp2_with fail
                refine (BH.out wr HU.out.1.kp).mono ?_
                rintro e w5 ⟨rfl, K5⟩
                have HU5 := hidOf (And.intro (HU.out.1.new K5) (HU.out.2.kept K5 (by simp)))
                have y2 := cell_of_blk HU5.out.2 (i := 2) (v := .int .i64 x.t) rfl
                have y3 := cell_of_blk HU5.out.2 (i := 3) (v := .int .i64 x.m) rfl
                clear K5 HU z2 z3 BH
                go_upto_if 117 with (fail)
                go_cut [11] from 101 to 128 (fun s11 U => s11 = .int .u64 VV ∧ Ly w U q g2 c2 c (lyLv c (ndOf c ns) (j + 1) CS M) ∧ RW 72 U nb (nnA x))
                case first =>
                  clear y2 y3
                  by_cases hm : (ndOf c ns).um (j + 1) ≤ M
                  · have hmz : x.t - x.m ≤ (M : Int) := by have := HTL.out.2; omega
                    have HVE := hidOf (show VV = VT by have z := HME.out; rw [if_pos hm] at z; exact z)
                    have MK := hidOf (rmark_any VF w5 HV0.out.1.1 HV0.out.1.2)
                    rw [HV0.out.2.1] at MK
                    clear hm
                    go_wp2_with fail
                    refine MK.out.mono ?_
                    rintro e w6 ⟨rfl, K6⟩
                    have HU6 := hidOf (And.intro (HU5.out.1.new K6) (HU5.out.2.kept K6 (by simp)))
                    clear K6 MK
                    go_wp2
                    go_meet
                    case rel => exact ⟨by rw [HVE.out], HU6.out⟩
                  · have hmz : (M : Int) < x.t - x.m := by have := HTL.out.2; omega
                    have HVE := hidOf (show VV = VF by have z := HME.out; rw [if_neg hm] at z; exact z)
                    clear hm
                    go_wp2
                    go_meet
                    case rel => exact ⟨by rw [HVE.out], HU5.out⟩
                case rest =>
                  obtain ⟨rfl, UL, UB⟩ := hcut
                  clear HU5 y2 y3
                  have HU := hidOf (And.intro UL UB)
                  clear UL UB
                  obtain ⟨X, hX, hXl⟩ := cell_at (c := c) (i := ((j + 1 : Nat) : Int)) (f := ((6 + M : Nat) : Int)) ⟨HR.out.r, by omega, by have := HJ.out; omega, by omega, by have := HH.out; have := HNB.out.1.2.1; omega⟩
                  have hX2 : clV' c ((j : Int) + 1) (6 + (M : Int)) = X := by rw [show 6 + (M : Int) = ((6 + M : Nat) : Int) by omega, show (j : Int) + 1 = ((j + 1 : Nat) : Int) by omega]; exact hX
                  have CX := hidOf (fun W' => rcell_is hX2 W')
                  have HXX := hidOf (And.intro hX hXl)
                  have HXn : (X : Int) < n := by have := HLN.out; omega
                  clear hX hXl hX2
                  go_wp2_with (first | ((with_reducible change wpList _ _ _ (Oper.mk _ (Op.load 23 (Operand.tmp 2)) _ _ _ _ :: _) _ _); refine wpList_load_rw 23 isT_cf rfl (.tmp 2) rfl q rfl #[.int .i64 c.t, .int .i64 c.s, .int .i64 c.c, .int .i64 c.h, .int .i64 c.k, .int .i64 c.e, .int .i64 c.l] rfl HU.out.1.cb ?_))
                  refine (CX.out _).mono ?_
                  rintro e w7 ⟨rfl, K7⟩
                  have HU7 := hidOf (And.intro (HU.out.1.new K7) (HU.out.2.kept K7 (by simp)))
                  obtain ⟨v9, cx⟩ := ly_row HU7.out.1 HXX.out.2
                  have cf := HU7.out.1.row.free X
                  have cl := HU7.out.1.row.lt
                  clear K7 CX HU
                  go_wp2
                  go_roundw
                  case rel =>
                    have z := HU7.out.1.set HXX.out.1 HXX.out.2 VV
                    rw [HVV.out] at z ⊢
                    have ks := (Kept.refl [g2] w7).setCell (p := ⟨g2, X, none⟩) (Or.inl (by simp)) (.int .u64 (nw (ndOf c ns).n (N0 (ndOf c ns) M (j + 1)) (decide ((ndOf c ns).um (j + 1) ≤ M))))
                    exact ⟨M + 1, by omega, by go_num, z, HU7.out.2.kept ks (by simp; exact HNE.out.2)⟩
                  case measure => simp [intOf]; omega
              · have hME : M = (ndOf c ns).tl (j + 1) := by omega
                have hz3 : ¬ (M : Int) < x.t := by have := HTL.out.1; omega
                have HY : Hid (Ly w wr q g2 c2 c (lyAll c ns (j + 1))) := hidOf (by
                  have z := HU.out.1
                  rw [LS.out, hME, HXE.out] at z
                  exact z)
                clear HU hME LS
                go_wp2
                go_roundw
                case rel => exact ⟨j + 1, by omega, by go_num, HY.out⟩
                case measure => simp [intOf]; omega
        · have hje : j = k := by omega
          have hjz : ¬ (j : Int) < (k : Int) := by omega
          have HY : Hid (RowR wr g2 (layV c ns) c2 ∧ Kept [] w wr ∧ w.heap.size ≤ g2) := hidOf (by
            have z := HL.out
            rw [hje, HK.out] at z
            exact ⟨z.row, z.kp, z.g0⟩)
          clear HL hje
          go_wp2
          go_ret
          have e := HLN.out
          subst e
          exact ⟨g2, c2, rfl, HY.out.2.2, HY.out.1, HY.out.2.1⟩
end K
end Go.Proofs.YtjbdaejkofkcpaaDoor
