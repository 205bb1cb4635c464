/-
  The law's own words: the nodes of a level, in order; a build that goes on to its end, alone.
  Nodes of which one is laid on one level first: the words; a copy of the nodes in a row of its own.
  The law's own world of nodes, of which one is on one level first.
  A node of three levels, linked on level 0 alone, is linked on all of them.
-/
import Derived.Test.YtkjjieklccbmoaaGreatDoorZBuild
import Derived.Test.YtkjjieklccbmoaaGreatDoorGOwn
import Derived.Test.YtkjjieklccbmoaaGreatDoorZLay
import Derived.Test.YtkjjieklccbmoaaGreatDoorMNew
import Derived.Test.YtkjjieklccbmoaaGreatDoorHWords2
namespace Go.Proofs.YtkjjieklccbmoaaGreatDoor
open Go.RowKit (Grown Hid Below intOf)
open Go.Deep
namespace K
set_option maxRecDepth 100000
/-- The nodes of a level: they rise, they are nodes, each of them is of Q, and none of P is missing. -/
structure Lst (n : Nat) (P Q : Nat → Prop) (js : List Nat) : Prop where
  up : js.Pairwise (· < ·)
  nd : ∀ x ∈ js, 1 ≤ x ∧ x ≤ n ∧ Q x
  all : ∀ m, 1 ≤ m → m ≤ n → P m → m ∈ js
def jsI (js : List Nat) : List Int := js.map (fun j : Nat => (j : Int))
theorem jsI_len (js : List Nat) : (jsI js).length = js.length := by unfold jsI; simp
theorem jsI_get (js : List Nat) (i : Nat) : (jsI js).getD i 0 = ((js.getD i 0 : Nat) : Int) := by
  unfold jsI
  rw [List.getD_eq_getElem?_getD, List.getD_eq_getElem?_getD, List.getElem?_map]
  cases js[i]? <;> rfl
theorem iwC_len (x : Int) : (iwC x).length = 1 := rfl
theorem iwC_one (x : Int) : ∀ u ∈ iwC x, u.oneCell' = true := by intro u hu; simp [iwC] at hu; subst hu; rfl
theorem info_int : (Tryz.prog.info? 3).map (fun i => (i.zero, i.size, i.bytes)) = some (some (.int .i64 0), 1, 8) := by kernel_rfl
theorem own_i {w : World} {base : Nat} {T : TypeId} {v : Value} {xs : List Int} (h : OwnV 1 iwC w base T v xs) : ∃ ao cap, v = .slice ao xs.length cap ∧ ∀ i, i < xs.length → ∃ b, ao = some ⟨b, 0, none⟩ ∧ b < w.heap.size ∧ w.cell? ⟨b, i, none⟩ = some (.int .i64 (xs.getD i 0)) := by
  obtain ⟨ao, cap, e, S, _, _, hb⟩ := h.shape iwC_len
  refine ⟨ao, cap, e, fun i hi => ?_⟩
  obtain ⟨b, off, rfl, hlt, hc⟩ := S (by omega)
  have e0 := (hb _ rfl).2.1
  injection e0 with _ e2
  subst e2
  have z := hc i hi 0 _ rfl
  have ex : xs.getD i 0 = xs[i] := by simp [hi]
  rw [ex]
  exact ⟨b, rfl, hlt, by simpa using z⟩
/-- Where the law is on a level. -/
structure Lw (w wr : World) (m p r : Nat) (c : Cfg) (cs : List Int) (cnt : Int) (L n : Nat) (P Q C : Nat → Prop) (k : Nat) (v : Value) (j : Nat) (X : Int) (js : List Nat) : Prop where
  mm : ∃ cnt' a', Mm wr m p r c cs cnt' a' ∧ cnt ≤ cnt' ∧ cnt' ≤ cnt + k + 1
  kp : Kept [p, r] w wr
  ow : OwnV 1 iwC wr w.heap.size 3 v (jsI js)
  ln : js.length = k
  kj : k + 1 ≤ j
  jn : j ≤ n + 1
  x : ∃ b, X = nw n j b
  cj : j ≤ n → C j
  up : js.Pairwise (· < ·)
  nd : ∀ x ∈ js, 1 ≤ x ∧ x ≤ n ∧ Q x ∧ x < j
  all : ∀ q, 1 ≤ q → q < j → P q → q ∈ js
/-- All that is made behind a world. -/
def Bh (w : World) : Nat → Prop := fun z => w.heap.size ≤ z
/-- A new build over a world's words. -/
structure Bp (w0 w : World) (b fb m p r : Nat) (c : Cfg) (h k tl : Int) (cs : List Int) (cnt : Int) (a : Acc) : Prop where
  bb : BB w b fb h k tl (if tl < 2 then .nilFunc else ffV 46 b) 1 0
  ff : FB w fb (ffV 73 fb) k 0 0 0 0 0 none 0 0
  mm : Mm w m p r c cs cnt a
  kp : Kept [] w0 w
  t0 : Tab w0
  ob : w0.heap.size ≤ b
  of : w0.heap.size ≤ fb
  op : w0.heap.size ≤ p
  ow : w0.heap.size ≤ r
  hr : riB c = true
  wd : Wds cs
  n0 : 0 ≤ cnt
  hW : isW h
  kW : isW k
theorem Bp.start {w0 w : World} {b fb gb m p r : Nat} {c : Cfg} {h k tl t : Int} {cs : List Int} {cnt : Int} {a : Acc} (x : Bp w0 w b fb m p r c h k tl cs cnt a) (G : GB w gb ⟨0, 0, t⟩) (og : w0.heap.size ≤ gb) : Bw (Bh w0) w0 w b fb gb m p r c ⟨0, 0, t⟩ (bmS h k tl) cs cnt a := by
  refine ⟨?_, Fw.start x.hr x.kp x.t0 x.op x.ow (fun _ h => h) (fun z hz => Nat.le_trans x.kp.size hz) x.mm x.ff G x.of og x.wd x.n0, BI.start (riB_true.1 x.hr) tl x.hW x.kW, x.ob⟩
  have e : phB (bmS h k tl) b = if tl < 2 then .nilFunc else ffV 46 b := by
    show (if decide (tl < 2) = true then Value.nilFunc else ffV 46 b) = _
    by_cases ht : tl < 2
    · rw [if_pos (decide_eq_true ht), if_pos ht]
    · rw [if_neg (by rw [decide_eq_true_eq]; exact ht), if_neg ht]
  rw [e]; exact x.bb
theorem Bp.new {w0 w w' : World} {b fb m p r : Nat} {c : Cfg} {h k tl : Int} {cs : List Int} {cnt : Int} {a : Acc} (x : Bp w0 w b fb m p r c h k tl cs cnt a) (kk : Kept [] w w') : Bp w0 w' b fb m p r c h k tl cs cnt a :=
  ⟨x.bb.kept kk (by simp), x.ff.kept kk (by simp), x.mm.new kk, x.kp.trans kk, x.t0, x.ob, x.of, x.op, x.ow, x.hr, x.wd, x.n0, x.hW, x.kW⟩
/-- A build that goes on: so many steps were done, so many are left. -/
structure Bg (I : List Int → Gs → Bm → Int → Prop) (w0 wr : World) (b gb m p r : Nat) (c : Cfg) (cnt left : Int) (i : Nat) : Prop where
  go : ∃ fb g s cs cnt' a, Bw (Bh w0) w0 wr b fb gb m p r c g s cs cnt' a ∧ I cs g s (left - i) ∧ cnt ≤ cnt' ∧ cnt' ≤ cnt + i
  le : (i : Int) ≤ left
/-- At its end. -/
structure Be (I : List Int → Gs → Bm → Int → Prop) (w0 w : World) (b m p r : Nat) (c : Cfg) (cnt left : Int) : Prop where
  fin : ∃ gb fb g s cs cnt' a, Bw (Bh w0) w0 w b fb gb m p r c g s cs cnt' a ∧ (∃ lf, I cs g s lf) ∧ s.d = true ∧ cnt ≤ cnt' ∧ cnt' ≤ cnt + left
set_option maxHeartbeats 4000000 in
theorem ends_any (I : List Int → Gs → Bm → Int → Prop) (w0 w : World) (b fb m p r : Nat) (c : Cfg) (h k tl : Int) (cs : List Int) (cnt : Int) (a : Acc) (most : Nat) (left : Int) (x : Bp w0 w b fb m p r c h k tl cs cnt a) (hl : 0 ≤ left ∧ left < most) (hm : most ≤ 3000) (c1 : cnt < 1000000000)
    (h0 : I cs ⟨0, 0, 0⟩ (bmS h k tl) left) (hs : ∀ cs g s lf cnt', I cs g s lf → s.d = false → I (bC c cs g s) (bG c g s) (bF c cs cnt' g s) (lf - 1)) (hd : ∀ cs g s lf, I cs g s lf → lf ≤ 0 → s.d = true) :
    Calls Tryz.prog 24 #[.pointer (some ⟨b, 0, none⟩), .pointer (some ⟨m, 0, none⟩), .int .i64 most] w fun e w' => ∃ n : Nat, e = .returned (.int .i64 n) ∧ (n : Int) < most ∧ Be I w0 w' b m p r c cnt left := by
  have HX := hidOf x
  have HS := hidOf hs
  have HD := hidOf hd
  have H0 := hidOf h0
  clear x hs hd h0
  go_enter Tryz.func24, Tryz.ntmps24
  go_wp2_with fail
  refine (gnew_any 0 _).mono ?_
  rintro e w1 ⟨gb, rfl, hgb, G, K⟩
  have HZ0 : Hid (Bg I w0 w1 b gb m p r c cnt left 0) := hidOf ⟨⟨fb, _, _, cs, cnt, a, (HX.out.new K).start G (by have := HX.out.kp.size; omega), by have z := H0.out; simpa using z, Int.le_refl _, by omega⟩, hl.1⟩
  clear HX H0 hgb G K
  have hm2 : (most : Int) ≤ 3000 := by omega
  go_wp2
  go_loopw [11] (fun s wr => ∃ i : Nat, i ≤ most ∧ s = .int .i64 i ∧ Bg I w0 wr b gb m p r c cnt left i) (fun s _ => most - (intOf s).toNat)
  case atStart => exact ⟨0, by omega, by first | rfl | go_num, HZ0.out⟩
  case round =>
    clear HZ0
    obtain ⟨i, hi, rfl, Z⟩ := hrel
    obtain ⟨fb, g, s, cs, cnt', a, B, II, z1, z2⟩ := Z.go
    have HZ := hidOf (And.intro B (And.intro II (And.intro z1 z2)))
    have HLE := hidOf Z.le
    clear Z B II z1 z2
    by_cases hlt : i < most
    · have hltz : (i : Int) < (most : Int) := by omega
      have DN := hidOf (bdone_any b fb s wr HZ.out.1.bb)
      obtain ⟨D, hD⟩ : ∃ D, s.d = D := ⟨_, rfl⟩
      rw [hD] at DN
      have HDD := hidOf hD
      clear hD
      go_wp2_with fail
      refine DN.out.mono ?_
      rintro e w2 ⟨rfl, rfl⟩
      clear DN
      cases D with
      | true =>
        go_wp2
        go_ret
        refine ⟨i, rfl, hltz, ⟨gb, fb, g, s, cs, cnt', a, HZ.out.1, ⟨_, HZ.out.2.1⟩, HDD.out, HZ.out.2.2.1, ?_⟩⟩
        have := HZ.out.2.2.2
        have := HLE.out
        omega
      | false =>
        have SP := hidOf (bstep_any HZ.out.1 (by have := HZ.out.2.2.2; omega))
        go_wp2_with fail
        refine SP.out.mono ?_
        rintro e w3 ⟨rfl, R⟩
        have HR := hidOf R
        clear SP R
        go_wp2
        go_roundw
        case rel =>
          obtain ⟨fb2, -, B2, -⟩ := HR.out
          have N := HS.out _ _ _ _ cnt' HZ.out.2.1 HDD.out
          have hlf : ¬ left - (i : Int) ≤ 0 := fun q => by
            have z := HD.out _ _ _ _ HZ.out.2.1 q
            rw [HDD.out] at z; cases z
          refine ⟨i + 1, by omega, by go_num, ⟨⟨fb2, _, _, _, _, _, B2, by have z := N; rwa [show left - (i : Int) - 1 = left - ((i + 1 : Nat) : Int) by omega] at z, ?_, ?_⟩, by omega⟩⟩
          · have := HZ.out.2.2.1; unfold bN; split <;> omega
          · have := HZ.out.2.2.2; unfold bN; split <;> omega
        case measure => simp [intOf]; omega
    · exfalso
      have := HLE.out
      omega
end K
end Go.Proofs.YtkjjieklccbmoaaGreatDoor
namespace Go.Proofs.YtkjjieklccbmoaaGreatDoor
open Go.RowKit (Grown Hid Below)
open Go.Deep
namespace K
set_option maxRecDepth 100000
theorem getD_put {α : Type} (l : List α) (k i : Nat) (x d : α) (hk : k < l.length) : (l.set k x).getD i d = if i = k then x else l.getD i d := by
  rw [List.getD_eq_getElem?_getD, List.getD_eq_getElem?_getD, List.getElem?_set]
  by_cases h : k = i
  · subst h; simp [hk]
  · rw [if_neg h, if_neg (fun e => h e.symm)]
/-- On one level alone. -/
def low1 (x : Nn) : Nn := { x with t := 1, m := if x.m < x.t then 0 else min x.m 1 }
def lowN (ns : List Nn) (k : Nat) : List Nn := ns.set k (low1 (ns.getD k nn0))
theorem lowN_len (ns : List Nn) (k : Nat) : (lowN ns k).length = ns.length := by simp [lowN]
theorem lowN_get {ns : List Nn} {k : Nat} (hk : k < ns.length) (i : Nat) : (lowN ns k).getD i nn0 = if i = k then low1 (ns.getD k nn0) else ns.getD i nn0 := getD_put _ _ _ _ _ hk
theorem low_b {c : Cfg} {x : Nn} (h : nnB c x) : nnB c (low1 x) := by
  obtain ⟨a, b, d, e, f, g⟩ := h
  refine ⟨by show (1 : Int) ≤ 1; omega, by show (1 : Int) ≤ c.h; omega, ?_, ?_, ?_, g⟩
  · show 0 ≤ (if x.m < x.t then 0 else min x.m 1); split <;> omega
  · show (if x.m < x.t then 0 else min x.m 1) ≤ 1; split <;> omega
  · show 0 < (if x.m < x.t then 0 else min x.m 1) → x.d = true
    intro z
    split at z
    · omega
    · exact f (by omega)
theorem RightN.low {c : Cfg} {ns : List Nn} {k : Nat} (h : RightN c ns) (hk : k < ns.length) : RightN c (lowN ns k) := by
  refine ⟨h.r, by rw [lowN_len]; exact h.n, fun i hi => ?_, fun i hi => ?_⟩
  · rw [lowN_len] at hi
    rw [lowN_get hk]
    split
    · exact low_b (h.b k hk)
    · exact h.b i hi
  · rw [lowN_len] at hi
    have z := h.up i hi
    have e : ∀ j, ((lowN ns k).getD j nn0).k = (ns.getD j nn0).k := fun j => by
      rw [lowN_get hk]; split
      · rename_i q; rw [q]; rfl
      · rfl
    rw [e, e]; exact z
theorem wf_low {ns : List Nn} {k : Nat} (hw : ∀ x ∈ ns, x.wf) (hk : k < ns.length) : ∀ x ∈ lowN ns k, x.wf := by
  intro x hx
  rcases List.mem_or_eq_of_mem_set hx with hx | rfl
  · exact hw x hx
  · have e : ns.getD k nn0 = ns[k] := by simp [hk]
    have z : (ns.getD k nn0).wf := by rw [e]; exact hw _ (List.getElem_mem _)
    exact z
/-- A word of a new world that is none of the head's. -/
theorem fc_zero {c : Cfg} (hr : riB c = true) {i F : Nat} (hi : 1 ≤ i) (hc : (i : Int) ≤ c.c) (hF : F < 6 + HN c) : fd c (fcV c) i F = 0 := by
  have R := riB_true.1 hr
  have hh := HN_eq R
  have c0 := R.c0
  have h0 := R.h0
  have i0 : inF c 0 0 := ⟨hr, by omega, by omega, by omega, by omega⟩
  have i4 : inF c 0 4 := ⟨hr, by omega, by omega, by omega, by omega⟩
  have ii : inF c i F := ⟨hr, by omega, by omega, by omega, by omega⟩
  have l0 : (((List.replicate (lnN c) (0 : Int)).set 0 1).length : Int) = lnV c := by simp [lnN_eq]
  show fd c (stW c (stW c ((List.replicate (lnN c) 0).set 0 1) 0 0 1) 0 4 c.h) i F = 0
  rw [fd_stW (by rw [stW_len]; exact l0) i4, if_neg (by omega), fd_stW l0 i0, if_neg (by omega)]
  unfold fd
  rw [rdG_eq]
  split
  · rename_i hx
    have e2 : clV' c i F = 1 + c.t * c.s + i * (6 + c.h) + F := if_pos ii
    have z := (fld_wh ii).2.1
    have ts := ts_bd R
    rw [getD_set _ _ _ _ (by simp; unfold hasC at hx; simp at hx; omega), if_neg (by omega)]
    rw [List.getD_eq_getElem?_getD, List.getElem?_replicate]
    split <;> rfl
  · rfl
/-- A word above a node's levels. -/
theorem lay_zero {c : Cfg} {ns : List Nn} (h : RightN c ns) {i L : Nat} (i1 : 1 ≤ i) (hi : i ≤ ns.length) (hL : L < HN c) (ht : (ndOf c ns).tl i ≤ L) : ∀ j, j ≤ ns.length → fd c (lyAll c ns j) i (6 + L : Nat) = 0
  | 0, _ => by
    have hn := h.n
    show fd c (lyHd c (ndOf c ns) (fcV c) (HN c)) i (6 + L : Nat) = 0
    rw [lyHd_fd h.r (fc_ln c) _ (Nat.le_refl _), if_neg (by omega)]
    exact fc_zero h.r i1 (by omega) (by omega)
  | j + 1, hj => by
    have ih := lay_zero h i1 hi hL ht j (by omega)
    have hn := h.n
    have hz : ((j + 1 : Nat) : Int) ≤ c.c := by omega
    have htj : (ndOf c ns).tl (j + 1) ≤ HN c := h.ok.tl (j + 1) hj
    have ihl : ((lyAll c ns j).length : Int) = lnV c := by rw [lyAll_len, lnN_eq]
    have l6 : ((lySix c (ns.getD j nn0) (j + 1) (lyAll c ns j)).length : Int) = lnV c := by rw [lySix_len]; exact ihl
    show fd c (lyLv c (ndOf c ns) (j + 1) (lySix c (ns.getD j nn0) (j + 1) (lyAll c ns j)) ((ndOf c ns).tl (j + 1))) i (6 + L : Nat) = 0
    rw [lyLv_fd h.r l6 hz _ htj, lySix_fd h.r ihl hz]
    by_cases e : i = j + 1
    · rw [e] at ht
      rw [if_neg (by omega), if_neg (by omega)]; exact ih
    · rw [if_neg (by omega), if_neg (by omega)]; exact ih
/-- The levels on which the node is to be deleted have the mark. -/
def lyMk (c : Cfg) (z U : Nat) (cs : List Int) : Nat → List Int
  | 0 => cs
  | M + 1 => if 1 ≤ M ∧ U ≤ M then stW c (lyMk c z U cs M) z (6 + M : Nat) 4611686018427387904 else lyMk c z U cs M
theorem lyMk_len (c : Cfg) (z U : Nat) (cs : List Int) : ∀ M, (lyMk c z U cs M).length = cs.length
  | 0 => rfl
  | M + 1 => by
    have ih := lyMk_len c z U cs M
    unfold lyMk
    split
    · rw [stW_len]; exact ih
    · exact ih
theorem lyMk_fd {c : Cfg} {z U : Nat} {cs : List Int} (hr : riB c = true) (hl : (cs.length : Int) = lnV c) (hz : (z : Int) ≤ c.c) : ∀ M, M ≤ HN c → ∀ (i F : Nat), fd c (lyMk c z U cs M) i F = if i = z ∧ 7 ≤ F ∧ 6 + U ≤ F ∧ F < 6 + M then 4611686018427387904 else fd c cs i F
  | 0, _, i, F => by rw [if_neg (by omega)]; rfl
  | M + 1, hM, i, F => by
    have R := riB_true.1 hr
    have hh := HN_eq R
    have ih := lyMk_fd (U := U) hr hl hz M (by omega)
    by_cases h : 1 ≤ M ∧ U ≤ M
    · have e : lyMk c z U cs (M + 1) = stW c (lyMk c z U cs M) z (6 + M : Nat) 4611686018427387904 := if_pos h
      have hc : inF c z ((6 + M : Nat) : Int) := ⟨hr, by omega, by omega, by omega, by omega⟩
      rw [e, fd_stW (by rw [lyMk_len]; exact hl) hc, ih]
      by_cases q : ((i : Nat) : Int) = (z : Int) ∧ ((F : Nat) : Int) = ((6 + M : Nat) : Int)
      · rw [if_pos q, if_pos (by omega)]
      · rw [if_neg q]
        by_cases q2 : i = z ∧ 7 ≤ F ∧ 6 + U ≤ F ∧ F < 6 + M
        · rw [if_pos q2, if_pos (by omega)]
        · rw [if_neg q2, if_neg (by omega)]
    · have e : lyMk c z U cs (M + 1) = lyMk c z U cs M := if_neg h
      rw [e, ih]
      by_cases q2 : i = z ∧ 7 ≤ F ∧ 6 + U ≤ F ∧ F < 6 + M
      · rw [if_pos q2, if_pos (by omega)]
      · rw [if_neg q2, if_neg (by omega)]
def tT (ns : List Nn) (k : Nat) : Nat := ((ns.getD k nn0).t).toNat
def tU (ns : List Nn) (k : Nat) : Nat := ((ns.getD k nn0).t - (ns.getD k nn0).m).toNat
def laidV (c : Cfg) (ns : List Nn) (k : Nat) : List Int := stW c (lyMk c (k + 1) (tU ns k) (layV c (lowN ns k)) (tT ns k)) ((k + 1 : Nat) : Int) 4 (ns.getD k nn0).t
theorem wds_mk {c : Cfg} {z U : Nat} {cs : List Int} (h : Wds cs) : ∀ M, Wds (lyMk c z U cs M)
  | 0 => h
  | M + 1 => by
    have ih := wds_mk (z := z) (U := U) (c := c) h M
    unfold lyMk
    split
    · exact wds_stW ih _ _ (by unfold isW; omega)
    · exact ih
/-- The words of a world in which a node is on one level. -/
structure LdP (c : Cfg) (ns : List Nn) (k : Nat) (cs : List Int) : Prop where
  lo : Low c (ndOf c (lowN ns k)) (k + 1) (tT ns k) (tU ns k)
  kz : (ndOf c (lowN ns k)).K (k + 1) = (ns.getD k nn0).k
  ln : (cs.length : Int) = lnV c
  wd : Wds cs
  rep : Rep c (ndOf c (lowN ns k)) cs (N0 (ndOf c (lowN ns k)))
  sk : Sk (ndOf c (lowN ns k)) (N0 (ndOf c (lowN ns k)))
  up : Zup c (ndOf c (lowN ns k)) (k + 1) (tT ns k) (tU ns k) cs 1
  nn : (ndOf c (lowN ns k)).n = ns.length
  lv : ∀ L i : Nat, i < ns.length → ((L : Int) < (ns.getD i nn0).t - (ns.getD i nn0).m ↔ LiveF (ndOf c (lowN ns k)) (k + 1) (tU ns k) L (i + 1))
theorem laid_is {c : Cfg} {ns : List Nn} {k : Nat} (h : RightN c ns) (hw : ∀ x ∈ ns, x.wf) (hk : k < ns.length) : LdP c ns k (laidV c ns k) := by
  have R := riB_true.1 h.r
  have hh := HN_eq R
  have h1 := R.h1
  have hn := h.n
  have hL := h.low hk
  have ok := hL.ok
  have b := h.b k hk
  obtain ⟨b1, b2, b3, b4, b5, b6⟩ := b
  have nn : (ndOf c (lowN ns k)).n = ns.length := lowN_len _ _
  have ge : (lowN ns k).getD k nn0 = low1 (ns.getD k nn0) := by rw [lowN_get hk, if_pos rfl]
  have tl1 : (ndOf c (lowN ns k)).tl (k + 1) = 1 := by
    show (if k + 1 = 0 then HN c else ((lowN ns k).getD (k + 1 - 1) nn0).t.toNat) = 1
    rw [if_neg (by omega), show k + 1 - 1 = k by omega, ge]; rfl
  have um1 : (ndOf c (lowN ns k)).um (k + 1) = min (tU ns k) 1 := by
    show (if k + 1 = 0 then HN c else (((lowN ns k).getD (k + 1 - 1) nn0).t - ((lowN ns k).getD (k + 1 - 1) nn0).m).toNat) = _
    rw [if_neg (by omega), show k + 1 - 1 = k by omega, ge]
    unfold tU
    show ((1 : Int) - (if (ns.getD k nn0).m < (ns.getD k nn0).t then 0 else min (ns.getD k nn0).m 1)).toNat = _
    split <;> omega
  have lo : Low c (ndOf c (lowN ns k)) (k + 1) (tT ns k) (tU ns k) := ⟨ok, by omega, by rw [nn]; omega, tl1, um1, by unfold tU tT; omega, by unfold tT; omega, by unfold tT; omega⟩
  have L := Ld.laid hL
  have ll : ((layV c (lowN ns k)).length : Int) = lnV c := L.len
  have lm : ((lyMk c (k + 1) (tU ns k) (layV c (lowN ns k)) (tT ns k)).length : Int) = lnV c := by rw [lyMk_len]; exact ll
  have i4 : inF c ((k + 1 : Nat) : Int) 4 := ⟨h.r, by omega, by omega, by omega, by omega⟩
  have fdx : ∀ i F : Nat, fd c (laidV c ns k) i F = if i = k + 1 ∧ F = 4 then (ns.getD k nn0).t else if i = k + 1 ∧ 7 ≤ F ∧ 6 + tU ns k ≤ F ∧ F < 6 + tT ns k then 4611686018427387904 else fd c (layV c (lowN ns k)) i F := fun i F => by
    unfold laidV
    rw [fd_stW lm i4, lyMk_fd h.r ll (by omega) _ lo.TH]
    by_cases q : ((i : Nat) : Int) = ((k + 1 : Nat) : Int) ∧ ((F : Nat) : Int) = 4
    · rw [if_pos q, if_pos (show i = k + 1 ∧ F = 4 by omega)]
    · rw [if_neg q, if_neg (show ¬ (i = k + 1 ∧ F = 4) by omega)]
  have rp := L.rep ok
  refine ⟨lo, ?_, ?_, ?_, ⟨fun M i hi => ?_, fun i a d => ?_⟩, Sk.laid ok, fun M a d => ?_, nn, fun M i hi => ?_⟩
  · show ((lowN ns k).getD (k + 1 - 1) nn0).k = _
    rw [show k + 1 - 1 = k by omega, ge]; rfl
  · unfold laidV; rw [stW_len]; exact lm
  · unfold laidV
    exact wds_stW (wds_mk (wds_all hL (wf_low hw hk) _ (Nat.le_refl _)) _) _ _ (by unfold isW; omega)
  · rw [fdx, if_neg (by omega)]
    by_cases q : i = k + 1
    · have := hi.2
      rw [q, tl1] at this
      rw [if_neg (by omega)]; exact rp.nx M i hi
    · rw [if_neg (by omega)]; exact rp.nx M i hi
  · have z := fdx i 1
    rw [if_neg (by omega), if_neg (by omega)] at z
    exact z.trans (rp.ky i a d)
  · rw [fdx, if_neg (by omega)]
    by_cases q : tU ns k ≤ M
    · rw [if_pos (by omega), decide_eq_true q, nn]
      unfold nw; rw [if_neg (by omega)]; rfl
    · rw [if_neg (by omega), decide_eq_false q, nw_0]
      have := lo.TH
      exact lay_zero hL (by omega) (by rw [lowN_len]; omega) (by omega) (by rw [tl1]; exact a) _ (Nat.le_refl _)
  · have e : ∀ j, j ≠ k → (lowN ns k).getD j nn0 = ns.getD j nn0 := fun j hj => by rw [lowN_get hk, if_neg hj]
    by_cases q : i = k
    · subst q
      constructor
      · intro z; right; exact ⟨rfl, by unfold tU; omega⟩
      · rintro (z | ⟨_, z⟩)
        · have := z.2; rw [um1] at this; unfold tU at this; omega
        · unfold tU at z; omega
    · have ui : (ndOf c (lowN ns k)).um (i + 1) = ((ns.getD i nn0).t - (ns.getD i nn0).m).toNat := by
        show (if i + 1 = 0 then HN c else (((lowN ns k).getD (i + 1 - 1) nn0).t - ((lowN ns k).getD (i + 1 - 1) nn0).m).toNat) = _
        rw [if_neg (by omega), show i + 1 - 1 = i by omega, e i q]
      constructor
      · intro z; left; exact ⟨by rw [nn]; omega, by rw [ui]; omega⟩
      · rintro (z | ⟨z, _⟩)
        · have := z.2; rw [ui] at this; omega
        · omega
/-- Nodes in a row of their own. -/
def NRow (w : World) (g : Nat) (ns : List Nn) : Prop := ∃ A, w.heap[g]? = some (.cells A 76 (0, 0)) ∧ ∀ i, i < ns.length → A[i * 5]? = some (.int .u64 (ns.getD i nn0).k) ∧ A[i * 5 + 1]? = some (.int .u64 (ns.getD i nn0).v) ∧ A[i * 5 + 2]? = some (.int .i64 (ns.getD i nn0).t) ∧ A[i * 5 + 3]? = some (.int .i64 (ns.getD i nn0).m) ∧ A[i * 5 + 4]? = some (.bool (ns.getD i nn0).d)
theorem NRow.kept {l : List Nat} {w w' : World} {g : Nat} {ns : List Nn} (h : NRow w g ns) (k : Kept l w w') (hg : g ∉ l) : NRow w' g ns := by
  obtain ⟨A, z, q⟩ := h; exact ⟨A, k.blk z hg, q⟩
theorem NRow.lt {w : World} {g : Nat} {ns : List Nn} (h : NRow w g ns) : g < w.heap.size := by obtain ⟨A, z, _⟩ := h; exact lt_of_blk z
theorem NRow.sl {w : World} {g : Nat} {ns : List Nn} (h : NRow w g ns) : SlOf 5 nnL w (some ⟨g, 0, none⟩) ns := by
  obtain ⟨A, z, q⟩ := h
  intro _
  refine ⟨g, 0, rfl, lt_of_blk z, fun i hi j v hv => ?_⟩
  obtain ⟨a0, a1, a2, a3, a4⟩ := q i hi
  have e : ns.getD i nn0 = ns[i] := by simp [hi]
  rw [e] at a0 a1 a2 a3 a4
  rw [Nat.zero_add]
  rcases j with _ | _ | _ | _ | _ | j
  · exact (cell_of_blk z a0).trans hv
  · exact (cell_of_blk z a1).trans hv
  · exact (cell_of_blk z a2).trans hv
  · exact (cell_of_blk z a3).trans hv
  · exact (cell_of_blk z a4).trans hv
  · simp [nnL] at hv
theorem NRow.set {w : World} {g : Nat} {ns : List Nn} (h : NRow w g ns) {k : Nat} (hk : k < ns.length) (x : Nn) (o : Nat) (v : Value) (ho : o < 5) (hx : ∀ j, j < 5 → (nnL x)[j]? = if j = o then some v else (nnL (ns.getD k nn0))[j]?) : NRow (w.setCell ⟨g, k * 5 + o, none⟩ v) g (ns.set k x) := by
  obtain ⟨A, z, q⟩ := h
  refine ⟨A.setIfInBounds (k * 5 + o) v, blk_set z _ _, fun i hi => ?_⟩
  have hi' : i < ns.length := by simpa using hi
  rw [getD_put _ _ _ _ _ hk]
  have qk := q k hk
  have sz : k * 5 + o < A.size := by
    have : k * 5 + 4 < A.size := (Array.getElem?_eq_some_iff.1 qk.2.2.2.2).1
    omega
  have key : ∀ j, j < 5 → (A.setIfInBounds (k * 5 + o) v)[i * 5 + j]? = if i = k ∧ j = o then some v else A[i * 5 + j]? := fun j hj => by
    rw [Array.getElem?_setIfInBounds]
    by_cases e : i = k ∧ j = o
    · obtain ⟨rfl, rfl⟩ := e
      rw [if_pos rfl, if_pos sz, if_pos ⟨rfl, rfl⟩]
    · rw [if_neg (by omega), if_neg e]
  have k0 := key 0 (by omega)
  have k1 := key 1 (by omega)
  have k2 := key 2 (by omega)
  have k3 := key 3 (by omega)
  have k4 := key 4 (by omega)
  rw [Nat.add_zero] at k0
  rw [k0, k1, k2, k3, k4]
  by_cases e : i = k
  · subst e
    have x0 := hx 0 (by omega)
    have x1 := hx 1 (by omega)
    have x2 := hx 2 (by omega)
    have x3 := hx 3 (by omega)
    have x4 := hx 4 (by omega)
    rw [if_pos rfl, qk.1, qk.2.1, qk.2.2.1, qk.2.2.2.1, qk.2.2.2.2]
    have E : ∀ j, (if i = i ∧ j = o then some v else (nnL (ns.getD i nn0))[j]?) = if j = o then some v else (nnL (ns.getD i nn0))[j]? := fun j => by simp
    refine ⟨(E 0).trans x0.symm, (E 1).trans x1.symm, (E 2).trans x2.symm, (E 3).trans x3.symm, (E 4).trans x4.symm⟩
  · simp only [e, false_and, if_false]
    exact q i hi'
theorem nnL_len (x : Nn) : (nnL x).length = 5 := rfl
theorem nnL_one (x : Nn) : ∀ u ∈ nnL x, u.oneCell' = true := by
  intro u hu; simp [nnL] at hu; rcases hu with rfl | rfl | rfl | rfl | rfl <;> rfl
theorem info_nn : (Tryz.prog.info? 76).map (fun i => (i.zero, i.size, i.bytes)) = some (some (.agg #[.int .u64 0, .int .u64 0, .int .i64 0, .int .i64 0, .bool false]), 5, 40) := by kernel_rfl
/-- 'append' of nodes to an empty literal. -/
theorem append_nn (ty : TypeId) (w : World) (xs : List Nn) (ao : Option Addr) (n cap : Nat) (hn : n = xs.length) (hs : SlOf 5 nnL w ao xs) (hc : ao = none → cap = 0) (hm : xs.length ≤ 100000) :
    ∃ g c' w1, (Builtin.append_ #[77, 77] ty #[.slice (some ⟨w.heap.size, 0, none⟩) 0 0, .slice ao n cap]).run Tryz.prog (w.alloc (.cells #[] 76)) = .ok (.slice (some ⟨g, 0, none⟩) n c') w1 ∧ w.heap.size ≤ g ∧ NRow w1 g xs ∧ Kept [] w w1 := by
  subst hn
  obtain ⟨i, hi, hz0, hz1, hz2⟩ := info_parts' info_nn
  have K0 : Kept [] w (w.alloc (.cells #[] 76)) := (Kept.refl [] w).alloc _
  have hown : (w.alloc (.cells #[] 76)).ownsRow w.heap.size 76 5 (.slice (some ⟨w.heap.size, 0, none⟩) 0 0) 0 [] := World.ownsRow_made w #[] 0 (Nat.le_refl _) (by decide) rfl
  cases ao with
  | none =>
    have hx : xs = [] := by
      cases xs with
      | nil => rfl
      | cons a r => obtain ⟨b, off, h, _⟩ := hs (by simp); cases h
    subst hx
    obtain rfl := hc rfl
    exact ⟨_, _, _, run_append_owned_none (P := Tryz.prog) (w := w.alloc (.cells #[] 76)) w.heap.size 77 ty 76 i 5 Tryz.underlying77 hi _ 0 [] hown, Nat.le_refl _, ⟨#[], blk_alloc_new w _, fun i hi => absurd hi (by simp)⟩, K0⟩
  | some ad =>
    have hs1 := hs.new K0
    have hcells : ∀ j u, (xs.flatMap nnL)[j]? = some u → (w.alloc (.cells #[] 76)).cell? (ad.add j) = some u := by
      intro j u hu
      have hj : j < xs.length * 5 := by
        have := (List.getElem?_eq_some_iff.1 hu).1
        rwa [fm_len nnL_len] at this
      obtain ⟨b, off, e, _, hc2⟩ := hs1 (by omega)
      cases e
      have hq : j / 5 < xs.length := by omega
      obtain ⟨v, hv⟩ : ∃ v, (nnL xs[j / 5])[j % 5]? = some v := ⟨_, List.getElem?_eq_getElem (l := nnL xs[j / 5]) (i := j % 5) (by rw [nnL_len]; omega)⟩
      have z := fm_get nnL_len xs (j / 5) hq (j % 5) v hv
      rw [show j / 5 * 5 + j % 5 = j by omega, hu] at z
      cases z
      have y := hc2 (j / 5) hq (j % 5) _ hv
      rw [show (⟨b, off, none⟩ : Addr).add j = ⟨b, off + j, none⟩ by unfold Addr.add; split <;> simp_all]
      have e5 : off + j / 5 * 5 + j % 5 = off + j := by omega
      rw [e5] at y
      exact y
    obtain ⟨v', w1, hrun, hown', hg, hne⟩ := run_append_own (P := Tryz.prog) (w.alloc (.cells #[] 76)) w.heap.size 77 ty 76 i _ 5 40 Tryz.underlying77 hi hz0 hz1 hz2 rfl (by decide) _ 0 [] hown ad xs.length cap (xs.flatMap nnL) (by rw [fm_len nnL_len]) hcells
      (by intro u hu; obtain ⟨x, _, hx⟩ := List.mem_flatMap.1 hu; exact nnL_one x u hx) (by unfold maxLen; omega) (by omega) (by rw [nblk_alloc]; omega)
    rw [Nat.zero_add, List.nil_append] at hown'
    obtain ⟨h1, h2 | ⟨g, cp, cur, rfl, hb, hgb, hnc, hcm, hsz, htk⟩⟩ := hown'
    · have := (hne.1 h2.1).1; cases this
    · refine ⟨g, cp, w1, hrun, hb, ⟨cur, hgb, fun q hq => ?_⟩, (kept_ob hg |> fun z => K0.then z (fun y hy => by simp [Value.ownBlock] at hy; subst hy; exact Or.inr (Nat.le_refl _)))⟩
      have e : xs.getD q nn0 = xs[q] := by simp [hq]
      have key : ∀ j v, (nnL xs[q])[j]? = some v → cur[q * 5 + j]? = some v := fun j v hv => by
        have z := fm_get nnL_len xs q hq j v hv
        rw [← htk, List.getElem?_take] at z
        split at z
        · rw [← Array.getElem?_toList]; exact z
        · cases z
      rw [e]
      exact ⟨key 0 _ rfl, key 1 _ rfl, key 2 _ rfl, key 3 _ rfl, key 4 _ rfl⟩
section
variable {H : Type} {enc : TypeId × Value → H} {w : World}
theorem open_nodes2 {r : Reach} {b0 : Nat} {v : Value} {d : DataW H} {p : List MemPlace} (hv : Value.okWide Tryz.prog w r b0 77 v) (h : DataW.Trod enc Tryz.prog w 0 (fun _ => true) true 77 v d p) :
    ∃ (ao : Option Addr) (cap : Nat) (ns : List Nn), v = .slice ao (List.length ns) cap ∧ SlOf 5 nnL w ao ns ∧ (∀ x ∈ ns, x.wf) ∧ (ao = none → cap = 0) := by
  have : Inhabited Nn := ⟨nn0⟩
  obtain ⟨ao, cap, xs, e, S, G, _, hc⟩ := open_slice_of (ks := [.int .u64, .int .u64, .int .i64, .int .i64, .bool]) nnL Nn.wf Tryz.underlying77 flat_nn cells_nn (by decide) (fun cs hF => nn_cells hF) hv h
  exact ⟨ao, cap, xs, e, S, G, hc⟩
end
end K
end Go.Proofs.YtkjjieklccbmoaaGreatDoor
namespace Go.Proofs.YtkjjieklccbmoaaGreatDoor
open Go.RowKit (Grown Hid Below intOf)
open Go.Deep
namespace K
set_option maxRecDepth 100000
/-- The answer: none, or a world. -/
def LdR (c : Cfg) (ns : List Nn) (kz : Int) (e : Ending) (w w' : World) : Prop := Kept [] w w' ∧ ((e = .returned (.tuple #[.pointer none, .int .i64 0, .bool false]) ∧ ¬ (RightN c ns ∧ 0 ≤ kz ∧ kz < ns.length)) ∨ (∃ k : Nat, kz = k ∧ k < ns.length ∧ RightN c ns ∧ ∃ m p r, e = .returned (.tuple #[.pointer (some ⟨m, 0, none⟩), .int .i64 kz, .bool true]) ∧ (w.heap.size ≤ m ∧ w.heap.size ≤ p ∧ w.heap.size ≤ r) ∧ Mm w' m p r c (laidV c ns k) 0 Acc.zero))
theorem LdR.no {c : Cfg} {ns : List Nn} {kz : Int} {e : Ending} {w w' : World} (he : e = .returned (.tuple #[.pointer none, .int .i64 0, .bool false])) (h : ¬ (RightN c ns ∧ 0 ≤ kz ∧ kz < ns.length)) (k : Kept [] w w') : LdR c ns kz e w w' := ⟨k, Or.inl ⟨he, h⟩⟩
set_option maxHeartbeats 8000000 in
theorem laid_any (c : Cfg) (ns : List Nn) (ao : Option Addr) (n cap : Nat) (kz : Int) (w : World) (hw : ∀ x ∈ ns, x.wf) (hs : SlOf 5 nnL w ao ns) (hn : n = ns.length) (hc : ao = none → cap = 0) :
    Calls Tryz.prog 22 #[.agg #[.int .i64 c.t, .int .i64 c.s, .int .i64 c.c, .int .i64 c.h, .int .i64 c.k, .int .i64 c.e, .int .i64 c.l], .slice ao n cap, .int .i64 kz] w fun e w' => LdR c ns kz e w w' := by
  have HS := hidOf hs
  have HW := hidOf hw
  have HNN := hidOf hn
  have HC := hidOf hc
  obtain ⟨q, hq⟩ : ∃ q, q = w.heap.size := ⟨_, rfl⟩
  have BX : Hid (RW 23 (w.alloc (.cells #[.int .i64 c.t, .int .i64 c.s, .int .i64 c.c, .int .i64 c.h, .int .i64 c.k, .int .i64 c.e, .int .i64 c.l] 23)) q #[.int .i64 c.t, .int .i64 c.s, .int .i64 c.c, .int .i64 c.h, .int .i64 c.k, .int .i64 c.e, .int .i64 c.l] ∧ Kept [] w (w.alloc (.cells #[.int .i64 c.t, .int .i64 c.s, .int .i64 c.c, .int .i64 c.h, .int .i64 c.k, .int .i64 c.e, .int .i64 c.l] 23))) := by rw [hq]; exact ⟨RW.new _ _ _, (Kept.refl [] w).alloc _⟩
  clear hs hw hn hc
  go_enter Tryz.func22, Tryz.ntmps22
  go_upto_region 1 with (fail)
  rw [← hq]
  refine gen_world (fun W => RW 23 W q #[.int .i64 c.t, .int .i64 c.s, .int .i64 c.c, .int .i64 c.h, .int .i64 c.k, .int .i64 c.e, .int .i64 c.l] ∧ Kept [] w W) BX.out ?_
  have hqw : w.heap.size ≤ q := by omega
  clear BX hq
  rintro W ⟨CB0, K0⟩
  have HX := hidOf (And.intro CB0 K0)
  clear CB0 K0
  go_wp2_with (first | ((with_reducible change wpList _ _ _ (Oper.mk _ (Op.load 23 (Operand.tmp 3)) _ _ _ _ :: _) _ _); refine wpList_load_rw 23 isT_cf rfl (.tmp 3) rfl q rfl #[.int .i64 c.t, .int .i64 c.s, .int .i64 c.c, .int .i64 c.h, .int .i64 c.k, .int .i64 c.e, .int .i64 c.l] rfl HX.out.1 ?_))
  refine (right11_any c ns ao n cap W (HS.out.new HX.out.2) HNN.out).mono ?_
  rintro e w1 ⟨B, rfl, hB, K1⟩
  have HX1 := hidOf (And.intro (HX.out.1.kept K1 (by simp)) (HX.out.2.trans K1))
  clear HX K1
  have HX := HX1
  clear HX1
  cases B with
  | false =>
    go_wp2
    go_ret3
    exact LdR.no rfl (fun z => by have := hB.2 z.1; cases this) HX.out.2
  | true =>
    have HR := hidOf (hB.1 rfl)
    have RR := hidOf (riB_true.1 HR.out.r)
    clear hB
    by_cases hk0 : kz < 0
    · go_wp2
      go_ret3
      exact LdR.no rfl (fun z => by omega) HX.out.2
    by_cases hk1 : (n : Int) ≤ kz
    · go_wp2
      go_ret3
      exact LdR.no rfl (fun z => by have := HNN.out; omega) HX.out.2
    obtain ⟨k, rfl⟩ : ∃ k : Nat, kz = k := ⟨kz.toNat, by omega⟩
    have hkn : (k : Int) < n := by omega
    have hkz : ¬ (k : Int) < 0 := by omega
    have hknl : k < n := by omega
    have n64 : (n : Int) ≤ 64 := by have := HR.out.n; have := HNN.out; have := RR.out.c1; omega
    have HK := hidOf (show k < ns.length by have := HNN.out; omega)
    obtain ⟨g, c', w2, hap, hg, NR, K2⟩ := append_nn 77 w1 ns ao n cap HNN.out (HS.out.new HX.out.2) HC.out (by have := HNN.out; omega)
    have HX2 := hidOf (And.intro (HX.out.1.kept K2 (by simp)) (And.intro (HX.out.2.trans K2) (And.intro NR (show ¬ g = q ∧ w.heap.size ≤ g by have := lt_of_blk HX.out.1; have := HX.out.2.size; omega))))
    clear hg NR K2 hk0 hk1
    obtain ⟨b1, o1, ea, l1, s0, s1, s2, s3, s4⟩ := nn_row (HS.out.new HX2.out.2.1) HK.out
    subst ea
    obtain ⟨x, hx⟩ : ∃ x, x = ns.getD k nn0 := ⟨_, rfl⟩
    rw [← hx] at s0 s1 s2 s3 s4
    have HXE := hidOf hx
    have nb := HR.out.b k HK.out
    rw [← hx] at nb
    have HNB := hidOf nb
    have RO : Hid (∀ Y, Kept [] w Y → Y.cell? ⟨b1, o1 + k * 5 + 2, none⟩ = some (.int .i64 x.t) ∧ Y.cell? ⟨b1, o1 + k * 5 + 3, none⟩ = some (.int .i64 x.m) ∧ b1 < Y.heap.size) := hidOf (fun Y kk => by
      obtain ⟨b, o, e, l, _, _, y2, y3, _⟩ := nn_row (HS.out.new kk) HK.out
      cases e
      rw [HXE.out]; exact ⟨y2, y3, l⟩)
    obtain ⟨A, zA, qA⟩ := HX2.out.2.2.1
    have n2 := cell_of_blk zA (qA k HK.out).2.2.1
    have n3 := cell_of_blk zA (qA k HK.out).2.2.2.1
    rw [← hx] at n2 n3
    have nf := free_of_blk zA
    have nl := lt_of_blk zA
    have x0 : 0 ≤ x.m ∧ x.m ≤ x.t ∧ 1 ≤ x.t ∧ x.t ≤ 6 := by obtain ⟨a1, a2, a3, a4, _⟩ := nb; have := RR.out.h1; omega
    have HX0 := hidOf x0
    obtain ⟨TT, hTT⟩ : ∃ TT, TT = x.t := ⟨_, rfl⟩
    obtain ⟨MM, hMM⟩ : ∃ MM, MM = x.m := ⟨_, rfl⟩
    rw [← hTT, ← hMM] at x0 RO
    rw [← hTT] at s2 n2
    rw [← hMM] at s3 n3
    have HTM := hidOf (And.intro hTT hMM)
    have m0 := x0.1
    have mt := x0.2.1
    have t1 := x0.2.2.1
    have t6 := x0.2.2.2
    clear hx nb x0 hTT hMM zA qA s0 s1 s4
    -- what is left once the copy is made
    have KS : Hid (∀ (Y : World) (mn : Int), Y = (w2.setCell ⟨g, k * 5 + 2, none⟩ (.int .i64 1)).setCell ⟨g, k * 5 + 3, none⟩ (.int .i64 mn) → RW 23 Y q #[.int .i64 c.t, .int .i64 c.s, .int .i64 c.c, .int .i64 c.h, .int .i64 c.k, .int .i64 c.e, .int .i64 c.l] ∧ Kept [] w Y ∧ NRow Y g (ns.set k { x with t := 1, m := mn })) := hidOf (fun Y mn e => by
      subst e
      obtain ⟨a1, a2, a3, a4⟩ := HX2.out
      have ks := ((Kept.refl [g] w2).setCell (p := ⟨g, k * 5 + 2, none⟩) (Or.inl (by simp)) (.int .i64 1)).setCell (p := ⟨g, k * 5 + 3, none⟩) (Or.inl (by simp)) (.int .i64 mn)
      have z := (a3.set HK.out { x with t := 1 } 2 (.int .i64 1) (by omega) (fun j hj => by rw [← HXE.out]; rcases (by omega : j = 0 ∨ j = 1 ∨ j = 2 ∨ j = 3 ∨ j = 4) with e | e | e | e | e <;> subst e <;> rfl)).set (k := k) (by simpa using HK.out) { x with t := 1, m := mn } 3 (.int .i64 mn) (by omega) (fun j hj => by rw [getD_put _ _ _ _ _ HK.out, if_pos rfl]; rcases (by omega : j = 0 ∨ j = 1 ∨ j = 2 ∨ j = 3 ∨ j = 4) with e | e | e | e | e <;> subst e <;> rfl)
      rw [List.set_set] at z
      exact ⟨a1.kept ks (by simp; omega), a2.then ks (fun y hy => by simp at hy; subst hy; exact Or.inr a4.2), z⟩)
    have HGQ := hidOf HX2.out.2.2.2
    clear HX
    have RW2 := hidOf (fun (Y : World) (mn : Int) (e : Y = (w2.setCell ⟨g, k * 5 + 2, none⟩ (.int .i64 1)).setCell ⟨g, k * 5 + 3, none⟩ (.int .i64 mn)) => KS.out Y mn e)
    by_cases hm : MM < 1
    · have hlt : MM < TT := by omega
      go_upto_region 5 with (first | (at_builtin; refine wpList_append_run rfl (.tmp 28) (.tmp 29) 77 rfl rfl rfl hap ?_))
      refine gen_world (fun U => RW 23 U q #[.int .i64 c.t, .int .i64 c.s, .int .i64 c.c, .int .i64 c.h, .int .i64 c.k, .int .i64 c.e, .int .i64 c.l] ∧ Kept [] w U ∧ NRow U g (ns.set k { x with t := 1, m := MM })) (KS.out _ MM rfl) ?_
      clear KS hap nf nl n2 n3 s2 s3 RW2
      rintro U ⟨UC, UK, UN⟩
      obtain ⟨r2, r3, rl⟩ := RO.out U UK
      have HU := hidOf (And.intro UC (And.intro UK UN))
      clear UC UK UN HX2
      
      have FIN : Hid (∀ Y : World, Kept [] U Y → RW 23 (Y.setCell ⟨g, k * 5 + 3, none⟩ (.int .i64 0)) q #[.int .i64 c.t, .int .i64 c.s, .int .i64 c.c, .int .i64 c.h, .int .i64 c.k, .int .i64 c.e, .int .i64 c.l] ∧ Kept [] w (Y.setCell ⟨g, k * 5 + 3, none⟩ (.int .i64 0)) ∧ NRow (Y.setCell ⟨g, k * 5 + 3, none⟩ (.int .i64 0)) g (lowN ns k)) := hidOf (fun Y kk => by
        obtain ⟨a1, a2, a3⟩ := HU.out
        have ks := (Kept.refl [g] Y).setCell (p := ⟨g, k * 5 + 3, none⟩) (Or.inl (by simp)) (.int .i64 0)
        have z := (a3.kept kk (by simp)).set (k := k) (by simpa using HK.out) { x with t := 1, m := 0 } 3 (.int .i64 0) (by omega) (fun j hj => by rw [getD_put _ _ _ _ _ HK.out, if_pos rfl]; rcases (by omega : j = 0 ∨ j = 1 ∨ j = 2 ∨ j = 3 ∨ j = 4) with e | e | e | e | e <;> subst e <;> rfl)
        rw [List.set_set] at z
        have e : lowN ns k = ns.set k { x with t := 1, m := 0 } := by
          unfold lowN low1
          rw [← HXE.out, if_pos (by have := HTM.out; omega)]
        rw [← e] at z
        exact ⟨(a1.kept kk (by simp)).kept ks (by simp; have := HGQ.out; omega), (a2.trans kk).then ks (fun y hy => by simp at hy; subst hy; exact Or.inr HGQ.out.2), z⟩)
      obtain ⟨A, zA, qA⟩ := HU.out.2.2
      have n3 := cell_of_blk zA (qA k (by simpa using HK.out)).2.2.2.1
      have nf := free_of_blk zA
      have nl := lt_of_blk zA
      clear zA qA
      go_region
      go_upto_region 7 with (fail)
      refine gen_world (fun V => RW 23 V q #[.int .i64 c.t, .int .i64 c.s, .int .i64 c.c, .int .i64 c.h, .int .i64 c.k, .int .i64 c.e, .int .i64 c.l] ∧ Kept [] w V ∧ NRow V g (lowN ns k)) ?_ ?_
      · first | exact FIN.out _ (Kept.refl _ _).drew | exact FIN.out _ (Kept.refl _ _)
      clear FIN n3 nf nl r2 r3 rl HU
      rintro V ⟨VC, VK, VN⟩
      have HV := hidOf (And.intro VC (And.intro VK VN))
      clear VC VK VN
      have HLW := hidOf (HR.out.low HK.out)
      go_wp2_with (first | ((with_reducible change wpList _ _ _ (Oper.mk _ (Op.load 23 (Operand.tmp 3)) _ _ _ _ :: _) _ _); refine wpList_load_rw 23 isT_cf rfl (.tmp 3) rfl q rfl #[.int .i64 c.t, .int .i64 c.s, .int .i64 c.c, .int .i64 c.h, .int .i64 c.k, .int .i64 c.e, .int .i64 c.l] rfl HV.out.1 ?_))
      refine (lay_any c (lowN ns k) (some ⟨g, 0, none⟩) n c' V HLW.out (wf_low HW.out HK.out) HV.out.2.2.sl (by rw [lowN_len]; exact HNN.out)).mono ?_
      rintro e w3 ⟨g3, c3, rfl, hg3, R3, K3⟩
      have HHN := hidOf (HN_eq RR.out)
      have HTT := hidOf (show tT ns k ≤ HN c ∧ 1 ≤ tT ns k ∧ ((tT ns k : Nat) : Int) = TT ∧ (tU ns k : Int) = TT - MM by
        have := HNB.out.2.1; have := HHN.out; have := HTM.out; have e := HXE.out; unfold tT tU; rw [← e]; omega)
      obtain ⟨LV, hLV⟩ : ∃ LV, LV = layV c (lowN ns k) := ⟨_, rfl⟩
      have LVL := hidOf (show ((LV.length : Nat) : Int) = lnV c by rw [hLV]; exact (Ld.laid HLW.out).len)
      rw [← hLV] at R3
      obtain ⟨LN, hLN⟩ : ∃ LN, LN = lnN c := ⟨_, rfl⟩
      rw [← hLN]
      have LN9 : (LN : Int) ≤ 900 := by rw [hLN]; have := lnN_le c; omega
      have HLN := hidOf hLN
      have HL0 : Hid (Ly w w3 q g3 c3 c (lyMk c (k + 1) (tU ns k) LV 1)) := hidOf (by
        have e : lyMk c (k + 1) (tU ns k) LV 1 = LV := if_neg (fun h => absurd h.1 (by decide))
        rw [e]
        exact ⟨HV.out.1.kept K3 (by simp), R3, HV.out.2.1.trans K3, Nat.le_trans HV.out.2.1.size hg3, by have := LVL.out; have z := lnN_eq c; omega⟩)
      have HLVE := hidOf hLV
      clear hg3 R3 K3 HV hLV hLN
      obtain ⟨q2, q3, ql⟩ := RO.out w3 HL0.out.kp
      go_wp2
      clear q2 q3 ql
      go_loopw [11] (fun s wr => ∃ M : Nat, 1 ≤ M ∧ M ≤ tT ns k ∧ s = .int .i64 M ∧ Ly w wr q g3 c3 c (lyMk c (k + 1) (tU ns k) LV M)) (fun s _ => tT ns k - (intOf s).toNat)
      case atStart => exact ⟨1, by omega, HTT.out.2.1, by first | rfl | go_num, HL0.out⟩
      case round =>
        clear HL0
        obtain ⟨M, hM1, hM, rfl, L⟩ := hrel
        have HL := hidOf L
        clear L
        obtain ⟨q2, q3, ql⟩ := RO.out wr HL.out.kp
        have hM6 : (M : Int) ≤ 6 := by have := HTT.out; omega
        by_cases hltM : (M : Int) < TT
        · go_wp2_with fail
          by_cases hMU : TT - MM ≤ (M : Int)
          · exfalso; omega
          · go_region
            go_wp2
            go_roundw
            case rel =>
              refine ⟨M + 1, by omega, by have := HTT.out; omega, by go_num, ?_⟩
              have e : lyMk c (k + 1) (tU ns k) LV (M + 1) = lyMk c (k + 1) (tU ns k) LV M := if_neg (by have := HTT.out; omega)
              rw [e]
              first | exact HL.out.new (Kept.refl _ _).drew | exact HL.out
            case measure => have := HTT.out; simp [intOf]; omega
        · have hMT : M = tT ns k := by have := HTT.out; omega
          subst hMT
          clear q2 q3 ql hltM hM6 hM1 hM
          obtain ⟨X, hX, hXl⟩ := cell_at (c := c) (i := ((k : Nat) : Int) + 1) (f := 4) ⟨HR.out.r, by omega, by have := HR.out.n; have := HNN.out; omega, by omega, by have := RR.out.h0; omega⟩
          have HXX := hidOf (And.intro hX hXl)
          have HXn : (X : Int) < LN := by have := HLN.out; omega
          have hltF : ¬ ((tT ns k : Nat) : Int) < TT := by have := HTT.out; omega
          have CY : Hid (∀ W' : World, Kept [] wr W' → Calls Tryz.prog 50 #[.agg #[.int .i64 c.t, .int .i64 c.s, .int .i64 c.c, .int .i64 c.h, .int .i64 c.k, .int .i64 c.e, .int .i64 c.l], .int .i64 (IntKind.i64.wrap ((k : Int) + 1)), .int .i64 4] W' fun e w' => e = .returned (.int .i64 X) ∧ Kept [] wr w') := hidOf (fun W' kk => by
            rw [show IntKind.i64.wrap ((k : Int) + 1) = (k : Int) + 1 by rw [IntKind.wrap_i64]; omega]
            exact (rcell_is hX W').mono fun _ _ z => And.intro z.1 (kk.trans z.2))
          have SX : Hid (∀ W' : World, Kept [g3] wr W' → W'.cell? ⟨q, 0, none⟩ = some (.int .i64 c.t) ∧ W'.cell? ⟨q, 1, none⟩ = some (.int .i64 c.s) ∧ W'.cell? ⟨q, 2, none⟩ = some (.int .i64 c.c) ∧ W'.cell? ⟨q, 3, none⟩ = some (.int .i64 c.h) ∧ W'.cell? ⟨q, 4, none⟩ = some (.int .i64 c.k) ∧ W'.cell? ⟨q, 5, none⟩ = some (.int .i64 c.e) ∧ W'.cell? ⟨q, 6, none⟩ = some (.int .i64 c.l) ∧ W'.cell? ⟨b1, o1 + k * 5 + 2, none⟩ = some (.int .i64 TT)) := hidOf (by
            intro W' kk
            have y := HL.out.cb.kept kk (by
              have z := HL.out.cb
              obtain ⟨rest, z2, _⟩ := HL.out.row
              intro e; simp at e; unfold RW at z; rw [e, z2] at z; simp at z)
            have z := (RO.out W' (HL.out.kp.then kk (fun y hy => by simp at hy; subst hy; exact Or.inr HL.out.g0))).1
            exact ⟨cell_of_blk y (i := 0) rfl, cell_of_blk y (i := 1) rfl, cell_of_blk y (i := 2) rfl, cell_of_blk y (i := 3) rfl, cell_of_blk y (i := 4) rfl, cell_of_blk y (i := 5) rfl, cell_of_blk y (i := 6) rfl, z⟩)
          obtain ⟨q2, -, ql⟩ := RO.out wr HL.out.kp
          clear hX hXl
          go_wp2_with fail
          go_region_held3 (fun W' => W'.cell? ⟨q, 0, none⟩ = some (.int .i64 c.t) ∧ W'.cell? ⟨q, 1, none⟩ = some (.int .i64 c.s) ∧ W'.cell? ⟨q, 2, none⟩ = some (.int .i64 c.c) ∧ W'.cell? ⟨q, 3, none⟩ = some (.int .i64 c.h) ∧ W'.cell? ⟨q, 4, none⟩ = some (.int .i64 c.k) ∧ W'.cell? ⟨q, 5, none⟩ = some (.int .i64 c.e) ∧ W'.cell? ⟨q, 6, none⟩ = some (.int .i64 c.l) ∧ W'.cell? ⟨b1, o1 + k * 5 + 2, none⟩ = some (.int .i64 TT))
            (exact SX.out _ (by (repeat (first | (with_reducible refine Kept.setCell ?_ ?_ _) | (with_reducible refine Kept.alloc ?_ _) | (with_reducible refine Kept.drew ?_))); (first | (with_reducible assumption) | (with_reducible exact Kept.refl _ _) | exact Kept.weaken (l := []) (by with_reducible assumption) (by simp)); all_goals (first | (refine Or.inl ?_; simp; done) | skip)))
            (first | (go_at_call 50; with_reducible refine (CY.out _ (by first | assumption | exact (Kept.refl _ _).drew)).mono ?_; rintro e w5 ⟨rfl, K6⟩
                      have HL5 := hidOf (HL.out.new K6)
                      obtain ⟨v9, cx⟩ := ly_row HL5.out HXX.out.2
                      have cf := HL5.out.row.free X
                      have cl := HL5.out.row.lt))
          go_upto_region 14 with (fail)
          refine gen_world (fun V => Ly w V q g3 c3 c (laidV c ns k)) ?_ ?_
          · have z := HL5.out.set HXX.out.1 HXX.out.2 TT
            have e : laidV c ns k = stW c (lyMk c (k + 1) (tU ns k) LV (tT ns k)) ((k : Int) + 1) 4 TT := by
              unfold laidV; rw [← HLVE.out, HTM.out.1, HXE.out]; rfl
            rw [e]
            try rw [show IntKind.u64.wrap TT = TT by rw [IntKind.wrap_u64]; omega]
            exact z
          clear HL5 cx cf cl K6 SX CY HL HXX HXn q2 ql
          rintro V L
          have HL := hidOf L
          clear L
          have OF := hidOf (mof_yes c (some ⟨g3, 0, none⟩) (laidV c ns k) LN c3 V HR.out.r (by rw [HLN.out]; exact lnN_eq c) (by rw [HLN.out, HL.out.len]) HL.out.row.sl)
          go_wp2_with (first | ((with_reducible change wpList _ _ _ (Oper.mk _ (Op.load 23 (Operand.tmp 3)) _ _ _ _ :: _) _ _); refine wpList_load_rw 23 isT_cf rfl (.tmp 3) rfl q rfl #[.int .i64 c.t, .int .i64 c.s, .int .i64 c.c, .int .i64 c.h, .int .i64 c.k, .int .i64 c.e, .int .i64 c.l] rfl HL.out.cb ?_))
          refine OF.out.mono ?_
          rintro e w6 ⟨m, p, r, rfl, hpr, M6, K6⟩
          have HM := hidOf (And.intro M6 (And.intro hpr (And.intro (HL.out.kp.trans K6) HL.out.kp.size)))
          clear hpr M6 K6 OF HL
          go_wp2_with fail
          refine (bank_any m p r c _ _ _ w6 HM.out.1).mono ?_
          rintro e w7 ⟨rfl, rfl⟩
          go_wp2
          go_ret3
          obtain ⟨M6, hpr, K6, sz⟩ := HM.out
          exact ⟨K6, Or.inr ⟨k, rfl, HK.out, HR.out, m, p, r, rfl, by omega, M6⟩⟩
    · by_cases hlt : MM < TT
      · have hm2 : 1 ≤ MM := by omega
        go_upto_region 5 with (first | (at_builtin; refine wpList_append_run rfl (.tmp 28) (.tmp 29) 77 rfl rfl rfl hap ?_))
        refine gen_world (fun U => RW 23 U q #[.int .i64 c.t, .int .i64 c.s, .int .i64 c.c, .int .i64 c.h, .int .i64 c.k, .int .i64 c.e, .int .i64 c.l] ∧ Kept [] w U ∧ NRow U g (ns.set k { x with t := 1, m := 1 })) (KS.out _ 1 (by rw [show (if 1 < MM then (1 : Int) else MM) = 1 by split <;> omega])) ?_
        clear KS hap nf nl n2 n3 s2 s3 RW2
        rintro U ⟨UC, UK, UN⟩
        obtain ⟨r2, r3, rl⟩ := RO.out U UK
        have HU := hidOf (And.intro UC (And.intro UK UN))
        clear UC UK UN HX2
        generalize (if 1 < MM then (1 : Int) else MM) = m9
        have FIN : Hid (∀ Y : World, Kept [] U Y → RW 23 (Y.setCell ⟨g, k * 5 + 3, none⟩ (.int .i64 0)) q #[.int .i64 c.t, .int .i64 c.s, .int .i64 c.c, .int .i64 c.h, .int .i64 c.k, .int .i64 c.e, .int .i64 c.l] ∧ Kept [] w (Y.setCell ⟨g, k * 5 + 3, none⟩ (.int .i64 0)) ∧ NRow (Y.setCell ⟨g, k * 5 + 3, none⟩ (.int .i64 0)) g (lowN ns k)) := hidOf (fun Y kk => by
          obtain ⟨a1, a2, a3⟩ := HU.out
          have ks := (Kept.refl [g] Y).setCell (p := ⟨g, k * 5 + 3, none⟩) (Or.inl (by simp)) (.int .i64 0)
          have z := (a3.kept kk (by simp)).set (k := k) (by simpa using HK.out) { x with t := 1, m := 0 } 3 (.int .i64 0) (by omega) (fun j hj => by rw [getD_put _ _ _ _ _ HK.out, if_pos rfl]; rcases (by omega : j = 0 ∨ j = 1 ∨ j = 2 ∨ j = 3 ∨ j = 4) with e | e | e | e | e <;> subst e <;> rfl)
          rw [List.set_set] at z
          have e : lowN ns k = ns.set k { x with t := 1, m := 0 } := by
            unfold lowN low1
            rw [← HXE.out, if_pos (by have := HTM.out; omega)]
          rw [← e] at z
          exact ⟨(a1.kept kk (by simp)).kept ks (by simp; have := HGQ.out; omega), (a2.trans kk).then ks (fun y hy => by simp at hy; subst hy; exact Or.inr HGQ.out.2), z⟩)
        obtain ⟨A, zA, qA⟩ := HU.out.2.2
        have n3 := cell_of_blk zA (qA k (by simpa using HK.out)).2.2.2.1
        have nf := free_of_blk zA
        have nl := lt_of_blk zA
        clear zA qA
        go_region
        go_upto_region 7 with (fail)
        refine gen_world (fun V => RW 23 V q #[.int .i64 c.t, .int .i64 c.s, .int .i64 c.c, .int .i64 c.h, .int .i64 c.k, .int .i64 c.e, .int .i64 c.l] ∧ Kept [] w V ∧ NRow V g (lowN ns k)) ?_ ?_
        · first | exact FIN.out _ (Kept.refl _ _).drew | exact FIN.out _ (Kept.refl _ _)
        clear FIN n3 nf nl r2 r3 rl HU
        rintro V ⟨VC, VK, VN⟩
        have HV := hidOf (And.intro VC (And.intro VK VN))
        clear VC VK VN
        have HLW := hidOf (HR.out.low HK.out)
        go_wp2_with (first | ((with_reducible change wpList _ _ _ (Oper.mk _ (Op.load 23 (Operand.tmp 3)) _ _ _ _ :: _) _ _); refine wpList_load_rw 23 isT_cf rfl (.tmp 3) rfl q rfl #[.int .i64 c.t, .int .i64 c.s, .int .i64 c.c, .int .i64 c.h, .int .i64 c.k, .int .i64 c.e, .int .i64 c.l] rfl HV.out.1 ?_))
        refine (lay_any c (lowN ns k) (some ⟨g, 0, none⟩) n c' V HLW.out (wf_low HW.out HK.out) HV.out.2.2.sl (by rw [lowN_len]; exact HNN.out)).mono ?_
        rintro e w3 ⟨g3, c3, rfl, hg3, R3, K3⟩
        have HHN := hidOf (HN_eq RR.out)
        have HTT := hidOf (show tT ns k ≤ HN c ∧ 1 ≤ tT ns k ∧ ((tT ns k : Nat) : Int) = TT ∧ (tU ns k : Int) = TT - MM by
          have := HNB.out.2.1; have := HHN.out; have := HTM.out; have e := HXE.out; unfold tT tU; rw [← e]; omega)
        obtain ⟨LV, hLV⟩ : ∃ LV, LV = layV c (lowN ns k) := ⟨_, rfl⟩
        have LVL := hidOf (show ((LV.length : Nat) : Int) = lnV c by rw [hLV]; exact (Ld.laid HLW.out).len)
        rw [← hLV] at R3
        obtain ⟨LN, hLN⟩ : ∃ LN, LN = lnN c := ⟨_, rfl⟩
        rw [← hLN]
        have LN9 : (LN : Int) ≤ 900 := by rw [hLN]; have := lnN_le c; omega
        have HLN := hidOf hLN
        have HL0 : Hid (Ly w w3 q g3 c3 c (lyMk c (k + 1) (tU ns k) LV 1)) := hidOf (by
          have e : lyMk c (k + 1) (tU ns k) LV 1 = LV := if_neg (fun h => absurd h.1 (by decide))
          rw [e]
          exact ⟨HV.out.1.kept K3 (by simp), R3, HV.out.2.1.trans K3, Nat.le_trans HV.out.2.1.size hg3, by have := LVL.out; have z := lnN_eq c; omega⟩)
        have HLVE := hidOf hLV
        clear hg3 R3 K3 HV hLV hLN
        obtain ⟨q2, q3, ql⟩ := RO.out w3 HL0.out.kp
        go_wp2
        clear q2 q3 ql
        go_loopw [11] (fun s wr => ∃ M : Nat, 1 ≤ M ∧ M ≤ tT ns k ∧ s = .int .i64 M ∧ Ly w wr q g3 c3 c (lyMk c (k + 1) (tU ns k) LV M)) (fun s _ => tT ns k - (intOf s).toNat)
        case atStart => exact ⟨1, by omega, HTT.out.2.1, by first | rfl | go_num, HL0.out⟩
        case round =>
          clear HL0
          obtain ⟨M, hM1, hM, rfl, L⟩ := hrel
          have HL := hidOf L
          clear L
          obtain ⟨q2, q3, ql⟩ := RO.out wr HL.out.kp
          have hM6 : (M : Int) ≤ 6 := by have := HTT.out; omega
          by_cases hltM : (M : Int) < TT
          · go_wp2_with fail
            by_cases hMU : TT - MM ≤ (M : Int)
            · go_region
              go_upto_region 12 with (fail)
              refine gen_world (fun V => Ly w V q g3 c3 c (lyMk c (k + 1) (tU ns k) LV M)) (by first | exact HL.out.new (Kept.refl _ _).drew | exact HL.out) ?_
              clear q2 q3 ql HL
              rintro V L
              have HL := hidOf L
              clear L
              obtain ⟨X, hX, hXl⟩ := cell_at (c := c) (i := ((k : Nat) : Int) + 1) (f := 6 + (M : Int)) ⟨HR.out.r, by omega, by have := HR.out.n; have := HNN.out; omega, by omega, by have := HHN.out; have := HTT.out; omega⟩
              have CX := hidOf (fun W' => rcell_is hX W')
              have HXX := hidOf (And.intro hX hXl)
              have HXn : (X : Int) < LN := by have := HLN.out; omega
              have MK := hidOf (fun (W' : World) => rmark_any 0 W' (by omega) (by omega))
              rw [show markV 0 = 4611686018427387904 by decide] at MK
              clear hX hXl
              go_wp2_with (first | ((with_reducible change wpList _ _ _ (Oper.mk _ (Op.load 23 (Operand.tmp 3)) _ _ _ _ :: _) _ _); refine wpList_load_rw 23 isT_cf rfl (.tmp 3) rfl q rfl #[.int .i64 c.t, .int .i64 c.s, .int .i64 c.c, .int .i64 c.h, .int .i64 c.k, .int .i64 c.e, .int .i64 c.l] rfl HL.out.cb ?_))
              refine (CX.out _).mono ?_
              rintro e w4 ⟨rfl, K4⟩
              have HL4 := hidOf (HL.out.new K4)
              clear K4 CX HL
              go_wp2_with fail
              refine (MK.out _).mono ?_
              rintro e w5 ⟨rfl, K5⟩
              have HL5 := hidOf (HL4.out.new K5)
              clear K5 MK HL4
              obtain ⟨v9, cx⟩ := ly_row HL5.out HXX.out.2
              have cf := HL5.out.row.free X
              have cl := HL5.out.row.lt
              go_wp2
              go_roundw
              case rel =>
                have z := HL5.out.set HXX.out.1 HXX.out.2 4611686018427387904
                refine ⟨M + 1, by omega, by have := HTT.out; omega, by go_num, ?_⟩
                have e : lyMk c (k + 1) (tU ns k) LV (M + 1) = stW c (lyMk c (k + 1) (tU ns k) LV M) (((k + 1 : Nat)) : Int) ((6 + M : Nat) : Int) 4611686018427387904 := if_pos ⟨hM1, by have := HTT.out; omega⟩
                rw [e, show (((k + 1 : Nat)) : Int) = (k : Int) + 1 by omega, show ((6 + M : Nat) : Int) = 6 + (M : Int) by omega]
                exact z
              case measure => have := HTT.out; simp [intOf]; omega
            · go_region
              go_wp2
              go_roundw
              case rel =>
                refine ⟨M + 1, by omega, by have := HTT.out; omega, by go_num, ?_⟩
                have e : lyMk c (k + 1) (tU ns k) LV (M + 1) = lyMk c (k + 1) (tU ns k) LV M := if_neg (by have := HTT.out; omega)
                rw [e]
                first | exact HL.out.new (Kept.refl _ _).drew | exact HL.out
              case measure => have := HTT.out; simp [intOf]; omega
          · have hMT : M = tT ns k := by have := HTT.out; omega
            subst hMT
            clear q2 q3 ql hltM hM6 hM1 hM
            obtain ⟨X, hX, hXl⟩ := cell_at (c := c) (i := ((k : Nat) : Int) + 1) (f := 4) ⟨HR.out.r, by omega, by have := HR.out.n; have := HNN.out; omega, by omega, by have := RR.out.h0; omega⟩
            have HXX := hidOf (And.intro hX hXl)
            have HXn : (X : Int) < LN := by have := HLN.out; omega
            have hltF : ¬ ((tT ns k : Nat) : Int) < TT := by have := HTT.out; omega
            have CY : Hid (∀ W' : World, Kept [] wr W' → Calls Tryz.prog 50 #[.agg #[.int .i64 c.t, .int .i64 c.s, .int .i64 c.c, .int .i64 c.h, .int .i64 c.k, .int .i64 c.e, .int .i64 c.l], .int .i64 (IntKind.i64.wrap ((k : Int) + 1)), .int .i64 4] W' fun e w' => e = .returned (.int .i64 X) ∧ Kept [] wr w') := hidOf (fun W' kk => by
              rw [show IntKind.i64.wrap ((k : Int) + 1) = (k : Int) + 1 by rw [IntKind.wrap_i64]; omega]
              exact (rcell_is hX W').mono fun _ _ z => And.intro z.1 (kk.trans z.2))
            have SX : Hid (∀ W' : World, Kept [g3] wr W' → W'.cell? ⟨q, 0, none⟩ = some (.int .i64 c.t) ∧ W'.cell? ⟨q, 1, none⟩ = some (.int .i64 c.s) ∧ W'.cell? ⟨q, 2, none⟩ = some (.int .i64 c.c) ∧ W'.cell? ⟨q, 3, none⟩ = some (.int .i64 c.h) ∧ W'.cell? ⟨q, 4, none⟩ = some (.int .i64 c.k) ∧ W'.cell? ⟨q, 5, none⟩ = some (.int .i64 c.e) ∧ W'.cell? ⟨q, 6, none⟩ = some (.int .i64 c.l) ∧ W'.cell? ⟨b1, o1 + k * 5 + 2, none⟩ = some (.int .i64 TT)) := hidOf (by
              intro W' kk
              have y := HL.out.cb.kept kk (by
                have z := HL.out.cb
                obtain ⟨rest, z2, _⟩ := HL.out.row
                intro e; simp at e; unfold RW at z; rw [e, z2] at z; simp at z)
              have z := (RO.out W' (HL.out.kp.then kk (fun y hy => by simp at hy; subst hy; exact Or.inr HL.out.g0))).1
              exact ⟨cell_of_blk y (i := 0) rfl, cell_of_blk y (i := 1) rfl, cell_of_blk y (i := 2) rfl, cell_of_blk y (i := 3) rfl, cell_of_blk y (i := 4) rfl, cell_of_blk y (i := 5) rfl, cell_of_blk y (i := 6) rfl, z⟩)
            obtain ⟨q2, -, ql⟩ := RO.out wr HL.out.kp
            clear hX hXl
            go_wp2_with fail
            go_region_held3 (fun W' => W'.cell? ⟨q, 0, none⟩ = some (.int .i64 c.t) ∧ W'.cell? ⟨q, 1, none⟩ = some (.int .i64 c.s) ∧ W'.cell? ⟨q, 2, none⟩ = some (.int .i64 c.c) ∧ W'.cell? ⟨q, 3, none⟩ = some (.int .i64 c.h) ∧ W'.cell? ⟨q, 4, none⟩ = some (.int .i64 c.k) ∧ W'.cell? ⟨q, 5, none⟩ = some (.int .i64 c.e) ∧ W'.cell? ⟨q, 6, none⟩ = some (.int .i64 c.l) ∧ W'.cell? ⟨b1, o1 + k * 5 + 2, none⟩ = some (.int .i64 TT))
              (exact SX.out _ (by (repeat (first | (with_reducible refine Kept.setCell ?_ ?_ _) | (with_reducible refine Kept.alloc ?_ _) | (with_reducible refine Kept.drew ?_))); (first | (with_reducible assumption) | (with_reducible exact Kept.refl _ _) | exact Kept.weaken (l := []) (by with_reducible assumption) (by simp)); all_goals (first | (refine Or.inl ?_; simp; done) | skip)))
              (first | (go_at_call 50; with_reducible refine (CY.out _ (by first | assumption | exact (Kept.refl _ _).drew)).mono ?_; rintro e w5 ⟨rfl, K6⟩
                        have HL5 := hidOf (HL.out.new K6)
                        obtain ⟨v9, cx⟩ := ly_row HL5.out HXX.out.2
                        have cf := HL5.out.row.free X
                        have cl := HL5.out.row.lt))
            go_upto_region 14 with (fail)
            refine gen_world (fun V => Ly w V q g3 c3 c (laidV c ns k)) ?_ ?_
            · have z := HL5.out.set HXX.out.1 HXX.out.2 TT
              have e : laidV c ns k = stW c (lyMk c (k + 1) (tU ns k) LV (tT ns k)) ((k : Int) + 1) 4 TT := by
                unfold laidV; rw [← HLVE.out, HTM.out.1, HXE.out]; rfl
              rw [e]
              try rw [show IntKind.u64.wrap TT = TT by rw [IntKind.wrap_u64]; omega]
              exact z
            clear HL5 cx cf cl K6 SX CY HL HXX HXn q2 ql
            rintro V L
            have HL := hidOf L
            clear L
            have OF := hidOf (mof_yes c (some ⟨g3, 0, none⟩) (laidV c ns k) LN c3 V HR.out.r (by rw [HLN.out]; exact lnN_eq c) (by rw [HLN.out, HL.out.len]) HL.out.row.sl)
            go_wp2_with (first | ((with_reducible change wpList _ _ _ (Oper.mk _ (Op.load 23 (Operand.tmp 3)) _ _ _ _ :: _) _ _); refine wpList_load_rw 23 isT_cf rfl (.tmp 3) rfl q rfl #[.int .i64 c.t, .int .i64 c.s, .int .i64 c.c, .int .i64 c.h, .int .i64 c.k, .int .i64 c.e, .int .i64 c.l] rfl HL.out.cb ?_))
            refine OF.out.mono ?_
            rintro e w6 ⟨m, p, r, rfl, hpr, M6, K6⟩
            have HM := hidOf (And.intro M6 (And.intro hpr (And.intro (HL.out.kp.trans K6) HL.out.kp.size)))
            clear hpr M6 K6 OF HL
            go_wp2_with fail
            refine (bank_any m p r c _ _ _ w6 HM.out.1).mono ?_
            rintro e w7 ⟨rfl, rfl⟩
            go_wp2
            go_ret3
            obtain ⟨M6, hpr, K6, sz⟩ := HM.out
            exact ⟨K6, Or.inr ⟨k, rfl, HK.out, HR.out, m, p, r, rfl, by omega, M6⟩⟩
      · have hm2 : 1 ≤ MM := by omega
        go_upto_region 5 with (first | (at_builtin; refine wpList_append_run rfl (.tmp 28) (.tmp 29) 77 rfl rfl rfl hap ?_))
        refine gen_world (fun U => RW 23 U q #[.int .i64 c.t, .int .i64 c.s, .int .i64 c.c, .int .i64 c.h, .int .i64 c.k, .int .i64 c.e, .int .i64 c.l] ∧ Kept [] w U ∧ NRow U g (ns.set k { x with t := 1, m := 1 })) (KS.out _ 1 (by rw [show (if 1 < MM then (1 : Int) else MM) = 1 by split <;> omega])) ?_
        clear KS hap nf nl n2 n3 s2 s3 RW2
        rintro U ⟨UC, UK, UN⟩
        obtain ⟨r2, r3, rl⟩ := RO.out U UK
        have HU := hidOf (And.intro UC (And.intro UK UN))
        clear UC UK UN HX2
        generalize (if 1 < MM then (1 : Int) else MM) = m9
        have FIN : Hid (∀ Y : World, Kept [] U Y → RW 23 Y q #[.int .i64 c.t, .int .i64 c.s, .int .i64 c.c, .int .i64 c.h, .int .i64 c.k, .int .i64 c.e, .int .i64 c.l] ∧ Kept [] w Y ∧ NRow Y g (lowN ns k)) := hidOf (fun Y kk => by
          obtain ⟨a1, a2, a3⟩ := HU.out
          have z := a3.kept kk (by simp)
          have e : lowN ns k = ns.set k { x with t := 1, m := 1 } := by
            unfold lowN low1
            rw [← HXE.out, if_neg (by have := HTM.out; omega), show min x.m 1 = 1 by have := HTM.out; omega]
          rw [← e] at z
          exact ⟨a1.kept kk (by simp), a2.trans kk, z⟩)
        go_region
        go_upto_region 7 with (fail)
        refine gen_world (fun V => RW 23 V q #[.int .i64 c.t, .int .i64 c.s, .int .i64 c.c, .int .i64 c.h, .int .i64 c.k, .int .i64 c.e, .int .i64 c.l] ∧ Kept [] w V ∧ NRow V g (lowN ns k)) ?_ ?_
        · first | exact FIN.out _ (Kept.refl _ _).drew | exact FIN.out _ (Kept.refl _ _)
        clear FIN r2 r3 rl HU
        rintro V ⟨VC, VK, VN⟩
        have HV := hidOf (And.intro VC (And.intro VK VN))
        clear VC VK VN
        have HLW := hidOf (HR.out.low HK.out)
        go_wp2_with (first | ((with_reducible change wpList _ _ _ (Oper.mk _ (Op.load 23 (Operand.tmp 3)) _ _ _ _ :: _) _ _); refine wpList_load_rw 23 isT_cf rfl (.tmp 3) rfl q rfl #[.int .i64 c.t, .int .i64 c.s, .int .i64 c.c, .int .i64 c.h, .int .i64 c.k, .int .i64 c.e, .int .i64 c.l] rfl HV.out.1 ?_))
        refine (lay_any c (lowN ns k) (some ⟨g, 0, none⟩) n c' V HLW.out (wf_low HW.out HK.out) HV.out.2.2.sl (by rw [lowN_len]; exact HNN.out)).mono ?_
        rintro e w3 ⟨g3, c3, rfl, hg3, R3, K3⟩
        have HHN := hidOf (HN_eq RR.out)
        have HTT := hidOf (show tT ns k ≤ HN c ∧ 1 ≤ tT ns k ∧ ((tT ns k : Nat) : Int) = TT ∧ (tU ns k : Int) = TT - MM by
          have := HNB.out.2.1; have := HHN.out; have := HTM.out; have e := HXE.out; unfold tT tU; rw [← e]; omega)
        obtain ⟨LV, hLV⟩ : ∃ LV, LV = layV c (lowN ns k) := ⟨_, rfl⟩
        have LVL := hidOf (show ((LV.length : Nat) : Int) = lnV c by rw [hLV]; exact (Ld.laid HLW.out).len)
        rw [← hLV] at R3
        obtain ⟨LN, hLN⟩ : ∃ LN, LN = lnN c := ⟨_, rfl⟩
        rw [← hLN]
        have LN9 : (LN : Int) ≤ 900 := by rw [hLN]; have := lnN_le c; omega
        have HLN := hidOf hLN
        have HL0 : Hid (Ly w w3 q g3 c3 c (lyMk c (k + 1) (tU ns k) LV 1)) := hidOf (by
          have e : lyMk c (k + 1) (tU ns k) LV 1 = LV := if_neg (fun h => absurd h.1 (by decide))
          rw [e]
          exact ⟨HV.out.1.kept K3 (by simp), R3, HV.out.2.1.trans K3, Nat.le_trans HV.out.2.1.size hg3, by have := LVL.out; have z := lnN_eq c; omega⟩)
        have HLVE := hidOf hLV
        clear hg3 R3 K3 HV hLV hLN
        obtain ⟨q2, q3, ql⟩ := RO.out w3 HL0.out.kp
        go_wp2
        clear q2 q3 ql
        go_loopw [11] (fun s wr => ∃ M : Nat, 1 ≤ M ∧ M ≤ tT ns k ∧ s = .int .i64 M ∧ Ly w wr q g3 c3 c (lyMk c (k + 1) (tU ns k) LV M)) (fun s _ => tT ns k - (intOf s).toNat)
        case atStart => exact ⟨1, by omega, HTT.out.2.1, by first | rfl | go_num, HL0.out⟩
        case round =>
          clear HL0
          obtain ⟨M, hM1, hM, rfl, L⟩ := hrel
          have HL := hidOf L
          clear L
          obtain ⟨q2, q3, ql⟩ := RO.out wr HL.out.kp
          have hM6 : (M : Int) ≤ 6 := by have := HTT.out; omega
          by_cases hltM : (M : Int) < TT
          · go_wp2_with fail
            by_cases hMU : TT - MM ≤ (M : Int)
            · go_region
              go_upto_region 12 with (fail)
              refine gen_world (fun V => Ly w V q g3 c3 c (lyMk c (k + 1) (tU ns k) LV M)) (by first | exact HL.out.new (Kept.refl _ _).drew | exact HL.out) ?_
              clear q2 q3 ql HL
              rintro V L
              have HL := hidOf L
              clear L
              obtain ⟨X, hX, hXl⟩ := cell_at (c := c) (i := ((k : Nat) : Int) + 1) (f := 6 + (M : Int)) ⟨HR.out.r, by omega, by have := HR.out.n; have := HNN.out; omega, by omega, by have := HHN.out; have := HTT.out; omega⟩
              have CX := hidOf (fun W' => rcell_is hX W')
              have HXX := hidOf (And.intro hX hXl)
              have HXn : (X : Int) < LN := by have := HLN.out; omega
              have MK := hidOf (fun (W' : World) => rmark_any 0 W' (by omega) (by omega))
              rw [show markV 0 = 4611686018427387904 by decide] at MK
              clear hX hXl
              go_wp2_with (first | ((with_reducible change wpList _ _ _ (Oper.mk _ (Op.load 23 (Operand.tmp 3)) _ _ _ _ :: _) _ _); refine wpList_load_rw 23 isT_cf rfl (.tmp 3) rfl q rfl #[.int .i64 c.t, .int .i64 c.s, .int .i64 c.c, .int .i64 c.h, .int .i64 c.k, .int .i64 c.e, .int .i64 c.l] rfl HL.out.cb ?_))
              refine (CX.out _).mono ?_
              rintro e w4 ⟨rfl, K4⟩
              have HL4 := hidOf (HL.out.new K4)
              clear K4 CX HL
              go_wp2_with fail
              refine (MK.out _).mono ?_
              rintro e w5 ⟨rfl, K5⟩
              have HL5 := hidOf (HL4.out.new K5)
              clear K5 MK HL4
              obtain ⟨v9, cx⟩ := ly_row HL5.out HXX.out.2
              have cf := HL5.out.row.free X
              have cl := HL5.out.row.lt
              go_wp2
              go_roundw
              case rel =>
                have z := HL5.out.set HXX.out.1 HXX.out.2 4611686018427387904
                refine ⟨M + 1, by omega, by have := HTT.out; omega, by go_num, ?_⟩
                have e : lyMk c (k + 1) (tU ns k) LV (M + 1) = stW c (lyMk c (k + 1) (tU ns k) LV M) (((k + 1 : Nat)) : Int) ((6 + M : Nat) : Int) 4611686018427387904 := if_pos ⟨hM1, by have := HTT.out; omega⟩
                rw [e, show (((k + 1 : Nat)) : Int) = (k : Int) + 1 by omega, show ((6 + M : Nat) : Int) = 6 + (M : Int) by omega]
                exact z
              case measure => have := HTT.out; simp [intOf]; omega
            · exfalso; omega
          · have hMT : M = tT ns k := by have := HTT.out; omega
            subst hMT
            clear q2 q3 ql hltM hM6 hM1 hM
            obtain ⟨X, hX, hXl⟩ := cell_at (c := c) (i := ((k : Nat) : Int) + 1) (f := 4) ⟨HR.out.r, by omega, by have := HR.out.n; have := HNN.out; omega, by omega, by have := RR.out.h0; omega⟩
            have HXX := hidOf (And.intro hX hXl)
            have HXn : (X : Int) < LN := by have := HLN.out; omega
            have hltF : ¬ ((tT ns k : Nat) : Int) < TT := by have := HTT.out; omega
            have CY : Hid (∀ W' : World, Kept [] wr W' → Calls Tryz.prog 50 #[.agg #[.int .i64 c.t, .int .i64 c.s, .int .i64 c.c, .int .i64 c.h, .int .i64 c.k, .int .i64 c.e, .int .i64 c.l], .int .i64 (IntKind.i64.wrap ((k : Int) + 1)), .int .i64 4] W' fun e w' => e = .returned (.int .i64 X) ∧ Kept [] wr w') := hidOf (fun W' kk => by
              rw [show IntKind.i64.wrap ((k : Int) + 1) = (k : Int) + 1 by rw [IntKind.wrap_i64]; omega]
              exact (rcell_is hX W').mono fun _ _ z => And.intro z.1 (kk.trans z.2))
            have SX : Hid (∀ W' : World, Kept [g3] wr W' → W'.cell? ⟨q, 0, none⟩ = some (.int .i64 c.t) ∧ W'.cell? ⟨q, 1, none⟩ = some (.int .i64 c.s) ∧ W'.cell? ⟨q, 2, none⟩ = some (.int .i64 c.c) ∧ W'.cell? ⟨q, 3, none⟩ = some (.int .i64 c.h) ∧ W'.cell? ⟨q, 4, none⟩ = some (.int .i64 c.k) ∧ W'.cell? ⟨q, 5, none⟩ = some (.int .i64 c.e) ∧ W'.cell? ⟨q, 6, none⟩ = some (.int .i64 c.l) ∧ W'.cell? ⟨b1, o1 + k * 5 + 2, none⟩ = some (.int .i64 TT)) := hidOf (by
              intro W' kk
              have y := HL.out.cb.kept kk (by
                have z := HL.out.cb
                obtain ⟨rest, z2, _⟩ := HL.out.row
                intro e; simp at e; unfold RW at z; rw [e, z2] at z; simp at z)
              have z := (RO.out W' (HL.out.kp.then kk (fun y hy => by simp at hy; subst hy; exact Or.inr HL.out.g0))).1
              exact ⟨cell_of_blk y (i := 0) rfl, cell_of_blk y (i := 1) rfl, cell_of_blk y (i := 2) rfl, cell_of_blk y (i := 3) rfl, cell_of_blk y (i := 4) rfl, cell_of_blk y (i := 5) rfl, cell_of_blk y (i := 6) rfl, z⟩)
            obtain ⟨q2, -, ql⟩ := RO.out wr HL.out.kp
            clear hX hXl
            go_wp2_with fail
            go_region_held3 (fun W' => W'.cell? ⟨q, 0, none⟩ = some (.int .i64 c.t) ∧ W'.cell? ⟨q, 1, none⟩ = some (.int .i64 c.s) ∧ W'.cell? ⟨q, 2, none⟩ = some (.int .i64 c.c) ∧ W'.cell? ⟨q, 3, none⟩ = some (.int .i64 c.h) ∧ W'.cell? ⟨q, 4, none⟩ = some (.int .i64 c.k) ∧ W'.cell? ⟨q, 5, none⟩ = some (.int .i64 c.e) ∧ W'.cell? ⟨q, 6, none⟩ = some (.int .i64 c.l) ∧ W'.cell? ⟨b1, o1 + k * 5 + 2, none⟩ = some (.int .i64 TT))
              (exact SX.out _ (by (repeat (first | (with_reducible refine Kept.setCell ?_ ?_ _) | (with_reducible refine Kept.alloc ?_ _) | (with_reducible refine Kept.drew ?_))); (first | (with_reducible assumption) | (with_reducible exact Kept.refl _ _) | exact Kept.weaken (l := []) (by with_reducible assumption) (by simp)); all_goals (first | (refine Or.inl ?_; simp; done) | skip)))
              (first | (go_at_call 50; with_reducible refine (CY.out _ (by first | assumption | exact (Kept.refl _ _).drew)).mono ?_; rintro e w5 ⟨rfl, K6⟩
                        have HL5 := hidOf (HL.out.new K6)
                        obtain ⟨v9, cx⟩ := ly_row HL5.out HXX.out.2
                        have cf := HL5.out.row.free X
                        have cl := HL5.out.row.lt))
            go_upto_region 14 with (fail)
            refine gen_world (fun V => Ly w V q g3 c3 c (laidV c ns k)) ?_ ?_
            · have z := HL5.out.set HXX.out.1 HXX.out.2 TT
              have e : laidV c ns k = stW c (lyMk c (k + 1) (tU ns k) LV (tT ns k)) ((k : Int) + 1) 4 TT := by
                unfold laidV; rw [← HLVE.out, HTM.out.1, HXE.out]; rfl
              rw [e]
              try rw [show IntKind.u64.wrap TT = TT by rw [IntKind.wrap_u64]; omega]
              exact z
            clear HL5 cx cf cl K6 SX CY HL HXX HXn q2 ql
            rintro V L
            have HL := hidOf L
            clear L
            have OF := hidOf (mof_yes c (some ⟨g3, 0, none⟩) (laidV c ns k) LN c3 V HR.out.r (by rw [HLN.out]; exact lnN_eq c) (by rw [HLN.out, HL.out.len]) HL.out.row.sl)
            go_wp2_with (first | ((with_reducible change wpList _ _ _ (Oper.mk _ (Op.load 23 (Operand.tmp 3)) _ _ _ _ :: _) _ _); refine wpList_load_rw 23 isT_cf rfl (.tmp 3) rfl q rfl #[.int .i64 c.t, .int .i64 c.s, .int .i64 c.c, .int .i64 c.h, .int .i64 c.k, .int .i64 c.e, .int .i64 c.l] rfl HL.out.cb ?_))
            refine OF.out.mono ?_
            rintro e w6 ⟨m, p, r, rfl, hpr, M6, K6⟩
            have HM := hidOf (And.intro M6 (And.intro hpr (And.intro (HL.out.kp.trans K6) HL.out.kp.size)))
            clear hpr M6 K6 OF HL
            go_wp2_with fail
            refine (bank_any m p r c _ _ _ w6 HM.out.1).mono ?_
            rintro e w7 ⟨rfl, rfl⟩
            go_wp2
            go_ret3
            obtain ⟨M6, hpr, K6, sz⟩ := HM.out
            exact ⟨K6, Or.inr ⟨k, rfl, HK.out, HR.out, m, p, r, rfl, by omega, M6⟩⟩
end K
end Go.Proofs.YtkjjieklccbmoaaGreatDoor
namespace Go.Proofs.YtkjjieklccbmoaaGreatDoor
open Go.RowKit (Grown Hid Below intOf)
open Go.Deep
namespace K
set_option maxRecDepth 100000
def c13 : Cfg := ⟨1, 1, 1, 3, 1, 1, 9⟩
def n13 : List Nn := [⟨7, 0, 3, 0, false⟩]
def l13 : Nd := ndOf c13 (lowN n13 0)
theorem right13 : RightN c13 n13 := by
  refine ⟨by decide +kernel, by decide, fun i hi => ?_, fun i hi => ?_⟩
  · have hi' : i < 1 := hi
    rcases (by omega : i = 0) with e; subst e; exact ⟨by decide, by decide, by decide, by decide, by decide, by decide⟩
  · have hi' : i + 1 < 1 := hi
    omega
theorem wf13 : ∀ x ∈ n13, x.wf := by
  intro x hx
  simp [n13] at hx
  subst hx; exact ⟨by decide, by decide⟩
theorem laid13 : LdP c13 n13 0 (laidV c13 n13 0) := laid_is right13 wf13 (by decide)
def I13 (cs : List Int) (g : Gs) (s : Bm) (lf : Int) : Prop := Ba c13 l13 1 3 3 7 cs g s lf
theorem start13 : I13 (laidV c13 n13 0) ⟨0, 0, 0⟩ (bmS 9223372036854775809 7 3) 27 := by
  have z := laid13
  have y := Ba.start (t := 0) right13.r z.lo z.kz z.ln z.rep z.sk z.up
  exact y
theorem ends13 {cs : List Int} {g : Gs} {s : Bm} (h : ∃ lf, I13 cs g s lf) (hd : s.d = true) : s.lv = 3 ∧ fd c13 cs 0 7 = 9223372036854775809 ∧ fd c13 cs 0 8 = 9223372036854775809 := by
  obtain ⟨lf, h⟩ := h
  have e := Ba.fin h hd
  have key : ∀ L, 1 ≤ L → L < 3 → fd c13 cs ((0 : Nat) : Int) (6 + L : Nat) = 9223372036854775809 := fun L a b => by
    obtain ⟨C, c0, hC⟩ := e.ch L (by have : HN c13 = 3 := by decide
                                     omega)
    obtain ⟨_, _, j, bb, e1, e2, lt, _, _, no⟩ := hC 0 c0
    have hj : j = 1 := by
      by_cases h1 : 1 < j
      · exact absurd (Or.inr ⟨rfl, b⟩) (no 1 (by omega) h1)
      · omega
    rw [e1, e2 rfl, hj]
    show nw 1 1 false = _
    decide
  exact ⟨e.lv, key 1 (by omega) (by omega), key 2 (by omega) (by omega)⟩
theorem slOf13 {w : World} {b : Nat} (h : w.heap[b]? = some (.cells #[.int .u64 7, .int .u64 0, .int .i64 3, .int .i64 0, .bool false] 76 (0, 0))) : SlOf 5 nnL w (some ⟨b, 0, none⟩) n13 := by
  intro _
  refine ⟨b, 0, rfl, lt_of_blk h, fun k hk j v hv => ?_⟩
  have hk' : k < 1 := hk
  rcases (by omega : k = 0) with e; subst e
  rcases j with _ | _ | _ | _ | _ | j
  all_goals first | (refine cell_of_blk h ?_; exact hv) | simp [n13, nnL] at hv
set_option maxHeartbeats 4000000 in
theorem alive_any (w : World) (hT : Tab w) : Calls Tryz.prog 7 #[] w fun e w' => e = .returned (.bool true) ∧ Kept [] w w' := by
  have HT := hidOf hT
  clear hT
  obtain ⟨q, hq⟩ : ∃ q, q = w.heap.size := ⟨_, rfl⟩
  have BX : Hid (RW 23 (w.alloc (.cells #[.int .i64 1, .int .i64 1, .int .i64 1, .int .i64 3, .int .i64 1, .int .i64 1, .int .i64 9] 23)) q #[.int .i64 1, .int .i64 1, .int .i64 1, .int .i64 3, .int .i64 1, .int .i64 1, .int .i64 9] ∧ Kept [] w (w.alloc (.cells #[.int .i64 1, .int .i64 1, .int .i64 1, .int .i64 3, .int .i64 1, .int .i64 1, .int .i64 9] 23))) := by rw [hq]; exact ⟨RW.new _ _ _, (Kept.refl [] w).alloc _⟩
  go_enter Tryz.func7, Tryz.ntmps7
  go_upto_region 2 with (fail)
  rw [← hq]
  refine gen_world (fun W => RW 23 W q #[.int .i64 1, .int .i64 1, .int .i64 1, .int .i64 3, .int .i64 1, .int .i64 1, .int .i64 9] ∧ Kept [] w W) BX.out ?_
  clear BX hq
  rintro W ⟨CB0, K0⟩
  have HX := hidOf (And.intro CB0 K0)
  clear CB0 K0
  obtain ⟨nb, hnb⟩ : ∃ nb, nb = W.heap.size := ⟨_, rfl⟩
  have LD : Hid (∀ Y : World, Y = W.alloc (.cells #[.int .u64 7, .int .u64 0, .int .i64 3, .int .i64 0, .bool false] 76) → Calls Tryz.prog 22 #[.agg #[.int .i64 1, .int .i64 1, .int .i64 1, .int .i64 3, .int .i64 1, .int .i64 1, .int .i64 9], .slice (some ⟨nb, 0, none⟩) 1 1, .int .i64 0] Y fun e w' => LdR c13 n13 0 e Y w') := hidOf (fun Y e => by
    subst e
    exact laid_any c13 n13 (some ⟨nb, 0, none⟩) 1 1 0 _ wf13 (slOf13 (by rw [hnb]; exact blk_alloc_new W _)) rfl (fun z => by cases z))
  have KW := hidOf (show Kept [] w (W.alloc (.cells #[.int .u64 7, .int .u64 0, .int .i64 3, .int .i64 0, .bool false] 76)) from HX.out.2.trans ((Kept.refl [] W).alloc _))
  go_wp2_with (first | ((with_reducible change wpList _ _ _ (Oper.mk _ (Op.load 23 (Operand.tmp 1)) _ _ _ _ :: _) _ _); refine wpList_load_rw 23 isT_cf rfl (.tmp 1) rfl q rfl #[.int .i64 1, .int .i64 1, .int .i64 1, .int .i64 3, .int .i64 1, .int .i64 1, .int .i64 9] rfl HX.out.1 ?_))
  rw [← hnb]
  refine (LD.out _ rfl).mono ?_
  rintro e w1 ⟨K1, ⟨-, no⟩ | ⟨k, hk, -, -, m, p, r, rfl, hpr, M⟩⟩
  · exact absurd ⟨right13, by decide, by decide⟩ no
  obtain rfl : k = 0 := by omega
  have HM := hidOf (And.intro M (And.intro (KW.out.trans K1) (show w.heap.size ≤ m ∧ w.heap.size ≤ p ∧ w.heap.size ≤ r by have := KW.out.size; omega)))
  have LP := laid13
  have HLP := hidOf (And.intro LP.wd start13)
  obtain ⟨LV, hLV⟩ : ∃ LV, LV = laidV c13 n13 0 := ⟨_, rfl⟩
  rw [← hLV] at HM HLP
  clear K1 hpr M KW LD hnb hk HX LP hLV
  have OF1 := hidOf (fun (Y : World) => rof1_any 1 0 Y (by omega) (by omega))
  rw [show packV 1 0 false = 9223372036854775809 by decide] at OF1
  go_wp2_with fail
  refine (OF1.out _).mono ?_
  rintro e w2 ⟨rfl, K2⟩
  have HM2 := hidOf (And.intro (HM.out.1.new K2) (And.intro (HM.out.2.1.trans K2) HM.out.2.2))
  clear K2 OF1 HM
  go_wp2_with fail
  refine (bnew_any _ _ _ _).mono ?_
  rintro e w3 ⟨b, fb, rfl, hb, hfb, B3, F3, K3⟩
  have P3 : Bp w w3 b fb m p r c13 9223372036854775809 7 3 LV 0 Acc.zero := ⟨B3, F3, HM2.out.1.new K3, HM2.out.2.1.trans K3, HT.out, by have := HM2.out.2.1.size; omega, by have := HM2.out.2.1.size; omega, HM2.out.2.2.2.1, HM2.out.2.2.2.2, right13.r, HLP.out.1, Int.le_refl _, by unfold isW; omega, by unfold isW; omega⟩
  have HP3 := hidOf P3
  clear hb hfb B3 F3 K3 P3 HM2
  go_wp2_with fail
  refine (bnew_any _ _ _ _).mono ?_
  rintro e w4 ⟨b2, fb2, rfl, hb2, -, B4, -, K4⟩
  have HP4 := hidOf (HP3.out.new K4)
  have HB2 := hidOf B4
  clear hb2 B4 K4 HP3
  have B1 := hidOf (show BB w4 b fb (bmS 9223372036854775809 7 3).h (bmS 9223372036854775809 7 3).k (bmS 9223372036854775809 7 3).tl (phB (bmS 9223372036854775809 7 3) b) (bmS 9223372036854775809 7 3).lv (bmS 9223372036854775809 7 3).w from HP4.out.bb)
  have B2 := hidOf (show BB w4 b2 fb2 (bmS 9223372036854775809 7 1).h (bmS 9223372036854775809 7 1).k (bmS 9223372036854775809 7 1).tl (phB (bmS 9223372036854775809 7 1) b2) (bmS 9223372036854775809 7 1).lv (bmS 9223372036854775809 7 1).w from HB2.out)
  have D1 := hidOf (bdone_any b fb (bmS 9223372036854775809 7 3) w4 B1.out)
  rw [show (bmS 9223372036854775809 7 3).d = false by decide] at D1
  have D2 := hidOf (bdone_any b2 fb2 (bmS 9223372036854775809 7 1) w4 B2.out)
  rw [show (bmS 9223372036854775809 7 1).d = true by decide] at D2
  have L1 := hidOf (blevel_any b fb _ _ _ _ _ _ w4 B1.out)
  rw [show (bmS 9223372036854775809 7 3).lv = 1 by decide] at L1
  clear B1 B2 HB2
  go_wp2_with fail
  refine D1.out.mono ?_
  rintro e w5 ⟨rfl, rfl⟩
  go_wp2_with fail
  refine D2.out.mono ?_
  rintro e w6 ⟨rfl, rfl⟩
  go_wp2_with fail
  refine L1.out.mono ?_
  rintro e w7 ⟨rfl, rfl⟩
  have EA := hidOf (ends_any I13 w _ b fb m p r c13 9223372036854775809 7 3 LV 0 Acc.zero 200 27 HP4.out (by omega) (by omega) (by omega) HLP.out.2 (fun cs g s lf cnt' h hd => Ba.step right13.r h cnt' hd) (fun cs g s lf h hl => (Ba.done h hl).d))
  clear D1 D2 L1 HP4 HLP
  go_wp2_with fail
  refine EA.out.mono ?_
  rintro e w8 ⟨n, rfl, hn, gb, fb3, g, s, cs, cnt, a, BW, II, hd, z1, z2⟩
  obtain ⟨e1, e2, e3⟩ := ends13 II hd
  have HBW := hidOf (And.intro BW (And.intro (show 0 ≤ cnt ∧ cnt ≤ 27 by omega) (And.intro e2 e3)))
  have DN := hidOf (bdone_any b fb3 s _ BW.bb)
  rw [hd] at DN
  have LN := hidOf (blevel_any b fb3 _ _ _ _ _ _ _ BW.bb)
  rw [e1] at LN
  have hn2 : (n : Int) < 200 := hn
  have hdn : decide ((n : Int) < 200) = true := by simpa using hn
  clear EA BW II hd z1 z2 e1 e2 e3 hn
  go_wp2_with fail
  refine DN.out.mono ?_
  rintro e w9 ⟨rfl, rfl⟩
  clear DN
  go_wp2_with fail
  refine LN.out.mono ?_
  rintro e w10 ⟨rfl, rfl⟩
  clear LN
  go_wp2_with fail
  refine (head_any _ HBW.out.1.fw.st.tb).mono ?_
  rintro e w11 ⟨rfl, K11⟩
  have F1 := HBW.out.1.fw.new K11
  have HF1 := hidOf F1
  have LD1 := hidOf (F1.load 9223372036854775808 7 (by unfold isW; omega) (by have := HBW.out.2.1; omega))
  rw [show ixV 9223372036854775808 = 0 by decide, HBW.out.2.2.1] at LD1
  clear K11 F1
  go_wp2_with fail
  refine LD1.out.mono ?_
  rintro e w12 ⟨a1, rfl, F2, -⟩
  have HF2 := hidOf F2
  clear F2 LD1 HF1
  go_wp2_with fail
  refine (head_any _ HF2.out.st.tb).mono ?_
  rintro e w13 ⟨rfl, K13⟩
  have F3 := HF2.out.new K13
  have HF3 := hidOf F3
  have LD2 := hidOf (F3.load 9223372036854775808 8 (by unfold isW; omega) (by have := HBW.out.2.1; omega))
  rw [show ixV 9223372036854775808 = 0 by decide, HBW.out.2.2.2] at LD2
  clear K13 F3 HF2
  go_wp2_with fail
  refine LD2.out.mono ?_
  rintro e w14 ⟨a2, rfl, F4, -⟩
  have KF := hidOf F4.kp
  clear F4 LD2 HF3 HBW
  go_wp2
  go_ret
  exact ⟨rfl, KF.out⟩
end K
end Go.Proofs.YtkjjieklccbmoaaGreatDoor
