/-
  Two retires of one node over the same words: whoever steps when, just one of them is the last one.
-/
import Derived.Test.YtgafmklfpiipcaaDoorRLaws
namespace Go.Proofs.YtgafmklfpiipcaaDoor
open Go.RowKit (Grown Hid Below)
open Go.Deep
namespace K
set_option maxRecDepth 100000
theorem rnin5 {x a b c d e : Nat} (h1 : ¬ x = a) (h2 : ¬ x = b) (h3 : ¬ x = c) (h4 : ¬ x = d) (h5 : ¬ x = e) : x ∉ [a, b, c, d, e] := by simp [h1, h2, h3, h4, h5]
theorem rfs_blk {base : Nat → Prop} {w : World} {b x : Nat} {c : Cfg} {f : Fm} {A : Array Value} (h : FS base w b c f) (hx : w.heap[x]? = some (.cells A 77 (0, 0))) : ¬ x = b := by
  rcases h.2 with z | ⟨_, _, _, _, gg, A, z⟩
  · exact blk_ne (T1 := 77) hx z.fb (by decide)
  · exact blk_ne (T1 := 77) hx z.fb (by decide)
/-- An owner that went and was not the last one. -/
def Dn (w : World) (b fb : Nat) : Prop := ∃ s : Rtm, RtB w b fb (phT s b) s.la s.h s.bi s.er ∧ s.d = true ∧ s.la = false
/-- One that is the last one, or will be. -/
def Lv (w0 w : World) (b fb gb m p r : Nat) (c : Cfg) (l : Nd) (z : Nat) (left cnt : Int) : Prop := ∃ g s cs a, RtW (Bhr w0) w0 w b fb gb m p r c g s cs cnt a ∧ Rv c l z cs g s 1 left
/-- Two that are new. -/
def Nw2 (w0 w : World) (b fb gb : Nat) (t : Int) (b2 fb2 gb2 : Nat) (t2 : Int) (m p r : Nat) (c : Cfg) (ns : List Nn) (k : Nat) (cnt : Int) : Prop :=
  ∃ cs a, RtW (Bhr w0) w0 w b fb gb m p r c ⟨0, 0, t⟩ (rtS (hw (k + 1)) (ns.getD k nn0).k) cs cnt a ∧ RtW (Bhr w0) w0 w b2 fb2 gb2 m p r c ⟨0, 0, t2⟩ (rtS (hw (k + 1)) (ns.getD k nn0).k) cs cnt a ∧ LdR c ns k 2 cs
/-- Neither has gone (0), the first one has (1), the second one has (2). -/
structure Tr (w0 w : World) (b fb gb : Nat) (t : Int) (b2 fb2 gb2 : Nat) (t2 : Int) (m p r : Nat) (c : Cfg) (ns : List Nn) (k who : Nat) (left cnt : Int) : Prop where
  nb : ¬ b = b2
  hr : riB c = true
  hk : k < ns.length
  hn : (ns.length : Int) ≤ c.c
  n0 : 0 ≤ cnt
  le : 0 ≤ left ∧ left ≤ 1560
  ob : w0.heap.size ≤ b ∧ w0.heap.size ≤ b2
  ph : (who = 0 ∧ Nw2 w0 w b fb gb t b2 fb2 gb2 t2 m p r c ns k cnt ∧ left = 1560) ∨ (who = 1 ∧ Dn w b fb ∧ Lv w0 w b2 fb2 gb2 m p r c (ndOf c (delN ns k)) (k + 1) left cnt) ∨ (who = 2 ∧ Dn w b2 fb2 ∧ Lv w0 w b fb gb m p r c (ndOf c (delN ns k)) (k + 1) left cnt)
section
variable {w0 w w' : World} {b fb gb b2 fb2 gb2 m p r : Nat} {t t2 : Int} {c : Cfg} {ns : List Nn} {k who : Nat} {left cnt : Int}
theorem Tr.flip (h : Tr w0 w b fb gb t b2 fb2 gb2 t2 m p r c ns k who left cnt) : Tr w0 w b2 fb2 gb2 t2 b fb gb t m p r c ns k (if who = 0 then 0 else 3 - who) left cnt := by
  refine ⟨fun e => h.nb e.symm, h.hr, h.hk, h.hn, h.n0, h.le, ⟨h.ob.2, h.ob.1⟩, ?_⟩
  rcases h.ph with ⟨rfl, ⟨cs, a, x, y, l⟩, e⟩ | ⟨rfl, d, v⟩ | ⟨rfl, d, v⟩
  · exact Or.inl ⟨rfl, ⟨cs, a, y, x, l⟩, e⟩
  · exact Or.inr (Or.inr ⟨rfl, d, v⟩)
  · exact Or.inr (Or.inl ⟨rfl, d, v⟩)
theorem Lv.new {l : Nd} {z : Nat} (h : Lv w0 w b fb gb m p r c l z left cnt) (kk : Kept [] w w') : Lv w0 w' b fb gb m p r c l z left cnt := by
  obtain ⟨g, s, cs, a, W, V⟩ := h; exact ⟨g, s, cs, a, W.new kk, V⟩
theorem Dn.new (h : Dn w b fb) (kk : Kept [] w w') : Dn w' b fb := by
  obtain ⟨s, B, q⟩ := h; exact ⟨s, B.kept kk (by simp), q⟩
theorem Tr.new (h : Tr w0 w b fb gb t b2 fb2 gb2 t2 m p r c ns k who left cnt) (kk : Kept [] w w') : Tr w0 w' b fb gb t b2 fb2 gb2 t2 m p r c ns k who left cnt := by
  refine ⟨h.nb, h.hr, h.hk, h.hn, h.n0, h.le, h.ob, ?_⟩
  rcases h.ph with ⟨rfl, ⟨cs, a, x, y, l⟩, e⟩ | ⟨rfl, d, v⟩ | ⟨rfl, d, v⟩
  · exact Or.inl ⟨rfl, ⟨cs, a, x.new kk, y.new kk, l⟩, e⟩
  · exact Or.inr (Or.inl ⟨rfl, d.new kk, v.new kk⟩)
  · exact Or.inr (Or.inr ⟨rfl, d.new kk, v.new kk⟩)
theorem Tr.kp (h : Tr w0 w b fb gb t b2 fb2 gb2 t2 m p r c ns k who left cnt) : Kept [] w0 w ∧ Tab w := by
  rcases h.ph with ⟨rfl, ⟨cs, a, x, y, l⟩, e⟩ | ⟨rfl, d, g, s, cs, a, W, V⟩ | ⟨rfl, d, g, s, cs, a, W, V⟩
  · exact ⟨x.fw.kp, x.fw.st.tb⟩
  · exact ⟨W.fw.kp, W.fw.st.tb⟩
  · exact ⟨W.fw.kp, W.fw.st.tb⟩
/-- Blocks of other types stay. -/
def Keeps (w w' : World) : Prop := ∀ (x : Nat) (A : Array Value) (T : TypeId), w.heap[x]? = some (.cells A T (0, 0)) → T ≠ 77 → T ≠ 113 → T ≠ 96 → T ≠ 87 → T ≠ 26 → T ≠ 129 → w'.heap[x]? = some (.cells A T (0, 0))
theorem Keeps.then {a b c : World} (h : Keeps a b) (k : Keeps b c) : Keeps a c := fun x A T hx h1 h2 h3 h4 h5 h6 => k x A T (h x A T hx h1 h2 h3 h4 h5 h6) h1 h2 h3 h4 h5 h6
theorem rfs_ne {base : Nat → Prop} {w : World} {b x : Nat} {T : TypeId} {c : Cfg} {f : Fm} {A : Array Value} (h : FS base w b c f) (hx : w.heap[x]? = some (.cells A T (0, 0))) (hT : T ≠ 113) : ¬ x = b := by
  rcases h.2 with z | ⟨_, _, _, _, gg, A, z⟩
  · exact blk_ne hx z.fb hT
  · exact blk_ne hx z.fb hT
theorem RtW.keeps {base : Nat → Prop} {w0 w w' : World} {b fb gb m p r : Nat} {c : Cfg} {g : Gs} {s : Rtm} {cs : List Int} {cnt : Int} {a : Acc} (h : RtW base w0 w b fb gb m p r c g s cs cnt a) (F : FK base [b, fb, gb, p, r] w w') : Keeps w w' := fun _ _ _ hx h1 h2 h3 h4 h5 h6 =>
  F.blk hx h6 (rnin5 (blk_ne hx h.rb h1) (rfs_ne h.fw.st.fs hx h2) (blk_ne hx h.fw.st.gd h3) (blk_ne hx h.fw.st.mm.bk.st h4) (blk_ne hx h.fw.st.mm.bk.row h5))
theorem rtN_le (cnt : Int) (s : Rtm) : cnt ≤ rtN cnt s ∧ rtN cnt s ≤ cnt + 1 := by unfold rtN; split <;> omega
/-- The first one's step. -/
theorem Tr.step (h : Tr w0 w b fb gb t b2 fb2 gb2 t2 m p r c ns k who left cnt) (c1 : cnt < 4611686018427387904) :
    Calls Tryd.prog 22 #[.pointer (some ⟨b, 0, none⟩), .pointer (some ⟨m, 0, none⟩), .pointer (some ⟨gb, 0, none⟩)] w fun e w' => e = .returned (.tuple #[]) ∧ ∃ who' left' cnt', Tr w0 w' b fb gb t b2 fb2 gb2 t2 m p r c ns k who' left' cnt' ∧ cnt' ≤ cnt + 1 ∧ Keeps w w' ∧ (who = 0 → who' = 1 ∧ left' = left) ∧ (who = 1 → who' = 1 ∧ left' = left) ∧ (who = 2 → who' = 2 ∧ left' = if left = 0 then 0 else left - 1) := by
  have R := riB_true.1 h.hr
  rcases h.ph with ⟨rfl, ⟨cs, a, x, y, l⟩, e⟩ | ⟨rfl, ⟨s, B, hd, la⟩, v⟩ | ⟨rfl, ⟨s2, B2, hd2, la2⟩, g, s, cs, a, W, V⟩
  · refine (rtstep0_any x rfl rfl c1).mono fun e1 w' hh => ?_
    obtain ⟨e2, W, K⟩ := hh
    have cb := rtN_le cnt (rtS (hw (k + 1)) (ns.getD k nn0).k)
    have n1 : ¬ b2 = b := fun e => h.nb e.symm
    obtain ⟨⟨_, n2, n3⟩, _⟩ := y.nm
    have ix : ixV (rtS (hw (k + 1)) (ns.getD k nn0).k).h = ((k + 1 : Nat) : Int) := by
      show ixV (plainV (hw (k + 1))) = _
      have := R.c1
      have := h.hn
      have := h.hk
      rw [ix_pl]; exact hw_ix (by omega)
    obtain ⟨f1, f2, f3⟩ := rtF_0 (c := c) (cs := cs) (cnt := cnt) (g := ⟨0, 0, t⟩) (s := rtS (hw (k + 1)) (ns.getD k nn0).k) rfl rfl
    have ow : (rtS (hw (k + 1)) (ns.getD k nn0).k).ow c cs = 2 := by
      show fd c cs (ixV (rtS (hw (k + 1)) (ns.getD k nn0).k).h) 5 = 2
      rw [ix]; exact l.own
    have l2 := l.less h.hr h.hk h.hn (by omega) (by unfold isW; omega)
    have ec : rtC c cs ⟨0, 0, t⟩ (rtS (hw (k + 1)) (ns.getD k nn0).k) = clV cs 4 (clV' c ((k : Int) + 1) 5) 0 oneL := by
      rw [f2, ix, show ((k + 1 : Nat) : Int) = (k : Int) + 1 by omega]
    rw [ec] at W
    have wb := W.rb
    have D : Dn w' b fb := by
      refine ⟨_, wb, ?_, ?_⟩
      · rw [f1, ow]; rfl
      · rw [f1, ow]; rfl
    have y' : RtW (Bhr w0) w0 w' b2 fb2 gb2 m p r c ⟨0, 0, t2⟩ (rtS (hw (k + 1)) (ns.getD k nn0).k) (clV cs 4 (clV' c ((k : Int) + 1) 5) 0 oneL) (rtN cnt (rtS (hw (k + 1)) (ns.getD k nn0).k)) (rtA c cs ⟨0, 0, t⟩ (rtS (hw (k + 1)) (ns.getD k nn0).k) a) :=
      ⟨y.rb.kept K (by simp; omega), y.fw.rm x.rb x.ob W.fw.st.mm K l2.wd (by have := h.n0; omega), y.ri, y.ob⟩
    exact ⟨e2, 1, left, _, ⟨h.nb, h.hr, h.hk, h.hn, by have := h.n0; omega, h.le, h.ob, Or.inr (Or.inl ⟨rfl, D, _, _, _, _, y', l2.rv h.hr h.hk _ (by rw [e]; exact full_bd R l2.ok)⟩)⟩, cb.2, x.keeps (FK.of (K.weaken (by simp))), fun _ => ⟨rfl, rfl⟩, fun z => (by omega), fun z => (by omega)⟩
  · refine (rtstep_d _ _ B hd).mono fun e1 w' hh => ?_
    obtain ⟨e2, rfl⟩ := hh
    exact ⟨e2, 1, left, cnt, h, by omega, fun _ _ _ hx _ _ _ _ _ _ => hx, fun z => (by omega), fun _ => ⟨rfl, rfl⟩, fun z => (by omega)⟩
  · refine (rtstep_any W c1).mono fun e1 w' hh => ?_
    obtain ⟨e2, W2, F⟩ := hh
    have cb := rtN_le cnt s
    have V2 := (V.step cnt).1
    have D : Dn w' b2 fb2 := by
      refine ⟨s2, F.blk B2 (by decide) (rnin5 (fun e => h.nb e.symm) (rfs_blk W.fw.st.fs B2) ?_ ?_ ?_), hd2, la2⟩
      · exact blk_ne (T1 := 77) B2 W.fw.st.gd (by decide)
      · exact blk_ne (T1 := 77) B2 W.fw.st.mm.bk.st (by decide)
      · exact blk_ne (T1 := 77) B2 W.fw.st.mm.bk.row (by decide)
    exact ⟨e2, 2, _, _, ⟨h.nb, h.hr, h.hk, h.hn, by have := h.n0; omega, by have := h.le; split <;> omega, h.ob, Or.inr (Or.inr ⟨rfl, D, _, _, _, _, W2, V2⟩)⟩, cb.2, W.keeps F, fun z => (by omega), fun z => (by omega), fun _ => ⟨rfl, rfl⟩⟩
/-- The second one's step. -/
theorem Tr.step2 (h : Tr w0 w b fb gb t b2 fb2 gb2 t2 m p r c ns k who left cnt) (c1 : cnt < 4611686018427387904) :
    Calls Tryd.prog 22 #[.pointer (some ⟨b2, 0, none⟩), .pointer (some ⟨m, 0, none⟩), .pointer (some ⟨gb2, 0, none⟩)] w fun e w' => e = .returned (.tuple #[]) ∧ ∃ who' left' cnt', Tr w0 w' b fb gb t b2 fb2 gb2 t2 m p r c ns k who' left' cnt' ∧ cnt' ≤ cnt + 1 ∧ Keeps w w' ∧ (who = 0 → who' = 2 ∧ left' = left) ∧ (who = 1 → who' = 1 ∧ left' = if left = 0 then 0 else left - 1) ∧ (who = 2 → who' = 2 ∧ left' = left) :=
  (h.flip.step c1).mono fun e w' hh => by
    obtain ⟨e1, who', left', cnt', T, c2, kp, q0, q1, q2⟩ := hh
    refine ⟨e1, _, left', cnt', T.flip, c2, kp, fun z => ?_, fun z => ?_, fun z => ?_⟩
    · subst z; obtain ⟨rfl, e2⟩ := q0 rfl; exact ⟨rfl, e2⟩
    · subst z; obtain ⟨rfl, e2⟩ := q2 rfl; exact ⟨rfl, e2⟩
    · subst z; obtain ⟨rfl, e2⟩ := q1 rfl; exact ⟨rfl, e2⟩
/-- At the end. -/
theorem Tr.fin (h : Tr w0 w b fb gb t b2 fb2 gb2 t2 m p r c ns k who left cnt) (l0 : left = 0) : ∃ (X : Bool) (sA sB : Rtm), (RtB w b fb (phT sA b) sA.la sA.h sA.bi sA.er ∧ sA.d = true ∧ sA.told = X) ∧ (RtB w b2 fb2 (phT sB b2) sB.la sB.h sB.bi sB.er ∧ sB.d = true ∧ sB.told = !X) ∧ ∃ cs a, Mm w m p r c cs cnt a ∧ Wds cs ∧ Unl c (ndOf c (delN ns k)) (k + 1) cs ∧ (ndOf c (delN ns k)).ok c ∧ w0.heap.size ≤ p ∧ w0.heap.size ≤ r := by
  rcases h.ph with ⟨_, _, e⟩ | ⟨rfl, ⟨s, B, hd, la⟩, g, s2, cs, a, W, V⟩ | ⟨rfl, ⟨s2, B2, hd2, la2⟩, g, s, cs, a, W, V⟩
  · omega
  · obtain ⟨d2, l2, _, _⟩ := V.fin l0
    exact ⟨false, s, s2, ⟨B, hd, by unfold Rtm.told; rw [hd, la]; rfl⟩, ⟨W.rb, d2, by unfold Rtm.told; rw [d2, l2]; rfl⟩, cs, a, W.fw.st.mm, W.fw.st.wd, V.unl (V.done d2).1, V.ok, W.fw.op, W.fw.ow⟩
  · obtain ⟨d2, l2, _, _⟩ := V.fin l0
    exact ⟨true, s, s2, ⟨W.rb, d2, by unfold Rtm.told; rw [d2, l2]; rfl⟩, ⟨B2, hd2, by unfold Rtm.told; rw [hd2, la2]; rfl⟩, cs, a, W.fw.st.mm, W.fw.st.wd, V.unl (V.done d2).1, V.ok, W.fw.op, W.fw.ow⟩
end
end K
end Go.Proofs.YtgafmklfpiipcaaDoor
