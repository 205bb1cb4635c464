/-
  A guard and a world's words, together: what each call leaves, and tells.
-/
import Derived.Test.YtgafmklfpiipcaaGreatDoorGMath
namespace Go.Proofs.YtgafmklfpiipcaaGreatDoor
open Go.RowKit (Grown Hid Below)
open Go.Deep
namespace K
set_option maxRecDepth 100000
/-- A guard and the words, all of them made behind w0, of which nothing is changed. -/
structure Gw (w0 w : World) (b m p r : Nat) (c : Cfg) (g : Gs) (cs : List Int) (cnt : Int) : Prop where
  gb : GB w b g
  mm : ∃ a, Mm w m p r c cs cnt a
  kp : Kept [] w0 w
  b0 : w0.heap.size ≤ b
  p0 : w0.heap.size ≤ p
  r0 : w0.heap.size ≤ r
section
variable {w0 w w' : World} {b m p r : Nat} {c : Cfg} {g g' : Gs} {cs cs' : List Int} {cnt cnt' : Int} {a a' : Acc}
theorem Gw.new (h : Gw w0 w b m p r c g cs cnt) (k : Kept [] w w') : Gw w0 w' b m p r c g cs cnt := by
  obtain ⟨a, M⟩ := h.mm
  exact ⟨h.gb.kept k (by simp), ⟨a, M.new k⟩, h.kp.trans k, h.b0, h.p0, h.r0⟩
theorem Gw.step (h : Gw w0 w b m p r c g cs cnt) (k : Kept [b, p, r] w w') (G : GB w' b g') (M : Mm w' m p r c cs' cnt' a') : Gw w0 w' b m p r c g' cs' cnt' := by
  have := h.b0; have := h.p0; have := h.r0
  exact ⟨G, ⟨a', M⟩, h.kp.then k (by simp; omega), h.b0, h.p0, h.r0⟩
theorem Gw.start (K1 : Kept [] w0 w) (hp : w0.heap.size ≤ p) (hr : w0.heap.size ≤ r) (M : Mm w m p r c cs cnt a) (K2 : Kept [] w w') (hb : w.heap.size ≤ b) (G : GB w' b g) : Gw w0 w' b m p r c g cs cnt :=
  ⟨G, ⟨a, M.new K2⟩, K1.trans K2, by have := K1.size; omega, hp, hr⟩
theorem Gw.tab (h : Gw w0 w b m p r c g cs cnt) (T : Tab w0) : Tab w := T.kept h.kp
theorem Gw.latest (h : Gw w0 w b m p r c g cs cnt) : Calls Tryz.prog 109 #[.pointer (some ⟨b, 0, none⟩)] w fun e w' => e = .returned (.int .u64 g.l) ∧ w' = w := glatest_any b g w h.gb
theorem Gw.bank (h : Gw w0 w b m p r c g cs cnt) : Calls Tryz.prog 20 #[.pointer (some ⟨m, 0, none⟩)] w fun e w' => e = .returned (.pointer (some ⟨p, 0, none⟩)) ∧ w' = w := by
  obtain ⟨a, M⟩ := h.mm
  exact bank_any m p r c cs cnt a w M
theorem Gw.check (h : Gw w0 w b m p r c g cs cnt) (c0 : 0 ≤ cnt) (c1 : cnt < 4611686018427387904) : Calls Tryz.prog 104 #[.pointer (some ⟨b, 0, none⟩), .pointer (some ⟨m, 0, none⟩)] w fun e w' => e = .returned (.tuple #[.int .u64 (rdG cs 0), .bool (rdG cs 0 == g.l)]) ∧ Gw w0 w' b m p r c g cs (cnt + 1) := by
  obtain ⟨a, M⟩ := h.mm
  exact (gcheck_any b m p r g c cs cnt a w h.gb M c0 c1).mono fun _ _ hh => ⟨hh.1, h.step (hh.2.2.2.weaken (by simp)) hh.2.2.1 hh.2.1⟩
theorem Gw.publish (h : Gw w0 w b m p r c g cs cnt) (e : Int) (u0 : 0 ≤ g.u) (u1 : g.u < 1000) (c0 : 0 ≤ cnt) (c1 : cnt < 4611686018427387904) : Calls Tryz.prog 112 #[.pointer (some ⟨b, 0, none⟩), .pointer (some ⟨m, 0, none⟩), .int .u64 e] w fun ee w' => ee = .returned (.bool (decide (g.u < c.s))) ∧ Gw w0 w' b m p r c (pubG c g e) (clV cs 2 (rsV c g.t (pubN c g)) 0 e) (cnt + 1) := by
  obtain ⟨a, M⟩ := h.mm
  exact (gpublish_any b m p r g c cs cnt a e w h.gb M u0 u1 c0 c1).mono fun _ _ hh => ⟨hh.1, h.step hh.2.2.2 hh.2.2.1 hh.2.1⟩
theorem Gw.cells (h : Gw w0 w b m p r c g cs cnt) : Calls Tryz.prog 39 #[.pointer (some ⟨p, 0, none⟩)] w fun e w' => ∃ q, e = .returned (.slice (some ⟨q, 0, none⟩) cs.length cs.length) ∧ Row w' q cs ∧ Kept [] w w' := by
  obtain ⟨a, M⟩ := h.mm
  exact (cells_any p r cs cnt a w M.bk).mono fun _ _ hh => ⟨_, hh.1, hh.2.1, hh.2.2⟩
theorem Gw.check_is (h : Gw w0 w b m p r c g cs cnt) (c0 : 0 ≤ cnt) (c1 : cnt < 4611686018427387904) {E : Int} {B : Bool} (he : rdG cs 0 = E) (hb : (E == g.l) = B) : Calls Tryz.prog 104 #[.pointer (some ⟨b, 0, none⟩), .pointer (some ⟨m, 0, none⟩)] w fun e w' => e = .returned (.tuple #[.int .u64 E, .bool B]) ∧ Gw w0 w' b m p r c g cs (cnt + 1) := by
  subst he hb; exact h.check c0 c1
theorem Gw.publish_is (h : Gw w0 w b m p r c g cs cnt) (e : Int) (u0 : 0 ≤ g.u) (u1 : g.u < 1000) (c0 : 0 ≤ cnt) (c1 : cnt < 4611686018427387904) {D : Bool} (hd : decide (g.u < c.s) = D) (hg : pubG c g e = g') (hc : clV cs 2 (rsV c g.t (pubN c g)) 0 e = cs') : Calls Tryz.prog 112 #[.pointer (some ⟨b, 0, none⟩), .pointer (some ⟨m, 0, none⟩), .int .u64 e] w fun ee w' => ee = .returned (.bool D) ∧ Gw w0 w' b m p r c g' cs' (cnt + 1) := by
  subst hd hg hc; exact h.publish e u0 u1 c0 c1
theorem Gw.latest_is (h : Gw w0 w b m p r c g cs cnt) {V : Int} (hv : g.l = V) : Calls Tryz.prog 109 #[.pointer (some ⟨b, 0, none⟩)] w fun e w' => e = .returned (.int .u64 V) ∧ w' = w := by
  subst hv; exact h.latest
theorem Gw.publish_kept (h : Gw w0 w b m p r c g cs cnt) (e : Int) (u0 : 0 ≤ g.u) (u1 : g.u < 1000) (c0 : 0 ≤ cnt) (c1 : cnt < 4611686018427387904) {D : Bool} (hd : decide (g.u < c.s) = D) (hg : pubG c g e = g') (hc : clV cs 2 (rsV c g.t (pubN c g)) 0 e = cs') : Calls Tryz.prog 112 #[.pointer (some ⟨b, 0, none⟩), .pointer (some ⟨m, 0, none⟩), .int .u64 e] w fun ee w' => ee = .returned (.bool D) ∧ Gw w0 w' b m p r c g' cs' (cnt + 1) ∧ Kept [b, p, r] w w' := by
  subst hd hg hc
  obtain ⟨a, M⟩ := h.mm
  exact (gpublish_any b m p r g c cs cnt a e w h.gb M u0 u1 c0 c1).mono fun _ _ hh => ⟨hh.1, h.step hh.2.2.2 hh.2.2.1 hh.2.1, hh.2.2.2⟩
end
theorem Gw.far {w0 w w' : World} {b m p r base : Nat} {c : Cfg} {g : Gs} {cs : List Int} {cnt : Int} {l : List Nat} (h : Gw w0 w b m p r c g cs cnt) (hb : b < base ∧ m < base ∧ p < base ∧ r < base ∧ w0.heap.size ≤ base) (k : Kept l w w') (hl : ∀ x ∈ l, base ≤ x) : Gw w0 w' b m p r c g cs cnt := by
  obtain ⟨a, M⟩ := h.mm
  have h1 := h.b0; have h2 := h.p0; have h3 := h.r0
  exact ⟨h.gb.kept k (fun hx => by have := hl _ hx; omega), ⟨a, M.kept k (fun hx => by have := hl _ hx; omega) (fun hx => by have := hl _ hx; omega) (fun hx => by have := hl _ hx; omega)⟩, h.kp.then k (fun x hx => Or.inr (by have := hl _ hx; omega)), h1, h2, h3⟩
theorem Stn.start (c : Cfg) (cs : List Int) (t : Int) (h : 1 ≤ c.s) : Stn c cs ⟨0, 0, t⟩ [] := ⟨rfl, by show (0 : Int) ≤ c.s; omega, fun i hi => by simp at hi⟩
end K
end Go.Proofs.YtgafmklfpiipcaaGreatDoor
