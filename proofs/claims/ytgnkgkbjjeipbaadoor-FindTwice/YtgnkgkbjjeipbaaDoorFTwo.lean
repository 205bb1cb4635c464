/-
  A second find over the same words, alone: nothing but reservations is changed any more.
-/
import Derived.Test.YtgnkgkbjjeipbaaDoorFSame
namespace Go.Proofs.YtgnkgkbjjeipbaaDoor
open Go.RowKit (Grown Hid Below)
open Go.Deep
namespace K
set_option maxRecDepth 100000
theorem row_getD {w : World} {r : Nat} {xs : List Int} (h : Row w r xs) {i : Nat} (hi : i < xs.length) : w.cell? ⟨r, i, none⟩ = some (.int .u64 (xs.getD i 0)) := by
  have e : xs.getD i 0 = xs[i] := by simp [hi]
  rw [e]; exact h.cell hi
theorem plc_field (w : World) (x y z : Int) : (Instr.field 50 (.agg #[.int .i64 x, .int .i64 y, .int .i64 z]) 0).run Tryd.prog w = .ok (.int .i64 x) w := by kernel_rfl
/-- Words that differ in reservations alone. -/
def Rsv (c : Cfg) (cs cs' : List Int) : Prop := cs'.length = cs.length ∧ ∀ x : Nat, x < cs.length → cs'.getD x 0 = cs.getD x 0 ∨ (whV c x).k = 2
theorem Rsv.refl (c : Cfg) (cs : List Int) : Rsv c cs cs := ⟨rfl, fun _ _ => Or.inl rfl⟩
theorem Rsv.store {c : Cfg} {cs cs' : List Int} (h : Rsv c cs cs') (a b v : Int) : Rsv c cs (clV cs' 2 (rsV c a b) 0 v) := by
  by_cases hx : hasC cs' (rsV c a b)
  · have e : clV cs' 2 (rsV c a b) 0 v = cs'.set (rsV c a b).toNat v := by unfold Go.Proofs.YtgnkgkbjjeipbaaDoor.clV; rw [if_pos hx]; rfl
    rw [e]
    refine ⟨by simp [h.1], fun x hxl => ?_⟩
    by_cases hq : (rsV c a b).toNat = x
    · right
      have hi := rs_in hx.1
      have er : rsV c a b = 1 + a * c.s + b := if_pos hi
      have z := (res_wh hi).1
      rw [← er, show rsV c a b = (x : Int) by have := hx.1; omega] at z
      rw [z]
    · rw [getD_set _ _ _ _ (by rw [h.1]; exact hxl), if_neg hq]
      exact h.2 x hxl
  · have e : clV cs' 2 (rsV c a b) 0 v = cs' := if_neg hx
    rw [e]; exact h
theorem Rsv.step {c : Cfg} {cs cs' : List Int} {g : Gs} {f : Fm} (h : Rsv c cs cs') (h4 : f.nx ≠ 4) : Rsv c cs (fC c cs' g f) := by
  unfold fC
  split
  · exact h
  · split
    · exact h.store _ _ _
    · first | exact h | (rw [if_neg h4]; exact h)
/-- The second find, at a step. -/
structure TwS (base : Nat) (w0 w : World) (b gb m p r : Nat) (c : Cfg) (l : Nd) (k : Int) (N : Nat → Nat → Nat) (cs0 : List Int) (left most : Int) (g : Gs) (f : Fm) (cs : List Int) (cnt : Int) (a : Acc) (rp rs : Nat → Nat) (pp : Nat) : Prop where
  fw : Fw base w0 w b gb m p r c g f cs cnt a
  iv : Iv c l k cs f N rp rs pp
  ln : (cs.length : Int) = lnV c
  mu : f.d = true ∨ mu c l cs g f N pp 0 ≤ left
  ct : cnt ≤ most
  rv : Rsv c cs0 cs
theorem TwS.next {base : Nat} {w0 w w' : World} {b gb m p r : Nat} {c : Cfg} {l : Nd} {k left most : Int} {N : Nat → Nat → Nat} {cs0 : List Int} {g : Gs} {f : Fm} {cs : List Int} {cnt : Int} {a a' : Acc} {rp rs : Nat → Nat} {pp : Nat} {rp1 rs1 : Nat → Nat} (ok : l.ok c) (hr : riB c = true) (h : TwS base w0 w b gb m p r c l k N cs0 left most g f cs cnt a rp rs pp) (hd : f.d = false) (h1 : ∀ t, t < HN c → Rs l k N (HN c - 1 - t) (stt rp1 t) (rp1 t) (rs1 t)) (Z : Fw base w0 w' b gb m p r c (fG c g f) (fF c cs cnt g f) (fC c cs g f) (fN cnt f) a') : ∃ rp' rs' p', TwS base w0 w' b gb m p r c l k N cs0 (left - 1) (most + 1) (fG c g f) (fF c cs cnt g f) (fC c cs g f) (fN cnt f) a' rp' rs' p' := by
  have h4 := h.iv.clean ok hd h1
  obtain ⟨N', rp', rs', p', I, le, hN⟩ := mu_step hr ok h.ln h.iv hd cnt g h.fw.st.u1 (T := 0) (by omega)
  obtain rfl := hN h4
  refine ⟨rp', rs', p', Z, I, by rw [fC_len]; exact h.ln, ?_, by rw [fN_no hd]; have := h.ct; omega, h.rv.step h4⟩
  rcases le with e | e
  · exact Or.inl e
  · rcases h.mu with q | q
    · rw [hd] at q; cases q
    · exact Or.inr (by omega)
theorem TwS.stay {base : Nat} {w0 w : World} {b gb m p r : Nat} {c : Cfg} {l : Nd} {k left most left' most' : Int} {N : Nat → Nat → Nat} {cs0 : List Int} {g : Gs} {f : Fm} {cs : List Int} {cnt : Int} {a : Acc} {rp rs : Nat → Nat} {pp : Nat} (h : TwS base w0 w b gb m p r c l k N cs0 left most g f cs cnt a rp rs pp) (hd : f.d = true) (hm : most ≤ most') : TwS base w0 w b gb m p r c l k N cs0 left' most' g f cs cnt a rp rs pp :=
  ⟨h.fw, h.iv, h.ln, Or.inl hd, by have := h.ct; omega, h.rv⟩
theorem TwS.done {base : Nat} {w0 w : World} {b gb m p r : Nat} {c : Cfg} {l : Nd} {k left most : Int} {N : Nat → Nat → Nat} {cs0 : List Int} {g : Gs} {f : Fm} {cs : List Int} {cnt : Int} {a : Acc} {rp rs : Nat → Nat} {pp : Nat} (ok : l.ok c) (h : TwS base w0 w b gb m p r c l k N cs0 left most g f cs cnt a rp rs pp) (hl : left ≤ 0) : f.d = true := by
  rcases h.mu with q | q
  · exact q
  · cases hd : f.d with
    | true => rfl
    | false => have := mu_pos ok h.iv hd (T := 0) (by omega) (cs := cs) (g := g); omega
end K
end Go.Proofs.YtgnkgkbjjeipbaaDoor
