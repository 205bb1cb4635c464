/-
  Two helps of one node over the same words; new ones, one behind the other.
-/
import Derived.Test.YtjbdaejkofkcpaaDoorJWld
import Derived.Test.YtjbdaejkofkcpaaDoorJArgs
namespace Go.Proofs.YtjbdaejkofkcpaaDoor
open Go.RowKit (Grown Hid Below intOf)
open Go.Deep
namespace K
set_option maxRecDepth 100000
/-- One, two, three new helps of a node. -/
structure N1 (V Y : World) (a : Nat) (h : Int) : Prop where
  A : HB Y a ⟨h, 0, 0, 0⟩
  k : Kept [] V Y
  ge : V.heap.size ≤ a
structure N2 (V Y : World) (a b : Nat) (h : Int) : Prop where
  A : HB Y a ⟨h, 0, 0, 0⟩
  B : HB Y b ⟨h, 0, 0, 0⟩
  k : Kept [] V Y
  ge : V.heap.size ≤ a
  lt : a < b
structure N3 (V Y : World) (a b d : Nat) (h : Int) : Prop where
  A : HB Y a ⟨h, 0, 0, 0⟩
  B : HB Y b ⟨h, 0, 0, 0⟩
  D : HB Y d ⟨h, 0, 0, 0⟩
  k : Kept [] V Y
  ge : V.heap.size ≤ a
  lt : a < b
  lt2 : b < d
theorem N1.of {V Y : World} (h : Int) (k : Kept [] V Y) : Calls Tryd.prog 10 #[.int .u64 h] Y fun e w' => ∃ a, e = .returned (.pointer (some ⟨a, 0, none⟩)) ∧ N1 V w' a h :=
  (hnew_any h Y).mono fun _ _ hh => by
    obtain ⟨a, e, ge, A, K⟩ := hh
    exact ⟨a, e, A, k.trans K, by have := k.size; omega⟩
theorem N2.of {V Y : World} {a : Nat} {h : Int} (n : N1 V Y a h) : Calls Tryd.prog 10 #[.int .u64 h] Y fun e w' => ∃ b, e = .returned (.pointer (some ⟨b, 0, none⟩)) ∧ N2 V w' a b h :=
  (hnew_any h Y).mono fun _ _ hh => by
    obtain ⟨b, e, ge, B, K⟩ := hh
    exact ⟨b, e, n.A.kept K (by simp), B, n.k.trans K, n.ge, by have := n.A.lt; omega⟩
theorem N3.of {V Y : World} {a b : Nat} {h : Int} (n : N2 V Y a b h) : Calls Tryd.prog 10 #[.int .u64 h] Y fun e w' => ∃ d, e = .returned (.pointer (some ⟨d, 0, none⟩)) ∧ N3 V w' a b d h :=
  (hnew_any h Y).mono fun _ _ hh => by
    obtain ⟨d, e, ge, D, K⟩ := hh
    exact ⟨d, e, n.A.kept K (by simp), n.B.kept K (by simp), D, n.k.trans K, n.ge, n.lt, by have := n.B.lt; omega⟩
/-- A block of another type. -/
theorem rw_far {T : TypeId} {w w' : World} {q b m p r : Nat} {A : Array Value} {s : Hm} {c : Cfg} {cs : List Int} {cnt : Int} {a : Acc} (h : RW T w q A) (t1 : T ≠ 86) (t2 : T ≠ 109) (t3 : T ≠ 25) (B : HB w b s) (M : Mm w m p r c cs cnt a) (k : Kept [b, p, r] w w') : RW T w' q A := by
  have n1 := rw_ne12 h (show RW 86 w b _ from B) t1
  have n2 := rw_ne12 h (show RW _ w p _ from M.bk.st) t2
  have n3 := rw_ne12 h (show RW _ w r _ from M.bk.row) t3
  exact h.kept k (by simp; omega)
/-- The boxes: the configuration's, and an argument's. -/
structure Bx (T : TypeId) (w : World) (q : Nat) (c : Cfg) (A : Array Value) : Prop where
  c : RW 23 w q #[.int .i64 c.t, .int .i64 c.s, .int .i64 c.c, .int .i64 c.h, .int .i64 c.k, .int .i64 c.e, .int .i64 c.l]
  z : RW T w (q + 1) A
theorem Bx.new {T : TypeId} {w w' : World} {q : Nat} {c : Cfg} {A : Array Value} (h : Bx T w q c A) (k : Kept [] w w') : Bx T w' q c A := ⟨h.c.kept k (by simp), h.z.kept k (by simp)⟩
theorem Bx.far {T : TypeId} {w w' : World} {q b m p r : Nat} {c : Cfg} {A : Array Value} {s : Hm} {cs : List Int} {cnt : Int} {a : Acc} (h : Bx T w q c A) (t1 : T ≠ 86) (t2 : T ≠ 109) (t3 : T ≠ 25) (B : HB w b s) (M : Mm w m p r c cs cnt a) (k : Kept [b, p, r] w w') : Bx T w' q c A :=
  ⟨cf_far h.c B M k, rw_far h.z t1 t2 t3 B M k⟩
theorem Bx.load {T : TypeId} {w w' : World} {q m p r : Nat} {c : Cfg} {A : Array Value} {cs : List Int} {cnt : Int} {a : Acc} (h : Bx T w q c A) (t2 : T ≠ 109) (t3 : T ≠ 25) (M : Mm w m p r c cs cnt a) (k : Kept [p, r] w w') : Bx T w' q c A := by
  have n2 := rw_ne12 h.z (show RW _ w p _ from M.bk.st) t2
  have n3 := rw_ne12 h.z (show RW _ w r _ from M.bk.row) t3
  exact ⟨cf_load h.c M k, h.z.kept k (by simp; omega)⟩
/-- Two helps, at a step. -/
structure Tw (w wr : World) (m p r a b : Nat) (c : Cfg) (T X : Int) (xs cs : List Int) (s t : Hm) (cnt : Int) : Prop where
  J : ∃ acc, Jm w wr m p r c cs cnt acc
  A : HB wr a s
  B : HB wr b t
  ai : HI c s
  bi : HI c t
  oa : w.heap.size ≤ a
  ob : w.heap.size ≤ b
  ne : ¬ a = b
  E : En c T X cs
  ua : HU c T X cs s
  ub : HU c T X cs t
  ci : CI c T X xs cs
  sa : HS c X xs s
  sb : HS c X xs t
section
variable {w wr w' : World} {m p r a b : Nat} {c : Cfg} {T X : Int} {xs cs : List Int} {s t : Hm} {cnt : Int}
theorem Tw.symm (h : Tw w wr m p r a b c T X xs cs s t cnt) : Tw w wr m p r b a c T X xs cs t s cnt :=
  ⟨h.J, h.B, h.A, h.bi, h.ai, h.ob, h.oa, fun e => h.ne e.symm, h.E, h.ub, h.ua, h.ci, h.sb, h.sa⟩
theorem Tw.new (h : Tw w wr m p r a b c T X xs cs s t cnt) (k : Kept [] wr w') : Tw w w' m p r a b c T X xs cs s t cnt :=
  ⟨by obtain ⟨acc, j⟩ := h.J; exact ⟨acc, j.new k⟩, h.A.kept k (by simp), h.B.kept k (by simp), h.ai, h.bi, h.oa, h.ob, h.ne, h.E, h.ua, h.ub, h.ci, h.sa, h.sb⟩
theorem Tw.step (h : Tw w wr m p r a b c T X xs cs s t cnt) (c1 : cnt < 1000000) :
    Calls Tryd.prog 13 #[.pointer (some ⟨a, 0, none⟩), .pointer (some ⟨m, 0, none⟩)] wr fun e w' => e = .returned (.tuple #[]) ∧ Tw w w' m p r a b c T X xs (hC c cs s) (hF c cs s) t (hN cnt s) ∧ Kept [a, p, r] wr w' := by
  obtain ⟨acc, j⟩ := h.J
  refine (j.step h.A h.oa h.ai (by omega)).mono fun _ w' hh => ?_
  obtain ⟨e, J, A, K⟩ := hh
  obtain ⟨e1, e2⟩ := CI.step h.E h.ua h.ci h.sa
  exact ⟨e, ⟨⟨_, J⟩, A, hb_far h.B (fun z => h.ne z.symm) j.mm K, h.ai.step j.R j.wd, h.bi, h.oa, h.ob, h.ne, hC_en h.E h.ua, (h.ua.step h.E).1, h.ub.mo (hC_mo h.E h.ua), e1, e2, h.sb⟩, K⟩
theorem hN_le (cnt : Int) (s : Hm) : cnt ≤ hN cnt s ∧ hN cnt s ≤ cnt + 1 := by unfold hN; split <;> omega
/-- The first goes on to its end. -/
theorem Tw.ends (h : Tw w wr m p r a b c T X xs cs s t cnt) (c1 : cnt < 100000) :
    Calls Tryd.prog 19 #[.pointer (some ⟨a, 0, none⟩), .pointer (some ⟨m, 0, none⟩), .int .i64 100] wr fun e w' => ∃ (n : Nat) (ds : List Int) (s2 : Hm), e = .returned (.int .i64 n) ∧ Tw w w' m p r a b c T X xs ds s2 t (cnt + n) ∧ s2.ph = 3 ∧ (n : Int) ≤ 13 ∧ Kept [a, p, r] wr w' := by
  obtain ⟨acc, j⟩ := h.J
  refine (ends_any w wr a m p r c s cs cnt acc 100 j h.A h.oa h.ai (by omega) (by omega)).mono fun _ w' hh => ?_
  obtain ⟨n, e, e1, _, Z⟩ := hh
  obtain ⟨e2, k, f⟩ := hx_hu h.E h.ua n
  obtain ⟨a1, a2, a3⟩ := hx_end h.E h.ua Z.no e1
  obtain ⟨g1, g2⟩ := hx_ci h.E h.ua h.ci h.sa n
  exact ⟨n, _, _, e, ⟨Z.jm, Z.hb, hb_far h.B (fun z => h.ne z.symm) j.mm Z.kp, Z.hi, h.bi, h.oa, h.ob, h.ne, e2, k, f t h.ub, g1, g2, h.sb⟩, a1, a3, Z.kp⟩
/-- A level has the mark only if the levels above have. -/
def Uc (c : Cfg) (T X : Int) (cs : List Int) : Prop := ∀ L, 0 ≤ L → L + 1 < T → mkB (fd c cs X (6 + L)) = true → mkB (fd c cs X (6 + (L + 1))) = true
theorem Uc.step (E : En c T X cs) (h : HU c T X cs s) (u : Uc c T X cs) : Uc c T X (hC c cs s) := by
  intro L l0 l1 hm
  have mo := hC_mo E h
  by_cases e : s.ph = 2 ∧ L = s.lv
  · exact mo (L + 1) (by omega) l1 (h.up (Or.inr e.1) (L + 1) (by omega) l1)
  · refine mo (L + 1) (by omega) l1 (u L l0 l1 ?_)
    unfold fd at hm ⊢
    rw [hC_rd E h] at hm
    rw [if_neg] at hm
    · exact hm
    · rintro ⟨h2, h3, _⟩
      have l := h.lv (Or.inr h2)
      exact e ⟨h2, by have := (cl_inj (E.has l0 (by omega)) (E.has l.1 l.2) h3).2; omega⟩
end
end K
end Go.Proofs.YtjbdaejkofkcpaaDoor
