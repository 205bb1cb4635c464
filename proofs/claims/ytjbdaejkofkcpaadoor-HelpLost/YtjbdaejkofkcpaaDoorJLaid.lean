/-
  Nodes that were laid: how tall each is, and its marks.
-/
import Derived.Test.YtjbdaejkofkcpaaDoorJTwo
import Derived.Test.YtjbdaejkofkcpaaDoorFLayW
import Derived.Test.YtjbdaejkofkcpaaDoorMNew
namespace Go.Proofs.YtjbdaejkofkcpaaDoor
open Go.RowKit (Grown Hid Below intOf)
open Go.Deep
namespace K
set_option maxRecDepth 100000
theorem tall_all {c : Cfg} {ns : List Nn} (h : RightN c ns) : ∀ j, j ≤ ns.length → ∀ i : Nat, 1 ≤ i → i ≤ j → fd c (lyAll c ns j) i 4 = (ns.getD (i - 1) nn0).t
  | 0, _, i, a, b => by omega
  | j + 1, hj, i, a, b => by
    have ih := tall_all h j (by omega)
    have ld := Ld.all h j (by omega)
    have hn := h.n
    have hi : ((j + 1 : Nat) : Int) ≤ c.c := by omega
    have ht : (ndOf c ns).tl (j + 1) ≤ HN c := h.ok.tl (j + 1) hj
    have l6 : ((lySix c (ns.getD j nn0) (j + 1) (lyAll c ns j)).length : Int) = lnV c := by rw [lySix_len]; exact ld.len
    have e1 := lyLv_fd (l := ndOf c ns) h.r l6 hi _ ht i 4
    have e2 := lySix_fd (x := ns.getD j nn0) h.r ld.len hi i 4
    rw [if_neg (by omega)] at e1
    have e3 : fd c (lyAll c ns (j + 1)) i 4 = _ := e1.trans e2
    rw [e3]
    by_cases e : i = j + 1
    · subst e
      rw [if_pos (by omega)]; simp
    · rw [if_neg (by omega)]
      exact ih i a (by omega)
theorem En.laid {c : Cfg} {ns : List Nn} (h : RightN c ns) {k : Nat} (hk : k < ns.length) : En c (ns.getD k nn0).t ((k : Int) + 1) (layV c ns) := by
  have b := h.b k hk
  have hn := h.n
  have e : fd c (layV c ns) ((k : Int) + 1) 4 = (ns.getD k nn0).t := by
    have z := tall_all h ns.length (Nat.le_refl _) (k + 1) (by omega) (by omega)
    rw [show ((k + 1 : Nat) : Int) = (k : Int) + 1 by omega, show k + 1 - 1 = k by omega] at z
    exact z
  refine ⟨h.r, (Ld.laid h).len, by omega, by omega, b.1, b.2.1, ?_⟩
  rw [e]; unfold tlV
  rw [if_neg (by have := b.1; omega), if_neg (by have := b.2.1; omega)]
theorem Uc.laid {c : Cfg} {ns : List Nn} (h : RightN c ns) {k : Nat} (hk : k < ns.length) : Uc c (ns.getD k nn0).t ((k : Int) + 1) (layV c ns) := by
  have nl := n_lt (riB_true.1 h.r) h.ok
  have b := h.b k hk
  have mk : ∀ M : Nat, (M : Int) < (ns.getD k nn0).t → mkB (fd c (layV c ns) ((k : Int) + 1) (6 + (M : Int))) = decide ((ndOf c ns).um (k + 1) ≤ M) := fun M hM => by
    have et : (ndOf c ns).tl (k + 1) = (ns.getD k nn0).t.toNat := rfl
    have z := (Ld.laid h).nx (k + 1) M (by omega) hk (by rw [et]; omega)
    rw [show ((k + 1 : Nat) : Int) = (k : Int) + 1 by omega, show ((6 + M : Nat) : Int) = 6 + (M : Int) by omega] at z
    rw [z]; exact nw_mk nl _
  intro L l0 l1 hm
  have e1 : L = ((L.toNat : Nat) : Int) := by omega
  have e2 : L + 1 = (((L + 1).toNat : Nat) : Int) := by omega
  rw [e1, mk _ (by omega)] at hm
  have z := of_decide_eq_true hm
  rw [e2, mk _ (by omega)]
  exact decide_eq_true (by omega)
/-- The calls that lay nodes, and make a world of them. -/
theorem lay_k (c : Cfg) (ns : List Nn) (ao : Option Addr) (n cap : Nat) (W0 W : World) (h : RightN c ns) (hw : ∀ x ∈ ns, x.wf) (hs : SlOf 5 nnL W0 ao ns) (hn : n = ns.length) (k : Kept [] W0 W) :
    Calls Tryd.prog 27 #[.agg #[.int .i64 c.t, .int .i64 c.s, .int .i64 c.c, .int .i64 c.h, .int .i64 c.k, .int .i64 c.e, .int .i64 c.l], .slice ao n cap] W fun e w' => ∃ g c', e = .returned (.slice (some ⟨g, 0, none⟩) (lnN c) c') ∧ RowR w' g (layV c ns) c' ∧ Kept [] W0 w' :=
  (lay_any c ns ao n cap W h hw (hs.new k) hn).mono fun _ _ hh => by
    obtain ⟨g, c', e, _, R, K⟩ := hh
    exact ⟨g, c', e, R, k.trans K⟩
theorem of_k (c : Cfg) (ns : List Nn) (w W0 W : World) (g c' : Nat) (h : RightN c ns) (hw : ∀ x ∈ ns, x.wf) (hR : RowR W g (layV c ns) c') (k0 : Kept [] w W0) (k : Kept [] W0 W) (hT : Tab w) :
    Calls Tryd.prog 26 #[.agg #[.int .i64 c.t, .int .i64 c.s, .int .i64 c.c, .int .i64 c.h, .int .i64 c.k, .int .i64 c.e, .int .i64 c.l], .slice (some ⟨g, 0, none⟩) (lnN c) c'] W fun e w' => ∃ m p r, e = .returned (.tuple #[.pointer (some ⟨m, 0, none⟩), .int .i64 0]) ∧ Jm w w' m p r c (layV c ns) 0 Acc.zero ∧ Kept [] W0 w' :=
  (mof_yes c (some ⟨g, 0, none⟩) (layV c ns) (lnN c) c' W h.r (by rw [lnN_eq]) (by unfold layV; rw [lyAll_len]) hR.sl).mono fun _ _ hh => by
    obtain ⟨m, p, r, e, ⟨h1, h2, h3⟩, M, K⟩ := hh
    have := k0.size
    have := k.size
    exact ⟨m, p, r, e, ⟨M, (k0.trans k).trans K, hT, by omega, by omega, by omega, riB_true.1 h.r, wds_all h hw ns.length (Nat.le_refl _), Int.le_refl _⟩, k.trans K⟩
end K
end Go.Proofs.YtjbdaejkofkcpaaDoor
