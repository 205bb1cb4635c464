/-
  Two finds that are done tell the same; the clock goes on; how often it did.
-/
import Derived.Test.YtgnkgkbjjeipbaaDoorFOver
namespace Go.Proofs.YtgnkgkbjjeipbaaDoor
open Go.RowKit (Grown Hid Below)
open Go.Deep
namespace K
set_option maxRecDepth 100000
theorem enV_map (n : Nat) (u : Nat → Int) {L : Nat} (hL : L < n) : enV true ((List.range n).map u) L = u (n - 1 - L) := by
  unfold enV
  rw [if_pos ⟨rfl, by omega, by simp; omega⟩]
  simp only [List.length_map, List.length_range, Int.toNat_natCast]
  rw [List.getD_eq_getElem?_getD, List.getElem?_map, List.getElem?_range (by omega)]; rfl
theorem Iv.tells {c : Cfg} {l : Nd} {k : Int} {cs : List Int} {f : Fm} {N : Nat → Nat → Nat} {rp rs : Nat → Nat} {pp : Nat} (h : Iv c l k cs f N rp rs pp) (hd : f.d = true) {L : Nat} (hL : L < HN c) :
    enV true f.ps L = hw (rp (HN c - 1 - L)) ∧ enV true f.ss L = nw l.n (rs (HN c - 1 - L)) false ∧ enV true f.ks L = if rs (HN c - 1 - L) ≤ l.n then l.K (rs (HN c - 1 - L)) else 0 := by
  have hdn := h.done hd
  rw [h.ps, h.ss, h.ks, hdn]
  exact ⟨enV_map _ _ hL, enV_map _ _ hL, enV_map _ _ hL⟩
theorem Iv.noted {c : Cfg} {l : Nd} {k : Int} {cs : List Int} {f : Fm} {N : Nat → Nat → Nat} {rp rs : Nat → Nat} {pp : Nat} (h : Iv c l k cs f N rp rs pp) (hd : f.d = true) {L : Nat} (hL : L < HN c) :
    Rs l k N L (stt rp (HN c - 1 - L)) (rp (HN c - 1 - L)) (rs (HN c - 1 - L)) := by
  have hdn := h.done hd
  have r := h.res (HN c - 1 - L) (by omega)
  rw [show HN c - 1 - (HN c - 1 - L) = L by omega] at r
  exact r
theorem Iv.same {c : Cfg} {l : Nd} {k : Int} {cs cs' : List Int} {f f' : Fm} {N N' : Nat → Nat → Nat} {rp rs rp' rs' : Nat → Nat} {pp pp' : Nat} (ok : l.ok c) (h : Iv c l k cs f N rp rs pp) (h' : Iv c l k cs' f' N' rp' rs' pp') (hd : f.d = true) (hd' : f'.d = true) {L : Nat} (hL : L < HN c) :
    enV true f.ps L = enV true f'.ps L ∧ enV true f.ss L = enV true f'.ss L ∧ enV true f.ks L = enV true f'.ks L := by
  obtain ⟨a1, a2, a3⟩ := h.tells hd hL
  obtain ⟨b1, b2, b3⟩ := h'.tells hd' hL
  obtain ⟨e1, e2⟩ := (h.noted hd hL).same ok h.sk h'.sk (h'.noted hd' hL)
  rw [a1, a2, a3, b1, b2, b3, e1, e2]
  exact ⟨rfl, rfl, rfl⟩
theorem wds_tick {cs : List Int} (h : Wds cs) : Wds (clV cs 4 0 0 1) := by
  unfold Go.Proofs.YtgnkgkbjjeipbaaDoor.clV; split
  · refine wds_set h _ ?_
    unfold bhV isW
    simp only [add64, IntKind.wrap_u64]
    simp
    omega
  · exact h
section
variable {base : Nat} {w0 w w' : World} {b gb m p r : Nat} {c : Cfg} {g : Gs} {f : Fm} {cs : List Int} {cnt : Int} {a : Acc}
theorem Fw.tick (h : Fw base w0 w b gb m p r c g f cs cnt a) (c1 : cnt < 4611686018427387904) :
    Calls Tryd.prog 34 #[.pointer (some ⟨m, 0, none⟩)] w fun e w' => ∃ v a', e = .returned (.int .u64 v) ∧ Fw base w0 w' b gb m p r c g f (clV cs 4 0 0 1) (cnt + 1) a' ∧ Kept [p, r] w w' :=
  (mtick_any m p r c cs cnt a w h.st.mm h.n0 c1).mono fun _ w' hh => by
    obtain ⟨e, M, K⟩ := hh
    have nm := fs_nm h.st.fs h.st.mm
    have gm := h.st.gd.nm h.st.mm
    have KK : Kept [] w0 w' := h.kp.then K (by have := h.op; have := h.ow; simp; omega)
    refine ⟨_, _, e, ⟨⟨h.st.R, h.st.fs.kept K (by simp; omega) (fun g3 _ he => by
      obtain ⟨A, hA⟩ := he
      have n1 := blk_ne (T1 := 82) hA h.st.mm.bk.st (by decide)
      have n2 := blk_ne (T1 := 82) hA h.st.mm.bk.row (by decide)
      simp; omega), h.st.gd.kept K (by simp; omega), M, h.t0.kept KK, h.st.fi, wds_tick h.st.wd, h.st.u0, h.st.u1, h.st.g0, Nat.le_trans h.st.bs K.size⟩, KK, h.ob, h.og, h.op, h.ow, h.os, by have := h.n0; omega, h.t0⟩, K⟩
end
theorem AlS.tick {w0 w w' : World} {b gb m p r : Nat} {c : Cfg} {l : Nd} {k T left most : Int} {g : Gs} {f : Fm} {cs : List Int} {cnt : Int} {a a' : Acc} {N : Nat → Nat → Nat} {rp rs : Nat → Nat} {pp : Nat} (h : AlS w0 w b gb m p r c l k T left most g f cs cnt a N rp rs pp) (Z : Fw w0.heap.size w0 w' b gb m p r c g f (clV cs 4 0 0 1) (cnt + 1) a') : AlS w0 w' b gb m p r c l k (T - 1) left (most + 1) g f (clV cs 4 0 0 1) (cnt + 1) a' N rp rs pp := by
  obtain ⟨I, le⟩ := mu_tick h.iv g (T := T - 1)
  refine ⟨Z, I, by rw [clV_len]; exact h.ln, ?_, by have := h.ct; omega⟩
  rcases h.mu with q | q
  · exact Or.inl q
  · rw [show T - 1 + 1 = T by omega] at le
    exact Or.inr (by omega)
theorem AlS.go {w0 w w' : World} {b gb m p r : Nat} {c : Cfg} {l : Nd} {k T left most : Int} {g : Gs} {f : Fm} {cs : List Int} {cnt : Int} {a a' : Acc} {N : Nat → Nat → Nat} {rp rs : Nat → Nat} {pp : Nat} (ok : l.ok c) (hr : riB c = true) (hT : 0 ≤ T) (h : AlS w0 w b gb m p r c l k T left most g f cs cnt a N rp rs pp) (Z : Fw w0.heap.size w0 w' b gb m p r c (fG c g f) (fF c cs cnt g f) (fC c cs g f) (fN cnt f) a') : ∃ N' rp' rs' p', AlS w0 w' b gb m p r c l k T (left - 1) (most + 1) (fG c g f) (fF c cs cnt g f) (fC c cs g f) (fN cnt f) a' N' rp' rs' p' := by
  cases hd : f.d with
  | false => exact h.next ok hr hT hd Z
  | true =>
    obtain ⟨e1, e2, e3⟩ := fF_done (c := c) (cs := cs) (cnt := cnt) (g := g) hd
    have e4 : fN cnt f = cnt := if_pos hd
    rw [e1, e2, e3, e4] at Z ⊢
    exact ⟨N, rp, rs, pp, Z, h.iv, h.ln, Or.inl hd, by have := h.ct; omega⟩
theorem AlS.re {w0 w : World} {b gb m p r : Nat} {c : Cfg} {l : Nd} {k T left most T' left' most' : Int} {g : Gs} {f : Fm} {cs : List Int} {cnt : Int} {a : Acc} {N : Nat → Nat → Nat} {rp rs : Nat → Nat} {pp : Nat} (h : AlS w0 w b gb m p r c l k T left most g f cs cnt a N rp rs pp) (e1 : T = T') (e2 : left = left') (e3 : most = most') : AlS w0 w b gb m p r c l k T' left' most' g f cs cnt a N rp rs pp := by subst e1 e2 e3; exact h
theorem AlS.new {w0 w w' : World} {b gb m p r : Nat} {c : Cfg} {l : Nd} {k T left most : Int} {g : Gs} {f : Fm} {cs : List Int} {cnt : Int} {a : Acc} {N : Nat → Nat → Nat} {rp rs : Nat → Nat} {pp : Nat} (h : AlS w0 w b gb m p r c l k T left most g f cs cnt a N rp rs pp) (kk : Kept [] w w') : AlS w0 w' b gb m p r c l k T left most g f cs cnt a N rp rs pp := ⟨h.fw.new kk, h.iv, h.ln, h.mu, h.ct⟩
theorem iw_row {w : World} {ao : Option Addr} {ts : List Int} (h : SlOf 1 iwC w ao ts) {k : Nat} (hk : k < ts.length) : ∃ b off, ao = some ⟨b, off, none⟩ ∧ b < w.heap.size ∧ w.cell? ⟨b, off + k, none⟩ = some (.int .i64 (ts.getD k 0)) := by
  obtain ⟨b, off, rfl, hb, hc⟩ := h (by omega)
  have e : ts.getD k 0 = ts[k] := by simp [hk]
  rw [e]
  have z := hc k hk 0 _ rfl
  rw [Nat.mul_one, Nat.add_zero] at z
  exact ⟨b, off, rfl, hb, z⟩
/-- How often the clock has gone on: ahead of the step k; and in it, of the first i. -/
def tkN (ts : List Int) (k : Nat) : Nat := ts.countP (fun t : Int => decide (0 ≤ t ∧ t < (k : Int)))
def tkI (ts : List Int) (k i : Nat) : Nat := (ts.take i).countP (fun t => decide (t = (k : Int)))
theorem tk_next (k : Nat) : ∀ ts : List Int, tkN ts (k + 1) = tkN ts k + ts.countP (fun t => decide (t = (k : Int)))
  | [] => rfl
  | t :: ts => by
    have ih := tk_next k ts
    unfold tkN at ih ⊢
    rw [List.countP_cons, List.countP_cons, List.countP_cons, ih]
    by_cases h1 : t = (k : Int)
    · rw [if_pos (by simp; omega), if_neg (by simp; omega), if_pos (by simp [h1])]; omega
    · by_cases h2 : 0 ≤ t ∧ t < (k : Int)
      · rw [if_pos (by simp; omega), if_pos (by simp; omega), if_neg (by simp [h1])]; omega
      · rw [if_neg (by simp; omega), if_neg (by simp; omega), if_neg (by simp [h1])]; omega
theorem tk_full (ts : List Int) (k i : Nat) (h : ts.length ≤ i) : tkN ts k + tkI ts k i = tkN ts (k + 1) := by
  unfold tkI; rw [List.take_of_length_le h, tk_next]
theorem tk_le (ts : List Int) (k i : Nat) : tkN ts k + tkI ts k i ≤ ts.length := by
  have h1 : tkI ts k i ≤ ts.countP (fun t => decide (t = (k : Int))) := (List.take_sublist i ts).countP_le
  have h2 := tk_next k ts
  have h3 : tkN ts (k + 1) ≤ ts.length := List.countP_le_length
  omega
theorem tk_step (ts : List Int) (k i : Nat) (h : i < ts.length) : tkI ts k (i + 1) = tkI ts k i + if ts.getD i 0 = (k : Int) then 1 else 0 := by
  unfold tkI
  have e : ts.getD i 0 = ts[i] := by simp [h]
  rw [List.take_succ_eq_append_getElem h, List.countP_append, List.countP_singleton, e]
  simp
end K
end Go.Proofs.YtgnkgkbjjeipbaaDoor
