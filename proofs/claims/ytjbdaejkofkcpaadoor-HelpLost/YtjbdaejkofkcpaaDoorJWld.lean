/-
  The words, made behind w0, and a help's steps over them; a help that goes on to its end.
-/
import Derived.Test.YtjbdaejkofkcpaaDoorJSt
namespace Go.Proofs.YtjbdaejkofkcpaaDoor
open Go.RowKit (Grown Hid Below intOf)
open Go.Deep
namespace K
set_option maxRecDepth 100000
structure Jm (w0 w : World) (m p r : Nat) (c : Cfg) (cs : List Int) (cnt : Int) (a : Acc) : Prop where
  mm : Mm w m p r c cs cnt a
  kp : Kept [] w0 w
  tb : Tab w0
  om : w0.heap.size ≤ m
  op : w0.heap.size ≤ p
  ow : w0.heap.size ≤ r
  R : Rt c
  wd : Wds cs
  n0 : 0 ≤ cnt
section
variable {w0 w w' : World} {b m p r : Nat} {c : Cfg} {cs : List Int} {cnt : Int} {a : Acc} {s : Hm}
theorem Jm.new (h : Jm w0 w m p r c cs cnt a) (k : Kept [] w w') : Jm w0 w' m p r c cs cnt a :=
  ⟨h.mm.new k, h.kp.trans k, h.tb, h.om, h.op, h.ow, h.R, h.wd, h.n0⟩
theorem Jm.tab (h : Jm w0 w m p r c cs cnt a) : Tab w := h.tb.kept h.kp
/-- What is done to blocks that are none of the words'. -/
theorem Jm.far {l : List Nat} (h : Jm w0 w m p r c cs cnt a) (k : Kept l w w') (hl : ∀ x ∈ l, w0.heap.size ≤ x) (hm : m ∉ l) (hp : p ∉ l) (hr : r ∉ l) : Jm w0 w' m p r c cs cnt a :=
  ⟨h.mm.kept k hm hp hr, h.kp.then k (fun x hx => by have := hl x hx; omega), h.tb, h.om, h.op, h.ow, h.R, h.wd, h.n0⟩
theorem Jm.step (h : Jm w0 w m p r c cs cnt a) (hB : HB w b s) (hb : w0.heap.size ≤ b) (hI : HI c s) (c1 : cnt < 4611686018427387904) :
    Calls Tryd.prog 13 #[.pointer (some ⟨b, 0, none⟩), .pointer (some ⟨m, 0, none⟩)] w fun e w' => e = .returned (.tuple #[]) ∧ Jm w0 w' m p r c (hC c cs s) (hN cnt s) (hA c cs a s) ∧ HB w' b (hF c cs s) ∧ Kept [b, p, r] w w' :=
  (hstep_any b m p r c cs cnt a s w (by have := h.tb.pos; omega) hB h.mm h.tab h.R hI h.wd h.n0 c1).mono fun _ w' hh => by
    obtain ⟨e, B, M, K⟩ := hh
    have KK : Kept [] w0 w' := h.kp.then K (by have := h.op; have := h.ow; intro x hx; simp at hx; omega)
    refine ⟨e, ⟨M, KK, h.tb, h.om, h.op, h.ow, h.R, hC_wd h.wd hI, ?_⟩, B, K⟩
    have := h.n0
    unfold hN; split <;> omega
theorem Jm.load (h : Jm w0 w m p r c cs cnt a) (x fl : Int) (hx : isW x) (c1 : cnt < 4611686018427387904) :
    Calls Tryd.prog 30 #[.pointer (some ⟨m, 0, none⟩), .int .u64 x, .int .i64 fl] w fun e w' => ∃ a', e = .returned (.int .u64 (fd c cs (ixV x) fl)) ∧ Jm w0 w' m p r c cs (cnt + 1) a' ∧ Kept [p, r] w w' :=
  (mload_any m p r c cs cnt a x fl w h.mm h.tab hx.1 hx.2 h.n0 c1).mono fun _ w' hh => by
    obtain ⟨e, M, K⟩ := hh
    rw [show clV cs 1 (clV' c (ixV x) fl) 0 0 = cs from clV_load _ _ _ _] at M
    rw [ld_o] at e
    exact ⟨_, e, ⟨M, h.kp.then K (by have := h.op; have := h.ow; intro x hx; simp at hx; omega), h.tb, h.om, h.op, h.ow, h.R, h.wd, by have := h.n0; omega⟩, K⟩
theorem Jm.store (h : Jm w0 w m p r c cs cnt a) (x fl v : Int) (hx : isW x) (hv : isW v) (c1 : cnt < 4611686018427387904) :
    Calls Tryd.prog 31 #[.pointer (some ⟨m, 0, none⟩), .int .u64 x, .int .i64 fl, .int .u64 v] w fun e w' => ∃ a', e = .returned (.tuple #[]) ∧ Jm w0 w' m p r c (clV cs 2 (clV' c (ixV x) fl) 0 v) (cnt + 1) a' ∧ Kept [p, r] w w' :=
  (mstore_any m p r c cs cnt a x fl v w h.mm h.tab hx.1 hx.2 h.n0 c1).mono fun _ w' hh => by
    obtain ⟨e, M, K⟩ := hh
    exact ⟨_, e, ⟨M, h.kp.then K (by have := h.op; have := h.ow; intro x hx; simp at hx; omega), h.tb, h.om, h.op, h.ow, h.R, wds_clV h.wd 2 _ _ (by decide) hv, by have := h.n0; omega⟩, K⟩
theorem Jm.bank (h : Jm w0 w m p r c cs cnt a) : Calls Tryd.prog 20 #[.pointer (some ⟨m, 0, none⟩)] w fun e w' => e = .returned (.pointer (some ⟨p, 0, none⟩)) ∧ w' = w := bank_any m p r c cs cnt a w h.mm
theorem Jm.count (h : Jm w0 w m p r c cs cnt a) : Calls Tryd.prog 24 #[.pointer (some ⟨p, 0, none⟩)] w fun e w' => e = .returned (.int .i64 cnt) ∧ w' = w := count_any p r cs cnt a w h.mm.bk
theorem Jm.cells (h : Jm w0 w m p r c cs cnt a) : Calls Tryd.prog 21 #[.pointer (some ⟨p, 0, none⟩)] w fun e w' => ∃ q, e = .returned (.slice (some ⟨q, 0, none⟩) cs.length cs.length) ∧ (¬ q = r ∧ w.heap.size ≤ q) ∧ Row w' q cs ∧ Kept [] w w' :=
  (cells_any p r cs cnt a w h.mm.bk).mono fun _ _ hh => ⟨_, hh.1, ⟨by have := lt_of_blk h.mm.bk.row; omega, Nat.le_refl _⟩, hh.2.1, hh.2.2⟩
end
theorem hx_hi {c : Cfg} {cs : List Int} {s : Hm} (R : Rt c) (hw : Wds cs) (h : HI c s) : ∀ n, HI c (hx c n (s, cs)).1 ∧ Wds (hx c n (s, cs)).2
  | 0 => ⟨h, hw⟩
  | n + 1 => by
    obtain ⟨a, b⟩ := hx_hi R hw h n
    exact ⟨a.step R b, hC_wd b a⟩
theorem hx_len (c : Cfg) (cs : List Int) (s : Hm) : ∀ n, (hx c n (s, cs)).2.length = cs.length
  | 0 => rfl
  | n + 1 => (hC_len _ _ _).trans (hx_len c cs s n)
/-- Blocks that a step leaves as they were: the configuration's, another help's. -/
theorem rw_ne12 {T1 T2 : TypeId} {w : World} {b c : Nat} {A B : Array Value} (h1 : RW T1 w b A) (h2 : RW T2 w c B) (hT : T1 ≠ T2) : ¬ b = c := fun e => by
  unfold RW at h1 h2
  rw [e, h2] at h1; simp at h1; exact hT h1.2.symm
theorem cf_far {w w' : World} {q b m p r : Nat} {A : Array Value} {s : Hm} {c : Cfg} {cs : List Int} {cnt : Int} {a : Acc} (h : RW 23 w q A) (B : HB w b s) (M : Mm w m p r c cs cnt a) (k : Kept [b, p, r] w w') : RW 23 w' q A := by
  have n1 := rw_ne12 h (show RW 86 w b _ from B) (by decide)
  have n2 := rw_ne12 h (show RW _ w p _ from M.bk.st) (by decide)
  have n3 := rw_ne12 h (show RW _ w r _ from M.bk.row) (by decide)
  exact h.kept k (by simp; omega)
theorem cf_load {w w' : World} {q m p r : Nat} {A : Array Value} {c : Cfg} {cs : List Int} {cnt : Int} {a : Acc} (h : RW 23 w q A) (M : Mm w m p r c cs cnt a) (k : Kept [p, r] w w') : RW 23 w' q A := by
  have n2 := rw_ne12 h (show RW _ w p _ from M.bk.st) (by decide)
  have n3 := rw_ne12 h (show RW _ w r _ from M.bk.row) (by decide)
  exact h.kept k (by simp; omega)
theorem hb_far {w w' : World} {d b m p r : Nat} {t : Hm} {c : Cfg} {cs : List Int} {cnt : Int} {a : Acc} (h : HB w d t) (hn : ¬ d = b) (M : Mm w m p r c cs cnt a) (k : Kept [b, p, r] w w') : HB w' d t := by
  obtain ⟨n1, n2, n3⟩ := HBk.nm h M
  exact h.kept k (by simp; omega)
theorem hb_load {w w' : World} {d m p r : Nat} {t : Hm} {c : Cfg} {cs : List Int} {cnt : Int} {a : Acc} (h : HB w d t) (M : Mm w m p r c cs cnt a) (k : Kept [p, r] w w') : HB w' d t := by
  obtain ⟨n1, n2, n3⟩ := HBk.nm h M
  exact h.kept k (by simp; omega)
/-- A row of one's own, behind the words' row. -/
theorem row_far {w w' : World} {g b m p r : Nat} {xs : List Int} {s : Hm} {c : Cfg} {cs : List Int} {cnt : Int} {a : Acc} (h : Row w g xs) (hn : ¬ g = r) (B : HB w b s) (M : Mm w m p r c cs cnt a) (k : Kept [b, p, r] w w') : Row w' g xs := by
  have n1 := rw_ne12 (show RW _ w g _ from h) (show RW _ w b _ from B) (by decide)
  have n2 := rw_ne12 (show RW _ w g _ from h) (show RW _ w p _ from M.bk.st) (by decide)
  exact h.kept k (by simp; omega)
/-- Two worlds' words: a step over the one leaves the other. -/
theorem Jm.other {w0 w w' : World} {b m p r m' p' r' : Nat} {c : Cfg} {cs ds : List Int} {cnt cnt' : Int} {a a' : Acc} {s : Hm} (h : Jm w0 w m p r c cs cnt a) (g : Jm w0 w m' p' r' c ds cnt' a') (B : HB w b s) (hb : w0.heap.size ≤ b) (n1 : ¬ p = p') (n2 : ¬ r = r') (k : Kept [b, p', r'] w w') : Jm w0 w' m p r c cs cnt a := by
  obtain ⟨b1, b2, b3⟩ := HBk.nm B h.mm
  have e1 := rw_ne12 (show RW _ w p _ from h.mm.bk.st) (show RW _ w r' _ from g.mm.bk.row) (by decide)
  have e2 := rw_ne12 (show RW _ w r _ from h.mm.bk.row) (show RW _ w p' _ from g.mm.bk.st) (by decide)
  have e3 := rw_ne12 (show RW _ w m _ from h.mm.st) (show RW _ w r' _ from g.mm.bk.row) (by decide)
  have e4 := rw_ne12 (show RW _ w m _ from h.mm.st) (show RW _ w p' _ from g.mm.bk.st) (by decide)
  exact h.far k (by have := g.op; have := g.ow; intro x hx; simp at hx; omega) (by simp; omega) (by simp; omega) (by simp; omega)
/-- A help that goes on, so many steps at most. -/
structure Jr (w0 w wr : World) (b m p r : Nat) (c : Cfg) (s : Hm) (cs : List Int) (cnt : Int) (n : Nat) : Prop where
  jm : ∃ a, Jm w0 wr m p r c (hx c n (s, cs)).2 (cnt + n) a
  hb : HB wr b (hx c n (s, cs)).1
  hi : HI c (hx c n (s, cs)).1
  no : ∀ j, j < n → ¬ (hx c j (s, cs)).1.ph = 3
  kp : Kept [b, p, r] w wr
set_option maxHeartbeats 4000000 in
theorem ends_any (w0 w : World) (b m p r : Nat) (c : Cfg) (s : Hm) (cs : List Int) (cnt : Int) (a : Acc) (k : Nat) (J : Jm w0 w m p r c cs cnt a) (B : HB w b s) (hb : w0.heap.size ≤ b) (hI : HI c s) (c1 : cnt < 1000000) (hk : k ≤ 100) :
    Calls Tryd.prog 19 #[.pointer (some ⟨b, 0, none⟩), .pointer (some ⟨m, 0, none⟩), .int .i64 k] w fun e w' => ∃ n : Nat, e = .returned (.int .i64 n) ∧ ((hx c n (s, cs)).1.ph = 3 ∨ n = k) ∧ n ≤ k ∧ Jr w0 w w' b m p r c s cs cnt n := by
  have HJ0 : Hid (Jr w0 w w b m p r c s cs cnt 0) := hidOf ⟨⟨a, by show Jm w0 w m p r c cs (cnt + ((0 : Nat) : Int)) a; simpa using J⟩, B, hI, fun j hj => absurd hj (Nat.not_lt_zero _), Kept.refl _ _⟩
  clear J B hI
  go_enter Tryd.func19, Tryd.ntmps19
  go_wp2
  go_loopw [9] (fun s9 wr => ∃ i : Nat, i ≤ k ∧ s9 = .int .i64 i ∧ Jr w0 w wr b m p r c s cs cnt i) (fun s9 _ => k - (intOf s9).toNat)
  case atStart => exact ⟨0, by omega, by first | rfl | go_num, HJ0.out⟩
  case round =>
    clear HJ0
    obtain ⟨i, hi, rfl, Z⟩ := hrel
    have HZ := hidOf Z
    clear Z
    by_cases hlt : i < k
    · have hltz : (i : Int) < (k : Int) := by omega
      have DN := hidOf (hdone_any b (hx c i (s, cs)).1 wr HZ.out.hb HZ.out.hi.ph)
      by_cases h3 : (hx c i (s, cs)).1.ph = 3
      · rw [show decide ((hx c i (s, cs)).1.ph = 3) = true from decide_eq_true h3] at DN
        have H3 := hidOf h3
        clear h3
        go_wp2_with fail
        refine DN.out.mono ?_
        rintro e w1 ⟨rfl, rfl⟩
        go_wp2
        go_ret
        exact ⟨i, rfl, Or.inl H3.out, by omega, HZ.out⟩
      · rw [show decide ((hx c i (s, cs)).1.ph = 3) = false from decide_eq_false h3] at DN
        have H3 := hidOf h3
        clear h3
        obtain ⟨a1, ja⟩ := HZ.out.jm
        have ST := hidOf (ja.step HZ.out.hb hb HZ.out.hi (by omega))
        have HR := hidOf ja.R
        have HW := hidOf ja.wd
        clear ja
        go_wp2_with fail
        refine DN.out.mono ?_
        rintro e w1 ⟨rfl, rfl⟩
        go_wp2_with fail
        refine ST.out.mono ?_
        rintro e w2 ⟨rfl, J2, B2, K2⟩
        have HN : Hid (Jr w0 w w2 b m p r c s cs cnt (i + 1)) := hidOf (by
          have e : hN (cnt + (i : Int)) (hx c i (s, cs)).1 = cnt + ((i + 1 : Nat) : Int) := by rw [hN_no HZ.out.hi.ph H3.out]; omega
          rw [e] at J2
          refine ⟨⟨_, J2⟩, B2, HZ.out.hi.step HR.out HW.out, fun j hj => ?_, HZ.out.kp.trans K2⟩
          by_cases e : j = i
          · rw [e]; exact H3.out
          · exact HZ.out.no j (by omega))
        clear ST J2 B2 K2 DN
        go_wp2
        go_roundw
        case rel => exact ⟨i + 1, by omega, by go_num, HN.out⟩
        case measure => simp [intOf]; omega
    · have hie : i = k := by omega
      have hltz : ¬ (i : Int) < (k : Int) := by omega
      go_wp2
      go_ret
      exact ⟨k, rfl, Or.inr rfl, Nat.le_refl _, hie ▸ HZ.out⟩
/-- A region that ends as it should: what is known behind it is enough. -/
theorem region_key12 {P : Program} {id : Nat} {ops : Array Oper} {d : Bool} {Q : Exit → Act → World → Prop} {a : Act} {w : World} (R : Act → Act → World → Prop) (h1 : (Code.region id ops d).wp P (fun e a' w' => e = .normal ∧ R a a' w') a w) (h2 : ∀ a' w', R a a' w' → Q .normal a' w') : (Code.region id ops d).wp P Q a w :=
  Code.wp_mono (fun e a' w' h => by obtain ⟨rfl, h⟩ := h; exact h2 a' w' h) h1
/-- How many levels: as the law works it out. -/
theorem tl_val {c : Cfg} (R : Rt c) {V T : Int} (h : tlV c V = T - 1) : IntKind.i64.wrap (if IntKind.u64.wrap c.h < if V < 1 then 1 else V then IntKind.u64.wrap c.h else if V < 1 then 1 else V) = T := by
  have h0 := R.h0
  have h1 := R.h1
  have wr : IntKind.u64.wrap c.h = c.h := by rw [IntKind.wrap_u64]; omega
  rw [wr]
  unfold tlV at h
  have e : (if c.h < if V < 1 then 1 else V then c.h else if V < 1 then 1 else V) = T := by
    by_cases a : V < 1
    · simp only [if_pos a] at h ⊢
      split <;> omega
    · simp only [if_neg a] at h ⊢
      split at h
      · rename_i b; rw [if_pos b]; omega
      · rename_i b; rw [if_neg b]; omega
  rw [e]
  have t0 : 1 ≤ T ∧ T ≤ 6 := by
    by_cases a : V < 1
    · rw [if_pos a] at h; omega
    · rw [if_neg a] at h; split at h <;> omega
  rw [IntKind.wrap_i64]; omega
/-- What a help that went on to its end leaves. -/
theorem Jr.fin {w0 w w' : World} {b m p r : Nat} {c : Cfg} {T i : Int} {s : Hm} {cs : List Int} {cnt : Int} {n : Nat} (Z : Jr w0 w w' b m p r c s cs cnt n) (E : En c T i cs) (h : HU c T i cs s) (he : (hx c n (s, cs)).1.ph = 3 ∨ n = 100) :
    ∃ t ds, hx c n (s, cs) = (t, ds) ∧ t.ph = 3 ∧ (n : Int) ≤ hmu c T i cs s ∧ (n : Int) ≤ 13 ∧ En c T i ds ∧ HU c T i ds t ∧ (∃ a, Jm w0 w' m p r c ds (cnt + n) a) ∧ HB w' b t ∧ ds.length = cs.length := by
  obtain ⟨e, k, _⟩ := hx_hu E h n
  obtain ⟨a1, a2, a3⟩ := hx_end E h Z.no he
  exact ⟨_, _, rfl, a1, a2, a3, e, k, Z.jm, Z.hb, hx_len _ _ _ _⟩
end K
end Go.Proofs.YtjbdaejkofkcpaaDoor
