/-
  In which order events happened: the program's, whole.
-/
import Derived.Test.YtlmkcakmeldfeaaHOrder
import Derived.Test.YtlmkcakmeldfeaaHOrdP
namespace Go.Proofs.Ytlmkcakmeldfeaa.Q
set_option maxRecDepth 100000
open Go.RowKit
open Go.Deep
theorem happened_at (e : Ev) (b : Bool) (hb : hpB e = b) (w : World) : Calls Try.prog 24 #[.agg (evA e)] w fun o w' => o = .returned (.bool b) ∧ Kept [] w w' := by subst hb; exact happened_any e w
set_option maxHeartbeats 2000000 in
theorem order_any (ao : Option Addr) (es : List Ev) (n cap : Nat) (w : World) (hn : n = es.length) (hs : SlV w ao es) (hl : n ≤ 1000) :
    Calls Try.prog 11 #[.slice ao n cap] w fun o w' => OrdP w es o w' := by
  have HN : Hid _ := hn
  have K0 := (Kept.refl [] w).alloc (.cells #[.slice ao n cap] 27)
  have Z0 := blk_alloc_new w (.cells #[.slice ao n cap] 27)
  have B0 : Hid (∀ ad, ao = some ad → 0 < es.length → ad.block < w.heap.size) := fun ad e h => by
    obtain ⟨b, off, e2, hb, _⟩ := hs h
    rw [e] at e2; cases e2; exact hb
  clear hn
  go_enter Try.func11, Try.ntmps11
  go_wp2
  obtain ⟨L, hL⟩ : ∃ L, L = w.heap.size := ⟨_, rfl⟩
  rw [← hL] at Z0 ⊢
  refine gen_world (fun W => W.heap[L]? = some (.cells #[.slice ao n cap] 27 (0, 0)) ∧ Kept [] w W ∧ L < W.heap.size) ⟨Z0, K0, lt_of_blk Z0⟩ ?_
  clear Z0 K0
  rintro W ⟨Z0, K0, LT⟩
  have HL : Hid (L = w.heap.size) := hL
  clear hL
  have HS : Hid (SlV W ao es) := hs.new K0
  clear hs
  go_loopw [3, 8] (fun o i wr => ∃ k : Nat, k ≤ n ∧ i = .int .i64 k ∧ OwnV 1 iC wr W.heap.size 3 o (hapd es k) ∧ Kept [] W wr) (fun _ i _ => n - (intOf i).toNat)
  case atStart => exact ⟨0, Nat.zero_le _, rfl, OwnV.nil _ _ _, Kept.refl _ _⟩
  case round =>
    obtain ⟨k, hk, rfl, O, K⟩ := hrel
    by_cases hlt : k < n
    · have hkx : k < es.length := by have := HN.out; omega
      obtain ⟨b1, o1, e1, _, r0⟩ := SlV.row (HS.out.new K) hkx
      have HT : Hid _ := hapd_succ es k
      have HLen : Hid _ := hapd_len es k
      obtain ⟨x, hx⟩ : ∃ x, evAt es k = x := ⟨_, rfl⟩
      rw [show es.getD k evZ = x from hx] at r0
      rw [hx] at HT
      rw [e1]
      have LX := KW.cell (cell_of_blk (K.blk Z0 (by simp)) (i := 0) rfl)
      cases hb : hpB x
      · have hc := happened_at x false hb
        rw [hb] at HT
        clear hx hb
        go_wp2_with (first
          | ((with_reducible change wpList _ _ _ (Oper.mk _ (Op.load 53 (Operand.tmp 11)) _ _ _ _ :: _) _ _); refine wpList_load_g 53 isEv_hist rfl (.tmp 11) rfl b1 (o1 + k * 14) rfl x r0 ?_)
          | ((with_reducible change wpList _ _ _ (Oper.mk _ (Op.store 53 _ _) _ _ _ _ :: _) _ _); refine wpList_store_ev 53 isEv_hist rfl (.tmp 5) (.tmp 12) rfl _ rfl rfl x rfl ?_)
          | ((with_reducible change wpList _ _ _ (Oper.mk _ (Op.load 53 (Operand.tmp 5)) _ _ _ _ :: _) _ _); refine wpList_load_g 53 isEv_hist rfl (.tmp 5) rfl wr.heap.size 0 rfl x (EB.new 53 wr x).range ?_)
          | (go_at_call 24; refine (hc _).mono ?_; rintro o w1 ⟨rfl, K1⟩))
        go_roundw
        case rel => exact ⟨k + 1, by omega, by go_num, by rw [HT.out]; exact (O.new ((Kept.refl [] wr).alloc _)).new K1, (K.alloc _).trans K1⟩
        case measure => simp [intOf]; omega
      · have hc := happened_at x true hb
        rw [hb] at HT
        clear hx hb
        go_wp2_with (first
          | ((with_reducible change wpList _ _ _ (Oper.mk _ (Op.load 53 (Operand.tmp 11)) _ _ _ _ :: _) _ _); refine wpList_load_g 53 isEv_hist rfl (.tmp 11) rfl b1 (o1 + k * 14) rfl x r0 ?_)
          | ((with_reducible change wpList _ _ _ (Oper.mk _ (Op.store 53 _ _) _ _ _ _ :: _) _ _); refine wpList_store_ev 53 isEv_hist rfl (.tmp 5) (.tmp 12) rfl _ rfl rfl x rfl ?_)
          | ((with_reducible change wpList _ _ _ (Oper.mk _ (Op.load 53 (Operand.tmp 5)) _ _ _ _ :: _) _ _); refine wpList_load_g 53 isEv_hist rfl (.tmp 5) rfl wr.heap.size 0 rfl x (EB.new 53 wr x).range ?_)
          | (go_at_call 24; refine (hc _).mono ?_; rintro o w1 ⟨rfl, K1⟩
             have KT := (K.alloc (.cells (evA x) 53)).trans K1
             have O1 := (O.new ((Kept.refl [] wr).alloc (.cells (evA x) 53))).new K1
             obtain ⟨g, cp, w2, hap, O2, _, K2⟩ := append_int 25 w1 W.heap.size w1.heap.size _ (hapd es k) k rfl O1 KT.size (by have := HLen.out; omega)
             have T2 := Kept.ofOwnV KT O1 (Nat.le_refl _) K2
             have HO : Hid _ := And.intro O2 T2
             clear O2 T2 K2 O1 KT)
          | (at_builtin; refine wpList_append_run rfl (.tmp 15) (.tmp 17) 25 rfl rfl rfl hap ?_))
        go_roundw
        case rel => exact ⟨k + 1, by omega, by go_num, by rw [HT.out]; exact HO.out.1, HO.out.2⟩
        case measure => simp [intOf]; omega
    · have e2 : k = es.length := by have := HN.out; omega
      rw [e2] at O
      have hc := isort_any (cap := cap) wr W.heap.size _ HN.out (HS.out.new K) (K.blk Z0 (by simp)) O LT (fun ad e h => Nat.lt_of_lt_of_le (B0.out ad e h) K0.size) hl
      have OB := O.base
      go_wp2_with fail
      refine hc.mono ?_
      rintro o w2 ⟨rfl, ord, bo, c', rfl, I1, S1, _, _, K2⟩
      clear hc
      have KT := K.then K2 (by intro x hx; right; have := (OB x (by simpa using hx)).1; omega)
      have HI : Hid (IsOrd es ord ∧ SlI w2 bo ord ∧ Kept [] w w2) := ⟨I1, S1, K0.trans KT⟩
      clear I1 S1 K2 KT OB O
      go_wp2
      go_ret
      exact OrdP.mk ord bo _ c' rfl rfl HI.out.1 HI.out.2.1 HI.out.2.2
end Go.Proofs.Ytlmkcakmeldfeaa.Q
