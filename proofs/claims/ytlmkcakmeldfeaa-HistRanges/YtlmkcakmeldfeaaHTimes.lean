/-
  At which times the document asks for the map.
-/
import Derived.Test.YtlmkcakmeldfeaaHTimesM
import Derived.Test.YtlmkcakmeldfeaaHROrder
namespace Go.Proofs.Ytlmkcakmeldfeaa.Q
set_option maxRecDepth 100000
open Go.RowKit
open Go.Deep
def zC (x : Int) : List Value := [.int .i64 x]
theorem zC_len (x : Int) : (zC x).length = 1 := rfl
theorem zC_one (x : Int) : ∀ u ∈ zC x, u.oneCell' = true := by intro u hu; simp [zC] at hu; subst hu; rfl
abbrev SlZ := SlOf 1 zC
theorem SlZ.cell {w : World} {ao : Option Addr} {xs : List Int} (h : SlZ w ao xs) {k : Nat} (hk : k < xs.length) : ∃ b off, ao = some ⟨b, off, none⟩ ∧ b < w.heap.size ∧ w.cell? ⟨b, off + k, none⟩ = some (.int .i64 (xs.getD k 0)) := by
  obtain ⟨b, off, rfl, hb, hc⟩ := h (by omega)
  have e : xs.getD k 0 = xs[k] := by simp [hk]
  have := hc k hk 0 _ rfl
  rw [e]
  exact ⟨b, off, rfl, hb, by simpa using this⟩
def tmK (es : List Ev) (e : Ev) (k : Nat) : List Int := tmL (es.take k) e
theorem tmK_len (es : List Ev) (e : Ev) (k : Nat) : (tmK es e k).length ≤ k + 1 := by
  unfold tmK tmL
  have a1 := List.length_filter_le (tmB e) (es.take k)
  rw [List.length_take] at a1
  rw [List.length_cons, List.length_map]; omega
theorem tmK_skip {es : List Ev} {e : Ev} {k : Nat} (hk : k < es.length) (h : tmB e (evAt es k) = false) : tmK es e (k + 1) = tmK es e k := by
  unfold tmK tmL
  rw [take_next hk evZ, List.filter_append, List.filter_cons_of_neg (show ¬ tmB e (es.getD k evZ) = true by rw [show es.getD k evZ = evAt es k from rfl, h]; simp)]
  simp
theorem tmK_take {es : List Ev} {e : Ev} {k : Nat} (hk : k < es.length) (h : tmB e (evAt es k) = true) : tmK es e (k + 1) = tmK es e k ++ [(evAt es k).at_] := by
  unfold tmK tmL
  rw [take_next hk evZ, List.filter_append, List.filter_cons_of_pos (show tmB e (es.getD k evZ) = true from h)]
  simp [evAt]
theorem OwnV.one (w : World) (b g : Nat) (x : Int) (hb : b ≤ g) (h : w.heap[g]? = some (.cells #[.int .i64 x] 3 (0, 0))) : OwnV 1 zC w b 3 (.slice (some ⟨g, 0, none⟩) 1 1) [x] :=
  ⟨by simp [zC], Or.inr ⟨g, 1, #[.int .i64 x], rfl, hb, h, by simp, by decide, by simp, by simp [zC]⟩⟩
def TmP (w : World) (es : List Ev) (e : Ev) (o : Ending) (w' : World) : Prop := ∃ ao m c, o = .returned (.slice ao m c) ∧ m = (tmL es e).length ∧ SlZ w' ao (tmL es e) ∧ Kept [] w w'
theorem TmP.mk {w w' : World} {es : List Ev} {e : Ev} {o : Ending} (ao : Option Addr) (m c : Nat) (h : o = .returned (.slice ao m c)) (h1 : m = (tmL es e).length) (h2 : SlZ w' ao (tmL es e)) (h3 : Kept [] w w') : TmP w es e o w' := ⟨ao, m, c, h, h1, h2, h3⟩
set_option maxHeartbeats 8000000 in
theorem rtimes_any (ao : Option Addr) (es : List Ev) (n cap : Nat) (e : Ev) (w : World) (hn : n = es.length) (hs : SlV w ao es) (hl : n ≤ 1000) :
    Calls Try.prog 55 #[.slice ao n cap, .agg (evA e)] w fun o w' => TmP w es e o w' := by
  have HN : Hid (n = es.length) := hn
  have K0 := ((Kept.refl [] w).alloc (.cells (evA e) 48)).alloc (.cells #[.int .i64 e.bg] 3)
  have Z := EB.new 48 w e
  have c6 := Z.c6
  have ZZ := Z.kept ((Kept.refl [] (w.alloc (.cells (evA e) 48))).alloc (.cells #[.int .i64 e.bg] 3)) (by simp)
  have O0 := OwnV.one ((w.alloc (.cells (evA e) 48)).alloc (.cells #[.int .i64 e.bg] 3)) (w.heap.size + 1) (w.heap.size + 1) e.bg (Nat.le_refl _) (by have := blk_alloc_new (w.alloc (.cells (evA e) 48)) (.cells #[.int .i64 e.bg] 3); rw [nblk_alloc] at this; exact this)
  have HS : Hid (SlV w ao es) := hs
  clear Z hn hs
  go_enter Try.func55, Try.ntmps55
  go_wp2
  clear c6
  refine gen_world (fun W => EB 48 W w.heap.size e ∧ OwnV 1 zC W (w.heap.size + 1) 3 (.slice (some ⟨w.heap.size + 1, 0, none⟩) 1 1) [e.bg] ∧ Kept [] w W) ⟨ZZ, O0, K0⟩ ?_
  clear ZZ O0 K0
  rintro W ⟨ZZ, O0, K0⟩
  obtain ⟨B, hB⟩ : ∃ B, B = w.heap.size := ⟨_, rfl⟩
  obtain ⟨base, hbase⟩ : ∃ base, base = w.heap.size + 1 := ⟨_, rfl⟩
  rw [← hbase] at O0 ⊢
  rw [← hB] at ZZ ⊢
  have HB : Hid (B + 1 = base ∧ w.heap.size ≤ base) := ⟨by omega, by omega⟩
  clear hB hbase
  go_loopw [5, 6] (fun vo vn wr => ∃ k : Nat, k ≤ n ∧ vn = .int .i64 k ∧ OwnV 1 zC wr base 3 vo (tmK es e k) ∧ EB 48 wr B e ∧ Kept [] w wr) (fun _ vn _ => n - (intOf vn).toNat)
  case atStart => exact ⟨0, Nat.zero_le _, rfl, O0, ZZ, K0⟩
  case round =>
    clear O0 ZZ K0
    obtain ⟨k, hk, rfl, O, Z, K⟩ := hrel
    by_cases hlt : k < n
    · have hltz : (k : Int) < (n : Int) := by omega
      have TL : Hid ((tmK es e k).length ≤ 1001) := Nat.le_trans (tmK_len es e k) (by omega)
      have SKP : Hid (tmB e (evAt es k) = false → tmK es e (k + 1) = tmK es e k) := tmK_skip (by have := HN.out; omega)
      have TKE : Hid (tmB e (evAt es k) = true → tmK es e (k + 1) = tmK es e k ++ [(evAt es k).at_]) := tmK_take (by have := HN.out; omega)
      obtain ⟨b1, o1, e1, -, r0⟩ := SlV.row (HS.out.new K) (k := k) (by have := HN.out; omega)
      obtain ⟨x, hx⟩ : ∃ x, evAt es k = x := ⟨_, rfl⟩
      rw [show es.getD k evZ = x from hx] at r0
      rw [hx] at SKP TKE
      rw [e1]
      clear hx
      have HT : Hid (tmB e x = (hpB x && (decide (e.bg < x.at_) && decide (x.at_ ≤ e.en)))) := rfl
      cases hb : hpB x
      · have HC := rhap_kw (w := wr) x false hb
        have SK : Hid _ := SKP.out (by rw [HT.out, hb]; rfl)
        clear hb SKP TKE HT
        go_wp2_with fail
        refine wp_region_kept (by kernel_rfl) (by kernel_rfl) ?_
        repeat (first
          | ((with_reducible change wpQuiet _ _ _ _ (Oper.mk _ (Op.load 48 _) _ _ _ _ :: _) _); refine wpQuiet_load_ev 48 isEv_ref rfl (.tmp 18) rfl b1 (o1 + k * 14) rfl x r0 ?_)
          | go_big_quiet_step ((first | (go_at_call 28; exact HC.out _)))
          | quiet_step ((first | (go_at_call 28; exact HC.out _))))
        refine wpQuiet_nil ?_
        intro _ hw'
        obtain ⟨pq, hw''⟩ := hw'
        subst hw''
        have KQ := pq.kept
        clear HC r0
        try clear A1 B2 B4
        go_wp2
        go_roundw
        case rel => exact ⟨k + 1, by omega, by go_num, by rw [SK.out]; exact O.new KQ, Z.kept KQ (by simp), K.trans KQ⟩
        case measure => simp [intOf]; omega
      · have HC := rhap_kw (w := wr) x true hb
        have c0 := rg7 r0
        have A1 : ∀ p : KW wr, p.val.cell? ⟨b1, o1 + k * 14 + 7, none⟩ = some (.int .i64 x.at_) := KW.cell c0
        have B2 : ∀ p : KW wr, p.val.cell? ⟨B, 6, none⟩ = some (.int .i64 e.bg) := KW.cell Z.c6
        have B4 : ∀ p : KW wr, p.val.cell? ⟨B, 8, none⟩ = some (.int .i64 e.en) := KW.cell Z.c8
        by_cases q1 : e.bg < x.at_
        · have d1 : decide (e.bg < x.at_) = true := decide_eq_true q1
          by_cases q2 : x.at_ ≤ e.en
          · have d2 : decide (x.at_ ≤ e.en) = true := decide_eq_true q2
            have SK : Hid _ := TKE.out (by rw [HT.out, hb, d1, d2]; rfl)
            clear hb SKP TKE HT q1 q2
            go_wp2_with fail
            refine wp_region_kept (by kernel_rfl) (by kernel_rfl) ?_
            repeat (first
              | ((with_reducible change wpQuiet _ _ _ _ (Oper.mk _ (Op.load 48 _) _ _ _ _ :: _) _); refine wpQuiet_load_ev 48 isEv_ref rfl (.tmp 18) rfl b1 (o1 + k * 14) rfl x r0 ?_)
              | go_big_quiet_step ((first | (go_at_call 28; exact HC.out _)))
              | quiet_step ((first | (go_at_call 28; exact HC.out _))))
            refine wpQuiet_nil ?_
            intro _ hw'
            obtain ⟨pq, hw''⟩ := hw'
            subst hw''
            have KQ := pq.kept
            clear HC r0
            clear A1 B2 B4
            have c7 := KW.cell c0 pq
            have HO1 : Hid (OwnV 1 zC pq.val base 3 _ (tmK es e k)) := O.new KQ
            have HZ1 : Hid (EB 48 pq.val B e) := Z.kept KQ (by simp)
            obtain ⟨ao1, cp1, ev, -, -, -, -⟩ := HO1.out.shape zC_len
            obtain ⟨g, cp, w1, hap, O1, -, K2⟩ := append_v zC_len zC_one (by decide) 25 Try.underlying25 info_int rfl (by decide) pq.val base pq.val.heap.size _ _ x.at_ #[.int .i64 x.at_] rfl rfl HO1.out (by have := HB.out; have := HZ1.out.lt; omega) (by have := TL.out; omega)
            have T1 := Kept.ofOwnV (K.trans KQ) HO1.out (by have := HB.out; omega) K2
            have Z1 := HZ1.out.kept K2 (by intro hx; have := (HO1.out.base B (by simpa using hx)).1; have := HB.out; omega)
            have HO : Hid (OwnV 1 zC w1 base 3 _ (tmK es e k ++ [x.at_]) ∧ EB 48 w1 B e ∧ Kept [] w w1) := And.intro O1 (And.intro Z1 T1)
            clear O1 Z1 T1 O Z K2 HO1 HZ1
            subst ev
            generalize (tmK es e k).length = L at hap HO ⊢
            clear c0
            go_wp2_with (at_builtin; refine wpList_append_run rfl (.tmp 41) (.tmp 47) 25 rfl rfl rfl hap ?_)
            clear hap
            go_roundw
            case rel => exact ⟨k + 1, by omega, by go_num, by rw [SK.out]; exact HO.out.1, HO.out.2.1, HO.out.2.2⟩
            case measure => simp [intOf]; omega
          · have d2 : decide (x.at_ ≤ e.en) = false := decide_eq_false q2
            have SK : Hid _ := SKP.out (by rw [HT.out, hb, d1, d2]; rfl)
            clear hb SKP TKE HT q1 q2 c0
            go_wp2_with fail
            refine wp_region_kept (by kernel_rfl) (by kernel_rfl) ?_
            repeat (first
              | ((with_reducible change wpQuiet _ _ _ _ (Oper.mk _ (Op.load 48 _) _ _ _ _ :: _) _); refine wpQuiet_load_ev 48 isEv_ref rfl (.tmp 18) rfl b1 (o1 + k * 14) rfl x r0 ?_)
              | go_big_quiet_step ((first | (go_at_call 28; exact HC.out _)))
              | quiet_step ((first | (go_at_call 28; exact HC.out _))))
            refine wpQuiet_nil ?_
            intro _ hw'
            obtain ⟨pq, hw''⟩ := hw'
            subst hw''
            have KQ := pq.kept
            clear HC r0
            try clear A1 B2 B4
            go_wp2
            go_roundw
            case rel => exact ⟨k + 1, by omega, by go_num, by rw [SK.out]; exact O.new KQ, Z.kept KQ (by simp), K.trans KQ⟩
            case measure => simp [intOf]; omega
        · have d1 : decide (e.bg < x.at_) = false := decide_eq_false q1
          have SK : Hid _ := SKP.out (by rw [HT.out, hb, d1]; rfl)
          clear hb SKP TKE HT q1 c0
          go_wp2_with fail
          refine wp_region_kept (by kernel_rfl) (by kernel_rfl) ?_
          repeat (first
            | ((with_reducible change wpQuiet _ _ _ _ (Oper.mk _ (Op.load 48 _) _ _ _ _ :: _) _); refine wpQuiet_load_ev 48 isEv_ref rfl (.tmp 18) rfl b1 (o1 + k * 14) rfl x r0 ?_)
            | go_big_quiet_step ((first | (go_at_call 28; exact HC.out _)))
            | quiet_step ((first | (go_at_call 28; exact HC.out _))))
          refine wpQuiet_nil ?_
          intro _ hw'
          obtain ⟨pq, hw''⟩ := hw'
          subst hw''
          have KQ := pq.kept
          clear HC r0
          try clear A1 B2 B4
          go_wp2
          go_roundw
          case rel => exact ⟨k + 1, by omega, by go_num, by rw [SK.out]; exact O.new KQ, Z.kept KQ (by simp), K.trans KQ⟩
          case measure => simp [intOf]; omega
    · have hltz : ¬ (k : Int) < (n : Int) := by omega
      have hke : tmK es e k = tmL es e := by unfold tmK; rw [List.take_of_length_le (by have := HN.out; omega)]
      rw [hke] at O
      obtain ⟨bo, c', rfl, S, -, -, -⟩ := O.shape zC_len
      have HR : Hid (SlZ wr bo (tmL es e) ∧ Kept [] w wr) := And.intro S K
      clear S O hke
      obtain ⟨m, hm⟩ : ∃ m, m = (tmL es e).length := ⟨_, rfl⟩
      have HM : Hid _ := hm
      rw [← hm]
      clear hm
      go_wp2
      go_ret
      exact TmP.mk bo m c' rfl HM.out HR.out.1 HR.out.2
end Go.Proofs.Ytlmkcakmeldfeaa.Q
