/-
  Times: at which times a map need be asked for; the mathematics.
  At which times the document asks for the map.
  The document's small words: has a map a key, is a key among keys.
  Is a Range right? The document's answer.
-/
import Derived.Test.YtlmkcakmeldfeaaHTurnM
import Derived.Test.YtlmkcakmeldfeaaHROrder
import Derived.Test.YtlmkcakmeldfeaaHRMap
namespace Go.Proofs.Ytlmkcakmeldfeaa.Q
open Go.RowKit
/-- The times that the document asks at. -/
def tmB (e x : Ev) : Bool := hpB x && (decide (e.bg < x.at_) && decide (x.at_ ≤ e.en))
def tmL (es : List Ev) (e : Ev) : List Int := e.bg :: (es.filter (tmB e)).map Ev.at_
theorem last_time (f : Nat → Int) (bg t : Int) (h : bg ≤ t) : ∀ l : List Nat, ∃ u, (u = bg ∨ ∃ i ∈ l, f i = u ∧ bg < f i) ∧ bg ≤ u ∧ u ≤ t ∧ ∀ i ∈ l, f i ≤ t → f i ≤ u
  | [] => ⟨bg, Or.inl rfl, Int.le_refl _, h, by simp⟩
  | i :: l => by
    obtain ⟨u, h1, h2, h3, h4⟩ := last_time f bg t h l
    by_cases q : f i ≤ t ∧ u < f i
    · refine ⟨f i, Or.inr ⟨i, by simp, rfl, by omega⟩, by omega, q.1, fun j hj hjt => ?_⟩
      rcases List.mem_cons.1 hj with e | e
      · subst e; omega
      · have := h4 j e hjt; omega
    · refine ⟨u, ?_, h2, h3, fun j hj hjt => ?_⟩
      · rcases h1 with e | ⟨j, hj, e⟩
        · exact Or.inl e
        · exact Or.inr ⟨j, List.mem_cons_of_mem _ hj, e⟩
      · rcases List.mem_cons.1 hj with e | e
        · subst e; omega
        · exact h4 j e hjt
theorem tm_in {es : List Ev} {e : Ev} (h : e.bg ≤ e.en) {u : Int} (hu : u ∈ tmL es e) : e.bg ≤ u ∧ u ≤ e.en := by
  rcases List.mem_cons.1 hu with q | q
  · subst q; exact ⟨Int.le_refl _, h⟩
  · obtain ⟨x, hx, rfl⟩ := List.mem_map.1 q
    have := (List.mem_filter.1 hx).2
    unfold tmB at this
    simp only [Bool.and_eq_true, decide_eq_true_eq] at this
    omega
theorem tm_all {es : List Ev} {e : Ev} {t : Int} (h1 : e.bg ≤ t) (h2 : t ≤ e.en) : ∃ u ∈ tmL es e, mpA es u = mpA es t := by
  obtain ⟨u, a1, a2, a3, a4⟩ := last_time (fun i => (evAt es i).at_) e.bg t h1 (ordOf es)
  refine ⟨u, ?_, ?_⟩
  · rcases a1 with q | ⟨i, hi, q1, q2⟩
    · rw [q]; exact List.mem_cons_self
    · refine List.mem_cons_of_mem _ (List.mem_map.2 ⟨evAt es i, List.mem_filter.2 ⟨evAt_mem (ord_lt hi), ?_⟩, q1⟩)
      have hp : hpB (evAt es i) = true := ord_hp hi
      have q1' : (evAt es i).at_ = u := q1
      have q2' : e.bg < (evAt es i).at_ := q2
      unfold tmB
      simp only [hp, Bool.and_eq_true, decide_eq_true_eq, true_and]
      omega
  · unfold mpA
    congr 1
    refine List.filter_congr (fun i hi => ?_)
    have := a4 i hi
    have e1 : ∀ s, leB es s i = decide ((evAt es i).at_ ≤ s) := fun _ => rfl
    rw [e1, e1]
    by_cases q : (evAt es i).at_ ≤ t
    · rw [decide_eq_true q, decide_eq_true (this q)]
    · rw [decide_eq_false q, decide_eq_false (by omega)]
theorem some_tm {es : List Ev} {e : Ev} (h : e.bg ≤ e.en) (k : Int) : (dk es e k).1 = (tmL es e).any (fun t => hasT es t k) := by
  rw [Bool.eq_iff_iff, dk_some h, List.any_eq_true]
  constructor
  · rintro ⟨t, h1, h2, h3⟩
    obtain ⟨u, hu, e2⟩ := tm_all (es := es) h1 h2
    exact ⟨u, hu, by unfold hasT at h3 ⊢; rw [e2]; exact h3⟩
  · rintro ⟨u, hu, h3⟩
    exact ⟨u, (tm_in h hu).1, (tm_in h hu).2, h3⟩
theorem each_tm {es : List Ev} {e : Ev} (h : e.bg ≤ e.en) (k : Int) : (dk es e k).2 = (tmL es e).all (fun t => hasT es t k) := by
  rw [Bool.eq_iff_iff, dk_each h, List.all_eq_true]
  constructor
  · intro a u hu
    exact a u (tm_in h hu).1 (tm_in h hu).2
  · intro a t h1 h2
    obtain ⟨u, hu, e2⟩ := tm_all (es := es) h1 h2
    have := a u hu
    unfold hasT at this ⊢; rw [← e2]; exact this
/-- What is left out is sought among the keys of the map at the start. -/
theorem rgE_yes1 {es : List Ev} {e : Ev} (h1 : ¬ e.en < e.bg) (h2 : kfB e = true) (h3 : ∀ j, j < e.ks.length → (dk es e (e.ks.getD j 0)).1 = true) (h4 : ∀ p ∈ mpA es e.bg, (dk es e p.k).2 = true → loB e p.k = false) : rgE es e = true := by
  refine rgE_yes h1 h2 h3 (fun i _ hd => ?_)
  have hb := (dk_each (by omega) _).1 hd e.bg (Int.le_refl _) (by omega)
  obtain ⟨p, hp, e1⟩ := gtH_mem.1 hb
  rw [← e1] at hd ⊢
  exact h4 p hp hd
/-- The document's 'beyond'. -/
def byB (e : Ev) (k : Int) : Bool := decide ((e.ks.length : Int) = max e.op.n 0) && (decide (max e.op.n 0 = 0) || decide (e.ks.getD (e.ks.length - 1) 0 < k))
theorem lo_is {e : Ev} {k : Int} (hk : kfB e = true) (h1 : e.op.k ≤ k) (h2 : k ≤ e.op.v) (h3 : k ∉ e.ks) : loB e k = !(byB e k) := by
  have hl : (e.ks.length : Int) ≤ max e.op.n 0 := by
    unfold kfB at hk
    rw [Bool.and_eq_true] at hk
    exact of_decide_eq_true hk.1
  have hne : 0 < e.ks.length → e.ks.getD (e.ks.length - 1) 0 ≠ k := fun h q => h3 (by
    rw [← q, List.getD_eq_getElem?_getD, List.getElem?_eq_getElem (by omega)]; exact List.getElem_mem _)
  unfold loB byB
  rw [decide_eq_false h3, decide_eq_false (show ¬ k < e.op.k by omega), decide_eq_false (show ¬ e.op.v < k by omega)]
  generalize e.ks.getD (e.ks.length - 1) 0 = la at hne
  by_cases q1 : e.op.n < 1
  · rw [decide_eq_true q1, decide_eq_true (show (e.ks.length : Int) = max e.op.n 0 by omega), decide_eq_true (show max e.op.n 0 = 0 by omega)]; rfl
  · rw [decide_eq_false q1, decide_eq_false (show ¬ max e.op.n 0 = 0 by omega)]
    by_cases q2 : (e.ks.length : Int) < e.op.n
    · rw [decide_eq_true q2, decide_eq_false (show ¬ (e.ks.length : Int) = max e.op.n 0 by omega)]; rfl
    · rw [decide_eq_false q2, decide_eq_true (show (e.ks.length : Int) = max e.op.n 0 by omega)]
      have := hne (by omega)
      by_cases q3 : k < la
      · rw [decide_eq_true q3, decide_eq_false (show ¬ la < k by omega)]; rfl
      · rw [decide_eq_false q3, decide_eq_true (show la < k by omega)]; rfl
end Go.Proofs.Ytlmkcakmeldfeaa.Q
namespace Go.Proofs.Ytlmkcakmeldfeaa.Q
set_option maxRecDepth 100000
open Go.RowKit
open Go.Deep
def zC (x : Int) : List Value := [.int .i64 x]
theorem zC_len (x : Int) : (zC x).length = 1 := rfl
theorem zC_one (x : Int) : ∀ u ∈ zC x, u.oneCell' = true := by intro u hu; simp [zC] at hu; subst hu; rfl
abbrev SlZ := SlOf 1 zC
theorem SlZ.cell {w : World} {ao : Option Addr} {xs : List Int} (h : SlZ w ao xs) {k : Nat} (hk : k < xs.length) : ∃ b off, ao = some ⟨b, off, none⟩ ∧ b < w.heap.size ∧ w.cell? ⟨b, off + k, none⟩ = some (.int .i64 (xs.getD k 0)) := by
  obtain ⟨b, off, rfl, hb, hc⟩ := h (by omega)
  have e : xs.getD k 0 = xs[k] := by simp [hk]
  have := hc k hk 0 _ rfl
  rw [e]
  exact ⟨b, off, rfl, hb, by simpa using this⟩
def tmK (es : List Ev) (e : Ev) (k : Nat) : List Int := tmL (es.take k) e
theorem tmK_len (es : List Ev) (e : Ev) (k : Nat) : (tmK es e k).length ≤ k + 1 := by
  unfold tmK tmL
  have a1 := List.length_filter_le (tmB e) (es.take k)
  rw [List.length_take] at a1
  rw [List.length_cons, List.length_map]; omega
theorem tmK_skip {es : List Ev} {e : Ev} {k : Nat} (hk : k < es.length) (h : tmB e (evAt es k) = false) : tmK es e (k + 1) = tmK es e k := by
  unfold tmK tmL
  rw [take_next hk evZ, List.filter_append, List.filter_cons_of_neg (show ¬ tmB e (es.getD k evZ) = true by rw [show es.getD k evZ = evAt es k from rfl, h]; simp)]
  simp
theorem tmK_take {es : List Ev} {e : Ev} {k : Nat} (hk : k < es.length) (h : tmB e (evAt es k) = true) : tmK es e (k + 1) = tmK es e k ++ [(evAt es k).at_] := by
  unfold tmK tmL
  rw [take_next hk evZ, List.filter_append, List.filter_cons_of_pos (show tmB e (es.getD k evZ) = true from h)]
  simp [evAt]
theorem OwnV.one (w : World) (b g : Nat) (x : Int) (hb : b ≤ g) (h : w.heap[g]? = some (.cells #[.int .i64 x] 3 (0, 0))) : OwnV 1 zC w b 3 (.slice (some ⟨g, 0, none⟩) 1 1) [x] :=
  ⟨by simp [zC], Or.inr ⟨g, 1, #[.int .i64 x], rfl, hb, h, by simp, by decide, by simp, by simp [zC]⟩⟩
def TmP (w : World) (es : List Ev) (e : Ev) (o : Ending) (w' : World) : Prop := ∃ ao m c, o = .returned (.slice ao m c) ∧ m = (tmL es e).length ∧ SlZ w' ao (tmL es e) ∧ Kept [] w w'
theorem TmP.mk {w w' : World} {es : List Ev} {e : Ev} {o : Ending} (ao : Option Addr) (m c : Nat) (h : o = .returned (.slice ao m c)) (h1 : m = (tmL es e).length) (h2 : SlZ w' ao (tmL es e)) (h3 : Kept [] w w') : TmP w es e o w' := ⟨ao, m, c, h, h1, h2, h3⟩
set_option maxHeartbeats 8000000 in
theorem rtimes_any (ao : Option Addr) (es : List Ev) (n cap : Nat) (e : Ev) (w : World) (hn : n = es.length) (hs : SlV w ao es) (hl : n ≤ 1000) :
    Calls Try.prog 55 #[.slice ao n cap, .agg (evA e)] w fun o w' => TmP w es e o w' := by
  have HN : Hid (n = es.length) := hn
  have K0 := ((Kept.refl [] w).alloc (.cells (evA e) 48)).alloc (.cells #[.int .i64 e.bg] 3)
  have Z := EB.new 48 w e
  have c6 := Z.c6
  have ZZ := Z.kept ((Kept.refl [] (w.alloc (.cells (evA e) 48))).alloc (.cells #[.int .i64 e.bg] 3)) (by simp)
  have O0 := OwnV.one ((w.alloc (.cells (evA e) 48)).alloc (.cells #[.int .i64 e.bg] 3)) (w.heap.size + 1) (w.heap.size + 1) e.bg (Nat.le_refl _) (by have := blk_alloc_new (w.alloc (.cells (evA e) 48)) (.cells #[.int .i64 e.bg] 3); rw [nblk_alloc] at this; exact this)
  have HS : Hid (SlV w ao es) := hs
  clear Z hn hs
  go_enter Try.func55, Try.ntmps55
  go_wp2
  clear c6
  refine gen_world (fun W => EB 48 W w.heap.size e ∧ OwnV 1 zC W (w.heap.size + 1) 3 (.slice (some ⟨w.heap.size + 1, 0, none⟩) 1 1) [e.bg] ∧ Kept [] w W) ⟨ZZ, O0, K0⟩ ?_
  clear ZZ O0 K0
  rintro W ⟨ZZ, O0, K0⟩
  obtain ⟨B, hB⟩ : ∃ B, B = w.heap.size := ⟨_, rfl⟩
  obtain ⟨base, hbase⟩ : ∃ base, base = w.heap.size + 1 := ⟨_, rfl⟩
  rw [← hbase] at O0 ⊢
  rw [← hB] at ZZ ⊢
  have HB : Hid (B + 1 = base ∧ w.heap.size ≤ base) := ⟨by omega, by omega⟩
  clear hB hbase
  go_loopw [5, 6] (fun vo vn wr => ∃ k : Nat, k ≤ n ∧ vn = .int .i64 k ∧ OwnV 1 zC wr base 3 vo (tmK es e k) ∧ EB 48 wr B e ∧ Kept [] w wr) (fun _ vn _ => n - (intOf vn).toNat)
  case atStart => exact ⟨0, Nat.zero_le _, rfl, O0, ZZ, K0⟩
  case round =>
    clear O0 ZZ K0
    obtain ⟨k, hk, rfl, O, Z, K⟩ := hrel
    by_cases hlt : k < n
    · have hltz : (k : Int) < (n : Int) := by omega
      have TL : Hid ((tmK es e k).length ≤ 1001) := Nat.le_trans (tmK_len es e k) (by omega)
      have SKP : Hid (tmB e (evAt es k) = false → tmK es e (k + 1) = tmK es e k) := tmK_skip (by have := HN.out; omega)
      have TKE : Hid (tmB e (evAt es k) = true → tmK es e (k + 1) = tmK es e k ++ [(evAt es k).at_]) := tmK_take (by have := HN.out; omega)
      obtain ⟨b1, o1, e1, -, r0⟩ := SlV.row (HS.out.new K) (k := k) (by have := HN.out; omega)
      obtain ⟨x, hx⟩ : ∃ x, evAt es k = x := ⟨_, rfl⟩
      rw [show es.getD k evZ = x from hx] at r0
      rw [hx] at SKP TKE
      rw [e1]
      clear hx
      have HT : Hid (tmB e x = (hpB x && (decide (e.bg < x.at_) && decide (x.at_ ≤ e.en)))) := rfl
      cases hb : hpB x
      · have HC := rhap_kw (w := wr) x false hb
        have SK : Hid _ := SKP.out (by rw [HT.out, hb]; rfl)
        clear hb SKP TKE HT
        go_wp2_with fail
        refine wp_region_kept (by kernel_rfl) (by kernel_rfl) ?_
        repeat (first
          | ((with_reducible change wpQuiet _ _ _ _ (Oper.mk _ (Op.load 48 _) _ _ _ _ :: _) _); refine wpQuiet_load_ev 48 isEv_ref rfl (.tmp 18) rfl b1 (o1 + k * 14) rfl x r0 ?_)
          | go_big_quiet_step ((first | (go_at_call 28; exact HC.out _)))
          | quiet_step ((first | (go_at_call 28; exact HC.out _))))
        refine wpQuiet_nil ?_
        intro _ hw'
        obtain ⟨pq, hw''⟩ := hw'
        subst hw''
        have KQ := pq.kept
        clear HC r0
        try clear A1 B2 B4
        go_wp2
        go_roundw
        case rel => exact ⟨k + 1, by omega, by go_num, by rw [SK.out]; exact O.new KQ, Z.kept KQ (by simp), K.trans KQ⟩
        case measure => simp [intOf]; omega
      · have HC := rhap_kw (w := wr) x true hb
        have c0 := rg7 r0
        have A1 : ∀ p : KW wr, p.val.cell? ⟨b1, o1 + k * 14 + 7, none⟩ = some (.int .i64 x.at_) := KW.cell c0
        have B2 : ∀ p : KW wr, p.val.cell? ⟨B, 6, none⟩ = some (.int .i64 e.bg) := KW.cell Z.c6
        have B4 : ∀ p : KW wr, p.val.cell? ⟨B, 8, none⟩ = some (.int .i64 e.en) := KW.cell Z.c8
        by_cases q1 : e.bg < x.at_
        · have d1 : decide (e.bg < x.at_) = true := decide_eq_true q1
          by_cases q2 : x.at_ ≤ e.en
          · have d2 : decide (x.at_ ≤ e.en) = true := decide_eq_true q2
            have SK : Hid _ := TKE.out (by rw [HT.out, hb, d1, d2]; rfl)
            clear hb SKP TKE HT q1 q2
            go_wp2_with fail
            refine wp_region_kept (by kernel_rfl) (by kernel_rfl) ?_
            repeat (first
              | ((with_reducible change wpQuiet _ _ _ _ (Oper.mk _ (Op.load 48 _) _ _ _ _ :: _) _); refine wpQuiet_load_ev 48 isEv_ref rfl (.tmp 18) rfl b1 (o1 + k * 14) rfl x r0 ?_)
              | go_big_quiet_step ((first | (go_at_call 28; exact HC.out _)))
              | quiet_step ((first | (go_at_call 28; exact HC.out _))))
            refine wpQuiet_nil ?_
            intro _ hw'
            obtain ⟨pq, hw''⟩ := hw'
            subst hw''
            have KQ := pq.kept
            clear HC r0
            clear A1 B2 B4
            have c7 := KW.cell c0 pq
            have HO1 : Hid (OwnV 1 zC pq.val base 3 _ (tmK es e k)) := O.new KQ
            have HZ1 : Hid (EB 48 pq.val B e) := Z.kept KQ (by simp)
            obtain ⟨ao1, cp1, ev, -, -, -, -⟩ := HO1.out.shape zC_len
            obtain ⟨g, cp, w1, hap, O1, -, K2⟩ := append_v zC_len zC_one (by decide) 25 Try.underlying25 info_int rfl (by decide) pq.val base pq.val.heap.size _ _ x.at_ #[.int .i64 x.at_] rfl rfl HO1.out (by have := HB.out; have := HZ1.out.lt; omega) (by have := TL.out; omega)
            have T1 := Kept.ofOwnV (K.trans KQ) HO1.out (by have := HB.out; omega) K2
            have Z1 := HZ1.out.kept K2 (by intro hx; have := (HO1.out.base B (by simpa using hx)).1; have := HB.out; omega)
            have HO : Hid (OwnV 1 zC w1 base 3 _ (tmK es e k ++ [x.at_]) ∧ EB 48 w1 B e ∧ Kept [] w w1) := And.intro O1 (And.intro Z1 T1)
            clear O1 Z1 T1 O Z K2 HO1 HZ1
            subst ev
            generalize (tmK es e k).length = L at hap HO ⊢
            clear c0
            go_wp2_with (at_builtin; refine wpList_append_run rfl (.tmp 41) (.tmp 47) 25 rfl rfl rfl hap ?_)
            clear hap
            go_roundw
            case rel => exact ⟨k + 1, by omega, by go_num, by rw [SK.out]; exact HO.out.1, HO.out.2.1, HO.out.2.2⟩
            case measure => simp [intOf]; omega
          · have d2 : decide (x.at_ ≤ e.en) = false := decide_eq_false q2
            have SK : Hid _ := SKP.out (by rw [HT.out, hb, d1, d2]; rfl)
            clear hb SKP TKE HT q1 q2 c0
            go_wp2_with fail
            refine wp_region_kept (by kernel_rfl) (by kernel_rfl) ?_
            repeat (first
              | ((with_reducible change wpQuiet _ _ _ _ (Oper.mk _ (Op.load 48 _) _ _ _ _ :: _) _); refine wpQuiet_load_ev 48 isEv_ref rfl (.tmp 18) rfl b1 (o1 + k * 14) rfl x r0 ?_)
              | go_big_quiet_step ((first | (go_at_call 28; exact HC.out _)))
              | quiet_step ((first | (go_at_call 28; exact HC.out _))))
            refine wpQuiet_nil ?_
            intro _ hw'
            obtain ⟨pq, hw''⟩ := hw'
            subst hw''
            have KQ := pq.kept
            clear HC r0
            try clear A1 B2 B4
            go_wp2
            go_roundw
            case rel => exact ⟨k + 1, by omega, by go_num, by rw [SK.out]; exact O.new KQ, Z.kept KQ (by simp), K.trans KQ⟩
            case measure => simp [intOf]; omega
        · have d1 : decide (e.bg < x.at_) = false := decide_eq_false q1
          have SK : Hid _ := SKP.out (by rw [HT.out, hb, d1]; rfl)
          clear hb SKP TKE HT q1 c0
          go_wp2_with fail
          refine wp_region_kept (by kernel_rfl) (by kernel_rfl) ?_
          repeat (first
            | ((with_reducible change wpQuiet _ _ _ _ (Oper.mk _ (Op.load 48 _) _ _ _ _ :: _) _); refine wpQuiet_load_ev 48 isEv_ref rfl (.tmp 18) rfl b1 (o1 + k * 14) rfl x r0 ?_)
            | go_big_quiet_step ((first | (go_at_call 28; exact HC.out _)))
            | quiet_step ((first | (go_at_call 28; exact HC.out _))))
          refine wpQuiet_nil ?_
          intro _ hw'
          obtain ⟨pq, hw''⟩ := hw'
          subst hw''
          have KQ := pq.kept
          clear HC r0
          try clear A1 B2 B4
          go_wp2
          go_roundw
          case rel => exact ⟨k + 1, by omega, by go_num, by rw [SK.out]; exact O.new KQ, Z.kept KQ (by simp), K.trans KQ⟩
          case measure => simp [intOf]; omega
    · have hltz : ¬ (k : Int) < (n : Int) := by omega
      have hke : tmK es e k = tmL es e := by unfold tmK; rw [List.take_of_length_le (by have := HN.out; omega)]
      rw [hke] at O
      obtain ⟨bo, c', rfl, S, -, -, -⟩ := O.shape zC_len
      have HR : Hid (SlZ wr bo (tmL es e) ∧ Kept [] w wr) := And.intro S K
      clear S O hke
      obtain ⟨m, hm⟩ : ∃ m, m = (tmL es e).length := ⟨_, rfl⟩
      have HM : Hid _ := hm
      rw [← hm]
      clear hm
      go_wp2
      go_ret
      exact TmP.mk bo m c' rfl HM.out HR.out.1 HR.out.2
end Go.Proofs.Ytlmkcakmeldfeaa.Q
namespace Go.Proofs.Ytlmkcakmeldfeaa.Q
set_option maxRecDepth 100000
open Go.RowKit
open Go.Deep
set_option maxHeartbeats 1000000 in
theorem rhas_any (ao : Option Addr) (ps : List Pr) (n cap : Nat) (key : Int) (w : World) (hn : n = ps.length) (hs : SlP w ao ps) (hl : n ≤ 1000) :
    Calls Try.prog 56 #[.slice ao n cap, .int .u64 key] w fun o w' => o = .returned (.bool (gtH ps key)) ∧ Kept [] w w' := by
  have HN : Hid (n = ps.length) := hn
  have HS : Hid (SlP w ao ps) := hs
  have OUT : Hid (∀ k, k < n → (ps.getD k default).k = key → gtH ps key = true) := fun k hk h => by
    refine gtH_mem.2 ⟨ps.getD k default, ?_, h⟩
    rw [List.getD_eq_getElem?_getD, List.getElem?_eq_getElem (by omega)]; exact List.getElem_mem _
  have NO : Hid ((∀ k, k < n → (ps.getD k default).k ≠ key) → gtH ps key = false) := fun h => by
    cases q : gtH ps key
    · rfl
    · obtain ⟨p, hp, e⟩ := gtH_mem.1 q
      obtain ⟨i, hi, e2⟩ := List.mem_iff_getElem.1 hp
      exact absurd (by rw [show ps.getD i default = p by rw [← e2]; simp [hi]]; exact e) (h i (by omega))
  clear hn hs
  generalize gtH ps key = R at OUT NO ⊢
  go_enter Try.func56, Try.ntmps56
  go_wp2
  go_loopw [5] (fun i wr => ∃ k : Nat, k ≤ n ∧ i = .int .i64 k ∧ Hid (∀ j, j < k → (ps.getD j default).k ≠ key) ∧ Kept [] w wr) (fun i _ => n - (intOf i).toNat)
  case atStart => exact ⟨0, Nat.zero_le _, rfl, (fun j hj => absurd hj (by omega)), Kept.refl _ _⟩
  case round =>
    obtain ⟨k, hk, rfl, E, K⟩ := hrel
    by_cases hlt : k < n
    · obtain ⟨b1, o1, rfl, -, x0, -⟩ := SlP.row (HS.out.new K) (k := k) (by have := HN.out; omega)
      by_cases q : (ps.getD k default).k = key
      · have RR : Hid (R = true) := OUT.out k hlt q
        rw [q] at x0
        clear q E
        go_wp2
        go_ret
        exact ⟨by rw [RR.out]; rfl, K⟩
      · have E2 : Hid (∀ j, j < k + 1 → (ps.getD j default).k ≠ key) := fun j hj => by
          by_cases e : j = k
          · rw [e]; exact q
          · exact E.out j (by omega)
        generalize (ps.getD k default).k = x at x0 q
        clear E
        go_wp2
        go_roundw
        case rel => exact ⟨k + 1, by omega, by go_num, E2, K⟩
        case measure => simp [intOf]; omega
    · have RR : Hid (R = false) := NO.out (fun j hj => E.out j (by omega))
      clear E
      go_wp2
      go_ret
      exact ⟨by rw [RR.out]; rfl, K⟩
set_option maxHeartbeats 1000000 in
theorem rin_any (ao : Option Addr) (ks : List Int) (n cap : Nat) (key : Int) (w : World) (hn : n = ks.length) (hs : Sl w ao ks) (hl : n ≤ 1000) :
    Calls Try.prog 57 #[.slice ao n cap, .int .u64 key] w fun o w' => o = .returned (.bool (decide (key ∈ ks))) ∧ Kept [] w w' := by
  have HN : Hid (n = ks.length) := hn
  have HS : Hid (Sl w ao ks) := hs
  have OUT : Hid (∀ k, k < n → ks.getD k 0 = key → decide (key ∈ ks) = true) := fun k hk h => by
    refine decide_eq_true ?_
    rw [← h, List.getD_eq_getElem?_getD, List.getElem?_eq_getElem (by omega)]; exact List.getElem_mem _
  have NO : Hid ((∀ k, k < n → ks.getD k 0 ≠ key) → decide (key ∈ ks) = false) := fun h => by
    refine decide_eq_false (fun hp => ?_)
    obtain ⟨i, hi, e2⟩ := List.mem_iff_getElem.1 hp
    exact absurd (by rw [← e2]; simp [hi]) (h i (by omega))
  clear hn hs
  generalize decide (key ∈ ks) = R at OUT NO ⊢
  go_enter Try.func57, Try.ntmps57
  go_wp2
  go_loopw [5] (fun i wr => ∃ k : Nat, k ≤ n ∧ i = .int .i64 k ∧ Hid (∀ j, j < k → ks.getD j 0 ≠ key) ∧ Kept [] w wr) (fun i _ => n - (intOf i).toNat)
  case atStart => exact ⟨0, Nat.zero_le _, rfl, (fun j hj => absurd hj (by omega)), Kept.refl _ _⟩
  case round =>
    obtain ⟨k, hk, rfl, E, K⟩ := hrel
    by_cases hlt : k < n
    · obtain ⟨b1, o1, rfl, -, x0⟩ := Sl.cell (HS.out.new K) (i := k) (by have := HN.out; omega)
      by_cases q : ks.getD k 0 = key
      · have RR : Hid (R = true) := OUT.out k hlt q
        rw [q] at x0
        clear q E
        go_wp2
        go_ret
        exact ⟨by rw [RR.out]; rfl, K⟩
      · have E2 : Hid (∀ j, j < k + 1 → ks.getD j 0 ≠ key) := fun j hj => by
          by_cases e : j = k
          · rw [e]; exact q
          · exact E.out j (by omega)
        generalize ks.getD k 0 = x at x0 q
        clear E
        go_wp2
        go_roundw
        case rel => exact ⟨k + 1, by omega, by go_num, E2, K⟩
        case measure => simp [intOf]; omega
    · have RR : Hid (R = false) := NO.out (fun j hj => E.out j (by omega))
      clear E
      go_wp2
      go_ret
      exact ⟨by rw [RR.out]; rfl, K⟩
end Go.Proofs.Ytlmkcakmeldfeaa.Q
namespace Go.Proofs.Ytlmkcakmeldfeaa.Q
set_option maxRecDepth 100000
open Go.RowKit
open Go.Deep
theorem any_next {l : List Int} {f : Int → Bool} {j : Nat} (h : j < l.length) : (l.take (j + 1)).any f = ((l.take j).any f || f (l.getD j 0)) := by rw [take_next h 0, List.any_append]; simp
theorem all_next {l : List Int} {f : Int → Bool} {j : Nat} (h : j < l.length) : (l.take (j + 1)).all f = ((l.take j).all f && f (l.getD j 0)) := by rw [take_next h 0, List.all_append]; simp
theorem mpA_len {w : World} {ao : Option Addr} {n : Nat} {es : List Ev} (hv : Evs w ao n es) (t : Int) : (mpA es t).length ≤ n := by
  have h1 := mpF_len hv.wd (Q.filter_lt (es := es) (p := leB es t))
  have h2 := List.length_filter_le (leB es t) (ordOf es)
  have h3 := ord_len es
  have h4 := hv.len
  unfold mpA; omega
theorem rmap_at {w W' : World} {ao : Option Addr} {n : Nat} {es : List Ev} (cap : Nat) (t : Int) (hv : Evs w ao n es) (hl : n ≤ 1000) (k : Kept [] w W') :
    Calls Try.prog 18 #[.slice ao n cap, .int .i64 t] W' fun o w' => ∃ a m c, o = .returned (.slice a m c) ∧ Hid (MpV w' a m c (mpA es t)) ∧ Hid (m ≤ 1000) ∧ Kept [] w w' := by
  refine (rmap_any ao es n cap t W' (hv.new k) hl).mono ?_
  rintro o w' ⟨a, m, c, rfl, M, K⟩
  refine ⟨a, m, c, rfl, M, ?_, k.trans K⟩
  have := mpA_len hv t
  have := M.1
  show _ ≤ _; omega
theorem rhas_at {W' : World} {a : Option Addr} {m c : Nat} {es : List Ev} {t key : Int} {g : Bool} (hg : hasT es t key = g) (M : MpV W' a m c (mpA es t)) (hm : m ≤ 1000) :
    Calls Try.prog 56 #[.slice a m c, .int .u64 key] W' fun o w' => o = .returned (.bool g) ∧ Kept [] W' w' := by
  subst hg
  exact rhas_any a _ m c key W' M.1 M.2.1 hm
theorem rin_at {W' : World} {a : Option Addr} {m c : Nat} {ks : List Int} {key : Int} {g : Bool} (hg : decide (key ∈ ks) = g) (hn : m = ks.length) (hs : Sl W' a ks) (hm : m ≤ 1000) :
    Calls Try.prog 57 #[.slice a m c, .int .u64 key] W' fun o w' => o = .returned (.bool g) ∧ Kept [] W' w' := by
  subst hg
  exact rin_any a ks m c key W' hn hs hm
theorem lo_out {e : Ev} {k : Int} (h : ¬ e.op.k ≤ k ∨ ¬ k ≤ e.op.v) : loB e k = false := by
  unfold loB
  rcases h with h | h
  · rw [decide_eq_true (show k < e.op.k by omega)]; simp
  · rw [decide_eq_true (show e.op.v < k by omega)]; simp
theorem lo_mem {e : Ev} {k : Int} (h : k ∈ e.ks) : loB e k = false := by unfold loB; rw [decide_eq_true h]; rfl
theorem lo_by {e : Ev} {k : Int} (h : k ∉ e.ks → loB e k = !(byB e k)) (hb : byB e k = true) : loB e k = false := by
  by_cases q : k ∈ e.ks
  · exact lo_mem q
  · rw [h q, hb]; rfl
theorem byB_ne {e : Ev} {k : Int} (h : ¬ (e.ks.length : Int) = max e.op.n 0) : byB e k = false := by unfold byB; rw [decide_eq_false h]; rfl
theorem byB_zero {e : Ev} {k : Int} (h : (e.ks.length : Int) = max e.op.n 0) (h2 : max e.op.n 0 = 0) : byB e k = true := by unfold byB; rw [decide_eq_true h, decide_eq_true h2]; rfl
theorem byB_more {e : Ev} {k : Int} (h : (e.ks.length : Int) = max e.op.n 0) (h2 : e.ks.getD (e.ks.length - 1) 0 < k) : byB e k = true := by unfold byB; rw [decide_eq_true h, decide_eq_true h2]; simp
theorem byB_less {e : Ev} {k : Int} (h : (e.ks.length : Int) = max e.op.n 0) (h1 : 0 < e.ks.length) (h2 : ¬ e.ks.getD (e.ks.length - 1) 0 < k) : byB e k = false := by unfold byB; rw [decide_eq_true h, decide_eq_false h2, decide_eq_false (by omega)]; rfl
end Go.Proofs.Ytlmkcakmeldfeaa.Q
