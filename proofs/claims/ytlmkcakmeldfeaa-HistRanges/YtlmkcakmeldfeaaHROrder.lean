/-
  In which order events happened: the document's.
-/
import Derived.Test.YtlmkcakmeldfeaaHROrdM
import Derived.Test.YtlmkcakmeldfeaaHOrdP
namespace Go.Proofs.Ytlmkcakmeldfeaa.Q
set_option maxRecDepth 100000
open Go.RowKit
open Go.Deep
/-- A row of bools. -/
def RB (w : World) (g n : Nat) (u : Nat → Bool) : Prop := ∃ cur : Array Value, w.heap[g]? = some (.cells cur 4 (0, 0)) ∧ ∀ i, i < n → cur[i]? = some (.bool (u i))
theorem RB.kept {l : List Nat} {w w' : World} {g n : Nat} {u : Nat → Bool} (h : RB w g n u) (k : Kept l w w') (hn : g ∉ l) : RB w' g n u := by
  obtain ⟨c, h1, h2⟩ := h; exact ⟨c, k.blk h1 hn, h2⟩
theorem RB.c {w : World} {g n : Nat} {u : Nat → Bool} (h : RB w g n u) {i : Nat} (hi : i < n) : w.cell? ⟨g, i, none⟩ = some (.bool (u i)) := by
  obtain ⟨c, h1, h2⟩ := h; exact cell_of_blk h1 (h2 i hi)
theorem RB.free {w : World} {g n : Nat} {u : Nat → Bool} (h : RB w g n u) (i : Nat) : w.frozen? ⟨g, i, none⟩ = false := by
  obtain ⟨c, h1, h2⟩ := h; exact free_of_blk h1 i
theorem RB.lt {w : World} {g n : Nat} {u : Nat → Bool} (h : RB w g n u) : g < w.heap.size := by
  obtain ⟨c, h1, h2⟩ := h; exact lt_of_blk h1
theorem RB.set {w : World} {g n : Nat} {u u' : Nat → Bool} (h : RB w g n u) {i : Nat} (hi : i < n) {b : Bool} (hu : ∀ j, j < n → u' j = if j = i then b else u j) : RB (w.setCell ⟨g, i, none⟩ (.bool b)) g n u' := by
  obtain ⟨c, h1, h2⟩ := h
  refine ⟨_, blk_set h1 _ _, fun j hj => ?_⟩
  have l0 := (Array.getElem?_eq_some_iff.1 (h2 i hi)).1
  rw [hu j hj]
  by_cases e : j = i
  · subst e; rw [if_pos rfl, Array.getElem?_setIfInBounds_self_of_lt l0]
  · rw [if_neg e, Array.getElem?_setIfInBounds_ne (by omega)]; exact h2 j hj
theorem RB.made (w : World) (n : Nat) : RB (w.alloc (.cells (madeCells #[.bool false] n) 4)) w.heap.size n (fun _ => false) := by
  refine ⟨_, blk_alloc_new _ _, fun i hi => ?_⟩
  simp [madeCells, hi, Nat.mod_one]
theorem info_bool : (Try.prog.info? 4).map (fun i => (i.zero, i.size, i.bytes)) = some (some (.bool false), 1, 1) := by kernel_rfl
theorem rhap_kw {w : World} (e : Ev) (b : Bool) (hb : hpB e = b) : Hid (∀ p : KW w, Calls Try.prog 28 #[.agg (evA e)] p.val fun o w'' => o = .returned (.bool b) ∧ ∃ q : KW w, w'' = q.val) :=
  fun p => by subst hb; exact Calls.kw_of (rhappened_any e p.val)
theorem rangeAt_kw {w : World} {b o : Nat} {cs : List Value} (h : w.rangeAt b o cs) (p : KW w) : p.val.rangeAt b o cs := fun j v hv => KW.cell (h j v hv) p
/-- The load of a whole event in a region that draws its order. -/
theorem wpQuiet_load_ev {ops : Array Oper} {rest : List Oper} {op : Oper} {a : Act} {w : World} {Q : Act → Prop} (T : TypeId) (hT : IsEv T) (hw : Region.wanted op (yielded ops a.tmps) = true) (x : Operand) (ho : op.op = .load T x)
    (b o : Nat) (hx : a.eval x = .pointer (some ⟨b, o, none⟩)) (e : Ev) (hc : w.rangeAt b o (evL e)) (h : wpQuiet Try.prog ops (fun w' => ∃ p : KW w, w' = p.val) Q rest (a.put op.dst (.agg (evA e)))) : wpQuiet Try.prog ops (fun w' => ∃ p : KW w, w' = p.val) Q (op :: rest) a := by
  obtain ⟨fs, hu⟩ := hT.2
  unfold wpQuiet
  rw [if_pos hw]
  refine ⟨.agg (evA e), fun w' hw' => ?_, h⟩
  obtain ⟨p, rfl⟩ := hw'
  unfold Oper.quietAt execOp
  simp only [ho, hx, Instr.loadAt, Instr.sureAddr, Sem.run_bind, Sem.run_pure, Result.andThen_ok, run_loadVar_mid p.val b o T (evL e) _ (rangeAt_kw hc p) hu rfl (by rw [hT.1, evL_len]), Oper.quietUpon]
  exact ⟨trivial, rfl⟩
def dcU (o : List Nat) : Nat → Bool := fun j => decide (j ∈ o)
theorem SlOf.keptn {α : Type} {n : Nat} {f : α → List Value} {l : List Nat} {w w' : World} {ao : Option Addr} {xs : List α} (h : SlOf n f w ao xs) (k : Kept l w w') (hl : ∀ ad, ao = some ad → 0 < xs.length → ad.block ∉ l) : SlOf n f w' ao xs := fun h0 => (h.kept k (fun ad e => hl ad e h0)) h0
set_option maxHeartbeats 8000000 in
theorem rorder_any (ao : Option Addr) (es : List Ev) (n cap : Nat) (w : World) (hn : n = es.length) (hs : SlV w ao es) (hl : n ≤ 1000) :
    Calls Try.prog 13 #[.slice ao n cap] w fun o w' => OrdP w es o w' := by
  have HN : Hid _ := hn
  have hmk := run_make_row' (P := Try.prog) 59 4 (.bool false) 1 Try.underlying59 info_bool rfl .i64 .i64 n (by omega) (by omega)
  have K0 := (Kept.refl [] w).alloc (.cells (madeCells #[.bool false] n) 4)
  have Z0 := RB.made w n
  have B0 : Hid (∀ ad, ao = some ad → 0 < es.length → ad.block < w.heap.size) := fun ad e h => by
    obtain ⟨b, off, e2, hb, _⟩ := hs h
    rw [e] at e2; cases e2; exact hb
  clear hn
  go_enter Try.func13, Try.ntmps13
  go_wp2
  clear hmk
  obtain ⟨g, hg⟩ : ∃ g, g = w.heap.size := ⟨_, rfl⟩
  rw [← hg] at Z0 ⊢
  refine gen_world (fun W => RB W g n (fun _ => false) ∧ Kept [] w W) ⟨Z0, K0⟩ ?_
  clear Z0 K0
  rintro W ⟨Z0, K0⟩
  have HG : Hid (g = w.heap.size ∧ g < W.heap.size) := ⟨hg, Z0.lt⟩
  clear hg
  have HS : Hid (SlV W ao es) := hs.new K0
  clear hs
  go_loopw [3, 5] (fun vo vn wr => ∃ o : List Nat, o.length ≤ n ∧ vn = .int .i64 (o.length : Nat) ∧ OwnV 1 iC wr W.heap.size 3 vo o ∧ RB wr g n (dcU o) ∧ Hid (Pkd es o) ∧ Kept [g] W wr) (fun _ vn _ => n - (intOf vn).toNat)
  case atStart => exact ⟨[], Nat.zero_le _, rfl, OwnV.nil _ _ _, Z0, Pkd.nil es, Kept.refl _ _⟩
  case round =>
    obtain ⟨o, ho, rfl, O, R, P, K⟩ := hrel
    have SR : Hid (SlV wr ao es) := SlOf.keptn HS.out K (fun ad e h => by have := B0.out ad e h; have := HG.out.1; simp; omega)
    have HK : Hid (Kept [] w wr) := K0.then K (by intro x hx; right; have := HG.out.1; simp at hx; omega)
    obtain ⟨m, hm⟩ : ∃ m, m = o.length := ⟨_, rfl⟩
    have HM : Hid _ := hm
    rw [← hm] at ho ⊢
    clear hm
    by_cases hlt : m < n
    · have hltz : (m : Int) < (n : Int) := by omega
      go_wp2
      go_loopw [6, 7] (fun vb vk wr2 => ∃ (k : Nat) (b : Option Nat) (bi : Int), k ≤ n ∧ vk = .int .i64 k ∧ vb = .int .i64 bi ∧ Hid (Best es o k b) ∧ Hid (bi = (match b with | none => -1 | some b => (b : Int))) ∧ Kept [] wr wr2) (fun _ vk _ => n - (intOf vk).toNat)
      case atStart => exact ⟨0, none, -1, Nat.zero_le _, rfl, rfl, Best.start es o, rfl, Kept.refl _ _⟩
      case round =>
        obtain ⟨k, b, bi, hk, rfl, rfl, E, EB_, K2⟩ := hrel
        by_cases hkn : k < n
        · have hkz : (k : Int) < (n : Int) := by omega
          obtain ⟨b1, o1, e1, _, r0⟩ := SlV.row (SR.out.new K2) (k := k) (by have := HN.out; omega)
          have HX : Hid (∀ j, j < n → wr.rangeAt b1 (o1 + j * 14) (evL (evAt es j))) := fun j hj => by
            obtain ⟨b2, o2, e2, _, r2⟩ := SlV.row (SR.out.new K2) (k := j) (by have := HN.out; omega)
            rw [e1] at e2; cases e2; exact r2
          have LF : Hid (lft es o k ↔ hpB (evAt es k) = true ∧ dcU o k = false) := by show _ ↔ _; unfold lft dcU; simp
          have U0 := (R.kept K2 (by simp)).c hkn
          generalize dcU o k = u at U0 LF
          obtain ⟨x, hx⟩ : ∃ x, evAt es k = x := ⟨_, rfl⟩
          have HXE : Hid _ := hx
          rw [show es.getD k evZ = x from hx] at r0
          rw [hx] at LF
          rw [e1]
          clear hx
          cases hb : hpB x
          · have HC := rhap_kw (w := wr) x false hb
            rw [hb] at LF
            clear hb
            go_wp2_with fail
            refine wp_region_kept (by kernel_rfl) (by kernel_rfl) ?_
            repeat (first
              | ((with_reducible change wpQuiet _ _ _ _ (Oper.mk _ (Op.load 48 _) _ _ _ _ :: _) _); refine wpQuiet_load_ev 48 isEv_ref rfl (.tmp 25) rfl b1 (o1 + k * 14) rfl x r0 ?_)
              | go_big_quiet_step ((first | (go_at_call 28; exact HC.out _)))
              | quiet_step ((first | (go_at_call 28; exact HC.out _))))
            refine wpQuiet_nil ?_
            intro _ hw'
            obtain ⟨pq, hw''⟩ := hw'
            subst hw''
            have K3 := K2.trans pq.kept
            clear HC r0 U0
            go_wp2
            go_roundw
            case rel => exact ⟨k + 1, b, bi, by omega, by go_num, rfl, E.out.skip (fun h => by have := (LF.out.1 h).1; cases this), EB_, K3⟩
            case measure => simp [intOf]; omega
          · have HC := rhap_kw (w := wr) x true hb
            rw [hb] at LF
            clear hb
            cases u
            · cases b with
              | none =>
                have EB2 : bi = -1 := EB_.out
                subst EB2
                have U1 : ∀ p : KW wr, p.val.cell? ⟨g, k, none⟩ = some (.bool false) := KW.cell U0
                go_wp2_with fail
                refine wp_region_kept (by kernel_rfl) (by kernel_rfl) ?_
                repeat (first
                  | ((with_reducible change wpQuiet _ _ _ _ (Oper.mk _ (Op.load 48 _) _ _ _ _ :: _) _); refine wpQuiet_load_ev 48 isEv_ref rfl (.tmp 25) rfl b1 (o1 + k * 14) rfl x r0 ?_)
                  | go_big_quiet_step ((first | (go_at_call 28; exact HC.out _)))
                  | quiet_step ((first | (go_at_call 28; exact HC.out _))))
                refine wpQuiet_nil ?_
                intro _ hw'
                obtain ⟨pq, hw''⟩ := hw'
                subst hw''
                have K3 := K2.trans pq.kept
                clear HC r0 U0 U1
                go_wp2
                go_roundw
                case rel => exact ⟨k + 1, some k, (k : Int), by omega, by go_num, rfl, E.out.first (LF.out.2 (by simp)), rfl, K3⟩
                case measure => simp [intOf]; omega
              | some b =>
                have EB2 : bi = (b : Int) := EB_.out
                subst EB2
                have U1 : ∀ p : KW wr, p.val.cell? ⟨g, k, none⟩ = some (.bool false) := KW.cell U0
                have hbk : b < k := E.out.1
                have hb0 : decide ((b : Int) < 0) = false := decide_eq_false (by omega)
                have hbz : (b : Int) < (n : Int) := by omega
                have c0 := rg7 r0
                have A1 : ∀ p : KW wr, p.val.cell? ⟨b1, o1 + k * 14 + 7, none⟩ = some (.int .i64 x.at_) := KW.cell c0
                have r1 := HX.out b (by omega)
                obtain ⟨y, hy⟩ : ∃ y, evAt es b = y := ⟨_, rfl⟩
                have HYE : Hid _ := hy
                rw [hy] at r1
                clear hy
                have d0 := rg7 r1
                have A2 : ∀ p : KW wr, p.val.cell? ⟨b1, o1 + b * 14 + 7, none⟩ = some (.int .i64 y.at_) := KW.cell d0
                clear c0 d0 r1
                by_cases hat : x.at_ < y.at_
                · have hatd : decide (x.at_ < y.at_) = true := decide_eq_true hat
                  have HA : Hid ((evAt es k).at_ < (evAt es b).at_) := by rw [show evAt es k = x from HXE.out, show evAt es b = y from HYE.out]; exact hat
                  go_wp2_with fail
                  refine wp_region_kept (by kernel_rfl) (by kernel_rfl) ?_
                  repeat (first
                    | ((with_reducible change wpQuiet _ _ _ _ (Oper.mk _ (Op.load 48 _) _ _ _ _ :: _) _); refine wpQuiet_load_ev 48 isEv_ref rfl (.tmp 25) rfl b1 (o1 + k * 14) rfl x r0 ?_)
                    | go_big_quiet_step ((first | (go_at_call 28; exact HC.out _)))
                    | quiet_step ((first | (go_at_call 28; exact HC.out _))))
                  refine wpQuiet_nil ?_
                  intro _ hw'
                  obtain ⟨pq, hw''⟩ := hw'
                  subst hw''
                  have K3 := K2.trans pq.kept
                  clear HC r0 U0 U1 A1 A2
                  go_wp2
                  go_roundw
                  case rel => exact ⟨k + 1, some k, (k : Int), by omega, by go_num, rfl, E.out.better (LF.out.2 (by simp)) (by have := HA.out; omega), rfl, K3⟩
                  case measure => simp [intOf]; omega
                · have hatd : decide (x.at_ < y.at_) = false := decide_eq_false hat
                  have HA : Hid (¬ (evAt es k).at_ < (evAt es b).at_) := by rw [show evAt es k = x from HXE.out, show evAt es b = y from HYE.out]; exact hat
                  go_wp2_with fail
                  refine wp_region_kept (by kernel_rfl) (by kernel_rfl) ?_
                  repeat (first
                    | ((with_reducible change wpQuiet _ _ _ _ (Oper.mk _ (Op.load 48 _) _ _ _ _ :: _) _); refine wpQuiet_load_ev 48 isEv_ref rfl (.tmp 25) rfl b1 (o1 + k * 14) rfl x r0 ?_)
                    | go_big_quiet_step ((first | (go_at_call 28; exact HC.out _)))
                    | quiet_step ((first | (go_at_call 28; exact HC.out _))))
                  refine wpQuiet_nil ?_
                  intro _ hw'
                  obtain ⟨pq, hw''⟩ := hw'
                  subst hw''
                  have K3 := K2.trans pq.kept
                  clear HC r0 U0 U1 A1 A2
                  go_wp2
                  go_roundw
                  case rel => exact ⟨k + 1, some b, (b : Int), by omega, by go_num, rfl, E.out.worse (by have := HA.out; omega), rfl, K3⟩
                  case measure => simp [intOf]; omega
            · have U1 : ∀ p : KW wr, p.val.cell? ⟨g, k, none⟩ = some (.bool true) := KW.cell U0
              go_wp2_with fail
              refine wp_region_kept (by kernel_rfl) (by kernel_rfl) ?_
              repeat (first
                | ((with_reducible change wpQuiet _ _ _ _ (Oper.mk _ (Op.load 48 _) _ _ _ _ :: _) _); refine wpQuiet_load_ev 48 isEv_ref rfl (.tmp 25) rfl b1 (o1 + k * 14) rfl x r0 ?_)
                | go_big_quiet_step ((first | (go_at_call 28; exact HC.out _)))
                | quiet_step ((first | (go_at_call 28; exact HC.out _))))
              refine wpQuiet_nil ?_
              intro _ hw'
              obtain ⟨pq, hw''⟩ := hw'
              subst hw''
              have K3 := K2.trans pq.kept
              clear HC r0 U0 U1
              go_wp2
              go_roundw
              case rel => exact ⟨k + 1, b, bi, by omega, by go_num, rfl, E.out.skip (fun h => by have := (LF.out.1 h).2; cases this), EB_, K3⟩
              case measure => simp [intOf]; omega
        · have hkz : ¬ (k : Int) < (n : Int) := by omega
          have ek : k = es.length := by have := HN.out; omega
          rw [ek] at E
          clear ek
          have HK2 : Hid (Kept [] w wr) := HK.out.trans K2
          cases b with
          | none =>
            have EB2 : bi = -1 := EB_.out
            subst EB2
            have I1 : Hid _ := P.out.done E.out
            obtain ⟨bo, c', rfl, S, _, _, _⟩ := (O.new K2).shape iC_len
            have HR : Hid _ := And.intro I1.out (And.intro S HK2.out)
            have hom : o.length = m := HM.out.symm
            rw [hom]
            clear S I1 O
            go_wp2
            go_ret
            exact OrdP.mk o bo m c' rfl HM.out HR.out.1 HR.out.2.1 HR.out.2.2
          | some b =>
            have EB2 : bi = (b : Int) := EB_.out
            subst EB2
            have hbn : b < n := by have := E.out.1; have := HN.out; omega
            have hb0 : ¬ (b : Int) < 0 := by omega
            have hbz : (b : Int) < (n : Int) := by omega
            have P2 : Hid _ := P.out.next E.out
            have R1 := R.kept K2 (by simp)
            have u0 := R1.c hbn
            have fr := R1.free
            have gl := R1.lt
            have R2 : RB (wr.setCell ⟨g, b, none⟩ (.bool true)) g n (dcU (o ++ [b])) := R1.set hbn (fun j hj => by
              unfold dcU
              by_cases q : j = b
              · subst q; simp
              · rw [if_neg q]; simp [q])
            have O1 : OwnV 1 iC (wr.setCell ⟨g, b, none⟩ (.bool true)) W.heap.size 3 _ o := (O.new K2).kept ((Kept.refl [g] wr).setCell (p := ⟨g, b, none⟩) (Or.inl (by simp)) (.bool true)) (fun x hx => by have := (O.base x hx).1; have := HG.out.2; simp; omega)
            have T1 : Kept [g] W (wr.setCell ⟨g, b, none⟩ (.bool true)) := (K.then K2 (by simp)).setCell (p := ⟨g, b, none⟩) (Or.inl (by simp)) (.bool true)
            obtain ⟨g2, cp, w2, hap, O2, AT, K4⟩ := append_int 25 (wr.setCell ⟨g, b, none⟩ (.bool true)) W.heap.size wr.heap.size _ o b (by rw [nblk_setCell]) O1 T1.size (by have := HM.out; omega)
            have T2 : Kept [g] W w2 := T1.then K4 (by intro x hx; right; exact (O1.base x (by simpa using hx)).1)
            have R3 : RB w2 g n (dcU (o ++ [b])) := R2.kept K4 (by intro hx; have := (O1.base g (by simpa using hx)).1; have := HG.out.2; omega)
            have HO : Hid _ := And.intro O2 (And.intro R3 (And.intro P2.out T2))
            have hom : o.length = m := HM.out.symm
            rw [hom] at hap HO
            clear O2 R3 P2 T2 K4 AT R1 R2 O1 T1 O R P hom
            go_wp2_with (at_builtin; refine wpList_append_run rfl (.tmp 59) (.tmp 61) 25 rfl rfl rfl hap ?_)
            clear hap
            go_roundw
            case rel => exact ⟨o ++ [b], by rw [List.length_append]; have := HM.out; simp; omega, by rw [List.length_append, show o.length = m from HM.out.symm]; go_num, by have := HO.out.1; exact this, HO.out.2.1, HO.out.2.2.1, HO.out.2.2.2⟩
            case measure => simp [intOf]; omega
    · have hltz : ¬ (m : Int) < (n : Int) := by omega
      have I1 : Hid _ := P.out.full (by have := HM.out; have := HN.out; omega)
      obtain ⟨bo, c', rfl, S, _, _, _⟩ := O.shape iC_len
      have HR : Hid _ := And.intro I1.out (And.intro S HK.out)
      have hom : o.length = m := HM.out.symm
      rw [hom]
      clear S I1 O
      go_wp2
      go_ret
      exact OrdP.mk o bo m c' rfl HM.out HR.out.1 HR.out.2.1 HR.out.2.2
end Go.Proofs.Ytlmkcakmeldfeaa.Q
