/-
  The lives of all keys: the program's.
-/
import Derived.Test.YtlmkcakmeldfeaaHDur
import Derived.Test.YtlmkcakmeldfeaaHMap
import Derived.Test.YtlmkcakmeldfeaaHFit2
import Derived.Deep.RegionLaw
import Derived.Deep.RegionHeldLaw
namespace Go.Proofs.Ytlmkcakmeldfeaa.Q
set_option maxRecDepth 100000
open Go.RowKit
open Go.Deep
/-- Is it a Put or a Delete of k? -/
def pdB (es : List Ev) (k : Int) (i : Nat) : Bool := ((evAt es i).op.d == 2 || (evAt es i).op.d == 3) && (evAt es i).op.k == k
/-- The life of k, as these tell it. -/
def lfF (es : List Ev) (l : List Nat) (k : Int) : List Chg := (l.filter (pdB es k)).map (fun i => ⟨(evAt es i).at_, (evAt es i).op.d == 2⟩)
theorem lfF_len (es : List Ev) (l : List Nat) (k : Int) : (lfF es l k).length ≤ l.length := by
  unfold lfF; rw [List.length_map]; exact List.length_filter_le _ _
theorem lfF_snoc (es : List Ev) (l : List Nat) (i : Nat) (k : Int) : lfF es (l ++ [i]) k = if pdB es k i then lfF es l k ++ [⟨(evAt es i).at_, (evAt es i).op.d == 2⟩] else lfF es l k := by
  unfold lfF
  rw [List.filter_append]
  by_cases h : pdB es k i = true
  · rw [if_pos h, List.filter_cons_of_pos h]; simp
  · rw [if_neg h, List.filter_cons_of_neg h]; simp
theorem lfF_other {es : List Ev} {l : List Nat} {i : Nat} (h2 : ¬ (evAt es i).op.d = 2) (h3 : ¬ (evAt es i).op.d = 3) : lfF es (l ++ [i]) = lfF es l := by
  funext k; rw [lfF_snoc, if_neg (by unfold pdB; simp [h2, h3])]
theorem lfF_put {es : List Ev} {l : List Nat} {i : Nat} (h : (evAt es i).op.d = 2 ∨ (evAt es i).op.d = 3) : lfF es (l ++ [i]) = fun j => if j = (evAt es i).op.k then lfF es l (evAt es i).op.k ++ [⟨(evAt es i).at_, (evAt es i).op.d == 2⟩] else lfF es l j := by
  funext k
  rw [lfF_snoc]
  by_cases e : k = (evAt es i).op.k
  · subst e
    rw [if_pos rfl, if_pos (by unfold pdB; rcases h with h | h <;> simp [h])]
  · rw [if_neg e, if_neg (by unfold pdB; simp; intro _; exact fun q => e q.symm)]
theorem info_chg : (Try.prog.info? 87).map (fun i => (i.zero, i.size, i.bytes)) = some (some (.agg #[.int .i64 0, .bool false]), 2, 16) := by kernel_rfl
theorem Lvs.mono {w : World} {b base n m : Nat} {D : DataW Value} {val : Int → Value} {L : Int → List Chg} (h : Lvs w b base n D val L) (hm : n ≤ m) : Lvs w b base m D val L := ⟨h.own.mono hm, h.at_, h.row, h.apart, h.low⟩
/-- Keys are words. -/
structure KWf (es : List Ev) : Prop where
  op : ∀ e ∈ es, (Lit.int .u64 e.op.k).wf = true
  ks : ∀ e ∈ es, ∀ k ∈ e.ks, (Lit.int .u64 k).wf = true
def LvP (w : World) (es : List Ev) (o : Ending) (w' : World) : Prop := ∃ b base m D val, o = .returned (.map (some b)) ∧ Lvs w' b base m D val (lfF es (ordOf es)) ∧ m ≤ 1000 ∧ w.heap.size ≤ b ∧ Kept [] w w'
theorem grow_from {W X w3 : World} {row : Option Nat} (K : Kept [] W X) (hg : X.grownBy w3 row) : W.grownBy w3 row :=
  ⟨hg.os.trans K.os, hg.tape.trans K.tape, hg.output.trans K.output, Nat.le_trans K.size hg.size, fun i hi hne => (hg.block i (Nat.lt_of_lt_of_le hi K.size) hne).trans (K.block i hi (by simp))⟩
/-- Behind the append: the store into the map, and what is as it was. -/
theorem lives_arm {w w1 wr W X w3 : World} {b base k g cap' : Nat} {D : DataW Value} {val : Int → Value} {L : Int → List Chg} (LW : Lvs W b base k D val L) {kx t : Int} {h : Bool} (WF : (Lit.int .u64 kx).wf = true) (hk : k < 100000) (KX : Kept [] W X)
    (hgrow : X.grownBy w3 (val kx).ownBlock) (hown : w3.ownsRow base 87 2 (.slice (some ⟨g, 0, none⟩) ((L kx).length + 1) cap') ((L kx).length + 1) ((L kx).flatMap chC ++ [.int .i64 t, .bool h])) (hat : (val kx).ownBlock = some g ∨ g = X.heap.size)
    (KB : Kept [b] w1 wr) (KO : Kept [] wr W) (K : Kept [] w wr) (hb1 : w1.heap.size ≤ base) (hb2 : w.heap.size ≤ b) (hb3 : b < base) :
    ∃ w4 D4, (Instr.mapUpdate 68 (.map (some b)) (.int .u64 kx) (.slice (some ⟨g, 0, none⟩) ((L kx).length + 1) cap')).run Try.prog w3 = .ok () w4 ∧ Lvs w4 b base (k + 1) D4 (fun j => if j = kx then .slice (some ⟨g, 0, none⟩) ((L kx).length + 1) cap' else val j) (fun j => if j = kx then L kx ++ [⟨t, h⟩] else L j) ∧ Kept [b] w1 w4 ∧ Kept [] w w4 ∧
      ∀ (O : Nat), O < W.heap.size → O ≠ b → (∀ g, (val kx).ownBlock = some g → g ≠ O) → w3.heap[O]? = W.heap[O]? ∧ w4.heap[O]? = W.heap[O]? := by
  have G1 := grow_from KX hgrow
  have O3 : OwnV 2 chC w3 base 87 (.slice (some ⟨g, 0, none⟩) ((L kx).length + 1) cap') (L kx ++ [⟨t, h⟩]) := own_v (by simp) (by simp [chC]) hown
  obtain ⟨w4, D4, hup, LV4, g4, _⟩ := LW.step WF hk G1 O3 (by
    rcases hat with e | e
    · left; rw [e]; rfl
    · right; exact ⟨g, rfl, by rw [e]; exact KX.size⟩)
  have KG : Kept (val kx).ownBlock.toList W w3 := ⟨G1.os, G1.tape, G1.output, G1.size, fun i hi hn => G1.block i hi (fun e => hn (by rw [← e]; simp))⟩
  have K4 : Kept [b] w3 w4 := ⟨g4.os, g4.tape, g4.output, g4.size, fun i hi hn => g4.block i hi (fun e => hn (by cases e; simp))⟩
  have ge : ∀ x ∈ (val kx).ownBlock.toList, base ≤ x := fun x hx => ((LW.row kx).base x (by simpa using hx)).1
  refine ⟨w4, D4, hup, LV4, ((KB.then KO (by simp)).then KG (fun x hx => Or.inr (by have := ge x hx; omega))).trans K4, ((K.trans KO).then KG (fun x hx => Or.inr (by have := ge x hx; omega))).then K4 (fun x hx => Or.inr (by simp at hx; omega)), fun O hO hob hn => ?_⟩
  have q := KG.block O hO (fun hx => hn O (by simpa using hx) rfl)
  exact ⟨q, (K4.block O (Nat.lt_of_lt_of_le hO KG.size) (by simp; exact hob)).trans q⟩
theorem cell_same {w w' : World} {b o : Nat} (h : w'.heap[b]? = w.heap[b]?) {v : Value} (hv : w.cell? ⟨b, o, none⟩ = some v) : w'.cell? ⟨b, o, none⟩ = some v := by
  rw [World.cell?_of_block (w := w) (a := ⟨b, o, none⟩) h]; exact hv
set_option maxHeartbeats 8000000 in
theorem lives_any (ao : Option Addr) (es : List Ev) (n cap : Nat) (w : World) (hv : Evs w ao n es) (hl : n ≤ 1000) (hw : KWf es) :
    Calls Try.prog 35 #[.slice ao n cap] w fun o w' => LvP w es o w' := by
  have K0 : Kept [] w (w.alloc (.map #[] 0)) := (Kept.refl _ _).alloc _
  have Z3 := Lvs.made w
  have hc := order_any ao es n cap _ hv.len (hv.row.new K0) hl
  have HV : Hid _ := hv
  have HW : Hid (KWf es) := hw
  clear hv hw
  have hmk := run_makeMap (P := Try.prog) 68 w
  go_enter Try.func35, Try.ntmps35
  go_wp2_with fail
  refine hc.mono ?_
  rintro o w1 ⟨ord, bo, m, c', rfl, hm, I1, S1, K1⟩
  have IE := I1.eq
  subst IE
  have KT := K0.trans K1
  have HM : Hid _ := hm
  have hmb : m ≤ 1000 := by have := ord_len es; have := HV.out.len; omega
  obtain ⟨b, hb⟩ : ∃ b, b = w.heap.size := ⟨_, rfl⟩
  obtain ⟨base, hbase⟩ : ∃ base, base = w1.heap.size := ⟨_, rfl⟩
  have HB : Hid (b = w.heap.size ∧ b < base) := ⟨hb, by rw [hb, hbase]; have := K1.size; rw [nblk_alloc] at this; omega⟩
  have L1 : Lvs w1 b base 0 (.map []) (fun _ => .slice none 0 0) (fun _ => []) := by
    have q := Z3.new K1
    rw [← hb] at q
    exact ⟨q.own, q.at_, fun _ => OwnV.nil _ _ _, q.apart, HB.out.2⟩
  have NBo : Hid (∀ ad, bo = some ad → 0 < (ordOf es).length → ad.block ≠ b ∧ ad.block < base) := fun ad e h => by
    obtain ⟨b2, o2, e2, lt2, hc2⟩ := S1 h
    rw [e] at e2; cases e2
    refine ⟨?_, by rw [hbase]; exact lt2⟩
    rintro rfl
    obtain ⟨es0, cl, hmap, _⟩ := L1.own
    have q := hc2 0 h 0 _ rfl
    simp [World.cell?, hmap] at q
  have BW : Hid (base = w1.heap.size) := hbase
  clear hc Z3 K0 K1 I1 hm hbase
  go_wp2
  rw [← hb]
  clear hb
  go_loopw [11] (fun i wr => ∃ (k : Nat) (D : DataW Value) (val : Int → Value), k ≤ m ∧ i = .int .i64 k ∧ Hid (Lvs wr b base k D val (lfF es ((ordOf es).take k))) ∧ Hid (SlI wr bo (ordOf es)) ∧ Kept [b] w1 wr ∧ Kept [] w wr) (fun i _ => m - (intOf i).toNat)
  case atStart => exact ⟨0, _, _, Nat.zero_le _, rfl, L1, S1, Kept.refl _ _, KT⟩
  case round =>
    clear L1 KT
    obtain ⟨k, D, val, hk, rfl, LV, S, KB, K⟩ := hrel
    by_cases hlt : k < m
    · obtain ⟨b2, o2, e2, _, c2⟩ := SlI.cell S.out (k := k) (by have := HM.out; omega)
      have im := getD_mem (l := ordOf es) (k := k) (by have := HM.out; omega)
      have TK : Hid _ := take_next (l := ordOf es) (k := k) (by have := HM.out; omega) 0
      obtain ⟨i, hi⟩ : ∃ i, (ordOf es).getD k 0 = i := ⟨_, rfl⟩
      rw [hi] at c2 im TK
      have hin : i < n := by have := ord_lt im; have := HV.out.len; omega
      clear hi im
      obtain ⟨b1, o1, e1, lt1, r0⟩ := HV.out.at K hin
      have WF : Hid ((Lit.int .u64 (evAt es i).op.k).wf = true) := HW.out.op _ (evAt_mem (by rw [← HV.out.len]; exact hin))
      have NXO : Hid (¬ (evAt es i).op.d = 2 → ¬ (evAt es i).op.d = 3 → lfF es ((ordOf es).take (k + 1)) = lfF es ((ordOf es).take k)) := fun h2 h3 => by rw [TK.out]; exact lfF_other h2 h3
      have NXP : Hid (((evAt es i).op.d = 2 ∨ (evAt es i).op.d = 3) → lfF es ((ordOf es).take (k + 1)) = fun j => if j = (evAt es i).op.k then lfF es ((ordOf es).take k) (evAt es i).op.k ++ [⟨(evAt es i).at_, (evAt es i).op.d == 2⟩] else lfF es ((ordOf es).take k) j) := fun h => by rw [TK.out]; exact lfF_put h
      obtain ⟨x, hx⟩ : ∃ x, evAt es i = x := ⟨_, rfl⟩
      rw [hx] at r0 WF NXO NXP
      clear hx TK
      rw [e1, e2]
      have z1 : (i : Int) < (n : Int) := by omega
      have a1 := rg1 r0
      have a2 := rg2 r0
      have a3 := rg3 r0
      have a4 := rg4 r0
      have a5 := rg5 r0
      by_cases q2 : x.op.d = 2
      · have HNX : Hid (lfF es ((ordOf es).take (k + 1)) = fun j => if j = x.op.k then lfF es ((ordOf es).take k) x.op.k ++ [⟨x.at_, true⟩] else lfF es ((ordOf es).take k) j) := by have q := NXP.out (Or.inl q2); rw [q2] at q; exact q
        rw [q2] at a1
        clear NXO NXP q2
        obtain ⟨i0, hi, hz0, hz1, hz2⟩ := info_parts' info_chg
        go_upto_region 9 with (fail)
        obtain ⟨O, hO⟩ : ∃ O, O = wr.heap.size := ⟨_, rfl⟩
        have Y := OB.new wr ⟨2, x.op.k, x.op.v, x.op.n, x.op.t⟩
        have KO := (Kept.refl [] wr).alloc (.cells #[.int .i64 2, .int .u64 x.op.k, .int .u64 x.op.v, .int .i64 x.op.n, .int .i64 x.op.t] 43)
        have NB : Hid (∀ g, (val x.op.k).ownBlock = some g → base ≤ g ∧ g < O) := fun g e => by rw [hO]; exact (LV.out.row x.op.k).base g e
        have OS : Hid (O = wr.heap.size) := hO
        rw [← hO] at Y
        rw [← hO]
        refine gen_world (fun W => OB W O ⟨2, x.op.k, x.op.v, x.op.n, x.op.t⟩ ∧ Hid (Lvs W b base k D val (lfF es ((ordOf es).take k))) ∧ Kept [] wr W) ⟨Y, LV.out.new KO, KO⟩ ?_
        clear Y KO hO a1 a2 a3 a4 a5 c2
        rintro W ⟨Y, LW, KO⟩
        have y0 := Y.c0
        have y1 := Y.c1
        have y2 := Y.c2
        have ltO := lt_of_blk Y
        have r1 := rangeAt_kept r0 KO (by simp)
        have c7 := rg7 r1
        have ltb : b1 < W.heap.size := lt_of_cell c7
        have LK1 : ∀ o, (Instr.lookup 68 (.map (some b)) (.int .u64 x.op.k) false).run Try.prog (W.alloc o).drew = .ok (val x.op.k) (W.alloc o).drew := fun o => (LW.out.new ((Kept.refl [] W).alloc o).drew).look WF.out
        have LK2 : (Instr.lookup 68 (.map (some b)) (.int .u64 x.op.k) false).run Try.prog W.drew = .ok (val x.op.k) W.drew := (LW.out.new (Kept.refl [] W).drew).look WF.out
        have OW : Hid (OwnV 2 chC W base 87 (val x.op.k) (lfF es ((ordOf es).take k) x.op.k)) := LW.out.row x.op.k
        have LL : Hid ((lfF es ((ordOf es).take k) x.op.k).length ≤ 1000) := by have := lfF_len es ((ordOf es).take k) x.op.k; rw [List.length_take] at this; show _ ≤ _; omega
        have BS : Hid (base ≤ W.heap.size) := by have := BW.out; have := KB.size; have := KO.size; show _ ≤ _; omega
        clear r1
        have HS : Hid (∀ W' : World, W'.heap[O]? = W.heap[O]? → W'.heap[b1]? = W.heap[b1]? → W'.cell? ⟨O, 0, none⟩ = some (.int .i64 2) ∧ W'.cell? ⟨O, 1, none⟩ = some (.int .u64 x.op.k) ∧ W'.cell? ⟨b1, o1 + i * 14 + 7, none⟩ = some (.int .i64 x.at_)) := fun W' h1 h2 => ⟨cell_same h1 y0, cell_same h1 y1, cell_same h2 c7⟩
        have NOb : Hid (O ≠ b ∧ b1 ≠ b ∧ ∀ g, (val x.op.k).ownBlock = some g → g ≠ O ∧ g ≠ b1) := ⟨by have := OS.out; have := LV.out.own.lt; omega, by have := HB.out.1; omega, fun g e => by have := NB.out g e; have := HB.out; omega⟩
        clear y0 y1 y2 c7
        go_region_held_law (fun W' => W'.cell? ⟨O, 0, none⟩ = some (.int .i64 2) ∧ W'.cell? ⟨O, 1, none⟩ = some (.int .u64 x.op.k) ∧ W'.cell? ⟨b1, o1 + i * 14 + 7, none⟩ = some (.int .i64 x.at_))
          (first | exact HS4.out | exact HS3.out | (exact HS.out _ (by first | rfl | (exact blk_alloc_lt _ _ _ ltO)) (by first | rfl | (exact blk_alloc_lt _ _ _ ltb))))
          (first | (refine step_append_lies _ (by rfl) _ _ 72 (by rfl) base 87 i0 (.agg #[.int .i64 0, .bool false]) 2 16 Try.underlying72 hi hz0 hz1 hz2 rfl (by decide) (val x.op.k) (lfF es ((ordOf es).take k) x.op.k).length ((lfF es ((ordOf es).take k) x.op.k).flatMap chC) (by rfl) (OW.out.new (by (repeat (first | (with_reducible refine Kept.alloc ?_ _) | (with_reducible refine Kept.drew ?_))); exact Kept.refl _ _)) ⟨W.heap.size, 0, none⟩ 1 1 [.int .i64 x.at_, .bool true] (by rfl) rfl (World.news_of_block (blk_alloc_new _ _)) (by simp [Value.oneCell']) (by omega) (by have := LL.out; unfold maxLen; omega) (by have := LL.out; omega) (by have := BS.out; simp; omega) _ rfl ?_; intro g cap' w3 hown hgrow hat hlt3; have AR := lives_arm LW.out WF.out (by omega) (by (repeat (first | (with_reducible refine Kept.alloc ?_ _) | (with_reducible refine Kept.drew ?_))); exact Kept.refl _ _) hgrow hown hat KB KO K (by have := BW.out; omega) (by have := HB.out.1; omega) HB.out.2; obtain ⟨w4, D4, hup, LV4, KB4, KW4, KE⟩ := AR; have E1 := KE O ltO NOb.out.1 (fun g e => (NOb.out.2.2 g e).1); have E2 := KE b1 ltb NOb.out.2.1 (fun g e => (NOb.out.2.2 g e).2); have HS3 : Hid _ := HS.out w3 E1.1 E2.1; have HS4 : Hid _ := HS.out w4 E1.2 E2.2; have HL4 : Hid _ := LV4; clear LV4 KE E1 E2 hown hgrow hat))
        all_goals
          go_wp2
          refine ⟨⟨k + 1, D4, (fun j => if j = x.op.k then .slice (some ⟨g, 0, none⟩) ((lfF es ((ordOf es).take k) x.op.k).length + 1) cap' else val j), by omega, by go_num, ?_, ?_, ?_, ?_⟩, by simp [intOf]; omega⟩
          · exact (by rw [show lfF es ((ordOf es).take (k + 1)) = _ from HNX.out]; exact HL4)
          · have q : SlI w4 bo (ordOf es) := fun h0 => (S1.kept KB4 (fun ad e => by have := NBo.out ad e h0; simp; exact this.1)) h0
            rw [e2] at q
            exact q
          · exact KB4
          · exact KW4
      · by_cases q3 : x.op.d = 3
        · have HNX : Hid (lfF es ((ordOf es).take (k + 1)) = fun j => if j = x.op.k then lfF es ((ordOf es).take k) x.op.k ++ [⟨x.at_, false⟩] else lfF es ((ordOf es).take k) j) := by have q := NXP.out (Or.inr q3); rw [q3] at q; exact q
          rw [q3] at a1
          clear NXO NXP q2 q3
          obtain ⟨i0, hi, hz0, hz1, hz2⟩ := info_parts' info_chg
          go_upto_region 9 with (fail)
          obtain ⟨O, hO⟩ : ∃ O, O = wr.heap.size := ⟨_, rfl⟩
          have Y := OB.new wr ⟨3, x.op.k, x.op.v, x.op.n, x.op.t⟩
          have KO := (Kept.refl [] wr).alloc (.cells #[.int .i64 3, .int .u64 x.op.k, .int .u64 x.op.v, .int .i64 x.op.n, .int .i64 x.op.t] 43)
          have NB : Hid (∀ g, (val x.op.k).ownBlock = some g → base ≤ g ∧ g < O) := fun g e => by rw [hO]; exact (LV.out.row x.op.k).base g e
          have OS : Hid (O = wr.heap.size) := hO
          rw [← hO] at Y
          rw [← hO]
          refine gen_world (fun W => OB W O ⟨3, x.op.k, x.op.v, x.op.n, x.op.t⟩ ∧ Hid (Lvs W b base k D val (lfF es ((ordOf es).take k))) ∧ Kept [] wr W) ⟨Y, LV.out.new KO, KO⟩ ?_
          clear Y KO hO a1 a2 a3 a4 a5 c2
          rintro W ⟨Y, LW, KO⟩
          have y0 := Y.c0
          have y1 := Y.c1
          have y2 := Y.c2
          have ltO := lt_of_blk Y
          have r1 := rangeAt_kept r0 KO (by simp)
          have c7 := rg7 r1
          have ltb : b1 < W.heap.size := lt_of_cell c7
          have LK1 : ∀ o, (Instr.lookup 68 (.map (some b)) (.int .u64 x.op.k) false).run Try.prog (W.alloc o).drew = .ok (val x.op.k) (W.alloc o).drew := fun o => (LW.out.new ((Kept.refl [] W).alloc o).drew).look WF.out
          have LK2 : (Instr.lookup 68 (.map (some b)) (.int .u64 x.op.k) false).run Try.prog W.drew = .ok (val x.op.k) W.drew := (LW.out.new (Kept.refl [] W).drew).look WF.out
          have OW : Hid (OwnV 2 chC W base 87 (val x.op.k) (lfF es ((ordOf es).take k) x.op.k)) := LW.out.row x.op.k
          have LL : Hid ((lfF es ((ordOf es).take k) x.op.k).length ≤ 1000) := by have := lfF_len es ((ordOf es).take k) x.op.k; rw [List.length_take] at this; show _ ≤ _; omega
          have BS : Hid (base ≤ W.heap.size) := by have := BW.out; have := KB.size; have := KO.size; show _ ≤ _; omega
          clear r1
          have HS : Hid (∀ W' : World, W'.heap[O]? = W.heap[O]? → W'.heap[b1]? = W.heap[b1]? → W'.cell? ⟨O, 0, none⟩ = some (.int .i64 3) ∧ W'.cell? ⟨O, 1, none⟩ = some (.int .u64 x.op.k) ∧ W'.cell? ⟨b1, o1 + i * 14 + 7, none⟩ = some (.int .i64 x.at_)) := fun W' h1 h2 => ⟨cell_same h1 y0, cell_same h1 y1, cell_same h2 c7⟩
          have NOb : Hid (O ≠ b ∧ b1 ≠ b ∧ ∀ g, (val x.op.k).ownBlock = some g → g ≠ O ∧ g ≠ b1) := ⟨by have := OS.out; have := LV.out.own.lt; omega, by have := HB.out.1; omega, fun g e => by have := NB.out g e; have := HB.out; omega⟩
          clear y0 y1 y2 c7
          go_region_held_law (fun W' => W'.cell? ⟨O, 0, none⟩ = some (.int .i64 3) ∧ W'.cell? ⟨O, 1, none⟩ = some (.int .u64 x.op.k) ∧ W'.cell? ⟨b1, o1 + i * 14 + 7, none⟩ = some (.int .i64 x.at_))
            (first | exact HS4.out | exact HS3.out | (exact HS.out _ (by first | rfl | (exact blk_alloc_lt _ _ _ ltO)) (by first | rfl | (exact blk_alloc_lt _ _ _ ltb))))
            (first | (refine step_append_lies _ (by rfl) _ _ 72 (by rfl) base 87 i0 (.agg #[.int .i64 0, .bool false]) 2 16 Try.underlying72 hi hz0 hz1 hz2 rfl (by decide) (val x.op.k) (lfF es ((ordOf es).take k) x.op.k).length ((lfF es ((ordOf es).take k) x.op.k).flatMap chC) (by rfl) (OW.out.new (by (repeat (first | (with_reducible refine Kept.alloc ?_ _) | (with_reducible refine Kept.drew ?_))); exact Kept.refl _ _)) ⟨W.heap.size, 0, none⟩ 1 1 [.int .i64 x.at_, .bool false] (by rfl) rfl (World.news_of_block (blk_alloc_new _ _)) (by simp [Value.oneCell']) (by omega) (by have := LL.out; unfold maxLen; omega) (by have := LL.out; omega) (by have := BS.out; simp; omega) _ rfl ?_; intro g cap' w3 hown hgrow hat hlt3; have AR := lives_arm LW.out WF.out (by omega) (by (repeat (first | (with_reducible refine Kept.alloc ?_ _) | (with_reducible refine Kept.drew ?_))); exact Kept.refl _ _) hgrow hown hat KB KO K (by have := BW.out; omega) (by have := HB.out.1; omega) HB.out.2; obtain ⟨w4, D4, hup, LV4, KB4, KW4, KE⟩ := AR; have E1 := KE O ltO NOb.out.1 (fun g e => (NOb.out.2.2 g e).1); have E2 := KE b1 ltb NOb.out.2.1 (fun g e => (NOb.out.2.2 g e).2); have HS3 : Hid _ := HS.out w3 E1.1 E2.1; have HS4 : Hid _ := HS.out w4 E1.2 E2.2; have HL4 : Hid _ := LV4; clear LV4 KE E1 E2 hown hgrow hat))
          all_goals
            go_wp2
            refine ⟨⟨k + 1, D4, (fun j => if j = x.op.k then .slice (some ⟨g, 0, none⟩) ((lfF es ((ordOf es).take k) x.op.k).length + 1) cap' else val j), by omega, by go_num, ?_, ?_, ?_, ?_⟩, by simp [intOf]; omega⟩
            · exact (by rw [show lfF es ((ordOf es).take (k + 1)) = _ from HNX.out]; exact HL4)
            · have q : SlI w4 bo (ordOf es) := fun h0 => (S1.kept KB4 (fun ad e => by have := NBo.out ad e h0; simp; exact this.1)) h0
              rw [e2] at q
              exact q
            · exact KB4
            · exact KW4
        · have NXL : Hid _ := NXO.out q2 q3
          have q2b : (x.op.d == 2) = false := by simpa using q2
          have q3b : (x.op.d == 3) = false := by simpa using q3
          have KA := (Kept.refl [] wr).alloc (.cells #[.int .i64 x.op.d, .int .u64 x.op.k, .int .u64 x.op.v, .int .i64 x.op.n, .int .i64 x.op.t] 43)
          have LV1 := (LV.out.new KA).mono (Nat.le_succ k)
          rw [← show lfF es ((ordOf es).take (k + 1)) = _ from NXL.out] at LV1
          have LV2 : Hid _ := LV1
          have SI1 := S.out.new KA
          rw [e2] at SI1
          have SI2 : Hid _ := SI1
          clear LV1 SI1
          clear LV NXO NXP NXL
          go_wp2
          exact ⟨⟨k + 1, D, val, by omega, by go_num, LV2, SI2, KB.then KA (by simp), K.trans KA⟩, by simp [intOf]; omega⟩
    · have LF : Hid (Lvs wr b base k D val (lfF es (ordOf es))) := by have q := LV.out; rw [List.take_of_length_le (by have := HM.out; omega)] at q; exact q
      clear LV
      go_wp2
      go_ret
      exact (⟨b, base, k, D, val, rfl, LF.out, by omega, by have := HB.out.1; omega, K⟩ : LvP w es _ _)
end Go.Proofs.Ytlmkcakmeldfeaa.Q
