/-
  A guard with two slots.
-/
import Derived.Test.YtpobanjpgdghlaaDoorGWld
namespace Go.Proofs.YtpobanjpgdghlaaDoor
open Go.RowKit (Grown Hid Below)
open Go.Deep
namespace K
set_option maxRecDepth 100000
def c22 : Cfg := ⟨2, 2, 1, 1, 1, 1, 9⟩
def csA (x y : Int) : List Int := [1, 0, 0, x, y, 1, 0, 0, 0, 1, 0, 0, 0, 0, 0, 0, 0, 0, 0]
set_option maxHeartbeats 4000000 in
theorem alive_any (w : World) (hT : Tab w) : Calls Tryd.prog 11 #[] w fun e w' => e = .returned (.bool true) ∧ Kept [] w w' := by
  have NW := hidOf (mnew_yes c22 w hT rfl)
  rw [show fcV c22 = csA 0 0 by rfl] at NW
  go_enter Tryd.func11, Tryd.ntmps11
  go_wp2_with fail
  refine NW.out.mono ?_
  rintro e w1 ⟨m, p, r, rfl, ⟨hm, hp, hr⟩, M, K1⟩
  clear NW hT
  go_wp2_with fail
  refine (gnew_any 1 _).mono ?_
  rintro e w2 ⟨b, rfl, hb, G, K2⟩
  have HX := hidOf (Gw.start K1 hp hr M K2 hb G)
  clear M K1 K2 G hm hp hr hb
  have ST := hidOf (HX.out.check_is (by decide) (by decide) (E := 1) (B := false) rfl rfl)
  go_wp2_with (go_at_call 25; refine HX.out.bank.mono ?_; rintro e w9 ⟨rfl, rfl⟩)
  refine ST.out.mono ?_
  rintro e w3 ⟨rfl, X⟩
  clear HX ST
  have HX := hidOf X
  clear X
  have ST := hidOf (HX.out.publish_is 1 (by decide) (by decide) (by decide) (by decide) (D := true) (g' := ⟨1, 1, 1⟩) (cs' := csA 1 0) rfl rfl rfl)
  go_wp2_with (go_at_call 25; refine HX.out.bank.mono ?_; rintro e w9 ⟨rfl, rfl⟩)
  refine ST.out.mono ?_
  rintro e w4 ⟨rfl, X⟩
  clear HX ST
  have HX := hidOf X
  clear X
  have ST := hidOf (HX.out.check_is (by decide) (by decide) (E := 1) (B := true) rfl rfl)
  go_wp2_with (go_at_call 25; refine HX.out.bank.mono ?_; rintro e w9 ⟨rfl, rfl⟩)
  refine ST.out.mono ?_
  rintro e w5 ⟨rfl, X⟩
  clear HX ST
  have HX := hidOf X
  clear X
  have ST := hidOf (HX.out.publish_is 2 (by decide) (by decide) (by decide) (by decide) (D := true) (g' := ⟨2, 2, 1⟩) (cs' := csA 1 2) rfl rfl rfl)
  go_wp2_with (go_at_call 25; refine HX.out.bank.mono ?_; rintro e w9 ⟨rfl, rfl⟩)
  refine ST.out.mono ?_
  rintro e w6 ⟨rfl, X⟩
  clear HX ST
  have HX := hidOf X
  clear X
  have ST := hidOf (HX.out.publish_is 3 (by decide) (by decide) (by decide) (by decide) (D := false) (g' := ⟨1, 3, 1⟩) (cs' := csA 3 2) rfl rfl rfl)
  go_wp2_with (go_at_call 25; refine HX.out.bank.mono ?_; rintro e w9 ⟨rfl, rfl⟩)
  refine ST.out.mono ?_
  rintro e w7 ⟨rfl, X⟩
  clear HX ST
  have HX := hidOf X
  clear X
  have ST := hidOf (HX.out.latest_is (V := 3) rfl)
  go_wp2_with fail
  refine ST.out.mono ?_
  rintro e w9 ⟨rfl, rfl⟩
  clear ST
  have ST := hidOf (HX.out.reserved_is 1 0 (by decide) (by decide) (V := 3) rfl)
  go_wp2_with (go_at_call 25; refine HX.out.bank.mono ?_; rintro e w9 ⟨rfl, rfl⟩)
  refine ST.out.mono ?_
  rintro e w8 ⟨rfl, X⟩
  clear HX ST
  have HX := hidOf X
  clear X
  have ST := hidOf (HX.out.reserved_is 1 1 (by decide) (by decide) (V := 2) rfl)
  go_wp2_with (go_at_call 25; refine HX.out.bank.mono ?_; rintro e w9 ⟨rfl, rfl⟩)
  refine ST.out.mono ?_
  rintro e w9 ⟨rfl, X⟩
  clear HX ST
  have HX := hidOf X
  clear X
  have ST := hidOf (HX.out.clear_is 1 (by decide) (by decide) (by decide) (by decide) (g' := ⟨0, 0, 1⟩) (cs' := csA 3 0) rfl rfl)
  go_wp2_with (go_at_call 25; refine HX.out.bank.mono ?_; rintro e w9 ⟨rfl, rfl⟩)
  refine ST.out.mono ?_
  rintro e w10 ⟨rfl, X⟩
  clear HX ST
  have HX := hidOf X
  clear X
  have ST := hidOf (HX.out.latest_is (V := 0) rfl)
  go_wp2_with fail
  refine ST.out.mono ?_
  rintro e w9 ⟨rfl, rfl⟩
  clear ST
  have ST := hidOf (HX.out.reserved_is 1 1 (by decide) (by decide) (V := 0) rfl)
  go_wp2_with (go_at_call 25; refine HX.out.bank.mono ?_; rintro e w9 ⟨rfl, rfl⟩)
  refine ST.out.mono ?_
  rintro e w11 ⟨rfl, X⟩
  clear HX ST
  have HX := hidOf X
  clear X
  have ST := hidOf (HX.out.thread_is (V := 1) rfl)
  go_wp2_with fail
  refine ST.out.mono ?_
  rintro e w9 ⟨rfl, rfl⟩
  clear ST
  go_wp2
  go_ret
  exact ⟨rfl, HX.out.kp⟩
end K
end Go.Proofs.YtpobanjpgdghlaaDoor
