/- Texts put together by packtpl2.py: SdSame, StoAct, StoFew, StoFw2, SdPlP, SdR, StoGrw, SdPlW. -/
import Derived.Test.YtjafagfhkpaciaaGreatPkSP1
import Derived.Test.YtjafagfhkpaciaaGreatPkSP2
import Derived.Test.YtjafagfhkpaciaaGreatPkSP3
import Derived.Test.YtjafagfhkpaciaaGreatPkSP5
import Derived.Test.YtjafagfhkpaciaaGreatPkSP6
import Derived.Test.YtjafagfhkpaciaaGreatPkSP7
import Derived.Deep.Slices
import Derived.Deep.Fields
import Derived.SizedLaws
import Derived.OpenShut
import Derived.Deep.CutBlock
import Derived.Deep.OwnRows
import Derived.Laws.ResultCell
import Derived.BigQuiet
import Derived.WalkSmall
section PkSP8_0
/- The law's same, walked. Written by gensdsame.py. -/
namespace Go.Proofs.YtjafagfhkpaciaaGreat
open Go.RowKit
set_option linter.unusedVariables false
set_option linter.unusedSimpArgs false

theorem StIn.siz {base : Nat} {W : World} {s : Nat} {σ : Sto} (h : StIn base W s σ) : W.cell? ⟨s, 4, none⟩ = some (.int .i64 σ.size) := by
  obtain ⟨_, ⟨Mo, Mu, h1, _⟩ | ⟨h1, h2⟩⟩ := h
  · exact cell_blk2 h1.blk rfl
  · rw [h2]; exact h1.cell4
set_option maxRecDepth 100000 in
set_option maxHeartbeats 16000000 in
theorem same14_any {base base' : Nat} {W : World} {s S : Nat} {σ : Sto} {δ : DSto} (hs : StIn base W s σ) (hd : DStAt W S base' δ) (ht : Tie σ δ) (hi : Inv σ) (hidb : σ.id ≤ 1000000000) :
    Calls Tryz.prog 14 #[.pointer (some ⟨s, 0, none⟩), .pointer (some ⟨S, 0, none⟩)] W fun e W' => e = .returned (.bool true) ∧ Below W.heap.size W W' := by
  have HKY := Lib.hid (keys_st hs (by have := hi.nob; omega))
  have HST0 := Lib.hid hs
  have HD0 := Lib.hid hd
  have hN := ht.olen
  have hU := ht.ulen
  have hnob := hi.nob
  have hnup := hi.nup
  have HT := Lib.hid ht
  have HI := Lib.hid hi
  have HIDB := Lib.hid hidb
  clear hs hd ht hi hidb
  go_enter Tryz.func14, Tryz.ntmps14
  go_wp2_with fail
  refine HKY.out.mono ?_
  rintro e w1 ⟨v1, rfl, hrow1, hb1⟩
  have HUP := Lib.hid (uploads_st (HST0.out.below hb1) (by omega))
  have HB1 := Lib.hid hb1
  have HR1 := Lib.hid hrow1
  clear hrow1 hb1 HKY
  go_wp2_with fail
  refine HUP.out.mono ?_
  rintro e W2 ⟨v2, rfl, hrow2, hb2⟩
  obtain ⟨N, hNe⟩ : ∃ N, N = σ.objs.length := ⟨_, rfl⟩
  obtain ⟨U, hUe⟩ : ∃ U, U = σ.ups.length := ⟨_, rfl⟩
  have hrow1 := own_below HR1.out hb2
  rw [← hNe] at hrow1 hN hnob
  rw [← hUe] at hrow2 hU hnup
  obtain ⟨ka, kc, rfl, hkg⟩ := row_get (S := KeyS) (l := σ.objs.map (·.1)) hrow1 (by rw [List.length_map, hNe]) (fun _ _ => trivial)
  obtain ⟨ia, ic, rfl, hig⟩ := row_get (S := IntS) (l := σ.ups.map (·.1)) hrow2 (by rw [List.length_map, hUe]) (fun x hx => by
    obtain ⟨p, hp, rfl⟩ := List.mem_map.1 hx
    have h1 := HI.out.upl p hp
    exact wf_small (by have := HI.out.id; exact ⟨by omega, by have := h1.2.1; have := HIDB.out; omega⟩))
  have hbw := HB1.out.trans (hb2.mono HB1.out.size)
  have HBW := Lib.hid hbw
  have HD := Lib.hid (HD0.out.below hbw)
  have HST := Lib.hid (HST0.out.below hbw)
  obtain ⟨oa, hoa⟩ : ∃ oa, oa = δ.oa := ⟨_, rfl⟩
  obtain ⟨oc, hoc⟩ : ∃ oc, oc = δ.oc := ⟨_, rfl⟩
  obtain ⟨ua, hua⟩ : ∃ ua, ua = δ.ua := ⟨_, rfl⟩
  obtain ⟨uc, huc⟩ : ∃ uc, uc = δ.uc := ⟨_, rfl⟩
  obtain ⟨T, hTe⟩ : ∃ T, T = osum δ.objs + usum δ.ups := ⟨_, rfl⟩
  obtain ⟨now, hnow⟩ : ∃ now, now = σ.now := ⟨_, rfl⟩
  have hS2 : S < W2.heap.size := (Array.getElem?_eq_some_iff.1 HD.out.blk).1
  have c0 : W2.cell? ⟨S, 0, none⟩ = some (.slice oa N oc) := by rw [hN, hoa, hoc]; exact cell_blkD HD.out.blk (i := 0) rfl
  have c1 : W2.cell? ⟨S, 1, none⟩ = some (.slice ua U uc) := by rw [hU, hua, huc]; exact cell_blkD HD.out.blk (i := 1) rfl
  have c4 : W2.cell? ⟨S, 4, none⟩ = some (.int .i64 now) := by rw [hnow, HT.out.now]; exact cell_blkD HD.out.blk (i := 4) rfl
  have hs9 := Lib.hid (show ∀ w9, Below W2.heap.size W2 w9 → w9.cell? ⟨s, 4, none⟩ = some (.int .i64 (T : Int)) from fun w9 h9 => by
    have h1 := (HST.out.below h9).siz
    rw [HT.out.size HD.out.ok HI.out, ← hTe] at h1
    exact h1)
  have HTT := Lib.hid hTe
  have HNN := Lib.hid hnow
  have HNE := Lib.hid (And.intro hN (And.intro hU (And.intro hoc huc)))
  have HKG := Lib.hid hkg
  have HIG := Lib.hid hig
  have HKQ := Lib.hid (show ∀ i, i < N → (σ.objs.map (·.1)).getD i KeyS.z = (δ.objs.getD i DObjS.z).key from fun i hi => by
    rw [HT.out.objs, List.map_map, List.getD_eq_getElem?_getD, List.getElem?_map, List.getD_eq_getElem?_getD, List.getElem?_eq_getElem (show i < δ.objs.length by rw [← hN]; exact hi)]; rfl)
  have HIQ := Lib.hid (show ∀ i, i < U → (σ.ups.map (·.1)).getD i IntS.z = (δ.ups.getD i DUplS.z).id from fun i hi => by
    rw [HT.out.ids, List.getD_eq_getElem?_getD, List.getElem?_map, List.getD_eq_getElem?_getD, List.getElem?_eq_getElem (show i < δ.ups.length by rw [← hU]; exact hi)]; rfl)
  have HI0 := Lib.hid (Below.refl W2.heap.size W2).drew
  clear hrow1 hrow2 hkg hig hb2 hbw hN hU hoa hoc hua huc hTe hnow hNe hUe HUP HR1
  go_upto_region 2 with fail
  refine wp_region_chain (by kernel_rfl) (by kernel_rfl) (by kernel_rfl) [20, 22, 27] true (by kernel_rfl) (fun k u y => match k with
      | 0 => Below W2.heap.size W2 y
      | 1 => Below W2.heap.size W2 y ∧ True
      | 2 => Below W2.heap.size W2 y ∧ True
      | _ => Below W2.heap.size W2 y ∧ True) (fun y => Below W2.heap.size W2 y) (fun j_9 => match j_9 with | 0 => some (.slice ka N kc) | 1 => some (.int .i64 (N : Int)) | 2 => some ((.pointer (some ⟨S, 0, none⟩))) | 3 => some ((.pointer (some ⟨S, 0, none⟩))) | 4 => some ((.pointer (some ⟨S, 0, none⟩))) | 5 => some (.slice oa N oc) | 6 => some (.int .i64 (N : Int)) | 7 => some (.bool false) | 8 => some (.bool false) | 9 => some (.slice ia U ic) | 10 => some (.int .i64 (U : Int)) | 11 => some ((.pointer (some ⟨S, 0, none⟩))) | 12 => some ((.pointer (some ⟨S, 0, none⟩))) | 13 => some ((.pointer (some ⟨S, 1, none⟩))) | 14 => some (.slice ua U uc) | 15 => some (.int .i64 (U : Int)) | 16 => some (.bool false) | 17 => some (.bool false) | 18 => some (.bool false) | 19 => some ((.pointer (some ⟨s, 0, none⟩))) | 20 => some (.int .i64 (T : Int)) | 21 => some ((.pointer (some ⟨S, 0, none⟩))) | 22 => some (.int .i64 (T : Int)) | 23 => some (.bool false) | 24 => some (.bool false) | 25 => some (.bool false) | 26 => some ((.pointer (some ⟨s, 0, none⟩))) | 27 => some (.int .i64 now) | 28 => some ((.pointer (some ⟨S, 0, none⟩))) | 29 => some ((.pointer (some ⟨S, 0, none⟩))) | 30 => some ((.pointer (some ⟨S, 4, none⟩))) | 31 => some (.int .i64 now) | 32 => some (.bool false) | 33 => some (.bool false) | _ => none) (by rfl) (fun u => HI0.out) (fun k u y hk9 hk hs => by
      match k, hk, hs with
      | 0, _, hs => exact hs
      | 1, _, hs => exact hs.1
      | 2, _, hs => exact hs.1
      | 3, _, hs => exact hs.1) ?_ ?_ ?_
  · intro i9 o ho hc9 V w9 K hR9 hdep hK
    have HR9 := Lib.hid hR9
    simp only [fill, slotOf, List.size_toArray, List.length_cons, List.length_nil, Nat.reduceAdd, List.getElem?_toArray, List.getElem?_cons_zero, List.getElem?_cons_succ, Option.bind_some, Act.put, List.setIfInBounds_toArray, List.set_cons_zero, List.set_cons_succ] at hK ⊢
    have hin9 : i9 < 34 := (Array.getElem?_eq_some_iff.1 ho).1
    have hcs : i9 = 0 ∨ i9 = 1 ∨ i9 = 2 ∨ i9 = 3 ∨ i9 = 4 ∨ i9 = 5 ∨ i9 = 6 ∨ i9 = 7 ∨ i9 = 8 ∨ i9 = 9 ∨ i9 = 10 ∨ i9 = 11 ∨ i9 = 12 ∨ i9 = 13 ∨ i9 = 14 ∨ i9 = 15 ∨ i9 = 16 ∨ i9 = 17 ∨ i9 = 18 ∨ i9 = 19 ∨ i9 = 20 ∨ i9 = 21 ∨ i9 = 22 ∨ i9 = 23 ∨ i9 = 24 ∨ i9 = 25 ∨ i9 = 26 ∨ i9 = 27 ∨ i9 = 28 ∨ i9 = 29 ∨ i9 = 30 ∨ i9 = 31 ∨ i9 = 32 ∨ i9 = 33 := by omega
    clear hin9
    rcases hcs with rfl | rfl | rfl | rfl | rfl | rfl | rfl | rfl | rfl | rfl | rfl | rfl | rfl | rfl | rfl | rfl | rfl | rfl | rfl | rfl | rfl | rfl | rfl | rfl | rfl | rfl | rfl | rfl | rfl | rfl | rfl | rfl | rfl | rfl
    · obtain rfl := Option.some.inj ho.symm
      clear hdep ho hR9 hc9
      try simp only [fill, slotOf, List.size_toArray, List.length_cons, List.length_nil, Nat.reduceAdd, List.getElem?_toArray, List.getElem?_cons_zero, List.getElem?_cons_succ, Option.bind_some, Act.put, List.setIfInBounds_toArray, List.set_cons_zero, List.set_cons_succ] at hK ⊢
      go_simp
      exact hK (.slice ka N kc) rfl _ rfl
    · obtain rfl := Option.some.inj ho.symm
      have d0 : V 0 = .slice ka N kc := hdep ⟨0, .data⟩ (by simp) rfl _ rfl
      clear hdep ho hR9 hc9
      try simp only [fill, slotOf, List.size_toArray, List.length_cons, List.length_nil, Nat.reduceAdd, List.getElem?_toArray, List.getElem?_cons_zero, List.getElem?_cons_succ, Option.bind_some, Act.put, List.setIfInBounds_toArray, List.set_cons_zero, List.set_cons_succ] at hK ⊢
      rw [d0] at hK ⊢
      go_simp
      exact hK (.int .i64 (N : Int)) rfl _ rfl
    · obtain rfl := Option.some.inj ho.symm
      clear hdep ho hR9 hc9
      try simp only [fill, slotOf, List.size_toArray, List.length_cons, List.length_nil, Nat.reduceAdd, List.getElem?_toArray, List.getElem?_cons_zero, List.getElem?_cons_succ, Option.bind_some, Act.put, List.setIfInBounds_toArray, List.set_cons_zero, List.set_cons_succ] at hK ⊢
      go_simp
      exact hK ((.pointer (some ⟨S, 0, none⟩))) rfl _ rfl
    · obtain rfl := Option.some.inj ho.symm
      have d2 : V 2 = (.pointer (some ⟨S, 0, none⟩)) := hdep ⟨2, .data⟩ (by simp) rfl _ rfl
      clear hdep ho hR9 hc9
      try simp only [fill, slotOf, List.size_toArray, List.length_cons, List.length_nil, Nat.reduceAdd, List.getElem?_toArray, List.getElem?_cons_zero, List.getElem?_cons_succ, Option.bind_some, Act.put, List.setIfInBounds_toArray, List.set_cons_zero, List.set_cons_succ] at hK ⊢
      rw [d2] at hK ⊢
      go_simp
      exact hK ((.pointer (some ⟨S, 0, none⟩))) rfl _ rfl
    · obtain rfl := Option.some.inj ho.symm
      have d3 : V 3 = (.pointer (some ⟨S, 0, none⟩)) := hdep ⟨3, .data⟩ (by simp) rfl _ rfl
      clear hdep ho hR9 hc9
      try simp only [fill, slotOf, List.size_toArray, List.length_cons, List.length_nil, Nat.reduceAdd, List.getElem?_toArray, List.getElem?_cons_zero, List.getElem?_cons_succ, Option.bind_some, Act.put, List.setIfInBounds_toArray, List.set_cons_zero, List.set_cons_succ] at hK ⊢
      rw [d3] at hK ⊢
      go_simp
      exact hK ((.pointer (some ⟨S, 0, none⟩))) rfl _ rfl
    · obtain rfl := Option.some.inj ho.symm
      have d4 : V 4 = (.pointer (some ⟨S, 0, none⟩)) := hdep ⟨4, .data⟩ (by simp) rfl _ rfl
      have u0 : w9.cell? ⟨S, 0, none⟩ = some (.slice oa N oc) := (HR9.out.cell (p := ⟨S, 0, none⟩) hS2).trans c0
      clear hdep ho hR9 hc9
      try simp only [fill, slotOf, List.size_toArray, List.length_cons, List.length_nil, Nat.reduceAdd, List.getElem?_toArray, List.getElem?_cons_zero, List.getElem?_cons_succ, Option.bind_some, Act.put, List.setIfInBounds_toArray, List.set_cons_zero, List.set_cons_succ] at hK ⊢
      rw [d4] at hK ⊢
      go_simp
      exact hK (.slice oa N oc) rfl _ rfl
    · obtain rfl := Option.some.inj ho.symm
      have d5 : V 5 = .slice oa N oc := hdep ⟨5, .data⟩ (by simp) rfl _ rfl
      clear hdep ho hR9 hc9
      try simp only [fill, slotOf, List.size_toArray, List.length_cons, List.length_nil, Nat.reduceAdd, List.getElem?_toArray, List.getElem?_cons_zero, List.getElem?_cons_succ, Option.bind_some, Act.put, List.setIfInBounds_toArray, List.set_cons_zero, List.set_cons_succ] at hK ⊢
      rw [d5] at hK ⊢
      go_simp
      exact hK (.int .i64 (N : Int)) rfl _ rfl
    · obtain rfl := Option.some.inj ho.symm
      have d1 : V 1 = .int .i64 (N : Int) := hdep ⟨1, .data⟩ (by simp) rfl _ rfl
      have d6 : V 6 = .int .i64 (N : Int) := hdep ⟨6, .data⟩ (by simp) rfl _ rfl
      clear hdep ho hR9 hc9
      try simp only [fill, slotOf, List.size_toArray, List.length_cons, List.length_nil, Nat.reduceAdd, List.getElem?_toArray, List.getElem?_cons_zero, List.getElem?_cons_succ, Option.bind_some, Act.put, List.setIfInBounds_toArray, List.set_cons_zero, List.set_cons_succ] at hK ⊢
      rw [d1, d6] at hK ⊢
      go_simp
      exact hK (.bool false) rfl _ rfl
    · obtain rfl := Option.some.inj ho.symm
      have d7 : V 7 = .bool false := hdep ⟨7, .data⟩ (by simp) rfl _ rfl
      clear hdep ho hR9 hc9
      try simp only [fill, slotOf, List.size_toArray, List.length_cons, List.length_nil, Nat.reduceAdd, List.getElem?_toArray, List.getElem?_cons_zero, List.getElem?_cons_succ, Option.bind_some, Act.put, List.setIfInBounds_toArray, List.set_cons_zero, List.set_cons_succ] at hK ⊢
      rw [d7] at hK ⊢
      go_simp
      exact hK (.bool false) rfl _ rfl
    · obtain rfl := Option.some.inj ho.symm
      have d8 : V 8 = .bool false := hdep ⟨8, .guard⟩ (by simp) rfl _ rfl
      clear hdep ho hR9 hc9
      try simp only [fill, slotOf, List.size_toArray, List.length_cons, List.length_nil, Nat.reduceAdd, List.getElem?_toArray, List.getElem?_cons_zero, List.getElem?_cons_succ, Option.bind_some, Act.put, List.setIfInBounds_toArray, List.set_cons_zero, List.set_cons_succ] at hK ⊢
      rw [d8] at hK ⊢
      go_simp
      exact hK (.slice ia U ic) rfl _ rfl
    · obtain rfl := Option.some.inj ho.symm
      have d9 : V 9 = .slice ia U ic := hdep ⟨9, .data⟩ (by simp) rfl _ rfl
      have d8 : V 8 = .bool false := hdep ⟨8, .guard⟩ (by simp) rfl _ rfl
      clear hdep ho hR9 hc9
      try simp only [fill, slotOf, List.size_toArray, List.length_cons, List.length_nil, Nat.reduceAdd, List.getElem?_toArray, List.getElem?_cons_zero, List.getElem?_cons_succ, Option.bind_some, Act.put, List.setIfInBounds_toArray, List.set_cons_zero, List.set_cons_succ] at hK ⊢
      rw [d9, d8] at hK ⊢
      go_simp
      exact hK (.int .i64 (U : Int)) rfl _ rfl
    · obtain rfl := Option.some.inj ho.symm
      have d8 : V 8 = .bool false := hdep ⟨8, .guard⟩ (by simp) rfl _ rfl
      clear hdep ho hR9 hc9
      try simp only [fill, slotOf, List.size_toArray, List.length_cons, List.length_nil, Nat.reduceAdd, List.getElem?_toArray, List.getElem?_cons_zero, List.getElem?_cons_succ, Option.bind_some, Act.put, List.setIfInBounds_toArray, List.set_cons_zero, List.set_cons_succ] at hK ⊢
      rw [d8] at hK ⊢
      go_simp
      exact hK ((.pointer (some ⟨S, 0, none⟩))) rfl _ rfl
    · obtain rfl := Option.some.inj ho.symm
      have d11 : V 11 = (.pointer (some ⟨S, 0, none⟩)) := hdep ⟨11, .data⟩ (by simp) rfl _ rfl
      have d8 : V 8 = .bool false := hdep ⟨8, .guard⟩ (by simp) rfl _ rfl
      clear hdep ho hR9 hc9
      try simp only [fill, slotOf, List.size_toArray, List.length_cons, List.length_nil, Nat.reduceAdd, List.getElem?_toArray, List.getElem?_cons_zero, List.getElem?_cons_succ, Option.bind_some, Act.put, List.setIfInBounds_toArray, List.set_cons_zero, List.set_cons_succ] at hK ⊢
      rw [d11, d8] at hK ⊢
      go_simp
      exact hK ((.pointer (some ⟨S, 0, none⟩))) rfl _ rfl
    · obtain rfl := Option.some.inj ho.symm
      have d12 : V 12 = (.pointer (some ⟨S, 0, none⟩)) := hdep ⟨12, .data⟩ (by simp) rfl _ rfl
      have d8 : V 8 = .bool false := hdep ⟨8, .guard⟩ (by simp) rfl _ rfl
      clear hdep ho hR9 hc9
      try simp only [fill, slotOf, List.size_toArray, List.length_cons, List.length_nil, Nat.reduceAdd, List.getElem?_toArray, List.getElem?_cons_zero, List.getElem?_cons_succ, Option.bind_some, Act.put, List.setIfInBounds_toArray, List.set_cons_zero, List.set_cons_succ] at hK ⊢
      rw [d12, d8] at hK ⊢
      go_simp
      exact hK ((.pointer (some ⟨S, 1, none⟩))) rfl _ rfl
    · obtain rfl := Option.some.inj ho.symm
      have d13 : V 13 = (.pointer (some ⟨S, 1, none⟩)) := hdep ⟨13, .data⟩ (by simp) rfl _ rfl
      have d8 : V 8 = .bool false := hdep ⟨8, .guard⟩ (by simp) rfl _ rfl
      have u0 : w9.cell? ⟨S, 1, none⟩ = some (.slice ua U uc) := (HR9.out.cell (p := ⟨S, 1, none⟩) hS2).trans c1
      clear hdep ho hR9 hc9
      try simp only [fill, slotOf, List.size_toArray, List.length_cons, List.length_nil, Nat.reduceAdd, List.getElem?_toArray, List.getElem?_cons_zero, List.getElem?_cons_succ, Option.bind_some, Act.put, List.setIfInBounds_toArray, List.set_cons_zero, List.set_cons_succ] at hK ⊢
      rw [d13, d8] at hK ⊢
      go_simp
      exact hK (.slice ua U uc) rfl _ rfl
    · obtain rfl := Option.some.inj ho.symm
      have d14 : V 14 = .slice ua U uc := hdep ⟨14, .data⟩ (by simp) rfl _ rfl
      have d8 : V 8 = .bool false := hdep ⟨8, .guard⟩ (by simp) rfl _ rfl
      clear hdep ho hR9 hc9
      try simp only [fill, slotOf, List.size_toArray, List.length_cons, List.length_nil, Nat.reduceAdd, List.getElem?_toArray, List.getElem?_cons_zero, List.getElem?_cons_succ, Option.bind_some, Act.put, List.setIfInBounds_toArray, List.set_cons_zero, List.set_cons_succ] at hK ⊢
      rw [d14, d8] at hK ⊢
      go_simp
      exact hK (.int .i64 (U : Int)) rfl _ rfl
    · obtain rfl := Option.some.inj ho.symm
      have d10 : V 10 = .int .i64 (U : Int) := hdep ⟨10, .data⟩ (by simp) rfl _ rfl
      have d15 : V 15 = .int .i64 (U : Int) := hdep ⟨15, .data⟩ (by simp) rfl _ rfl
      have d8 : V 8 = .bool false := hdep ⟨8, .guard⟩ (by simp) rfl _ rfl
      clear hdep ho hR9 hc9
      try simp only [fill, slotOf, List.size_toArray, List.length_cons, List.length_nil, Nat.reduceAdd, List.getElem?_toArray, List.getElem?_cons_zero, List.getElem?_cons_succ, Option.bind_some, Act.put, List.setIfInBounds_toArray, List.set_cons_zero, List.set_cons_succ] at hK ⊢
      rw [d10, d15, d8] at hK ⊢
      go_simp
      exact hK (.bool false) rfl _ rfl
    · obtain rfl := Option.some.inj ho.symm
      have d8 : V 8 = .bool false := hdep ⟨8, .data⟩ (by simp) rfl _ rfl
      have d16 : V 16 = .bool false := hdep ⟨16, .data⟩ (by simp) rfl _ rfl
      clear hdep ho hR9 hc9
      try simp only [fill, slotOf, List.size_toArray, List.length_cons, List.length_nil, Nat.reduceAdd, List.getElem?_toArray, List.getElem?_cons_zero, List.getElem?_cons_succ, Option.bind_some, Act.put, List.setIfInBounds_toArray, List.set_cons_zero, List.set_cons_succ] at hK ⊢
      rw [d8, d16] at hK ⊢
      go_simp
      exact hK (.bool false) rfl _ rfl
    · obtain rfl := Option.some.inj ho.symm
      have d17 : V 17 = .bool false := hdep ⟨17, .data⟩ (by simp) rfl _ rfl
      clear hdep ho hR9 hc9
      try simp only [fill, slotOf, List.size_toArray, List.length_cons, List.length_nil, Nat.reduceAdd, List.getElem?_toArray, List.getElem?_cons_zero, List.getElem?_cons_succ, Option.bind_some, Act.put, List.setIfInBounds_toArray, List.set_cons_zero, List.set_cons_succ] at hK ⊢
      rw [d17] at hK ⊢
      go_simp
      exact hK (.bool false) rfl _ rfl
    · obtain rfl := Option.some.inj ho.symm
      have d18 : V 18 = .bool false := hdep ⟨18, .guard⟩ (by simp) rfl _ rfl
      clear hdep ho hR9 hc9
      try simp only [fill, slotOf, List.size_toArray, List.length_cons, List.length_nil, Nat.reduceAdd, List.getElem?_toArray, List.getElem?_cons_zero, List.getElem?_cons_succ, Option.bind_some, Act.put, List.setIfInBounds_toArray, List.set_cons_zero, List.set_cons_succ] at hK ⊢
      rw [d18] at hK ⊢
      go_simp
      exact hK ((.pointer (some ⟨s, 0, none⟩))) rfl _ rfl
    · cases hc9
    · obtain rfl := Option.some.inj ho.symm
      have d18 : V 18 = .bool false := hdep ⟨18, .guard⟩ (by simp) rfl _ rfl
      clear hdep ho hR9 hc9
      try simp only [fill, slotOf, List.size_toArray, List.length_cons, List.length_nil, Nat.reduceAdd, List.getElem?_toArray, List.getElem?_cons_zero, List.getElem?_cons_succ, Option.bind_some, Act.put, List.setIfInBounds_toArray, List.set_cons_zero, List.set_cons_succ] at hK ⊢
      rw [d18] at hK ⊢
      go_simp
      exact hK ((.pointer (some ⟨S, 0, none⟩))) rfl _ rfl
    · cases hc9
    · obtain rfl := Option.some.inj ho.symm
      have d20 : V 20 = .int .i64 (T : Int) := hdep ⟨20, .data⟩ (by simp) rfl _ rfl
      have d22 : V 22 = .int .i64 (T : Int) := hdep ⟨22, .data⟩ (by simp) rfl _ rfl
      have d18 : V 18 = .bool false := hdep ⟨18, .guard⟩ (by simp) rfl _ rfl
      clear hdep ho hR9 hc9
      try simp only [fill, slotOf, List.size_toArray, List.length_cons, List.length_nil, Nat.reduceAdd, List.getElem?_toArray, List.getElem?_cons_zero, List.getElem?_cons_succ, Option.bind_some, Act.put, List.setIfInBounds_toArray, List.set_cons_zero, List.set_cons_succ] at hK ⊢
      rw [d20, d22, d18] at hK ⊢
      go_simp
      exact hK (.bool false) rfl _ rfl
    · obtain rfl := Option.some.inj ho.symm
      have d18 : V 18 = .bool false := hdep ⟨18, .data⟩ (by simp) rfl _ rfl
      have d23 : V 23 = .bool false := hdep ⟨23, .data⟩ (by simp) rfl _ rfl
      clear hdep ho hR9 hc9
      try simp only [fill, slotOf, List.size_toArray, List.length_cons, List.length_nil, Nat.reduceAdd, List.getElem?_toArray, List.getElem?_cons_zero, List.getElem?_cons_succ, Option.bind_some, Act.put, List.setIfInBounds_toArray, List.set_cons_zero, List.set_cons_succ] at hK ⊢
      rw [d18, d23] at hK ⊢
      go_simp
      exact hK (.bool false) rfl _ rfl
    · obtain rfl := Option.some.inj ho.symm
      have d24 : V 24 = .bool false := hdep ⟨24, .data⟩ (by simp) rfl _ rfl
      clear hdep ho hR9 hc9
      try simp only [fill, slotOf, List.size_toArray, List.length_cons, List.length_nil, Nat.reduceAdd, List.getElem?_toArray, List.getElem?_cons_zero, List.getElem?_cons_succ, Option.bind_some, Act.put, List.setIfInBounds_toArray, List.set_cons_zero, List.set_cons_succ] at hK ⊢
      rw [d24] at hK ⊢
      go_simp
      exact hK (.bool false) rfl _ rfl
    · obtain rfl := Option.some.inj ho.symm
      have d25 : V 25 = .bool false := hdep ⟨25, .guard⟩ (by simp) rfl _ rfl
      clear hdep ho hR9 hc9
      try simp only [fill, slotOf, List.size_toArray, List.length_cons, List.length_nil, Nat.reduceAdd, List.getElem?_toArray, List.getElem?_cons_zero, List.getElem?_cons_succ, Option.bind_some, Act.put, List.setIfInBounds_toArray, List.set_cons_zero, List.set_cons_succ] at hK ⊢
      rw [d25] at hK ⊢
      go_simp
      exact hK ((.pointer (some ⟨s, 0, none⟩))) rfl _ rfl
    · cases hc9
    · obtain rfl := Option.some.inj ho.symm
      have d25 : V 25 = .bool false := hdep ⟨25, .guard⟩ (by simp) rfl _ rfl
      clear hdep ho hR9 hc9
      try simp only [fill, slotOf, List.size_toArray, List.length_cons, List.length_nil, Nat.reduceAdd, List.getElem?_toArray, List.getElem?_cons_zero, List.getElem?_cons_succ, Option.bind_some, Act.put, List.setIfInBounds_toArray, List.set_cons_zero, List.set_cons_succ] at hK ⊢
      rw [d25] at hK ⊢
      go_simp
      exact hK ((.pointer (some ⟨S, 0, none⟩))) rfl _ rfl
    · obtain rfl := Option.some.inj ho.symm
      have d28 : V 28 = (.pointer (some ⟨S, 0, none⟩)) := hdep ⟨28, .data⟩ (by simp) rfl _ rfl
      have d25 : V 25 = .bool false := hdep ⟨25, .guard⟩ (by simp) rfl _ rfl
      clear hdep ho hR9 hc9
      try simp only [fill, slotOf, List.size_toArray, List.length_cons, List.length_nil, Nat.reduceAdd, List.getElem?_toArray, List.getElem?_cons_zero, List.getElem?_cons_succ, Option.bind_some, Act.put, List.setIfInBounds_toArray, List.set_cons_zero, List.set_cons_succ] at hK ⊢
      rw [d28, d25] at hK ⊢
      go_simp
      exact hK ((.pointer (some ⟨S, 0, none⟩))) rfl _ rfl
    · obtain rfl := Option.some.inj ho.symm
      have d29 : V 29 = (.pointer (some ⟨S, 0, none⟩)) := hdep ⟨29, .data⟩ (by simp) rfl _ rfl
      have d25 : V 25 = .bool false := hdep ⟨25, .guard⟩ (by simp) rfl _ rfl
      clear hdep ho hR9 hc9
      try simp only [fill, slotOf, List.size_toArray, List.length_cons, List.length_nil, Nat.reduceAdd, List.getElem?_toArray, List.getElem?_cons_zero, List.getElem?_cons_succ, Option.bind_some, Act.put, List.setIfInBounds_toArray, List.set_cons_zero, List.set_cons_succ] at hK ⊢
      rw [d29, d25] at hK ⊢
      go_simp
      exact hK ((.pointer (some ⟨S, 4, none⟩))) rfl _ rfl
    · obtain rfl := Option.some.inj ho.symm
      have d30 : V 30 = (.pointer (some ⟨S, 4, none⟩)) := hdep ⟨30, .data⟩ (by simp) rfl _ rfl
      have d25 : V 25 = .bool false := hdep ⟨25, .guard⟩ (by simp) rfl _ rfl
      have u0 : w9.cell? ⟨S, 4, none⟩ = some (.int .i64 now) := (HR9.out.cell (p := ⟨S, 4, none⟩) hS2).trans c4
      clear hdep ho hR9 hc9
      try simp only [fill, slotOf, List.size_toArray, List.length_cons, List.length_nil, Nat.reduceAdd, List.getElem?_toArray, List.getElem?_cons_zero, List.getElem?_cons_succ, Option.bind_some, Act.put, List.setIfInBounds_toArray, List.set_cons_zero, List.set_cons_succ] at hK ⊢
      rw [d30, d25] at hK ⊢
      go_simp
      exact hK (.int .i64 now) rfl _ rfl
    · obtain rfl := Option.some.inj ho.symm
      have d27 : V 27 = .int .i64 now := hdep ⟨27, .data⟩ (by simp) rfl _ rfl
      have d31 : V 31 = .int .i64 now := hdep ⟨31, .data⟩ (by simp) rfl _ rfl
      have d25 : V 25 = .bool false := hdep ⟨25, .guard⟩ (by simp) rfl _ rfl
      clear hdep ho hR9 hc9
      try simp only [fill, slotOf, List.size_toArray, List.length_cons, List.length_nil, Nat.reduceAdd, List.getElem?_toArray, List.getElem?_cons_zero, List.getElem?_cons_succ, Option.bind_some, Act.put, List.setIfInBounds_toArray, List.set_cons_zero, List.set_cons_succ] at hK ⊢
      rw [d27, d31, d25] at hK ⊢
      go_simp
      exact hK (.bool false) rfl _ rfl
    · obtain rfl := Option.some.inj ho.symm
      have d25 : V 25 = .bool false := hdep ⟨25, .data⟩ (by simp) rfl _ rfl
      have d32 : V 32 = .bool false := hdep ⟨32, .data⟩ (by simp) rfl _ rfl
      clear hdep ho hR9 hc9
      try simp only [fill, slotOf, List.size_toArray, List.length_cons, List.length_nil, Nat.reduceAdd, List.getElem?_toArray, List.getElem?_cons_zero, List.getElem?_cons_succ, Option.bind_some, Act.put, List.setIfInBounds_toArray, List.set_cons_zero, List.set_cons_succ] at hK ⊢
      rw [d25, d32] at hK ⊢
      go_simp
      exact hK (.bool false) rfl _ rfl
  · intro i9 j9 o he9 ho V w9 K hS9 hdep hK
    simp only [fill, slotOf, List.size_toArray, List.length_cons, List.length_nil, Nat.reduceAdd, List.getElem?_toArray, List.getElem?_cons_zero, List.getElem?_cons_succ, Option.bind_some, Act.put, List.setIfInBounds_toArray, List.set_cons_zero, List.set_cons_succ] at hK ⊢
    have hin9 : i9 < 3 := (List.getElem?_eq_some_iff.1 he9).1
    have hcs : i9 = 0 ∨ i9 = 1 ∨ i9 = 2 := by omega
    clear hin9
    rcases hcs with rfl | rfl | rfl
    · obtain rfl := Option.some.inj he9.symm
      obtain rfl := Option.some.inj ho.symm
      have d19 : V 19 = (.pointer (some ⟨s, 0, none⟩)) := hdep ⟨19, .data⟩ (by simp) rfl _ rfl
      have d18 : V 18 = .bool false := hdep ⟨18, .guard⟩ (by simp) rfl _ rfl
      have hs : Below W2.heap.size W2 w9 := hS9
      have HC := Lib.hid (size_of (hs9.out w9 hs))
      have HS9 := Lib.hid hs
      clear hdep ho he9 hS9 hs
      try simp only [fill, slotOf, List.size_toArray, List.length_cons, List.length_nil, Nat.reduceAdd, List.getElem?_toArray, List.getElem?_cons_zero, List.getElem?_cons_succ, Option.bind_some, Act.put, List.setIfInBounds_toArray, List.set_cons_zero, List.set_cons_succ] at hK ⊢
      rw [d19, d18] at hK ⊢
      go_simp
      refine HC.out.mono ?_
      rintro e w8 ⟨rfl, hw8⟩
      rw [hw8]
      exact hK _ w9 ⟨HS9.out, trivial⟩ (fun y h => Option.some.inj h) _ rfl
    · obtain rfl := Option.some.inj he9.symm
      obtain rfl := Option.some.inj ho.symm
      have d21 : V 21 = (.pointer (some ⟨S, 0, none⟩)) := hdep ⟨21, .data⟩ (by simp) rfl _ rfl
      have d18 : V 18 = .bool false := hdep ⟨18, .guard⟩ (by simp) rfl _ rfl
      have hs : Below W2.heap.size W2 w9 := hS9.1
      have HC := Lib.hid (dsize_any (HD.out.below hs))
      rw [← HTT.out] at HC
      have HS9 := Lib.hid hs
      clear hdep ho he9 hS9 hs
      try simp only [fill, slotOf, List.size_toArray, List.length_cons, List.length_nil, Nat.reduceAdd, List.getElem?_toArray, List.getElem?_cons_zero, List.getElem?_cons_succ, Option.bind_some, Act.put, List.setIfInBounds_toArray, List.set_cons_zero, List.set_cons_succ] at hK ⊢
      rw [d21, d18] at hK ⊢
      go_simp
      refine HC.out.mono ?_
      rintro e w8 ⟨rfl, hb8⟩
      exact hK _ w8 ⟨HS9.out.trans (hb8.mono HS9.out.size), trivial⟩ (fun y h => Option.some.inj h) _ rfl
    · obtain rfl := Option.some.inj he9.symm
      obtain rfl := Option.some.inj ho.symm
      have d26 : V 26 = (.pointer (some ⟨s, 0, none⟩)) := hdep ⟨26, .data⟩ (by simp) rfl _ rfl
      have d25 : V 25 = .bool false := hdep ⟨25, .guard⟩ (by simp) rfl _ rfl
      have hs : Below W2.heap.size W2 w9 := hS9.1
      have HC := Lib.hid (now_any (HST.out.below hs))
      rw [← HNN.out] at HC
      have HS9 := Lib.hid hs
      clear hdep ho he9 hS9 hs
      try simp only [fill, slotOf, List.size_toArray, List.length_cons, List.length_nil, Nat.reduceAdd, List.getElem?_toArray, List.getElem?_cons_zero, List.getElem?_cons_succ, Option.bind_some, Act.put, List.setIfInBounds_toArray, List.set_cons_zero, List.set_cons_succ] at hK ⊢
      rw [d26, d25] at hK ⊢
      go_simp
      refine HC.out.mono ?_
      rintro e w8 ⟨rfl, hw8⟩
      rw [hw8]
      exact hK _ w9 ⟨HS9.out, trivial⟩ (fun y h => Option.some.inj h) _ rfl
  · intro V wN hS9 hv9
    have HBN := Lib.hid (show Below W2.heap.size W2 wN from hS9.1)
    have d33 : V 33 = .bool false := hv9 33 _ (by decide) rfl
    clear hS9 hv9
    simp only [fill, slotOf, List.size_toArray, List.length_cons, List.length_nil, Nat.reduceAdd, List.getElem?_toArray, List.getElem?_cons_zero, List.getElem?_cons_succ, Option.bind_some, Act.put, List.setIfInBounds_toArray, List.set_cons_zero, List.set_cons_succ]
    rw [d33]
    clear d33 c0 c1 c4
    go_wp2_with fail
    go_loopw [49] (fun s49 wr => ∃ i : Nat, i ≤ N ∧ s49 = .int .i64 (i : Int) ∧ Hid (Below W2.heap.size W2 wr)) (fun s49 _ => N - (intOf s49).toNat)
    case atStart => exact ⟨0, by omega, rfl, HBN⟩
    case round =>
      clear HBN
      obtain ⟨i, hi, rfl, HBN⟩ := hrel
      rename World => wr
      by_cases hk : i < N
      · obtain ⟨g, ha, _, hgl, hcell⟩ := HKG.out i hk
        obtain ⟨b, off, hoa, _, _, hc⟩ := (HD.out.below HBN.out).objs.get (show i < δ.objs.length from by rw [← HNE.out.1]; exact hk)
        obtain ⟨q, hq⟩ : ∃ q, q = (δ.objs.getD i DObjS.z).key := ⟨_, rfl⟩
        have k1 : wr.cell? ⟨b, off + i * 4, none⟩ = some (.string q) := hc 0 _ (by rw [hq]; rfl)
        have k0 : wr.cell? ⟨g, i, none⟩ = some (.string q) := by
          have h1 := hcell 0 (.string q) (by rw [HKQ.out i hk, ← hq]; rfl)
          rw [show i * (KeyS).K + 0 = i from Nat.mul_one i] at h1
          exact (HBN.out.cell (p := ⟨g, i, none⟩) hgl).trans h1
        have c0 : wr.cell? ⟨S, 0, none⟩ = some (.slice (some ⟨b, off, none⟩) N oc) := by
          have h1 := cell_blkD (HD.out.below HBN.out).blk (i := 0) (u := .slice δ.oa δ.objs.length δ.oc) rfl
          rw [hoa, ← HNE.out.1, ← HNE.out.2.2.1] at h1
          exact h1
        have zi : (i : Int) < (N : Int) := by omega
        have zi0 : (0 : Int) ≤ (i : Int) := by omega
        have wi : IntKind.i64.wrap ((i : Int) + 1) = (i : Int) + 1 := IntWalk.i64_in _ (by omega)
        clear hcell hc hq hoa
        subst ha
        go_upto_region 7 with fail
        go_quiet (fail)
        rename Nat => nq
        have HBQ := Lib.hid (show Below W2.heap.size W2 (wr.drewN nq) from ⟨HBN.out.os, HBN.out.tape, HBN.out.output, HBN.out.size, HBN.out.block⟩)
        clear k0 k1 c0
        go_wp2_with fail
        go_roundw
        case rel => exact ⟨i + 1, by omega, by push_cast; rfl, HBQ⟩
        case measure => simp only [intOf]; omega
      · have zi : ¬ (i : Int) < (N : Int) := by omega
        go_wp2_with fail
        go_loopw [68] (fun s68 wv => ∃ i : Nat, i ≤ U ∧ s68 = .int .i64 (i : Int) ∧ Hid (Below W2.heap.size W2 wv)) (fun s68 _ => U - (intOf s68).toNat)
        case atStart => exact ⟨0, by omega, rfl, HBN⟩
        case round =>
          clear HBN
          obtain ⟨k, hi, rfl, HBN⟩ := hrel
          rename World => wv
          by_cases hk2 : k < U
          · obtain ⟨g, ha, _, hgl, hcell⟩ := HIG.out k hk2
            obtain ⟨b, off, hoa, _, _, hc⟩ := (HD.out.below HBN.out).ups.get (show k < δ.ups.length from by rw [← HNE.out.2.1]; exact hk2)
            obtain ⟨q, hq⟩ : ∃ q, q = (δ.ups.getD k DUplS.z).id := ⟨_, rfl⟩
            have k1 : wv.cell? ⟨b, off + k * 4, none⟩ = some (.int .i64 q) := hc 0 _ (by rw [hq]; rfl)
            have k0 : wv.cell? ⟨g, k, none⟩ = some (.int .i64 q) := by
              have h1 := hcell 0 (.int .i64 q) (by rw [HIQ.out k hk2, ← hq]; rfl)
              rw [show k * (IntS).K + 0 = k from Nat.mul_one k] at h1
              exact (HBN.out.cell (p := ⟨g, k, none⟩) hgl).trans h1
            have c1 : wv.cell? ⟨S, 1, none⟩ = some (.slice (some ⟨b, off, none⟩) U uc) := by
              have h1 := cell_blkD (HD.out.below HBN.out).blk (i := 1) (u := .slice δ.ua δ.ups.length δ.uc) rfl
              rw [hoa, ← HNE.out.2.1, ← HNE.out.2.2.2] at h1
              exact h1
            have zi : (k : Int) < (U : Int) := by omega
            have zi0 : (0 : Int) ≤ (k : Int) := by omega
            have wi : IntKind.i64.wrap ((k : Int) + 1) = (k : Int) + 1 := IntWalk.i64_in _ (by omega)
            clear hcell hc hq hoa
            subst ha
            go_upto_region 13 with fail
            go_quiet (fail)
            rename Nat => nq
            have HBQ := Lib.hid (show Below W2.heap.size W2 (wv.drewN nq) from ⟨HBN.out.os, HBN.out.tape, HBN.out.output, HBN.out.size, HBN.out.block⟩)
            clear k0 k1 c1
            go_wp2_with fail
            go_roundw
            case rel => exact ⟨k + 1, by omega, by push_cast; rfl, HBQ⟩
            case measure => simp only [intOf]; omega
          · have zi2 : ¬ (k : Int) < (U : Int) := by omega
            go_wp2_with fail
            first | go_ret2 | go_ret
            exact ⟨rfl, HBW.out.trans (HBN.out.mono HBW.out.size)⟩
end Go.Proofs.YtjafagfhkpaciaaGreat
end PkSP8_0
section PkSP8_1
/- The acts of stage 14's laws, as an argument. Written by genstoact.py. -/
namespace Go.Proofs.YtjafagfhkpaciaaGreat
open Go.ChangeShapes Go.WideShapes Go.Deep Go.RowKit
set_option linter.unusedVariables false

def U8S : Sty Int := ⟨fun z => [.int .u8 z], 1, 0, fun _ z => (Lit.int .u8 z).wf = true, by decide, fun _ => rfl, (fun x u hu => by rw [List.mem_singleton.1 hu]; rfl), fun _ h => h⟩
theorem u8_field {H : Type} {enc : TypeId × Value → H} {W : World} {fuel : Nat} {cs : List Value} {y : DataW H × List MemPlace} (h : DataW.trod enc Tryz.prog W 0 (fun _ => true) true fuel 5 cs = some y) (hw : ∀ n, n ∈ DataW.weights Tryz.prog 5 y.1 → n ≤ reachBytes) :
    ∃ z : Int, cs = U8S.f z ∧ U8S.ok W z := by
  obtain ⟨s, hs, _, hwf⟩ := DataW.trod_int Tryz.underlying5 h
  exact ⟨s, hs, hwf⟩
theorem VecAt.bytes {w : World} {a : Option Addr} {n c : Nat} {l : List Int} (h : VecAt U8S w a n c l) (hn : n ≤ 140737488351232) : BytesAt w a n c (l.map Int.toNat) := by
  refine ⟨by rw [List.length_map]; exact h.len, h.cap, fun y hy => ?_, hn, h.capm, h.nl, fun hp => ?_⟩
  · obtain ⟨z, hz, rfl⟩ := List.mem_map.1 hy
    have := byte_of_wf (h.all z hz)
    omega
  · obtain ⟨b, off, ha, hlt, hc⟩ := h.cells hp
    refine ⟨b, off, ha, hlt, fun i hi => ?_⟩
    have h1 := hc i hi 0 (.int .u8 (l.getD i 0)) rfl
    rw [show off + i * U8S.K + 0 = off + i from by show off + i * 1 + 0 = _; omega] at h1
    rw [h1]
    have hil : i < l.length := by rw [h.len]; exact hi
    have h2 := byte_of_wf (h.all (l.getD i 0) (vec_mem (S := U8S) hil))
    have h3 : ((l.map Int.toNat).getD i 0 : Nat) = (l.getD i 0).toNat := by
      rw [List.getD_eq_getElem?_getD, List.getElem?_map, List.getD_eq_getElem?_getD, List.getElem?_eq_getElem hil]
      rfl
    rw [h3]
    congr 2
    omega
set_option maxRecDepth 100000 in
theorem call_fields0 {H : Type} {enc : TypeId × Value → H} {W : World} {fuel : Nat} {cs : List Value} {y : DataW H × List MemPlace} (h : DataW.trod enc Tryz.prog W 0 (fun _ => true) true fuel 34 cs = some y) (hw : ∀ n, n ∈ DataW.weights Tryz.prog 34 y.1 → n ≤ reachBytes) :
    ∃ (s0 : Int) (s1 : ByteArray) (a2 : Option Addr) (n2 c2 : Nat) (l2 : List _) (s3 : Int) (s4 : Int) (s5 : Int) (s6 : Int), cs = [.int .i64 s0, .string s1, .slice a2 n2 c2, .int .i64 s3, .int .i64 s4, .int .i64 s5, .int .i64 s6] ∧ (Lit.int .i64 s0).wf = true ∧ s1.size ≤ 140737488355328 ∧ VecAt (U8S) W a2 n2 c2 l2 ∧ (Lit.int .i64 s3).wf = true ∧ (Lit.int .i64 s4).wf = true ∧ (Lit.int .i64 s5).wf = true ∧ (Lit.int .i64 s6).wf = true ∧ True := by
  obtain ⟨xs, n, _, hy, hcl, hxl, hfld⟩ := DataW.trod_struct Tryz.underlying34 h
  rw [show Tryz.prog.cellsOf 34 = 7 from by kernel_rfl] at hcl
  have hxl2 : xs.length = 7 := hxl
  match cs, xs, hcl, hxl2 with
  | [v0, v1, v2, v3, v4, v5, v6], [p0, p1, p2, p3, p4, p5, p6], _, _ =>
    have t0 : DataW.trod enc Tryz.prog W 0 (fun _ => true) true n 3 (List.take (Tryz.prog.cellsOf 3) (List.drop 0 [v0, v1, v2, v3, v4, v5, v6])) = [p0, p1, p2, p3, p4, p5, p6][0]? := hfld 0 _ rfl
    rw [show Tryz.prog.cellsOf 3 = 1 from by kernel_rfl] at t0
    obtain ⟨s0, hs0, hx0, hw0⟩ := DataW.trod_int Tryz.underlying3 (show DataW.trod enc Tryz.prog W 0 (fun _ => true) true n 3 [v0] = some p0 from by simpa using t0)
    have e0 : v0 = .int .i64 s0 := by simpa using hs0
    have t1 : DataW.trod enc Tryz.prog W 0 (fun _ => true) true n 9 (List.take (Tryz.prog.cellsOf 9) (List.drop 1 [v0, v1, v2, v3, v4, v5, v6])) = [p0, p1, p2, p3, p4, p5, p6][1]? := hfld 1 _ rfl
    rw [show Tryz.prog.cellsOf 9 = 1 from by kernel_rfl] at t1
    obtain ⟨s1, hs1, hx1, _⟩ := DataW.trod_string Tryz.underlying9 (show DataW.trod enc Tryz.prog W 0 (fun _ => true) true n 9 [v1] = some p1 from by simpa using t1)
    have e1 : v1 = .string s1 := by simpa using hs1
    have t2 : DataW.trod enc Tryz.prog W 0 (fun _ => true) true n 32 (List.take (Tryz.prog.cellsOf 32) (List.drop 2 [v0, v1, v2, v3, v4, v5, v6])) = [p0, p1, p2, p3, p4, p5, p6][2]? := hfld 2 _ rfl
    rw [show Tryz.prog.cellsOf 32 = 1 from by kernel_rfl] at t2
    have t2' : DataW.trod enc Tryz.prog W 0 (fun _ => true) true n 32 [v2] = some p2 := by simpa using t2
    have t3 : DataW.trod enc Tryz.prog W 0 (fun _ => true) true n 3 (List.take (Tryz.prog.cellsOf 3) (List.drop 3 [v0, v1, v2, v3, v4, v5, v6])) = [p0, p1, p2, p3, p4, p5, p6][3]? := hfld 3 _ rfl
    rw [show Tryz.prog.cellsOf 3 = 1 from by kernel_rfl] at t3
    obtain ⟨s3, hs3, hx3, hw3⟩ := DataW.trod_int Tryz.underlying3 (show DataW.trod enc Tryz.prog W 0 (fun _ => true) true n 3 [v3] = some p3 from by simpa using t3)
    have e3 : v3 = .int .i64 s3 := by simpa using hs3
    have t4 : DataW.trod enc Tryz.prog W 0 (fun _ => true) true n 3 (List.take (Tryz.prog.cellsOf 3) (List.drop 4 [v0, v1, v2, v3, v4, v5, v6])) = [p0, p1, p2, p3, p4, p5, p6][4]? := hfld 4 _ rfl
    rw [show Tryz.prog.cellsOf 3 = 1 from by kernel_rfl] at t4
    obtain ⟨s4, hs4, hx4, hw4⟩ := DataW.trod_int Tryz.underlying3 (show DataW.trod enc Tryz.prog W 0 (fun _ => true) true n 3 [v4] = some p4 from by simpa using t4)
    have e4 : v4 = .int .i64 s4 := by simpa using hs4
    have t5 : DataW.trod enc Tryz.prog W 0 (fun _ => true) true n 3 (List.take (Tryz.prog.cellsOf 3) (List.drop 5 [v0, v1, v2, v3, v4, v5, v6])) = [p0, p1, p2, p3, p4, p5, p6][5]? := hfld 5 _ rfl
    rw [show Tryz.prog.cellsOf 3 = 1 from by kernel_rfl] at t5
    obtain ⟨s5, hs5, hx5, hw5⟩ := DataW.trod_int Tryz.underlying3 (show DataW.trod enc Tryz.prog W 0 (fun _ => true) true n 3 [v5] = some p5 from by simpa using t5)
    have e5 : v5 = .int .i64 s5 := by simpa using hs5
    have t6 : DataW.trod enc Tryz.prog W 0 (fun _ => true) true n 3 (List.take (Tryz.prog.cellsOf 3) (List.drop 6 [v0, v1, v2, v3, v4, v5, v6])) = [p0, p1, p2, p3, p4, p5, p6][6]? := hfld 6 _ rfl
    rw [show Tryz.prog.cellsOf 3 = 1 from by kernel_rfl] at t6
    obtain ⟨s6, hs6, hx6, hw6⟩ := DataW.trod_int Tryz.underlying3 (show DataW.trod enc Tryz.prog W 0 (fun _ => true) true n 3 [v6] = some p6 from by simpa using t6)
    have e6 : v6 = .int .i64 s6 := by simpa using hs6
    subst e0 e1 e3 e4 e5 e6
    have hy1 : y.1 = .agg [p0.1, p1.1, p2.1, p3.1, p4.1, p5.1, p6.1] := by rw [hy]; rfl
    have hr := reachBytes_lt
    have w1 := hw s1.data.toList.length (by rw [hy1, hx1]; simp [DataW.weights, DataW.weightsEach, Tryz.underlying34])
    have w2 : ∀ m, m ∈ DataW.weights Tryz.prog 32 p2.1 → m ≤ reachBytes := fun m hm => hw m (by rw [hy1]; simp [DataW.weights, DataW.weightsEach, Tryz.underlying34, hm])
    have hv2 : ∃ a len cap, v2 = .slice a len cap := by
      rcases open_slice Tryz.underlying32 t2' with ⟨hcs, _⟩ | ⟨x0, l, c, m, n, D, Pl, hcs, _⟩
      · simp at hcs; exact ⟨_, _, _, hcs⟩
      · simp at hcs; exact ⟨_, _, _, hcs⟩
    obtain ⟨a2, len2, cap2, rfl⟩ := hv2
    obtain ⟨z2, hz2⟩ := open_vec (U8S) Tryz.underlying32 (by kernel_rfl) (fun _ _ _ g1 g2 => u8_field g1 g2) t2' w2
    exact ⟨s0, s1, a2, len2, cap2, z2, s3, s4, s5, s6, rfl, hw0, (by simp at w1; omega), hz2, hw3, hw4, hw5, hw6, trivial⟩

structure ActV where
  ki : Int
  ky : ByteArray
  da : Option Addr
  dn : Nat
  dc : Nat
  dl : List Int
  vr : Int
  at' : Int
  nn : Int
  id : Int
  big : Int
def ActS : Sty ActV := ⟨fun x => [.int .i64 x.ki, .string x.ky, .slice x.da x.dn x.dc, .int .i64 x.vr, .int .i64 x.at', .int .i64 x.nn, .int .i64 x.id, .int .i64 x.big], 8, ⟨0, ByteArray.empty, none, 0, 0, [], 0, 0, 0, 0, 0⟩, fun w x => VecAt U8S w x.da x.dn x.dc x.dl ∧ x.ky.size ≤ 140737488355328 ∧ (Lit.int .i64 x.id).wf = true ∧ (Lit.int .i64 x.at').wf = true, by decide, fun _ => rfl, (fun x u hu => by
  simp only [List.mem_cons, List.not_mem_nil, or_false] at hu
  rcases hu with rfl | rfl | rfl | rfl | rfl | rfl | rfl | rfl <;> rfl), fun hb h => ⟨h.1.kept hb, h.2⟩⟩
set_option maxRecDepth 100000 in
theorem act_fields {H : Type} {enc : TypeId × Value → H} {W : World} {fuel : Nat} {cs : List Value} {y : DataW H × List MemPlace} (h : DataW.trod enc Tryz.prog W 0 (fun _ => true) true fuel 36 cs = some y) (hw : ∀ n, n ∈ DataW.weights Tryz.prog 36 y.1 → n ≤ reachBytes) :
    ∃ r : ActV, cs = ActS.f r ∧ ActS.ok W r := by
  obtain ⟨xs, n, _, hy, hcl, hxl, hfld⟩ := DataW.trod_struct Tryz.underlying36 h
  rw [show Tryz.prog.cellsOf 36 = 8 from by kernel_rfl] at hcl
  have hxl2 : xs.length = 2 := hxl
  match cs, xs, hcl, hxl2 with
  | [v0, v1, v2, v3, v4, v5, v6, v7], [p0, p1], _, _ =>
    have t0 := hfld 0 _ rfl
    have t1 := hfld 1 _ rfl
    have c0 : Tryz.prog.cellsOf 34 = 7 := by kernel_rfl
    have c1 : Tryz.prog.cellsOf 3 = 1 := by kernel_rfl
    simp [c0, c1] at t0 t1
    have hy1 : y.1 = .agg [p0.1, p1.1] := by rw [hy]; rfl
    have hw0 : ∀ m, m ∈ DataW.weights Tryz.prog 34 p0.1 → m ≤ reachBytes := fun m hm => hw m (by rw [hy1]; simp [DataW.weights, DataW.weightsEach, Tryz.underlying36, hm])
    obtain ⟨s0, s1, a2, n2, c2, l2, s3, s4, s5, s6, hcs, q0, q1, q2, q3, q4, q5, q6, _⟩ := call_fields0 t0 hw0
    obtain ⟨s7, hs7, hx7, hw7⟩ := DataW.trod_int Tryz.underlying3 t1
    simp only [List.cons.injEq, and_true] at hcs hs7
    obtain ⟨rfl, rfl, rfl, rfl, rfl, rfl, rfl⟩ := hcs
    subst hs7
    exact ⟨⟨s0, s1, a2, n2, c2, l2, s3, s4, s5, s6, s7⟩, rfl, q2, q1, q6, q4⟩
theorem open_acts {H : Type} {enc : TypeId × Value → H} {W : World} {fuel : Nat} {a : Option Addr} {len cap : Nat} {x : DataW H × List MemPlace} (hf : DataW.trod enc Tryz.prog W 0 (fun _ => true) true fuel 22 [.slice a len cap] = some x) (hw : ∀ n, n ∈ DataW.weights Tryz.prog 22 x.1 → n ≤ reachBytes) : ∃ l : List ActV, VecAt ActS W a len cap l :=
  open_vec ActS Tryz.underlying22 (by kernel_rfl) (fun _ _ _ g1 g2 => act_fields g1 g2) hf hw
/-- how many of the acts are taken -/
def fewN (most : Nat) : List ActV → Nat → Nat → Nat
  | [], _, i => i
  | x :: r, s, i => if 20000 < s + min x.dn 300000 ∨ most ≤ i then i else fewN most r (s + min x.dn 300000) (i + 1)
theorem fewN_step {most : Nat} {x : ActV} {r : List ActV} {s i : Nat} (h : ¬ (20000 < s + min x.dn 300000 ∨ most ≤ i)) : fewN most (x :: r) s i = fewN most r (s + min x.dn 300000) (i + 1) := by
  show (if _ then _ else _) = _
  rw [if_neg h]
theorem fewN_stop {most : Nat} {x : ActV} {r : List ActV} {s i : Nat} (h : 20000 < s + min x.dn 300000 ∨ most ≤ i) : fewN most (x :: r) s i = i := by
  show (if _ then _ else _) = _
  rw [if_pos h]
theorem fewN_le {most : Nat} : ∀ {l : List ActV} {s i : Nat}, i ≤ most → i ≤ fewN most l s i ∧ fewN most l s i ≤ most ∧ fewN most l s i ≤ i + l.length ∧ ∀ j, j < fewN most l s i - i → (l.getD j ActS.z).dn ≤ 20000
  | [], s, i, h => ⟨Nat.le_refl _, h, Nat.le_refl _, fun j hj => by unfold fewN at hj; omega⟩
  | x :: r, s, i, h => by
    by_cases hb : 20000 < s + min x.dn 300000 ∨ most ≤ i
    · rw [fewN_stop hb]; exact ⟨Nat.le_refl _, h, by omega, fun j hj => by omega⟩
    · rw [fewN_step hb]
      obtain ⟨h1, h2, h3, h4⟩ := fewN_le (most := most) (l := r) (s := s + min x.dn 300000) (i := i + 1) (by omega)
      refine ⟨by omega, h2, by rw [List.length_cons]; omega, fun j hj => ?_⟩
      cases j with
      | zero => show x.dn ≤ 20000; omega
      | succ j => exact h4 j (by omega)
end Go.Proofs.YtjafagfhkpaciaaGreat
end PkSP8_1
section PkSP8_2
/- Stage 14's Few and call, walked. -/
namespace Go.Proofs.YtjafagfhkpaciaaGreat
open Go.RowKit Go.Deep
set_option linter.unusedVariables false

theorem VecAt.row {w w' : World} {a : Option Addr} {n c : Nat} {l : List ActV} (h : VecAt ActS w a n c l) (hb : RowKit.Below w.heap.size w w') {i : Nat} (hi : i < n) : ∃ b off, a = some ⟨b, off, none⟩ ∧ ∀ j u, (ActS.f (l.getD i ActS.z))[j]? = some u → w'.cell? ⟨b, off + i * 8 + j, none⟩ = some u := by
  obtain ⟨b, off, ha, hlt, _, hc⟩ := (h.kept hb).get hi
  exact ⟨b, off, ha, hc⟩
def actC (x : ActV) : Array Value := #[.int .i64 x.ki, .string x.ky, .slice x.da x.dn x.dc, .int .i64 x.vr, .int .i64 x.at', .int .i64 x.nn, .int .i64 x.id, .int .i64 x.big]
set_option maxRecDepth 100000 in
set_option maxHeartbeats 4000000 in
theorem few_any {w : World} {a : Option Addr} {len cap : Nat} {l : List ActV} (h : VecAt ActS w a len cap l) {most : Nat} (hm : most ≤ 60) :
    Calls Tryz.prog 6 #[.slice a len cap, .int .i64 most] w fun e w' => e = .returned (.slice a (fewN most l 0 0) cap) ∧ Below w.heap.size w w' := by
  have HV := Lib.hid h
  have hcp := h.cap
  have hcm := h.capm
  have hll := h.len
  clear h
  go_enter Tryz.func6, Tryz.ntmps6
  go_wp2_with fail
  go_loopw [5, 10] (fun s5 s10 wr => ∃ (i sz : Nat), i ≤ len ∧ i ≤ most ∧ sz ≤ 20000 ∧ s10 = .int .i64 i ∧ s5 = .int .i64 sz ∧ Hid (fewN most l 0 0 = fewN most (l.drop i) sz i) ∧ Hid (Below w.heap.size w wr)) (fun _ s10 _ => len - (intOf s10).toNat)
  case atStart => exact ⟨0, 0, by omega, by omega, by omega, rfl, rfl, Lib.hid rfl, Lib.hid (Below.refl _ _)⟩
  case round =>
    obtain ⟨i, sz, hi, him, hsz, rfl, rfl, HF, HB⟩ := hrel
    rename World => wr
    by_cases hk : i < len
    · obtain ⟨b, off, rfl, hc⟩ := HV.out.row HB.out hk
      obtain ⟨x, hx⟩ : ∃ x, x = l.getD i ActS.z := ⟨_, rfl⟩
      rw [← hx] at hc
      have c0 : wr.cell? ⟨b, off + i * 8, none⟩ = some (.int .i64 x.ki) := hc 0 _ rfl
      have c1 := hc 1 _ rfl
      have c2 := hc 2 _ rfl
      have c3 := hc 3 _ rfl
      have c4 := hc 4 _ rfl
      have c5 := hc 5 _ rfl
      have c6 := hc 6 _ rfl
      have c7 := hc 7 _ rfl
      have HXE := Lib.hid (show l.drop i = x :: l.drop (i + 1) from by
        rw [List.drop_eq_getElem_cons (by omega), hx, List.getD_eq_getElem?_getD, List.getElem?_eq_getElem (by omega)]
        rfl)
      have zi : (i : Int) < (len : Int) := by omega
      have zi0 : (0 : Int) ≤ (i : Int) := by omega
      have wi : IntKind.i64.wrap ((i : Int) + 1) = (i : Int) + 1 := IntWalk.i64_in _ (by omega)
      clear hc hx
      obtain ⟨w3, hw3⟩ : ∃ w3, w3 = wr.alloc (.cells (actC x) 36) := ⟨_, rfl⟩
      have hk3 : w3.heap[wr.heap.size]? = some (.cells (actC x) 36 (0, 0)) := by rw [hw3]; exact heap_new wr _
      have HB3 := Lib.hid (show Below w.heap.size w w3 by rw [hw3]; exact HB.out.alloc HB.out.size _)
      have d2 := cell_blk2 hk3 (i := 2) (u := .slice x.da x.dn x.dc) rfl
      have HW3 := Lib.hid hw3
      clear hw3 hk3
      go_upto_region 5 with fail
      have hw3 := HW3.out
      unfold actC at hw3
      rw [← hw3]
      clear hw3 c0 c1 c2 c3 c4 c5 c6 c7
      go_upto_region 6 with fail
      obtain ⟨m2, hm2⟩ : ∃ m2, m2 = sz + min x.dn 300000 := ⟨_, rfl⟩
      rw [show (sz : Int) + min (x.dn : Int) 300000 = (m2 : Int) by omega]
      have hf := HF.out
      rw [HXE.out] at hf
      have him2 : i ≤ len := hi
      by_cases hs : 20000 < m2 ∨ most ≤ i
      · rw [fewN_stop (by rw [← hm2]; exact hs)] at hf
        have HFE := Lib.hid hf
        have zc : (i : Int) ≤ (cap : Int) := by omega
        clear hf HF HXE d2
        rcases (by omega : (20000 : Int) < (m2 : Int) ∨ ((m2 : Int) ≤ 20000 ∧ (most : Int) ≤ (i : Int))) with g | ⟨g, g2⟩
        all_goals
          clear hs hm2
          go_wp2_with fail
          first | go_ret2 | go_ret
          exact ⟨by rw [HFE.out]; rfl, HB3.out⟩
      · rw [fewN_step (by rw [← hm2]; exact hs), ← hm2] at hf
        have HFE := Lib.hid hf
        have g : (m2 : Int) ≤ 20000 := by omega
        have g2 : (i : Int) < (most : Int) := by omega
        clear hf HF HXE d2 hs hm2
        go_wp2_with fail
        go_roundw
        case rel => exact ⟨i + 1, m2, by omega, by omega, by omega, by push_cast; rfl, rfl, HFE, HB3⟩
        case measure => simp only [intOf]; omega
    · have e : i = len := by omega
      have hf := HF.out
      rw [List.drop_of_length_le (by omega)] at hf
      have HFE := Lib.hid (show fewN most l 0 0 = len from hf.trans e)
      clear hf
      go_wp2_with fail
      first | go_ret2 | go_ret
      exact ⟨by rw [HFE.out]; rfl, HB.out⟩
set_option maxRecDepth 100000 in
set_option maxHeartbeats 4000000 in
theorem call_any {w : World} {x : ActV} (h : ActS.ok w x) (hn : x.dn ≤ 20000) :
    Calls Tryz.prog 9 #[.agg (actC x)] w fun e w' => ∃ a n c xs, e = .returned (.agg #[.int .i64 x.ki, .string x.ky, .slice a n c, .int .i64 x.vr, .int .i64 x.at', .int .i64 x.nn, .int .i64 x.id]) ∧ BytesAt w' a n c xs ∧ Below w.heap.size w w' := by
  have hb := h.1.bytes (by omega)
  have HBY := Lib.hid hb
  clear h hb
  unfold actC
  go_enter Tryz.func9, Tryz.ntmps9
  obtain ⟨w3, hw3⟩ : ∃ w3, w3 = ((w.alloc (.cells (actC x) 36)).alloc (.cells #[.int .i64 0, .string { data := #[] }, .slice none 0 0, .int .i64 0, .int .i64 0, .int .i64 0, .int .i64 0] 34)).alloc (.cells #[.int .i64 x.ki, .string x.ky, .slice x.da x.dn x.dc, .int .i64 x.vr, .int .i64 x.at', .int .i64 x.nn, .int .i64 x.id] 34) := ⟨_, rfl⟩
  have hb3 : Below w.heap.size w w3 := by rw [hw3]; exact (((Below.refl _ _).alloc (Nat.le_refl _) _).alloc (by simp) _).alloc (by simp; omega) _
  have hk0 : w3.heap[w.heap.size]? = some (.cells (actC x) 36 (0, 0)) := by
    rw [hw3]
    exact (Below.heap_alloc _ _ _ (by simp; omega)).trans ((Below.heap_alloc _ _ _ (by simp)).trans (heap_new w _))
  have hk1 : w3.heap[w.heap.size + 1]? = some (.cells #[.int .i64 0, .string { data := #[] }, .slice none 0 0, .int .i64 0, .int .i64 0, .int .i64 0, .int .i64 0] 34 (0, 0)) := by
    rw [hw3]
    refine (Below.heap_alloc _ _ _ (by simp)).trans ?_
    have := heap_new (w.alloc (.cells (actC x) 36)) (.cells #[.int .i64 0, .string { data := #[] }, .slice none 0 0, .int .i64 0, .int .i64 0, .int .i64 0, .int .i64 0] 34)
    rwa [show (w.alloc (.cells (actC x) 36)).heap.size = w.heap.size + 1 from by simp] at this
  have hk2 : w3.heap[w.heap.size + 2]? = some (.cells #[.int .i64 x.ki, .string x.ky, .slice x.da x.dn x.dc, .int .i64 x.vr, .int .i64 x.at', .int .i64 x.nn, .int .i64 x.id] 34 (0, 0)) := by
    rw [hw3]
    have := heap_new ((w.alloc (.cells (actC x) 36)).alloc (.cells #[.int .i64 0, .string { data := #[] }, .slice none 0 0, .int .i64 0, .int .i64 0, .int .i64 0, .int .i64 0] 34)) (.cells #[.int .i64 x.ki, .string x.ky, .slice x.da x.dn x.dc, .int .i64 x.vr, .int .i64 x.at', .int .i64 x.nn, .int .i64 x.id] 34)
    rwa [show ((w.alloc (.cells (actC x) 36)).alloc (.cells #[.int .i64 0, .string { data := #[] }, .slice none 0 0, .int .i64 0, .int .i64 0, .int .i64 0, .int .i64 0] 34)).heap.size = w.heap.size + 2 from by simp] at this
  have b1 := cell_blk2 hk0 (i := 7) (u := .int .i64 x.big) rfl
  have HB3 := Lib.hid hb3
  have HK1 := Lib.hid hk1
  have HK2 := Lib.hid hk2
  have HW3 := Lib.hid hw3
  clear hb3 hw3 hk0 hk1 hk2
  go_upto_region 2 with fail
  have hw3 := HW3.out
  unfold actC at hw3
  rw [← hw3]
  clear hw3 HW3
  by_cases hbg : 0 < x.big
  · obtain ⟨m, hm⟩ : ∃ m : Nat, (m : Int) = min x.big 262145 := ⟨(min x.big 262145).toNat, by omega⟩
    have hm2 : m ≤ 262145 := by omega
    have hmk : (Instr.makeSlice 32 (.int .i64 (m : Int)) (.int .i64 (m : Int))).run Tryz.prog w3 = .ok (.slice (some ⟨w3.heap.size, 0, none⟩) m m) (w3.alloc (.cells (madeCells #[.int .u8 0] m) 5)) := run_make_row' (P := Tryz.prog) 32 5 (.int .u8 0) 1 Tryz.underlying32 (by kernel_rfl) rfl .i64 .i64 m (by omega) (by omega) w3
    rw [hm] at hmk
    obtain ⟨w4, hw4⟩ : ∃ w4, w4 = w3.alloc (.cells (madeCells #[.int .u8 0] m) 5) := ⟨_, rfl⟩
    rw [← hw4] at hmk
    have hb4 : Below w3.heap.size w3 w4 := by rw [hw4]; exact (Below.refl _ _).alloc (Nat.le_refl _) _
    have hk4 := (hb4.block _ (Array.getElem?_eq_some_iff.1 HK2.out).1).trans HK2.out
    have d2 := cell_blk2 hk4 (i := 2) (u := .slice x.da x.dn x.dc) rfl
    have e2 := fro_blk2 hk4 2
    have hby : BytesAt w4 (some ⟨w3.heap.size, 0, none⟩) m m (List.replicate m 0) := by
      refine ⟨by simp, Nat.le_refl _, (fun y hy => by rw [(List.mem_replicate.1 hy).2]; decide), by omega, by omega, (fun e => by cases e), fun hp => ⟨w3.heap.size, 0, rfl, by rw [hw4]; simp, fun i hi => ?_⟩⟩
      rw [hw4]
      refine (cell_of_row _ _ _ _ _ _ (heap_new w3 _)).trans ?_
      have h1 := toList_madeCells_one (.int .u8 0) m
      rw [Nat.zero_add, ← Array.getElem?_toList, h1]
      simp [hi]
    have HB4 := Lib.hid hb4
    have HK4 := Lib.hid hk4
    have HBY4 := Lib.hid hby
    clear hm hw4 hb4 hk4 hby HBY
    go_upto_region 4 with fail
    obtain ⟨V, hV⟩ : ∃ V, V = w4.setCell ⟨w.heap.size + 1 + 1, 2, none⟩ (.slice (some ⟨w3.heap.size, 0, none⟩) m m) := ⟨_, rfl⟩
    have hkv : V.heap[w.heap.size + 1 + 1]? = some (.cells #[.int .i64 x.ki, .string x.ky, .slice (some ⟨w3.heap.size, 0, none⟩) m m, .int .i64 x.vr, .int .i64 x.at', .int .i64 x.nn, .int .i64 x.id] 34 (0, 0)) := by
      rw [hV]; exact (heap_setCell_same w4 _ 2 _ _ _ HK4.out).trans rfl
    have hFv : Frm (fun b => b = w.heap.size + 1 + 1) w4 V := by rw [hV]; exact (Frm.refl (fun b => b = w.heap.size + 1 + 1) w4).set (p := w.heap.size + 1 + 1) (.inl rfl) 2 _
    have hrv := hFv.at ((HB4.out.block _ (Array.getElem?_eq_some_iff.1 HK1.out).1).trans HK1.out) (by omega)
    have hbv : BytesAt V (some ⟨w3.heap.size, 0, none⟩) m m (List.replicate m 0) := bytes_frm HBY4.out hFv (fun b off e hn e2 => by
      cases e
      have := (Array.getElem?_eq_some_iff.1 HK2.out).1
      omega)
    have hbe : Below w.heap.size w V := (HB3.out.trans (HB4.out.mono HB3.out.size)).trans (hFv.toBelow (HB3.out.trans (HB4.out.mono HB3.out.size)).size (fun i e => by rw [e]; omega))
    have HV := Lib.hid hV
    clear hV hFv HB4 HK4 HBY4 d2 e2 hmk b1
    rw [← HV.out]
    have s0 := cell_blk2 hkv (i := 0) (u := .int .i64 x.ki) rfl
    have s1 := cell_blk2 hkv (i := 1) (u := .string x.ky) rfl
    have s2 := cell_blk2 hkv (i := 2) (u := .slice (some ⟨w3.heap.size, 0, none⟩) m m) rfl
    have s3 := cell_blk2 hkv (i := 3) (u := .int .i64 x.vr) rfl
    have s4 := cell_blk2 hkv (i := 4) (u := .int .i64 x.at') rfl
    have s5 := cell_blk2 hkv (i := 5) (u := .int .i64 x.nn) rfl
    have s6 := cell_blk2 hkv (i := 6) (u := .int .i64 x.id) rfl
    have q0 := cell_blk2 hrv (i := 0) (u := .int .i64 0) rfl
    have q1 := cell_blk2 hrv (i := 1) (u := .string { data := #[] }) rfl
    have q2 := cell_blk2 hrv (i := 2) (u := .slice none 0 0) rfl
    have q3 := cell_blk2 hrv (i := 3) (u := .int .i64 0) rfl
    have q4 := cell_blk2 hrv (i := 4) (u := .int .i64 0) rfl
    have q5 := cell_blk2 hrv (i := 5) (u := .int .i64 0) rfl
    have q6 := cell_blk2 hrv (i := 6) (u := .int .i64 0) rfl
    have r0 := fro_blk2 hrv 0
    have r1 := fro_blk2 hrv 1
    have r2 := fro_blk2 hrv 2
    have r3 := fro_blk2 hrv 3
    have r4 := fro_blk2 hrv 4
    have r5 := fro_blk2 hrv 5
    have r6 := fro_blk2 hrv 6
    have hr5 := setR_at hrv (.int .i64 x.ki) (.string x.ky) (.slice (some ⟨w3.heap.size, 0, none⟩) m m) (.int .i64 x.vr) (.int .i64 x.at') (.int .i64 x.nn) (.int .i64 x.id)
    have hF5 := (Frm.refl (fun b => b = w.heap.size + 1) V).setR (R := w.heap.size + 1) (.inl rfl) (.int .i64 x.ki) (.string x.ky) (.slice (some ⟨w3.heap.size, 0, none⟩) m m) (.int .i64 x.vr) (.int .i64 x.at') (.int .i64 x.nn) (.int .i64 x.id)
    obtain ⟨W5, hW5⟩ : ∃ W5, W5 = setR V (w.heap.size + 1) (.int .i64 x.ki) (.string x.ky) (.slice (some ⟨w3.heap.size, 0, none⟩) m m) (.int .i64 x.vr) (.int .i64 x.at') (.int .i64 x.nn) (.int .i64 x.id) := ⟨_, rfl⟩
    rw [← hW5] at hr5 hF5
    have hbv5 := bytes_frm hbv hF5 (fun b off e hn e2 => by
      obtain ⟨b', off', ha', _, hcell⟩ := hbv.cells hn
      rw [e] at ha'
      cases ha'
      have h0 := hcell 0 hn
      rw [e2, cell_of_row V _ _ _ _ (0, 0) hrv] at h0
      rcases (by omega : off + 0 = 0 ∨ off + 0 = 1 ∨ off + 0 = 2 ∨ off + 0 = 3 ∨ off + 0 = 4 ∨ off + 0 = 5 ∨ off + 0 = 6 ∨ 7 ≤ off + 0) with g | g | g | g | g | g | g | g
      · rw [g] at h0; simp at h0
      · rw [g] at h0; simp at h0
      · rw [g] at h0; simp at h0
      · rw [g] at h0; simp at h0
      · rw [g] at h0; simp at h0
      · rw [g] at h0; simp at h0
      · rw [g] at h0; simp at h0
      · rw [Array.getElem?_eq_none (by simpa using g)] at h0; cases h0)
    have hbe5 := hbe.trans (hF5.toBelow hbe.size (fun i e => by rw [e]; omega))
    have HR5 := Lib.hid hr5
    have HBV5 := Lib.hid hbv5
    have HBE5 := Lib.hid hbe5
    have HW5 := Lib.hid hW5
    clear hkv hrv hr5 hF5 hbv hbe hbv5 hbe5 hW5
    go_wp2_with fail
    have hW5 := HW5.out
    unfold setR at hW5
    rw [← hW5]
    exact bodyPost_ret (ret_cell rfl _ _ (w.heap.size + 1) 34 _ _ _ rfl HR5.out Tryz.underlying34 rfl (by kernel_rfl)) rfl ⟨_, _, _, _, rfl, HBV5.out, HBE5.out⟩
  · have hbg2 : x.big ≤ 0 := by omega
    clear hbg
    go_upto_region 4 with fail
    obtain ⟨V, hV⟩ : ∃ V, V = w3 := ⟨_, rfl⟩
    rw [← hV] at HK1 HK2 HB3
    rw [← hV]
    have hkv := HK2.out
    have hrv := HK1.out
    have hbv := HBY.out.kept HB3.out
    have hbe := HB3.out
    clear hV b1 HBY
    have s0 := cell_blk2 hkv (i := 0) (u := .int .i64 x.ki) rfl
    have s1 := cell_blk2 hkv (i := 1) (u := .string x.ky) rfl
    have s2 := cell_blk2 hkv (i := 2) (u := .slice x.da x.dn x.dc) rfl
    have s3 := cell_blk2 hkv (i := 3) (u := .int .i64 x.vr) rfl
    have s4 := cell_blk2 hkv (i := 4) (u := .int .i64 x.at') rfl
    have s5 := cell_blk2 hkv (i := 5) (u := .int .i64 x.nn) rfl
    have s6 := cell_blk2 hkv (i := 6) (u := .int .i64 x.id) rfl
    have q0 := cell_blk2 hrv (i := 0) (u := .int .i64 0) rfl
    have q1 := cell_blk2 hrv (i := 1) (u := .string { data := #[] }) rfl
    have q2 := cell_blk2 hrv (i := 2) (u := .slice none 0 0) rfl
    have q3 := cell_blk2 hrv (i := 3) (u := .int .i64 0) rfl
    have q4 := cell_blk2 hrv (i := 4) (u := .int .i64 0) rfl
    have q5 := cell_blk2 hrv (i := 5) (u := .int .i64 0) rfl
    have q6 := cell_blk2 hrv (i := 6) (u := .int .i64 0) rfl
    have r0 := fro_blk2 hrv 0
    have r1 := fro_blk2 hrv 1
    have r2 := fro_blk2 hrv 2
    have r3 := fro_blk2 hrv 3
    have r4 := fro_blk2 hrv 4
    have r5 := fro_blk2 hrv 5
    have r6 := fro_blk2 hrv 6
    have hr5 := setR_at hrv (.int .i64 x.ki) (.string x.ky) (.slice x.da x.dn x.dc) (.int .i64 x.vr) (.int .i64 x.at') (.int .i64 x.nn) (.int .i64 x.id)
    have hF5 := (Frm.refl (fun b => b = w.heap.size + 1) V).setR (R := w.heap.size + 1) (.inl rfl) (.int .i64 x.ki) (.string x.ky) (.slice x.da x.dn x.dc) (.int .i64 x.vr) (.int .i64 x.at') (.int .i64 x.nn) (.int .i64 x.id)
    obtain ⟨W5, hW5⟩ : ∃ W5, W5 = setR V (w.heap.size + 1) (.int .i64 x.ki) (.string x.ky) (.slice x.da x.dn x.dc) (.int .i64 x.vr) (.int .i64 x.at') (.int .i64 x.nn) (.int .i64 x.id) := ⟨_, rfl⟩
    rw [← hW5] at hr5 hF5
    have hbv5 := bytes_frm hbv hF5 (fun b off e hn e2 => by
      obtain ⟨b', off', ha', _, hcell⟩ := hbv.cells hn
      rw [e] at ha'
      cases ha'
      have h0 := hcell 0 hn
      rw [e2, cell_of_row V _ _ _ _ (0, 0) hrv] at h0
      rcases (by omega : off + 0 = 0 ∨ off + 0 = 1 ∨ off + 0 = 2 ∨ off + 0 = 3 ∨ off + 0 = 4 ∨ off + 0 = 5 ∨ off + 0 = 6 ∨ 7 ≤ off + 0) with g | g | g | g | g | g | g | g
      · rw [g] at h0; simp at h0
      · rw [g] at h0; simp at h0
      · rw [g] at h0; simp at h0
      · rw [g] at h0; simp at h0
      · rw [g] at h0; simp at h0
      · rw [g] at h0; simp at h0
      · rw [g] at h0; simp at h0
      · rw [Array.getElem?_eq_none (by simpa using g)] at h0; cases h0)
    have hbe5 := hbe.trans (hF5.toBelow hbe.size (fun i e => by rw [e]; omega))
    have HR5 := Lib.hid hr5
    have HBV5 := Lib.hid hbv5
    have HBE5 := Lib.hid hbe5
    have HW5 := Lib.hid hW5
    clear hkv hrv hr5 hF5 hbv hbe hbv5 hbe5 hW5
    go_wp2_with fail
    have hW5 := HW5.out
    unfold setR at hW5
    rw [← hW5]
    exact bodyPost_ret (ret_cell rfl _ _ (w.heap.size + 1) 34 _ _ _ rfl HR5.out Tryz.underlying34 rfl (by kernel_rfl)) rfl ⟨_, _, _, _, rfl, HBV5.out, HBE5.out⟩
end Go.Proofs.YtjafagfhkpaciaaGreat
end PkSP8_2
section PkSP8_3
/- An act's call, and where its bytes lie. -/
namespace Go.Proofs.YtjafagfhkpaciaaGreat
open Go.RowKit
set_option linter.unusedVariables false

set_option maxRecDepth 100000 in
set_option maxHeartbeats 4000000 in
theorem call_any2 {w : World} {x : ActV} (h : ActS.ok w x) (hn : x.dn ≤ 20000) :
    Calls Tryz.prog 9 #[.agg (actC x)] w fun e w' => ∃ a n c xs, e = .returned (.agg #[.int .i64 x.ki, .string x.ky, .slice a n c, .int .i64 x.vr, .int .i64 x.at', .int .i64 x.nn, .int .i64 x.id]) ∧ BytesAt w' a n c xs ∧ Below w.heap.size w w' ∧ ((a = x.da ∧ n = x.dn) ∨ ∃ g, a = some ⟨g, 0, none⟩ ∧ w.heap.size ≤ g ∧ ∃ cs, w'.heap[g]? = some (.cells cs 5 (0, 0))) := by
  have hb := h.1.bytes (by omega)
  have HBY := Lib.hid hb
  clear h hb
  unfold actC
  go_enter Tryz.func9, Tryz.ntmps9
  obtain ⟨w3, hw3⟩ : ∃ w3, w3 = ((w.alloc (.cells (actC x) 36)).alloc (.cells #[.int .i64 0, .string { data := #[] }, .slice none 0 0, .int .i64 0, .int .i64 0, .int .i64 0, .int .i64 0] 34)).alloc (.cells #[.int .i64 x.ki, .string x.ky, .slice x.da x.dn x.dc, .int .i64 x.vr, .int .i64 x.at', .int .i64 x.nn, .int .i64 x.id] 34) := ⟨_, rfl⟩
  have hb3 : Below w.heap.size w w3 := by rw [hw3]; exact (((Below.refl _ _).alloc (Nat.le_refl _) _).alloc (by simp) _).alloc (by simp; omega) _
  have hk0 : w3.heap[w.heap.size]? = some (.cells (actC x) 36 (0, 0)) := by
    rw [hw3]
    exact (Below.heap_alloc _ _ _ (by simp; omega)).trans ((Below.heap_alloc _ _ _ (by simp)).trans (heap_new w _))
  have hk1 : w3.heap[w.heap.size + 1]? = some (.cells #[.int .i64 0, .string { data := #[] }, .slice none 0 0, .int .i64 0, .int .i64 0, .int .i64 0, .int .i64 0] 34 (0, 0)) := by
    rw [hw3]
    refine (Below.heap_alloc _ _ _ (by simp)).trans ?_
    have := heap_new (w.alloc (.cells (actC x) 36)) (.cells #[.int .i64 0, .string { data := #[] }, .slice none 0 0, .int .i64 0, .int .i64 0, .int .i64 0, .int .i64 0] 34)
    rwa [show (w.alloc (.cells (actC x) 36)).heap.size = w.heap.size + 1 from by simp] at this
  have hk2 : w3.heap[w.heap.size + 2]? = some (.cells #[.int .i64 x.ki, .string x.ky, .slice x.da x.dn x.dc, .int .i64 x.vr, .int .i64 x.at', .int .i64 x.nn, .int .i64 x.id] 34 (0, 0)) := by
    rw [hw3]
    have := heap_new ((w.alloc (.cells (actC x) 36)).alloc (.cells #[.int .i64 0, .string { data := #[] }, .slice none 0 0, .int .i64 0, .int .i64 0, .int .i64 0, .int .i64 0] 34)) (.cells #[.int .i64 x.ki, .string x.ky, .slice x.da x.dn x.dc, .int .i64 x.vr, .int .i64 x.at', .int .i64 x.nn, .int .i64 x.id] 34)
    rwa [show ((w.alloc (.cells (actC x) 36)).alloc (.cells #[.int .i64 0, .string { data := #[] }, .slice none 0 0, .int .i64 0, .int .i64 0, .int .i64 0, .int .i64 0] 34)).heap.size = w.heap.size + 2 from by simp] at this
  have b1 := cell_blk2 hk0 (i := 7) (u := .int .i64 x.big) rfl
  have HB3 := Lib.hid hb3
  have HK1 := Lib.hid hk1
  have HK2 := Lib.hid hk2
  have HW3 := Lib.hid hw3
  clear hb3 hw3 hk0 hk1 hk2
  go_upto_region 2 with fail
  have hw3 := HW3.out
  unfold actC at hw3
  rw [← hw3]
  clear hw3 HW3
  by_cases hbg : 0 < x.big
  · obtain ⟨m, hm⟩ : ∃ m : Nat, (m : Int) = min x.big 262145 := ⟨(min x.big 262145).toNat, by omega⟩
    have hm2 : m ≤ 262145 := by omega
    have hmk : (Instr.makeSlice 32 (.int .i64 (m : Int)) (.int .i64 (m : Int))).run Tryz.prog w3 = .ok (.slice (some ⟨w3.heap.size, 0, none⟩) m m) (w3.alloc (.cells (madeCells #[.int .u8 0] m) 5)) := run_make_row' (P := Tryz.prog) 32 5 (.int .u8 0) 1 Tryz.underlying32 (by kernel_rfl) rfl .i64 .i64 m (by omega) (by omega) w3
    rw [hm] at hmk
    obtain ⟨w4, hw4⟩ : ∃ w4, w4 = w3.alloc (.cells (madeCells #[.int .u8 0] m) 5) := ⟨_, rfl⟩
    rw [← hw4] at hmk
    have hb4 : Below w3.heap.size w3 w4 := by rw [hw4]; exact (Below.refl _ _).alloc (Nat.le_refl _) _
    have hk4 := (hb4.block _ (Array.getElem?_eq_some_iff.1 HK2.out).1).trans HK2.out
    have d2 := cell_blk2 hk4 (i := 2) (u := .slice x.da x.dn x.dc) rfl
    have e2 := fro_blk2 hk4 2
    have hby : BytesAt w4 (some ⟨w3.heap.size, 0, none⟩) m m (List.replicate m 0) := by
      refine ⟨by simp, Nat.le_refl _, (fun y hy => by rw [(List.mem_replicate.1 hy).2]; decide), by omega, by omega, (fun e => by cases e), fun hp => ⟨w3.heap.size, 0, rfl, by rw [hw4]; simp, fun i hi => ?_⟩⟩
      rw [hw4]
      refine (cell_of_row _ _ _ _ _ _ (heap_new w3 _)).trans ?_
      have h1 := toList_madeCells_one (.int .u8 0) m
      rw [Nat.zero_add, ← Array.getElem?_toList, h1]
      simp [hi]
    have HB4 := Lib.hid hb4
    have HK4 := Lib.hid hk4
    have HBY4 := Lib.hid hby
    have HRW4 := Lib.hid (show w4.heap[w3.heap.size]? = some (.cells (madeCells #[.int .u8 0] m) 5 (0, 0)) from by rw [hw4]; exact heap_new w3 _)
    clear hm hw4 hb4 hk4 hby HBY
    go_upto_region 4 with fail
    obtain ⟨V, hV⟩ : ∃ V, V = w4.setCell ⟨w.heap.size + 1 + 1, 2, none⟩ (.slice (some ⟨w3.heap.size, 0, none⟩) m m) := ⟨_, rfl⟩
    have hkv : V.heap[w.heap.size + 1 + 1]? = some (.cells #[.int .i64 x.ki, .string x.ky, .slice (some ⟨w3.heap.size, 0, none⟩) m m, .int .i64 x.vr, .int .i64 x.at', .int .i64 x.nn, .int .i64 x.id] 34 (0, 0)) := by
      rw [hV]; exact (heap_setCell_same w4 _ 2 _ _ _ HK4.out).trans rfl
    have hFv : Frm (fun b => b = w.heap.size + 1 + 1) w4 V := by rw [hV]; exact (Frm.refl (fun b => b = w.heap.size + 1 + 1) w4).set (p := w.heap.size + 1 + 1) (.inl rfl) 2 _
    have hrv := hFv.at ((HB4.out.block _ (Array.getElem?_eq_some_iff.1 HK1.out).1).trans HK1.out) (by omega)
    have hbv : BytesAt V (some ⟨w3.heap.size, 0, none⟩) m m (List.replicate m 0) := bytes_frm HBY4.out hFv (fun b off e hn e2 => by
      cases e
      have := (Array.getElem?_eq_some_iff.1 HK2.out).1
      omega)
    have hrw : V.heap[w3.heap.size]? = some (.cells (madeCells #[.int .u8 0] m) 5 (0, 0)) := hFv.at HRW4.out (fun e => by have := (Array.getElem?_eq_some_iff.1 HK2.out).1; omega)
    have hbe : Below w.heap.size w V := (HB3.out.trans (HB4.out.mono HB3.out.size)).trans (hFv.toBelow (HB3.out.trans (HB4.out.mono HB3.out.size)).size (fun i e => by rw [e]; omega))
    have HV := Lib.hid hV
    clear hV hFv HB4 HK4 HBY4 d2 e2 hmk b1
    rw [← HV.out]
    have s0 := cell_blk2 hkv (i := 0) (u := .int .i64 x.ki) rfl
    have s1 := cell_blk2 hkv (i := 1) (u := .string x.ky) rfl
    have s2 := cell_blk2 hkv (i := 2) (u := .slice (some ⟨w3.heap.size, 0, none⟩) m m) rfl
    have s3 := cell_blk2 hkv (i := 3) (u := .int .i64 x.vr) rfl
    have s4 := cell_blk2 hkv (i := 4) (u := .int .i64 x.at') rfl
    have s5 := cell_blk2 hkv (i := 5) (u := .int .i64 x.nn) rfl
    have s6 := cell_blk2 hkv (i := 6) (u := .int .i64 x.id) rfl
    have q0 := cell_blk2 hrv (i := 0) (u := .int .i64 0) rfl
    have q1 := cell_blk2 hrv (i := 1) (u := .string { data := #[] }) rfl
    have q2 := cell_blk2 hrv (i := 2) (u := .slice none 0 0) rfl
    have q3 := cell_blk2 hrv (i := 3) (u := .int .i64 0) rfl
    have q4 := cell_blk2 hrv (i := 4) (u := .int .i64 0) rfl
    have q5 := cell_blk2 hrv (i := 5) (u := .int .i64 0) rfl
    have q6 := cell_blk2 hrv (i := 6) (u := .int .i64 0) rfl
    have r0 := fro_blk2 hrv 0
    have r1 := fro_blk2 hrv 1
    have r2 := fro_blk2 hrv 2
    have r3 := fro_blk2 hrv 3
    have r4 := fro_blk2 hrv 4
    have r5 := fro_blk2 hrv 5
    have r6 := fro_blk2 hrv 6
    have hr5 := setR_at hrv (.int .i64 x.ki) (.string x.ky) (.slice (some ⟨w3.heap.size, 0, none⟩) m m) (.int .i64 x.vr) (.int .i64 x.at') (.int .i64 x.nn) (.int .i64 x.id)
    have hF5 := (Frm.refl (fun b => b = w.heap.size + 1) V).setR (R := w.heap.size + 1) (.inl rfl) (.int .i64 x.ki) (.string x.ky) (.slice (some ⟨w3.heap.size, 0, none⟩) m m) (.int .i64 x.vr) (.int .i64 x.at') (.int .i64 x.nn) (.int .i64 x.id)
    obtain ⟨W5, hW5⟩ : ∃ W5, W5 = setR V (w.heap.size + 1) (.int .i64 x.ki) (.string x.ky) (.slice (some ⟨w3.heap.size, 0, none⟩) m m) (.int .i64 x.vr) (.int .i64 x.at') (.int .i64 x.nn) (.int .i64 x.id) := ⟨_, rfl⟩
    rw [← hW5] at hr5 hF5
    have hbv5 := bytes_frm hbv hF5 (fun b off e hn e2 => by
      obtain ⟨b', off', ha', _, hcell⟩ := hbv.cells hn
      rw [e] at ha'
      cases ha'
      have h0 := hcell 0 hn
      rw [e2, cell_of_row V _ _ _ _ (0, 0) hrv] at h0
      rcases (by omega : off + 0 = 0 ∨ off + 0 = 1 ∨ off + 0 = 2 ∨ off + 0 = 3 ∨ off + 0 = 4 ∨ off + 0 = 5 ∨ off + 0 = 6 ∨ 7 ≤ off + 0) with g | g | g | g | g | g | g | g
      · rw [g] at h0; simp at h0
      · rw [g] at h0; simp at h0
      · rw [g] at h0; simp at h0
      · rw [g] at h0; simp at h0
      · rw [g] at h0; simp at h0
      · rw [g] at h0; simp at h0
      · rw [g] at h0; simp at h0
      · rw [Array.getElem?_eq_none (by simpa using g)] at h0; cases h0)
    have HRW5 := Lib.hid (hF5.at hrw (fun e => by have := (Array.getElem?_eq_some_iff.1 HK2.out).1; omega))
    have hbe5 := hbe.trans (hF5.toBelow hbe.size (fun i e => by rw [e]; omega))
    have HR5 := Lib.hid hr5
    have HBV5 := Lib.hid hbv5
    have HBE5 := Lib.hid hbe5
    have HW5 := Lib.hid hW5
    clear hkv hrv hr5 hF5 hbv hbe hbv5 hbe5 hW5 hrw
    go_wp2_with fail
    have hW5 := HW5.out
    unfold setR at hW5
    rw [← hW5]
    exact bodyPost_ret (ret_cell rfl _ _ (w.heap.size + 1) 34 _ _ _ rfl HR5.out Tryz.underlying34 rfl (by kernel_rfl)) rfl ⟨_, _, _, _, rfl, HBV5.out, HBE5.out, .inr ⟨_, rfl, HB3.out.size, _, HRW5.out⟩⟩
  · have hbg2 : x.big ≤ 0 := by omega
    clear hbg
    go_upto_region 4 with fail
    obtain ⟨V, hV⟩ : ∃ V, V = w3 := ⟨_, rfl⟩
    rw [← hV] at HK1 HK2 HB3
    rw [← hV]
    have hkv := HK2.out
    have hrv := HK1.out
    have hbv := HBY.out.kept HB3.out
    have hbe := HB3.out
    clear hV b1 HBY
    have s0 := cell_blk2 hkv (i := 0) (u := .int .i64 x.ki) rfl
    have s1 := cell_blk2 hkv (i := 1) (u := .string x.ky) rfl
    have s2 := cell_blk2 hkv (i := 2) (u := .slice x.da x.dn x.dc) rfl
    have s3 := cell_blk2 hkv (i := 3) (u := .int .i64 x.vr) rfl
    have s4 := cell_blk2 hkv (i := 4) (u := .int .i64 x.at') rfl
    have s5 := cell_blk2 hkv (i := 5) (u := .int .i64 x.nn) rfl
    have s6 := cell_blk2 hkv (i := 6) (u := .int .i64 x.id) rfl
    have q0 := cell_blk2 hrv (i := 0) (u := .int .i64 0) rfl
    have q1 := cell_blk2 hrv (i := 1) (u := .string { data := #[] }) rfl
    have q2 := cell_blk2 hrv (i := 2) (u := .slice none 0 0) rfl
    have q3 := cell_blk2 hrv (i := 3) (u := .int .i64 0) rfl
    have q4 := cell_blk2 hrv (i := 4) (u := .int .i64 0) rfl
    have q5 := cell_blk2 hrv (i := 5) (u := .int .i64 0) rfl
    have q6 := cell_blk2 hrv (i := 6) (u := .int .i64 0) rfl
    have r0 := fro_blk2 hrv 0
    have r1 := fro_blk2 hrv 1
    have r2 := fro_blk2 hrv 2
    have r3 := fro_blk2 hrv 3
    have r4 := fro_blk2 hrv 4
    have r5 := fro_blk2 hrv 5
    have r6 := fro_blk2 hrv 6
    have hr5 := setR_at hrv (.int .i64 x.ki) (.string x.ky) (.slice x.da x.dn x.dc) (.int .i64 x.vr) (.int .i64 x.at') (.int .i64 x.nn) (.int .i64 x.id)
    have hF5 := (Frm.refl (fun b => b = w.heap.size + 1) V).setR (R := w.heap.size + 1) (.inl rfl) (.int .i64 x.ki) (.string x.ky) (.slice x.da x.dn x.dc) (.int .i64 x.vr) (.int .i64 x.at') (.int .i64 x.nn) (.int .i64 x.id)
    obtain ⟨W5, hW5⟩ : ∃ W5, W5 = setR V (w.heap.size + 1) (.int .i64 x.ki) (.string x.ky) (.slice x.da x.dn x.dc) (.int .i64 x.vr) (.int .i64 x.at') (.int .i64 x.nn) (.int .i64 x.id) := ⟨_, rfl⟩
    rw [← hW5] at hr5 hF5
    have hbv5 := bytes_frm hbv hF5 (fun b off e hn e2 => by
      obtain ⟨b', off', ha', _, hcell⟩ := hbv.cells hn
      rw [e] at ha'
      cases ha'
      have h0 := hcell 0 hn
      rw [e2, cell_of_row V _ _ _ _ (0, 0) hrv] at h0
      rcases (by omega : off + 0 = 0 ∨ off + 0 = 1 ∨ off + 0 = 2 ∨ off + 0 = 3 ∨ off + 0 = 4 ∨ off + 0 = 5 ∨ off + 0 = 6 ∨ 7 ≤ off + 0) with g | g | g | g | g | g | g | g
      · rw [g] at h0; simp at h0
      · rw [g] at h0; simp at h0
      · rw [g] at h0; simp at h0
      · rw [g] at h0; simp at h0
      · rw [g] at h0; simp at h0
      · rw [g] at h0; simp at h0
      · rw [g] at h0; simp at h0
      · rw [Array.getElem?_eq_none (by simpa using g)] at h0; cases h0)
    have hbe5 := hbe.trans (hF5.toBelow hbe.size (fun i e => by rw [e]; omega))
    have HR5 := Lib.hid hr5
    have HBV5 := Lib.hid hbv5
    have HBE5 := Lib.hid hbe5
    have HW5 := Lib.hid hW5
    clear hkv hrv hr5 hF5 hbv hbe hbv5 hbe5 hW5
    go_wp2_with fail
    have hW5 := HW5.out
    unfold setR at hW5
    rw [← hW5]
    exact bodyPost_ret (ret_cell rfl _ _ (w.heap.size + 1) 34 _ _ _ rfl HR5.out Tryz.underlying34 rfl (by kernel_rfl)) rfl ⟨_, _, _, _, rfl, HBV5.out, HBE5.out, .inl ⟨rfl, rfl⟩⟩
end Go.Proofs.YtjafagfhkpaciaaGreat
end PkSP8_3
section PkSP8_4
/- What the law StorePlays asks of the places: bytes turned in place, both stores left alone. -/
namespace Go.Proofs.YtjafagfhkpaciaaGreat
open Go.RowKit
set_option linter.unusedVariables false

/-- bytes that may be turned in place -/
def Row8 (w : World) (g n : Nat) : Prop := ∃ cs fr, w.heap[g]? = some (.cells cs 5 fr) ∧ (n ≤ fr.1 ∨ fr.2 ≤ fr.1) ∧ ∀ i, i < n → ∃ z : Int, 0 ≤ z ∧ z < 256 ∧ cs[i]? = some (.int .u8 z)
def Row8S (w : World) (a : Option Addr) (n : Nat) : Prop := 0 < n → ∃ g, a = some ⟨g, 0, none⟩ ∧ Row8 w g n
theorem Row8.same {w w' : World} {g n : Nat} (h : Row8 w g n) (e : w'.heap[g]? = w.heap[g]?) : Row8 w' g n := by
  obtain ⟨cs, fr, h1, h2⟩ := h
  exact ⟨cs, fr, e.trans h1, h2⟩
theorem Row8.ty {w : World} {g n : Nat} (h : Row8 w g n) : ∃ cs fr, w.heap[g]? = some (.cells cs 5 fr) := by
  obtain ⟨cs, fr, h1, _⟩ := h
  exact ⟨cs, fr, h1⟩
theorem Row8S.ofOwn {w : World} {base n c : Nat} {a : Option Addr} {xs : List Nat} (h : w.ownsRow base 5 1 (.slice a n c) n (bv xs)) (hb : ∀ x ∈ xs, x < 256) : Row8S w a n := by
  intro hn
  rcases h.2 with ⟨h0, hz⟩ | ⟨g, cap, cur, h1, h2, h3, h4, h5, h6, h7⟩
  · omega
  · obtain ⟨e1, _, _⟩ := Value.slice.inj h1
    refine ⟨g, e1, cur, (0, 0), h3, .inr (Nat.le_refl _), fun i hi => ?_⟩
    have hl : i < xs.length := by have := h.1; rw [bv_length] at this; omega
    have h8 : (cur.toList.take (n * 1))[i]? = (bv xs)[i]? := by rw [h7]
    rw [List.getElem?_take_of_lt (by omega), Array.getElem?_toList, bv_get xs i hl] at h8
    have h9 : xs.getD i 0 < 256 := by
      rw [List.getD_eq_getElem?_getD, List.getElem?_eq_getElem hl]
      exact hb _ (List.getElem_mem hl)
    exact ⟨_, by omega, by omega, h8⟩
theorem Row8.ofBytes {w : World} {g n c : Nat} {xs : List Nat} (h : BytesAt w (some ⟨g, 0, none⟩) n c xs) (hn : 0 < n) (hu : Unf w g n) : Row8 w g n := by
  obtain ⟨cs, fr, hg, hf⟩ := hu
  refine ⟨cs, fr, hg, .inl hf, fun i hi => ?_⟩
  obtain ⟨b, off, e, _, hc⟩ := h.cells hn
  cases e
  have h1 := hc i hi
  rw [cell_of_row w g (0 + i) _ _ fr hg, Nat.zero_add] at h1
  have hl : i < xs.length := by rw [h.len]; exact hi
  have h9 : xs.getD i 0 < 256 := by
    rw [List.getD_eq_getElem?_getD, List.getElem?_eq_getElem hl]
    exact h.byte _ (List.getElem_mem hl)
  exact ⟨_, by omega, by omega, h1⟩
theorem Row8.get {w : World} {g n i : Nat} (h : Row8 w g n) (hi : i < n) : w.frozen? ⟨g, i, none⟩ = false ∧ ∃ z : Int, 0 ≤ z ∧ z < 256 ∧ w.cell? ⟨g, i, none⟩ = some (.int .u8 z) := by
  obtain ⟨cs, fr, hg, hf, hc⟩ := h
  obtain ⟨z, z0, z1, hz⟩ := hc i hi
  refine ⟨?_, z, z0, z1, by rw [cell_of_row w g i _ _ fr hg]; exact hz⟩
  obtain ⟨lo, hi'⟩ := fr
  unfold World.frozen?
  simp only [hg]
  simp only at hf
  rw [Bool.and_eq_false_iff, decide_eq_false_iff_not, decide_eq_false_iff_not]
  omega
theorem setCell_fr (w : World) (g j : Nat) (u : Value) {cs : Array Value} {t : TypeId} {fr : Nat × Nat} (h : w.heap[g]? = some (.cells cs t fr)) : (w.setCell ⟨g, j, none⟩ u).heap[g]? = some (.cells (cs.setIfInBounds j u) t fr) := by
  obtain ⟨hl, e⟩ := Array.getElem?_eq_some_iff.1 h
  unfold World.setCell
  simp [hl, Array.getElem_modify, e]
theorem Row8.set {w : World} {g n i : Nat} (h : Row8 w g n) {z : Int} (h0 : 0 ≤ z) (h1 : z < 256) : Row8 (w.setCell ⟨g, i, none⟩ (.int .u8 z)) g n := by
  obtain ⟨cs, fr, hg, hf, hc⟩ := h
  refine ⟨_, fr, setCell_fr w g i _ hg, hf, fun k hk => ?_⟩
  obtain ⟨y, y0, y1, hy⟩ := hc k hk
  rw [Array.getElem?_setIfInBounds]
  by_cases e : i = k
  · rw [if_pos e]
    have : i < cs.size := by rw [e]; exact (Array.getElem?_eq_some_iff.1 hy).1
    rw [if_pos this]
    exact ⟨z, h0, h1, rfl⟩
  · rw [if_neg e]; exact ⟨y, y0, y1, hy⟩
/-- the program's store is left alone where other cells turn -/
theorem StIn.frmT {base : Nat} {W W' : World} {s : Nat} {σ : Sto} (h : StIn base W s σ) {F : Nat → Prop} (hf : Frm F W W') (hF : ∀ b, F b → ∃ cs t fr, W.heap[b]? = some (.cells cs t fr) ∧ t ≠ 51) : StIn base W' s σ := by
  obtain ⟨h0, ⟨Mo, Mu, h1, h2⟩ | ⟨h1, h2⟩⟩ := h
  · refine ⟨h0, .inl ⟨Mo, Mu, h1.same fun b hb => hf.block b (h1.lt hb) (fun g => ?_), h2⟩⟩
    obtain ⟨cs, t, fr, g1, g2⟩ := hF b g
    exact h1.not g1 g2 hb
  · refine ⟨h0, .inr ⟨h1.same (hf.block s h1.lt (fun g => ?_)) (fun m es c hm => hf.block m (Array.getElem?_eq_some_iff.1 hm).1 (fun g => ?_)), h2⟩⟩
    · obtain ⟨cs, t, fr, g1, g2⟩ := hF s g
      exact g2 (h1.notStore g1)
    · obtain ⟨cs, t, fr, g1, g2⟩ := hF m g
      rw [hm] at g1; cases g1
theorem isD_not {t : TypeId} (h : isD t) : t ≠ 51 := by
  rcases h with rfl | rfl | rfl | rfl | rfl <;> decide
theorem DStAt.keepC {W W' : World} {S base : Nat} {δ : DSto} (h : DStAt W S base δ) (hk : KeepC W W') : DStAt W' S base δ := h.same fun b hb => by
  obtain ⟨cs, t, g, gt⟩ := h.ty hb
  rw [g, hk b cs t (0, 0) g (isD_not gt)]
theorem StIn.frmD {base base' : Nat} {W W' : World} {s S : Nat} {σ : Sto} {δ : DSto} (h : StIn base W s σ) (hd : DStAt W S base' δ) (hf : Frm (DF S δ) W W') : StIn base W' s σ :=
  h.frmT hf fun b hb => by
    obtain ⟨cs, t, g, gt⟩ := hd.ty hb
    exact ⟨cs, t, _, g, isD_not gt⟩
/-- a store's block of bytes -/
theorem DStAt.db {W : World} {S base : Nat} {δ : DSto} (h : DStAt W S base δ) {b : Nat} (hb : DF S δ b) {cs : Array Value} {fr : Nat × Nat} (hg : W.heap[b]? = some (.cells cs 5 fr)) : DB δ b := by
  rcases hb with rfl | e | e | ⟨o, ho, e⟩ | ⟨u, hu, e | ⟨p, hp, e⟩⟩
  · have := h.blk; rw [hg] at this; simp at this
  · obtain ⟨cu, g⟩ := own_blk_ty h.orow e; rw [hg] at g; simp at g
  · obtain ⟨cu, g⟩ := own_blk_ty h.urow e; rw [hg] at g; simp at g
  · exact .inl ⟨o, ho, e⟩
  · obtain ⟨cu, g⟩ := own_blk_ty (h.upl u hu).row e; rw [hg] at g; simp at g
  · exact .inr ⟨u, hu, p, hp, e⟩
theorem DB.df {S : Nat} {δ : DSto} {b : Nat} (h : DB δ b) : DF S δ b := by
  rcases h with ⟨o, ho, e⟩ | ⟨u, hu, p, hp, e⟩
  · exact .inr (.inr (.inr (.inl ⟨o, ho, e⟩)))
  · exact .inr (.inr (.inr (.inr ⟨u, hu, .inr ⟨p, hp, e⟩⟩)))
/-- bytes of no block of the store's, turned -/
theorem DStAt.turn8 {W W' : World} {S base g : Nat} {δ : DSto} (h : DStAt W S base δ) (hf : Frm (fun b => b = g) W W') {cs : Array Value} {fr : Nat × Nat} (hg : W.heap[g]? = some (.cells cs 5 fr)) (hn : ¬ DB δ g) : DStAt W' S base δ :=
  h.same fun b hb => hf.block b (h.lt hb) fun e => by subst e; exact hn (h.db hb hg)
theorem DStAt.lo {W : World} {S base : Nat} {δ : DSto} (h : DStAt W S base δ) (hS : base ≤ S) {b : Nat} (hb : DF S δ b) : base ≤ b := by
  rcases hb with rfl | e | e | ⟨o, ho, e⟩ | ⟨u, hu, e | ⟨p, hp, e⟩⟩
  · exact hS
  · exact (own_blk_lt h.orow e).1
  · exact (own_blk_lt h.urow e).1
  · exact (own_blk_lt (h.obj o ho).row e).1
  · exact (own_blk_lt (h.upl u hu).row e).1
  · exact (own_blk_lt ((h.upl u hu).prt p hp).row e).1
theorem vec_frm {w w' : World} {F : Nat → Prop} {a : Option Addr} {n c : Nat} {l : List ItemV} (h : VecAt ItemS w a n c l) (hf : Frm F w w') (hn : ∀ k off s, a = some ⟨k, off, s⟩ → ¬ F k) : VecAt ItemS w' a n c l :=
  ⟨h.len, h.cap, h.capm, h.nl, fun _ _ => trivial, fun hp => by
    obtain ⟨b, off, ha, hlt, hc⟩ := h.cells hp
    exact ⟨b, off, ha, Nat.lt_of_lt_of_le hlt hf.size, fun i hi j u hu => (cell_of_heap (hf.block b hlt (hn b off _ ha))).trans (hc i hi j u hu)⟩⟩
theorem bytes_box {w w' : World} {a : Option Addr} {n c b : Nat} {xs : List Nat} (h : BytesAt w a n c xs) {cs : Array Value} {t : TypeId} (hb : w.heap[b]? = some (.cells cs t (0, 0))) (hc : ∀ (j : Nat) (z : Int), cs[j]? ≠ some (Value.int .u8 z)) (hf : Frm (fun k => k = b) w w') : BytesAt w' a n c xs :=
  bytes_frm h hf fun b' off e hn e2 => by
    obtain ⟨b9, off9, e9, _, hcell⟩ := h.cells hn
    rw [e] at e9
    cases e9
    have h0 := hcell 0 hn
    rw [e2, cell_of_row w b _ _ _ (0, 0) hb] at h0
    exact hc _ _ h0
theorem bytes_kc {w w' : World} {base n c : Nat} {a : Option Addr} {xs : List Nat} (h : BytesAt w a n c xs) (hb : Below base w w') (hk : KeepC w w') (hl : ∀ b off, a = some ⟨b, off, none⟩ → 0 < n → b < base ∨ ∃ cs t fr, w.heap[b]? = some (.cells cs t fr) ∧ t ≠ 51) : BytesAt w' a n c xs :=
  ⟨h.len, h.cap, h.byte, h.reach, h.capm, h.nl, fun hn => by
    obtain ⟨b, off, ha, hlt, hc⟩ := h.cells hn
    refine ⟨b, off, ha, Nat.lt_of_lt_of_le hlt hb.size, fun i hi => ?_⟩
    rcases hl b off ha hn with g | ⟨cs, t, fr, g1, g2⟩
    · exact (hb.cell (p := ⟨b, off + i, none⟩) g).trans (hc i hi)
    · exact (cell_of_heap ((hk b cs t fr g1 g2).trans g1.symm)).trans (hc i hi)⟩
theorem turn_any {w0 W W' : World} {base s S : Nat} {σ : Sto} {δ : DSto} {F : Nat → Prop} (hs : StIn base W s σ) (hd : DStAt W S base δ) (hb : Below base w0 W) (hB : base ≤ W.heap.size) (hF : ∀ b, F b → base ≤ b ∧ (∃ cs fr, W.heap[b]? = some (.cells cs 5 fr)) ∧ ¬ DB δ b) (hf : Frm F W W') : StIn base W' s σ ∧ DStAt W' S base δ ∧ Below base w0 W' := by
  refine ⟨hs.frmT hf (fun b g => ?_), hd.same (fun b g => hf.block b (hd.lt g) (fun e => ?_)), ?_⟩
  · obtain ⟨_, ⟨cs, fr, h1⟩, _⟩ := hF b g
    exact ⟨cs, _, fr, h1, by decide⟩
  · obtain ⟨_, ⟨cs, fr, h1⟩, h2⟩ := hF b e
    exact h2 (hd.db g h1)
  · exact hb.trans (hf.toBelow hB (fun b g => (hF b g).1))
/-- both stores, made anew -/
def dsto0 : DSto := ⟨none, 0, [], none, 0, [], 0, 0, 0⟩
theorem dst_new {w : World} {S base : Nat} (h : w.heap[S]? = some (.cells #[.slice none 0 0, .slice none 0 0, .int .i64 0, .int .i64 0, .int .i64 0] 29 (0, 0))) : DStAt w S base dsto0 :=
  ⟨h, World.ownsRow_nil _ _ _ _, World.ownsRow_nil _ _ _ _, (fun o ho => by cases ho), (fun u hu => by cases hu), by decide, by decide⟩
theorem tie0 : Tie (sto0 0) dsto0 := ⟨rfl, rfl, (fun i p u hp => by cases i <;> cases hp), rfl, rfl, rfl⟩
theorem dtick_eq (now n : Int) : dtickE now n = tickE now n := by
  unfold dtickE tickE
  by_cases h1 : n < 0 <;> by_cases h2 : 1099511627776 < n <;> by_cases h3 : 1099511627775 < now + n <;> simp [h1, h2, h3] <;> omega
theorem tie_tick {σ : Sto} {δ : DSto} (h : Tie σ δ) (n : Int) : Tie (tickS σ n) { δ with now := if dtickE δ.now n = 0 then δ.now + n else δ.now } := by
  unfold tickS
  rw [dtick_eq, ← h.now]
  by_cases e : tickE σ.now n = 0
  · rw [if_pos e, if_pos e]
    exact ⟨h.objs, h.ulen, h.upl, h.ver, h.id, rfl⟩
  · rw [if_neg e, if_neg e]
    exact ⟨h.objs, h.ulen, h.upl, h.ver, h.id, h.now ▸ rfl⟩
end Go.Proofs.YtjafagfhkpaciaaGreat
end PkSP8_4
section PkSP8_5
/- SameReply of replies that say the same, walked. -/
namespace Go.Proofs.YtjafagfhkpaciaaGreat
open Go.RowKit
set_option linter.unusedVariables false

@[go_sem] theorem eq_itm (k : ByteArray) (x y z : Int) (w : World) : (Op.equalIn 10000 54 (.agg #[.string k, .int .i64 x, .int .i64 y, .int .i64 z]) (.agg #[.string k, .int .i64 x, .int .i64 y, .int .i64 z])).run Tryz.prog w = .ok true w := by
  have us := Tryz.underlying9
  have ag := Tryz.isAgg9
  have zs := Tryz.sizeOf9
  have hS : Tryz.prog.underlying 54 = some (.struct (Tryz.prog.fieldsOf 54)) := by kernel_rfl
  have hp : Tryz.prog.stoodInHeld 54 = false := by kernel_rfl
  rw [show (10000 : Nat) = 9999 + 1 from rfl, run_equalIn_agg w 9999 54 _ _ hS hp]
  simp only [Program.fieldsOf, Tryz.underlying54]
  go_simp
@[go_sem] theorem guard_itm (x y : Operand) (xs ys : Array Value) (w : World) : (eqGuard .neq 54 x y (.agg xs) (.agg ys)).run Tryz.prog w = .ok () w := run_eqGuard_agg w .neq 54 x y xs ys (by kernel_rfl)
@[go_sem] theorem neq_itm (k : ByteArray) (x y z : Int) (w : World) : (binOp .neq 54 (.agg #[.string k, .int .i64 x, .int .i64 y, .int .i64 z]) (.agg #[.string k, .int .i64 x, .int .i64 y, .int .i64 z])).run Tryz.prog w = .ok (.bool false) w := by
  rw [run_neq_struct, eq_itm]; rfl
theorem Below.drewQ (w : World) (q : Nat) : Below w.heap.size w (w.drewN q) := ⟨rfl, rfl, rfl, Nat.le_refl _, fun _ _ => rfl⟩
set_option maxRecDepth 100000 in
set_option maxHeartbeats 8000000 in
theorem samereply_any {w : World} {er ver bo id : Int} {mo : Bool} {da da' la la' : Option Addr} {dn dc dc' ln lc lc' : Nat} {xs : List Nat} {items : List ItemV} (hd : BytesAt w da dn dc xs) (hd' : BytesAt w da' dn dc' xs) (hl : VecAt ItemS w la ln lc items) (hl' : VecAt ItemS w la' ln lc' items) (hn : ln ≤ 1000) :
    Calls Tryz.prog 12 #[.agg (repA er da dn dc ver bo id la ln lc mo), .agg (repA er da' dn dc' ver bo id la' ln lc' mo)] w fun e w' => e = .returned (.bool true) ∧ Below w.heap.size w w' := by
  unfold repA
  obtain ⟨B, hB⟩ : ∃ B, B = w.heap.size := ⟨_, rfl⟩
  obtain ⟨B', hB'⟩ : ∃ B', B' = w.heap.size + 1 := ⟨_, rfl⟩
  obtain ⟨W1, hW1⟩ : ∃ W1, W1 = w.alloc (.cells #[.int .i64 er, .slice da dn dc, .int .i64 ver, .int .i64 bo, .int .i64 id, .slice la ln lc, .bool mo] 43) := ⟨_, rfl⟩
  obtain ⟨W2, hW2⟩ : ∃ W2, W2 = W1.alloc (.cells #[.int .i64 er, .slice da' dn dc', .int .i64 ver, .int .i64 bo, .int .i64 id, .slice la' ln lc', .bool mo] 43) := ⟨_, rfl⟩
  have hb1 : Below w.heap.size w W1 := by rw [hW1]; exact (Below.refl _ _).alloc (Nat.le_refl _) _
  have hs1 : W1.heap.size = w.heap.size + 1 := by rw [hW1]; simp
  have hb2 : Below W1.heap.size W1 W2 := by rw [hW2]; exact (Below.refl _ _).alloc (Nat.le_refl _) _
  have hk1 : W1.heap[B]? = some (.cells #[.int .i64 er, .slice da dn dc, .int .i64 ver, .int .i64 bo, .int .i64 id, .slice la ln lc, .bool mo] 43 (0, 0)) := by rw [hW1, hB]; exact heap_alloc_newD w _
  have hk1' := cells_of_below hb2 hk1
  have hk2 : W2.heap[B']? = some (.cells #[.int .i64 er, .slice da' dn dc', .int .i64 ver, .int .i64 bo, .int .i64 id, .slice la' ln lc', .bool mo] 43 (0, 0)) := by rw [hW2, hB', ← hs1]; exact heap_alloc_newD W1 _
  have p0 := cell_blkD hk1' (i := 0) (u := .int .i64 er) rfl
  have p1 := cell_blkD hk1' (i := 1) (u := .slice da dn dc) rfl
  have p2 := cell_blkD hk1' (i := 2) (u := .int .i64 ver) rfl
  have p3 := cell_blkD hk1' (i := 3) (u := .int .i64 bo) rfl
  have p4 := cell_blkD hk1' (i := 4) (u := .int .i64 id) rfl
  have p5 := cell_blkD hk1' (i := 5) (u := .slice la ln lc) rfl
  have p6 := cell_blkD hk1' (i := 6) (u := .bool mo) rfl
  have q0 := cell_blkD hk2 (i := 0) (u := .int .i64 er) rfl
  have q1 := cell_blkD hk2 (i := 1) (u := .slice da' dn dc') rfl
  have q2 := cell_blkD hk2 (i := 2) (u := .int .i64 ver) rfl
  have q3 := cell_blkD hk2 (i := 3) (u := .int .i64 bo) rfl
  have q4 := cell_blkD hk2 (i := 4) (u := .int .i64 id) rfl
  have q5 := cell_blkD hk2 (i := 5) (u := .slice la' ln lc') rfl
  have q6 := cell_blkD hk2 (i := 6) (u := .bool mo) rfl
  have hbw := hb1.trans (hb2.mono hb1.size)
  have HB2 := Lib.hid hbw
  have cv := (hd.kept hbw).conv
  have cv' := (hd'.kept hbw).conv
  have HL := Lib.hid (hl.kept hbw)
  have HL' := Lib.hid (hl'.kept hbw)
  have h1 := hl.cap
  have h2 := hl.capm
  have h1' := hl'.cap
  have h2' := hl'.capm
  have HK1 := Lib.hid hk1'
  have HK2 := Lib.hid hk2
  have HE := Lib.hid (And.intro hW1 (And.intro hW2 (And.intro hB (And.intro hB' hs1))))
  clear hd hd' hl hl' hW1 hW2 hb1 hb2 hk1 hk1' hk2 hB hB' hs1 hbw
  go_enter Tryz.func12, Tryz.ntmps12
  go_upto_region 1 with fail
  rw [← HE.out.1, ← HE.out.2.1, ← HE.out.2.2.2.1, ← HE.out.2.2.1]
  go_wp2_with fail
  have HB0 := Lib.hid (Below.refl W2.heap.size W2)
  clear p0 p1 p2 p3 p4 p5 p6 q0 q1 q2 q3 q4 q5 q6 cv cv'
  go_loopw [60] (fun s60 wr => ∃ i : Nat, i ≤ ln ∧ s60 = .int .i64 i ∧ Hid (Below W2.heap.size W2 wr)) (fun s60 _ => ln - (intOf s60).toNat)
  case atStart => exact ⟨0, by omega, rfl, HB0⟩
  case round =>
    clear HB0
    obtain ⟨i, hi, rfl, HB⟩ := hrel
    rename World => wr
    by_cases hin : i < ln
    · obtain ⟨b, off, ha, _, _, hc⟩ := (HL.out.kept HB.out).get hin
      obtain ⟨b', off', ha', _, _, hc'⟩ := (HL'.out.kept HB.out).get hin
      obtain ⟨x, hx⟩ : ∃ x, x = items.getD i ItemS.z := ⟨_, rfl⟩
      rw [← hx] at hc hc'
      obtain ⟨xk, xv, xs', xb⟩ := x
      have k0 : wr.cell? ⟨b, off + i * 4, none⟩ = some (.string xk) := hc 0 _ rfl
      have k1 : wr.cell? ⟨b, off + i * 4 + 1, none⟩ = some (.int .i64 xv) := hc 1 _ rfl
      have k2 : wr.cell? ⟨b, off + i * 4 + 2, none⟩ = some (.int .i64 xs') := hc 2 _ rfl
      have k3 : wr.cell? ⟨b, off + i * 4 + 3, none⟩ = some (.int .i64 xb) := hc 3 _ rfl
      have j0 : wr.cell? ⟨b', off' + i * 4, none⟩ = some (.string xk) := hc' 0 _ rfl
      have j1 : wr.cell? ⟨b', off' + i * 4 + 1, none⟩ = some (.int .i64 xv) := hc' 1 _ rfl
      have j2 : wr.cell? ⟨b', off' + i * 4 + 2, none⟩ = some (.int .i64 xs') := hc' 2 _ rfl
      have j3 : wr.cell? ⟨b', off' + i * 4 + 3, none⟩ = some (.int .i64 xb) := hc' 3 _ rfl
      have p5 : wr.cell? ⟨B, 5, none⟩ = some (.slice la ln lc) := cell_blkD (cells_of_below HB.out HK1.out) (i := 5) rfl
      have q5 : wr.cell? ⟨B', 5, none⟩ = some (.slice la' ln lc') := cell_blkD (cells_of_below HB.out HK2.out) (i := 5) rfl
      have zi : (i : Int) < (ln : Int) := by omega
      have zi0 : (0 : Int) ≤ (i : Int) := by omega
      have wi : IntKind.i64.wrap ((i : Int) + 1) = (i : Int) + 1 := IntWalk.i64_in _ (by omega)
      clear hc hc' hx
      subst ha ha'
      go_wp2_with fail
      go_quiet (fail)
      rename Nat => nq
      have HB9 := Lib.hid (HB.out.trans ((Below.drewQ wr nq).mono HB.out.size))
      clear k0 k1 k2 k3 j0 j1 j2 j3 p5 q5
      go_wp2_with fail
      go_roundw
      case rel => exact ⟨i + 1, by omega, by push_cast; rfl, HB9⟩
      case measure => simp only [intOf]; omega
    · obtain rfl : i = ln := by omega
      go_wp2_with fail
      first | go_ret2 | go_ret
      exact ⟨rfl, HB2.out.trans (HB.out.mono HB2.out.size)⟩
end Go.Proofs.YtjafagfhkpaciaaGreat
end PkSP8_5
section PkSP8_6
/- What stays of rows and stores behind other cells' turns. -/
namespace Go.Proofs.YtjafagfhkpaciaaGreat
open Go.RowKit
set_option linter.unusedVariables false

theorem own_keepC {w w' : World} {base n k : Nat} {e : TypeId} {v : Value} {xs : List Value} (h : w.ownsRow base e k v n xs) (hk : KeepC w w') (he : e ≠ 51) : w'.ownsRow base e k v n xs := by
  refine ⟨h.1, ?_⟩
  rcases h.2 with g | ⟨g, cap, cu, h1, h2, h3, h4⟩
  · exact .inl g
  · exact .inr ⟨g, cap, cu, h1, h2, hk _ _ _ _ h3 he, h4⟩
theorem StIn.grow {base b' m k : Nat} {W W' : World} {s : Nat} {σ : Sto} {e : TypeId} {v : Value} {xs : List Value} (h : StIn base W s σ) (ho : W.ownsRow b' e k v m xs) (he : e ≠ 51) (hg : W.grownBy W' v.ownBlock) : StIn base W' s σ := by
  have hF : Frm (fun b => some b = v.ownBlock) W W' := ⟨hg.os, hg.tape, hg.output, hg.size, fun k hk hf => hg.block k hk hf⟩
  have hcell : ∀ b, some b = v.ownBlock → ∃ cu, W.heap[b]? = some (.cells cu e (0, 0)) := by
    intro b hb
    rcases ho.2 with ⟨rfl, hz⟩ | ⟨g, cap, cu, rfl, _, hh, _⟩
    · cases hb
    · cases hb; exact ⟨_, hh⟩
  obtain ⟨h0, ⟨Mo, Mu, h1, h2⟩ | ⟨h1, h2⟩⟩ := h
  · refine ⟨h0, .inl ⟨Mo, Mu, h1.same fun b hb => hF.block b (h1.lt hb) (fun e2 => ?_), h2⟩⟩
    obtain ⟨cu, hc⟩ := hcell b e2
    exact h1.not hc he hb
  · refine ⟨h0, .inr ⟨h1.same (hF.block s h1.lt fun e2 => ?_) (fun m es c hm => hF.block m (Array.getElem?_eq_some_iff.1 hm).1 fun e2 => ?_), h2⟩⟩
    · obtain ⟨cu, hc⟩ := hcell s e2
      exact he (h1.notStore hc)
    · obtain ⟨cu, hc⟩ := hcell m e2
      rw [hm] at hc
      cases hc
end Go.Proofs.YtjafagfhkpaciaaGreat
end PkSP8_6
section PkSP8_7
/- The law StorePlays, walked. Written by gensdplays.py. -/
namespace Go.Proofs.YtjafagfhkpaciaaGreat
open Go.RowKit
set_option linter.unusedVariables false
set_option linter.unusedSimpArgs false

set_option maxRecDepth 100000 in
set_option maxHeartbeats 32000000 in
theorem storePlays_walk (a0 : Option Addr) (len0 cap0 : Nat) (z0 : List ActV) (w : World) (hv : VecAt ActS w a0 len0 cap0 z0) :
    Calls Tryz.prog 3 #[.slice a0 len0 cap0] w fun e w' => e = .returned (.bool true) ∧ Below w.heap.size w w' := by
  have HV := Lib.hid hv
  have hcm := hv.capm
  have hcp := hv.cap
  have HN := Lib.hid (new_any w)
  obtain ⟨w1, hw1⟩ : ∃ w1, w1 = w.alloc (.cells #[.map none, .map none, .int .i64 0, .int .i64 0, .int .i64 0, .int .i64 0] 51) := ⟨_, rfl⟩
  have hb1 : Below w.heap.size w w1 := by rw [hw1]; exact (Below.refl _ _).alloc (Nat.le_refl _) _
  have hs1 : StIn w.heap.size w1 w.heap.size (sto0 0) := by rw [hw1]; exact ⟨Nat.le_refl _, .inr ⟨.new (heap_new w _), rfl⟩⟩
  obtain ⟨S, hSe⟩ : ∃ S, S = w1.heap.size := ⟨_, rfl⟩
  obtain ⟨wa, hwa⟩ : ∃ wa, wa = w1.alloc (.cells #[.slice none 0 0, .slice none 0 0, .int .i64 0, .int .i64 0, .int .i64 0] 29) := ⟨_, rfl⟩
  have hba : Below w1.heap.size w1 wa := by rw [hwa]; exact (Below.refl _ _).alloc (Nat.le_refl _) _
  have HDA := Lib.hid (show DStAt wa S w.heap.size dsto0 from dst_new (by rw [hwa, hSe]; exact heap_alloc_newD w1 _))
  have HSA := Lib.hid (hs1.below hba)
  have HBA := Lib.hid (hb1.trans (hba.mono hb1.size))
  have HSL := Lib.hid (show w.heap.size ≤ S from by rw [hSe]; exact hb1.size)
  have HL := Lib.hid (lives_any wa)
  have HW1 := Lib.hid hw1
  have HWA := Lib.hid hwa
  have HSE := Lib.hid hSe
  clear hv hw1 hb1 hs1 hSe hwa hba
  go_enter Tryz.func3, Tryz.ntmps3
  go_wp2_with fail
  refine HN.out.mono ?_
  rintro e w1' ⟨rfl, hw1'⟩
  rw [hw1', ← HW1.out]
  clear hw1' w1'
  go_upto_region 2 with fail
  rw [← HWA.out, ← HSE.out]
  go_wp2_with fail
  refine HL.out.mono ?_
  rintro e w2 ⟨rfl, hb2⟩
  have HB2 := Lib.hid (HBA.out.trans (hb2.mono HBA.out.size))
  have HS2 := Lib.hid (HSA.out.below hb2)
  have HD2 := Lib.hid (HDA.out.below hb2)
  clear hb2
  have HFW := Lib.hid (few_any (HV.out.kept HB2.out) (most := 60) (by decide))
  clear HSA HBA HDA HW1 HL HN HWA HSE
  obtain ⟨s, hse⟩ : ∃ s, s = w.heap.size := ⟨_, rfl⟩
  rw [← hse]
  have HS2' : Hid (StIn w.heap.size w2 s (sto0 0)) := by rw [hse]; exact HS2
  clear HS2 hse
  go_wp2_with fail
  refine HFW.out.mono ?_
  rintro e w3 ⟨rfl, hb3⟩
  obtain ⟨n, hn⟩ : ∃ n, n = fewN 60 z0 0 0 := ⟨_, rfl⟩
  rw [← hn]
  obtain ⟨_, hn40, hnl, hnd⟩ := fewN_le (most := 60) (l := z0) (s := 0) (i := 0) (by decide)
  rw [← hn] at hn40 hnl hnd
  rw [HV.out.len, Nat.zero_add] at hnl
  have HND := Lib.hid hnd
  have HB3 := Lib.hid (HB2.out.trans (hb3.mono HB2.out.size))
  have HS3 := Lib.hid (HS2'.out.below hb3)
  have HD3 := Lib.hid (HD2.out.below hb3)
  clear hb3 hn hnd HFW HS2' HB2 HD2
  go_wp2_with fail
  go_loopw [24] (fun s24 wr => ∃ (k : Nat) (σ : Sto) (δ : DSto), k ≤ n ∧ s24 = .int .i64 k ∧ σ.ver ≤ k ∧ σ.id ≤ k ∧ σ.now ≤ 1099511627775 ∧ Hid (Inv σ) ∧ Hid (Tie σ δ) ∧ Hid (StIn w.heap.size wr s σ) ∧ Hid (DStAt wr S w.heap.size δ) ∧ Hid (Below w.heap.size w wr)) (fun s24 _ => n - (intOf s24).toNat)
  case atStart => exact ⟨0, sto0 0, dsto0, by omega, rfl, by decide, by decide, by decide, Lib.hid inv0, Lib.hid tie0, HS3, HD3, HB3⟩
  case round =>
    obtain ⟨k, σ, δ, hk, rfl, hvk, hik, hnw, HI, HT, HS, HD, HB⟩ := hrel
    rename World => wr
    clear HS3 HB3 HD3
    by_cases hkn : k < n
    · obtain ⟨b, off, rfl, hc⟩ := HV.out.row HB.out (show k < len0 by omega)
      obtain ⟨x, hx⟩ : ∃ x, x = z0.getD k ActS.z := ⟨_, rfl⟩
      have hdn : x.dn ≤ 20000 := by rw [hx]; exact HND.out k (by omega)
      have hok : ActS.ok wr x := by rw [hx]; exact (HV.out.kept HB.out).all _ (vec_mem (S := ActS) (by rw [HV.out.len]; omega))
      rw [← hx] at hc
      have c0 : wr.cell? ⟨b, off + k * 8, none⟩ = some (.int .i64 x.ki) := hc 0 _ rfl
      have c1 := hc 1 _ rfl
      have c2 := hc 2 _ rfl
      have c3 := hc 3 _ rfl
      have c4 := hc 4 _ rfl
      have c5 := hc 5 _ rfl
      have c6 := hc 6 _ rfl
      have c7 := hc 7 _ rfl
      obtain ⟨w3, hw3⟩ : ∃ w3, w3 = wr.alloc (.cells (actC x) 36) := ⟨_, rfl⟩
      have hk3 : w3.heap[wr.heap.size]? = some (.cells (actC x) 36 (0, 0)) := by rw [hw3]; exact heap_new wr _
      have hb3 : Below wr.heap.size wr w3 := by rw [hw3]; exact (Below.refl _ _).alloc (Nat.le_refl _) _
      have HB3 := Lib.hid (HB.out.trans (hb3.mono HB.out.size))
      have HS3 := Lib.hid (HS.out.below hb3)
      have HD3 := Lib.hid (HD.out.below hb3)
      have HACT := Lib.hid (show 0 < x.dn → ∃ b off, x.da = some ⟨b, off, none⟩ ∧ b < w.heap.size from fun hn => by
        have hokw : ActS.ok w x := by rw [hx]; exact HV.out.all _ (vec_mem (S := ActS) (by rw [HV.out.len]; omega))
        obtain ⟨b', off', e1, e2, _⟩ := hokw.1.cells hn
        exact ⟨b', off', e1, e2⟩)
      have HCL := Lib.hid (call_any2 (w := w3) (x := x) ⟨hok.1.kept hb3, hok.2⟩ hdn)
      have HK3 := Lib.hid hk3
      have HW3 := Lib.hid hw3
      have HOK := Lib.hid hok
      have zk : (k : Int) < (n : Int) := by omega
      have zk0 : (0 : Int) ≤ (k : Int) := by omega
      have wk : IntKind.i64.wrap ((k : Int) + 1) = (k : Int) + 1 := IntWalk.i64_in _ (by omega)
      clear hc hx hw3 hk3 hb3 hok
      go_upto_region 7 with fail
      have hw3 := HW3.out
      unfold actC at hw3
      rw [← hw3]
      clear hw3 c0 c1 c2 c3 c4 c5 c6 c7
      have d0 := cell_blk2 HK3.out (i := 0) (u := .int .i64 x.ki) rfl
      by_cases hki : x.ki = 0
      · have b0 : (x.ki == 0) = true := by simp [hki]
        clear hki
        go_upto_region 8 with fail
        clear d0 b0
        have HI8 := Lib.hid (Below.refl w3.heap.size w3).drew
        refine wp_region_chain (by kernel_rfl) (by kernel_rfl) (by kernel_rfl) [4, 9] true (by kernel_rfl) (fun k u y => match k with
            | 0 => Below w3.heap.size w3 y
            | 1 => StIn w.heap.size y s (tickS σ x.at') ∧ DStAt y S w.heap.size δ ∧ Below w.heap.size w y ∧ y.heap[wr.heap.size]? = some (.cells (actC x) 36 (0, 0))
            | _ => StIn w.heap.size y s (tickS σ x.at') ∧ DStAt y S w.heap.size { δ with now := if dtickE δ.now x.at' = 0 then δ.now + x.at' else δ.now } ∧ Below w.heap.size w y ∧ y.heap[wr.heap.size]? = some (.cells (actC x) 36 (0, 0))) (fun y => y.heap[wr.heap.size]? = some (.cells (actC x) 36 (0, 0))) (fun j_9 => match j_9 with | 0 => some (.pointer (some ⟨s, 0, none⟩)) | 1 => some (.pointer (some ⟨wr.heap.size, 0, none⟩)) | 2 => some (.pointer (some ⟨wr.heap.size, 4, none⟩)) | 3 => some (.int .i64 x.at') | 4 => some (.int .i64 (tickE σ.now x.at')) | 5 => some (.pointer (some ⟨S, 0, none⟩)) | 6 => some (.pointer (some ⟨wr.heap.size, 0, none⟩)) | 7 => some (.pointer (some ⟨wr.heap.size, 4, none⟩)) | 8 => some (.int .i64 x.at') | 9 => some (.int .i64 (tickE σ.now x.at')) | 10 => some (.bool false) | _ => none) (by rfl) (fun u => HI8.out) (fun k u y hk9 hk hs => by
            match k, hk, hs with
            | 0, _, hs => exact cells_of_below (show Below w3.heap.size w3 y from hs) HK3.out
            | 1, _, hs => exact hs.2.2.2
            | 2, _, hs => exact hs.2.2.2) ?_ ?_ ?_
        · intro i9 o ho hc9 V w9 K hR9 hdep hK
          have HR9 := Lib.hid hR9
          simp only [fill, slotOf, List.size_toArray, List.length_cons, List.length_nil, Nat.reduceAdd, List.getElem?_toArray, List.getElem?_cons_zero, List.getElem?_cons_succ, Option.bind_some, Act.put, List.setIfInBounds_toArray, List.set_cons_zero, List.set_cons_succ] at hK ⊢
          have hin9 : i9 < 11 := (Array.getElem?_eq_some_iff.1 ho).1
          have hcs : i9 = 0 ∨ i9 = 1 ∨ i9 = 2 ∨ i9 = 3 ∨ i9 = 4 ∨ i9 = 5 ∨ i9 = 6 ∨ i9 = 7 ∨ i9 = 8 ∨ i9 = 9 ∨ i9 = 10 := by omega
          clear hin9
          rcases hcs with rfl | rfl | rfl | rfl | rfl | rfl | rfl | rfl | rfl | rfl | rfl
          · obtain rfl := Option.some.inj ho.symm
            clear hdep ho hR9 hc9
            try simp only [fill, slotOf, List.size_toArray, List.length_cons, List.length_nil, Nat.reduceAdd, List.getElem?_toArray, List.getElem?_cons_zero, List.getElem?_cons_succ, Option.bind_some, Act.put, List.setIfInBounds_toArray, List.set_cons_zero, List.set_cons_succ] at hK ⊢
            go_simp
            exact hK (.pointer (some ⟨s, 0, none⟩)) rfl _ rfl
          · obtain rfl := Option.some.inj ho.symm
            clear hdep ho hR9 hc9
            try simp only [fill, slotOf, List.size_toArray, List.length_cons, List.length_nil, Nat.reduceAdd, List.getElem?_toArray, List.getElem?_cons_zero, List.getElem?_cons_succ, Option.bind_some, Act.put, List.setIfInBounds_toArray, List.set_cons_zero, List.set_cons_succ] at hK ⊢
            go_simp
            exact hK (.pointer (some ⟨wr.heap.size, 0, none⟩)) rfl _ rfl
          · obtain rfl := Option.some.inj ho.symm
            have d1 : V 1 = .pointer (some ⟨wr.heap.size, 0, none⟩) := hdep ⟨1, .data⟩ (by simp) rfl _ rfl
            clear hdep ho hR9 hc9
            try simp only [fill, slotOf, List.size_toArray, List.length_cons, List.length_nil, Nat.reduceAdd, List.getElem?_toArray, List.getElem?_cons_zero, List.getElem?_cons_succ, Option.bind_some, Act.put, List.setIfInBounds_toArray, List.set_cons_zero, List.set_cons_succ] at hK ⊢
            rw [d1] at hK ⊢
            go_simp
            exact hK (.pointer (some ⟨wr.heap.size, 4, none⟩)) rfl _ rfl
          · obtain rfl := Option.some.inj ho.symm
            have d2 : V 2 = .pointer (some ⟨wr.heap.size, 4, none⟩) := hdep ⟨2, .data⟩ (by simp) rfl _ rfl
            have u0 := cell_blk2 HR9.out (i := 4) (u := .int .i64 x.at') rfl
            clear hdep ho hR9 hc9
            try simp only [fill, slotOf, List.size_toArray, List.length_cons, List.length_nil, Nat.reduceAdd, List.getElem?_toArray, List.getElem?_cons_zero, List.getElem?_cons_succ, Option.bind_some, Act.put, List.setIfInBounds_toArray, List.set_cons_zero, List.set_cons_succ] at hK ⊢
            rw [d2] at hK ⊢
            go_simp
            exact hK (.int .i64 x.at') rfl _ rfl
          · cases hc9
          · obtain rfl := Option.some.inj ho.symm
            clear hdep ho hR9 hc9
            try simp only [fill, slotOf, List.size_toArray, List.length_cons, List.length_nil, Nat.reduceAdd, List.getElem?_toArray, List.getElem?_cons_zero, List.getElem?_cons_succ, Option.bind_some, Act.put, List.setIfInBounds_toArray, List.set_cons_zero, List.set_cons_succ] at hK ⊢
            go_simp
            exact hK (.pointer (some ⟨S, 0, none⟩)) rfl _ rfl
          · obtain rfl := Option.some.inj ho.symm
            clear hdep ho hR9 hc9
            try simp only [fill, slotOf, List.size_toArray, List.length_cons, List.length_nil, Nat.reduceAdd, List.getElem?_toArray, List.getElem?_cons_zero, List.getElem?_cons_succ, Option.bind_some, Act.put, List.setIfInBounds_toArray, List.set_cons_zero, List.set_cons_succ] at hK ⊢
            go_simp
            exact hK (.pointer (some ⟨wr.heap.size, 0, none⟩)) rfl _ rfl
          · obtain rfl := Option.some.inj ho.symm
            have d6 : V 6 = .pointer (some ⟨wr.heap.size, 0, none⟩) := hdep ⟨6, .data⟩ (by simp) rfl _ rfl
            clear hdep ho hR9 hc9
            try simp only [fill, slotOf, List.size_toArray, List.length_cons, List.length_nil, Nat.reduceAdd, List.getElem?_toArray, List.getElem?_cons_zero, List.getElem?_cons_succ, Option.bind_some, Act.put, List.setIfInBounds_toArray, List.set_cons_zero, List.set_cons_succ] at hK ⊢
            rw [d6] at hK ⊢
            go_simp
            exact hK (.pointer (some ⟨wr.heap.size, 4, none⟩)) rfl _ rfl
          · obtain rfl := Option.some.inj ho.symm
            have d7 : V 7 = .pointer (some ⟨wr.heap.size, 4, none⟩) := hdep ⟨7, .data⟩ (by simp) rfl _ rfl
            have u0 := cell_blk2 HR9.out (i := 4) (u := .int .i64 x.at') rfl
            clear hdep ho hR9 hc9
            try simp only [fill, slotOf, List.size_toArray, List.length_cons, List.length_nil, Nat.reduceAdd, List.getElem?_toArray, List.getElem?_cons_zero, List.getElem?_cons_succ, Option.bind_some, Act.put, List.setIfInBounds_toArray, List.set_cons_zero, List.set_cons_succ] at hK ⊢
            rw [d7] at hK ⊢
            go_simp
            exact hK (.int .i64 x.at') rfl _ rfl
          · cases hc9
          · obtain rfl := Option.some.inj ho.symm
            have d4 : V 4 = .int .i64 (tickE σ.now x.at') := hdep ⟨4, .data⟩ (by simp) rfl _ rfl
            have d9 : V 9 = .int .i64 (tickE σ.now x.at') := hdep ⟨9, .data⟩ (by simp) rfl _ rfl
            clear hdep ho hR9 hc9
            try simp only [fill, slotOf, List.size_toArray, List.length_cons, List.length_nil, Nat.reduceAdd, List.getElem?_toArray, List.getElem?_cons_zero, List.getElem?_cons_succ, Option.bind_some, Act.put, List.setIfInBounds_toArray, List.set_cons_zero, List.set_cons_succ] at hK ⊢
            rw [d4, d9] at hK ⊢
            go_simp
            exact hK (.bool false) rfl _ rfl
        · intro i9 j9 o he9 ho V w9 K hS9 hdep hK
          simp only [fill, slotOf, List.size_toArray, List.length_cons, List.length_nil, Nat.reduceAdd, List.getElem?_toArray, List.getElem?_cons_zero, List.getElem?_cons_succ, Option.bind_some, Act.put, List.setIfInBounds_toArray, List.set_cons_zero, List.set_cons_succ] at hK ⊢
          have hin9 : i9 < 2 := (List.getElem?_eq_some_iff.1 he9).1
          have hcs : i9 = 0 ∨ i9 = 1 := by omega
          clear hin9
          rcases hcs with rfl | rfl
          · obtain rfl := Option.some.inj he9.symm
            obtain rfl := Option.some.inj ho.symm
            have d0 : V 0 = .pointer (some ⟨s, 0, none⟩) := hdep ⟨0, .data⟩ (by simp) rfl _ rfl
            have d3 : V 3 = .int .i64 x.at' := hdep ⟨3, .data⟩ (by simp) rfl _ rfl
            have hs : Below w3.heap.size w3 w9 := hS9
            have hb9 := HB3.out.trans (hs.mono HB3.out.size)
            have HTK := Lib.hid (tick_any (HS3.out.below hs) hb9.size ⟨HI.out.now, hnw⟩ x.at')
            have HDS := Lib.hid (HD3.out.below hs)
            have HB9 := Lib.hid hb9
            have HBX := Lib.hid (cells_of_below hs HK3.out)
            clear hdep ho he9 hS9 hs hb9
            try simp only [fill, slotOf, List.size_toArray, List.length_cons, List.length_nil, Nat.reduceAdd, List.getElem?_toArray, List.getElem?_cons_zero, List.getElem?_cons_succ, Option.bind_some, Act.put, List.setIfInBounds_toArray, List.set_cons_zero, List.set_cons_succ] at hK ⊢
            rw [d0, d3] at hK ⊢
            go_simp
            refine HTK.out.mono ?_
            rintro e w8 ⟨rfl, hs4, hb4, hkc⟩
            exact hK _ w8 ⟨hs4, HDS.out.keepC hkc, HB9.out.trans hb4, hkc _ _ _ _ HBX.out (by decide)⟩ (fun y h => Option.some.inj h) _ rfl
          · obtain rfl := Option.some.inj he9.symm
            obtain rfl := Option.some.inj ho.symm
            have d5 : V 5 = .pointer (some ⟨S, 0, none⟩) := hdep ⟨5, .data⟩ (by simp) rfl _ rfl
            have d8 : V 8 = .int .i64 x.at' := hdep ⟨8, .data⟩ (by simp) rfl _ rfl
            have hs : StIn w.heap.size w9 s (tickS σ x.at') ∧ DStAt w9 S w.heap.size δ ∧ Below w.heap.size w w9 ∧ w9.heap[wr.heap.size]? = some (.cells (actC x) 36 (0, 0)) := hS9
            have HTK := Lib.hid (dtick_any hs.2.1 ⟨by rw [← HT.out.now]; exact HI.out.now, by rw [← HT.out.now]; exact hnw⟩ x.at')
            have HH9 := Lib.hid hs
            clear hdep ho he9 hS9 hs
            try simp only [fill, slotOf, List.size_toArray, List.length_cons, List.length_nil, Nat.reduceAdd, List.getElem?_toArray, List.getElem?_cons_zero, List.getElem?_cons_succ, Option.bind_some, Act.put, List.setIfInBounds_toArray, List.set_cons_zero, List.set_cons_succ] at hK ⊢
            rw [d5, d8] at hK ⊢
            go_simp
            refine HTK.out.mono ?_
            rintro e w8 ⟨rfl, hs4, hg4⟩
            have hf4 : Frm (fun b => b = S) w9 w8 := ⟨hg4.os, hg4.tape, hg4.output, hg4.size, fun b hb hf => hg4.block b hb (fun e => hf (Option.some.inj e))⟩
            rw [dtick_eq, ← HT.out.now]
            exact hK _ w8 ⟨HH9.out.1.frmT hf4 (fun b e => by subst e; exact ⟨_, _, _, HH9.out.2.1.blk, by decide⟩), hs4, HH9.out.2.2.1.trans (hf4.toBelow HH9.out.2.2.1.size (fun b e => by rw [e]; exact HSL.out)), hf4.at HH9.out.2.2.2 (fun e => by have h1 := HH9.out.2.2.2; rw [e, HH9.out.2.1.blk] at h1; simp at h1)⟩ (fun y h => Option.some.inj h) _ rfl
        · intro V w4 hS9 hv9
          have HS9 := Lib.hid (show StIn w.heap.size w4 s (tickS σ x.at') ∧ DStAt w4 S w.heap.size { δ with now := if dtickE δ.now x.at' = 0 then δ.now + x.at' else δ.now } ∧ Below w.heap.size w w4 ∧ w4.heap[wr.heap.size]? = some (.cells (actC x) 36 (0, 0)) from hS9)
          have d10 : V 10 = .bool false := hv9 10 _ (by decide) rfl
          clear hS9 hv9
          simp only [fill, slotOf, List.size_toArray, List.length_cons, List.length_nil, Nat.reduceAdd, List.getElem?_toArray, List.getElem?_cons_zero, List.getElem?_cons_succ, Option.bind_some, Act.put, List.setIfInBounds_toArray, List.set_cons_zero, List.set_cons_succ]
          rw [d10]
          clear d10
          obtain ⟨t1, t2, t3, t4, t5, t6⟩ := HI.out.tick x.at'
          have HI4 := Lib.hid t1
          have HT4 := Lib.hid (tie_tick HT.out x.at')
          have HSA := Lib.hid HS9.out.1
          have HDA := Lib.hid HS9.out.2.1
          have HBA := Lib.hid HS9.out.2.2.1
          clear t1 t4 HS9
          go_wp2_with fail
          go_roundw
          case rel => exact ⟨k + 1, tickS σ x.at', _, by omega, by push_cast; rfl, by omega, by omega, by omega, HI4, HT4, HSA, HDA, HBA⟩
          case measure => simp only [intOf]; omega
      · have n0 : (x.ki == 0) = false := by simpa using hki
        have d1 := cell_blk2 HK3.out (i := 1) (u := .string x.ky) rfl
        have d2 := cell_blk2 HK3.out (i := 2) (u := .slice x.da x.dn x.dc) rfl
        have d3 := cell_blk2 HK3.out (i := 3) (u := .int .i64 x.vr) rfl
        have d4 := cell_blk2 HK3.out (i := 4) (u := .int .i64 x.at') rfl
        have d5 := cell_blk2 HK3.out (i := 5) (u := .int .i64 x.nn) rfl
        have d6 := cell_blk2 HK3.out (i := 6) (u := .int .i64 x.id) rfl
        have d7 := cell_blk2 HK3.out (i := 7) (u := .int .i64 x.big) rfl
        go_wp2_with fail
        refine HCL.out.mono ?_
        rintro e w4 ⟨qa, qn, qc, qx, rfl, hqb, hb4, hqw⟩
        clear d0 d1 d2 d3 d4 d5 d6 d7 n0
        obtain ⟨b7, hb7⟩ : ∃ b7, b7 = w4.heap.size := ⟨_, rfl⟩
        obtain ⟨W5, hW5⟩ : ∃ W5, W5 = w4.alloc (.cells #[.int .i64 x.ki, .string x.ky, .slice qa qn qc, .int .i64 x.vr, .int .i64 x.at', .int .i64 x.nn, .int .i64 x.id] 34) := ⟨_, rfl⟩
        have hbe5 : Below w4.heap.size w4 W5 := by rw [hW5]; exact (Below.refl _ _).alloc (Nat.le_refl _) _
        have hk7 : W5.heap[b7]? = some (.cells #[.int .i64 x.ki, .string x.ky, .slice qa qn qc, .int .i64 x.vr, .int .i64 x.at', .int .i64 x.nn, .int .i64 x.id] 34 (0, 0)) := by rw [hW5, hb7]; exact heap_alloc_newD w4 _
        obtain ⟨b8, hb8⟩ : ∃ b8, b8 = W5.heap.size := ⟨_, rfl⟩
        obtain ⟨W6, hW6⟩ : ∃ W6, W6 = W5.alloc (.cells #[.int .i64 x.ki, .string x.ky, .slice qa qn qc, .int .i64 x.vr, .int .i64 x.at', .int .i64 x.nn, .int .i64 x.id] 34) := ⟨_, rfl⟩
        have hbe6 : Below W5.heap.size W5 W6 := by rw [hW6]; exact (Below.refl _ _).alloc (Nat.le_refl _) _
        have hk8 : W6.heap[b8]? = some (.cells #[.int .i64 x.ki, .string x.ky, .slice qa qn qc, .int .i64 x.vr, .int .i64 x.at', .int .i64 x.nn, .int .i64 x.id] 34 (0, 0)) := by rw [hW6, hb8]; exact heap_alloc_newD W5 _
        have HW5 := Lib.hid hW5
        have HW6 := Lib.hid hW6
        have HB7E := Lib.hid hb7
        have HB8E := Lib.hid hb8
        have hbe46 := hbe5.trans (hbe6.mono hbe5.size)
        have HK7 := Lib.hid (cells_of_below hbe6 hk7)
        have HK8 := Lib.hid hk8
        have HB46 := Lib.hid hbe46
        have HB4 := Lib.hid hb4
        have HQW := Lib.hid hqw
        have HQB := Lib.hid (hqb.kept hbe46)
        have HB6 := Lib.hid (HB3.out.trans ((hb4.trans (hbe46.mono hb4.size)).mono HB3.out.size))
        have HS6 := Lib.hid (HS3.out.below (hb4.trans (hbe46.mono hb4.size)))
        have HD6 := Lib.hid (HD3.out.below (hb4.trans (hbe46.mono hb4.size)))
        have HTW := Lib.hid (twin_any HQB.out)
        have s0 := cell_blkD hk7 (i := 0) (u := .int .i64 x.ki) rfl
        have s1 := cell_blkD hk7 (i := 1) (u := .string x.ky) rfl
        have s2 := cell_blkD hk7 (i := 2) (u := .slice qa qn qc) rfl
        have s3 := cell_blkD hk7 (i := 3) (u := .int .i64 x.vr) rfl
        have s4 := cell_blkD hk7 (i := 4) (u := .int .i64 x.at') rfl
        have s5 := cell_blkD hk7 (i := 5) (u := .int .i64 x.nn) rfl
        have s6 := cell_blkD hk7 (i := 6) (u := .int .i64 x.id) rfl
        clear hb4 hqw hqb hW5 hW6 hb7 hb8 hbe5 hbe6 hbe46 hk7 hk8 HCL
        go_upto_region 11 with fail
        rw [← HW5.out, ← HB7E.out]
        go_upto_region 12 with fail
        rw [← HW6.out, ← HB8E.out]
        clear s0 s1 s2 s3 s4 s5 s6
        have s2 := cell_blkD HK7.out (i := 2) (u := .slice qa qn qc) rfl
        go_wp2_with fail
        refine HTW.out.mono ?_
        rintro e w7 ⟨v7, rfl, ho7, _, hb67⟩
        obtain ⟨oa, oc, rfl⟩ := own_sliceD ho7
        have HO7 := Lib.hid ho7
        have HB67 := Lib.hid hb67
        have hk87 := cells_of_below hb67 HK8.out
        have u2 := cell_blkD hk87 (i := 2) (u := .slice qa qn qc) rfl
        have f2 := frz_blkD hk87 2
        obtain ⟨W8, hW8⟩ : ∃ W8, W8 = w7.setCell ⟨b8, 2, none⟩ (.slice oa qn oc) := ⟨_, rfl⟩
        have hf8 : Frm (fun b => b = b8) w7 W8 := by rw [hW8]; exact (Frm.refl (fun b => b = b8) w7).set (.inl rfl) _ _
        have HK88 := Lib.hid (show W8.heap[b8]? = some (.cells #[.int .i64 x.ki, .string x.ky, .slice oa qn oc, .int .i64 x.vr, .int .i64 x.at', .int .i64 x.nn, .int .i64 x.id] 34 (0, 0)) from by rw [hW8, heap_setCell_same w7 b8 2 _ _ _ hk87]; rfl)
        have HK78 := Lib.hid (show W8.heap[b7]? = some (.cells #[.int .i64 x.ki, .string x.ky, .slice qa qn qc, .int .i64 x.vr, .int .i64 x.at', .int .i64 x.nn, .int .i64 x.id] 34 (0, 0)) from hf8.at (cells_of_below hb67 HK7.out) (fun e => by have h1 := HB7E.out; have h2 := HB8E.out; have h3 := HW5.out; rw [h3] at h2; simp at h2; omega))
        have hlo6 : b8 < W6.heap.size := (Array.getElem?_eq_some_iff.1 HK8.out).1
        have hge8 : w.heap.size ≤ b8 := by have h1 := HB3.out.size; have h2 := HB4.out.size; have h3 := HB8E.out; have h4 := HW5.out; rw [h4] at h3; simp at h3; omega
        have HB8 := Lib.hid (show Below w.heap.size w W8 from (HB6.out.trans (hb67.mono HB6.out.size)).trans (hf8.toBelow (HB6.out.trans (hb67.mono HB6.out.size)).size (fun b e => by rw [e]; exact hge8)))
        have hnT : ∀ b, b = b8 → ∃ cs t fr, w7.heap[b]? = some (.cells cs t fr) ∧ t ≠ 51 := fun b e => by subst e; exact ⟨_, _, _, hk87, by decide⟩
        have HS8 := Lib.hid ((HS6.out.below hb67).frmT hf8 hnT)
        have HD8 := Lib.hid ((HD6.out.below hb67).frmT hk87 (by unfold isD; decide) hf8)
        have HO8 := Lib.hid (row_keptR ho7 hk87 (by decide) hf8)
        have HQB8 := Lib.hid (bytes_box (HQB.out.kept hb67) hk87 (fun j z => by rcases j with _ | _ | _ | _ | _ | _ | _ | j <;> simp) hf8)
        obtain ⟨ob8a, ob8c, ob8e, hob8, _⟩ := BytesAt.ofOwn HO8.out HQB.out.byte HQB.out.reach
        have HOB8 := Lib.hid (show BytesAt W8 oa qn oc qx from by obtain ⟨e1, _, e2⟩ := Value.slice.inj ob8e; rw [e1, e2]; exact hob8)
        have HBT := Lib.hid (show Both w.heap.size w.heap.size W8 s σ δ from ⟨HS8.out, HB8.out.size, HI.out, HT.out, HD8.out.ok, by omega, by omega⟩)
        have HSIM := Lib.hid (sim_any (S := S) (a := qa) (c := qc) (ki := x.ki) (vr := x.vr) (at_ := x.at') (nn := x.nn) (id := x.id) (ky := x.ky) HBT.out HOB8.out (Nat.le_trans HOK.out.2.1 (by decide)) HOK.out.2.2.1)
        have HW8 := Lib.hid hW8
        have HC8 := Lib.hid (show ∀ g cs, w4.heap[g]? = some (.cells cs 5 (0, 0)) → W8.heap[g]? = some (.cells cs 5 (0, 0)) from fun g cs hg => hf8.at (cells_of_below hb67 (cells_of_below HB46.out hg)) (fun e => by have h1 := cells_of_below hb67 (cells_of_below HB46.out hg); rw [e, hk87] at h1; simp at h1))
        have HSZ := Lib.hid (And.intro hlo6 (And.intro HB67.out.size hf8.size))
        clear ho7 hb67 hk87 hW8 hf8 ob8e hob8 hnT s2
        go_upto_region 13 with fail
        rw [← HW8.out]
        clear u2 f2
        have t0 := cell_blkD HK88.out (i := 0) (u := .int .i64 x.ki) rfl
        have t1 := cell_blkD HK88.out (i := 1) (u := .string x.ky) rfl
        have t2 := cell_blkD HK88.out (i := 2) (u := .slice oa qn oc) rfl
        have t3 := cell_blkD HK88.out (i := 3) (u := .int .i64 x.vr) rfl
        have t4 := cell_blkD HK88.out (i := 4) (u := .int .i64 x.at') rfl
        have t5 := cell_blkD HK88.out (i := 5) (u := .int .i64 x.nn) rfl
        have t6 := cell_blkD HK88.out (i := 6) (u := .int .i64 x.id) rfl
        go_wp2_with fail
        refine HSIM.out.mono ?_
        rintro e W9 ⟨er, v, bo, io, mo, rn, rx, its, σ', ⟨⟨ra, ⟨rc, la, lc, rfl, hrb, hrl, hrlo, hfew⟩, hrf⟩, hs9, hbl9, hkc⟩, hinv9, hnow9, hver9, hidd9, href⟩
        unfold rep
        clear t0 t1 t2 t3 t4 t5 t6
        obtain ⟨b9, hb9⟩ : ∃ b9, b9 = W9.heap.size := ⟨_, rfl⟩
        obtain ⟨W10, hW10⟩ : ∃ W10, W10 = W9.alloc (.cells #[.int .i64 er, .slice ra rn rc, .int .i64 v, .int .i64 bo, .int .i64 io, .slice la its.length lc, .bool mo] 43) := ⟨_, rfl⟩
        have hb910 : Below W9.heap.size W9 W10 := by rw [hW10]; exact (Below.refl _ _).alloc (Nat.le_refl _) _
        have hk9 : W10.heap[b9]? = some (.cells #[.int .i64 er, .slice ra rn rc, .int .i64 v, .int .i64 bo, .int .i64 io, .slice la its.length lc, .bool mo] 43 (0, 0)) := by rw [hW10, hb9]; exact heap_alloc_newD W9 _
        have hk7 := cells_of_below hb910 (hkc _ _ _ _ HK78.out (by decide))
        have hk8 := cells_of_below hb910 (hkc _ _ _ _ HK88.out (by decide))
        have HB10 := Lib.hid ((HB8.out.trans hbl9).trans (hb910.mono (HB8.out.trans hbl9).size))
        have HD10 := Lib.hid ((HD8.out.keepC hkc).below hb910)
        have HS10 := Lib.hid (hs9.below hb910)
        have HO10 := Lib.hid (own_below (own_keepC HO8.out hkc (by decide)) hb910)
        have hsz8 : W6.heap.size ≤ W8.heap.size := Nat.le_trans HSZ.out.2.1 HSZ.out.2.2
        have hsz9 : W8.heap.size ≤ W10.heap.size := Nat.le_trans hbl9.size hb910.size
        have hlt6 : ∀ b, DF S δ b → b < W6.heap.size := fun b hb => HD6.out.lt hb
        have HLT := Lib.hid hlt6
        -- c's bytes lie in no block of the store's
        have hqn : ∀ b off, qa = some ⟨b, off, none⟩ → 0 < qn → ¬ DF S δ b := fun b off e hn hb => by
          rcases HQW.out with ⟨g, g2⟩ | ⟨g, e2, hg, _⟩
          · obtain ⟨b', off', e3, hlt⟩ := HACT.out (by omega)
            rw [g, e3] at e
            cases e
            have := HD6.out.lo HSL.out hb
            omega
          · rw [e] at e2
            cases e2
            have := HD3.out.lt hb
            omega
        have hq10 : BytesAt W10 qa qn qc qx := by
          refine (bytes_kc HQB8.out hbl9 hkc (fun b off e hn => ?_)).kept hb910
          rcases HQW.out with ⟨g, g2⟩ | ⟨g, e2, hg, cs, hcs⟩
          · obtain ⟨b', off', e3, hlt⟩ := HACT.out (by omega)
            rw [g, e3] at e
            cases e
            exact .inl hlt
          · rw [e] at e2
            cases e2
            exact .inr ⟨_, _, _, HC8.out _ _ hcs, by decide⟩
        have hon : ∀ b, blkOf oa = some b → ¬ DF S δ b := fun b e hb => by
          have h1 := (own_blk_lt HO8.out e).1
          have h2 := HLT.out b hb
          omega
        have HRK := Lib.hid (show ∀ y, Frm (DF S δ) W10 y → y.heap[b7]? = some (.cells #[.int .i64 x.ki, .string x.ky, .slice qa qn qc, .int .i64 x.vr, .int .i64 x.at', .int .i64 x.nn, .int .i64 x.id] 34 (0, 0)) ∧ y.heap[b8]? = some (.cells #[.int .i64 x.ki, .string x.ky, .slice oa qn oc, .int .i64 x.vr, .int .i64 x.at', .int .i64 x.nn, .int .i64 x.id] 34 (0, 0)) ∧ y.heap[b9]? = some (.cells #[.int .i64 er, .slice ra rn rc, .int .i64 v, .int .i64 bo, .int .i64 io, .slice la its.length lc, .bool mo] 43 (0, 0)) ∧ BytesAt y oa qn oc qx ∧ BytesAt y qa qn qc qx from fun y hf => by
          have hno : ∀ {b : Nat} {cs : Array Value} {t : TypeId}, W10.heap[b]? = some (.cells cs t (0, 0)) → ¬ isD t → ¬ DF S δ b := fun {b cs t} hb ht hd => by
            obtain ⟨cs', t', g, gt⟩ := HD10.out.ty hd
            rw [hb] at g
            simp at g
            exact ht (g.2 ▸ gt)
          refine ⟨hf.at hk7 (hno hk7 (by unfold isD; decide)), hf.at hk8 (hno hk8 (by unfold isD; decide)), hf.at hk9 (hno hk9 (by unfold isD; decide)), ?_, bytes_frm hq10 hf hqn⟩
          obtain ⟨a', c', e', h', _⟩ := BytesAt.ofOwn (own_same HO10.out (fun b hb => hf.block b (own_blk_lt HO10.out hb).2 (hon b hb))) HQB.out.byte HQB.out.reach
          obtain ⟨e1, _, e2⟩ := Value.slice.inj e'
          rw [e1, e2]; exact h')
        have HOW := Lib.hid (show ∀ y, Frm (DF S δ) W10 y → y.ownsRow W6.heap.size 5 1 (.slice oa qn oc) qn (bv qx) from fun y hf => own_same HO10.out (fun b hb => hf.block b (own_blk_lt HO10.out hb).2 (hon b hb)))
        have hrn : ∀ g, ra = some ⟨g, 0, none⟩ → 0 < rn → W8.heap.size ≤ g := fun g e hn => by
          obtain ⟨g', e', h1, _⟩ := hrf hn
          rw [e] at e'; cases e'; exact h1
        have hrlt : ∀ g, ra = some ⟨g, 0, none⟩ → 0 < rn → g < W10.heap.size := fun g e hn => by
          obtain ⟨g', e', _, h2⟩ := hrf hn
          rw [e] at e'; cases e'
          obtain ⟨cs, fr, h5, _⟩ := h2
          exact Nat.lt_of_lt_of_le (Array.getElem?_eq_some_iff.1 h5).1 hb910.size
        have HRR := Lib.hid (show ∀ y, Frm (DF S δ) W10 y → Row8S y ra rn from fun y hf hn => by
          obtain ⟨g, e, h1, h2⟩ := hrf hn
          have h3 : Row8 W9 g rn := Row8.ofBytes (by rw [← e]; exact hrb) hn h2
          have h4 : g < W9.heap.size := by obtain ⟨cs, fr, h5⟩ := h3.ty; exact (Array.getElem?_eq_some_iff.1 h5).1
          refine ⟨g, e, (h3.same (hb910.block g h4)).same (hf.block g (Nat.lt_of_lt_of_le h4 hb910.size) (fun hd => ?_))⟩
          have := HLT.out g hd
          omega)
        have HRQ := Lib.hid (show ∀ y, Frm (DF S δ) W10 y → BytesAt y ra rn rc rx ∧ VecAt ItemS y la its.length lc its from fun y hf => ⟨bytes_frm (hrb.kept hb910) hf (fun b off e hn hd => by
          obtain ⟨g', e', h1, _⟩ := hrf hn
          rw [e] at e'; cases e'
          have := HLT.out _ hd
          omega), vec_frm (hrl.kept hb910) hf (fun b off s9 e hd => by
          have h1 := hrlo b off s9 e
          have := HLT.out _ hd
          omega)⟩)
        have HAP := Lib.hid (show ∀ g, ra = some ⟨g, 0, none⟩ → 0 < rn → ¬ blkOf oa = some g from fun g e hn e2 => by
          have h1 := hrn g e hn
          have h2 := (own_blk_lt HO8.out e2).2
          omega)
        have HXA := Lib.hid (show ∀ δ' w14 wx, (DStAt w14 S w.heap.size δ' ∧ Tie σ' δ' ∧ Frm (DF S δ) W10 w14 ∧ (∀ k, DB δ' k → DB δ k ∨ W10.heap.size ≤ k)) → Frm (fun b => 0 < qn ∧ blkOf oa = some b) w14 wx → StIn w.heap.size wx s σ' ∧ DStAt wx S w.heap.size δ' ∧ Below w.heap.size w wx from fun δ' w14 wx hx hf => by
          have hob := own_same HO10.out (fun b hb => hx.2.2.1.block b (own_blk_lt HO10.out hb).2 (hon b hb))
          have hb14 := HB10.out.trans (hx.2.2.1.toBelow HB10.out.size (fun b hb => HD10.out.lo HSL.out hb))
          refine turn_any (HS10.out.frmD HD10.out hx.2.2.1) hx.1 hb14 hb14.size (fun b hb => ⟨Nat.le_trans HB6.out.size (own_blk_lt HO10.out hb.2).1, ?_, fun hd => ?_⟩) hf
          · obtain ⟨cu, h1⟩ := own_blk_ty hob hb.2
            exact ⟨_, _, h1⟩
          · have h1 := own_blk_lt HO10.out hb.2
            rcases hx.2.2.2 b hd with g | g
            · have := HLT.out b g.df; omega
            · omega)
        have HXB := Lib.hid (show ∀ δ' w14 wx wz, (DStAt w14 S w.heap.size δ' ∧ Tie σ' δ' ∧ Frm (DF S δ) W10 w14 ∧ (∀ k, DB δ' k → DB δ k ∨ W10.heap.size ≤ k)) → (StIn w.heap.size wx s σ' ∧ DStAt wx S w.heap.size δ' ∧ Below w.heap.size w wx) → Frm (fun b => 0 < rn ∧ blkOf ra = some b) wx wz → Row8S wx ra rn → StIn w.heap.size wz s σ' ∧ DStAt wz S w.heap.size δ' ∧ Below w.heap.size w wz from fun δ' w14 wx wz hx h3 hf hr8 => by
          refine turn_any h3.1 h3.2.1 h3.2.2 h3.2.2.size (fun b hb => ?_) hf
          obtain ⟨g, e, hr9⟩ := hr8 hb.1
          have hgb : g = b := by have h1 := hb.2; rw [e] at h1; exact Option.some.inj h1
          subst hgb
          have h1 := hrn g e hb.1
          refine ⟨Nat.le_trans HB8.out.size h1, hr9.ty, fun hd => ?_⟩
          rcases hx.2.2.2 g hd with g1 | g1
          · have := HLT.out g g1.df; omega
          · have := hrlt g e hb.1; omega)
        have HRF := Lib.hid href
        have HPI := Lib.hid hinv9
        have HNW := Lib.hid (show σ'.now ≤ 1099511627775 from by rw [hnow9]; exact hnw)
        have hid8 : σ'.id ≤ 1000000000 := by omega
        have hits : its.length ≤ 1000 := by omega
        have hqr := HQB.out.reach
        have hrr9 := hrb.reach
        have HQX := Lib.hid HQB.out.byte
        have HI14 := Lib.hid (Below.refl W10.heap.size W10).drew
        have HW10 := Lib.hid hW10
        have HB9E := Lib.hid hb9
        clear hrb hrl hrlo hrf hs9 hbl9 hkc hinv9 href hb910 hk9 hk7 hk8 hlt6 hqn hq10 hon hrn hrlt hW10 hb9 hsz8 hsz9 hlo6 hge8
        go_upto_region 14 with fail
        rw [← HW10.out, ← HB9E.out]
        refine wp_region_chain (by kernel_rfl) (by kernel_rfl) (by kernel_rfl) [3, 4] true (by kernel_rfl) (fun k u y => match k with
            | 0 => Below W10.heap.size W10 y
            | 1 => ∃ δ' a2 c2 la2 lc2, u 0 = rep er (.slice a2 rn c2) v bo io (.slice la2 its.length lc2) mo ∧ BytesAt y a2 rn c2 rx ∧ VecAt ItemS y la2 its.length lc2 its ∧ DStAt y S w.heap.size δ' ∧ Tie σ' δ' ∧ Frm (DF S δ) W10 y ∧ (∀ k, DB δ' k → DB δ k ∨ W10.heap.size ≤ k)
            | _ => ∃ δ', DStAt y S w.heap.size δ' ∧ Tie σ' δ' ∧ Frm (DF S δ) W10 y ∧ (∀ k, DB δ' k → DB δ k ∨ W10.heap.size ≤ k)) (fun y => y.heap[b7]? = some (.cells #[.int .i64 x.ki, .string x.ky, .slice qa qn qc, .int .i64 x.vr, .int .i64 x.at', .int .i64 x.nn, .int .i64 x.id] 34 (0, 0)) ∧ y.heap[b8]? = some (.cells #[.int .i64 x.ki, .string x.ky, .slice oa qn oc, .int .i64 x.vr, .int .i64 x.at', .int .i64 x.nn, .int .i64 x.id] 34 (0, 0)) ∧ y.heap[b9]? = some (.cells #[.int .i64 er, .slice ra rn rc, .int .i64 v, .int .i64 bo, .int .i64 io, .slice la its.length lc, .bool mo] 43 (0, 0)) ∧ BytesAt y oa qn oc qx ∧ BytesAt y qa qn qc qx) (fun j_9 => match j_9 with | 0 => some (.agg #[.int .i64 er, .slice ra rn rc, .int .i64 v, .int .i64 bo, .int .i64 io, .slice la its.length lc, .bool mo]) | 1 => some (.pointer (some ⟨S, 0, none⟩)) | 2 => some (.agg #[.int .i64 x.ki, .string x.ky, .slice qa qn qc, .int .i64 x.vr, .int .i64 x.at', .int .i64 x.nn, .int .i64 x.id]) | 3 => none | 4 => some (.bool true) | 5 => some (.bool false) | 6 => some (.bool false) | 7 => some (.pointer (some ⟨b8, 2, none⟩)) | 8 => some (.slice oa qn oc) | 9 => some (.string (bs qx)) | 10 => some (.pointer (some ⟨b7, 2, none⟩)) | 11 => some (.slice qa qn qc) | 12 => some (.string (bs qx)) | 13 => some (.bool false) | 14 => some (.bool false) | _ => none) (by rfl) (fun u => HI14.out) (fun k u y hk9 hk hs => by
            match k, hk, hs with
            | 0, _, hs => exact HRK.out y (Frm.ofBelow hs)
            | 1, _, hs =>
              obtain ⟨δ', a2, c2, la2, lc2, _, _, _, hx⟩ := hs
              exact HRK.out y hx.2.2.1
            | 2, _, hs =>
              obtain ⟨δ', hx⟩ := hs
              exact HRK.out y hx.2.2.1) ?_ ?_ ?_
        · intro i9 o ho hc9 V w9 K hR9 hdep hK
          have HR9 := Lib.hid hR9
          simp only [fill, slotOf, List.size_toArray, List.length_cons, List.length_nil, Nat.reduceAdd, List.getElem?_toArray, List.getElem?_cons_zero, List.getElem?_cons_succ, Option.bind_some, Act.put, List.setIfInBounds_toArray, List.set_cons_zero, List.set_cons_succ] at hK ⊢
          have hin9 : i9 < 15 := (Array.getElem?_eq_some_iff.1 ho).1
          have hcs : i9 = 0 ∨ i9 = 1 ∨ i9 = 2 ∨ i9 = 3 ∨ i9 = 4 ∨ i9 = 5 ∨ i9 = 6 ∨ i9 = 7 ∨ i9 = 8 ∨ i9 = 9 ∨ i9 = 10 ∨ i9 = 11 ∨ i9 = 12 ∨ i9 = 13 ∨ i9 = 14 := by omega
          clear hin9
          rcases hcs with rfl | rfl | rfl | rfl | rfl | rfl | rfl | rfl | rfl | rfl | rfl | rfl | rfl | rfl | rfl
          · obtain rfl := Option.some.inj ho.symm
            have u0 := cell_blkD HR9.out.2.2.1 (i := 0) (u := .int .i64 er) rfl
            have u1 := cell_blkD HR9.out.2.2.1 (i := 1) (u := .slice ra rn rc) rfl
            have u2 := cell_blkD HR9.out.2.2.1 (i := 2) (u := .int .i64 v) rfl
            have u3 := cell_blkD HR9.out.2.2.1 (i := 3) (u := .int .i64 bo) rfl
            have u4 := cell_blkD HR9.out.2.2.1 (i := 4) (u := .int .i64 io) rfl
            have u5 := cell_blkD HR9.out.2.2.1 (i := 5) (u := .slice la its.length lc) rfl
            have u6 := cell_blkD HR9.out.2.2.1 (i := 6) (u := .bool mo) rfl
            clear hdep ho hR9 hc9
            try simp only [fill, slotOf, List.size_toArray, List.length_cons, List.length_nil, Nat.reduceAdd, List.getElem?_toArray, List.getElem?_cons_zero, List.getElem?_cons_succ, Option.bind_some, Act.put, List.setIfInBounds_toArray, List.set_cons_zero, List.set_cons_succ] at hK ⊢
            go_simp
            exact hK (.agg #[.int .i64 er, .slice ra rn rc, .int .i64 v, .int .i64 bo, .int .i64 io, .slice la its.length lc, .bool mo]) rfl _ rfl
          · obtain rfl := Option.some.inj ho.symm
            clear hdep ho hR9 hc9
            try simp only [fill, slotOf, List.size_toArray, List.length_cons, List.length_nil, Nat.reduceAdd, List.getElem?_toArray, List.getElem?_cons_zero, List.getElem?_cons_succ, Option.bind_some, Act.put, List.setIfInBounds_toArray, List.set_cons_zero, List.set_cons_succ] at hK ⊢
            go_simp
            exact hK (.pointer (some ⟨S, 0, none⟩)) rfl _ rfl
          · obtain rfl := Option.some.inj ho.symm
            have u0 := cell_blkD HR9.out.1 (i := 0) (u := .int .i64 x.ki) rfl
            have u1 := cell_blkD HR9.out.1 (i := 1) (u := .string x.ky) rfl
            have u2 := cell_blkD HR9.out.1 (i := 2) (u := .slice qa qn qc) rfl
            have u3 := cell_blkD HR9.out.1 (i := 3) (u := .int .i64 x.vr) rfl
            have u4 := cell_blkD HR9.out.1 (i := 4) (u := .int .i64 x.at') rfl
            have u5 := cell_blkD HR9.out.1 (i := 5) (u := .int .i64 x.nn) rfl
            have u6 := cell_blkD HR9.out.1 (i := 6) (u := .int .i64 x.id) rfl
            clear hdep ho hR9 hc9
            try simp only [fill, slotOf, List.size_toArray, List.length_cons, List.length_nil, Nat.reduceAdd, List.getElem?_toArray, List.getElem?_cons_zero, List.getElem?_cons_succ, Option.bind_some, Act.put, List.setIfInBounds_toArray, List.set_cons_zero, List.set_cons_succ] at hK ⊢
            go_simp
            exact hK (.agg #[.int .i64 x.ki, .string x.ky, .slice qa qn qc, .int .i64 x.vr, .int .i64 x.at', .int .i64 x.nn, .int .i64 x.id]) rfl _ rfl
          · cases hc9
          · cases hc9
          · obtain rfl := Option.some.inj ho.symm
            have d4 : V 4 = .bool true := hdep ⟨4, .data⟩ (by simp) rfl _ rfl
            clear hdep ho hR9 hc9
            try simp only [fill, slotOf, List.size_toArray, List.length_cons, List.length_nil, Nat.reduceAdd, List.getElem?_toArray, List.getElem?_cons_zero, List.getElem?_cons_succ, Option.bind_some, Act.put, List.setIfInBounds_toArray, List.set_cons_zero, List.set_cons_succ] at hK ⊢
            rw [d4] at hK ⊢
            go_simp
            exact hK (.bool false) rfl _ rfl
          · obtain rfl := Option.some.inj ho.symm
            have d5 : V 5 = .bool false := hdep ⟨5, .data⟩ (by simp) rfl _ rfl
            clear hdep ho hR9 hc9
            try simp only [fill, slotOf, List.size_toArray, List.length_cons, List.length_nil, Nat.reduceAdd, List.getElem?_toArray, List.getElem?_cons_zero, List.getElem?_cons_succ, Option.bind_some, Act.put, List.setIfInBounds_toArray, List.set_cons_zero, List.set_cons_succ] at hK ⊢
            rw [d5] at hK ⊢
            go_simp
            exact hK (.bool false) rfl _ rfl
          · obtain rfl := Option.some.inj ho.symm
            have d6 : V 6 = .bool false := hdep ⟨6, .guard⟩ (by simp) rfl _ rfl
            clear hdep ho hR9 hc9
            try simp only [fill, slotOf, List.size_toArray, List.length_cons, List.length_nil, Nat.reduceAdd, List.getElem?_toArray, List.getElem?_cons_zero, List.getElem?_cons_succ, Option.bind_some, Act.put, List.setIfInBounds_toArray, List.set_cons_zero, List.set_cons_succ] at hK ⊢
            rw [d6] at hK ⊢
            go_simp
            exact hK (.pointer (some ⟨b8, 2, none⟩)) rfl _ rfl
          · obtain rfl := Option.some.inj ho.symm
            have d7 : V 7 = .pointer (some ⟨b8, 2, none⟩) := hdep ⟨7, .data⟩ (by simp) rfl _ rfl
            have d6 : V 6 = .bool false := hdep ⟨6, .guard⟩ (by simp) rfl _ rfl
            have u0 := cell_blkD HR9.out.2.1 (i := 2) (u := .slice oa qn oc) rfl
            clear hdep ho hR9 hc9
            try simp only [fill, slotOf, List.size_toArray, List.length_cons, List.length_nil, Nat.reduceAdd, List.getElem?_toArray, List.getElem?_cons_zero, List.getElem?_cons_succ, Option.bind_some, Act.put, List.setIfInBounds_toArray, List.set_cons_zero, List.set_cons_succ] at hK ⊢
            rw [d7, d6] at hK ⊢
            go_simp
            exact hK (.slice oa qn oc) rfl _ rfl
          · obtain rfl := Option.some.inj ho.symm
            have d8 : V 8 = .slice oa qn oc := hdep ⟨8, .data⟩ (by simp) rfl _ rfl
            have d6 : V 6 = .bool false := hdep ⟨6, .guard⟩ (by simp) rfl _ rfl
            have u0 := HR9.out.2.2.2.1.conv
            clear hdep ho hR9 hc9
            try simp only [fill, slotOf, List.size_toArray, List.length_cons, List.length_nil, Nat.reduceAdd, List.getElem?_toArray, List.getElem?_cons_zero, List.getElem?_cons_succ, Option.bind_some, Act.put, List.setIfInBounds_toArray, List.set_cons_zero, List.set_cons_succ] at hK ⊢
            rw [d8, d6] at hK ⊢
            go_simp
            exact hK (.string (bs qx)) rfl _ rfl
          · obtain rfl := Option.some.inj ho.symm
            have d6 : V 6 = .bool false := hdep ⟨6, .guard⟩ (by simp) rfl _ rfl
            clear hdep ho hR9 hc9
            try simp only [fill, slotOf, List.size_toArray, List.length_cons, List.length_nil, Nat.reduceAdd, List.getElem?_toArray, List.getElem?_cons_zero, List.getElem?_cons_succ, Option.bind_some, Act.put, List.setIfInBounds_toArray, List.set_cons_zero, List.set_cons_succ] at hK ⊢
            rw [d6] at hK ⊢
            go_simp
            exact hK (.pointer (some ⟨b7, 2, none⟩)) rfl _ rfl
          · obtain rfl := Option.some.inj ho.symm
            have d10 : V 10 = .pointer (some ⟨b7, 2, none⟩) := hdep ⟨10, .data⟩ (by simp) rfl _ rfl
            have d6 : V 6 = .bool false := hdep ⟨6, .guard⟩ (by simp) rfl _ rfl
            have u0 := cell_blkD HR9.out.1 (i := 2) (u := .slice qa qn qc) rfl
            clear hdep ho hR9 hc9
            try simp only [fill, slotOf, List.size_toArray, List.length_cons, List.length_nil, Nat.reduceAdd, List.getElem?_toArray, List.getElem?_cons_zero, List.getElem?_cons_succ, Option.bind_some, Act.put, List.setIfInBounds_toArray, List.set_cons_zero, List.set_cons_succ] at hK ⊢
            rw [d10, d6] at hK ⊢
            go_simp
            exact hK (.slice qa qn qc) rfl _ rfl
          · obtain rfl := Option.some.inj ho.symm
            have d11 : V 11 = .slice qa qn qc := hdep ⟨11, .data⟩ (by simp) rfl _ rfl
            have d6 : V 6 = .bool false := hdep ⟨6, .guard⟩ (by simp) rfl _ rfl
            have u0 := HR9.out.2.2.2.2.conv
            clear hdep ho hR9 hc9
            try simp only [fill, slotOf, List.size_toArray, List.length_cons, List.length_nil, Nat.reduceAdd, List.getElem?_toArray, List.getElem?_cons_zero, List.getElem?_cons_succ, Option.bind_some, Act.put, List.setIfInBounds_toArray, List.set_cons_zero, List.set_cons_succ] at hK ⊢
            rw [d11, d6] at hK ⊢
            go_simp
            exact hK (.string (bs qx)) rfl _ rfl
          · obtain rfl := Option.some.inj ho.symm
            have d9 : V 9 = .string (bs qx) := hdep ⟨9, .data⟩ (by simp) rfl _ rfl
            have d12 : V 12 = .string (bs qx) := hdep ⟨12, .data⟩ (by simp) rfl _ rfl
            have d6 : V 6 = .bool false := hdep ⟨6, .guard⟩ (by simp) rfl _ rfl
            clear hdep ho hR9 hc9
            try simp only [fill, slotOf, List.size_toArray, List.length_cons, List.length_nil, Nat.reduceAdd, List.getElem?_toArray, List.getElem?_cons_zero, List.getElem?_cons_succ, Option.bind_some, Act.put, List.setIfInBounds_toArray, List.set_cons_zero, List.set_cons_succ] at hK ⊢
            rw [d9, d12, d6] at hK ⊢
            go_simp
            exact hK (.bool false) rfl _ rfl
          · obtain rfl := Option.some.inj ho.symm
            have d6 : V 6 = .bool false := hdep ⟨6, .data⟩ (by simp) rfl _ rfl
            have d13 : V 13 = .bool false := hdep ⟨13, .data⟩ (by simp) rfl _ rfl
            clear hdep ho hR9 hc9
            try simp only [fill, slotOf, List.size_toArray, List.length_cons, List.length_nil, Nat.reduceAdd, List.getElem?_toArray, List.getElem?_cons_zero, List.getElem?_cons_succ, Option.bind_some, Act.put, List.setIfInBounds_toArray, List.set_cons_zero, List.set_cons_succ] at hK ⊢
            rw [d6, d13] at hK ⊢
            go_simp
            exact hK (.bool false) rfl _ rfl
        · intro i9 j9 o he9 ho V w9 K hS9 hdep hK
          simp only [fill, slotOf, List.size_toArray, List.length_cons, List.length_nil, Nat.reduceAdd, List.getElem?_toArray, List.getElem?_cons_zero, List.getElem?_cons_succ, Option.bind_some, Act.put, List.setIfInBounds_toArray, List.set_cons_zero, List.set_cons_succ] at hK ⊢
          have hin9 : i9 < 2 := (List.getElem?_eq_some_iff.1 he9).1
          have hcs : i9 = 0 ∨ i9 = 1 := by omega
          clear hin9
          rcases hcs with rfl | rfl
          · obtain rfl := Option.some.inj he9.symm
            obtain rfl := Option.some.inj ho.symm
            have d1 : V 1 = .pointer (some ⟨S, 0, none⟩) := hdep ⟨1, .data⟩ (by simp) rfl _ rfl
            have d2 : V 2 = .agg #[.int .i64 x.ki, .string x.ky, .slice qa qn qc, .int .i64 x.vr, .int .i64 x.at', .int .i64 x.nn, .int .i64 x.id] := hdep ⟨2, .data⟩ (by simp) rfl _ rfl
            have hs : Below W10.heap.size W10 w9 := hS9
            have HREF := Lib.hid (HRF.out w9 (HD10.out.below hs) (HRK.out w9 (Frm.ofBelow hs)).2.2.2.2 (Nat.le_trans HB10.out.size hs.size))
            have HS9 := Lib.hid hs
            clear hdep ho he9 hS9 hs
            try simp only [fill, slotOf, List.size_toArray, List.length_cons, List.length_nil, Nat.reduceAdd, List.getElem?_toArray, List.getElem?_cons_zero, List.getElem?_cons_succ, Option.bind_some, Act.put, List.setIfInBounds_toArray, List.set_cons_zero, List.set_cons_succ] at hK ⊢
            rw [d1, d2] at hK ⊢
            go_simp
            refine HREF.out.mono ?_
            rintro e w8 ⟨δ', ⟨⟨a2, c2, la2, lc2, rfl, hb2, hl2, _⟩, hst2, hf2, hfr2⟩, ht2⟩
            exact hK _ w8 ⟨δ', a2, c2, la2, lc2, rfl, hb2, hl2, hst2, ht2, (Frm.ofBelow HS9.out).trans hf2 (fun b hb => .inl hb), fun k hk => (hfr2 k hk).imp (fun g => g) (fun g => Nat.le_trans HS9.out.size g)⟩ (fun y h => by cases h) _ rfl
          · obtain rfl := Option.some.inj he9.symm
            obtain rfl := Option.some.inj ho.symm
            have d0 : V 0 = .agg #[.int .i64 er, .slice ra rn rc, .int .i64 v, .int .i64 bo, .int .i64 io, .slice la its.length lc, .bool mo] := hdep ⟨0, .data⟩ (by simp) rfl _ rfl
            have hs : ∃ δ' a2 c2 la2 lc2, V 3 = rep er (.slice a2 rn c2) v bo io (.slice la2 its.length lc2) mo ∧ BytesAt w9 a2 rn c2 rx ∧ VecAt ItemS w9 la2 its.length lc2 its ∧ DStAt w9 S w.heap.size δ' ∧ Tie σ' δ' ∧ Frm (DF S δ) W10 w9 ∧ (∀ k, DB δ' k → DB δ k ∨ W10.heap.size ≤ k) := hS9
            obtain ⟨δ', a2, c2, la2, lc2, e3, hb2, hl2, hx2⟩ := hs
            have hrr := HRQ.out w9 hx2.2.2.1
            have HSR := Lib.hid (samereply_any (er := er) (ver := v) (bo := bo) (id := io) (mo := mo) hrr.1 hb2 hrr.2 hl2 hits)
            unfold repA at HSR
            have HX2 := Lib.hid hx2
            clear hdep ho he9 hS9 hx2 hb2 hl2 hrr
            try simp only [fill, slotOf, List.size_toArray, List.length_cons, List.length_nil, Nat.reduceAdd, List.getElem?_toArray, List.getElem?_cons_zero, List.getElem?_cons_succ, Option.bind_some, Act.put, List.setIfInBounds_toArray, List.set_cons_zero, List.set_cons_succ] at hK ⊢
            rw [e3, d0] at hK ⊢
            unfold rep at hK ⊢
            go_simp
            refine HSR.out.mono ?_
            rintro e w8 ⟨rfl, hb8⟩
            exact hK _ w8 ⟨δ', HX2.out.1.below hb8, HX2.out.2.1, HX2.out.2.2.1.below hb8, HX2.out.2.2.2⟩ (fun y h => Option.some.inj h) _ rfl
        · intro V w14 hS9 hv9
          have HS9 := Lib.hid (show ∃ δ', DStAt w14 S w.heap.size δ' ∧ Tie σ' δ' ∧ Frm (DF S δ) W10 w14 ∧ (∀ k, DB δ' k → DB δ k ∨ W10.heap.size ≤ k) from hS9)
          have d14 : V 14 = .bool false := hv9 14 _ (by decide) rfl
          clear hS9 hv9
          simp only [fill, slotOf, List.size_toArray, List.length_cons, List.length_nil, Nat.reduceAdd, List.getElem?_toArray, List.getElem?_cons_zero, List.getElem?_cons_succ, Option.bind_some, Act.put, List.setIfInBounds_toArray, List.set_cons_zero, List.set_cons_succ]
          rw [d14]
          clear d14
          obtain ⟨δ', hx14⟩ := HS9.out
          have HX := Lib.hid hx14
          have HR14 := Lib.hid (HRK.out w14 hx14.2.2.1)
          have HK8 := Lib.hid HR14.out.2.1
          have HK9 := Lib.hid HR14.out.2.2.1
          have HO14 := Lib.hid (HOW.out w14 hx14.2.2.1)
          have HRR14 := Lib.hid (HRR.out w14 hx14.2.2.1)
          have HGO := Lib.hid (show ∀ g, oa = some ⟨g, 0, none⟩ → ∃ cs fr, w14.heap[g]? = some (.cells cs 5 fr) from fun g e => by
            obtain ⟨cu, h1⟩ := own_blk_ty HO14.out (b := g) (by rw [e]; rfl)
            exact ⟨_, _, h1⟩)
          have HRO := Lib.hid (Row8S.ofOwn HO14.out HQX.out)
          clear hx14 HS9
          have k8 := cell_blkD HK8.out (i := 2) (u := .slice oa qn oc) rfl
          go_wp2_with fail
          clear k8
          go_loopw [71] (fun sx wx => ∃ i : Nat, i ≤ qn ∧ sx = .int .i64 (i : Int) ∧ Hid (Frm (fun b => 0 < qn ∧ blkOf oa = some b) w14 wx) ∧ Hid (Row8S wx oa qn)) (fun sx _ => qn - (intOf sx).toNat)
          case atStart => exact ⟨0, by omega, rfl, Lib.hid (Frm.refl _ _), HRO⟩
          case round =>
            obtain ⟨i, hi, rfl, HFX, HRX⟩ := hrel
            rename World => wx
            by_cases hin : i < qn
            · obtain ⟨g, hga, hrw⟩ := HRX.out (by omega)
              obtain ⟨hfz, z, z0, z1, hz⟩ := hrw.get hin
              have HRG := Lib.hid hrw
              have HGA := Lib.hid hga
              have kb : wx.cell? ⟨b8, 2, none⟩ = some (.slice (some ⟨g, 0, none⟩) qn oc) := by
                rw [← hga]
                exact cell_blkD (HFX.out.at HK8.out (fun e => by
                  have e := e.2
                  rw [hga] at e
                  have e1 : g = b8 := Option.some.inj e
                  obtain ⟨cs, fr, h1⟩ := HGO.out g hga
                  rw [e1, HK8.out] at h1
                  simp at h1)) (i := 2) rfl
              have zi : (i : Int) < (qn : Int) := by omega
              have zi0 : (0 : Int) ≤ (i : Int) := by omega
              have wi : IntKind.i64.wrap ((i : Int) + 1) = (i : Int) + 1 := IntWalk.i64_in _ (by omega)
              clear hrw hga
              go_upto_region 20 with fail
              have HFN := Lib.hid (show Frm (fun b => 0 < qn ∧ blkOf oa = some b) w14 (wx.setCell ⟨g, i, none⟩ (.int .u8 (bits BinOp.xor IntKind.u8 z 255))) from HFX.out.set (.inl ⟨by omega, by rw [HGA.out]; rfl⟩) _ _)
              have HRN := Lib.hid (show Row8S (wx.setCell ⟨g, i, none⟩ (.int .u8 (bits BinOp.xor IntKind.u8 z 255))) oa qn from fun _ => ⟨g, HGA.out, HRG.out.set ((show 0 ≤ bits BinOp.xor IntKind.u8 z 255 ∧ bits BinOp.xor IntKind.u8 z 255 < 256 from ⟨bits_lo_u8 _ _ _, by have := bits_hi_u8 BinOp.xor z 255; omega⟩)).1 ((show 0 ≤ bits BinOp.xor IntKind.u8 z 255 ∧ bits BinOp.xor IntKind.u8 z 255 < 256 from ⟨bits_lo_u8 _ _ _, by have := bits_hi_u8 BinOp.xor z 255; omega⟩)).2⟩)
              clear kb hz hfz
              go_wp2_with fail
              go_roundw
              case rel => exact ⟨i + 1, by omega, by push_cast; rfl, HFN, HRN⟩
              case measure => simp only [intOf]; omega
            · have zx : ¬ (i : Int) < (qn : Int) := by omega
              have HX15 := Lib.hid (HXA.out δ' w14 wx HX.out HFX.out)
              have HK9x := Lib.hid (HFX.out.at HK9.out (fun e => by
                obtain ⟨cu, h1⟩ := own_blk_ty HO14.out e.2
                rw [HK9.out] at h1
                simp at h1))
              have HRX9 := Lib.hid (show Row8S wx ra rn from fun hn => by
                obtain ⟨g, hg, hr8⟩ := HRR14.out hn
                refine ⟨g, hg, hr8.same (HFX.out.block g (by obtain ⟨cs, fr, h1⟩ := hr8.ty; exact (Array.getElem?_eq_some_iff.1 h1).1) (fun e => ?_))⟩
                exact HAP.out g hg hn e.2)
              have HGR := Lib.hid (show ∀ g, ra = some ⟨g, 0, none⟩ → 0 < rn → ∃ cs fr, wx.heap[g]? = some (.cells cs 5 fr) from fun g e hn => by
                obtain ⟨g', e', hr8⟩ := HRX9.out hn
                rw [e] at e'
                cases e'
                exact hr8.ty)
              have k9 := cell_blkD HK9x.out (i := 1) (u := .slice ra rn rc) rfl
              go_wp2_with fail
              clear k9
              go_loopw [85] (fun sx wz => ∃ i : Nat, i ≤ rn ∧ sx = .int .i64 (i : Int) ∧ Hid (Frm (fun b => 0 < rn ∧ blkOf ra = some b) wx wz) ∧ Hid (Row8S wz ra rn)) (fun sx _ => rn - (intOf sx).toNat)
              case atStart => exact ⟨0, by omega, rfl, Lib.hid (Frm.refl _ _), HRX9⟩
              case round =>
                obtain ⟨i, hi, rfl, HFX, HRX⟩ := hrel
                rename World => wz
                by_cases hin : i < rn
                · obtain ⟨g, hga, hrw⟩ := HRX.out (by omega)
                  obtain ⟨hfz, z, z0, z1, hz⟩ := hrw.get hin
                  have HRG := Lib.hid hrw
                  have HGA := Lib.hid hga
                  have kb : wz.cell? ⟨b9, 1, none⟩ = some (.slice (some ⟨g, 0, none⟩) rn rc) := by
                    rw [← hga]
                    exact cell_blkD (HFX.out.at HK9x.out (fun e => by
                      have e := e.2
                      rw [hga] at e
                      have e1 : g = b9 := Option.some.inj e
                      obtain ⟨cs, fr, h1⟩ := HGR.out g hga (by omega)
                      rw [e1, HK9x.out] at h1
                      simp at h1)) (i := 1) rfl
                  have zi : (i : Int) < (rn : Int) := by omega
                  have zi0 : (0 : Int) ≤ (i : Int) := by omega
                  have wi : IntKind.i64.wrap ((i : Int) + 1) = (i : Int) + 1 := IntWalk.i64_in _ (by omega)
                  clear hrw hga
                  go_upto_region 25 with fail
                  have HFN := Lib.hid (show Frm (fun b => 0 < rn ∧ blkOf ra = some b) wx (wz.setCell ⟨g, i, none⟩ (.int .u8 (bits BinOp.xor IntKind.u8 z 255))) from HFX.out.set (.inl ⟨by omega, by rw [HGA.out]; rfl⟩) _ _)
                  have HRN := Lib.hid (show Row8S (wz.setCell ⟨g, i, none⟩ (.int .u8 (bits BinOp.xor IntKind.u8 z 255))) ra rn from fun _ => ⟨g, HGA.out, HRG.out.set ((show 0 ≤ bits BinOp.xor IntKind.u8 z 255 ∧ bits BinOp.xor IntKind.u8 z 255 < 256 from ⟨bits_lo_u8 _ _ _, by have := bits_hi_u8 BinOp.xor z 255; omega⟩)).1 ((show 0 ≤ bits BinOp.xor IntKind.u8 z 255 ∧ bits BinOp.xor IntKind.u8 z 255 < 256 from ⟨bits_lo_u8 _ _ _, by have := bits_hi_u8 BinOp.xor z 255; omega⟩)).2⟩)
                  clear kb hz hfz
                  go_wp2_with fail
                  go_roundw
                  case rel => exact ⟨i + 1, by omega, by push_cast; rfl, HFN, HRN⟩
                  case measure => simp only [intOf]; omega
                · have zz : ¬ (i : Int) < (rn : Int) := by omega
                  have HX16 := Lib.hid (HXB.out δ' w14 wx wz HX.out HX15.out HFX.out (fun hn => HRX9.out hn))
                  have HSAME := Lib.hid (same14_any HX16.out.1 HX16.out.2.1 HX.out.2.1 HPI.out hid8)
                  go_wp2_with fail
                  refine HSAME.out.mono ?_
                  rintro e w17 ⟨rfl, hb17⟩
                  have HSN := Lib.hid (HX16.out.1.below hb17)
                  have HDN := Lib.hid (HX16.out.2.1.below hb17)
                  have HBN := Lib.hid (HX16.out.2.2.trans (hb17.mono HX16.out.2.2.size))
                  have HTN := Lib.hid HX.out.2.1
                  clear hb17
                  go_wp2_with fail
                  go_roundw
                  case rel => exact ⟨k + 1, σ', δ', by omega, by push_cast; rfl, by omega, by omega, by have := HNW.out; omega, HPI, HTN, HSN, HDN, HBN⟩
                  case measure => simp only [intOf]; omega
    · have e : n = k := by omega
      go_wp2_with fail
      first | go_ret2 | go_ret
      exact ⟨rfl, HB.out⟩
end Go.Proofs.YtjafagfhkpaciaaGreat
end PkSP8_7
