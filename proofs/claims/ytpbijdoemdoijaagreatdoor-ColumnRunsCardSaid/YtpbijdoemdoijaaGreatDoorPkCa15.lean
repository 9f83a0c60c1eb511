/- Texts put together by packtpl2.py: ColAl, ColWp. -/
import Derived.Test.YtpbijdoemdoijaaGreatDoorPkCa12
import Derived.Test.YtpbijdoemdoijaaGreatDoorPkCa13
import Derived.Test.YtpbijdoemdoijaaGreatDoorPkCa14
import Derived.Laws.Cover1
section PkCa15_0
/- How many rows in a row have the first one's word: column.alike, walked. Written by genalike.py. -/
namespace Go.Proofs.YtpbijdoemdoijaaGreatDoor
open Go.RowKit BitsPlain NumsPlain
set_option linter.unusedVariables false

/-- the first r texts are the first one, and no more of them -/
structure AlikeIs (l : List ByteArray) (r : Nat) : Prop where
  pos : 1 ≤ r
  le : r ≤ l.length
  eq : ∀ i, i < r → l.getD i ByteArray.empty = l.getD 0 ByteArray.empty
  more : r = l.length ∨ l.getD r ByteArray.empty ≠ l.getD 0 ByteArray.empty
set_option maxRecDepth 100000 in
set_option maxHeartbeats 4000000 in
theorem wd_alike_any {w : World} {a : Option Addr} {n c : Nat} {l : List ByteArray} (h : VecAt StrS w a n c l) (hn : 0 < n) (hn2 : n ≤ 1000000) :
    Calls Tryz.prog 80 #[.slice a n c] w fun e w' => ∃ r : Nat, e = .returned (.int .i64 (r : Int)) ∧ AlikeIs l r ∧ Below w.heap.size w w' := by
  have hcap := h.cap
  have hcm := h.capm
  have HL := Lib.hid h.len
  obtain ⟨b, off, rfl, hlw, _, hy9⟩ := h.get hn
  have HH := Lib.hid h
  obtain ⟨y, hy⟩ : ∃ y, y = l.getD 0 ByteArray.empty := ⟨_, rfl⟩
  have cyw : w.cell? ⟨b, off, none⟩ = some (.string y) := by
    have h1 := hy9 0 (.string y) (by rw [hy]; rfl)
    simpa using h1
  have HY := Lib.hid hy
  have HCY := Lib.hid cyw
  have HLW := Lib.hid hlw
  clear h hy9 hy cyw hlw
  go_enter Tryz.func80, Tryz.ntmps80
  go_wp2_with fail
  go_loopw [3] (fun s3 wr => ∃ r : Nat, 1 ≤ r ∧ r ≤ n ∧ s3 = .int .i64 (r : Int) ∧ Hid (∀ i, i < r → l.getD i ByteArray.empty = y) ∧ Hid (Below w.heap.size w wr)) (fun s3 _ => n - (intOf s3).toNat)
  case atStart => exact ⟨1, by omega, by omega, rfl, Lib.hid (fun i hi => by rw [show i = 0 from by omega]; exact HY.out.symm), Lib.hid (Below.refl _ _)⟩
  case round =>
    obtain ⟨r, hr1, hrn, rfl, HR, HB⟩ := hrel
    rename World => wr
    have hlb : b < wr.heap.size := Nat.lt_of_lt_of_le HLW.out HB.out.size
    have cy : wr.cell? ⟨b, off, none⟩ = some (.string y) := (HB.out.cell (p := ⟨b, off, none⟩) HLW.out).trans HCY.out
    by_cases hlt : r < n
    · have hlti : (r : Int) < (n : Int) := by omega
      have hlt1 : decide ((r : Int) < (n : Int)) = true := decide_eq_true hlti
      have h0n : (0 : Int) < (n : Int) := by omega
      obtain ⟨b', off', hbe, _, _, hx9⟩ := (HH.out.kept HB.out).get hlt
      cases hbe
      obtain ⟨x, hx⟩ : ∃ x, x = l.getD r ByteArray.empty := ⟨_, rfl⟩
      have cx : wr.cell? ⟨b, off + r, none⟩ = some (.string x) := by
        have h1 := hx9 0 (.string x) (by rw [hx]; rfl)
        have e : off + r * StrS.K + 0 = off + r := by show off + r * 1 + 0 = _; omega
        rw [e] at h1; exact h1
      have HXE := Lib.hid hx
      clear hx9 hx
      by_cases hxy : x = y
      · have heq : (x.toList == y.toList) = true := by rw [hxy]; simp
        have HR2 := Lib.hid (show ∀ i, i < r + 1 → l.getD i ByteArray.empty = y from fun i hi => by
          rcases Nat.lt_or_ge i r with g | g
          · exact HR.out i g
          · obtain rfl : i = r := by omega
            rw [← HXE.out]; exact hxy)
        clear hxy
        go_wp2_with fail
        refine wp_region_fill (by kernel_rfl) (by kernel_rfl) (by kernel_rfl) (Below wr.heap.size wr) (FV (fun j_9 => match j_9 with | 0 => some (.int .i64 (r : Int)) | 1 => some (.slice (some ⟨b, off, none⟩) n c) | 2 => some (.int .i64 (n : Int)) | 3 => some (.bool true) | 4 => some (.bool true) | 5 => some (.slice (some ⟨b, off, none⟩) n c) | 6 => some (.int .i64 (r : Int)) | 7 => some (.pointer (some ⟨b, off + r, none⟩)) | 8 => some (.string x) | 9 => some (.slice (some ⟨b, off, none⟩) n c) | 10 => some (.pointer (some ⟨b, off, none⟩)) | 11 => some (.string y) | 12 => some (.bool true) | 13 => some (.bool true) | _ => none) (fun _ _ => True)) (Below.refl _ _).drew ?_ ?_
        · intro i9 o ho V w9 K hJ hdep hK
          have HJ := Lib.hid hJ
          simp only [fill, slotOf, List.size_toArray, List.length_cons, List.length_nil, Nat.reduceAdd, List.getElem?_toArray, List.getElem?_cons_zero, List.getElem?_cons_succ, Option.bind_some, Act.put, List.setIfInBounds_toArray, List.set_cons_zero, List.set_cons_succ] at hK ⊢
          have hin : i9 < 14 := (Array.getElem?_eq_some_iff.1 ho).1
          have hcs : i9 = 0 ∨ i9 = 1 ∨ i9 = 2 ∨ i9 = 3 ∨ i9 = 4 ∨ i9 = 5 ∨ i9 = 6 ∨ i9 = 7 ∨ i9 = 8 ∨ i9 = 9 ∨ i9 = 10 ∨ i9 = 11 ∨ i9 = 12 ∨ i9 = 13 := by omega
          clear hin
          rcases hcs with rfl | rfl | rfl | rfl | rfl | rfl | rfl | rfl | rfl | rfl | rfl | rfl | rfl | rfl
          · obtain rfl := Option.some.inj ho.symm
            clear hdep ho hJ
            try simp only [fill, slotOf, List.size_toArray, List.length_cons, List.length_nil, Nat.reduceAdd, List.getElem?_toArray, List.getElem?_cons_zero, List.getElem?_cons_succ, Option.bind_some, Act.put, List.setIfInBounds_toArray, List.set_cons_zero, List.set_cons_succ] at hK ⊢
            go_simp
            exact hK (.int .i64 (r : Int)) _ HJ.out rfl (fun j y h => h) _ rfl
          · obtain rfl := Option.some.inj ho.symm
            clear hdep ho hJ
            try simp only [fill, slotOf, List.size_toArray, List.length_cons, List.length_nil, Nat.reduceAdd, List.getElem?_toArray, List.getElem?_cons_zero, List.getElem?_cons_succ, Option.bind_some, Act.put, List.setIfInBounds_toArray, List.set_cons_zero, List.set_cons_succ] at hK ⊢
            go_simp
            exact hK (.slice (some ⟨b, off, none⟩) n c) _ HJ.out rfl (fun j y h => h) _ rfl
          · obtain rfl := Option.some.inj ho.symm
            have d1 : V 1 = .slice (some ⟨b, off, none⟩) n c := hdep ⟨1, .data⟩ (by simp) rfl
            clear hdep ho hJ
            try simp only [fill, slotOf, List.size_toArray, List.length_cons, List.length_nil, Nat.reduceAdd, List.getElem?_toArray, List.getElem?_cons_zero, List.getElem?_cons_succ, Option.bind_some, Act.put, List.setIfInBounds_toArray, List.set_cons_zero, List.set_cons_succ] at hK ⊢
            rw [d1] at hK ⊢
            go_simp
            exact hK (.int .i64 (n : Int)) _ HJ.out rfl (fun j y h => h) _ rfl
          · obtain rfl := Option.some.inj ho.symm
            have d0 : V 0 = .int .i64 (r : Int) := hdep ⟨0, .data⟩ (by simp) rfl
            have d2 : V 2 = .int .i64 (n : Int) := hdep ⟨2, .data⟩ (by simp) rfl
            clear hdep ho hJ
            try simp only [fill, slotOf, List.size_toArray, List.length_cons, List.length_nil, Nat.reduceAdd, List.getElem?_toArray, List.getElem?_cons_zero, List.getElem?_cons_succ, Option.bind_some, Act.put, List.setIfInBounds_toArray, List.set_cons_zero, List.set_cons_succ] at hK ⊢
            rw [d0, d2] at hK ⊢
            go_simp
            refine hK (.bool true) _ HJ.out rfl (fun j y h => h) _ ?_
            first | rfl | (rw [hlt1]; rfl) | simp
          · obtain rfl := Option.some.inj ho.symm
            have d3 : V 3 = .bool true := hdep ⟨3, .data⟩ (by simp) rfl
            clear hdep ho hJ
            try simp only [fill, slotOf, List.size_toArray, List.length_cons, List.length_nil, Nat.reduceAdd, List.getElem?_toArray, List.getElem?_cons_zero, List.getElem?_cons_succ, Option.bind_some, Act.put, List.setIfInBounds_toArray, List.set_cons_zero, List.set_cons_succ] at hK ⊢
            rw [d3] at hK ⊢
            go_simp
            exact hK (.bool true) _ HJ.out rfl (fun j y h => h) _ rfl
          · obtain rfl := Option.some.inj ho.symm
            have d4 : V 4 = .bool true := hdep ⟨4, .guard⟩ (by simp) rfl
            clear hdep ho hJ
            try simp only [fill, slotOf, List.size_toArray, List.length_cons, List.length_nil, Nat.reduceAdd, List.getElem?_toArray, List.getElem?_cons_zero, List.getElem?_cons_succ, Option.bind_some, Act.put, List.setIfInBounds_toArray, List.set_cons_zero, List.set_cons_succ] at hK ⊢
            rw [d4] at hK ⊢
            go_simp
            exact hK (.slice (some ⟨b, off, none⟩) n c) _ HJ.out rfl (fun j y h => h) _ rfl
          · obtain rfl := Option.some.inj ho.symm
            have d4 : V 4 = .bool true := hdep ⟨4, .guard⟩ (by simp) rfl
            clear hdep ho hJ
            try simp only [fill, slotOf, List.size_toArray, List.length_cons, List.length_nil, Nat.reduceAdd, List.getElem?_toArray, List.getElem?_cons_zero, List.getElem?_cons_succ, Option.bind_some, Act.put, List.setIfInBounds_toArray, List.set_cons_zero, List.set_cons_succ] at hK ⊢
            rw [d4] at hK ⊢
            go_simp
            exact hK (.int .i64 (r : Int)) _ HJ.out rfl (fun j y h => h) _ rfl
          · obtain rfl := Option.some.inj ho.symm
            have d5 : V 5 = .slice (some ⟨b, off, none⟩) n c := hdep ⟨5, .data⟩ (by simp) rfl
            have d6 : V 6 = .int .i64 (r : Int) := hdep ⟨6, .data⟩ (by simp) rfl
            have d4 : V 4 = .bool true := hdep ⟨4, .guard⟩ (by simp) rfl
            clear hdep ho hJ
            try simp only [fill, slotOf, List.size_toArray, List.length_cons, List.length_nil, Nat.reduceAdd, List.getElem?_toArray, List.getElem?_cons_zero, List.getElem?_cons_succ, Option.bind_some, Act.put, List.setIfInBounds_toArray, List.set_cons_zero, List.set_cons_succ] at hK ⊢
            rw [d5, d6, d4] at hK ⊢
            go_simp
            exact hK (.pointer (some ⟨b, off + r, none⟩)) _ HJ.out rfl (fun j y h => h) _ rfl
          · obtain rfl := Option.some.inj ho.symm
            have d7 : V 7 = .pointer (some ⟨b, off + r, none⟩) := hdep ⟨7, .data⟩ (by simp) rfl
            have d4 : V 4 = .bool true := hdep ⟨4, .guard⟩ (by simp) rfl
            have e1 : w9.cell? ⟨b, off + r, none⟩ = some (.string x) := (hJ.cell (p := ⟨b, off + r, none⟩) hlb).trans cx
            clear hdep ho hJ
            try simp only [fill, slotOf, List.size_toArray, List.length_cons, List.length_nil, Nat.reduceAdd, List.getElem?_toArray, List.getElem?_cons_zero, List.getElem?_cons_succ, Option.bind_some, Act.put, List.setIfInBounds_toArray, List.set_cons_zero, List.set_cons_succ] at hK ⊢
            rw [d7, d4] at hK ⊢
            go_simp
            exact hK (.string x) _ HJ.out rfl (fun j y h => h) _ rfl
          · obtain rfl := Option.some.inj ho.symm
            have d4 : V 4 = .bool true := hdep ⟨4, .guard⟩ (by simp) rfl
            clear hdep ho hJ
            try simp only [fill, slotOf, List.size_toArray, List.length_cons, List.length_nil, Nat.reduceAdd, List.getElem?_toArray, List.getElem?_cons_zero, List.getElem?_cons_succ, Option.bind_some, Act.put, List.setIfInBounds_toArray, List.set_cons_zero, List.set_cons_succ] at hK ⊢
            rw [d4] at hK ⊢
            go_simp
            exact hK (.slice (some ⟨b, off, none⟩) n c) _ HJ.out rfl (fun j y h => h) _ rfl
          · obtain rfl := Option.some.inj ho.symm
            have d9 : V 9 = .slice (some ⟨b, off, none⟩) n c := hdep ⟨9, .data⟩ (by simp) rfl
            have d4 : V 4 = .bool true := hdep ⟨4, .guard⟩ (by simp) rfl
            clear hdep ho hJ
            try simp only [fill, slotOf, List.size_toArray, List.length_cons, List.length_nil, Nat.reduceAdd, List.getElem?_toArray, List.getElem?_cons_zero, List.getElem?_cons_succ, Option.bind_some, Act.put, List.setIfInBounds_toArray, List.set_cons_zero, List.set_cons_succ] at hK ⊢
            rw [d9, d4] at hK ⊢
            go_simp
            exact hK (.pointer (some ⟨b, off, none⟩)) _ HJ.out rfl (fun j y h => h) _ rfl
          · obtain rfl := Option.some.inj ho.symm
            have d10 : V 10 = .pointer (some ⟨b, off, none⟩) := hdep ⟨10, .data⟩ (by simp) rfl
            have d4 : V 4 = .bool true := hdep ⟨4, .guard⟩ (by simp) rfl
            have e1 : w9.cell? ⟨b, off, none⟩ = some (.string y) := (hJ.cell (p := ⟨b, off, none⟩) hlb).trans cy
            clear hdep ho hJ
            try simp only [fill, slotOf, List.size_toArray, List.length_cons, List.length_nil, Nat.reduceAdd, List.getElem?_toArray, List.getElem?_cons_zero, List.getElem?_cons_succ, Option.bind_some, Act.put, List.setIfInBounds_toArray, List.set_cons_zero, List.set_cons_succ] at hK ⊢
            rw [d10, d4] at hK ⊢
            go_simp
            exact hK (.string y) _ HJ.out rfl (fun j y h => h) _ rfl
          · obtain rfl := Option.some.inj ho.symm
            have d8 : V 8 = .string x := hdep ⟨8, .data⟩ (by simp) rfl
            have d11 : V 11 = .string y := hdep ⟨11, .data⟩ (by simp) rfl
            have d4 : V 4 = .bool true := hdep ⟨4, .guard⟩ (by simp) rfl
            have e2 := heq
            clear hdep ho hJ
            try simp only [fill, slotOf, List.size_toArray, List.length_cons, List.length_nil, Nat.reduceAdd, List.getElem?_toArray, List.getElem?_cons_zero, List.getElem?_cons_succ, Option.bind_some, Act.put, List.setIfInBounds_toArray, List.set_cons_zero, List.set_cons_succ] at hK ⊢
            rw [d8, d11, d4] at hK ⊢
            go_simp
            exact hK (.bool true) _ HJ.out rfl (fun j y h => h) _ rfl
          · obtain rfl := Option.some.inj ho.symm
            have d4 : V 4 = .bool true := hdep ⟨4, .data⟩ (by simp) rfl
            have d12 : V 12 = .bool true := hdep ⟨12, .data⟩ (by simp) rfl
            clear hdep ho hJ
            try simp only [fill, slotOf, List.size_toArray, List.length_cons, List.length_nil, Nat.reduceAdd, List.getElem?_toArray, List.getElem?_cons_zero, List.getElem?_cons_succ, Option.bind_some, Act.put, List.setIfInBounds_toArray, List.set_cons_zero, List.set_cons_succ] at hK ⊢
            rw [d4, d12] at hK ⊢
            go_simp
            exact hK (.bool true) _ HJ.out rfl (fun j y h => h) _ rfl
        · intro V w9 hJ hall
          have dL : V 13 = .bool true := hall 13 (by decide)
          have HJ9 := Lib.hid hJ
          clear hall hJ
          simp only [fill, slotOf, List.size_toArray, List.length_cons, List.length_nil, Nat.reduceAdd, List.getElem?_toArray, List.getElem?_cons_zero, List.getElem?_cons_succ, Option.bind_some, Act.put, List.setIfInBounds_toArray, List.set_cons_zero, List.set_cons_succ]
          rw [dL]
          clear dL
          have HB9 := Lib.hid (HB.out.trans (HJ9.out.mono HB.out.size))
          go_wp2_with fail
          go_roundw
          case rel => exact ⟨r + 1, by omega, by omega, by go_num, HR2, HB9⟩
          case measure => simp [intOf]; omega
      · have heq : (x.toList == y.toList) = false := by
          rw [beq_eq_false_iff_ne]
          exact fun e => hxy (ByteArray.ext (Array.toList_inj.1 (by rw [← ByteArray.toList_eq, ← ByteArray.toList_eq]; exact e)))
        have HS := Lib.hid (show AlikeIs l r from ⟨hr1, by rw [HL.out]; exact hrn, fun i hi => by rw [HR.out i hi]; exact HY.out, .inr (by rw [← HXE.out, ← HY.out]; exact hxy)⟩)
        clear hxy
        go_wp2_with fail
        refine wp_region_fill (by kernel_rfl) (by kernel_rfl) (by kernel_rfl) (Below wr.heap.size wr) (FV (fun j_9 => match j_9 with | 0 => some (.int .i64 (r : Int)) | 1 => some (.slice (some ⟨b, off, none⟩) n c) | 2 => some (.int .i64 (n : Int)) | 3 => some (.bool true) | 4 => some (.bool true) | 5 => some (.slice (some ⟨b, off, none⟩) n c) | 6 => some (.int .i64 (r : Int)) | 7 => some (.pointer (some ⟨b, off + r, none⟩)) | 8 => some (.string x) | 9 => some (.slice (some ⟨b, off, none⟩) n c) | 10 => some (.pointer (some ⟨b, off, none⟩)) | 11 => some (.string y) | 12 => some (.bool false) | 13 => some (.bool false) | _ => none) (fun _ _ => True)) (Below.refl _ _).drew ?_ ?_
        · intro i9 o ho V w9 K hJ hdep hK
          have HJ := Lib.hid hJ
          simp only [fill, slotOf, List.size_toArray, List.length_cons, List.length_nil, Nat.reduceAdd, List.getElem?_toArray, List.getElem?_cons_zero, List.getElem?_cons_succ, Option.bind_some, Act.put, List.setIfInBounds_toArray, List.set_cons_zero, List.set_cons_succ] at hK ⊢
          have hin : i9 < 14 := (Array.getElem?_eq_some_iff.1 ho).1
          have hcs : i9 = 0 ∨ i9 = 1 ∨ i9 = 2 ∨ i9 = 3 ∨ i9 = 4 ∨ i9 = 5 ∨ i9 = 6 ∨ i9 = 7 ∨ i9 = 8 ∨ i9 = 9 ∨ i9 = 10 ∨ i9 = 11 ∨ i9 = 12 ∨ i9 = 13 := by omega
          clear hin
          rcases hcs with rfl | rfl | rfl | rfl | rfl | rfl | rfl | rfl | rfl | rfl | rfl | rfl | rfl | rfl
          · obtain rfl := Option.some.inj ho.symm
            clear hdep ho hJ
            try simp only [fill, slotOf, List.size_toArray, List.length_cons, List.length_nil, Nat.reduceAdd, List.getElem?_toArray, List.getElem?_cons_zero, List.getElem?_cons_succ, Option.bind_some, Act.put, List.setIfInBounds_toArray, List.set_cons_zero, List.set_cons_succ] at hK ⊢
            go_simp
            exact hK (.int .i64 (r : Int)) _ HJ.out rfl (fun j y h => h) _ rfl
          · obtain rfl := Option.some.inj ho.symm
            clear hdep ho hJ
            try simp only [fill, slotOf, List.size_toArray, List.length_cons, List.length_nil, Nat.reduceAdd, List.getElem?_toArray, List.getElem?_cons_zero, List.getElem?_cons_succ, Option.bind_some, Act.put, List.setIfInBounds_toArray, List.set_cons_zero, List.set_cons_succ] at hK ⊢
            go_simp
            exact hK (.slice (some ⟨b, off, none⟩) n c) _ HJ.out rfl (fun j y h => h) _ rfl
          · obtain rfl := Option.some.inj ho.symm
            have d1 : V 1 = .slice (some ⟨b, off, none⟩) n c := hdep ⟨1, .data⟩ (by simp) rfl
            clear hdep ho hJ
            try simp only [fill, slotOf, List.size_toArray, List.length_cons, List.length_nil, Nat.reduceAdd, List.getElem?_toArray, List.getElem?_cons_zero, List.getElem?_cons_succ, Option.bind_some, Act.put, List.setIfInBounds_toArray, List.set_cons_zero, List.set_cons_succ] at hK ⊢
            rw [d1] at hK ⊢
            go_simp
            exact hK (.int .i64 (n : Int)) _ HJ.out rfl (fun j y h => h) _ rfl
          · obtain rfl := Option.some.inj ho.symm
            have d0 : V 0 = .int .i64 (r : Int) := hdep ⟨0, .data⟩ (by simp) rfl
            have d2 : V 2 = .int .i64 (n : Int) := hdep ⟨2, .data⟩ (by simp) rfl
            clear hdep ho hJ
            try simp only [fill, slotOf, List.size_toArray, List.length_cons, List.length_nil, Nat.reduceAdd, List.getElem?_toArray, List.getElem?_cons_zero, List.getElem?_cons_succ, Option.bind_some, Act.put, List.setIfInBounds_toArray, List.set_cons_zero, List.set_cons_succ] at hK ⊢
            rw [d0, d2] at hK ⊢
            go_simp
            refine hK (.bool true) _ HJ.out rfl (fun j y h => h) _ ?_
            first | rfl | (rw [hlt1]; rfl) | simp
          · obtain rfl := Option.some.inj ho.symm
            have d3 : V 3 = .bool true := hdep ⟨3, .data⟩ (by simp) rfl
            clear hdep ho hJ
            try simp only [fill, slotOf, List.size_toArray, List.length_cons, List.length_nil, Nat.reduceAdd, List.getElem?_toArray, List.getElem?_cons_zero, List.getElem?_cons_succ, Option.bind_some, Act.put, List.setIfInBounds_toArray, List.set_cons_zero, List.set_cons_succ] at hK ⊢
            rw [d3] at hK ⊢
            go_simp
            exact hK (.bool true) _ HJ.out rfl (fun j y h => h) _ rfl
          · obtain rfl := Option.some.inj ho.symm
            have d4 : V 4 = .bool true := hdep ⟨4, .guard⟩ (by simp) rfl
            clear hdep ho hJ
            try simp only [fill, slotOf, List.size_toArray, List.length_cons, List.length_nil, Nat.reduceAdd, List.getElem?_toArray, List.getElem?_cons_zero, List.getElem?_cons_succ, Option.bind_some, Act.put, List.setIfInBounds_toArray, List.set_cons_zero, List.set_cons_succ] at hK ⊢
            rw [d4] at hK ⊢
            go_simp
            exact hK (.slice (some ⟨b, off, none⟩) n c) _ HJ.out rfl (fun j y h => h) _ rfl
          · obtain rfl := Option.some.inj ho.symm
            have d4 : V 4 = .bool true := hdep ⟨4, .guard⟩ (by simp) rfl
            clear hdep ho hJ
            try simp only [fill, slotOf, List.size_toArray, List.length_cons, List.length_nil, Nat.reduceAdd, List.getElem?_toArray, List.getElem?_cons_zero, List.getElem?_cons_succ, Option.bind_some, Act.put, List.setIfInBounds_toArray, List.set_cons_zero, List.set_cons_succ] at hK ⊢
            rw [d4] at hK ⊢
            go_simp
            exact hK (.int .i64 (r : Int)) _ HJ.out rfl (fun j y h => h) _ rfl
          · obtain rfl := Option.some.inj ho.symm
            have d5 : V 5 = .slice (some ⟨b, off, none⟩) n c := hdep ⟨5, .data⟩ (by simp) rfl
            have d6 : V 6 = .int .i64 (r : Int) := hdep ⟨6, .data⟩ (by simp) rfl
            have d4 : V 4 = .bool true := hdep ⟨4, .guard⟩ (by simp) rfl
            clear hdep ho hJ
            try simp only [fill, slotOf, List.size_toArray, List.length_cons, List.length_nil, Nat.reduceAdd, List.getElem?_toArray, List.getElem?_cons_zero, List.getElem?_cons_succ, Option.bind_some, Act.put, List.setIfInBounds_toArray, List.set_cons_zero, List.set_cons_succ] at hK ⊢
            rw [d5, d6, d4] at hK ⊢
            go_simp
            exact hK (.pointer (some ⟨b, off + r, none⟩)) _ HJ.out rfl (fun j y h => h) _ rfl
          · obtain rfl := Option.some.inj ho.symm
            have d7 : V 7 = .pointer (some ⟨b, off + r, none⟩) := hdep ⟨7, .data⟩ (by simp) rfl
            have d4 : V 4 = .bool true := hdep ⟨4, .guard⟩ (by simp) rfl
            have e1 : w9.cell? ⟨b, off + r, none⟩ = some (.string x) := (hJ.cell (p := ⟨b, off + r, none⟩) hlb).trans cx
            clear hdep ho hJ
            try simp only [fill, slotOf, List.size_toArray, List.length_cons, List.length_nil, Nat.reduceAdd, List.getElem?_toArray, List.getElem?_cons_zero, List.getElem?_cons_succ, Option.bind_some, Act.put, List.setIfInBounds_toArray, List.set_cons_zero, List.set_cons_succ] at hK ⊢
            rw [d7, d4] at hK ⊢
            go_simp
            exact hK (.string x) _ HJ.out rfl (fun j y h => h) _ rfl
          · obtain rfl := Option.some.inj ho.symm
            have d4 : V 4 = .bool true := hdep ⟨4, .guard⟩ (by simp) rfl
            clear hdep ho hJ
            try simp only [fill, slotOf, List.size_toArray, List.length_cons, List.length_nil, Nat.reduceAdd, List.getElem?_toArray, List.getElem?_cons_zero, List.getElem?_cons_succ, Option.bind_some, Act.put, List.setIfInBounds_toArray, List.set_cons_zero, List.set_cons_succ] at hK ⊢
            rw [d4] at hK ⊢
            go_simp
            exact hK (.slice (some ⟨b, off, none⟩) n c) _ HJ.out rfl (fun j y h => h) _ rfl
          · obtain rfl := Option.some.inj ho.symm
            have d9 : V 9 = .slice (some ⟨b, off, none⟩) n c := hdep ⟨9, .data⟩ (by simp) rfl
            have d4 : V 4 = .bool true := hdep ⟨4, .guard⟩ (by simp) rfl
            clear hdep ho hJ
            try simp only [fill, slotOf, List.size_toArray, List.length_cons, List.length_nil, Nat.reduceAdd, List.getElem?_toArray, List.getElem?_cons_zero, List.getElem?_cons_succ, Option.bind_some, Act.put, List.setIfInBounds_toArray, List.set_cons_zero, List.set_cons_succ] at hK ⊢
            rw [d9, d4] at hK ⊢
            go_simp
            exact hK (.pointer (some ⟨b, off, none⟩)) _ HJ.out rfl (fun j y h => h) _ rfl
          · obtain rfl := Option.some.inj ho.symm
            have d10 : V 10 = .pointer (some ⟨b, off, none⟩) := hdep ⟨10, .data⟩ (by simp) rfl
            have d4 : V 4 = .bool true := hdep ⟨4, .guard⟩ (by simp) rfl
            have e1 : w9.cell? ⟨b, off, none⟩ = some (.string y) := (hJ.cell (p := ⟨b, off, none⟩) hlb).trans cy
            clear hdep ho hJ
            try simp only [fill, slotOf, List.size_toArray, List.length_cons, List.length_nil, Nat.reduceAdd, List.getElem?_toArray, List.getElem?_cons_zero, List.getElem?_cons_succ, Option.bind_some, Act.put, List.setIfInBounds_toArray, List.set_cons_zero, List.set_cons_succ] at hK ⊢
            rw [d10, d4] at hK ⊢
            go_simp
            exact hK (.string y) _ HJ.out rfl (fun j y h => h) _ rfl
          · obtain rfl := Option.some.inj ho.symm
            have d8 : V 8 = .string x := hdep ⟨8, .data⟩ (by simp) rfl
            have d11 : V 11 = .string y := hdep ⟨11, .data⟩ (by simp) rfl
            have d4 : V 4 = .bool true := hdep ⟨4, .guard⟩ (by simp) rfl
            have e2 := heq
            clear hdep ho hJ
            try simp only [fill, slotOf, List.size_toArray, List.length_cons, List.length_nil, Nat.reduceAdd, List.getElem?_toArray, List.getElem?_cons_zero, List.getElem?_cons_succ, Option.bind_some, Act.put, List.setIfInBounds_toArray, List.set_cons_zero, List.set_cons_succ] at hK ⊢
            rw [d8, d11, d4] at hK ⊢
            go_simp
            exact hK (.bool false) _ HJ.out rfl (fun j y h => h) _ rfl
          · obtain rfl := Option.some.inj ho.symm
            have d4 : V 4 = .bool true := hdep ⟨4, .data⟩ (by simp) rfl
            have d12 : V 12 = .bool false := hdep ⟨12, .data⟩ (by simp) rfl
            clear hdep ho hJ
            try simp only [fill, slotOf, List.size_toArray, List.length_cons, List.length_nil, Nat.reduceAdd, List.getElem?_toArray, List.getElem?_cons_zero, List.getElem?_cons_succ, Option.bind_some, Act.put, List.setIfInBounds_toArray, List.set_cons_zero, List.set_cons_succ] at hK ⊢
            rw [d4, d12] at hK ⊢
            go_simp
            exact hK (.bool false) _ HJ.out rfl (fun j y h => h) _ rfl
        · intro V w9 hJ hall
          have dL : V 13 = .bool false := hall 13 (by decide)
          have HJ9 := Lib.hid hJ
          clear hall hJ
          simp only [fill, slotOf, List.size_toArray, List.length_cons, List.length_nil, Nat.reduceAdd, List.getElem?_toArray, List.getElem?_cons_zero, List.getElem?_cons_succ, Option.bind_some, Act.put, List.setIfInBounds_toArray, List.set_cons_zero, List.set_cons_succ]
          rw [dL]
          clear dL
          have HB9 := Lib.hid (HB.out.trans (HJ9.out.mono HB.out.size))
          go_wp2_with fail
          go_ret
          exact ⟨r, rfl, HS.out, HB9.out⟩
    · obtain rfl : r = n := by omega
      have hlt1 : decide ((r : Int) < (r : Int)) = false := decide_eq_false (by omega)
      have HS := Lib.hid (show AlikeIs l r from ⟨hr1, by rw [HL.out]; exact hrn, fun i hi => by rw [HR.out i hi]; exact HY.out, .inl HL.out.symm⟩)
      clear hlt
      go_wp2_with fail
      refine wp_region_fill (by kernel_rfl) (by kernel_rfl) (by kernel_rfl) (Below wr.heap.size wr) (FV (fun j_9 => match j_9 with | 0 => some (.int .i64 (r : Int)) | 1 => some (.slice (some ⟨b, off, none⟩) r c) | 2 => some (.int .i64 (r : Int)) | 3 => some (.bool false) | 4 => some (.bool false) | 5 => some (undef) | 6 => some (undef) | 7 => some (undef) | 8 => some (undef) | 9 => some (undef) | 10 => some (undef) | 11 => some (undef) | 12 => some (undef) | 13 => some (.bool false) | _ => none) (fun _ _ => True)) (Below.refl _ _).drew ?_ ?_
      · intro i9 o ho V w9 K hJ hdep hK
        have HJ := Lib.hid hJ
        simp only [fill, slotOf, List.size_toArray, List.length_cons, List.length_nil, Nat.reduceAdd, List.getElem?_toArray, List.getElem?_cons_zero, List.getElem?_cons_succ, Option.bind_some, Act.put, List.setIfInBounds_toArray, List.set_cons_zero, List.set_cons_succ] at hK ⊢
        have hin : i9 < 14 := (Array.getElem?_eq_some_iff.1 ho).1
        have hcs : i9 = 0 ∨ i9 = 1 ∨ i9 = 2 ∨ i9 = 3 ∨ i9 = 4 ∨ i9 = 5 ∨ i9 = 6 ∨ i9 = 7 ∨ i9 = 8 ∨ i9 = 9 ∨ i9 = 10 ∨ i9 = 11 ∨ i9 = 12 ∨ i9 = 13 := by omega
        clear hin
        rcases hcs with rfl | rfl | rfl | rfl | rfl | rfl | rfl | rfl | rfl | rfl | rfl | rfl | rfl | rfl
        · obtain rfl := Option.some.inj ho.symm
          clear hdep ho hJ
          try simp only [fill, slotOf, List.size_toArray, List.length_cons, List.length_nil, Nat.reduceAdd, List.getElem?_toArray, List.getElem?_cons_zero, List.getElem?_cons_succ, Option.bind_some, Act.put, List.setIfInBounds_toArray, List.set_cons_zero, List.set_cons_succ] at hK ⊢
          go_simp
          exact hK (.int .i64 (r : Int)) _ HJ.out rfl (fun j y h => h) _ rfl
        · obtain rfl := Option.some.inj ho.symm
          clear hdep ho hJ
          try simp only [fill, slotOf, List.size_toArray, List.length_cons, List.length_nil, Nat.reduceAdd, List.getElem?_toArray, List.getElem?_cons_zero, List.getElem?_cons_succ, Option.bind_some, Act.put, List.setIfInBounds_toArray, List.set_cons_zero, List.set_cons_succ] at hK ⊢
          go_simp
          exact hK (.slice (some ⟨b, off, none⟩) r c) _ HJ.out rfl (fun j y h => h) _ rfl
        · obtain rfl := Option.some.inj ho.symm
          have d1 : V 1 = .slice (some ⟨b, off, none⟩) r c := hdep ⟨1, .data⟩ (by simp) rfl
          clear hdep ho hJ
          try simp only [fill, slotOf, List.size_toArray, List.length_cons, List.length_nil, Nat.reduceAdd, List.getElem?_toArray, List.getElem?_cons_zero, List.getElem?_cons_succ, Option.bind_some, Act.put, List.setIfInBounds_toArray, List.set_cons_zero, List.set_cons_succ] at hK ⊢
          rw [d1] at hK ⊢
          go_simp
          exact hK (.int .i64 (r : Int)) _ HJ.out rfl (fun j y h => h) _ rfl
        · obtain rfl := Option.some.inj ho.symm
          have d0 : V 0 = .int .i64 (r : Int) := hdep ⟨0, .data⟩ (by simp) rfl
          have d2 : V 2 = .int .i64 (r : Int) := hdep ⟨2, .data⟩ (by simp) rfl
          clear hdep ho hJ
          try simp only [fill, slotOf, List.size_toArray, List.length_cons, List.length_nil, Nat.reduceAdd, List.getElem?_toArray, List.getElem?_cons_zero, List.getElem?_cons_succ, Option.bind_some, Act.put, List.setIfInBounds_toArray, List.set_cons_zero, List.set_cons_succ] at hK ⊢
          rw [d0, d2] at hK ⊢
          go_simp
          refine hK (.bool false) _ HJ.out rfl (fun j y h => h) _ ?_
          first | rfl | (rw [hlt1]; rfl) | simp
        · obtain rfl := Option.some.inj ho.symm
          have d3 : V 3 = .bool false := hdep ⟨3, .data⟩ (by simp) rfl
          clear hdep ho hJ
          try simp only [fill, slotOf, List.size_toArray, List.length_cons, List.length_nil, Nat.reduceAdd, List.getElem?_toArray, List.getElem?_cons_zero, List.getElem?_cons_succ, Option.bind_some, Act.put, List.setIfInBounds_toArray, List.set_cons_zero, List.set_cons_succ] at hK ⊢
          rw [d3] at hK ⊢
          go_simp
          exact hK (.bool false) _ HJ.out rfl (fun j y h => h) _ rfl
        · obtain rfl := Option.some.inj ho.symm
          have d4 : V 4 = .bool false := hdep ⟨4, .guard⟩ (by simp) rfl
          clear hdep ho hJ
          try simp only [fill, slotOf, List.size_toArray, List.length_cons, List.length_nil, Nat.reduceAdd, List.getElem?_toArray, List.getElem?_cons_zero, List.getElem?_cons_succ, Option.bind_some, Act.put, List.setIfInBounds_toArray, List.set_cons_zero, List.set_cons_succ] at hK ⊢
          rw [d4] at hK ⊢
          go_simp
          exact hK (undef) _ HJ.out rfl (fun j y h => h) _ rfl
        · obtain rfl := Option.some.inj ho.symm
          have d4 : V 4 = .bool false := hdep ⟨4, .guard⟩ (by simp) rfl
          clear hdep ho hJ
          try simp only [fill, slotOf, List.size_toArray, List.length_cons, List.length_nil, Nat.reduceAdd, List.getElem?_toArray, List.getElem?_cons_zero, List.getElem?_cons_succ, Option.bind_some, Act.put, List.setIfInBounds_toArray, List.set_cons_zero, List.set_cons_succ] at hK ⊢
          rw [d4] at hK ⊢
          go_simp
          exact hK (undef) _ HJ.out rfl (fun j y h => h) _ rfl
        · obtain rfl := Option.some.inj ho.symm
          have d4 : V 4 = .bool false := hdep ⟨4, .guard⟩ (by simp) rfl
          clear hdep ho hJ
          try simp only [fill, slotOf, List.size_toArray, List.length_cons, List.length_nil, Nat.reduceAdd, List.getElem?_toArray, List.getElem?_cons_zero, List.getElem?_cons_succ, Option.bind_some, Act.put, List.setIfInBounds_toArray, List.set_cons_zero, List.set_cons_succ] at hK ⊢
          rw [d4] at hK ⊢
          go_simp
          exact hK (undef) _ HJ.out rfl (fun j y h => h) _ rfl
        · obtain rfl := Option.some.inj ho.symm
          have d4 : V 4 = .bool false := hdep ⟨4, .guard⟩ (by simp) rfl
          clear hdep ho hJ
          try simp only [fill, slotOf, List.size_toArray, List.length_cons, List.length_nil, Nat.reduceAdd, List.getElem?_toArray, List.getElem?_cons_zero, List.getElem?_cons_succ, Option.bind_some, Act.put, List.setIfInBounds_toArray, List.set_cons_zero, List.set_cons_succ] at hK ⊢
          rw [d4] at hK ⊢
          go_simp
          exact hK (undef) _ HJ.out rfl (fun j y h => h) _ rfl
        · obtain rfl := Option.some.inj ho.symm
          have d4 : V 4 = .bool false := hdep ⟨4, .guard⟩ (by simp) rfl
          clear hdep ho hJ
          try simp only [fill, slotOf, List.size_toArray, List.length_cons, List.length_nil, Nat.reduceAdd, List.getElem?_toArray, List.getElem?_cons_zero, List.getElem?_cons_succ, Option.bind_some, Act.put, List.setIfInBounds_toArray, List.set_cons_zero, List.set_cons_succ] at hK ⊢
          rw [d4] at hK ⊢
          go_simp
          exact hK (undef) _ HJ.out rfl (fun j y h => h) _ rfl
        · obtain rfl := Option.some.inj ho.symm
          have d4 : V 4 = .bool false := hdep ⟨4, .guard⟩ (by simp) rfl
          clear hdep ho hJ
          try simp only [fill, slotOf, List.size_toArray, List.length_cons, List.length_nil, Nat.reduceAdd, List.getElem?_toArray, List.getElem?_cons_zero, List.getElem?_cons_succ, Option.bind_some, Act.put, List.setIfInBounds_toArray, List.set_cons_zero, List.set_cons_succ] at hK ⊢
          rw [d4] at hK ⊢
          go_simp
          exact hK (undef) _ HJ.out rfl (fun j y h => h) _ rfl
        · obtain rfl := Option.some.inj ho.symm
          have d4 : V 4 = .bool false := hdep ⟨4, .guard⟩ (by simp) rfl
          clear hdep ho hJ
          try simp only [fill, slotOf, List.size_toArray, List.length_cons, List.length_nil, Nat.reduceAdd, List.getElem?_toArray, List.getElem?_cons_zero, List.getElem?_cons_succ, Option.bind_some, Act.put, List.setIfInBounds_toArray, List.set_cons_zero, List.set_cons_succ] at hK ⊢
          rw [d4] at hK ⊢
          go_simp
          exact hK (undef) _ HJ.out rfl (fun j y h => h) _ rfl
        · obtain rfl := Option.some.inj ho.symm
          have d4 : V 4 = .bool false := hdep ⟨4, .guard⟩ (by simp) rfl
          clear hdep ho hJ
          try simp only [fill, slotOf, List.size_toArray, List.length_cons, List.length_nil, Nat.reduceAdd, List.getElem?_toArray, List.getElem?_cons_zero, List.getElem?_cons_succ, Option.bind_some, Act.put, List.setIfInBounds_toArray, List.set_cons_zero, List.set_cons_succ] at hK ⊢
          rw [d4] at hK ⊢
          go_simp
          exact hK (undef) _ HJ.out rfl (fun j y h => h) _ rfl
        · obtain rfl := Option.some.inj ho.symm
          have d4 : V 4 = .bool false := hdep ⟨4, .data⟩ (by simp) rfl
          have d12 : V 12 = undef := hdep ⟨12, .data⟩ (by simp) rfl
          clear hdep ho hJ
          try simp only [fill, slotOf, List.size_toArray, List.length_cons, List.length_nil, Nat.reduceAdd, List.getElem?_toArray, List.getElem?_cons_zero, List.getElem?_cons_succ, Option.bind_some, Act.put, List.setIfInBounds_toArray, List.set_cons_zero, List.set_cons_succ] at hK ⊢
          rw [d4, d12] at hK ⊢
          go_simp
          exact hK (.bool false) _ HJ.out rfl (fun j y h => h) _ rfl
      · intro V w9 hJ hall
        have dL : V 13 = .bool false := hall 13 (by decide)
        have HJ9 := Lib.hid hJ
        clear hall hJ
        simp only [fill, slotOf, List.size_toArray, List.length_cons, List.length_nil, Nat.reduceAdd, List.getElem?_toArray, List.getElem?_cons_zero, List.getElem?_cons_succ, Option.bind_some, Act.put, List.setIfInBounds_toArray, List.set_cons_zero, List.set_cons_succ]
        rw [dL]
        clear dL
        have HB9 := Lib.hid (HB.out.trans (HJ9.out.mono HB.out.size))
        go_wp2_with fail
        go_ret
        exact ⟨r, rfl, HS.out, HB9.out⟩
end Go.Proofs.YtpbijdoemdoijaaGreatDoor
end PkCa15_0
section PkCa15_1
/- A column of words: its content, plainly. -/
namespace Go.Proofs.YtpbijdoemdoijaaGreatDoor
open Go.RowKit BitsPlain NumsPlain
set_option linter.unusedVariables false

/-- how many texts at the head are the first one -/
def alk (l : List ByteArray) : Nat := (l.takeWhile fun s => decide (s = l.getD 0 ByteArray.empty)).length
theorem tw_at (p : ByteArray → Bool) : ∀ (l : List ByteArray) (r : Nat), r ≤ l.length → (∀ i, i < r → p (l.getD i ByteArray.empty) = true) → (r = l.length ∨ p (l.getD r ByteArray.empty) = false) → (l.takeWhile p).length = r
  | [], r, hr, _, _ => by simp at hr; subst hr; rfl
  | x :: l, 0, _, _, h => by
    rcases h with e | e
    · simp at e
    · have e2 : p x = false := e
      simp [List.takeWhile, e2]
  | x :: l, r + 1, hr, h1, h2 => by
    have e2 : p x = true := h1 0 (by omega)
    rw [List.takeWhile_cons, if_pos e2, List.length_cons]
    rw [tw_at p l r (by simpa using hr) (fun i hi => h1 (i + 1) (by omega)) (by
      rcases h2 with e | e
      · exact .inl (by simpa using e)
      · exact .inr e)]
theorem alk_of {l : List ByteArray} {r : Nat} (h : AlikeIs l r) : r = alk l := by
  refine (tw_at _ l r h.le (fun i hi => by rw [h.eq i hi]; exact decide_eq_true rfl) ?_).symm
  rcases h.more with e | e
  · exact .inl e
  · exact .inr (decide_eq_false e)
/-- the words known, each behind its length -/
def wnTo (kn : List ByteArray) : Nat → List Nat
  | 0 => []
  | k + 1 => wnTo kn k ++ (pu (sz kn k) ++ byl (kn.getD k ByteArray.empty))
def wnP (kn : List ByteArray) (k : Nat) : List Nat := pu kn.length ++ wnTo kn k
/-- a word's place -/
def plc (kn : List ByteArray) (z : ByteArray) : Nat := kn.findIdx fun s => decide (s = z)
def wrR (kn : List ByteArray) : Nat → List ByteArray → List Nat
  | 0, _ => []
  | f + 1, l => if l.length = 0 then [] else pu (plc kn (l.getD 0 ByteArray.empty)) ++ pu (alk l) ++ wrR kn f (l.drop (alk l))
def wordsC (l : List ByteArray) : List Nat := wnP (kno l) (kno l).length ++ pu l.length ++ wrR (kno l) l.length l
theorem wnP_0 (kn : List ByteArray) : wnP kn 0 = pu kn.length := by unfold wnP; rw [wnTo, List.append_nil]
theorem wnP_s (kn : List ByteArray) (k : Nat) {s : ByteArray} (h : s = kn.getD k ByteArray.empty) : wnP kn k ++ pu s.size ++ byl s = wnP kn (k + 1) := by
  unfold wnP
  rw [wnTo, h, List.append_assoc, List.append_assoc]
  rfl
/-- where bsearch_any finds a word is where it stands first -/
theorem idx_find {l : List ByteArray} {z : ByteArray} (hz : z ∈ l) : plc (kno l) z < (kno l).length ∧ (kno l).getD (plc (kno l) z) ByteArray.empty = z := by
  have hm : z ∈ kno l := ((kno_facts l).2 z).2 hz
  have hlt : plc (kno l) z < (kno l).length := List.findIdx_lt_length_of_exists ⟨z, hm, decide_eq_true rfl⟩
  refine ⟨hlt, ?_⟩
  rw [List.getD_eq_getElem?_getD, List.getElem?_eq_getElem hlt]
  exact of_decide_eq_true (List.findIdx_getElem (w := hlt))
theorem kno_plc {l : List ByteArray} {z : ByteArray} (hz : z ∈ l) : plc (kno l) z < (kno l).length ∧ (kno l).getD (plc (kno l) z) ByteArray.empty = z ∧ (∀ t, t < plc (kno l) z → LabPlain.ltB ((kno l).getD t ByteArray.empty) z = true) ∧ ∀ t, plc (kno l) z ≤ t → t < (kno l).length → LabPlain.ltB ((kno l).getD t ByteArray.empty) z = false := by
  obtain ⟨h1, h2⟩ := idx_find hz
  obtain ⟨k, hk, hg, ha, hb⟩ := kno_find hz
  have he : plc (kno l) z = k := by
    rcases Nat.lt_trichotomy (plc (kno l) z) k with g | g | g
    · have h := ha _ g
      rw [h2, LabPlain.ltB_irrefl] at h; cases h
    · exact g
    · have h : decide ((kno l)[k] = z) = false := by
        have := List.not_of_lt_findIdx (p := fun s => decide (s = z)) (xs := kno l) g
        simpa using this
      have h3 : (kno l)[k] = z := by rw [← hg]; simp [hk]
      rw [h3] at h; simp at h
  rw [he]
  exact ⟨hk, hg, ha, hb⟩
theorem kno_le {l : List ByteArray} : (kno l).length ≤ l.length := by
  have h := cpt_le (srt l)
  rw [srt_len] at h
  exact h
theorem wnTo_len (kn : List ByteArray) (h : ∀ s ∈ kn, s.size ≤ 1024) : ∀ k, k ≤ kn.length → (wnTo kn k).length ≤ k * 1034
  | 0, _ => by simp [wnTo]
  | k + 1, hk => by
    have h1 := wnTo_len kn h k (by omega)
    have h2 : (kn.getD k ByteArray.empty).size ≤ 1024 := by rw [show kn.getD k ByteArray.empty = kn[k] from by simp [show k < kn.length from by omega]]; exact h _ (List.getElem_mem _)
    have h3 := pu_ten (n := sz kn k) (by unfold sz; omega)
    rw [wnTo, List.length_append, List.length_append, byl_len]
    omega
theorem alk_pos {l : List ByteArray} (h : 0 < l.length) : 1 ≤ alk l := by
  cases l with
  | nil => simp at h
  | cons x l => unfold alk; simp [List.takeWhile]
theorem wrR_len (kn : List ByteArray) (hk : kn.length ≤ 100000) : ∀ f l, l.length ≤ 100000 → (wrR kn f l).length ≤ f * 20
  | 0, _, _ => by simp [wrR]
  | f + 1, l, hl => by
    rw [wrR]
    split
    · simp
    · rw [List.length_append, List.length_append]
      have h1 := wrR_len kn hk f (l.drop (alk l)) (by rw [List.length_drop]; omega)
      have h2 : plc kn (l.getD 0 ByteArray.empty) ≤ kn.length := List.findIdx_le_length
      have h3 : alk l ≤ l.length := (List.takeWhile_sublist _).length_le
      have h4 := pu_ten (n := plc kn (l.getD 0 ByteArray.empty)) (by omega)
      have h5 := pu_ten (n := alk l) (by omega)
      omega
end Go.Proofs.YtpbijdoemdoijaaGreatDoor
end PkCa15_1
