/- The document's Most, walked: the number that the program's says. Written by genbyr3.py. -/
import Derived.Test.YtpcohkhdbjimgaaByR2
namespace Go.Proofs.Ytpcohkhdbjimgaa
open Go.RowKit Go.Conc
set_option linter.unusedVariables false

def RMax (L : List (ByteArray × Int)) (m : Nat) : Prop := (∀ x ∈ L, cntK L x.1 ≤ m) ∧ (m = 0 ∨ ∃ x ∈ L, cntK L x.1 = m)
theorem Holds.boxOf {w : World} {Y M room : Nat} {l : List (ByteArray × BoxV)} {L : List (ByteArray × Int)} (h : Holds w Y M room l L) {p : ByteArray × BoxV} (hp : p ∈ l) : p.2.xs = xsOf L p.1 := by
  have := h.says p.1
  unfold cont at this
  rw [get_of_mem litS h.bay.map.apart hp] at this
  exact this
theorem Holds.keyIn {w : World} {Y M room : Nat} {l : List (ByteArray × BoxV)} {L : List (ByteArray × Int)} (h : Holds w Y M room l L) {x : ByteArray × Int} (hx : x ∈ L) : ∃ p ∈ l, p.1 = x.1 := by
  have h1 := h.says x.1
  have h2 : x.2 ∈ xsOf L x.1 := by
    unfold xsOf
    exact List.mem_map.2 ⟨x, List.mem_filter.2 ⟨hx, by simp⟩, rfl⟩
  rw [← h1] at h2
  unfold cont at h2
  cases hg : getK slit x.1 l with
  | none => rw [hg] at h2; cases h2
  | some b => exact ⟨(x.1, b), get_mem slit_inj hg, rfl⟩
theorem max_same {w : World} {Y M room : Nat} {l : List (ByteArray × BoxV)} {L : List (ByteArray × Int)} (h : Holds w Y M room l L) {m m' : Nat} (hb : BMax l m) (hr : RMax L m') : m = m' := by
  apply Nat.le_antisymm
  · rcases hb.2 with e | ⟨p, hp, e⟩
    · omega
    · have h1 := h.boxOf hp
      have h2 := h.full p hp
      rw [h1] at h2
      cases hq : xsOf L p.1 with
      | nil => exact absurd hq h2
      | cons z r =>
        have h3 : z ∈ xsOf L p.1 := by rw [hq]; exact List.mem_cons_self
        unfold xsOf at h3
        obtain ⟨x, hx, rfl⟩ := List.mem_map.1 h3
        obtain ⟨hx1, hx2⟩ := List.mem_filter.1 hx
        have hx3 : x.1 = p.1 := by simpa using hx2
        have h4 := hr.1 x hx1
        rw [hx3, ← xsOf_len, ← h1, e] at h4
        exact h4
  · rcases hr.2 with e | ⟨x, hx, e⟩
    · omega
    · obtain ⟨p, hp, hk⟩ := h.keyIn hx
      have h1 := hb.1 p hp
      rw [h.boxOf hp, xsOf_len, hk, e] at h1
      exact h1
set_option maxRecDepth 100000 in
set_option maxHeartbeats 8000000 in
theorem rbmost_any {w : World} {D base room : Nat} {L : List (ByteArray × Int)} (h : DBay w D base room L) (hL : L.length ≤ 9000) :
    Calls Try.prog 27 #[.pointer (some ⟨D, 0, none⟩)] w fun e w' => ∃ m : Nat, e = .returned (.int .i64 (m : Int)) ∧ RMax L m ∧ Below w.heap.size w w' := by
  have hDl := h.lt
  obtain ⟨la, ln, lc, hblk, hrow, hll, hlk⟩ := h
  have c0 := cell_blk2 hblk (i := 0) (u := .slice la ln lc) rfl
  have HBLK := Lib.hid hblk
  have hln : ln ≤ 9000 := by omega
  have hvL : VecAt KdS w la ln lc L := VecAt.ofOwn hrow hll hlk
  have HV := Lib.hid hvL
  have hcp := hvL.cap
  have hcm := hvL.capm
  have HB0 := Lib.hid (Below.refl w.heap.size w)
  clear hblk hrow hll hlk hvL
  go_enter Try.func27, Try.ntmps27
  go_wp2_with fail
  go_loopw [3, 11] (fun s3 s11 wr => ∃ (i z : Nat), i ≤ ln ∧ z ≤ 9000 ∧ s11 = .int .i64 i ∧ s3 = .int .i64 z ∧ Hid (∀ j, j < i → cntK L (L.getD j KdS.z).1 ≤ z) ∧ Hid (z = 0 ∨ ∃ x ∈ L, cntK L x.1 = z) ∧ Hid (Below w.heap.size w wr)) (fun _ s11 _ => ln - (intOf s11).toNat)
  case atStart => exact ⟨0, 0, by omega, by omega, rfl, rfl, Lib.hid (fun j hj => by omega), Lib.hid (.inl rfl), HB0⟩
  case round =>
    clear HB0
    obtain ⟨i, z, hi, hz, rfl, rfl, HA, HM, HB⟩ := hrel
    rename World => wr
    by_cases hin : i < ln
    · obtain ⟨b, off, rfl, _, _, hc⟩ := (HV.out.kept HB.out).get hin
      obtain ⟨x, hx⟩ : ∃ x, x = L.getD i KdS.z := ⟨_, rfl⟩
      rw [← hx] at hc
      have HXX := Lib.hid hx
      have hxm : x ∈ L := by rw [hx]; exact vec_mem (S := KdS) (by rw [HV.out.len]; exact hin)
      obtain ⟨q, u⟩ := x
      have k0 : wr.cell? ⟨b, off + i * 2, none⟩ = some (.string q) := hc 0 _ rfl
      have k1 : wr.cell? ⟨b, off + i * 2 + 1, none⟩ = some (.int .i64 u) := hc 1 _ rfl
      obtain ⟨bx, hbx⟩ : ∃ bx, bx = wr.heap.size := ⟨_, rfl⟩
      obtain ⟨W3, hW3⟩ : ∃ W3, W3 = wr.alloc (.cells #[.string q, .int .i64 u] 61) := ⟨_, rfl⟩
      have hb3 : Below wr.heap.size wr W3 := by rw [hW3]; exact (Below.refl _ _).alloc (Nat.le_refl _) _
      have hk3 : W3.heap[bx]? = some (.cells #[.string q, .int .i64 u] 61 (0, 0)) := by rw [hW3, hbx]; exact heap_new wr _
      have d0 := cell_blk2 hk3 (i := 0) (u := .string q) rfl
      have hlb : bx < W3.heap.size := (Array.getElem?_eq_some_iff.1 hk3).1
      have HB3 := Lib.hid (HB.out.trans (hb3.mono HB.out.size))
      have e0 : W3.cell? ⟨D, 0, none⟩ = some (.slice (some ⟨b, off, none⟩) ln lc) := cell_blk2 ((HB3.out.block D hDl).trans HBLK.out) (i := 0) rfl
      have hDl2 : D < W3.heap.size := Nat.lt_of_lt_of_le hDl HB3.out.size
      have HVN := Lib.hid (HV.out.kept HB3.out)
      obtain ⟨cc, hcc⟩ : ∃ cc, cc = cntK L q := ⟨_, rfl⟩
      have hcl : cc ≤ 9000 := by
        have := cntK_le L L.length q
        rw [List.take_length] at this
        omega
      have HCC := Lib.hid hcc
      have HCN := Lib.hid (show ∀ W, Below W3.heap.size W3 W → Calls Try.prog 32 #[.slice (some ⟨b, off, none⟩) ln lc, .string q] W fun e w' => e = .returned (.int .i64 (cc : Int)) ∧ Below W.heap.size W w' from fun W hW => by rw [hcc]; exact count_any (HVN.out.kept hW) q (by omega))
      obtain ⟨z2, hz2e⟩ : ∃ z2, z2 = max z cc := ⟨_, rfl⟩
      have hz2 : z2 ≤ 9000 := by omega
      have HMX := Lib.hid (show max (z : Int) (cc : Int) = (z2 : Int) from by omega)
      have HA2 := Lib.hid (show ∀ j, j < i + 1 → cntK L (L.getD j KdS.z).1 ≤ z2 from fun j hj => by
        rcases Nat.lt_or_ge j i with g | g
        · have := HA.out j g; omega
        · obtain rfl : j = i := by omega
          rw [← HXX.out]; show cntK L q ≤ z2; rw [← HCC.out]; omega)
      have HM2 : Hid (z2 = 0 ∨ ∃ x ∈ L, cntK L x.1 = z2) := Lib.hid (by
        rcases Nat.le_total z cc with g | g
        · exact .inr ⟨(q, u), hxm, by show cntK L q = z2; rw [← HCC.out]; omega⟩
        · rw [show z2 = z by omega]; exact HM.out)
      have HW3 := Lib.hid hW3
      have HBX := Lib.hid hbx
      have zi : (i : Int) < (ln : Int) := by omega
      have zi0 : (0 : Int) ≤ (i : Int) := by omega
      have wi : IntKind.i64.wrap ((i : Int) + 1) = (i : Int) + 1 := IntWalk.i64_in _ (by omega)
      clear hc hx hbx hW3 hb3 hk3 HB hcc hDl hxm hz2e
      rename D < W3.heap.size => hDl
      go_upto_region 5 with fail
      rw [← HW3.out, ← HBX.out]
      clear k0 k1
      refine wp_region_fill0 (by kernel_rfl) (by kernel_rfl) (by kernel_rfl) 0 9 (fun L hc h => hc 8 _ rfl (hc 9 _ rfl h ⟨8, .data⟩ (by simp) rfl) ⟨0, .data⟩ (by simp) rfl) (Below W3.heap.size W3) (FV2 (fun j_9 => match j_9 with | 0 => some (.int .i64 (z : Int)) | 1 => some (.pointer (some ⟨D, 0, none⟩)) | 2 => some (.pointer (some ⟨D, 0, none⟩)) | 3 => some (.pointer (some ⟨D, 0, none⟩)) | 4 => some (.slice (some ⟨b, off, none⟩) ln lc) | 5 => some (.pointer (some ⟨bx, 0, none⟩)) | 6 => some (.string q) | 7 => some (.int .i64 (cc : Int)) | 8 => some (.int .i64 (z2 : Int)) | 9 => some (.int .i64 (z2 : Int)) | _ => none) (fun (j : Nat) (u : Value) (w : World) => True)) (Below.refl _ _).drew ?_ ?_
      · intro i9 o ho V w9 K hJ hst9 hdep hK
        have HJ := Lib.hid hJ
        simp only [fill, slotOf, List.size_toArray, List.length_cons, List.length_nil, Nat.reduceAdd, List.getElem?_toArray, List.getElem?_cons_zero, List.getElem?_cons_succ, Option.bind_some, Act.put, List.setIfInBounds_toArray, List.set_cons_zero, List.set_cons_succ] at hK ⊢
        have hin : i9 < 10 := (Array.getElem?_eq_some_iff.1 ho).1
        have hcs : i9 = 0 ∨ i9 = 1 ∨ i9 = 2 ∨ i9 = 3 ∨ i9 = 4 ∨ i9 = 5 ∨ i9 = 6 ∨ i9 = 7 ∨ i9 = 8 ∨ i9 = 9 := by omega
        clear hin
        rcases hcs with rfl | rfl | rfl | rfl | rfl | rfl | rfl | rfl | rfl | rfl
        · obtain rfl := Option.some.inj ho.symm
          have dS : V 9 = .int .i64 (z : Int) := (hst9 rfl).trans rfl
          clear hdep ho hJ hst9
          try simp only [fill, slotOf, List.size_toArray, List.length_cons, List.length_nil, Nat.reduceAdd, List.getElem?_toArray, List.getElem?_cons_zero, List.getElem?_cons_succ, Option.bind_some, Act.put, List.setIfInBounds_toArray, List.set_cons_zero, List.set_cons_succ] at hK ⊢
          rw [dS] at hK ⊢
          go_simp
          exact hK (.int .i64 (z : Int)) _ HJ.out rfl (fun j y h => h) _ rfl
        · obtain rfl := Option.some.inj ho.symm
          clear hdep ho hJ hst9
          try simp only [fill, slotOf, List.size_toArray, List.length_cons, List.length_nil, Nat.reduceAdd, List.getElem?_toArray, List.getElem?_cons_zero, List.getElem?_cons_succ, Option.bind_some, Act.put, List.setIfInBounds_toArray, List.set_cons_zero, List.set_cons_succ] at hK ⊢
          go_simp
          exact hK (.pointer (some ⟨D, 0, none⟩)) _ HJ.out rfl (fun j y h => h) _ rfl
        · obtain rfl := Option.some.inj ho.symm
          have d1 : V 1 = .pointer (some ⟨D, 0, none⟩) := hdep ⟨1, .data⟩ (by simp) rfl
          clear hdep ho hJ hst9
          try simp only [fill, slotOf, List.size_toArray, List.length_cons, List.length_nil, Nat.reduceAdd, List.getElem?_toArray, List.getElem?_cons_zero, List.getElem?_cons_succ, Option.bind_some, Act.put, List.setIfInBounds_toArray, List.set_cons_zero, List.set_cons_succ] at hK ⊢
          rw [d1] at hK ⊢
          go_simp
          exact hK (.pointer (some ⟨D, 0, none⟩)) _ HJ.out rfl (fun j y h => h) _ rfl
        · obtain rfl := Option.some.inj ho.symm
          have d2 : V 2 = .pointer (some ⟨D, 0, none⟩) := hdep ⟨2, .data⟩ (by simp) rfl
          clear hdep ho hJ hst9
          try simp only [fill, slotOf, List.size_toArray, List.length_cons, List.length_nil, Nat.reduceAdd, List.getElem?_toArray, List.getElem?_cons_zero, List.getElem?_cons_succ, Option.bind_some, Act.put, List.setIfInBounds_toArray, List.set_cons_zero, List.set_cons_succ] at hK ⊢
          rw [d2] at hK ⊢
          go_simp
          exact hK (.pointer (some ⟨D, 0, none⟩)) _ HJ.out rfl (fun j y h => h) _ rfl
        · obtain rfl := Option.some.inj ho.symm
          have d3 : V 3 = .pointer (some ⟨D, 0, none⟩) := hdep ⟨3, .data⟩ (by simp) rfl
          have u1 : w9.cell? ⟨D, 0, none⟩ = some (.slice (some ⟨b, off, none⟩) ln lc) := (hJ.cell (p := ⟨D, 0, none⟩) hDl).trans e0
          clear hdep ho hJ hst9
          try simp only [fill, slotOf, List.size_toArray, List.length_cons, List.length_nil, Nat.reduceAdd, List.getElem?_toArray, List.getElem?_cons_zero, List.getElem?_cons_succ, Option.bind_some, Act.put, List.setIfInBounds_toArray, List.set_cons_zero, List.set_cons_succ] at hK ⊢
          rw [d3] at hK ⊢
          go_simp
          exact hK (.slice (some ⟨b, off, none⟩) ln lc) _ HJ.out rfl (fun j y h => h) _ rfl
        · obtain rfl := Option.some.inj ho.symm
          clear hdep ho hJ hst9
          try simp only [fill, slotOf, List.size_toArray, List.length_cons, List.length_nil, Nat.reduceAdd, List.getElem?_toArray, List.getElem?_cons_zero, List.getElem?_cons_succ, Option.bind_some, Act.put, List.setIfInBounds_toArray, List.set_cons_zero, List.set_cons_succ] at hK ⊢
          go_simp
          exact hK (.pointer (some ⟨bx, 0, none⟩)) _ HJ.out rfl (fun j y h => h) _ rfl
        · obtain rfl := Option.some.inj ho.symm
          have d5 : V 5 = .pointer (some ⟨bx, 0, none⟩) := hdep ⟨5, .data⟩ (by simp) rfl
          have u1 : w9.cell? ⟨bx, 0, none⟩ = some (.string q) := (hJ.cell (p := ⟨bx, 0, none⟩) hlb).trans d0
          clear hdep ho hJ hst9
          try simp only [fill, slotOf, List.size_toArray, List.length_cons, List.length_nil, Nat.reduceAdd, List.getElem?_toArray, List.getElem?_cons_zero, List.getElem?_cons_succ, Option.bind_some, Act.put, List.setIfInBounds_toArray, List.set_cons_zero, List.set_cons_succ] at hK ⊢
          rw [d5] at hK ⊢
          go_simp
          exact hK (.string q) _ HJ.out rfl (fun j y h => h) _ rfl
        · obtain rfl := Option.some.inj ho.symm
          have d4 : V 4 = .slice (some ⟨b, off, none⟩) ln lc := hdep ⟨4, .data⟩ (by simp) rfl
          have d6 : V 6 = .string q := hdep ⟨6, .data⟩ (by simp) rfl
          clear hdep ho hJ hst9
          try simp only [fill, slotOf, List.size_toArray, List.length_cons, List.length_nil, Nat.reduceAdd, List.getElem?_toArray, List.getElem?_cons_zero, List.getElem?_cons_succ, Option.bind_some, Act.put, List.setIfInBounds_toArray, List.set_cons_zero, List.set_cons_succ] at hK ⊢
          rw [d4, d6] at hK ⊢
          go_simp
          refine (HCN.out w9 HJ.out).mono ?_
          rintro e w8 ⟨rfl, hb8⟩
          exact hK (.int .i64 (cc : Int)) _ (HJ.out.trans (hb8.mono HJ.out.size)) rfl (FV2.mono ((fun (_ : Below _ _ _) j u (hh : True) => hh) hb8)) _ rfl
        · obtain rfl := Option.some.inj ho.symm
          have d0 : V 0 = .int .i64 (z : Int) := hdep ⟨0, .data⟩ (by simp) rfl
          have d7 : V 7 = .int .i64 (cc : Int) := hdep ⟨7, .data⟩ (by simp) rfl
          clear hdep ho hJ hst9
          try simp only [fill, slotOf, List.size_toArray, List.length_cons, List.length_nil, Nat.reduceAdd, List.getElem?_toArray, List.getElem?_cons_zero, List.getElem?_cons_succ, Option.bind_some, Act.put, List.setIfInBounds_toArray, List.set_cons_zero, List.set_cons_succ] at hK ⊢
          rw [d0, d7] at hK ⊢
          (go_simp; try rw [HMX.out])
          exact hK (.int .i64 (z2 : Int)) _ HJ.out rfl (fun j y h => h) _ rfl
        · obtain rfl := Option.some.inj ho.symm
          have d8 : V 8 = .int .i64 (z2 : Int) := hdep ⟨8, .data⟩ (by simp) rfl
          clear hdep ho hJ hst9
          try simp only [fill, slotOf, List.size_toArray, List.length_cons, List.length_nil, Nat.reduceAdd, List.getElem?_toArray, List.getElem?_cons_zero, List.getElem?_cons_succ, Option.bind_some, Act.put, List.setIfInBounds_toArray, List.set_cons_zero, List.set_cons_succ] at hK ⊢
          rw [d8] at hK ⊢
          go_simp
          exact hK (.int .i64 (z2 : Int)) _ HJ.out rfl (fun j y h => h) _ rfl
      · intro V w9 hJ hall
        have dL : V 9 = .int .i64 (z2 : Int) := hall 9 (by decide)
        have HJ9 := Lib.hid hJ
        clear hall hJ
        simp only [fill, slotOf, List.size_toArray, List.length_cons, List.length_nil, Nat.reduceAdd, List.getElem?_toArray, List.getElem?_cons_zero, List.getElem?_cons_succ, Option.bind_some, Act.put, List.setIfInBounds_toArray, List.set_cons_zero, List.set_cons_succ]
        rw [dL]
        clear dL
        have HB9 := Lib.hid (HB3.out.trans (HJ9.out.mono HB3.out.size))
        clear HJ9 HCN
        go_wp2_with fail
        go_roundw
        case rel => exact ⟨i + 1, z2, by omega, hz2, by push_cast; rfl, rfl, HA2, HM2, HB9⟩
        case measure => simp only [intOf]; omega
    · have HR := Lib.hid (show RMax L z from ⟨fun x hx => by
        obtain ⟨j, hj, e⟩ := List.getElem_of_mem hx
        have := HA.out j (by rw [HV.out.len] at hj; omega)
        rw [List.getD_eq_getElem?_getD, List.getElem?_eq_getElem hj] at this
        rw [← e]
        exact this, HM.out⟩)
      go_wp2_with fail
      first | go_ret2 | go_ret
      exact ⟨z, rfl, HR.out, HB.out⟩
end Go.Proofs.Ytpcohkhdbjimgaa
