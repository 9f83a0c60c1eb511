/- A bay's Len and Most, walked: ranges over its boxes. -/
import Derived.Test.YtpcohkhdbjimgaaByB
namespace Go.Proofs.Ytpcohkhdbjimgaa
open Go.RowKit Go.Conc
set_option linter.unusedVariables false

def lnB (b : BoxV) : Nat := b.xs.length
/-- the fullest box's -/
def BMax (l : List (ByteArray × BoxV)) (m : Nat) : Prop := (∀ p ∈ l, p.2.xs.length ≤ m) ∧ (m = 0 ∨ ∃ p ∈ l, p.2.xs.length = m)
def MostP (w : World) (l : List (ByteArray × BoxV)) (e : Ending) (w' : World) : Prop := ∃ m : Nat, e = .returned (.int .i64 (m : Int)) ∧ BMax l m ∧ Below w.heap.size w w'
set_option maxRecDepth 100000 in
set_option maxHeartbeats 4000000 in
theorem blen_any {w : World} {Y M room : Nat} {l : List (ByteArray × BoxV)} (h : BayAt w Y M room l) (hlk : ∀ p ∈ l, p.1.size ≤ 1000000000000000) (hs : totK lnB l ≤ 1000000000) :
    Calls Try.prog 20 #[.pointer (some ⟨Y, 0, none⟩)] w fun e w' => e = .returned (.int .i64 ((totK lnB l : Nat) : Int)) ∧ Below w.heap.size w w' := by
  have HH := Lib.hid h
  have HAP := Lib.hid h.map.apart
  have HKY := Lib.hid h.map.key
  have HKV := Lib.hid (show ∀ x ∈ l, keyOf Try.prog TB.k (.string x.1) = some (slit x.1) from fun x hx => keyS (by have := hlk x hx; unfold maxLen; omega))
  have y1 := cell_blk2 h.blk (i := 1) (u := .map (some M)) rfl
  have HML := Lib.hid h.map.lt
  have HG := Lib.hid h.map
  clear h hlk
  go_enter Try.func20, Try.ntmps20
  go_wp2_with (first
    | (at_range; refine wpList_range_gm (T := TB) (M := M) rfl _ rfl rfl HG.out ?_; intro W2 hrg hgr hsz)
    | go_in)
  go_frame
  obtain ⟨r, hr⟩ : ∃ r, r = w.heap.size := ⟨_, rfl⟩
  rw [← hr] at hrg
  rw [← hr]
  have HB2 := Lib.hid (show Below w.heap.size w W2 from (Below.refl _ _).grown hgr (Nat.le_refl _) (fun k hk => by cases hk))
  have HRG := Lib.hid hrg
  have HRE := Lib.hid hr
  clear hrg hgr hsz hr y1
  go_loopw [3, 5] (fun s3 s5 wr => ∃ (left : Lit → Bool) (cnt : Nat), Hid (GR TB slit boxC wr M r l left cnt) ∧ s3 = .int .i64 ((sumK slit lnB left l : Nat) : Int) ∧ Hid (Below w.heap.size w wr)) (fun _ _ wr => wr.rangeLeft M r)
  case atStart => exact ⟨_, _, HRG, by rw [sumK_start _ HKY.out]; rfl, HB2⟩
  case round =>
    obtain ⟨left, cnt, HR, rfl, HB⟩ := hrel
    have hsl := sumK_le (lit := slit) lnB left l
    obtain ⟨z, hz⟩ : ∃ z, z = sumK slit lnB left l := ⟨_, rfl⟩
    have HZ := Lib.hid hz
    rw [← hz] at hsl
    rw [← hz]
    clear hz HRG HB2
    go_wp2_with (first
      | (at_next; refine wpList_next_gm (T := TB) rfl _ rfl (fun k => .string k) HKV.out rfl HR.out ?_ ?_)
      | go_in)
    · intro hl0
      have HE := Lib.hid (sumK_end (lit := slit) (l := l) lnB hl0)
      clear hl0
      go_wp2_with fail
      first | go_ret2 | go_ret
      refine ⟨?_, HB.out⟩
      rw [HZ.out, HE.out]
      rfl
    · intro k d W3 cnt3 hq hlk hrg3 hlt hg3 hs3 hen
      have hst := sumK_step (left := left) lnB HAP.out HKY.out (q := (k, d)) hq hlk
      have HST := Lib.hid hst
      have hsl3 := sumK_le (lit := slit) lnB (fun z => left z && !z.sameKey (slit k)) l
      have hq2 : d.xs.length + z ≤ totK lnB l := by rw [HZ.out]; simp only [lnB] at hst hsl3 ⊢; omega
      have HRG3 := Lib.hid hrg3
      have HLT := Lib.hid hlt
      have HB3 := Lib.hid (show Below w.heap.size w W3 from HB.out.grown hg3 HB.out.size (fun k hk => by cases hk; rw [HRE.out]; exact Nat.le_refl _))
      have hen2 : (Instr.entry (.pointer (some ⟨r, 0, none⟩))).run Try.prog W3 = .ok (.tuple #[.string k, .pointer (some ⟨d.B, 0, none⟩)]) W3 := hen
      have HLN := Lib.hid (len_any ((HH.out.below HB3.out).box (k, d) hq))
      have wz : IntKind.i64.wrap ((z : Int) + (d.xs.length : Int)) = (z : Int) + (d.xs.length : Int) := IntWalk.i64_in _ (by omega)
      clear hst hsl3 hq hlk hrg3 hlt hg3 hs3 hen
      go_wp2_with fail
      refine HLN.out.mono ?_
      rintro e w4 ⟨rfl, rfl⟩
      clear hen2
      go_wp2_with fail
      go_roundw
      case rel => exact ⟨_, cnt3, HRG3, by rw [HST.out, ← HZ.out]; simp only [lnB]; push_cast; rfl, HB3⟩
      case measure =>
        rw [HRG3.out.left_eq, HR.out.left_eq]
        exact HLT.out
set_option maxRecDepth 100000 in
set_option maxHeartbeats 4000000 in
theorem bmost_any {w : World} {Y M room : Nat} {l : List (ByteArray × BoxV)} (h : BayAt w Y M room l) (hlk : ∀ p ∈ l, p.1.size ≤ 1000000000000000) (hr : room ≤ 2048) :
    Calls Try.prog 21 #[.pointer (some ⟨Y, 0, none⟩)] w (MostP w l) := by
  have HH := Lib.hid h
  have HAP := Lib.hid h.map.apart
  have HKY := Lib.hid h.map.key
  have HFI := Lib.hid h.fit
  have HKV := Lib.hid (show ∀ x ∈ l, keyOf Try.prog TB.k (.string x.1) = some (slit x.1) from fun x hx => keyS (by have := hlk x hx; unfold maxLen; omega))
  have y1 := cell_blk2 h.blk (i := 1) (u := .map (some M)) rfl
  have HG := Lib.hid h.map
  clear h hlk
  go_enter Try.func21, Try.ntmps21
  go_wp2_with (first
    | (at_range; refine wpList_range_gm (T := TB) (M := M) rfl _ rfl rfl HG.out ?_; intro W2 hrg hgr hsz)
    | go_in)
  go_frame
  obtain ⟨r, hr⟩ : ∃ r, r = w.heap.size := ⟨_, rfl⟩
  rw [← hr] at hrg
  rw [← hr]
  have HB2 := Lib.hid (show Below w.heap.size w W2 from (Below.refl _ _).grown hgr (Nat.le_refl _) (fun k hk => by cases hk))
  have HRG := Lib.hid hrg
  have HRE := Lib.hid hr
  have HL0 := Lib.hid (show ∀ p ∈ l, Maps.has (.map (encK slit boxC l)) (slit p.1) = true from fun p hp => List.any_eq_true.2 ⟨(slit p.1, .held (boxC p.2)), List.mem_map.2 ⟨p, hp, rfl⟩, WideAt.sameKey_self (HKY.out p hp)⟩)
  clear hrg hgr hsz hr y1
  go_loopw [3, 5] (fun s3 s5 wr => ∃ (left : Lit → Bool) (cnt z : Nat), z ≤ 2048 ∧ Hid (GR TB slit boxC wr M r l left cnt) ∧ s3 = .int .i64 (z : Int) ∧ Hid (∀ p ∈ l, left (slit p.1) = false → p.2.xs.length ≤ z) ∧ Hid (z = 0 ∨ ∃ p ∈ l, p.2.xs.length = z) ∧ Hid (Below w.heap.size w wr)) (fun _ _ wr => wr.rangeLeft M r)
  case atStart => exact ⟨_, _, 0, by omega, HRG, rfl, Lib.hid (fun p hp e => by rw [HL0.out p hp] at e; cases e), Lib.hid (.inl rfl), HB2⟩
  case round =>
    obtain ⟨left, cnt, z, hz, HR, rfl, H1, H2, HB⟩ := hrel
    clear HRG HB2 HL0
    go_wp2_with (first
      | (at_next; refine wpList_next_gm (T := TB) rfl _ rfl (fun k => .string k) HKV.out rfl HR.out ?_ ?_)
      | go_in)
    · intro hl0
      have HE := Lib.hid (show BMax l z from ⟨fun p hp => H1.out p hp (hl0 _), H2.out⟩)
      clear hl0
      go_wp2_with fail
      first | go_ret2 | go_ret
      exact ⟨z, rfl, HE.out, HB.out⟩
    · intro k d W3 cnt3 hq hlk hrg3 hlt hg3 hs3 hen
      have hdl : d.xs.length ≤ 2048 := by have := HFI.out (k, d) hq; simp only at this; omega
      have HRG3 := Lib.hid hrg3
      have HLT := Lib.hid hlt
      have HB3 := Lib.hid (show Below w.heap.size w W3 from HB.out.grown hg3 HB.out.size (fun k hk => by cases hk; rw [HRE.out]; exact Nat.le_refl _))
      have hen2 : (Instr.entry (.pointer (some ⟨r, 0, none⟩))).run Try.prog W3 = .ok (.tuple #[.string k, .pointer (some ⟨d.B, 0, none⟩)]) W3 := hen
      have HLN := Lib.hid (len_any ((HH.out.below HB3.out).box (k, d) hq))
      have HQ := Lib.hid hq
      have H13 : Hid (∀ p ∈ l, (left (slit p.1) && !(slit p.1).sameKey (slit k)) = false → p.2.xs.length ≤ max z d.xs.length) := Lib.hid (fun p hp e => by
        cases hll : left (slit p.1) with
        | false => have := H1.out p hp hll; omega
        | true =>
          rw [hll] at e
          have hk : p.1 = k := (litS.iff _ _).1 (by simpa using e)
          have h1 := get_of_mem litS HAP.out hp
          have h2 := get_of_mem litS HAP.out HQ.out
          rw [hk] at h1
          rw [h1] at h2
          have h3 : p.2 = d := by simpa using h2
          rw [h3]
          omega)
      have H23 : Hid (max z d.xs.length = 0 ∨ ∃ p ∈ l, p.2.xs.length = max z d.xs.length) := Lib.hid (by
        rcases Nat.le_total z d.xs.length with g | g
        · exact .inr ⟨(k, d), HQ.out, by rw [Nat.max_eq_right g]⟩
        · rw [Nat.max_eq_left g]; exact H2.out)
      obtain ⟨z2, hz2⟩ : ∃ z2, z2 = max z d.xs.length := ⟨_, rfl⟩
      rw [← hz2] at H13 H23
      have hmx : max (z : Int) (d.xs.length : Int) = (z2 : Int) := by omega
      have hz22 : z2 ≤ 2048 := by omega
      have HMX := Lib.hid hmx
      clear hq hlk hrg3 hlt hg3 hs3 hen hz2 hmx
      go_wp2_with fail
      refine HLN.out.mono ?_
      rintro e w4 ⟨rfl, rfl⟩
      clear hen2
      go_wp2_with fail
      go_roundw
      case rel => exact ⟨_, cnt3, z2, hz22, HRG3, by have := HMX.out; congr 1; split <;> omega, H13, H23, HB3⟩
      case measure =>
        rw [HRG3.out.left_eq, HR.out.left_eq]
        exact HLT.out
end Go.Proofs.Ytpcohkhdbjimgaa
