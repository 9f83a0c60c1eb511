/- An upload's size, walked: a range over its parts. -/
import Derived.Test.YtjafagfhkpaciaaStoPl
import Derived.Test.YtjafagfhkpaciaaGmR
namespace Go.Proofs.Ytjafagfhkpaciaa
open Go.RowKit
set_option linter.unusedVariables false

set_option maxRecDepth 100000 in
set_option maxHeartbeats 4000000 in
theorem size_any {w : World} {p : Nat} {l : List (Int × ByteArray)} (h : GM TP ilit prtC w p l) (hw : ∀ x ∈ l, (Lit.int .i64 x.1).wf = true) (hs : totK (fun d : ByteArray => d.size) l ≤ 1000000000) (us : ByteArray) (ub : Int) :
    Calls Try.prog 54 #[.agg #[.string us, .int .i64 ub, .map (some p)]] w fun e w' => e = .returned (.int .i64 ((totK (fun d : ByteArray => d.size) l : Nat) : Int)) ∧ Below w.heap.size w w' := by
  have hB1 : Below w.heap.size w (w.alloc (.cells #[.string us, .int .i64 ub, .map (some p)] 68)) := (Below.refl _ _).alloc (Nat.le_refl _) _
  have HG1 := Lib.hid (h.below hB1)
  have HAP := Lib.hid h.apart
  have HKY := Lib.hid h.key
  have HKV := Lib.hid (show ∀ x ∈ l, keyOf Try.prog TP.k (.int .i64 x.1) = some (ilit x.1) from fun x hx => keyI (hw x hx))
  have HB1 := Lib.hid hB1
  have HPL := Lib.hid h.lt
  clear h hw hB1
  go_enter Try.func54, Try.ntmps54
  go_wp2_with (first
    | (at_range; refine wpList_range_gm (T := TP) (M := p) rfl _ rfl rfl HG1.out ?_; intro W2 hrg hgr hsz)
    | go_in)
  go_frame
  have hsz2 : (w.alloc (.cells #[.string us, .int .i64 ub, .map (some p)] 68)).heap.size = w.heap.size + 1 := by simp
  rw [hsz2] at hrg hsz
  rw [hsz2]
  have HB2 := Lib.hid (show Below w.heap.size w W2 from HB1.out.grown hgr (by rw [hsz2]; omega) (fun k hk => by cases hk))
  have HRG := Lib.hid hrg
  clear hrg hgr hsz2
  go_loopw [3, 5] (fun s3 s5 wr => ∃ (left : Lit → Bool) (cnt : Nat), Hid (GR TP ilit prtC wr p (w.heap.size + 1) l left cnt) ∧ s3 = .int .i64 ((sumK ilit (fun d : ByteArray => d.size) left l : Nat) : Int) ∧ Hid (Below w.heap.size w wr)) (fun _ _ wr => wr.rangeLeft p (w.heap.size + 1))
  case atStart => exact ⟨_, _, HRG, by rw [sumK_start _ HKY.out]; rfl, HB2⟩
  case round =>
    obtain ⟨left, cnt, HR, rfl, HB⟩ := hrel
    have hsl := sumK_le (lit := ilit) (fun d : ByteArray => d.size) left l
    obtain ⟨z, hz⟩ : ∃ z, z = sumK ilit (fun d : ByteArray => d.size) left l := ⟨_, rfl⟩
    have HZ := Lib.hid hz
    rw [← hz] at hsl
    rw [← hz]
    clear hz
    go_wp2_with (first
      | (at_next; refine wpList_next_gm (T := TP) rfl _ rfl (fun k => .int .i64 k) HKV.out rfl HR.out ?_ ?_)
      | go_in)
    · intro hl0
      have HE := Lib.hid (sumK_end (lit := ilit) (l := l) (fun d : ByteArray => d.size) hl0)
      clear hl0
      go_wp2_with fail
      go_ret
      refine ⟨?_, HB.out⟩
      rw [HZ.out, HE.out]
      rfl
    · intro k d W3 cnt3 hq hlk hrg3 hlt hg3 hs3 hen
      have hst := sumK_step (left := left) (fun d : ByteArray => d.size) HAP.out HKY.out (q := (k, d)) hq hlk
      have hsl3 := sumK_le (lit := ilit) (fun d : ByteArray => d.size) (fun z => left z && !z.sameKey (ilit k)) l
      have HST := Lib.hid hst
      have hq2 : d.size + z ≤ totK (fun d : ByteArray => d.size) l := by rw [HZ.out]; simp only at hst; omega
      have HRG3 := Lib.hid hrg3
      have HLT := Lib.hid hlt
      have HB3 := Lib.hid (show Below w.heap.size w W3 from HB.out.grown hg3 HB.out.size (fun k hk => by cases hk; exact Nat.le_succ _))
      have hen2 : (Instr.entry (.pointer (some ⟨w.heap.size + 1, 0, none⟩))).run Try.prog W3 = .ok (.tuple #[.int .i64 k, .agg #[.string d]]) W3 := hen
      have wz : IntKind.i64.wrap ((z : Int) + (d.size : Int)) = (z : Int) + (d.size : Int) := IntWalk.i64_in _ (by omega)
      clear hst hsl3 hq hlk hrg3 hlt hg3 hs3 hen
      go_wp2_with fail
      go_roundw
      case rel => exact ⟨_, cnt3, Lib.hid (HRG3.out.below ((Below.refl _ _).alloc (Nat.le_refl _) _)), by rw [HST.out, ← HZ.out]; go_num, Lib.hid (HB3.out.alloc HB3.out.size _)⟩
      case measure =>
        have h5 := HRG3.out.below ((Below.refl _ W3).alloc (Nat.le_refl _) (.cells #[.string d] 71))
        rw [h5.left_eq, HR.out.left_eq]
        exact HLT.out
end Go.Proofs.Ytjafagfhkpaciaa
