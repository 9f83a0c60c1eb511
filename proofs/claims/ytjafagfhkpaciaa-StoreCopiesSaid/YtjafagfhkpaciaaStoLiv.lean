/- Chapter 14's lives: what is put is got. -/
import Derived.Lib.SlBytesConst
import Derived.Deep.CutBlock
import Derived.Test.YtjafagfhkpaciaaStoInv
namespace Go.Proofs.Ytjafagfhkpaciaa
open Go.RowKit
set_option linter.unusedVariables false

theorem bytes_mark (w : World) (x : Nat) (hx : x < 256) : BytesAt (w.alloc (.cells #[.int .u8 ((x : Nat) : Int)] 5 (1, 2))) (some ⟨w.heap.size, 0, none⟩) 1 1 [x] := by
  refine ⟨rfl, Nat.le_refl _, (fun y hy => by rw [List.mem_singleton.1 hy]; exact hx), by decide, by decide, (fun e => by cases e), fun _ => ⟨w.heap.size, 0, rfl, by simp, fun i hi => ?_⟩⟩
  obtain rfl : i = 0 := by omega
  exact (cell_of_row _ _ 0 _ _ _ (heap_new w _)).trans rfl
theorem StAt.not {w : World} {s Mo Mu : Nat} {σ : Sto} (h : StAt w s Mo Mu σ) {b : Nat} {cs : Array Value} {t : TypeId} {fr : Nat × Nat} (hb : w.heap[b]? = some (.cells cs t fr)) (ht : t ≠ 61) : ¬ StF s Mo Mu σ b := by
  have hgm : ∀ {κ α : Type} {T : MTy} {lit : κ → Lit} {f : α → Value} {l : List (κ × α)}, GM T lit f w b l → False := fun g => by
    obtain ⟨es, c, he⟩ := gm_obj g
    rw [hb] at he; cases he
  rintro (rfl | rfl | rfl | ⟨p, hp, rfl⟩)
  · have := h.blk
    rw [hb] at this
    cases this
    exact ht rfl
  · exact hgm h.obj
  · exact hgm h.upl
  · exact hgm (h.prt p hp)
set_option maxRecDepth 100000 in
set_option maxHeartbeats 4000000 in
theorem lives_any (w : World) :
    Calls Try.prog 10 #[] w fun e w' => e = .returned (.bool true) ∧ Below w.heap.size w w' := by
  have HN := Lib.hid (new_any w)
  have hb1 : Below w.heap.size w (w.alloc (.cells #[.map none, .map none, .int .i64 0, .int .i64 0, .int .i64 0, .int .i64 0] 61)) := (Below.refl _ _).alloc (Nat.le_refl _) _
  have hf1 : FreshAt (w.alloc (.cells #[.map none, .map none, .int .i64 0, .int .i64 0, .int .i64 0, .int .i64 0] 61)) w.heap.size 0 := .new (heap_new w _)
  obtain ⟨w1, hw1⟩ : ∃ w1, w1 = w.alloc (.cells #[.map none, .map none, .int .i64 0, .int .i64 0, .int .i64 0, .int .i64 0] 61) := ⟨_, rfl⟩
  have hz1 : w1.heap.size = w.heap.size + 1 := by rw [hw1]; simp
  rw [← hw1] at hb1 hf1
  have hcv := Lib.run_convert_bytes_const (P := Try.prog) w1 27 5 #[.int .u8 120] 1 1 Try.underlying27 Try.underlying5
  have HW1 := Lib.hid hw1
  have HF1 := Lib.hid hf1
  have HB1 := Lib.hid hb1
  have HZ1 := Lib.hid hz1
  clear hw1 hf1 hb1 hz1
  obtain ⟨w2, hw2⟩ : ∃ w2, w2 = w1.alloc (.cells #[.int .u8 120] 5 (1, 2)) := ⟨_, rfl⟩
  have HW2 := Lib.hid hw2
  rw [show ((#[.int .u8 120] : Array Value).size, (#[.int .u8 120] : Array Value).size + 1) = (1, 2) from rfl, ← hw2] at hcv
  have hb2 : Below w1.heap.size w1 w2 := by rw [hw2]; exact (Below.refl _ _).alloc (Nat.le_refl _) _
  have hf2 : FreshAt w2 w.heap.size 0 := HF1.out.below hb2
  have hz2 : w2.heap.size = w1.heap.size + 1 := by rw [hw2]; simp
  have hx2 : BytesAt w2 (some ⟨w1.heap.size, 0, none⟩) 1 1 [120] := by rw [hw2]; exact bytes_mark w1 120 (by decide)
  have HS2 : SAt w2 w.heap.size (w2.heap.size + 2) (w2.heap.size + 3) (sto0 0) := .inr ⟨hf2, rfl, rfl, rfl⟩
  have HP := Lib.hid (doPutIf (vr := 0) (at_ := 0) (nn := 0) (id := 0) (ky := ⟨#[97]⟩) HS2 hx2 (by decide) (inv0.ok (by decide) (by decide)))
  have HB2 := Lib.hid hb2
  have HF2 := Lib.hid hf2
  have HZ2 := Lib.hid hz2
  clear hw2 hf2 hx2 HS2 hb2 hz2
  go_enter Try.func10, Try.ntmps10
  go_wp2_with fail
  refine HN.out.mono ?_
  rintro e w1' ⟨rfl, hw1'⟩
  rw [hw1', ← HW1.out]
  clear hw1' w1' HN
  go_wp2_with fail
  refine HP.out.mono ?_
  rintro e w3 ⟨hfr, _, hq⟩
  obtain ⟨rfl, hst⟩ := hq (by kernel_rfl)
  have HST := Lib.hid hst
  have HFR := Lib.hid hfr
  clear hst hfr hq HP hcv
  rw [show rep 0 (.slice none 0 0) ((sto0 0).ver + 1) (sto0 0).now 0 (.slice none 0 0) false = .agg #[.int .i64 0, .slice none 0 0, .int .i64 1, .int .i64 0, .int .i64 0, .slice none 0 0, .bool false] from rfl]
  obtain ⟨w4, hw4⟩ : ∃ w4, w4 = w3.alloc (.cells #[.int .i64 0, .slice none 0 0, .int .i64 1, .int .i64 0, .int .i64 0, .slice none 0 0, .bool false] 35) := ⟨_, rfl⟩
  have hb4 : Below w3.heap.size w3 w4 := by rw [hw4]; exact (Below.refl _ _).alloc (Nat.le_refl _) _
  have hk4 : w4.heap[w3.heap.size]? = some (.cells #[.int .i64 0, .slice none 0 0, .int .i64 1, .int .i64 0, .int .i64 0, .slice none 0 0, .bool false] 35 (0, 0)) := by rw [hw4]; exact heap_new w3 _
  have hst4 := HST.out.below hb4
  have hi4 : Inv (makeS (sto0 0) ⟨#[97]⟩ (bs [120])) := inv0.make (Apt.of (.inr ⟨HF2.out, rfl, rfl, rfl⟩ : SAt w2 w.heap.size (w2.heap.size + 2) (w2.heap.size + 3) (sto0 0))) (by kernel_rfl) (by decide) (fun _ => by decide) (by decide)
  have HG := Lib.hid (doGet (a := none) (n := 0) (c := 0) (vr := 0) (at_ := 0) (nn := 0) (id := 0) (ky := ⟨#[97]⟩) (.inl hst4) (by decide) (hi4.ok (by decide) (by decide)))
  have HW4 := Lib.hid hw4
  have HB4 := Lib.hid hb4
  have HK4 := Lib.hid hk4
  have HST4 := Lib.hid hst4
  clear hw4 hb4 hk4 hst4 hi4
  go_wp2_with fail
  rw [← HW4.out]
  refine HG.out.mono ?_
  rintro e w5 ⟨hfr, hst, hq⟩
  have hob : objOf (makeS (sto0 0) ⟨#[97]⟩ (bs [120])) ⟨#[97]⟩ = some ⟨bs [120], 1, 0⟩ := by kernel_rfl
  rw [hob] at hq
  obtain ⟨g, c, rfl, hg, hby⟩ := hq
  rw [show rep 0 (.slice (some ⟨g, 0, none⟩) (⟨bs [120], 1, 0⟩ : ObjS).data.size c) (⟨bs [120], 1, 0⟩ : ObjS).ver (⟨bs [120], 1, 0⟩ : ObjS).born 0 (.slice none 0 0) false = .agg #[.int .i64 0, .slice (some ⟨g, 0, none⟩) 1 c, .int .i64 1, .int .i64 0, .int .i64 0, .slice none 0 0, .bool false] from rfl]
  obtain ⟨w6, hw6⟩ : ∃ w6, w6 = w5.alloc (.cells #[.int .i64 0, .slice (some ⟨g, 0, none⟩) 1 c, .int .i64 1, .int .i64 0, .int .i64 0, .slice none 0 0, .bool false] 35) := ⟨_, rfl⟩
  have hb6 : Below w5.heap.size w5 w6 := by rw [hw6]; exact (Below.refl _ _).alloc (Nat.le_refl _) _
  have hk6 : w6.heap[w5.heap.size]? = some (.cells #[.int .i64 0, .slice (some ⟨g, 0, none⟩) 1 c, .int .i64 1, .int .i64 0, .int .i64 0, .slice none 0 0, .bool false] 35 (0, 0)) := by rw [hw6]; exact heap_new w5 _
  have hby6 := hby.kept hb6
  have hcv : (convert 27 9 (.slice (some ⟨g, 0, none⟩) 1 c)).run Try.prog w6 = .ok (.string { data := #[120] }) w6 := hby6.conv
  have hk5 := hfr.at HK4.out (HST4.out.not HK4.out (by decide))
  have hk45 := (hb6.block w3.heap.size (Array.getElem?_eq_some_iff.1 hk5).1).trans hk5
  have c0 := cell_blk2 hk45 (i := 0) (u := .int .i64 0) rfl
  have c2 := cell_blk2 hk45 (i := 2) (u := .int .i64 1) rfl
  have c1 := cell_blk2 hk6 (i := 1) (u := .slice (some ⟨g, 0, none⟩) 1 c) rfl
  have HW6 := Lib.hid hw6
  have z1 := HZ1.out
  have z2 := HZ2.out
  have hF3 : ∀ i, StF w.heap.size (w2.heap.size + 2) (w2.heap.size + 3) (sto0 0) i → w.heap.size ≤ i := by
    rintro i (rfl | rfl | rfl | ⟨p, hp, rfl⟩)
    · exact Nat.le_refl _
    · omega
    · omega
    · cases hp
  have hF5 : ∀ i, StF w.heap.size (w2.heap.size + 2) (w2.heap.size + 3) (makeS (sto0 0) ⟨#[97]⟩ (bs [120])) i → w.heap.size ≤ i := fun i hi => hF3 i hi
  have b2 := HB1.out.trans (HB2.out.mono (by omega))
  have b3 := b2.trans (HFR.out.toBelow (by omega) hF3)
  have b4 := b3.trans (HB4.out.mono b3.size)
  have b5 := b4.trans (hfr.toBelow b4.size hF5)
  have HBE := Lib.hid (b5.trans (hb6.mono b5.size))
  clear hb6 hk6 hby6 hk5 hk45 hw6 z1 z2 hF3 hF5 b2 b3 b4 b5 hob hby hst hfr HG HB4 HK4 HST4 HW4 hg
  go_upto_region 4 with fail
  rw [← HW6.out]
  go_wp2_with fail
  first | go_ret2 | go_ret
  exact ⟨rfl, HBE.out⟩
end Go.Proofs.Ytjafagfhkpaciaa
