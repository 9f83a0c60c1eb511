/- A page of the store's, walked. Written by genstopg.py. -/
import Derived.Deep.CutBlock
import Derived.Deep.RegionLaw
import Derived.Test.YtjafagfhkpaciaaStoPgL
import Derived.Test.YtjafagfhkpaciaaApnd
namespace Go.Proofs.Ytjafagfhkpaciaa
open Go.RowKit Go.Shelf Go.Maps Go.Sort
set_option linter.unusedVariables false

set_option maxRecDepth 100000 in
set_option maxHeartbeats 8000000 in
theorem pageO_any {w : World} {M cb bb : Nat} {l : List (ByteArray × ObjS)} (h : GM TO slit objC w M l) (hl : l.length ≤ 1000) {pre beh : ByteArray} (h1 : w.cell? ⟨cb, 1, none⟩ = some (.string pre)) (h2 : w.cell? ⟨bb, 0, none⟩ = some (.string beh)) (hcb : cb < w.heap.size) (hbb : bb < w.heap.size) (hks : ∀ p ∈ l, p.1.size ≤ 1000000000000000) :
    Calls Try.prog 45 #[.map (some M), .func (.func 43) #[] #[.pointer (some ⟨cb, 0, none⟩), .pointer (some ⟨bb, 0, none⟩)], .func (.func 46) #[] #[]] w fun e w' => ∃ a n c, e = .returned (rep 0 (.slice none 0 0) 0 0 0 (.slice a n c) (decide (16 < (pageL (wantK pre beh) (fun p => itemO p.1 p.2) l).length))) ∧ w'.ownsRow w.heap.size 46 4 (.slice a n c) n (ItemS.flat ((pageL (wantK pre beh) (fun p => itemO p.1 p.2) l).take 16)) ∧ n ≤ 16 ∧ Below w.heap.size w w' := by
  obtain ⟨w1, hw1⟩ : ∃ w1, w1 = (w.alloc (.cells zrep 35)).alloc (.cells zrep 35) := ⟨_, rfl⟩
  have hb1 : Below w.heap.size w w1 := by rw [hw1]; exact ((Below.refl _ _).alloc (Nat.le_refl _) _).alloc (by simp) _
  have z1 : w1.heap.size = w.heap.size + 2 := by rw [hw1]; simp
  have r6 : w1.heap[w.heap.size]? = some (.cells zrep 35 (0, 0)) := by
    rw [hw1]; exact (Below.heap_alloc _ _ _ (by simp)).trans (heap_new w _)
  have r7 : w1.heap[w.heap.size + 1]? = some (.cells zrep 35 (0, 0)) := by
    have := heap_new (w.alloc (.cells zrep 35)) (.cells zrep 35)
    rw [← hw1] at this
    rwa [show (w.alloc (.cells zrep 35)).heap.size = w.heap.size + 1 from by simp] at this
  have HK1 := Lib.hid (keysO_any (some M) w1)
  have HK2 := Lib.hid (sortedO_any (h.below hb1) (by omega))
  have HG := Lib.hid h
  have HAP := Lib.hid h.apart
  have HB1 := Lib.hid hb1
  have HR6 := Lib.hid r6
  have HR7 := Lib.hid r7
  have HW1 := Lib.hid hw1
  have Z1 := Lib.hid z1
  clear h hb1 r6 r7 hw1 z1
  go_enter Try.func45, Try.ntmps45
  go_upto_region 2 with fail
  have hw1 := HW1.out
  unfold zrep at hw1
  rw [← hw1]
  clear hw1
  go_wp2_with fail
  refine HK1.out.mono ?_
  rintro e w1' ⟨rfl, rfl⟩
  go_wp2_with fail
  refine HK2.out.mono ?_
  rintro e w2 ⟨v, rfl, hrow, hb2⟩
  rw [kys_flat] at hrow
  obtain ⟨a, c, rfl, hget⟩ := row_get (S := KeyS) (l := l.map (·.1)) hrow (by simp) (fun x hx => trivial)
  have hb12 : Below w1.heap.size w1 w2 := below_two hb2
  have HB2 := Lib.hid hb12
  have HGET := Lib.hid hget
  have r6 := (hb12.block _ (Array.getElem?_eq_some_iff.1 HR6.out).1).trans HR6.out
  have r7 := (hb12.block _ (Array.getElem?_eq_some_iff.1 HR7.out).1).trans HR7.out
  have HPG : Hid (PgAt w2 w2 w2.heap.size (w.heap.size + 1) (.slice none 0 0) 0 [] false) := Lib.hid ⟨Frm.refl _ _, r7, World.ownsRow_nil w2 _ _ _, rfl⟩
  have HR62 := Lib.hid r6
  have hz2 : w.heap.size + 2 ≤ w2.heap.size := by have := hb12.size; have := Z1.out; omega
  clear hrow hget hb2 hb12 r6 r7 HK1 HK2
  obtain ⟨R, hRe⟩ : ∃ R, R = w.heap.size + 1 := ⟨_, rfl⟩
  rw [← hRe] at HPG
  rw [← hRe]
  have HRE := Lib.hid hRe
  clear hRe
  obtain ⟨i0, hi, hz0, hz1, hz2'⟩ := info_parts info_item
  go_wp2_with fail
  go_loopw [14] (fun s14 wr => ∃ (i m cc : Nat) (aa : Option Addr), i ≤ l.length ∧ m ≤ 16 ∧ s14 = .int .i64 i ∧ Hid (PgAt w2 wr w2.heap.size R (.slice aa m cc) m (pageL (wantK pre beh) (fun p => itemO p.1 p.2) (l.take i)) false)) (fun s14 _ => l.length - (intOf s14).toNat)
  case atStart => exact ⟨0, 0, 0, none, by omega, by omega, rfl, HPG⟩
  case round =>
    obtain ⟨i, m, cc, aa, hil, hm, rfl, HP⟩ := hrel
    rename World => wr
    clear HPG
    by_cases hk : i < l.length
    · obtain ⟨p, hpi⟩ : ∃ p, l[i]? = some p := ⟨_, List.getElem?_eq_getElem hk⟩
      have hpm : p ∈ l := List.mem_of_getElem? hpi
      obtain ⟨g, ha, hgb, hgl, hcell⟩ := HGET.out i hk
      have hc1 := hcell 0 (.string p.1) (by rw [map_getD hpi]; rfl)
      have hbw : Below w.heap.size w wr := by
        have h1 := HB1.out.trans (HB2.out.mono HB1.out.size)
        exact h1.trans (HP.out.frm.toBelow h1.size (fun x e => by rw [e, HRE.out]; omega))
      have hck : wr.cell? ⟨g, i, none⟩ = some (.string p.1) := by
        rw [show i * (KeyS).K + 0 = i from Nat.mul_one i] at hc1
        rw [← hc1]
        exact cell_of_heap (HP.out.frm.block g hgl (fun e => by have := Z1.out; have := HRE.out; omega))
      have zi : (i : Int) < (l.length : Int) := by omega
      have zi0 : (0 : Int) ≤ (i : Int) := by omega
      have wi : IntKind.i64.wrap ((i : Int) + 1) = (i : Int) + 1 := IntWalk.i64_in _ (by omega)
      have HPI := Lib.hid hpi
      have HPM := Lib.hid hpm
      have HBW := Lib.hid hbw
      have HWT := Lib.hid (listWant_any ((hbw.cell (p := ⟨cb, 1, none⟩) hcb).trans h1) ((hbw.cell (p := ⟨bb, 0, none⟩) hbb).trans h2) p.1)
      have x5 := cell_blk2 HP.out.rb (i := 5) (u := .slice aa m cc) rfl
      have x6 := cell_blk2 HP.out.rb (i := 6) (u := .bool false) rfl
      have f5 := fro_blk2 HP.out.rb 5
      have f6 := fro_blk2 HP.out.rb 6
      clear hcell hc1 hgb hgl hpi hpm hbw
      subst ha
      go_wp2_with fail
      refine HWT.out.mono ?_
      rintro e w3 ⟨rfl, hw3⟩
      obtain rfl : wr = w3 := hw3.symm
      have hsucc : pageL (wantK pre beh) (fun p => itemO p.1 p.2) (l.take (i + 1)) = pageL (wantK pre beh) (fun p => itemO p.1 p.2) (l.take i) ++ (if wantK pre beh p.1 = true then [(fun p => itemO p.1 p.2) p] else []) := pageL_succ HPI.out
      cases hP : wantK pre beh p.1 with
      | false =>
        rw [hP, if_neg (by decide), List.append_nil] at hsucc
        have HSU := Lib.hid hsucc
        clear hsucc hP x5 x6 f5 f6 hck HWT
        go_wp2_with fail
        go_roundw
        case rel => exact ⟨i + 1, m, cc, aa, by omega, hm, by push_cast; rfl, Lib.hid (by rw [HSU.out]; exact HP.out)⟩
        case measure => simp only [intOf]; omega
      | true =>
        rw [hP, if_pos rfl] at hsucc
        by_cases hm16 : m = 16
        · subst hm16
          have HLN := Lib.hid (show 16 < (pageL (wantK pre beh) (fun p => itemO p.1 p.2) l).length from by
            rw [pageL_split (P := (wantK pre beh)) (f := (fun p => itemO p.1 p.2)) (l := l) i, List.length_append, HP.out.len]
            have := pageL_drop (P := (wantK pre beh)) (f := (fun p => itemO p.1 p.2)) HPI.out hP
            omega)
          have HTK := Lib.hid (show (pageL (wantK pre beh) (fun p => itemO p.1 p.2) l).take 16 = pageL (wantK pre beh) (fun p => itemO p.1 p.2) (l.take i) from by
            rw [pageL_split (P := (wantK pre beh)) (f := (fun p => itemO p.1 p.2)) (l := l) i, List.take_append_of_le_length (by rw [HP.out.len]; omega), List.take_of_length_le (by rw [HP.out.len]; omega)])
          clear hsucc hP hck HWT
          go_upto_region 10 with fail
          have HPM2 := Lib.hid HP.out.more
          clear x5 x6 f5 f6
          obtain ⟨wm, hwm⟩ : ∃ wm, wm = wr.setCell ⟨R, 6, none⟩ (.bool true) := ⟨_, rfl⟩
          rw [← hwm] at HPM2
          rw [← hwm]
          clear hwm
          have rbx := HPM2.out.rb
          have x0 := cell_blk2 rbx (i := 0) (u := .int .i64 0) rfl
          have x1 := cell_blk2 rbx (i := 1) (u := .slice none 0 0) rfl
          have x2 := cell_blk2 rbx (i := 2) (u := .int .i64 0) rfl
          have x3 := cell_blk2 rbx (i := 3) (u := .int .i64 0) rfl
          have x4 := cell_blk2 rbx (i := 4) (u := .int .i64 0) rfl
          have x5 := cell_blk2 rbx (i := 5) (u := .slice aa 16 cc) rfl
          have x6 := cell_blk2 rbx (i := 6) (u := .bool true) rfl
          obtain ⟨e6, e1, e2, e3⟩ := page_fin HPM2.out (HB1.out.trans (HB2.out.mono HB1.out.size)) HRE.out HR62.out
          obtain ⟨⟨q0, q1, q2, q3, q4, q5, q6⟩, r0, r1, r2, r3, r4, r5, r6⟩ := rb_cells e6
          have E1 := Lib.hid e1
          have E2 := Lib.hid e2
          have E3 := Lib.hid e3
          clear rbx e6 e1 e2 e3
          go_wp2_with fail
          clear q0 q1 q2 q3 q4 q5 q6 r0 r1 r2 r3 r4 r5 r6 x0 x1 x2 x3 x4 x5 x6
          obtain ⟨W5, hW5⟩ : ∃ W5, W5 = setR wm w.heap.size (.int .i64 0) (.slice none 0 0) (.int .i64 0) (.int .i64 0) (.int .i64 0) (.slice aa 16 cc) (.bool true) := ⟨_, rfl⟩
          rw [← hW5] at E1 E2 E3
          unfold setR at hW5
          rw [← hW5]
          refine bodyPost_ret (ret_rep rfl _ _ w.heap.size rfl E1.out) rfl ⟨aa, 16, cc, ?_, ?_, hm, E3.out⟩
          · rw [decide_eq_true HLN.out]
          · rw [HTK.out]; exact E2.out
        · have hm15 : m < 16 := by omega
          have hne16 : ¬ (m : Int) = 16 := by omega
          have HSU := Lib.hid hsucc
          have hgm := HG.out.below HBW.out
          have hlk := lookO hgm.drew p.1 (hks p HPM.out)
          rw [get_of_mem litS HAP.out HPM.out] at hlk
          have hlk2 : (Instr.lookup 58 (.map (some M)) (.string p.1) false).run Try.prog wr.drew = .ok (.agg #[.string p.2.data, .int .i64 p.2.ver, .int .i64 p.2.born]) wr.drew := hlk
          have HIT := Lib.hid (listItem_any wr.drew p.1 p.2.data p.2.ver p.2.born)
          have HAF := Lib.hid (show ∀ w9, Below wr.drew.heap.size wr.drew w9 → PgAt w2 w9 w2.heap.size R (.slice aa m cc) m (pageL (wantK pre beh) (fun p => itemO p.1 p.2) (l.take i)) false from fun w9 h9 => HP.out.below (((Below.refl _ _).drew).trans h9))
          clear hsucc hP hm hm16 hck HWT hgm hlk x6 f5 f6
          go_wp2_with fail
          go_region_law (first
            | (go_simp; go_at_call 46; refine HIT.out.mono ?_; rintro e w9 ⟨rfl, hb9⟩; have hp9 := HAF.out w9 hb9; have HP9 := Lib.hid hp9; have y5 := cell_blk2 hp9.rb (i := 5) (u := .slice aa m cc) rfl; have hpa := hp9.below ((Below.refl _ w9).alloc (Nat.le_refl _) (.cells #[.string p.1, .int .i64 p.2.ver, .int .i64 (p.2.data.size : Int), .int .i64 p.2.born] 46)); have HPA := Lib.hid hpa; have z5 := cell_blk2 hpa.rb (i := 5) (u := .slice aa m cc) rfl; have HB9 := Lib.hid hb9; clear hb9 hp9 hpa)
            | (refine step_append_own_at2 rfl (.tmp 28) (.tmp 35) 33 rfl w2.heap.size 46 i0 _ 4 40 Try.underlying33 hi hz0 hz1 hz2' rfl (by decide) _ _ _ rfl HPA.out.own ⟨w9.heap.size, 0, none⟩ 1 1 (ItemS.f ((fun p => itemO p.1 p.2) p)) rfl rfl (ItemS.src w9 ((fun p => itemO p.1 p.2) p) 46 rfl) (ItemS.one ((fun p => itemO p.1 p.2) p)) (by unfold maxLen; omega) (by omega) (by rw [World.size_alloc]; have h1 := HP9.out.frm.size; omega) ?_; intro v10 w10 ho10 hg10 hat10; obtain ⟨g10, c10, rfl⟩ := own_some2 ho10 (by omega); obtain ⟨f10, r10⟩ := PgAt.grow (v' := .slice (some ⟨g10, 0, none⟩) (m + 1) c10) (m' := m + 1) (xs' := []) HPA.out (Nat.le_refl _) hg10; have s5 := cell_blk2 r10 (i := 5) (u := .slice aa m cc) rfl; have s5f := fro_blk2 r10 5; have HO10 := Lib.hid ho10; have HF10 := Lib.hid f10; have HR10 := Lib.hid r10; clear ho10 hg10 hat10 f10 r10))
          all_goals
            clear x5 y5 z5 s5 s5f hlk2
            have HPN := Lib.hid (PgAt.set (xs := pageL (wantK pre beh) (fun p => itemO p.1 p.2) (l.take (i + 1))) HF10.out HR10.out (by rw [HSU.out]; have h1 := HO10.out; rw [← Sty.flat_snoc] at h1; exact h1) (by rw [HSU.out, List.length_append, HP.out.len]; rfl) (own_ne HO10.out HR10.out (by decide)))
            go_wp2_with fail
            go_roundw
            case rel => exact ⟨i + 1, m + 1, c10, _, by omega, by omega, by push_cast; rfl, HPN⟩
            case measure => simp only [intOf]; omega
    · have e : l.length = i := by omega
      have hx : pageL (wantK pre beh) (fun p => itemO p.1 p.2) (l.take i) = pageL (wantK pre beh) (fun p => itemO p.1 p.2) l := by rw [← e, List.take_length]
      rw [hx] at HP
      have HLN := Lib.hid (show ¬ 16 < (pageL (wantK pre beh) (fun p => itemO p.1 p.2) l).length from by rw [HP.out.len]; omega)
      have HTK := Lib.hid (show (pageL (wantK pre beh) (fun p => itemO p.1 p.2) l).take 16 = pageL (wantK pre beh) (fun p => itemO p.1 p.2) l from List.take_of_length_le (by rw [HP.out.len]; omega))
      clear hx hk
      go_upto_region 10 with fail
      have rbx := HP.out.rb
      have x0 := cell_blk2 rbx (i := 0) (u := .int .i64 0) rfl
      have x1 := cell_blk2 rbx (i := 1) (u := .slice none 0 0) rfl
      have x2 := cell_blk2 rbx (i := 2) (u := .int .i64 0) rfl
      have x3 := cell_blk2 rbx (i := 3) (u := .int .i64 0) rfl
      have x4 := cell_blk2 rbx (i := 4) (u := .int .i64 0) rfl
      have x5 := cell_blk2 rbx (i := 5) (u := .slice aa m cc) rfl
      have x6 := cell_blk2 rbx (i := 6) (u := .bool false) rfl
      obtain ⟨e6, e1, e2, e3⟩ := page_fin HP.out (HB1.out.trans (HB2.out.mono HB1.out.size)) HRE.out HR62.out
      obtain ⟨⟨q0, q1, q2, q3, q4, q5, q6⟩, r0, r1, r2, r3, r4, r5, r6⟩ := rb_cells e6
      have E1 := Lib.hid e1
      have E2 := Lib.hid e2
      have E3 := Lib.hid e3
      clear rbx e6 e1 e2 e3
      go_wp2_with fail
      clear q0 q1 q2 q3 q4 q5 q6 r0 r1 r2 r3 r4 r5 r6 x0 x1 x2 x3 x4 x5 x6
      obtain ⟨W5, hW5⟩ : ∃ W5, W5 = setR wr w.heap.size (.int .i64 0) (.slice none 0 0) (.int .i64 0) (.int .i64 0) (.int .i64 0) (.slice aa m cc) (.bool false) := ⟨_, rfl⟩
      rw [← hW5] at E1 E2 E3
      unfold setR at hW5
      rw [← hW5]
      refine bodyPost_ret (ret_rep rfl _ _ w.heap.size rfl E1.out) rfl ⟨aa, m, cc, ?_, ?_, hm, E3.out⟩
      · rw [decide_eq_false HLN.out]
      · rw [HTK.out]; exact E2.out
end Go.Proofs.Ytjafagfhkpaciaa
