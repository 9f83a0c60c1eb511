/- run, of an upload whose replies never come. Written by genuprun.py. -/
import Derived.Test.YtpgpgpbckjginaaStDo
import Derived.Test.YtpgpgpbckjginaaUpPacesWalk
namespace Go.Proofs.Ytpgpgpbckjginaa
open Go.RowKit
set_option linter.unusedVariables false

def TkF (B SB : Nat) (now : Int) : Nat → Value → Prop
  | 0, v => v = .pointer (some ⟨B, 0, none⟩)
  | 1, v => v = .agg #[.int .i64 10, .slice none 0 0, .int .i64 0, .int .i64 0, .int .i64 0, .slice none 0 0, .bool false]
  | 2, v => v = .pointer (some ⟨SB, 0, none⟩)
  | 3, v => v = .pointer (some ⟨SB, 0, none⟩)
  | 4, v => v = .pointer (some ⟨SB, 4, none⟩)
  | 5, v => v = .int .i64 now
  | 6, v => True
  | _ + 7, _ => True
structure TkI (w0 : World) (B SB : Nat) (now : Int) (Post : World → Prop) (L : Nat → Bool) (V : Nat → Value) (w : World) : Prop where
  val : ∀ j, L j = true → TkF B SB now j (V j)
  bef : L 6 = false → w = w0
  aft : L 6 = true → Post w ∧ L 1 = true ∧ L 5 = true
theorem TkI.put {w0 w : World} {B SB : Nat} {now : Int} {Post : World → Prop} {L : Nat → Bool} {V : Nat → Value} (h : TkI w0 B SB now Post L V w) (j : Nat) (u : Value) (hj : 6 ≠ j) (hv : TkF B SB now j u) : TkI w0 B SB now Post (fun m => L m || decide (m = j)) (upd V j u) w := by
  refine ⟨fun m hm => ?_, ?_, ?_⟩
  · unfold upd
    by_cases e : m = j
    · subst e; simp; exact hv
    · simp [e] at hm ⊢
      exact h.val m hm
  · simp only [decide_eq_false hj, Bool.or_false]; exact h.bef
  · simp only [decide_eq_false hj, Bool.or_false]
    exact fun e => ⟨(h.aft e).1, by simp [(h.aft e).2.1], by simp [(h.aft e).2.2]⟩
theorem TkI.call {w0 w w' : World} {B SB : Nat} {now : Int} {Post : World → Prop} {L : Nat → Bool} {V : Nat → Value} (h : TkI w0 B SB now Post L V w) (u : Value) (l1 : L 1 = true) (l5 : L 5 = true) (hp : Post w') : TkI w0 B SB now Post (fun m => L m || decide (m = 6)) (upd V 6 u) w' := by
  refine ⟨fun m hm => ?_, fun e => by simp at e, fun _ => ⟨hp, by simp [l1], by simp [l5]⟩⟩
  unfold upd
  by_cases e : m = 6
  · subst e; simp; trivial
  · simp [e] at hm ⊢
    exact h.val m hm
/-- the upload that fails, the store beside it, and the fates -/
structure RunAt (w0 : World) (c0 base B SB FB : Nat) (ky : ByteArray) (da' : Option Addr) (dn dc' : Nat) (sz pt tr wt fv : Int) (f : Nat) (told : Bool) (m : Nat) (nw : Int) (w : World) : Prop where
  up : Stands w B ky da' dn dc' sz pt tr wt f told
  st : ∃ ua uc ff, w.heap[SB]? = some (.cells (stA (.slice ua m uc) m nw) 34 (0, 0)) ∧ w.ownsRow base 72 4 (.slice ua m uc) m (ucells ky m ff)
  fb : ∃ cs : Array Value, w.heap[FB]? = some (.cells cs 49 (0, 0)) ∧ ∀ i, i < 40 → cs[i]? = some (.int .i64 fv)
  bel : Below c0 w0 w
  bas : base ≤ w.heap.size
  sep : B < base ∧ SB < base ∧ FB < base ∧ B ≠ SB ∧ FB ≠ SB ∧ FB ≠ B ∧ c0 ≤ B ∧ c0 ≤ SB ∧ c0 ≤ base
theorem Stands.moved {w w' : World} {B : Nat} {ky : ByteArray} {da' : Option Addr} {dn dc' : Nat} {sz pt tr wt : Int} {f : Nat} {told : Bool} (h : Stands w B ky da' dn dc' sz pt tr wt f told) (e : w'.heap[B]? = w.heap[B]?) : Stands w' B ky da' dn dc' sz pt tr wt f told := by
  rcases h with ⟨h1, h2⟩ | ⟨h1, h2, rd, h3⟩
  · exact .inl ⟨h1, e.trans h2⟩
  · exact .inr ⟨h1, h2, rd, e.trans h3⟩
theorem Stands.lt {w : World} {B : Nat} {ky : ByteArray} {da' : Option Addr} {dn dc' : Nat} {sz pt tr wt : Int} {f : Nat} {told : Bool} (h : Stands w B ky da' dn dc' sz pt tr wt f told) : B < w.heap.size := by
  rcases h with ⟨_, h2⟩ | ⟨_, _, rd, h3⟩
  · exact (Array.getElem?_eq_some_iff.1 h2).1
  · exact (Array.getElem?_eq_some_iff.1 h3).1
/-- new memory only -/
theorem RunAt.below {w0 w w' : World} {c0 base B SB FB : Nat} {ky : ByteArray} {da' : Option Addr} {dn dc' : Nat} {sz pt tr wt fv : Int} {f : Nat} {told : Bool} {m : Nat} {nw : Int} (h : RunAt w0 c0 base B SB FB ky da' dn dc' sz pt tr wt fv f told m nw w) (hb : Below w.heap.size w w') : RunAt w0 c0 base B SB FB ky da' dn dc' sz pt tr wt fv f told m nw w' := by
  obtain ⟨ua, uc, ff, h1, h2⟩ := h.st
  obtain ⟨cs, h3, h4⟩ := h.fb
  exact ⟨h.up.moved (hb.block B h.up.lt), ⟨ua, uc, ff, (hb.block SB (Array.getElem?_eq_some_iff.1 h1).1).trans h1, own_below h2 hb⟩, ⟨cs, (hb.block FB (Array.getElem?_eq_some_iff.1 h3).1).trans h3, h4⟩, h.bel.trans (hb.mono (Nat.le_trans h.sep.2.2.2.2.2.2.2.2 h.bas)), Nat.le_trans h.bas hb.size, h.sep⟩
/-- the upload's block, and new memory -/
theorem RunAt.turned {w0 w w' : World} {c0 base B SB FB : Nat} {ky : ByteArray} {da' : Option Addr} {dn dc' : Nat} {sz pt tr wt fv : Int} {f f' : Nat} {told told' : Bool} {m : Nat} {nw : Int} (h : RunAt w0 c0 base B SB FB ky da' dn dc' sz pt tr wt fv f told m nw w) (ht : Turns B w w') (hu : Stands w' B ky da' dn dc' sz pt tr wt f' told') : RunAt w0 c0 base B SB FB ky da' dn dc' sz pt tr wt fv f' told' m nw w' := by
  obtain ⟨ua, uc, ff, h1, h2⟩ := h.st
  obtain ⟨cs, h3, h4⟩ := h.fb
  obtain ⟨s1, s2, s3, s4, s5, s6, s7, s8, s9⟩ := h.sep
  exact ⟨hu, ⟨ua, uc, ff, (ht.block SB (Array.getElem?_eq_some_iff.1 h1).1 (fun e => s4 e.symm)).trans h1, h2.kept (row := some B) ⟨ht.os, ht.tape, ht.output, ht.size, fun k hk hne => ht.block k hk (fun e => hne (by rw [e]))⟩ (by
    cases ho : (Value.slice ua m uc).ownBlock with
    | none => exact .inl rfl
    | some q => exact .inr (fun e => by cases e; have := (h2.lt _ ho).1; omega))⟩, ⟨cs, (ht.block FB (Array.getElem?_eq_some_iff.1 h3).1 s6).trans h3, h4⟩, ht.old h.bel s7 (Nat.le_trans h.sep.2.2.2.2.2.2.2.2 h.bas), Nat.le_trans h.bas ht.size, h.sep⟩
theorem Turns.fromDrew {B : Nat} {w w' : World} (h : Turns B w.drew w') : Turns B w w' := ⟨h.os, h.tape, h.output, h.size, h.block⟩
/-- a tick on -/
theorem RunAt.tick {w0 w : World} {c0 base B SB FB : Nat} {ky : ByteArray} {da' : Option Addr} {dn dc' : Nat} {sz pt tr wt fv : Int} {f : Nat} {told : Bool} {m : Nat} {nw : Int} (h : RunAt w0 c0 base B SB FB ky da' dn dc' sz pt tr wt fv f told m nw w) : RunAt w0 c0 base B SB FB ky da' dn dc' sz pt tr wt fv f told m (nw + 1) (w.setCell ⟨SB, 4, none⟩ (.int .i64 (nw + 1))) := by
  obtain ⟨ua, uc, ff, h1, h2⟩ := h.st
  obtain ⟨cs, h3, h4⟩ := h.fb
  obtain ⟨s1, s2, s3, s4, s5, s6, s7, s8, s9⟩ := h.sep
  exact ⟨h.up.moved (Below.heap_setCell w ⟨SB, 4, none⟩ _ B s4), ⟨ua, uc, ff, (heap_setCell_same w SB 4 _ _ _ h1).trans rfl, ownsRow_setCell_below h2 s2 _⟩, ⟨cs, (Below.heap_setCell w ⟨SB, 4, none⟩ _ FB s5).trans h3, h4⟩, h.bel.setCell (p := ⟨SB, 4, none⟩) s8 _, by simpa [World.setCell] using h.bas, h.sep⟩
/-- a Create done -/
theorem RunAt.did {w0 w w' : World} {c0 base B SB FB : Nat} {ky : ByteArray} {da' : Option Addr} {dn dc' : Nat} {sz pt tr wt fv : Int} {f : Nat} {told : Bool} {m : Nat} {nw : Int} (h : RunAt w0 c0 base B SB FB ky da' dn dc' sz pt tr wt fv f told m nw w) {ua : Option Addr} {uc : Nat} {ff : Nat → Int} (ho : w.ownsRow base 72 4 (.slice ua m uc) m (ucells ky m ff)) {e : Ending} (hd : DoSays w base SB m (Value.slice ua m uc).ownBlock nw ky e w') : ∃ m', m' ≤ m + 1 ∧ RunAt w0 c0 base B SB FB ky da' dn dc' sz pt tr wt fv f told m' nw w' := by
  obtain ⟨_, ⟨a, m', c, f', hm, g1, g2⟩, k⟩ := hd
  obtain ⟨cs, h3, h4⟩ := h.fb
  obtain ⟨s1, s2, s3, s4, s5, s6, s7, s8, s9⟩ := h.sep
  have hlt := ho.lt
  have hown : ∀ q, q < base → some q ≠ (Value.slice ua m uc).ownBlock := fun q hq e => by have := (hlt q e.symm).1; omega
  refine ⟨m', hm, h.up.moved (k.block B h.up.lt s4 (hown B s1)), ⟨a, c, f', g1, g2⟩, ⟨cs, (k.block FB (Array.getElem?_eq_some_iff.1 h3).1 s5 (hown FB s3)).trans h3, h4⟩, h.bel.trans ⟨k.os, k.tape, k.output, k.size, fun i hi => k.block i (by have := h.bas; omega) (by omega) (hown i (by omega))⟩, Nat.le_trans h.bas k.size, h.sep⟩
set_option maxRecDepth 100000 in
set_option maxHeartbeats 8000000 in
theorem run_any {w0 w : World} {c0 base B SB FB : Nat} {ky : ByteArray} {da' : Option Addr} {dn dc' : Nat} {sz pt tr wt fv : Int} (h : RunAt w0 c0 base B SB FB ky da' dn dc' sz pt tr wt fv 0 false 0 0 w) (ht : 1 ≤ tr ∧ tr ≤ 8) (hw : 0 ≤ wt ∧ wt ≤ 3) (hfv : fv = 1 ∨ fv = 2) :
    Calls Try.prog 10 #[.pointer (some ⟨B, 0, none⟩), .pointer (some ⟨SB, 0, none⟩), .slice (some ⟨FB, 0, none⟩) 40 40] w fun e w' => e = .returned (.int .i64 tr) ∧ (∃ (f m : Nat) (nw : Int), (f : Int) = tr ∧ RunAt w0 c0 base B SB FB ky da' dn dc' sz pt tr wt fv f false m nw w') := by
  have HRA := Lib.hid h
  have hw0 := hw.1
  have hw3 := hw.2
  have ht8 := ht.2
  clear h
  go_enter Try.func10, Try.ntmps10
  go_wp2_with fail
  go_loopw [7, 12] (fun s7 s12 wr => ∃ (s f m : Nat) (nw : Int), s ≤ 2000 ∧ s12 = .int .i64 (s : Int) ∧ s7 = .int .i64 (f : Int) ∧ (f : Int) ≤ tr ∧ m ≤ f ∧ (s : Int) = nw + (f : Int) ∧ 0 ≤ nw ∧ nw ≤ 400 ∧ Hid (RunAt w0 c0 base B SB FB ky da' dn dc' sz pt tr wt fv f false m nw wr) ∧ Hid ((f : Int) < tr → nw ≤ wt * 2 ^ f - wt)) (fun _ s12 _ => 2000 - (intOf s12).toNat)
  case atStart => exact ⟨0, 0, 0, 0, by omega, rfl, rfl, by omega, by omega, by omega, by omega, by omega, HRA, Lib.hid (fun _ => by rw [Int.pow_zero, Int.mul_one]; omega)⟩
  case round =>
    clear HRA
    obtain ⟨s, f, m, nw, hs, rfl, rfl, hft, hmf, hsn, hn0, hn4, HR, HQ⟩ := hrel
    rename World => wr
    have zs : (s : Int) < 2000 := by omega
    have wS : IntKind.i64.wrap ((s : Int) + 1) = (s : Int) + 1 := IntWalk.i64_in _ (by omega)
    obtain ⟨ua, uc, ff, hst, hown⟩ := HR.out.st
    have c4 := cell_blk hst (i := 4) (u := .int .i64 nw) rfl
    rcases HR.out.up with ⟨hlt, hg⟩ | ⟨_, hf2, rd, hg⟩
    case inr =>
      have HN := Lib.hid (next_over (now := nw) hg)
      have HFT := Lib.hid hf2
      clear hg hst hown hf2
      go_wp2_with fail
      refine HN.out.mono ?_
      rintro e w6 ⟨rfl, hg6, ht6⟩
      have HR6 := Lib.hid (HR.out.turned ht6 (.inr ⟨rfl, HFT.out, rd, hg6⟩))
      have hal : Below w6.heap.size w6 (w6.alloc (.cells #[.int .i64 0, .string { data := #[] }, .slice none 0 0, .int .i64 0, .int .i64 0, .int .i64 0, .int .i64 0] 48)) := (Below.refl _ _).alloc (Nat.le_refl _) _
      have HR7 := Lib.hid (HR6.out.below hal)
      have hg7 := (hal.block B (Array.getElem?_eq_some_iff.1 hg6).1).trans hg6
      have HSA := Lib.hid (state_any hg7)
      clear hg6 ht6 hal hg7
      go_wp2_with fail
      refine HSA.out.mono ?_
      rintro e w7 ⟨rfl, rfl⟩
      go_wp2_with fail
      go_ret
      exact ⟨congrArg (fun t : Int => Ending.returned (Value.int .i64 t)) HFT.out, f, m, nw, HFT.out, HR7.out⟩
    case inl =>
      have hp : wt * 2 ^ f ≤ 384 := by
        have := (pow_in hw0 (by omega) f 7 (by omega)).2
        have e : (2 : Int) ^ 7 = 128 := by decide
        rw [e] at this
        omega
      have hq := HQ.out hlt
      by_cases hnow : nw < wt * 2 ^ f - wt
      case pos =>
        have HN := Lib.hid (next_wait (now := nw) hg hnow)
        have HD := Lib.hid (show nw + 1 ≤ wt * 2 ^ f - wt by omega)
        have hn1 : nw + 1 ≤ 400 := by omega
        clear hg hst hown hq hp hnow
        go_wp2_with fail
        refine HN.out.mono ?_
        rintro e w6 ⟨rfl, hg6, ht6⟩
        have HR6 := Lib.hid (HR.out.turned ht6 (.inl ⟨hlt, hg6⟩))
        have hal : Below w6.heap.size w6 (w6.alloc (.cells #[.int .i64 0, .string { data := #[] }, .slice none 0 0, .int .i64 0, .int .i64 0, .int .i64 0, .int .i64 0] 48)) := (Below.refl _ _).alloc (Nat.le_refl _) _
        have HR7 := Lib.hid (HR6.out.below hal)
        have hg7 := (hal.block B (Array.getElem?_eq_some_iff.1 hg6).1).trans hg6
        have HSA := Lib.hid (state_any hg7)
        clear hg6 ht6 hal hg7
        go_wp2_with fail
        refine HSA.out.mono ?_
        rintro e w7 ⟨rfl, rfl⟩
        obtain ⟨ub, ud, fg, hst7, _⟩ := HR7.out.st
        have HTI := Lib.hid (tick_one hst7 (by omega))
        have HR8 := Lib.hid HR7.out.tick
        clear hst7
        go_wp2_with fail
        refine HTI.out.mono ?_
        rintro e w8 ⟨rfl, rfl⟩
        go_wp2_with fail
        go_roundw
        case rel => exact ⟨s + 1, f, m, nw + 1, by omega, by go_num, rfl, hft, hmf, by omega, by omega, hn1, HR8, Lib.hid (fun _ => HD.out)⟩
        case measure => simp [intOf]; omega
      case neg =>
        have hnd : nw = wt * 2 ^ f - wt := by omega
        have HN := Lib.hid (next_yes (now := nw) hg (by omega))
        have HND := Lib.hid hnd
        have hf40 : (f : Int) < 40 := by omega
        have hf00 : (0 : Int) ≤ (f : Int) := by omega
        have wf : IntKind.i64.wrap ((f : Int) + 1) = (f : Int) + 1 := IntWalk.i64_in _ (by omega)
        have hf7 : f ≤ 7 := by omega
        clear hg hst hown hq hp hnow hnd
        go_wp2_with fail
        refine HN.out.mono ?_
        rintro e w6 ⟨rfl, hg6, ht6⟩
        have HR6 := Lib.hid (HR.out.turned ht6 (.inl ⟨hlt, hg6⟩))
        obtain ⟨cb, hcb⟩ : ∃ cb, cb = w6.heap.size := ⟨_, rfl⟩
        obtain ⟨rb, hrb⟩ : ∃ rb, rb = w6.heap.size + 1 := ⟨_, rfl⟩
        obtain ⟨w7, hw7⟩ : ∃ w7, w7 = w6.alloc (.cells #[.int .i64 7, .string ky, .slice none 0 0, .int .i64 0, .int .i64 0, .int .i64 0, .int .i64 0] 48) := ⟨_, rfl⟩
        obtain ⟨w8, hw8⟩ : ∃ w8, w8 = w7.alloc (.cells #[.int .i64 10, .slice none 0 0, .int .i64 0, .int .i64 0, .int .i64 0, .slice none 0 0, .bool false] 45) := ⟨_, rfl⟩
        have hb7 : Below w6.heap.size w6 w7 := by rw [hw7]; exact (Below.refl _ _).alloc (Nat.le_refl _) _
        have hs7 : w7.heap.size = w6.heap.size + 1 := by rw [hw7]; simp
        have hb8 : Below w7.heap.size w7 w8 := by rw [hw8]; exact (Below.refl _ _).alloc (Nat.le_refl _) _
        have hc7 : w7.heap[cb]? = some (.cells #[.int .i64 7, .string ky, .slice none 0 0, .int .i64 0, .int .i64 0, .int .i64 0, .int .i64 0] 48 (0, 0)) := by rw [hw7, hcb]; exact heap_alloc_new w6 _
        have hc8 := (hb8.block cb (Array.getElem?_eq_some_iff.1 hc7).1).trans hc7
        have hr8 : w8.heap[rb]? = some (.cells #[.int .i64 10, .slice none 0 0, .int .i64 0, .int .i64 0, .int .i64 0, .slice none 0 0, .bool false] 45 (0, 0)) := by rw [hw8, hrb, ← hs7]; exact heap_alloc_new w7 _
        have HR7 := Lib.hid (HR6.out.below hb7)
        have HR8 := Lib.hid (HR7.out.below hb8)
        have hfc : w7.cell? ⟨FB, f, none⟩ = some (.int .i64 fv) := by
          obtain ⟨cs, h3, h4⟩ := HR7.out.fb
          exact cell_blk h3 (h4 f (by omega))
        have d0 := cell_blk hc8 (i := 0) (u := .int .i64 7) rfl
        have d1 := cell_blk hc8 (i := 1) (u := .string ky) rfl
        have d2 := cell_blk hc8 (i := 2) (u := .slice none 0 0) rfl
        have d3 := cell_blk hc8 (i := 3) (u := .int .i64 0) rfl
        have d4 := cell_blk hc8 (i := 4) (u := .int .i64 0) rfl
        have d5 := cell_blk hc8 (i := 5) (u := .int .i64 0) rfl
        have d6 := cell_blk hc8 (i := 6) (u := .int .i64 0) rfl
        rw [hw8, hw7, hcb] at d0 d1 d2 d3 d4 d5 d6
        rw [hw7] at hfc
        have HRR := Lib.hid hr8
        have HOB := Lib.hid (show ∀ q ua uc, w8.heap[SB]? = some (.cells (stA (.slice ua m uc) m nw) 34 (0, 0)) → (Value.slice ua m uc).ownBlock = some q → q ≠ rb from fun q ua uc hq ho => by
          obtain ⟨u1, u2, u3, g1, g2⟩ := HR6.out.st
          have g3 : w8.heap[SB]? = w6.heap[SB]? := (hb8.block SB (by have := (Array.getElem?_eq_some_iff.1 g1).1; omega)).trans (hb7.block SB (Array.getElem?_eq_some_iff.1 g1).1)
          rw [g3, g1] at hq
          have e1 : (Value.slice u1 m u2) = .slice ua m uc := by simpa [stA] using hq
          rw [← e1] at ho
          have := (g2.lt q ho).2
          omega)
        have HW7 := Lib.hid hw7
        have HW8 := Lib.hid hw8
        have HCB := Lib.hid hcb
        have HRB := Lib.hid hrb
        have HSEP := Lib.hid (show rb ≠ B ∧ rb ≠ SB ∧ base ≤ rb from by have h1 := HR6.out.sep; have h2 := HR6.out.bas; omega)
        have HRBL := Lib.hid (Array.getElem?_eq_some_iff.1 hr8).1
        clear hg6 ht6 hb7 hb8 hc7 hc8 hr8 hw7 hw8 hcb hrb hs7
        rcases hfv with rfl | rfl
        · clear d0 d1 d2 d3 d4 d5 d6
          obtain ⟨wX, hwX⟩ : ∃ wX, wX = w8 := ⟨_, rfl⟩
          obtain ⟨mX, hmX⟩ : ∃ mX, mX = m := ⟨_, rfl⟩
          have hmX2 : mX ≤ f + 1 := by omega
          have HRX := Lib.hid HR8.out
          have HRBX := Lib.hid HRR.out
          rw [← hmX, ← hwX] at HRX
          rw [← hwX] at HRBX
          have HWX := Lib.hid hwX
          clear hwX hmX
          go_wp2_with fail
          rw [← HW7.out, ← HW8.out, ← HRB.out, ← HCB.out, ← HWX.out]
          have HTK := Lib.hid (show Calls Try.prog 17 #[.pointer (some ⟨B, 0, none⟩), .agg #[.int .i64 10, .slice none 0 0, .int .i64 0, .int .i64 0, .int .i64 0, .slice none 0 0, .bool false], .int .i64 nw] wX.drew fun e w' => (∃ v, e = .returned v) ∧ RunAt w0 c0 base B SB FB ky da' dn dc' sz pt tr wt 1 (f + 1) false mX nw w' from by
            rcases HRX.out.up with ⟨_, hgX⟩ | ⟨hno, _⟩
            case inr => cases hno
            by_cases hmore : (f : Int) + 1 < tr
            · refine (take_more (w := wX.drew) (now := nw) hgX (by omega) ⟨hw0, by omega⟩ ⟨hn0, by omega⟩ hmore).mono ?_
              rintro e w9 ⟨hv, hg9, ht9⟩
              refine ⟨hv, HRX.out.turned (ht9.fromDrew) (.inl ⟨by omega, ?_⟩)⟩
              rw [hg9, pow_step, show nw + wt * 2 ^ f = 2 * (wt * 2 ^ f) - wt from by have := HND.out; omega]
              rfl
            · refine (take_last (w := wX.drew) (now := nw) hgX (by omega) (by omega)).mono ?_
              rintro e w9 ⟨hv, hg9, ht9⟩
              exact ⟨hv, HRX.out.turned (ht9.fromDrew) (.inr ⟨rfl, by omega, _, hg9⟩)⟩)
          obtain ⟨ub, ud, fg, hstX, _⟩ := HRX.out.st
          have HC4 := Lib.hid (cell_blk hstX (i := 4) (u := .int .i64 nw) rfl)
          have q := fun j u (h : (#[.int .i64 10, .slice none 0 0, .int .i64 0, .int .i64 0, .int .i64 0, .slice none 0 0, .bool false] : Array Value)[j]? = some u) => cell_blk HRBX.out h
          have HQ7 := Lib.hid (show wX.cell? ⟨rb, 0, none⟩ = some (.int .i64 10) ∧ wX.cell? ⟨rb, 1, none⟩ = some (.slice none 0 0) ∧ wX.cell? ⟨rb, 2, none⟩ = some (.int .i64 0) ∧ wX.cell? ⟨rb, 3, none⟩ = some (.int .i64 0) ∧ wX.cell? ⟨rb, 4, none⟩ = some (.int .i64 0) ∧ wX.cell? ⟨rb, 5, none⟩ = some (.slice none 0 0) ∧ wX.cell? ⟨rb, 6, none⟩ = some (.bool false) from ⟨q 0 _ rfl, q 1 _ rfl, q 2 _ rfl, q 3 _ rfl, q 4 _ rfl, q 5 _ rfl, q 6 _ rfl⟩)
          clear hstX q
          refine wp_region_inv (by kernel_rfl) (by kernel_rfl) (by kernel_rfl) (TkI wX.drew B SB nw (RunAt w0 c0 base B SB FB ky da' dn dc' sz pt tr wt 1 (f + 1) false mX nw)) (fun V => ⟨fun _ h => Bool.noConfusion h, fun _ => rfl, fun h => Bool.noConfusion h⟩) ?_ ?_
          · intro j o ho L V w9 K hI hL hdep hK
            have HI := Lib.hid hI
            have hw9 : L 1 = false ∨ L 5 = false ∨ L 6 = false → w9 = wX.drew := fun hh => hI.bef (by
              cases e : L 6 with
              | false => rfl
              | true =>
                have := hI.aft e
                rcases hh with h | h | h
                · rw [this.2.1] at h; cases h
                · rw [this.2.2] at h; cases h
                · rw [h] at e; cases e)
            have hin : j < 7 := (Array.getElem?_eq_some_iff.1 ho).1
            have hcs : j = 0 ∨ j = 1 ∨ j = 2 ∨ j = 3 ∨ j = 4 ∨ j = 5 ∨ j = 6 := by omega
            clear hin
            rcases hcs with rfl | rfl | rfl | rfl | rfl | rfl | rfl
            · obtain rfl := Option.some.inj ho.symm
              clear hdep ho hI hL hw9
              try simp only [fill, slotOf, List.size_toArray, List.length_cons, List.length_nil, Nat.reduceAdd, List.getElem?_toArray, List.getElem?_cons_zero, List.getElem?_cons_succ, Option.bind_some, Act.put, List.setIfInBounds_toArray, List.set_cons_zero, List.set_cons_succ] at hK ⊢
              go_simp
              exact hK (.pointer (some ⟨B, 0, none⟩)) _ (HI.out.put 0 _ (by decide) rfl) _ rfl
            · obtain rfl := Option.some.inj ho.symm
              have hw := hw9 (.inl hL)
              subst hw
              have cc0 : wX.drew.cell? ⟨rb, 0, none⟩ = _ := HQ7.out.1
              have cc1 : wX.drew.cell? ⟨rb, 1, none⟩ = _ := HQ7.out.2.1
              have cc2 : wX.drew.cell? ⟨rb, 2, none⟩ = _ := HQ7.out.2.2.1
              have cc3 : wX.drew.cell? ⟨rb, 3, none⟩ = _ := HQ7.out.2.2.2.1
              have cc4 : wX.drew.cell? ⟨rb, 4, none⟩ = _ := HQ7.out.2.2.2.2.1
              have cc5 : wX.drew.cell? ⟨rb, 5, none⟩ = _ := HQ7.out.2.2.2.2.2.1
              have cc6 : wX.drew.cell? ⟨rb, 6, none⟩ = _ := HQ7.out.2.2.2.2.2.2
              clear hdep ho hI hL hw9
              try simp only [fill, slotOf, List.size_toArray, List.length_cons, List.length_nil, Nat.reduceAdd, List.getElem?_toArray, List.getElem?_cons_zero, List.getElem?_cons_succ, Option.bind_some, Act.put, List.setIfInBounds_toArray, List.set_cons_zero, List.set_cons_succ] at hK ⊢
              go_simp
              exact hK (.agg #[.int .i64 10, .slice none 0 0, .int .i64 0, .int .i64 0, .int .i64 0, .slice none 0 0, .bool false]) _ (HI.out.put 1 _ (by decide) rfl) _ rfl
            · obtain rfl := Option.some.inj ho.symm
              clear hdep ho hI hL hw9
              try simp only [fill, slotOf, List.size_toArray, List.length_cons, List.length_nil, Nat.reduceAdd, List.getElem?_toArray, List.getElem?_cons_zero, List.getElem?_cons_succ, Option.bind_some, Act.put, List.setIfInBounds_toArray, List.set_cons_zero, List.set_cons_succ] at hK ⊢
              go_simp
              exact hK (.pointer (some ⟨SB, 0, none⟩)) _ (HI.out.put 2 _ (by decide) rfl) _ rfl
            · obtain rfl := Option.some.inj ho.symm
              have d2 : V 2 = .pointer (some ⟨SB, 0, none⟩) := hI.val 2 (hdep ⟨2, .data⟩ (by simp) rfl)
              clear hdep ho hI hL hw9
              try simp only [fill, slotOf, List.size_toArray, List.length_cons, List.length_nil, Nat.reduceAdd, List.getElem?_toArray, List.getElem?_cons_zero, List.getElem?_cons_succ, Option.bind_some, Act.put, List.setIfInBounds_toArray, List.set_cons_zero, List.set_cons_succ] at hK ⊢
              rw [d2] at hK ⊢
              go_simp
              exact hK (.pointer (some ⟨SB, 0, none⟩)) _ (HI.out.put 3 _ (by decide) rfl) _ rfl
            · obtain rfl := Option.some.inj ho.symm
              have d3 : V 3 = .pointer (some ⟨SB, 0, none⟩) := hI.val 3 (hdep ⟨3, .data⟩ (by simp) rfl)
              clear hdep ho hI hL hw9
              try simp only [fill, slotOf, List.size_toArray, List.length_cons, List.length_nil, Nat.reduceAdd, List.getElem?_toArray, List.getElem?_cons_zero, List.getElem?_cons_succ, Option.bind_some, Act.put, List.setIfInBounds_toArray, List.set_cons_zero, List.set_cons_succ] at hK ⊢
              rw [d3] at hK ⊢
              go_simp
              exact hK (.pointer (some ⟨SB, 4, none⟩)) _ (HI.out.put 4 _ (by decide) rfl) _ rfl
            · obtain rfl := Option.some.inj ho.symm
              have d4 : V 4 = .pointer (some ⟨SB, 4, none⟩) := hI.val 4 (hdep ⟨4, .data⟩ (by simp) rfl)
              have hw := hw9 (.inr (.inl hL))
              subst hw
              have cc : wX.drew.cell? ⟨SB, 4, none⟩ = _ := HC4.out
              clear hdep ho hI hL hw9
              try simp only [fill, slotOf, List.size_toArray, List.length_cons, List.length_nil, Nat.reduceAdd, List.getElem?_toArray, List.getElem?_cons_zero, List.getElem?_cons_succ, Option.bind_some, Act.put, List.setIfInBounds_toArray, List.set_cons_zero, List.set_cons_succ] at hK ⊢
              rw [d4] at hK ⊢
              go_simp
              exact hK (.int .i64 nw) _ (HI.out.put 5 _ (by decide) rfl) _ rfl
            · obtain rfl := Option.some.inj ho.symm
              have d0 : V 0 = .pointer (some ⟨B, 0, none⟩) := hI.val 0 (hdep ⟨0, .data⟩ (by simp) rfl)
              have d1 : V 1 = .agg #[.int .i64 10, .slice none 0 0, .int .i64 0, .int .i64 0, .int .i64 0, .slice none 0 0, .bool false] := hI.val 1 (hdep ⟨1, .data⟩ (by simp) rfl)
              have d5 : V 5 = .int .i64 nw := hI.val 5 (hdep ⟨5, .data⟩ (by simp) rfl)
              have hw := hw9 (.inr (.inr hL))
              subst hw
              have l1 := hdep ⟨1, .data⟩ (by simp) rfl
              have l5 := hdep ⟨5, .data⟩ (by simp) rfl
              clear hdep ho hI hL hw9
              try simp only [fill, slotOf, List.size_toArray, List.length_cons, List.length_nil, Nat.reduceAdd, List.getElem?_toArray, List.getElem?_cons_zero, List.getElem?_cons_succ, Option.bind_some, Act.put, List.setIfInBounds_toArray, List.set_cons_zero, List.set_cons_succ] at hK ⊢
              rw [d0, d1, d5] at hK ⊢
              go_simp
              refine HTK.out.mono ?_
              rintro e w8 ⟨⟨v, rfl⟩, hp8⟩
              exact hK v _ (HI.out.call v l1 l5 hp8) _ rfl
          · intro L V w9 hI hall
            have HP := Lib.hid (hI.aft (hall 6 (by decide))).1
            clear hall hI
            simp only [fill, slotOf, List.size_toArray, List.length_cons, List.length_nil, Nat.reduceAdd, List.getElem?_toArray, List.getElem?_cons_zero, List.getElem?_cons_succ, Option.bind_some, Act.put, List.setIfInBounds_toArray, List.set_cons_zero, List.set_cons_succ]
            go_wp2_with fail
            go_roundw
            case rel => exact ⟨s + 1, f + 1, mX, nw, by omega, by go_num, by go_num, by omega, by omega, by omega, hn0, hn4, HP, Lib.hid (fun _ => by rw [pow_step]; have := HND.out; have := (pow_in hw0 (by omega) f 7 (by omega)).1; omega)⟩
            case measure => simp [intOf]; omega
        · go_wp2_with fail
          rw [← HW7.out, ← HW8.out, ← HRB.out, ← HCB.out]
          obtain ⟨ua8, uc8, ff8, hst8, hown8⟩ := HR8.out.st
          have hown6 := HR6.out.st
          refine (do_create hst8 hown8 HR8.out.sep.2.1 HR8.out.bas (by omega)).mono ?_
          rintro e wX hdX
          obtain ⟨v, rfl⟩ := hdX.1
          obtain ⟨mX, hmX, hRX⟩ := HR8.out.did hown8 hdX
          have hmX2 : mX ≤ f + 1 := by omega
          have HRX := Lib.hid hRX
          have HRBX := Lib.hid (show wX.heap[rb]? = some (.cells #[.int .i64 10, .slice none 0 0, .int .i64 0, .int .i64 0, .int .i64 0, .slice none 0 0, .bool false] 45 (0, 0)) from (hdX.2.2.block rb HRBL.out HSEP.out.2.1 (fun e => HOB.out rb ua8 uc8 hst8 e.symm rfl)).trans HRR.out)
          clear d0 d1 d2 d3 d4 d5 d6 hst8 hown8 hown6 hdX hRX
          go_wp2_with fail
          have HTK := Lib.hid (show Calls Try.prog 17 #[.pointer (some ⟨B, 0, none⟩), .agg #[.int .i64 10, .slice none 0 0, .int .i64 0, .int .i64 0, .int .i64 0, .slice none 0 0, .bool false], .int .i64 nw] wX.drew fun e w' => (∃ v, e = .returned v) ∧ RunAt w0 c0 base B SB FB ky da' dn dc' sz pt tr wt 2 (f + 1) false mX nw w' from by
            rcases HRX.out.up with ⟨_, hgX⟩ | ⟨hno, _⟩
            case inr => cases hno
            by_cases hmore : (f : Int) + 1 < tr
            · refine (take_more (w := wX.drew) (now := nw) hgX (by omega) ⟨hw0, by omega⟩ ⟨hn0, by omega⟩ hmore).mono ?_
              rintro e w9 ⟨hv, hg9, ht9⟩
              refine ⟨hv, HRX.out.turned (ht9.fromDrew) (.inl ⟨by omega, ?_⟩)⟩
              rw [hg9, pow_step, show nw + wt * 2 ^ f = 2 * (wt * 2 ^ f) - wt from by have := HND.out; omega]
              rfl
            · refine (take_last (w := wX.drew) (now := nw) hgX (by omega) (by omega)).mono ?_
              rintro e w9 ⟨hv, hg9, ht9⟩
              exact ⟨hv, HRX.out.turned (ht9.fromDrew) (.inr ⟨rfl, by omega, _, hg9⟩)⟩)
          obtain ⟨ub, ud, fg, hstX, _⟩ := HRX.out.st
          have HC4 := Lib.hid (cell_blk hstX (i := 4) (u := .int .i64 nw) rfl)
          have q := fun j u (h : (#[.int .i64 10, .slice none 0 0, .int .i64 0, .int .i64 0, .int .i64 0, .slice none 0 0, .bool false] : Array Value)[j]? = some u) => cell_blk HRBX.out h
          have HQ7 := Lib.hid (show wX.cell? ⟨rb, 0, none⟩ = some (.int .i64 10) ∧ wX.cell? ⟨rb, 1, none⟩ = some (.slice none 0 0) ∧ wX.cell? ⟨rb, 2, none⟩ = some (.int .i64 0) ∧ wX.cell? ⟨rb, 3, none⟩ = some (.int .i64 0) ∧ wX.cell? ⟨rb, 4, none⟩ = some (.int .i64 0) ∧ wX.cell? ⟨rb, 5, none⟩ = some (.slice none 0 0) ∧ wX.cell? ⟨rb, 6, none⟩ = some (.bool false) from ⟨q 0 _ rfl, q 1 _ rfl, q 2 _ rfl, q 3 _ rfl, q 4 _ rfl, q 5 _ rfl, q 6 _ rfl⟩)
          clear hstX q
          refine wp_region_inv (by kernel_rfl) (by kernel_rfl) (by kernel_rfl) (TkI wX.drew B SB nw (RunAt w0 c0 base B SB FB ky da' dn dc' sz pt tr wt 2 (f + 1) false mX nw)) (fun V => ⟨fun _ h => Bool.noConfusion h, fun _ => rfl, fun h => Bool.noConfusion h⟩) ?_ ?_
          · intro j o ho L V w9 K hI hL hdep hK
            have HI := Lib.hid hI
            have hw9 : L 1 = false ∨ L 5 = false ∨ L 6 = false → w9 = wX.drew := fun hh => hI.bef (by
              cases e : L 6 with
              | false => rfl
              | true =>
                have := hI.aft e
                rcases hh with h | h | h
                · rw [this.2.1] at h; cases h
                · rw [this.2.2] at h; cases h
                · rw [h] at e; cases e)
            have hin : j < 7 := (Array.getElem?_eq_some_iff.1 ho).1
            have hcs : j = 0 ∨ j = 1 ∨ j = 2 ∨ j = 3 ∨ j = 4 ∨ j = 5 ∨ j = 6 := by omega
            clear hin
            rcases hcs with rfl | rfl | rfl | rfl | rfl | rfl | rfl
            · obtain rfl := Option.some.inj ho.symm
              clear hdep ho hI hL hw9
              try simp only [fill, slotOf, List.size_toArray, List.length_cons, List.length_nil, Nat.reduceAdd, List.getElem?_toArray, List.getElem?_cons_zero, List.getElem?_cons_succ, Option.bind_some, Act.put, List.setIfInBounds_toArray, List.set_cons_zero, List.set_cons_succ] at hK ⊢
              go_simp
              exact hK (.pointer (some ⟨B, 0, none⟩)) _ (HI.out.put 0 _ (by decide) rfl) _ rfl
            · obtain rfl := Option.some.inj ho.symm
              have hw := hw9 (.inl hL)
              subst hw
              have cc0 : wX.drew.cell? ⟨rb, 0, none⟩ = _ := HQ7.out.1
              have cc1 : wX.drew.cell? ⟨rb, 1, none⟩ = _ := HQ7.out.2.1
              have cc2 : wX.drew.cell? ⟨rb, 2, none⟩ = _ := HQ7.out.2.2.1
              have cc3 : wX.drew.cell? ⟨rb, 3, none⟩ = _ := HQ7.out.2.2.2.1
              have cc4 : wX.drew.cell? ⟨rb, 4, none⟩ = _ := HQ7.out.2.2.2.2.1
              have cc5 : wX.drew.cell? ⟨rb, 5, none⟩ = _ := HQ7.out.2.2.2.2.2.1
              have cc6 : wX.drew.cell? ⟨rb, 6, none⟩ = _ := HQ7.out.2.2.2.2.2.2
              clear hdep ho hI hL hw9
              try simp only [fill, slotOf, List.size_toArray, List.length_cons, List.length_nil, Nat.reduceAdd, List.getElem?_toArray, List.getElem?_cons_zero, List.getElem?_cons_succ, Option.bind_some, Act.put, List.setIfInBounds_toArray, List.set_cons_zero, List.set_cons_succ] at hK ⊢
              go_simp
              exact hK (.agg #[.int .i64 10, .slice none 0 0, .int .i64 0, .int .i64 0, .int .i64 0, .slice none 0 0, .bool false]) _ (HI.out.put 1 _ (by decide) rfl) _ rfl
            · obtain rfl := Option.some.inj ho.symm
              clear hdep ho hI hL hw9
              try simp only [fill, slotOf, List.size_toArray, List.length_cons, List.length_nil, Nat.reduceAdd, List.getElem?_toArray, List.getElem?_cons_zero, List.getElem?_cons_succ, Option.bind_some, Act.put, List.setIfInBounds_toArray, List.set_cons_zero, List.set_cons_succ] at hK ⊢
              go_simp
              exact hK (.pointer (some ⟨SB, 0, none⟩)) _ (HI.out.put 2 _ (by decide) rfl) _ rfl
            · obtain rfl := Option.some.inj ho.symm
              have d2 : V 2 = .pointer (some ⟨SB, 0, none⟩) := hI.val 2 (hdep ⟨2, .data⟩ (by simp) rfl)
              clear hdep ho hI hL hw9
              try simp only [fill, slotOf, List.size_toArray, List.length_cons, List.length_nil, Nat.reduceAdd, List.getElem?_toArray, List.getElem?_cons_zero, List.getElem?_cons_succ, Option.bind_some, Act.put, List.setIfInBounds_toArray, List.set_cons_zero, List.set_cons_succ] at hK ⊢
              rw [d2] at hK ⊢
              go_simp
              exact hK (.pointer (some ⟨SB, 0, none⟩)) _ (HI.out.put 3 _ (by decide) rfl) _ rfl
            · obtain rfl := Option.some.inj ho.symm
              have d3 : V 3 = .pointer (some ⟨SB, 0, none⟩) := hI.val 3 (hdep ⟨3, .data⟩ (by simp) rfl)
              clear hdep ho hI hL hw9
              try simp only [fill, slotOf, List.size_toArray, List.length_cons, List.length_nil, Nat.reduceAdd, List.getElem?_toArray, List.getElem?_cons_zero, List.getElem?_cons_succ, Option.bind_some, Act.put, List.setIfInBounds_toArray, List.set_cons_zero, List.set_cons_succ] at hK ⊢
              rw [d3] at hK ⊢
              go_simp
              exact hK (.pointer (some ⟨SB, 4, none⟩)) _ (HI.out.put 4 _ (by decide) rfl) _ rfl
            · obtain rfl := Option.some.inj ho.symm
              have d4 : V 4 = .pointer (some ⟨SB, 4, none⟩) := hI.val 4 (hdep ⟨4, .data⟩ (by simp) rfl)
              have hw := hw9 (.inr (.inl hL))
              subst hw
              have cc : wX.drew.cell? ⟨SB, 4, none⟩ = _ := HC4.out
              clear hdep ho hI hL hw9
              try simp only [fill, slotOf, List.size_toArray, List.length_cons, List.length_nil, Nat.reduceAdd, List.getElem?_toArray, List.getElem?_cons_zero, List.getElem?_cons_succ, Option.bind_some, Act.put, List.setIfInBounds_toArray, List.set_cons_zero, List.set_cons_succ] at hK ⊢
              rw [d4] at hK ⊢
              go_simp
              exact hK (.int .i64 nw) _ (HI.out.put 5 _ (by decide) rfl) _ rfl
            · obtain rfl := Option.some.inj ho.symm
              have d0 : V 0 = .pointer (some ⟨B, 0, none⟩) := hI.val 0 (hdep ⟨0, .data⟩ (by simp) rfl)
              have d1 : V 1 = .agg #[.int .i64 10, .slice none 0 0, .int .i64 0, .int .i64 0, .int .i64 0, .slice none 0 0, .bool false] := hI.val 1 (hdep ⟨1, .data⟩ (by simp) rfl)
              have d5 : V 5 = .int .i64 nw := hI.val 5 (hdep ⟨5, .data⟩ (by simp) rfl)
              have hw := hw9 (.inr (.inr hL))
              subst hw
              have l1 := hdep ⟨1, .data⟩ (by simp) rfl
              have l5 := hdep ⟨5, .data⟩ (by simp) rfl
              clear hdep ho hI hL hw9
              try simp only [fill, slotOf, List.size_toArray, List.length_cons, List.length_nil, Nat.reduceAdd, List.getElem?_toArray, List.getElem?_cons_zero, List.getElem?_cons_succ, Option.bind_some, Act.put, List.setIfInBounds_toArray, List.set_cons_zero, List.set_cons_succ] at hK ⊢
              rw [d0, d1, d5] at hK ⊢
              go_simp
              refine HTK.out.mono ?_
              rintro e w8 ⟨⟨v, rfl⟩, hp8⟩
              exact hK v _ (HI.out.call v l1 l5 hp8) _ rfl
          · intro L V w9 hI hall
            have HP := Lib.hid (hI.aft (hall 6 (by decide))).1
            clear hall hI
            simp only [fill, slotOf, List.size_toArray, List.length_cons, List.length_nil, Nat.reduceAdd, List.getElem?_toArray, List.getElem?_cons_zero, List.getElem?_cons_succ, Option.bind_some, Act.put, List.setIfInBounds_toArray, List.set_cons_zero, List.set_cons_succ]
            go_wp2_with fail
            go_roundw
            case rel => exact ⟨s + 1, f + 1, mX, nw, by omega, by go_num, by go_num, by omega, by omega, by omega, hn0, hn4, HP, Lib.hid (fun _ => by rw [pow_step]; have := HND.out; have := (pow_in hw0 (by omega) f 7 (by omega)).1; omega)⟩
            case measure => simp [intOf]; omega
end Go.Proofs.Ytpgpgpbckjginaa
