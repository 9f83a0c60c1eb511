/- The store's make, walked: an object in the place of one that is there. -/
import Derived.Test.YtjafagfhkpaciaaStoKey
import Derived.Test.YtjafagfhkpaciaaStoRep
namespace Go.Proofs.Ytjafagfhkpaciaa
open Go.RowKit
set_option linter.unusedVariables false

def objOf (σ : Sto) (k : ByteArray) : Option ObjS := getK slit k σ.objs
def oldLen (σ : Sto) (k : ByteArray) : Nat := match objOf σ k with | some o => o.data.size | none => 0
def makeS (σ : Sto) (k d : ByteArray) : Sto := { σ with ver := σ.ver + 1, size := σ.size + ((d.size : Int) - (oldLen σ k : Int)), objs := putK slit k ⟨d, σ.ver + 1, σ.now⟩ σ.objs }
theorem field_obj (σ : Sto) (k : ByteArray) : ∃ s v b, (getK slit k σ.objs).elim objZ objC = .agg #[.string s, .int .i64 v, .int .i64 b] ∧ s.size = oldLen σ k := by
  unfold oldLen objOf
  cases getK slit k σ.objs with
  | none => exact ⟨_, _, _, rfl, rfl⟩
  | some o => exact ⟨_, _, _, rfl, rfl⟩
def ZR : Array Value := #[.int .i64 0, .slice none 0 0, .int .i64 0, .int .i64 0, .int .i64 0, .slice none 0 0, .bool false]
set_option maxRecDepth 100000 in
set_option maxHeartbeats 2000000 in
theorem make_any {w : World} {s Mo Mu : Nat} {σ : Sto} (h : StAt w s Mo Mu σ) (k d : ByteArray) (hk : k.size ≤ 1000000000000000) (hd : d.size ≤ 1000000) (hb : 0 ≤ σ.ver ∧ σ.ver ≤ 1099511627776 ∧ 0 ≤ σ.size ∧ σ.size ≤ 4194304) (ho : oldLen σ k ≤ 1000000) (hn : σ.objs.length ≤ 1000) :
    Calls Try.prog 42 #[.pointer (some ⟨s, 0, none⟩), .string k, .string d] w fun e w' => e = .returned (rep 0 (.slice none 0 0) (σ.ver + 1) σ.now 0 (.slice none 0 0) false) ∧ StAt w' s Mo Mu (makeS σ k d) ∧ Frm (StF s Mo Mu σ) w w' := by
  have w1 : IntKind.i64.wrap (σ.ver + 1) = σ.ver + 1 := IntWalk.i64_in _ (by omega)
  have c2 := cell_blk2 h.blk (i := 2) (u := .int .i64 σ.ver) rfl
  have f2 := fro_blk2 h.blk 2
  have hs := h.lts
  obtain ⟨so, sv, sb, hso, hsl⟩ := field_obj σ k
  have HSO := Lib.hid hso
  have HSL := Lib.hid hsl
  have HH := Lib.hid h
  clear hso hsl h
  go_enter Try.func42, Try.ntmps42
  go_wp2_with fail
  obtain ⟨W1, hW1⟩ : ∃ W1, W1 = (w.setCell ⟨s, 2, none⟩ (.int .i64 (σ.ver + 1))).alloc (.cells #[.int .i64 0, .slice none 0 0, .int .i64 0, .int .i64 0, .int .i64 0, .slice none 0 0, .bool false] 35) := ⟨_, rfl⟩
  rw [← hW1]
  have hF1 : Frm (fun b => b = s) w W1 := by rw [hW1]; exact ((Frm.refl (fun b => b = s) w).set (p := s) (.inl rfl) 2 _).below ((Below.refl _ _).alloc (Nat.le_refl _) _)
  have hb1 : W1.heap[s]? = some (.cells #[.map (some Mo), .map (some Mu), .int .i64 (σ.ver + 1), .int .i64 σ.id, .int .i64 σ.size, .int .i64 σ.now] 61 (0, 0)) := by
    rw [hW1]
    exact (Below.heap_alloc _ _ s (by simpa [World.setCell] using hs)).trans (heap_setCell_same w s 2 _ _ _ HH.out.blk)
  have hr1 : W1.heap[w.heap.size]? = some (.cells #[.int .i64 0, .slice none 0 0, .int .i64 0, .int .i64 0, .int .i64 0, .slice none 0 0, .bool false] 35 (0, 0)) := by
    rw [hW1]
    have := heap_new (w.setCell ⟨s, 2, none⟩ (.int .i64 (σ.ver + 1))) (.cells #[.int .i64 0, .slice none 0 0, .int .i64 0, .int .i64 0, .int .i64 0, .slice none 0 0, .bool false] 35)
    rwa [show (w.setCell ⟨s, 2, none⟩ (.int .i64 (σ.ver + 1))).heap.size = w.heap.size from by simp [World.setCell]] at this
  have ho1 : GM TO slit objC W1 Mo σ.objs := HH.out.obj.same (hF1.block Mo HH.out.obj.lt (fun e => HH.out.neS.1 e.symm))
  have c0 := cell_blk2 hb1 (i := 0) (u := .map (some Mo)) rfl
  have c4 := cell_blk2 hb1 (i := 4) (u := .int .i64 σ.size) rfl
  have f4 := fro_blk2 hb1 4
  have hl2 := lookO ho1.drew k hk
  rw [HSO.out] at hl2
  have hfl := fldO so sv sb
  have hsl := HSL.out
  have w2 : IntKind.i64.wrap ((d.size : Int) - (so.size : Int)) = (d.size : Int) - (so.size : Int) := IntWalk.i64_in _ (by omega)
  have w3 : IntKind.i64.wrap (σ.size + ((d.size : Int) - (so.size : Int))) = σ.size + ((d.size : Int) - (so.size : Int)) := IntWalk.i64_in _ (by omega)
  have HW1 := Lib.hid hW1
  have HF1 := Lib.hid hF1
  have HB1 := Lib.hid hb1
  have HR1 := Lib.hid hr1
  have HO1 := Lib.hid ho1
  clear hW1 hF1 hb1 hr1 ho1 hsl c2 f2
  go_region
  clear hl2 hfl c0 c4 f4 w2 w3
  go_wp2_with fail
  obtain ⟨W2, hW2⟩ : ∃ W2, W2 = (W1.setCell ⟨s, 4, none⟩ (.int .i64 (σ.size + ((d.size : Int) - (so.size : Int))))).drew := ⟨_, rfl⟩
  rw [← hW2]
  have hF2 : Frm (fun b => b = s) w W2 := by rw [hW2]; exact (HF1.out.set (p := s) (.inl rfl) 4 _).drew
  have hb2 : W2.heap[s]? = some (.cells #[.map (some Mo), .map (some Mu), .int .i64 (σ.ver + 1), .int .i64 σ.id, .int .i64 (σ.size + ((d.size : Int) - (so.size : Int))), .int .i64 σ.now] 61 (0, 0)) := by
    rw [hW2]
    exact heap_setCell_same W1 s 4 _ _ _ HB1.out
  have hne : s ≠ w.heap.size := by omega
  have hr2 : W2.heap[w.heap.size]? = some (.cells #[.int .i64 0, .slice none 0 0, .int .i64 0, .int .i64 0, .int .i64 0, .slice none 0 0, .bool false] 35 (0, 0)) := by
    rw [hW2]
    exact (Below.heap_setCell W1 ⟨s, 4, none⟩ _ _ (Ne.symm hne)).trans HR1.out
  have ho2 : GM TO slit objC W2 Mo σ.objs := HH.out.obj.same (hF2.block Mo HH.out.obj.lt (fun e => HH.out.neS.1 e.symm))
  obtain ⟨w3, hrun, g3, ht3⟩ := storeO ho2.drew k hk ⟨d, σ.ver + 1, σ.now⟩ (by omega)
  have hrun2 : (Instr.mapUpdate 58 (.map (some Mo)) (.string k) (.agg #[.string d, .int .i64 (σ.ver + 1), .int .i64 σ.now])).run Try.prog W2.drew = .ok () w3 := hrun
  have c0 := cell_blk2 hb2 (i := 0) (u := .map (some Mo)) rfl
  have c2 := cell_blk2 hb2 (i := 2) (u := .int .i64 (σ.ver + 1)) rfl
  have c5 := cell_blk2 hb2 (i := 5) (u := .int .i64 σ.now) rfl
  have HF2 := Lib.hid hF2
  have HB2 := Lib.hid hb2
  have HR2 := Lib.hid hr2
  have HG3 := Lib.hid g3
  have HT3 := Lib.hid ht3
  have HNE := Lib.hid hne
  clear hrun hW2 hF2 hb2 hr2 ho2 g3 ht3 hne
  go_region
  clear hrun2 c0 c2 c5
  go_wp2_with fail
  have hF3 : Frm (fun b => b = s ∨ b = Mo) w w3 := (HF2.out.imp (fun i e => Or.inl e)).drew.turned (.inl (.inr rfl)) HT3.out
  have hb3 : w3.heap[s]? = some (.cells #[.map (some Mo), .map (some Mu), .int .i64 (σ.ver + 1), .int .i64 σ.id, .int .i64 (σ.size + ((d.size : Int) - (so.size : Int))), .int .i64 σ.now] 61 (0, 0)) :=
    (HT3.out.grown.block s (Array.getElem?_eq_some_iff.1 HB2.out).1 (fun e => HH.out.neS.1 (Option.some.inj e))).trans HB2.out
  have hr3 : w3.heap[w.heap.size]? = some (.cells #[.int .i64 0, .slice none 0 0, .int .i64 0, .int .i64 0, .int .i64 0, .slice none 0 0, .bool false] 35 (0, 0)) :=
    (HT3.out.grown.block w.heap.size (Array.getElem?_eq_some_iff.1 HR2.out).1 (fun e => by have := HH.out.obj.lt; have := Option.some.inj e; omega)).trans HR2.out
  have c2 := cell_blk2 hb3 (i := 2) (u := .int .i64 (σ.ver + 1)) rfl
  have c5 := cell_blk2 hb3 (i := 5) (u := .int .i64 σ.now) rfl
  have q0 := cell_blk2 hr3 (i := 0) (u := .int .i64 0) rfl
  have q1 := cell_blk2 hr3 (i := 1) (u := .slice none 0 0) rfl
  have q2 := cell_blk2 hr3 (i := 2) (u := .int .i64 0) rfl
  have q3 := cell_blk2 hr3 (i := 3) (u := .int .i64 0) rfl
  have q4 := cell_blk2 hr3 (i := 4) (u := .int .i64 0) rfl
  have q5 := cell_blk2 hr3 (i := 5) (u := .slice none 0 0) rfl
  have q6 := cell_blk2 hr3 (i := 6) (u := .bool false) rfl
  have fr := fro_blk2 hr3
  have r0 := fr 0
  have r1 := fr 1
  have r2 := fr 2
  have r3 := fr 3
  have r4 := fr 4
  have r5 := fr 5
  have r6 := fr 6
  have HF3 := Lib.hid hF3
  have HB3 := Lib.hid hb3
  have HR3 := Lib.hid hr3
  clear fr hF3 hb3 hr3
  go_region
  clear q0 q1 q2 q3 q4 q5 q6 r0 r1 r2 r3 r4 r5 r6 c2 c5
  go_wp2_with fail
  obtain ⟨W5, hW5⟩ : ∃ W5, W5 = setR w3 w.heap.size (.int .i64 0) (.slice none 0 0) (.int .i64 (σ.ver + 1)) (.int .i64 σ.now) (.int .i64 0) (.slice none 0 0) (.bool false) := ⟨_, rfl⟩
  have hr5 : W5.heap[w.heap.size]? = some (.cells #[.int .i64 0, .slice none 0 0, .int .i64 (σ.ver + 1), .int .i64 σ.now, .int .i64 0, .slice none 0 0, .bool false] 35 (0, 0)) := by
    rw [hW5]; exact setR_at HR3.out _ _ _ _ _ _ _
  have hF5 : Frm (fun b => b = s ∨ b = Mo) w W5 := by rw [hW5]; exact HF3.out.setR (.inr (Nat.le_refl _)) _ _ _ _ _ _ _
  have hF53 : Frm (fun b => b = w.heap.size) w3 W5 := by rw [hW5]; exact (Frm.refl (fun b => b = w.heap.size) w3).setR (.inl rfl) _ _ _ _ _ _ _
  unfold setR at hW5
  rw [← hW5]
  refine bodyPost_ret (ret_rep rfl _ _ w.heap.size rfl (show W5.drew.heap[w.heap.size]? = _ from hr5)) rfl ⟨rfl, ?_, hF5.drew.imp (fun i e => e.elim (fun g => .inl g) (fun g => .inr (.inl g)))⟩
  have hs5 : W5.drew.heap[s]? = some (.cells (stC Mo Mu (makeS σ k d)) 61 (0, 0)) := by
    have h1 := (hF53.block s (Array.getElem?_eq_some_iff.1 HB3.out).1 HNE.out).trans HB3.out
    rw [HSL.out] at h1
    exact h1
  have hg5 : GM TO slit objC W5.drew Mo (makeS σ k d).objs := HG3.out.same (hF53.block Mo HG3.out.lt (fun e => by have := HH.out.obj.lt; omega))
  exact HH.out.obj' hF5.drew hs5 hg5 rfl
end Go.Proofs.Ytjafagfhkpaciaa
