/- drop, walked: an upload is gone. -/
import Derived.Test.YtjafagfhkpaciaaStoSize
import Derived.Deep.RegionWith
namespace Go.Proofs.Ytjafagfhkpaciaa
open Go.RowKit
set_option linter.unusedVariables false

def upOf (σ : Sto) (i : Int) : Option UplS := getK ilit i σ.ups
def psz (l : List (Int × ByteArray)) : Nat := totK (fun d : ByteArray => d.size) l
def dropS (σ : Sto) (i : Int) (m : Nat) : Sto := { σ with size := σ.size - (m : Int), ups := dropK ilit i σ.ups }
set_option maxRecDepth 100000 in
set_option maxHeartbeats 4000000 in
theorem drop_any {w : World} {s Mo Mu : Nat} {σ : Sto} (h : StAt w s Mo Mu σ) {i : Int} (hi : (Lit.int .i64 i).wf = true) {u : UplS} (hu : upOf σ i = some u) (hm : (i, u) ∈ σ.ups) (hw : ∀ x ∈ u.parts, (Lit.int .i64 x.1).wf = true) (hs : psz u.parts ≤ 1000000000) (hz : 0 ≤ σ.size ∧ σ.size ≤ 4194304) :
    Calls Try.prog 49 #[.pointer (some ⟨s, 0, none⟩), .int .i64 i] w fun e w' => e = .returned (.tuple #[]) ∧ StAt w' s Mo Mu (dropS σ i (psz u.parts)) ∧ Frm (StF s Mo Mu σ) w w' := by
  have HC := Lib.hid (show ∀ W, Below w.heap.size w W → W.cell? ⟨s, 4, none⟩ = some (.int .i64 σ.size) ∧ W.cell? ⟨s, 1, none⟩ = some (.map (some Mu)) ∧ W.frozen? ⟨s, 4, none⟩ = false from fun W hb => by
    have h1 := (hb.block s h.lts).trans h.blk
    exact ⟨cell_blk2 h1 rfl, cell_blk2 h1 rfl, fro_blk2 h1 4⟩)
  obtain ⟨c4, c1, f4⟩ := HC.out w (Below.refl _ _)
  have hl := lookU h.upl.drew i hi
  have hu2 : getK ilit i σ.ups = some u := hu
  rw [hu2] at hl
  have hl2 : (Instr.lookup 59 (.map (some Mu)) (.int .i64 i) false).run Try.prog w.drew = .ok (.agg #[.string u.key, .int .i64 u.born, .map (some u.pb)]) w.drew := hl
  have HCT := Lib.hid (size_any (h.prt (i, u) hm).drew hw hs u.key u.born)
  obtain ⟨m, hme⟩ : ∃ m, m = psz u.parts := ⟨_, rfl⟩
  have HM := Lib.hid hme
  have HH := Lib.hid h
  have wsub : IntKind.i64.wrap (σ.size - (m : Int)) = σ.size - (m : Int) := IntWalk.i64_in _ (by omega)
  rw [← hme]
  clear h hl hu hu2 hme hw
  go_enter Try.func49, Try.ntmps49
  go_wp2_with fail
  go_region_with (go_at_call 54; refine HCT.out.mono ?_; rintro e w9 ⟨rfl, hb9⟩; have hb8 : Below w.heap.size w w9 := ((Below.refl w.heap.size w).drew).trans hb9; have HB9 := Lib.hid hb8; obtain ⟨d4, d1, g4⟩ := HC.out w9 hb8; clear hb8; rw [show totK (fun d : ByteArray => d.size) u.parts = m from HM.out.symm]; clear hb9)
  all_goals
    clear c4 c1 f4 d4 d1 g4 hl2
    obtain ⟨W2, hW2⟩ : ∃ W2, W2 = w9.setCell ⟨s, 4, none⟩ (.int .i64 (σ.size - (m : Int))) := ⟨_, rfl⟩
    rw [← hW2]
    have hF2 : Frm (fun b => b = s) w W2 := by rw [hW2]; exact (Frm.ofBelow (F := fun b => b = s) HB9.out).set (p := s) (.inl rfl) 4 _
    have hb2 : W2.heap[s]? = some (.cells (stC Mo Mu (dropS σ i m)) 61 (0, 0)) := by
      rw [hW2]
      exact heap_setCell_same w9 s 4 _ _ _ ((HB9.out.block s HH.out.lts).trans HH.out.blk)
    have hg2 : GM TU ilit uplC W2 Mu σ.ups := HH.out.upl.same (hF2.block Mu HH.out.upl.lt (fun e => HH.out.neS.2.1 e.symm))
    have c1 := cell_blk2 hb2 (i := 1) (u := .map (some Mu)) rfl
    obtain ⟨w3, hrun, g3, ht3⟩ := dropU hg2 i hi 0
    have HF2 := Lib.hid hF2
    have HB2 := Lib.hid hb2
    have HG3 := Lib.hid g3
    have HT3 := Lib.hid ht3
    clear hW2 hF2 hb2 hg2 g3 ht3
    go_wp2_with fail
    go_end0
    have hF3 : Frm (fun b => b = s ∨ b = Mu) w w3 := (HF2.out.imp (fun i e => Or.inl e)).turned (.inl (.inr rfl)) HT3.out
    refine ⟨rfl, HH.out.ups' hF3 ?_ HG3.out rfl (fun p hp => (List.mem_filter.1 hp).1), hF3.imp (fun i e => e.elim (fun g => .inl g) (fun g => .inr (.inr (.inl g))))⟩
    exact (HT3.out.grown.block s (Array.getElem?_eq_some_iff.1 HB2.out).1 (fun e => HH.out.neS.2.1 (Option.some.inj e))).trans HB2.out
end Go.Proofs.Ytjafagfhkpaciaa
