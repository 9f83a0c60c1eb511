/- Texts put together by packtpl2.py: StoMake, StoPut, StoSh, FV, StoBld, StoCom, StoGet, StoDo2, StoInv, StoRem, StoPie. -/
import Derived.Test.YtjafagfhkpaciaaGreatPkSP1
import Derived.Test.YtjafagfhkpaciaaGreatPkSP2
import Derived.Test.YtjafagfhkpaciaaGreatPkSP3
import Derived.Shelf.Strings.Builder1
import Derived.Shelf.Small.Bits
import Derived.Shelf.Small.Wraps
import Derived.Shelf.Strconv.Itoa0
import Derived.Shelf.Sort.Plain
import Derived.Shelf.Strings.Prefix
import Derived.Shelf.Slices.SearchI
import Derived.Shelf.Slices.In.SortNone
import Derived.HandedShaped
import Derived.Shelf.Strings.BuilderX
import Derived.Deep.RegionWith
section PkSP4_0
/- The store's make, walked: an object in the place of one that is there. -/
namespace Go.Proofs.YtjafagfhkpaciaaGreat
open Go.RowKit
set_option linter.unusedVariables false

def objOf (σ : Sto) (k : ByteArray) : Option ObjS := getK slit k σ.objs
def oldLen (σ : Sto) (k : ByteArray) : Nat := match objOf σ k with | some o => o.data.size | none => 0
def makeS (σ : Sto) (k d : ByteArray) : Sto := { σ with ver := σ.ver + 1, size := σ.size + ((d.size : Int) - (oldLen σ k : Int)), objs := putK slit k ⟨d, σ.ver + 1, σ.now⟩ σ.objs }
theorem field_obj (σ : Sto) (k : ByteArray) : ∃ s v b, (getK slit k σ.objs).elim objZ objC = .agg #[.string s, .int .i64 v, .int .i64 b] ∧ s.size = oldLen σ k := by
  unfold oldLen objOf
  cases getK slit k σ.objs with
  | none => exact ⟨_, _, _, rfl, rfl⟩
  | some o => exact ⟨_, _, _, rfl, rfl⟩
def ZR : Array Value := #[.int .i64 0, .slice none 0 0, .int .i64 0, .int .i64 0, .int .i64 0, .slice none 0 0, .bool false]
set_option maxRecDepth 100000 in
set_option maxHeartbeats 2000000 in
theorem make_any {w : World} {s Mo Mu : Nat} {σ : Sto} (h : StAt w s Mo Mu σ) (k d : ByteArray) (hk : k.size ≤ 1000000000000000) (hd : d.size ≤ 1000000) (hb : 0 ≤ σ.ver ∧ σ.ver ≤ 1099511627776 ∧ 0 ≤ σ.size ∧ σ.size ≤ 4194304) (ho : oldLen σ k ≤ 1000000) (hn : σ.objs.length ≤ 1000) :
    Calls Tryz.prog 43 #[.pointer (some ⟨s, 0, none⟩), .string k, .string d] w fun e w' => e = .returned (rep 0 (.slice none 0 0) (σ.ver + 1) σ.now 0 (.slice none 0 0) false) ∧ StAt w' s Mo Mu (makeS σ k d) ∧ Frm (StF s Mo Mu σ) w w' := by
  have w1 : IntKind.i64.wrap (σ.ver + 1) = σ.ver + 1 := IntWalk.i64_in _ (by omega)
  have c2 := cell_blk2 h.blk (i := 2) (u := .int .i64 σ.ver) rfl
  have f2 := fro_blk2 h.blk 2
  have hs := h.lts
  obtain ⟨so, sv, sb, hso, hsl⟩ := field_obj σ k
  have HSO := Lib.hid hso
  have HSL := Lib.hid hsl
  have HH := Lib.hid h
  clear hso hsl h
  go_enter Tryz.func43, Tryz.ntmps43
  go_wp2_with fail
  obtain ⟨W1, hW1⟩ : ∃ W1, W1 = (w.setCell ⟨s, 2, none⟩ (.int .i64 (σ.ver + 1))).alloc (.cells #[.int .i64 0, .slice none 0 0, .int .i64 0, .int .i64 0, .int .i64 0, .slice none 0 0, .bool false] 43) := ⟨_, rfl⟩
  rw [← hW1]
  have hF1 : Frm (fun b => b = s) w W1 := by rw [hW1]; exact ((Frm.refl (fun b => b = s) w).set (p := s) (.inl rfl) 2 _).below ((Below.refl _ _).alloc (Nat.le_refl _) _)
  have hb1 : W1.heap[s]? = some (.cells #[.map (some Mo), .map (some Mu), .int .i64 (σ.ver + 1), .int .i64 σ.id, .int .i64 σ.size, .int .i64 σ.now] 51 (0, 0)) := by
    rw [hW1]
    exact (Below.heap_alloc _ _ s (by simpa [World.setCell] using hs)).trans (heap_setCell_same w s 2 _ _ _ HH.out.blk)
  have hr1 : W1.heap[w.heap.size]? = some (.cells #[.int .i64 0, .slice none 0 0, .int .i64 0, .int .i64 0, .int .i64 0, .slice none 0 0, .bool false] 43 (0, 0)) := by
    rw [hW1]
    have := heap_new (w.setCell ⟨s, 2, none⟩ (.int .i64 (σ.ver + 1))) (.cells #[.int .i64 0, .slice none 0 0, .int .i64 0, .int .i64 0, .int .i64 0, .slice none 0 0, .bool false] 43)
    rwa [show (w.setCell ⟨s, 2, none⟩ (.int .i64 (σ.ver + 1))).heap.size = w.heap.size from by simp [World.setCell]] at this
  have ho1 : GM TO slit objC W1 Mo σ.objs := HH.out.obj.same (hF1.block Mo HH.out.obj.lt (fun e => HH.out.neS.1 e.symm))
  have c0 := cell_blk2 hb1 (i := 0) (u := .map (some Mo)) rfl
  have c4 := cell_blk2 hb1 (i := 4) (u := .int .i64 σ.size) rfl
  have f4 := fro_blk2 hb1 4
  have hl2 := lookO ho1.drew k hk
  rw [HSO.out] at hl2
  have hfl := fldO so sv sb
  have hsl := HSL.out
  have w2 : IntKind.i64.wrap ((d.size : Int) - (so.size : Int)) = (d.size : Int) - (so.size : Int) := IntWalk.i64_in _ (by omega)
  have w3 : IntKind.i64.wrap (σ.size + ((d.size : Int) - (so.size : Int))) = σ.size + ((d.size : Int) - (so.size : Int)) := IntWalk.i64_in _ (by omega)
  have HW1 := Lib.hid hW1
  have HF1 := Lib.hid hF1
  have HB1 := Lib.hid hb1
  have HR1 := Lib.hid hr1
  have HO1 := Lib.hid ho1
  clear hW1 hF1 hb1 hr1 ho1 hsl c2 f2
  go_region
  clear hl2 hfl c0 c4 f4 w2 w3
  go_wp2_with fail
  obtain ⟨W2, hW2⟩ : ∃ W2, W2 = (W1.setCell ⟨s, 4, none⟩ (.int .i64 (σ.size + ((d.size : Int) - (so.size : Int))))).drew := ⟨_, rfl⟩
  rw [← hW2]
  have hF2 : Frm (fun b => b = s) w W2 := by rw [hW2]; exact (HF1.out.set (p := s) (.inl rfl) 4 _).drew
  have hb2 : W2.heap[s]? = some (.cells #[.map (some Mo), .map (some Mu), .int .i64 (σ.ver + 1), .int .i64 σ.id, .int .i64 (σ.size + ((d.size : Int) - (so.size : Int))), .int .i64 σ.now] 51 (0, 0)) := by
    rw [hW2]
    exact heap_setCell_same W1 s 4 _ _ _ HB1.out
  have hne : s ≠ w.heap.size := by omega
  have hr2 : W2.heap[w.heap.size]? = some (.cells #[.int .i64 0, .slice none 0 0, .int .i64 0, .int .i64 0, .int .i64 0, .slice none 0 0, .bool false] 43 (0, 0)) := by
    rw [hW2]
    exact (Below.heap_setCell W1 ⟨s, 4, none⟩ _ _ (Ne.symm hne)).trans HR1.out
  have ho2 : GM TO slit objC W2 Mo σ.objs := HH.out.obj.same (hF2.block Mo HH.out.obj.lt (fun e => HH.out.neS.1 e.symm))
  obtain ⟨w3, hrun, g3, ht3⟩ := storeO ho2.drew k hk ⟨d, σ.ver + 1, σ.now⟩ (by omega)
  have hrun2 : (Instr.mapUpdate 48 (.map (some Mo)) (.string k) (.agg #[.string d, .int .i64 (σ.ver + 1), .int .i64 σ.now])).run Tryz.prog W2.drew = .ok () w3 := hrun
  have c0 := cell_blk2 hb2 (i := 0) (u := .map (some Mo)) rfl
  have c2 := cell_blk2 hb2 (i := 2) (u := .int .i64 (σ.ver + 1)) rfl
  have c5 := cell_blk2 hb2 (i := 5) (u := .int .i64 σ.now) rfl
  have HF2 := Lib.hid hF2
  have HB2 := Lib.hid hb2
  have HR2 := Lib.hid hr2
  have HG3 := Lib.hid g3
  have HT3 := Lib.hid ht3
  have HNE := Lib.hid hne
  clear hrun hW2 hF2 hb2 hr2 ho2 g3 ht3 hne
  go_region
  clear hrun2 c0 c2 c5
  go_wp2_with fail
  have hF3 : Frm (fun b => b = s ∨ b = Mo) w w3 := (HF2.out.imp (fun i e => Or.inl e)).drew.turned (.inl (.inr rfl)) HT3.out
  have hb3 : w3.heap[s]? = some (.cells #[.map (some Mo), .map (some Mu), .int .i64 (σ.ver + 1), .int .i64 σ.id, .int .i64 (σ.size + ((d.size : Int) - (so.size : Int))), .int .i64 σ.now] 51 (0, 0)) :=
    (HT3.out.grown.block s (Array.getElem?_eq_some_iff.1 HB2.out).1 (fun e => HH.out.neS.1 (Option.some.inj e))).trans HB2.out
  have hr3 : w3.heap[w.heap.size]? = some (.cells #[.int .i64 0, .slice none 0 0, .int .i64 0, .int .i64 0, .int .i64 0, .slice none 0 0, .bool false] 43 (0, 0)) :=
    (HT3.out.grown.block w.heap.size (Array.getElem?_eq_some_iff.1 HR2.out).1 (fun e => by have := HH.out.obj.lt; have := Option.some.inj e; omega)).trans HR2.out
  have c2 := cell_blk2 hb3 (i := 2) (u := .int .i64 (σ.ver + 1)) rfl
  have c5 := cell_blk2 hb3 (i := 5) (u := .int .i64 σ.now) rfl
  have q0 := cell_blk2 hr3 (i := 0) (u := .int .i64 0) rfl
  have q1 := cell_blk2 hr3 (i := 1) (u := .slice none 0 0) rfl
  have q2 := cell_blk2 hr3 (i := 2) (u := .int .i64 0) rfl
  have q3 := cell_blk2 hr3 (i := 3) (u := .int .i64 0) rfl
  have q4 := cell_blk2 hr3 (i := 4) (u := .int .i64 0) rfl
  have q5 := cell_blk2 hr3 (i := 5) (u := .slice none 0 0) rfl
  have q6 := cell_blk2 hr3 (i := 6) (u := .bool false) rfl
  have fr := fro_blk2 hr3
  have r0 := fr 0
  have r1 := fr 1
  have r2 := fr 2
  have r3 := fr 3
  have r4 := fr 4
  have r5 := fr 5
  have r6 := fr 6
  have HF3 := Lib.hid hF3
  have HB3 := Lib.hid hb3
  have HR3 := Lib.hid hr3
  clear fr hF3 hb3 hr3
  go_region
  clear q0 q1 q2 q3 q4 q5 q6 r0 r1 r2 r3 r4 r5 r6 c2 c5
  go_wp2_with fail
  obtain ⟨W5, hW5⟩ : ∃ W5, W5 = setR w3 w.heap.size (.int .i64 0) (.slice none 0 0) (.int .i64 (σ.ver + 1)) (.int .i64 σ.now) (.int .i64 0) (.slice none 0 0) (.bool false) := ⟨_, rfl⟩
  have hr5 : W5.heap[w.heap.size]? = some (.cells #[.int .i64 0, .slice none 0 0, .int .i64 (σ.ver + 1), .int .i64 σ.now, .int .i64 0, .slice none 0 0, .bool false] 43 (0, 0)) := by
    rw [hW5]; exact setR_at HR3.out _ _ _ _ _ _ _
  have hF5 : Frm (fun b => b = s ∨ b = Mo) w W5 := by rw [hW5]; exact HF3.out.setR (.inr (Nat.le_refl _)) _ _ _ _ _ _ _
  have hF53 : Frm (fun b => b = w.heap.size) w3 W5 := by rw [hW5]; exact (Frm.refl (fun b => b = w.heap.size) w3).setR (.inl rfl) _ _ _ _ _ _ _
  unfold setR at hW5
  rw [← hW5]
  refine bodyPost_ret (ret_rep rfl _ _ w.heap.size rfl (show W5.drew.heap[w.heap.size]? = _ from hr5)) rfl ⟨rfl, ?_, hF5.drew.imp (fun i e => e.elim (fun g => .inl g) (fun g => .inr (.inl g)))⟩
  have hs5 : W5.drew.heap[s]? = some (.cells (stC Mo Mu (makeS σ k d)) 51 (0, 0)) := by
    have h1 := (hF53.block s (Array.getElem?_eq_some_iff.1 HB3.out).1 HNE.out).trans HB3.out
    rw [HSL.out] at h1
    exact h1
  have hg5 : GM TO slit objC W5.drew Mo (makeS σ k d).objs := HG3.out.same (hF53.block Mo HG3.out.lt (fun e => by have := HH.out.obj.lt; omega))
  exact HH.out.obj' hF5.drew hs5 hg5 rfl
end Go.Proofs.YtjafagfhkpaciaaGreat
end PkSP4_0
section PkSP4_1
/- The store's put, walked. Written by genstoput.py. -/
namespace Go.Proofs.YtjafagfhkpaciaaGreat
open Go.RowKit
set_option linter.unusedVariables false

def oldVer (σ : Sto) (k : ByteArray) : Int := match objOf σ k with | some o => o.ver | none => 0
theorem field_obj2 (σ : Sto) (k : ByteArray) : ∃ s b, (getK slit k σ.objs).elim objZ objC = .agg #[.string s, .int .i64 (oldVer σ k), .int .i64 b] ∧ s.size = oldLen σ k := by
  unfold oldLen oldVer objOf
  cases getK slit k σ.objs with
  | none => exact ⟨_, _, rfl, rfl⟩
  | some o => exact ⟨_, _, rfl, rfl⟩
/-- why a put isn't made -/
def putE (σ : Sto) (ki : Int) (ky : ByteArray) (vr : Int) (n : Nat) : Int :=
  if isKeyB ky = false then 1 else if ki = 2 ∧ vr ≠ oldVer σ ky then 8 else if 262144 < n then 5
  else if ((objOf σ ky).isNone = true ∧ 512 ≤ σ.objs.length) ∨ 4194304 < σ.size + ((n : Int) - (oldLen σ ky : Int)) then 9 else 0
def PutSays (w : World) (s Mo Mu : Nat) (σ : Sto) (er : Int) (ky d : ByteArray) (e : Ending) (w' : World) : Prop :=
  (er ≠ 0 → e = .returned (rep0 er) ∧ StAt w' s Mo Mu σ ∧ Below w.heap.size w w') ∧
  (er = 0 → e = .returned (rep 0 (.slice none 0 0) (σ.ver + 1) σ.now 0 (.slice none 0 0) false) ∧ StAt w' s Mo Mu (makeS σ ky d) ∧ Frm (StF s Mo Mu σ) w w')
theorem PutSays.no {w w' : World} {s Mo Mu : Nat} {σ : Sto} {er x : Int} {ky d : ByteArray} (h : er = x) (hx : x ≠ 0) (Z : StAt w' s Mo Mu σ ∧ Below w.heap.size w w') : PutSays w s Mo Mu σ er ky d (.returned (rep0 x)) w' := by
  subst h
  exact ⟨fun _ => ⟨rfl, Z.1, Z.2⟩, fun e => absurd e hx⟩
theorem put_end {w W2 W3 W5 : World} {s Mo Mu : Nat} {σ : Sto} {er : Int} {ky d : ByteArray} (h : er = 0) (hst : StAt W3 s Mo Mu (makeS σ ky d)) (hfr : Frm (StF s Mo Mu σ) W2 W3) (hbel : Below w.heap.size w W2) (h5 : Frm (fun b => b = w.heap.size + 1) W3 W5) (hF : ∀ b, StF s Mo Mu σ b → b < w.heap.size) :
    PutSays w s Mo Mu σ er ky d (.returned (rep 0 (.slice none 0 0) (σ.ver + 1) σ.now 0 (.slice none 0 0) false)) W5 := by
  refine ⟨fun e => absurd h e, fun _ => ⟨rfl, ?_, ?_⟩⟩
  · refine hst.same fun b hb => h5.block b (hst.lt hb) (fun e => ?_)
    have : StF s Mo Mu σ b := hb
    have := hF b this
    omega
  · exact ((Frm.ofBelow hbel).trans hfr (fun i hi => .inl hi)).trans h5 (fun i hi => .inr (by omega))
set_option maxRecDepth 100000 in
set_option maxHeartbeats 4000000 in
theorem put_any {w : World} {s Mo Mu : Nat} {σ : Sto} (h : StAt w s Mo Mu σ) {ki vr at_ nn id : Int} {ky : ByteArray} {a : Option Addr} {n c : Nat} {xs : List Nat} (hx : BytesAt w a n c xs) (hk : ky.size ≤ 1000000000000000) (hb : 0 ≤ σ.ver ∧ σ.ver ≤ 1099511627776 ∧ 0 ≤ σ.size ∧ σ.size ≤ 4194304) (ho : oldLen σ ky ≤ 262144) (hn : σ.objs.length ≤ 512) :
    Calls Tryz.prog 16 #[.pointer (some ⟨s, 0, none⟩), .agg #[.int .i64 ki, .string ky, .slice a n c, .int .i64 vr, .int .i64 at_, .int .i64 nn, .int .i64 id]] w (PutSays w s Mo Mu σ (putE σ ki ky vr n) ky (bs xs)) := by
  have HE := Lib.hid (ent_mk h #[.int .i64 ki, .string ky, .slice a n c, .int .i64 vr, .int .i64 at_, .int .i64 nn, .int .i64 id])
  have HX := Lib.hid hx
  have HL := Lib.hid h.lts
  have HF := Lib.hid (show ∀ b, StF s Mo Mu σ b → b < w.heap.size from fun b hb => h.lt hb)
  have HS := Lib.hid h
  have hcap := hx.cap
  have hcm := hx.capm
  have hreach := hx.reach
  have hbs : (bs xs).size = n := by
    have h1 : (bs xs).data.size = xs.length := by
      rw [← Array.length_toList]
      unfold bs
      rw [strOfNums_data]; simp
    rw [← hx.len]; exact h1
  have HBS := Lib.hid hbs
  clear h hx hbs
  go_enter Tryz.func16, Tryz.ntmps16
  go_wp2_with fail
  obtain ⟨W0, hW0⟩ : ∃ W0, W0 = (w.alloc (.cells #[.int .i64 ki, .string ky, .slice a n c, .int .i64 vr, .int .i64 at_, .int .i64 nn, .int .i64 id] 34)).alloc (.cells zrep 43) := ⟨_, rfl⟩
  rw [← hW0] at HE
  unfold zrep at hW0
  rw [← hW0]
  clear hW0
  have hk0 : w.heap.size < W0.heap.size := by have := HE.out.sz; omega
  have hr0 : w.heap.size + 1 < W0.heap.size := by have := HE.out.sz; omega
  have hs0 := HE.out.st.lts
  have ez0 := Lib.hid HE.out.sz
  obtain ⟨os, ob, hos, hol⟩ := field_obj2 σ ky
  obtain ⟨ov, hov⟩ : ∃ ov, ov = oldVer σ ky := ⟨_, rfl⟩
  obtain ⟨oi, hoi⟩ : ∃ oi, oi = (getK slit ky σ.objs).isSome := ⟨_, rfl⟩
  have HLA := Lib.hid (show ∀ w9, Below W0.heap.size W0 w9 → (Instr.lookup 48 (.map (some Mo)) (.string ky) true).run Tryz.prog w9 = .ok (.tuple #[.agg #[.string os, .int .i64 ov, .int .i64 ob], .bool oi]) w9 from fun w9 h9 => by
    have h8 := lookO2 (HE.out.st.obj.below h9) ky hk
    rw [hos, ← hoi, ← hov] at h8
    exact h8)
  have HOL := Lib.hid hol
  have HOI := Lib.hid hoi
  have HOV := Lib.hid hov
  clear hos hol hoi hov
  refine wp_region_inv (by kernel_rfl) (by kernel_rfl) (by kernel_rfl) (OB W0 (.cells #[.string { data := #[] }, .int .i64 0, .int .i64 0] 74) (.cells #[.string os, .int .i64 ov, .int .i64 ob] 74) (fun j_9 => match j_9 with | 0 => some (.pointer (some ⟨s, 0, none⟩)) | 1 => some (.pointer (some ⟨s, 0, none⟩)) | 2 => some (.pointer (some ⟨s, 0, none⟩)) | 3 => some (.map (some Mo)) | 4 => some (.pointer (some ⟨w.heap.size, 1, none⟩)) | 5 => some (.string ky) | 6 => some (.tuple #[.agg #[.string os, .int .i64 ov, .int .i64 ob], .bool oi]) | 7 => some (.tuple #[.agg #[.string os, .int .i64 ov, .int .i64 ob], .bool oi]) | 8 => some (.agg #[.string os, .int .i64 ov, .int .i64 ob]) | 9 => some (.bool oi) | 10 => some (.pointer (some ⟨W0.heap.size, 0, none⟩)) | 11 => none | 12 => some (.bool oi) | _ => none) 10 11) (fun V => OB.start V) ?_ ?_
  · intro j9 o ho L9 V w9 K hI hL hdep hK
    have HI9 := Lib.hid hI
    have hJ := hI.below
    simp only [fill, slotOf, List.size_toArray, List.length_cons, List.length_nil, Nat.reduceAdd, List.getElem?_toArray, List.getElem?_cons_zero, List.getElem?_cons_succ, Option.bind_some, Act.put, List.setIfInBounds_toArray, List.set_cons_zero, List.set_cons_succ] at hK ⊢
    have hin : j9 < 13 := (Array.getElem?_eq_some_iff.1 ho).1
    have hcs : j9 = 0 ∨ j9 = 1 ∨ j9 = 2 ∨ j9 = 3 ∨ j9 = 4 ∨ j9 = 5 ∨ j9 = 6 ∨ j9 = 7 ∨ j9 = 8 ∨ j9 = 9 ∨ j9 = 10 ∨ j9 = 11 ∨ j9 = 12 := by omega
    clear hin
    rcases hcs with rfl | rfl | rfl | rfl | rfl | rfl | rfl | rfl | rfl | rfl | rfl | rfl | rfl
    · obtain rfl := Option.some.inj ho.symm
      clear hdep ho hI hL hJ
      try simp only [fill, slotOf, List.size_toArray, List.length_cons, List.length_nil, Nat.reduceAdd, List.getElem?_toArray, List.getElem?_cons_zero, List.getElem?_cons_succ, Option.bind_some, Act.put, List.setIfInBounds_toArray, List.set_cons_zero, List.set_cons_succ] at hK ⊢
      go_simp
      exact hK (.pointer (some ⟨s, 0, none⟩)) _ (HI9.out.put 0 _ (by decide) (fun v h => Option.some.inj h)) _ rfl
    · obtain rfl := Option.some.inj ho.symm
      have d0 : V 0 = .pointer (some ⟨s, 0, none⟩) := hI.val 0 _ (hdep ⟨0, .data⟩ (by simp) rfl) rfl
      clear hdep ho hI hL hJ
      try simp only [fill, slotOf, List.size_toArray, List.length_cons, List.length_nil, Nat.reduceAdd, List.getElem?_toArray, List.getElem?_cons_zero, List.getElem?_cons_succ, Option.bind_some, Act.put, List.setIfInBounds_toArray, List.set_cons_zero, List.set_cons_succ] at hK ⊢
      rw [d0] at hK ⊢
      go_simp
      exact hK (.pointer (some ⟨s, 0, none⟩)) _ (HI9.out.put 1 _ (by decide) (fun v h => Option.some.inj h)) _ rfl
    · obtain rfl := Option.some.inj ho.symm
      have d1 : V 1 = .pointer (some ⟨s, 0, none⟩) := hI.val 1 _ (hdep ⟨1, .data⟩ (by simp) rfl) rfl
      clear hdep ho hI hL hJ
      try simp only [fill, slotOf, List.size_toArray, List.length_cons, List.length_nil, Nat.reduceAdd, List.getElem?_toArray, List.getElem?_cons_zero, List.getElem?_cons_succ, Option.bind_some, Act.put, List.setIfInBounds_toArray, List.set_cons_zero, List.set_cons_succ] at hK ⊢
      rw [d1] at hK ⊢
      go_simp
      exact hK (.pointer (some ⟨s, 0, none⟩)) _ (HI9.out.put 2 _ (by decide) (fun v h => Option.some.inj h)) _ rfl
    · obtain rfl := Option.some.inj ho.symm
      have d2 : V 2 = .pointer (some ⟨s, 0, none⟩) := hI.val 2 _ (hdep ⟨2, .data⟩ (by simp) rfl) rfl
      have g9 := cell_blk2 ((hJ.block s hs0).trans HE.out.st.blk) (i := 0) (u := .map (some Mo)) rfl
      clear hdep ho hI hL hJ
      try simp only [fill, slotOf, List.size_toArray, List.length_cons, List.length_nil, Nat.reduceAdd, List.getElem?_toArray, List.getElem?_cons_zero, List.getElem?_cons_succ, Option.bind_some, Act.put, List.setIfInBounds_toArray, List.set_cons_zero, List.set_cons_succ] at hK ⊢
      rw [d2] at hK ⊢
      go_simp
      exact hK (.map (some Mo)) _ (HI9.out.put 3 _ (by decide) (fun v h => Option.some.inj h)) _ rfl
    · obtain rfl := Option.some.inj ho.symm
      clear hdep ho hI hL hJ
      try simp only [fill, slotOf, List.size_toArray, List.length_cons, List.length_nil, Nat.reduceAdd, List.getElem?_toArray, List.getElem?_cons_zero, List.getElem?_cons_succ, Option.bind_some, Act.put, List.setIfInBounds_toArray, List.set_cons_zero, List.set_cons_succ] at hK ⊢
      go_simp
      exact hK (.pointer (some ⟨w.heap.size, 1, none⟩)) _ (HI9.out.put 4 _ (by decide) (fun v h => Option.some.inj h)) _ rfl
    · obtain rfl := Option.some.inj ho.symm
      have d4 : V 4 = .pointer (some ⟨w.heap.size, 1, none⟩) := hI.val 4 _ (hdep ⟨4, .data⟩ (by simp) rfl) rfl
      have g9 := cell_blk2 ((hJ.block w.heap.size hk0).trans HE.out.cb) (i := 1) (u := .string ky) rfl
      clear hdep ho hI hL hJ
      try simp only [fill, slotOf, List.size_toArray, List.length_cons, List.length_nil, Nat.reduceAdd, List.getElem?_toArray, List.getElem?_cons_zero, List.getElem?_cons_succ, Option.bind_some, Act.put, List.setIfInBounds_toArray, List.set_cons_zero, List.set_cons_succ] at hK ⊢
      rw [d4] at hK ⊢
      go_simp
      exact hK (.string ky) _ (HI9.out.put 5 _ (by decide) (fun v h => Option.some.inj h)) _ rfl
    · obtain rfl := Option.some.inj ho.symm
      have d3 : V 3 = .map (some Mo) := hI.val 3 _ (hdep ⟨3, .data⟩ (by simp) rfl) rfl
      have d5 : V 5 = .string ky := hI.val 5 _ (hdep ⟨5, .data⟩ (by simp) rfl) rfl
      have g9 := HLA.out w9 hJ
      clear hdep ho hI hL hJ
      try simp only [fill, slotOf, List.size_toArray, List.length_cons, List.length_nil, Nat.reduceAdd, List.getElem?_toArray, List.getElem?_cons_zero, List.getElem?_cons_succ, Option.bind_some, Act.put, List.setIfInBounds_toArray, List.set_cons_zero, List.set_cons_succ] at hK ⊢
      rw [d3, d5] at hK ⊢
      go_simp
      exact hK (.tuple #[.agg #[.string os, .int .i64 ov, .int .i64 ob], .bool oi]) _ (HI9.out.put 6 _ (by decide) (fun v h => Option.some.inj h)) _ rfl
    · obtain rfl := Option.some.inj ho.symm
      have d6 : V 6 = .tuple #[.agg #[.string os, .int .i64 ov, .int .i64 ob], .bool oi] := hI.val 6 _ (hdep ⟨6, .data⟩ (by simp) rfl) rfl
      clear hdep ho hI hL hJ
      try simp only [fill, slotOf, List.size_toArray, List.length_cons, List.length_nil, Nat.reduceAdd, List.getElem?_toArray, List.getElem?_cons_zero, List.getElem?_cons_succ, Option.bind_some, Act.put, List.setIfInBounds_toArray, List.set_cons_zero, List.set_cons_succ] at hK ⊢
      rw [d6] at hK ⊢
      go_simp
      exact hK (.tuple #[.agg #[.string os, .int .i64 ov, .int .i64 ob], .bool oi]) _ (HI9.out.put 7 _ (by decide) (fun v h => Option.some.inj h)) _ rfl
    · obtain rfl := Option.some.inj ho.symm
      have d7 : V 7 = .tuple #[.agg #[.string os, .int .i64 ov, .int .i64 ob], .bool oi] := hI.val 7 _ (hdep ⟨7, .data⟩ (by simp) rfl) rfl
      clear hdep ho hI hL hJ
      try simp only [fill, slotOf, List.size_toArray, List.length_cons, List.length_nil, Nat.reduceAdd, List.getElem?_toArray, List.getElem?_cons_zero, List.getElem?_cons_succ, Option.bind_some, Act.put, List.setIfInBounds_toArray, List.set_cons_zero, List.set_cons_succ] at hK ⊢
      rw [d7] at hK ⊢
      go_simp
      exact hK (.agg #[.string os, .int .i64 ov, .int .i64 ob]) _ (HI9.out.put 8 _ (by decide) (fun v h => Option.some.inj h)) _ rfl
    · obtain rfl := Option.some.inj ho.symm
      have d7 : V 7 = .tuple #[.agg #[.string os, .int .i64 ov, .int .i64 ob], .bool oi] := hI.val 7 _ (hdep ⟨7, .data⟩ (by simp) rfl) rfl
      clear hdep ho hI hL hJ
      try simp only [fill, slotOf, List.size_toArray, List.length_cons, List.length_nil, Nat.reduceAdd, List.getElem?_toArray, List.getElem?_cons_zero, List.getElem?_cons_succ, Option.bind_some, Act.put, List.setIfInBounds_toArray, List.set_cons_zero, List.set_cons_succ] at hK ⊢
      rw [d7] at hK ⊢
      go_simp
      exact hK (.bool oi) _ (HI9.out.put 9 _ (by decide) (fun v h => Option.some.inj h)) _ rfl
    · obtain rfl := Option.some.inj ho.symm
      have HL9 := Lib.hid hL
      have e9 := hI.sa hL
      clear hdep ho hI hL hJ
      subst e9
      try simp only [fill, slotOf, List.size_toArray, List.length_cons, List.length_nil, Nat.reduceAdd, List.getElem?_toArray, List.getElem?_cons_zero, List.getElem?_cons_succ, Option.bind_some, Act.put, List.setIfInBounds_toArray, List.set_cons_zero, List.set_cons_succ] at hK ⊢
      go_simp
      exact hK (.pointer (some ⟨W0.heap.size, 0, none⟩)) _ (HI9.out.puta (by decide) HL9.out _ (fun v h => Option.some.inj h)) _ rfl
    · obtain rfl := Option.some.inj ho.symm
      have d10 : V 10 = .pointer (some ⟨W0.heap.size, 0, none⟩) := hI.val 10 _ (hdep ⟨10, .data⟩ (by simp) rfl) rfl
      have d8 : V 8 = .agg #[.string os, .int .i64 ov, .int .i64 ob] := hI.val 8 _ (hdep ⟨8, .data⟩ (by simp) rfl) rfl
      have la : L9 10 = true := hdep ⟨10, .data⟩ (by simp) rfl
      have HLA := Lib.hid la
      have e9 := hI.sb la hL
      clear hdep ho hI hL hJ la
      subst e9
      try simp only [fill, slotOf, List.size_toArray, List.length_cons, List.length_nil, Nat.reduceAdd, List.getElem?_toArray, List.getElem?_cons_zero, List.getElem?_cons_succ, Option.bind_some, Act.put, List.setIfInBounds_toArray, List.set_cons_zero, List.set_cons_succ] at hK ⊢
      rw [d10, d8] at hK ⊢
      go_simp
      exact hK undef _ (HI9.out.puts HLA.out _ (fun v h => by cases h)) _ rfl
    · obtain rfl := Option.some.inj ho.symm
      have d9 : V 9 = .bool oi := hI.val 9 _ (hdep ⟨9, .data⟩ (by simp) rfl) rfl
      clear hdep ho hI hL hJ
      try simp only [fill, slotOf, List.size_toArray, List.length_cons, List.length_nil, Nat.reduceAdd, List.getElem?_toArray, List.getElem?_cons_zero, List.getElem?_cons_succ, Option.bind_some, Act.put, List.setIfInBounds_toArray, List.set_cons_zero, List.set_cons_succ] at hK ⊢
      rw [d9] at hK ⊢
      go_simp
      exact hK (.bool oi) _ (HI9.out.put 12 _ (by decide) (fun v h => Option.some.inj h)) _ rfl
  · intro L9 V w9 hI hall
    have k10 : V 10 = .pointer (some ⟨W0.heap.size, 0, none⟩) := hI.val 10 _ (hall 10 (by decide)) rfl
    have k12 : V 12 = .bool oi := hI.val 12 _ (hall 12 (by decide)) rfl
    have e9 := hI.sc (hall 11 (by decide))
    clear hI hall
    subst e9
    simp only [fill, slotOf, List.size_toArray, List.length_cons, List.length_nil, Nat.reduceAdd, List.getElem?_toArray, List.getElem?_cons_zero, List.getElem?_cons_succ, Option.bind_some, Act.put, List.setIfInBounds_toArray, List.set_cons_zero, List.set_cons_succ]
    rw [k10, k12]
    clear k10 k12
    obtain ⟨W1, hW1⟩ : ∃ W1, W1 = (W0.alloc (.cells #[.string os, .int .i64 ov, .int .i64 ob] 74)).drew := ⟨_, rfl⟩
    have M1 := Lib.hid (md_mk HE.out #[.string os, .int .i64 ov, .int .i64 ob] 74)
    rw [← hW1] at M1
    rw [← hW1]
    rw [ez0.out]
    clear hW1 HE hk0 hr0 hs0 ez0 HLA
    have k1 := cell_blk2 M1.out.cb (i := 1) (u := .string ky) rfl
    go_wp2_with fail
    refine (isKey_any _ _).mono ?_
    rintro e W2 ⟨rfl, hb2⟩
    have M2 := Lib.hid (M1.out.kept hb2)
    clear hb2 k1 M1
    cases hkb : isKeyB ky with
    | false =>
      have HE0 := Lib.hid (show putE σ ki ky vr n = 1 from by unfold putE; rw [if_pos hkb])
      clear hkb
      go_wp2_with fail
      refine (failed_any _ _).mono ?_
      rintro e W9 ⟨rfl, hb9⟩
      have M9 := Lib.hid (M2.out.kept hb9)
      clear hb9
      obtain ⟨⟨q0, q1, q2, q3, q4, q5, q6⟩, r0, r1, r2, r3, r4, r5, r6⟩ := rb_cells M9.out.rb
      unfold rep0
      go_wp2_with fail
      clear q0 q1 q2 q3 q4 q5 q6 r0 r1 r2 r3 r4 r5 r6
      obtain ⟨W5, hW5⟩ : ∃ W5, W5 = setR W9 (w.heap.size + 1) (.int .i64 1) (.slice none 0 0) (.int .i64 0) (.int .i64 0) (.int .i64 0) (.slice none 0 0) (.bool false) := ⟨_, rfl⟩
      have hr5 := setR_at0 M9.out.rb (.int .i64 1) (.slice none 0 0) (.int .i64 0) (.int .i64 0) (.int .i64 0) (.slice none 0 0) (.bool false)
      have Z := M9.out.done HL.out (fun b hb => HF.out b hb) (.int .i64 1) (.slice none 0 0) (.int .i64 0) (.int .i64 0) (.int .i64 0) (.slice none 0 0) (.bool false)
      rw [← hW5] at hr5 Z
      unfold setR at hW5
      rw [← hW5]
      refine bodyPost_ret (ret_rep rfl _ _ (w.heap.size + 1) rfl hr5) rfl ?_
      exact PutSays.no HE0.out (by decide) Z

    | true =>
      have HKB := Lib.hid hkb
      clear hkb
      have k0 := cell_blk2 M2.out.cb (i := 0) (u := .int .i64 ki) rfl
      have k3 := cell_blk2 M2.out.cb (i := 3) (u := .int .i64 vr) rfl
      have o1 := cell_blk2 M2.out.ob (i := 1) (u := .int .i64 ov) rfl
      by_cases hA : ki = 2 ∧ vr ≠ ov
      case pos =>
        obtain ⟨hk2, hne⟩ := hA
        have HE0 := Lib.hid (show putE σ ki ky vr n = 8 from by unfold putE; rw [if_neg (by rw [HKB.out]; decide), if_pos ⟨hk2, by rw [← HOV.out]; exact hne⟩])
        have z1 : (ki == 2) = true := by simpa using hk2
        have z2 : (vr == ov) = false := by simpa using hne
        have z3 : (vr != ov) = true := by simpa using hne
        clear hk2 hne
        go_wp2_with fail
        refine (failed_any _ _).mono ?_
        rintro e W9 ⟨rfl, hb9⟩
        have M9 := Lib.hid (M2.out.kept hb9)
        clear hb9
        obtain ⟨⟨q0, q1, q2, q3, q4, q5, q6⟩, r0, r1, r2, r3, r4, r5, r6⟩ := rb_cells M9.out.rb
        unfold rep0
        go_wp2_with fail
        clear q0 q1 q2 q3 q4 q5 q6 r0 r1 r2 r3 r4 r5 r6
        obtain ⟨W5, hW5⟩ : ∃ W5, W5 = setR W9 (w.heap.size + 1) (.int .i64 8) (.slice none 0 0) (.int .i64 0) (.int .i64 0) (.int .i64 0) (.slice none 0 0) (.bool false) := ⟨_, rfl⟩
        have hr5 := setR_at0 M9.out.rb (.int .i64 8) (.slice none 0 0) (.int .i64 0) (.int .i64 0) (.int .i64 0) (.slice none 0 0) (.bool false)
        have Z := M9.out.done HL.out (fun b hb => HF.out b hb) (.int .i64 8) (.slice none 0 0) (.int .i64 0) (.int .i64 0) (.int .i64 0) (.slice none 0 0) (.bool false)
        rw [← hW5] at hr5 Z
        unfold setR at hW5
        rw [← hW5]
        refine bodyPost_ret (ret_rep rfl _ _ (w.heap.size + 1) rfl hr5) rfl ?_
        exact PutSays.no HE0.out (by decide) Z

      case neg =>
        have HA := Lib.hid hA
        have hAB : (ki == 2) = false ∨ ((ki == 2) = true ∧ (vr == ov) = true ∧ (vr != ov) = false) := by
          by_cases g : ki = 2
          · right
            have g2 : vr = ov := Classical.byContradiction fun e => hA ⟨g, e⟩
            exact ⟨by simpa using g, by simpa using g2, by simp [g2]⟩
          · left; simpa using g
        clear hA
        have k2 := cell_blk2 M2.out.cb (i := 2) (u := .slice a n c) rfl
        have k1 := cell_blk2 M2.out.cb (i := 1) (u := .string ky) rfl
        by_cases hlen : 262144 < n
        case pos =>
          have zn : (262144 : Int) < (n : Int) := by omega
          have znb : decide ((262144 : Int) < (n : Int)) = true := decide_eq_true zn
          have HE0 := Lib.hid (show putE σ ki ky vr n = 5 from by unfold putE; rw [if_neg (by rw [HKB.out]; decide), if_neg (by rw [← HOV.out]; exact HA.out), if_pos hlen])
          clear hlen
          rcases hAB with z | ⟨z, z2, z3⟩
          all_goals
            go_wp2_with fail
            refine (failed_any _ _).mono ?_
            rintro e W9 ⟨rfl, hb9⟩
            have M9 := Lib.hid (M2.out.kept hb9)
            clear hb9
            obtain ⟨⟨q0, q1, q2, q3, q4, q5, q6⟩, r0, r1, r2, r3, r4, r5, r6⟩ := rb_cells M9.out.rb
            unfold rep0
            go_wp2_with fail
            clear q0 q1 q2 q3 q4 q5 q6 r0 r1 r2 r3 r4 r5 r6
            obtain ⟨W5, hW5⟩ : ∃ W5, W5 = setR W9 (w.heap.size + 1) (.int .i64 5) (.slice none 0 0) (.int .i64 0) (.int .i64 0) (.int .i64 0) (.slice none 0 0) (.bool false) := ⟨_, rfl⟩
            have hr5 := setR_at0 M9.out.rb (.int .i64 5) (.slice none 0 0) (.int .i64 0) (.int .i64 0) (.int .i64 0) (.slice none 0 0) (.bool false)
            have Z := M9.out.done HL.out (fun b hb => HF.out b hb) (.int .i64 5) (.slice none 0 0) (.int .i64 0) (.int .i64 0) (.int .i64 0) (.slice none 0 0) (.bool false)
            rw [← hW5] at hr5 Z
            unfold setR at hW5
            rw [← hW5]
            refine bodyPost_ret (ret_rep rfl _ _ (w.heap.size + 1) rfl hr5) rfl ?_
            exact PutSays.no HE0.out (by decide) Z

        case neg =>
          have zn : ¬ (262144 : Int) < (n : Int) := by omega
          have znb : decide ((262144 : Int) < (n : Int)) = false := decide_eq_false zn
          have HLN := Lib.hid hlen
          have c0 := cell_blk2 M2.out.st.blk (i := 0) (u := .map (some Mo)) rfl
          have o0 := cell_blk2 M2.out.ob (i := 0) (u := .string os) rfl
          have hmlen := fun ty => lenO M2.out.st.obj ty
          have hconv := (HX.out.kept M2.out.bel).conv
          have wsub : IntKind.i64.wrap ((n : Int) - (os.size : Int)) = (n : Int) - (os.size : Int) := IntWalk.i64_in _ (by have := HOL.out; omega)
          have c4 := Lib.hid (cell_blk2 M2.out.st.blk (i := 4) (u := .int .i64 σ.size) rfl)
          have HB4 := Lib.hid (show (0 ≤ σ.size ∧ σ.size ≤ 4194304) ∧ (-4194304 ≤ (n : Int) - (os.size : Int) ∧ (n : Int) - (os.size : Int) ≤ 4194304) from ⟨⟨hb.2.2.1, hb.2.2.2⟩, by have := HOL.out; omega⟩)
          clear hlen
          by_cases hfull : oi = false ∧ 512 ≤ σ.objs.length
          case pos =>
            obtain ⟨hof, h512⟩ := hfull
            have hnone : (objOf σ ky).isNone = true := by
              have h1 := HOI.out
              rw [hof] at h1
              unfold objOf
              cases hg : getK slit ky σ.objs with
              | none => rfl
              | some x => rw [hg] at h1; cases h1
            have HE0 := Lib.hid (show putE σ ki ky vr n = 9 from by
              unfold putE
              rw [if_neg (by rw [HKB.out]; decide), if_neg (by rw [← HOV.out]; exact HA.out), if_neg HLN.out, if_pos (.inl ⟨hnone, h512⟩)])
            clear hnone
            have y1 : (512 : Int) ≤ (σ.objs.length : Int) := by omega
            have y2 : decide ((512 : Int) ≤ (σ.objs.length : Int)) = true := decide_eq_true y1
            obtain rfl := hof
            clear h512
            rcases hAB with z | ⟨z, z2, z3⟩
            all_goals
              go_wp2_with fail
              refine (failed_any _ _).mono ?_
              rintro e W9 ⟨rfl, hb9⟩
              have M9 := Lib.hid (M2.out.kept hb9)
              clear hb9
              obtain ⟨⟨q0, q1, q2, q3, q4, q5, q6⟩, r0, r1, r2, r3, r4, r5, r6⟩ := rb_cells M9.out.rb
              unfold rep0
              go_wp2_with fail
              clear q0 q1 q2 q3 q4 q5 q6 r0 r1 r2 r3 r4 r5 r6
              obtain ⟨W5, hW5⟩ : ∃ W5, W5 = setR W9 (w.heap.size + 1) (.int .i64 9) (.slice none 0 0) (.int .i64 0) (.int .i64 0) (.int .i64 0) (.slice none 0 0) (.bool false) := ⟨_, rfl⟩
              have hr5 := setR_at0 M9.out.rb (.int .i64 9) (.slice none 0 0) (.int .i64 0) (.int .i64 0) (.int .i64 0) (.slice none 0 0) (.bool false)
              have Z := M9.out.done HL.out (fun b hb => HF.out b hb) (.int .i64 9) (.slice none 0 0) (.int .i64 0) (.int .i64 0) (.int .i64 0) (.slice none 0 0) (.bool false)
              rw [← hW5] at hr5 Z
              unfold setR at hW5
              rw [← hW5]
              refine bodyPost_ret (ret_rep rfl _ _ (w.heap.size + 1) rfl hr5) rfl ?_
              exact PutSays.no HE0.out (by decide) Z

          case neg =>
            have HFULL := Lib.hid hfull
            have hOB : oi = true ∨ (oi = false ∧ decide ((512 : Int) ≤ (σ.objs.length : Int)) = false ∧ ¬ (512 : Int) ≤ (σ.objs.length : Int)) := by
              cases oi with
              | true => exact .inl rfl
              | false => exact .inr ⟨rfl, decide_eq_false (by have : ¬ 512 ≤ σ.objs.length := fun e => hfull ⟨rfl, e⟩; omega), by have : ¬ 512 ≤ σ.objs.length := fun e => hfull ⟨rfl, e⟩; omega⟩
            clear hfull
            by_cases hroom : σ.size + ((n : Int) - (os.size : Int)) ≤ 4194304
            case neg =>
              have zr : decide (σ.size + ((n : Int) - (os.size : Int)) ≤ 4194304) = false := decide_eq_false hroom
              have HE0 := Lib.hid (show putE σ ki ky vr n = 9 from by
                unfold putE
                rw [if_neg (by rw [HKB.out]; decide), if_neg (by rw [← HOV.out]; exact HA.out), if_neg HLN.out, if_pos (.inr (by have := HOL.out; omega))])
              clear hroom
              rcases hAB with z | ⟨z, z2, z3⟩
              all_goals
                rcases hOB with rfl | ⟨rfl, y1, y2⟩
                all_goals
                  go_wp2_with (go_at_call 42; refine (holds_any c4.out HB4.out.1 HB4.out.2).mono ?_; rintro e w9 ⟨rfl, rfl⟩; rw [zr])
                  go_wp2_with fail
                  refine (failed_any _ _).mono ?_
                  rintro e W9 ⟨rfl, hb9⟩
                  have M9 := Lib.hid (M2.out.kept hb9)
                  clear hb9
                  obtain ⟨⟨q0, q1, q2, q3, q4, q5, q6⟩, r0, r1, r2, r3, r4, r5, r6⟩ := rb_cells M9.out.rb
                  unfold rep0
                  go_wp2_with fail
                  clear q0 q1 q2 q3 q4 q5 q6 r0 r1 r2 r3 r4 r5 r6
                  obtain ⟨W5, hW5⟩ : ∃ W5, W5 = setR W9 (w.heap.size + 1) (.int .i64 9) (.slice none 0 0) (.int .i64 0) (.int .i64 0) (.int .i64 0) (.slice none 0 0) (.bool false) := ⟨_, rfl⟩
                  have hr5 := setR_at0 M9.out.rb (.int .i64 9) (.slice none 0 0) (.int .i64 0) (.int .i64 0) (.int .i64 0) (.slice none 0 0) (.bool false)
                  have Z := M9.out.done HL.out (fun b hb => HF.out b hb) (.int .i64 9) (.slice none 0 0) (.int .i64 0) (.int .i64 0) (.int .i64 0) (.slice none 0 0) (.bool false)
                  rw [← hW5] at hr5 Z
                  unfold setR at hW5
                  rw [← hW5]
                  refine bodyPost_ret (ret_rep rfl _ _ (w.heap.size + 1) rfl hr5) rfl ?_
                  exact PutSays.no HE0.out (by decide) Z

            case pos =>
              have zr : decide (σ.size + ((n : Int) - (os.size : Int)) ≤ 4194304) = true := decide_eq_true hroom
              have HE0 := Lib.hid (show putE σ ki ky vr n = 0 from by
                unfold putE
                rw [if_neg (by rw [HKB.out]; decide), if_neg (by rw [← HOV.out]; exact HA.out), if_neg HLN.out, if_neg (by
                  rintro (⟨g1, g2⟩ | g)
                  · refine HFULL.out ⟨?_, g2⟩
                    rw [HOI.out]
                    unfold objOf at g1
                    cases hg : getK slit ky σ.objs with
                    | none => rfl
                    | some x => rw [hg] at g1; cases g1
                  · have := HOL.out; omega)])
              clear hroom
              rcases hAB with z | ⟨z, z2, z3⟩
              all_goals
                rcases hOB with rfl | ⟨rfl, y1, y2⟩
                all_goals
                  go_wp2_with (go_at_call 42; refine (holds_any c4.out HB4.out.1 HB4.out.2).mono ?_; rintro e w9 ⟨rfl, rfl⟩; rw [zr])
                  refine (make_any M2.out.st ky (bs xs) hk (by rw [HBS.out]; have := HLN.out; omega) ⟨hb.1, hb.2.1, hb.2.2.1, hb.2.2.2⟩ (by omega) (by omega)).mono ?_
                  rintro e W3 ⟨rfl, hst3, hfr3⟩
                  have hrb3 : W3.heap[w.heap.size + 1]? = some (.cells zrep 43 (0, 0)) := hfr3.at M2.out.rb (fun hb => by have := HF.out _ hb; omega)
                  have HST := Lib.hid hst3
                  have HFR := Lib.hid hfr3
                  have HRB := Lib.hid hrb3
                  obtain ⟨⟨q0, q1, q2, q3, q4, q5, q6⟩, r0, r1, r2, r3, r4, r5, r6⟩ := rb_cells hrb3
                  clear hst3 hfr3 hrb3
                  unfold rep
                  go_wp2_with fail
                  clear q0 q1 q2 q3 q4 q5 q6 r0 r1 r2 r3 r4 r5 r6
                  obtain ⟨W5, hW5⟩ : ∃ W5, W5 = setR W3 (w.heap.size + 1) (.int .i64 0) (.slice none 0 0) (.int .i64 (σ.ver + 1)) (.int .i64 σ.now) (.int .i64 0) (.slice none 0 0) (.bool false) := ⟨_, rfl⟩
                  have hr5 := setR_at0 HRB.out (.int .i64 0) (.slice none 0 0) (.int .i64 (σ.ver + 1)) (.int .i64 σ.now) (.int .i64 0) (.slice none 0 0) (.bool false)
                  have hF5 := (Frm.refl (fun b => b = w.heap.size + 1) W3).setR (R := w.heap.size + 1) (.inl rfl) (.int .i64 0) (.slice none 0 0) (.int .i64 (σ.ver + 1)) (.int .i64 σ.now) (.int .i64 0) (.slice none 0 0) (.bool false)
                  rw [← hW5] at hr5 hF5
                  unfold setR at hW5
                  rw [← hW5]
                  refine bodyPost_ret (ret_rep rfl _ _ (w.heap.size + 1) rfl hr5) rfl ?_
                  exact put_end HE0.out HST.out HFR.out M2.out.bel hF5 HF.out
end Go.Proofs.YtjafagfhkpaciaaGreat
end PkSP4_1
section PkSP4_2
/- Contracts of the library's functions at this program, laid in plain words. -/
namespace Go.Proofs.YtjafagfhkpaciaaGreat
open Go.Shelf
set_option linter.unusedVariables false
def sh_lays170_ren : Go.Shelf.Ren := ⟨fun | 170 => 49 | n => n, fun | 70 => 86 | 3 => 3 | 0 => 0 | 72 => 88 | 37 => 32 | 5 => 5 | n => n, fun | n => n⟩
theorem sh_lays170 : Go.Proofs.Lays.n170 Tryz.prog sh_lays170_ren := {
  mixed := by kernel_rfl
  f170 := Tryz.func49.trans (congrArg some (by kernel_rfl))
  t0 := Tryz.underlying0
  a0 := Tryz.isAgg0
  z0 := Tryz.sizeOf0
  v0 := Tryz.zeroValue0
  t3 := Tryz.underlying3
  a3 := Tryz.isAgg3
  z3 := Tryz.sizeOf3
  v3 := Tryz.zeroValue3
  t37 := Tryz.underlying32
  a37 := Tryz.isAgg32
  z37 := Tryz.sizeOf32
  v37 := Tryz.zeroValue32
  t70 := Tryz.underlying86
  a70 := Tryz.isAgg86
  z70 := Tryz.sizeOf86
  v70 := Tryz.zeroValue86
  t72 := Tryz.underlying88
  a72 := Tryz.isAgg88
  z72 := Tryz.sizeOf88
  v72 := Tryz.zeroValue88 }
open Go.RowKit in
theorem sh_Builder_Len (B b : Nat) (bs : List Value) (w : World) (h : Lib.IsBuilder 88 5 B b bs w) :
    Calls Tryz.prog 49 #[.pointer (some ⟨b, 0, none⟩)] w fun e w' => e = .returned (.int .i64 bs.length) ∧ w' = w := Any.Builder_Len sh_lays170 B b bs w h
def sh_lays169_ren : Go.Shelf.Ren := ⟨fun | 169 => 51 | n => n, fun | 70 => 86 | 9 => 9 | 0 => 0 | 72 => 88 | 37 => 32 | 127 => 107 | 3 => 3 | 5 => 5 | n => n, fun | n => n⟩
theorem sh_lays169 : Go.Proofs.Lays.n169 Tryz.prog sh_lays169_ren := {
  mixed := by kernel_rfl
  f169 := Tryz.func51.trans (congrArg some (by kernel_rfl))
  t0 := Tryz.underlying0
  a0 := Tryz.isAgg0
  z0 := Tryz.sizeOf0
  v0 := Tryz.zeroValue0
  t3 := Tryz.underlying3
  a3 := Tryz.isAgg3
  z3 := Tryz.sizeOf3
  v3 := Tryz.zeroValue3
  t9 := Tryz.underlying9
  a9 := Tryz.isAgg9
  z9 := Tryz.sizeOf9
  v9 := Tryz.zeroValue9
  t37 := Tryz.underlying32
  a37 := Tryz.isAgg32
  z37 := Tryz.sizeOf32
  v37 := Tryz.zeroValue32
  t70 := Tryz.underlying86
  a70 := Tryz.isAgg86
  z70 := Tryz.sizeOf86
  v70 := Tryz.zeroValue86
  t72 := Tryz.underlying88
  a72 := Tryz.isAgg88
  z72 := Tryz.sizeOf88
  v72 := Tryz.zeroValue88
  t127 := Tryz.underlying107
  a127 := Tryz.isAgg107
  z127 := Tryz.sizeOf107
  v127 := Tryz.zeroValue107 }
theorem sh_Builder_Extra_169 : Builder.Extra Tryz.prog sh_lays169_ren := {
  sizeBuilder := by kernel_rfl
  liesBuilder := by kernel_rfl
  t5 := Tryz.underlying5
  a5 := Tryz.isAgg5
  z5 := Tryz.sizeOf5
  v5 := Tryz.zeroValue5
  infoByte := by kernel_rfl
  cellsByte := by kernel_rfl
  sizeByte := by kernel_rfl
  neB5 := by decide }
open Go.RowKit in
theorem sh_Builder_String_any (B b : Nat) (l : List UInt8) (w : World) (h : Lib.IsBuilder 88 5 B b (Lib.byteCells l) w) (hBw : B ≤ w.heap.size) :
    Calls Tryz.prog 51 #[.pointer (some ⟨b, 0, none⟩)] w fun e w' => e = .returned (.string ⟨l.toArray⟩) ∧ Below B w w' := Any.Builder_String_any sh_lays169 sh_Builder_Extra_169 B b l w h hBw
def sh_lays99_ren : Go.Shelf.Ren := ⟨fun | 99 => 45 | 206 => 60 | n => n, fun | 9 => 9 | 4 => 4 | 3 => 3 | n => n, fun | n => n⟩
theorem sh_lays99 : Go.Proofs.Lays.n99 Tryz.prog sh_lays99_ren := {
  mixed := by kernel_rfl
  f99 := Tryz.func45.trans (congrArg some (by kernel_rfl))
  f206 := Tryz.func60.trans (congrArg some (by kernel_rfl))
  t3 := Tryz.underlying3
  a3 := Tryz.isAgg3
  z3 := Tryz.sizeOf3
  v3 := Tryz.zeroValue3
  t4 := Tryz.underlying4
  a4 := Tryz.isAgg4
  z4 := Tryz.sizeOf4
  v4 := Tryz.zeroValue4
  t9 := Tryz.underlying9
  a9 := Tryz.isAgg9
  z9 := Tryz.sizeOf9
  v9 := Tryz.zeroValue9 }
open Go.RowKit Go.Lib in
theorem sh_strings_HasPrefix (s p : ByteArray) (w : World) :
    Calls Tryz.prog 45 #[.string s, .string p] w fun e w' => e = .returned (.bool (Lib.hasPrefix s.data.toList p.data.toList)) ∧ w' = w := Any.strings_HasPrefix sh_lays99 s p w
end Go.Proofs.YtjafagfhkpaciaaGreat
end PkSP4_2
section PkSP4_3
/- Values told of by a property; a row that a call owns, where its block stands. -/
namespace Go.Proofs.YtjafagfhkpaciaaGreat
open Go.RowKit
set_option linter.unusedVariables false

/-- values that are known, or told of by a property -/
def FV (vals : Nat → Option Value) (sp : Value → World → Prop) (j : Nat) (u : Value) (w : World) : Prop := match vals j with | some v => u = v | none => sp u w
theorem FV.mono {vals : Nat → Option Value} {sp : Value → World → Prop} {w w' : World} (h : ∀ u, sp u w → sp u w') : ∀ j y, FV vals sp j y w → FV vals sp j y w' := fun j y hy => by
  unfold FV at hy ⊢
  split at hy
  · exact hy
  · exact h y hy

/-- the same, each operation with a property of its own -/
def FV2 (vals : Nat → Option Value) (sp : Nat → Value → World → Prop) (j : Nat) (u : Value) (w : World) : Prop := match vals j with | some v => u = v | none => sp j u w
theorem FV2.mono {vals : Nat → Option Value} {sp : Nat → Value → World → Prop} {w w' : World} (h : ∀ j u, sp j u w → sp j u w') : ∀ j y, FV2 vals sp j y w → FV2 vals sp j y w' := fun j y hy => by
  unfold FV2 at hy ⊢
  split at hy
  · exact hy
  · exact h j y hy
theorem own_heap {w w' : World} {base : Nat} {e : TypeId} {size : Nat} {v : Value} {n : Nat} {xs : List Value} (h : w.ownsRow base e size v n xs) (hb : ∀ g, v.ownBlock = some g → w'.heap[g]? = w.heap[g]?) : w'.ownsRow base e size v n xs := by
  refine ⟨h.1, ?_⟩
  rcases h.2 with h0 | ⟨g, cap, cur, h1, h2, h3, h4⟩
  · exact .inl h0
  · refine .inr ⟨g, cap, cur, h1, h2, ?_, h4⟩
    rw [hb g (by rw [h1]; rfl)]; exact h3
end Go.Proofs.YtjafagfhkpaciaaGreat
end PkSP4_3
section PkSP4_4
/- A text's builder: WriteString, walked at this program. -/
namespace Go.Proofs.YtjafagfhkpaciaaGreat
open Go.RowKit
set_option linter.unusedVariables false

theorem sb_size : (Tryz.prog.info? 88).map (·.size) = some 2 := by kernel_rfl
theorem sb_lies : liesAt Tryz.prog Tryz.prog.depth 88 (2 / Tryz.prog.cellsOf 88) 0 88 1 = true := by kernel_rfl
abbrev BAt (B b : Nat) (p : Value) (bs : List Value) (w : World) : Prop := Lib.BuilderAt 88 5 B b p bs w
abbrev IsB (B b : Nat) (bs : List Value) (w : World) : Prop := Lib.IsBuilder 88 5 B b bs w
set_option maxHeartbeats 1000000 in
set_option maxRecDepth 100000 in
theorem copyCheck_any (B b : Nat) (bs : List Value) (w : World) (h : IsB B b bs w) :
    Calls Tryz.prog 61 #[.pointer (some ⟨b, 0, none⟩)] w fun e w' => e = .returned (.tuple #[]) ∧ BAt B b (.pointer (some ⟨b, 0, none⟩)) bs w' ∧ Below B w w' := by
  obtain ⟨j, hj, hjs⟩ := Option.map_eq_some_iff.1 sb_size
  rcases h with h | h
  · have h0 := h.cell0
    have hf := h.frozen0
    have hsh := h.shape
    have HH := Lib.hid h
    clear h
    go_enter Tryz.func61, Tryz.ntmps61
    go_wp2_with fail
    rw [Lib.run_to_unsafe w ⟨b, 0, none⟩ Tryz.underlying86 Tryz.underlying110 hj (by rw [hjs]; decide) hsh (Nat.zero_lt_succ 1)]
    simp only [Result.andThen]
    rw [Oper.upon_value]
    go_wp2_with fail
    rw [run_callFunc_extern Tryz.func68 (by kernel_rfl) (by kernel_rfl) (by kernel_rfl) (e := Extern.AbiNoEscape.same) (by kernel_rfl), Lib.run_noEscape]
    simp only [Result.andThen]
    rw [Oper.upon_value]
    go_wp2_with fail
    rw [Lib.run_from_unsafe w ⟨b, 0, none⟩ Tryz.underlying110 Tryz.underlying86 hj hsh sb_lies]
    simp only [Result.andThen]
    rw [Oper.upon_value]
    go_wp2_with fail
    go_end0
    exact ⟨rfl, HH.out.used _, (Below.refl B w).setCell (p := ⟨b, 0, none⟩) HH.out.1 _⟩
  · have h0 := h.cell0
    have HH := Lib.hid h
    clear h
    go_enter Tryz.func61, Tryz.ntmps61
    go_wp2_with fail
    rw [Lib.run_neq_ptr_same w _ Tryz.underlying86 hj]
    go_wp2_with fail
    go_end0
    exact ⟨rfl, HH.out, Below.refl B _⟩
set_option maxHeartbeats 2000000 in
set_option maxRecDepth 100000 in
theorem writeString_any (B b : Nat) (bs : List Value) (s : ByteArray) (w : World) (h : IsB B b bs w) (hlen : bs.length + s.size ≤ 100000000000) (hBw : B ≤ w.heap.size) :
    Calls Tryz.prog 48 #[.pointer (some ⟨b, 0, none⟩), .string s] w fun e w' => e = .returned (.tuple #[.int .i64 s.size, .nilIface]) ∧ BAt B b (.pointer (some ⟨b, 0, none⟩)) (bs ++ Lib.strCells s) w' ∧ Below B w w' := by
  obtain ⟨i0, hi, hz0, hz1, hz2⟩ := info_parts info_u8
  have HC := Lib.hid (copyCheck_any B b bs w h)
  clear h
  go_enter Tryz.func48, Tryz.ntmps48
  go_wp2_with fail
  refine HC.out.mono ?_
  rintro e w1 ⟨rfl, h1, hb1⟩
  obtain ⟨hB, v, hbk, hown, hne⟩ := h1
  have c0 : w1.cell? ⟨b, 0, none⟩ = some (.pointer (some ⟨b, 0, none⟩)) := by rw [Lib.cell_of_heap hbk]; rfl
  have c1 : w1.cell? ⟨b, 1, none⟩ = some v := by rw [Lib.cell_of_heap hbk]; rfl
  have hsz := hb1.size
  have HN := Lib.hid hne
  have HB1 := Lib.hid hb1
  clear hne hb1
  go_wp2_with (at_builtin; refine Lib.wpList_append_own_string _ rfl _ _ 32 9 rfl B 5 i0 Tryz.underlying32 Tryz.underlying9 hi hz0 hz1 hz2 _ _ _ rfl hown s rfl (by unfold maxLen; omega) (by omega) (by omega) ?_)
  intro v' w2 hown' hgrow _
  have hlt : b < w1.heap.size := (Array.getElem?_eq_some_iff.1 hbk).1
  have hb2 : w2.heap[b]? = some (.cells #[.pointer (some ⟨b, 0, none⟩), v] 88 (0, 0)) := by
    rw [hgrow.block b hlt (fun e => HN.out e.symm)]
    exact hbk
  have d0 : w2.cell? ⟨b, 0, none⟩ = some (.pointer (some ⟨b, 0, none⟩)) := by rw [Lib.cell_of_heap hb2]; rfl
  have d1 : w2.cell? ⟨b, 1, none⟩ = some v := by rw [Lib.cell_of_heap hb2]; rfl
  have f1 : w2.frozen? ⟨b, 1, none⟩ = false := Lib.frozen_of_heap hb2 1
  obtain ⟨ao, n', cap, rfl⟩ : ∃ ao n' cap, v' = .slice ao n' cap := by
    rcases hown'.2 with ⟨hv, _⟩ | ⟨g, cap, cur, hv, _⟩
    · exact ⟨_, _, _, hv⟩
    · exact ⟨_, _, _, hv⟩
  have HO := Lib.hid hown
  have HO2 := Lib.hid hown'
  have HG := Lib.hid hgrow
  have HB2 := Lib.hid hb2
  clear hown hown' hgrow hb2 c0 c1
  go_wp2_with fail
  go_ret2
  refine ⟨rfl, ?_, ?_⟩
  · exact Lib.BuilderAt.put (T := 88) (e := 5) hB HB2.out (bs' := bs ++ Lib.strCells s) (by have := HO2.out; simpa [Lib.strCells_length] using this) (by decide)
  · exact (HB1.out.grown HG.out (by omega) (fun k hk => (HO.out.lt k hk).1)).setCell (p := ⟨b, 1, none⟩) hB _
/-- a builder stays where the blocks from B on stay -/
theorem IsB.keep {B b : Nat} {bs : List Value} {w w' : World} (h : IsB B b bs w) (hk : ∀ k, B ≤ k → k < w.heap.size → w'.heap[k]? = w.heap[k]?) : IsB B b bs w' := by
  rcases h with ⟨hB, v, hb, ho, hne⟩ | ⟨hB, v, hb, ho, hne⟩
  · exact .inl ⟨hB, v, (hk b hB (Array.getElem?_eq_some_iff.1 hb).1).trans hb, own_heap ho (fun g hg => hk g (ho.lt g hg).1 (ho.lt g hg).2), hne⟩
  · exact .inr ⟨hB, v, (hk b hB (Array.getElem?_eq_some_iff.1 hb).1).trans hb, own_heap ho (fun g hg => hk g (ho.lt g hg).1 (ho.lt g hg).2), hne⟩
theorem IsB.fresh {w : World} : IsB w.heap.size w.heap.size [] (w.alloc (.cells #[.pointer none, .slice none 0 0] 88)) :=
  .inl ⟨Nat.le_refl _, .slice none 0 0, (MapKept.heap_alloc w _).1, World.ownsRow_nil _ _ _ _, by simp [Value.ownBlock]⟩
end Go.Proofs.YtjafagfhkpaciaaGreat
end PkSP4_4
section PkSP4_5
/- The store's complete, walked. Written by genstocom.py. -/
namespace Go.Proofs.YtjafagfhkpaciaaGreat
open Go.RowKit
set_option linter.unusedVariables false

/-- the first k parts' bytes, one behind the other; none: one lacks -/
def catP (l : List (Int × ByteArray)) : Nat → Option (List UInt8)
  | 0 => some []
  | k + 1 => match catP l k with
    | none => none
    | some d => match getK ilit ((k + 1 : Nat) : Int) l with
      | none => none
      | some p => some (d ++ p.data.toList)
theorem catP_none {l : List (Int × ByteArray)} {k : Nat} (h : getK ilit ((k + 1 : Nat) : Int) l = none) : ∀ n, k < n → catP l n = none
  | n + 1, hn => by
    rcases Nat.lt_or_ge k n with g | g
    · rw [catP, catP_none h n g]
    · obtain rfl : k = n := by omega
      rw [catP]
      cases catP l k with
      | none => rfl
      | some d => simp only [h]
theorem catP_succ {l : List (Int × ByteArray)} {k : Nat} {d : List UInt8} {p : ByteArray} (h : catP l k = some d) (hp : getK ilit ((k + 1 : Nat) : Int) l = some p) : catP l (k + 1) = some (d ++ p.data.toList) := by
  rw [catP, h]
  simp only [hp]
theorem catP_len {l : List (Int × ByteArray)} {m : Nat} (hm : ∀ x ∈ l, x.2.size ≤ m) : ∀ {k : Nat} {d : List UInt8}, catP l k = some d → d.length ≤ k * m
  | 0, d, h => by
    have h2 : (some [] : Option (List UInt8)) = some d := h
    cases h2; simp
  | k + 1, d, h => by
    rw [catP] at h
    cases hc : catP l k with
    | none => rw [hc] at h; cases h
    | some d' =>
      rw [hc] at h
      simp only at h
      cases hg : getK ilit ((k + 1 : Nat) : Int) l with
      | none => rw [hg] at h; cases h
      | some p =>
        rw [hg] at h
        simp only [Option.some.injEq] at h
        subst h
        have h1 := catP_len hm hc
        have h2 := hm _ (get_mem ilit_inj hg)
        simp only at h2
        rw [List.length_append, Nat.succ_mul]
        have h3 : p.data.toList.length = p.size := by simp
        omega
def comE (σ : Sto) (i nn : Int) : Int :=
  match upOf σ i with
  | none => 7
  | some u => if nn < 1 ∨ nn ≠ (u.parts.length : Int) then 4 else match catP u.parts nn.toNat with
    | none => 4
    | some d => if 262144 < d.length then 5 else if (objOf σ u.key).isNone = true ∧ 512 ≤ σ.objs.length then 9 else 0
def comS (σ : Sto) (i : Int) (u : UplS) (d : List UInt8) : Sto := makeS (dropS σ i (psz u.parts)) u.key ⟨d.toArray⟩
def ComSays (w : World) (s Mo Mu : Nat) (σ : Sto) (i nn : Int) (e : Ending) (w' : World) : Prop :=
  (comE σ i nn ≠ 0 → e = .returned (rep0 (comE σ i nn)) ∧ StAt w' s Mo Mu σ ∧ Below w.heap.size w w') ∧
  (comE σ i nn = 0 → ∃ u d, upOf σ i = some u ∧ catP u.parts nn.toNat = some d ∧ e = .returned (rep 0 (.slice none 0 0) (σ.ver + 1) σ.now 0 (.slice none 0 0) false) ∧ StAt w' s Mo Mu (comS σ i u d) ∧ Frm (StF s Mo Mu σ) w w')
theorem ComSays.no {w w' : World} {s Mo Mu : Nat} {σ : Sto} {i nn x : Int} (h : comE σ i nn = x) (hx : x ≠ 0) (Z : StAt w' s Mo Mu σ ∧ Below w.heap.size w w') : ComSays w s Mo Mu σ i nn (.returned (rep0 x)) w' := by
  subst h
  exact ⟨fun _ => ⟨rfl, Z.1, Z.2⟩, fun e => absurd e hx⟩
theorem ComSays.yes {w w' : World} {s Mo Mu : Nat} {σ : Sto} {i nn : Int} {u : UplS} {d : List UInt8} (hu : upOf σ i = some u) (hd : catP u.parts nn.toNat = some d) (h : comE σ i nn = 0) (Z : StAt w' s Mo Mu (comS σ i u d) ∧ Frm (StF s Mo Mu σ) w w') : ComSays w s Mo Mu σ i nn (.returned (rep 0 (.slice none 0 0) (σ.ver + 1) σ.now 0 (.slice none 0 0) false)) w' :=
  ⟨fun e => absurd h e, fun _ => ⟨u, d, hu, hd, rfl, Z.1, Z.2⟩⟩
theorem StF.make {s Mo Mu : Nat} {σ : Sto} {k d : ByteArray} {b : Nat} (h : StF s Mo Mu (makeS σ k d) b) : StF s Mo Mu σ b := h
set_option maxRecDepth 100000 in
set_option maxHeartbeats 4000000 in
theorem complete_any {w : World} {s Mo Mu : Nat} {σ : Sto} (h : StAt w s Mo Mu σ) {ki vr at_ nn id : Int} {ky : ByteArray} {a : Option Addr} {n c : Nat} (hid : (Lit.int .i64 id).wf = true) (hok : OkU σ) (hz : 0 ≤ σ.size ∧ σ.size ≤ 4194304) (hzu : ∀ p ∈ σ.ups, (psz p.2.parts : Int) ≤ σ.size) (hks : ∀ p ∈ σ.ups, p.2.key.size ≤ 1000000000000000) (hv : 0 ≤ σ.ver ∧ σ.ver ≤ 1099511627776) (hn : σ.objs.length ≤ 512) (hol : ∀ k, oldLen σ k ≤ 262144) :
    Calls Tryz.prog 23 #[.pointer (some ⟨s, 0, none⟩), .agg #[.int .i64 ki, .string ky, .slice a n c, .int .i64 vr, .int .i64 at_, .int .i64 nn, .int .i64 id]] w (ComSays w s Mo Mu σ id nn) := by
  have HE := Lib.hid (ent_mk h #[.int .i64 ki, .string ky, .slice a n c, .int .i64 vr, .int .i64 at_, .int .i64 nn, .int .i64 id])
  have HL := Lib.hid h.lts
  have HF := Lib.hid (show ∀ b, StF s Mo Mu σ b → b < w.heap.size from fun b hb => h.lt hb)
  have HS := Lib.hid h
  have HKS := Lib.hid hks
  have HOLD := Lib.hid hol
  have HZU := Lib.hid hzu
  clear h hks hol hzu
  go_enter Tryz.func23, Tryz.ntmps23
  go_wp2_with fail
  obtain ⟨W0, hW0⟩ : ∃ W0, W0 = (w.alloc (.cells #[.int .i64 ki, .string ky, .slice a n c, .int .i64 vr, .int .i64 at_, .int .i64 nn, .int .i64 id] 34)).alloc (.cells zrep 43) := ⟨_, rfl⟩
  rw [← hW0] at HE
  unfold zrep at hW0
  rw [← hW0]
  clear hW0
  have hk0 : w.heap.size < W0.heap.size := by have := HE.out.sz; omega
  have hr0 : w.heap.size + 1 < W0.heap.size := by have := HE.out.sz; omega
  have hs0 := HE.out.st.lts
  have ez0 := Lib.hid HE.out.sz
  obtain ⟨us, ub, up, hus⟩ := field_upl σ id
  obtain ⟨oi, hoi⟩ : ∃ oi, oi = (getK ilit id σ.ups).isSome := ⟨_, rfl⟩
  have HUS := Lib.hid hus
  have HLA := Lib.hid (show ∀ w9, Below W0.heap.size W0 w9 → (Instr.lookup 49 (.map (some Mu)) (.int .i64 id) true).run Tryz.prog w9 = .ok (.tuple #[.agg #[.string us, .int .i64 ub, .map up], .bool oi]) w9 from fun w9 h9 => by
    have h8 := lookU2 (HE.out.st.upl.below h9) id hid
    rw [hus, ← hoi] at h8
    exact h8)
  have HOI := Lib.hid hoi
  clear hus hoi
  refine wp_region_inv (by kernel_rfl) (by kernel_rfl) (by kernel_rfl) (OB W0 (.cells #[.string { data := #[] }, .int .i64 0, .map none] 82) (.cells #[.string us, .int .i64 ub, .map up] 82) (fun j_9 => match j_9 with | 0 => some (.pointer (some ⟨s, 0, none⟩)) | 1 => some (.pointer (some ⟨s, 0, none⟩)) | 2 => some (.pointer (some ⟨s, 1, none⟩)) | 3 => some (.map (some Mu)) | 4 => some (.pointer (some ⟨w.heap.size, 6, none⟩)) | 5 => some (.int .i64 id) | 6 => some (.tuple #[.agg #[.string us, .int .i64 ub, .map up], .bool oi]) | 7 => some (.tuple #[.agg #[.string us, .int .i64 ub, .map up], .bool oi]) | 8 => some (.agg #[.string us, .int .i64 ub, .map up]) | 9 => some (.bool oi) | 10 => some (.pointer (some ⟨W0.heap.size, 0, none⟩)) | 11 => none | 12 => some (.bool oi) | _ => none) 10 11) (fun V => OB.start V) ?_ ?_
  · intro j9 o ho L9 V w9 K hI hL hdep hK
    have HI9 := Lib.hid hI
    have hJ := hI.below
    simp only [fill, slotOf, List.size_toArray, List.length_cons, List.length_nil, Nat.reduceAdd, List.getElem?_toArray, List.getElem?_cons_zero, List.getElem?_cons_succ, Option.bind_some, Act.put, List.setIfInBounds_toArray, List.set_cons_zero, List.set_cons_succ] at hK ⊢
    have hin : j9 < 13 := (Array.getElem?_eq_some_iff.1 ho).1
    have hcs : j9 = 0 ∨ j9 = 1 ∨ j9 = 2 ∨ j9 = 3 ∨ j9 = 4 ∨ j9 = 5 ∨ j9 = 6 ∨ j9 = 7 ∨ j9 = 8 ∨ j9 = 9 ∨ j9 = 10 ∨ j9 = 11 ∨ j9 = 12 := by omega
    clear hin
    rcases hcs with rfl | rfl | rfl | rfl | rfl | rfl | rfl | rfl | rfl | rfl | rfl | rfl | rfl
    · obtain rfl := Option.some.inj ho.symm
      clear hdep ho hI hL hJ
      try simp only [fill, slotOf, List.size_toArray, List.length_cons, List.length_nil, Nat.reduceAdd, List.getElem?_toArray, List.getElem?_cons_zero, List.getElem?_cons_succ, Option.bind_some, Act.put, List.setIfInBounds_toArray, List.set_cons_zero, List.set_cons_succ] at hK ⊢
      go_simp
      exact hK (.pointer (some ⟨s, 0, none⟩)) _ (HI9.out.put 0 _ (by decide) (fun v h => Option.some.inj h)) _ rfl
    · obtain rfl := Option.some.inj ho.symm
      have d0 : V 0 = .pointer (some ⟨s, 0, none⟩) := hI.val 0 _ (hdep ⟨0, .data⟩ (by simp) rfl) rfl
      clear hdep ho hI hL hJ
      try simp only [fill, slotOf, List.size_toArray, List.length_cons, List.length_nil, Nat.reduceAdd, List.getElem?_toArray, List.getElem?_cons_zero, List.getElem?_cons_succ, Option.bind_some, Act.put, List.setIfInBounds_toArray, List.set_cons_zero, List.set_cons_succ] at hK ⊢
      rw [d0] at hK ⊢
      go_simp
      exact hK (.pointer (some ⟨s, 0, none⟩)) _ (HI9.out.put 1 _ (by decide) (fun v h => Option.some.inj h)) _ rfl
    · obtain rfl := Option.some.inj ho.symm
      have d1 : V 1 = .pointer (some ⟨s, 0, none⟩) := hI.val 1 _ (hdep ⟨1, .data⟩ (by simp) rfl) rfl
      clear hdep ho hI hL hJ
      try simp only [fill, slotOf, List.size_toArray, List.length_cons, List.length_nil, Nat.reduceAdd, List.getElem?_toArray, List.getElem?_cons_zero, List.getElem?_cons_succ, Option.bind_some, Act.put, List.setIfInBounds_toArray, List.set_cons_zero, List.set_cons_succ] at hK ⊢
      rw [d1] at hK ⊢
      go_simp
      exact hK (.pointer (some ⟨s, 1, none⟩)) _ (HI9.out.put 2 _ (by decide) (fun v h => Option.some.inj h)) _ rfl
    · obtain rfl := Option.some.inj ho.symm
      have d2 : V 2 = .pointer (some ⟨s, 1, none⟩) := hI.val 2 _ (hdep ⟨2, .data⟩ (by simp) rfl) rfl
      have g9 := cell_blk2 ((hJ.block s hs0).trans HE.out.st.blk) (i := 1) (u := .map (some Mu)) rfl
      clear hdep ho hI hL hJ
      try simp only [fill, slotOf, List.size_toArray, List.length_cons, List.length_nil, Nat.reduceAdd, List.getElem?_toArray, List.getElem?_cons_zero, List.getElem?_cons_succ, Option.bind_some, Act.put, List.setIfInBounds_toArray, List.set_cons_zero, List.set_cons_succ] at hK ⊢
      rw [d2] at hK ⊢
      go_simp
      exact hK (.map (some Mu)) _ (HI9.out.put 3 _ (by decide) (fun v h => Option.some.inj h)) _ rfl
    · obtain rfl := Option.some.inj ho.symm
      clear hdep ho hI hL hJ
      try simp only [fill, slotOf, List.size_toArray, List.length_cons, List.length_nil, Nat.reduceAdd, List.getElem?_toArray, List.getElem?_cons_zero, List.getElem?_cons_succ, Option.bind_some, Act.put, List.setIfInBounds_toArray, List.set_cons_zero, List.set_cons_succ] at hK ⊢
      go_simp
      exact hK (.pointer (some ⟨w.heap.size, 6, none⟩)) _ (HI9.out.put 4 _ (by decide) (fun v h => Option.some.inj h)) _ rfl
    · obtain rfl := Option.some.inj ho.symm
      have d4 : V 4 = .pointer (some ⟨w.heap.size, 6, none⟩) := hI.val 4 _ (hdep ⟨4, .data⟩ (by simp) rfl) rfl
      have g9 := cell_blk2 ((hJ.block w.heap.size hk0).trans HE.out.cb) (i := 6) (u := .int .i64 id) rfl
      clear hdep ho hI hL hJ
      try simp only [fill, slotOf, List.size_toArray, List.length_cons, List.length_nil, Nat.reduceAdd, List.getElem?_toArray, List.getElem?_cons_zero, List.getElem?_cons_succ, Option.bind_some, Act.put, List.setIfInBounds_toArray, List.set_cons_zero, List.set_cons_succ] at hK ⊢
      rw [d4] at hK ⊢
      go_simp
      exact hK (.int .i64 id) _ (HI9.out.put 5 _ (by decide) (fun v h => Option.some.inj h)) _ rfl
    · obtain rfl := Option.some.inj ho.symm
      have d3 : V 3 = .map (some Mu) := hI.val 3 _ (hdep ⟨3, .data⟩ (by simp) rfl) rfl
      have d5 : V 5 = .int .i64 id := hI.val 5 _ (hdep ⟨5, .data⟩ (by simp) rfl) rfl
      have g9 := HLA.out w9 hJ
      clear hdep ho hI hL hJ
      try simp only [fill, slotOf, List.size_toArray, List.length_cons, List.length_nil, Nat.reduceAdd, List.getElem?_toArray, List.getElem?_cons_zero, List.getElem?_cons_succ, Option.bind_some, Act.put, List.setIfInBounds_toArray, List.set_cons_zero, List.set_cons_succ] at hK ⊢
      rw [d3, d5] at hK ⊢
      go_simp
      exact hK (.tuple #[.agg #[.string us, .int .i64 ub, .map up], .bool oi]) _ (HI9.out.put 6 _ (by decide) (fun v h => Option.some.inj h)) _ rfl
    · obtain rfl := Option.some.inj ho.symm
      have d6 : V 6 = .tuple #[.agg #[.string us, .int .i64 ub, .map up], .bool oi] := hI.val 6 _ (hdep ⟨6, .data⟩ (by simp) rfl) rfl
      clear hdep ho hI hL hJ
      try simp only [fill, slotOf, List.size_toArray, List.length_cons, List.length_nil, Nat.reduceAdd, List.getElem?_toArray, List.getElem?_cons_zero, List.getElem?_cons_succ, Option.bind_some, Act.put, List.setIfInBounds_toArray, List.set_cons_zero, List.set_cons_succ] at hK ⊢
      rw [d6] at hK ⊢
      go_simp
      exact hK (.tuple #[.agg #[.string us, .int .i64 ub, .map up], .bool oi]) _ (HI9.out.put 7 _ (by decide) (fun v h => Option.some.inj h)) _ rfl
    · obtain rfl := Option.some.inj ho.symm
      have d7 : V 7 = .tuple #[.agg #[.string us, .int .i64 ub, .map up], .bool oi] := hI.val 7 _ (hdep ⟨7, .data⟩ (by simp) rfl) rfl
      clear hdep ho hI hL hJ
      try simp only [fill, slotOf, List.size_toArray, List.length_cons, List.length_nil, Nat.reduceAdd, List.getElem?_toArray, List.getElem?_cons_zero, List.getElem?_cons_succ, Option.bind_some, Act.put, List.setIfInBounds_toArray, List.set_cons_zero, List.set_cons_succ] at hK ⊢
      rw [d7] at hK ⊢
      go_simp
      exact hK (.agg #[.string us, .int .i64 ub, .map up]) _ (HI9.out.put 8 _ (by decide) (fun v h => Option.some.inj h)) _ rfl
    · obtain rfl := Option.some.inj ho.symm
      have d7 : V 7 = .tuple #[.agg #[.string us, .int .i64 ub, .map up], .bool oi] := hI.val 7 _ (hdep ⟨7, .data⟩ (by simp) rfl) rfl
      clear hdep ho hI hL hJ
      try simp only [fill, slotOf, List.size_toArray, List.length_cons, List.length_nil, Nat.reduceAdd, List.getElem?_toArray, List.getElem?_cons_zero, List.getElem?_cons_succ, Option.bind_some, Act.put, List.setIfInBounds_toArray, List.set_cons_zero, List.set_cons_succ] at hK ⊢
      rw [d7] at hK ⊢
      go_simp
      exact hK (.bool oi) _ (HI9.out.put 9 _ (by decide) (fun v h => Option.some.inj h)) _ rfl
    · obtain rfl := Option.some.inj ho.symm
      have HL9 := Lib.hid hL
      have e9 := hI.sa hL
      clear hdep ho hI hL hJ
      subst e9
      try simp only [fill, slotOf, List.size_toArray, List.length_cons, List.length_nil, Nat.reduceAdd, List.getElem?_toArray, List.getElem?_cons_zero, List.getElem?_cons_succ, Option.bind_some, Act.put, List.setIfInBounds_toArray, List.set_cons_zero, List.set_cons_succ] at hK ⊢
      go_simp
      exact hK (.pointer (some ⟨W0.heap.size, 0, none⟩)) _ (HI9.out.puta (by decide) HL9.out _ (fun v h => Option.some.inj h)) _ rfl
    · obtain rfl := Option.some.inj ho.symm
      have d10 : V 10 = .pointer (some ⟨W0.heap.size, 0, none⟩) := hI.val 10 _ (hdep ⟨10, .data⟩ (by simp) rfl) rfl
      have d8 : V 8 = .agg #[.string us, .int .i64 ub, .map up] := hI.val 8 _ (hdep ⟨8, .data⟩ (by simp) rfl) rfl
      have la : L9 10 = true := hdep ⟨10, .data⟩ (by simp) rfl
      have HLA := Lib.hid la
      have e9 := hI.sb la hL
      clear hdep ho hI hL hJ la
      subst e9
      try simp only [fill, slotOf, List.size_toArray, List.length_cons, List.length_nil, Nat.reduceAdd, List.getElem?_toArray, List.getElem?_cons_zero, List.getElem?_cons_succ, Option.bind_some, Act.put, List.setIfInBounds_toArray, List.set_cons_zero, List.set_cons_succ] at hK ⊢
      rw [d10, d8] at hK ⊢
      go_simp
      exact hK undef _ (HI9.out.puts HLA.out _ (fun v h => by cases h)) _ rfl
    · obtain rfl := Option.some.inj ho.symm
      have d9 : V 9 = .bool oi := hI.val 9 _ (hdep ⟨9, .data⟩ (by simp) rfl) rfl
      clear hdep ho hI hL hJ
      try simp only [fill, slotOf, List.size_toArray, List.length_cons, List.length_nil, Nat.reduceAdd, List.getElem?_toArray, List.getElem?_cons_zero, List.getElem?_cons_succ, Option.bind_some, Act.put, List.setIfInBounds_toArray, List.set_cons_zero, List.set_cons_succ] at hK ⊢
      rw [d9] at hK ⊢
      go_simp
      exact hK (.bool oi) _ (HI9.out.put 12 _ (by decide) (fun v h => Option.some.inj h)) _ rfl
  · intro L9 V w9 hI hall
    have k10 : V 10 = .pointer (some ⟨W0.heap.size, 0, none⟩) := hI.val 10 _ (hall 10 (by decide)) rfl
    have k12 : V 12 = .bool oi := hI.val 12 _ (hall 12 (by decide)) rfl
    have e9 := hI.sc (hall 11 (by decide))
    clear hI hall
    subst e9
    simp only [fill, slotOf, List.size_toArray, List.length_cons, List.length_nil, Nat.reduceAdd, List.getElem?_toArray, List.getElem?_cons_zero, List.getElem?_cons_succ, Option.bind_some, Act.put, List.setIfInBounds_toArray, List.set_cons_zero, List.set_cons_succ]
    rw [k10, k12]
    clear k10 k12
    obtain ⟨W1, hW1⟩ : ∃ W1, W1 = (W0.alloc (.cells #[.string us, .int .i64 ub, .map up] 82)).drew := ⟨_, rfl⟩
    have M1 := Lib.hid (md_mk HE.out #[.string us, .int .i64 ub, .map up] 82)
    rw [← hW1] at M1
    rw [← hW1]
    rw [ez0.out]
    clear hW1 HE hk0 hr0 hs0 ez0 HLA
    cases oi with
    | false =>
      have HE0 := Lib.hid (show comE σ id nn = 7 from by
        have h1 := HOI.out
        unfold comE upOf
        cases hg : getK ilit id σ.ups with
        | none => rfl
        | some x => rw [hg] at h1; cases h1)
      go_wp2_with fail
      refine (failed_any _ _).mono ?_
      rintro e W9 ⟨rfl, hb9⟩
      have M9 := Lib.hid (M1.out.kept hb9)
      clear hb9
      obtain ⟨⟨q0, q1, q2, q3, q4, q5, q6⟩, r0, r1, r2, r3, r4, r5, r6⟩ := rb_cells M9.out.rb
      unfold rep0
      go_wp2_with fail
      clear q0 q1 q2 q3 q4 q5 q6 r0 r1 r2 r3 r4 r5 r6
      obtain ⟨W5, hW5⟩ : ∃ W5, W5 = setR W9 (w.heap.size + 1) (.int .i64 7) (.slice none 0 0) (.int .i64 0) (.int .i64 0) (.int .i64 0) (.slice none 0 0) (.bool false) := ⟨_, rfl⟩
      have hr5 := setR_at0 M9.out.rb (.int .i64 7) (.slice none 0 0) (.int .i64 0) (.int .i64 0) (.int .i64 0) (.slice none 0 0) (.bool false)
      have Z := M9.out.done HL.out (fun b hb => HF.out b hb) (.int .i64 7) (.slice none 0 0) (.int .i64 0) (.int .i64 0) (.int .i64 0) (.slice none 0 0) (.bool false)
      rw [← hW5] at hr5 Z
      unfold setR at hW5
      rw [← hW5]
      refine bodyPost_ret (ret_rep rfl _ _ (w.heap.size + 1) rfl hr5) rfl ?_
      exact ComSays.no HE0.out (by decide) Z

    | true =>
      obtain ⟨u, hu⟩ : ∃ u, upOf σ id = some u := by
        have h1 := HOI.out
        unfold upOf
        cases hg : getK ilit id σ.ups with
        | none => rw [hg] at h1; cases h1
        | some x => exact ⟨x, rfl⟩
      have hm := get_mem ilit_inj hu
      obtain ⟨rfl, rfl, rfl⟩ := upl_eq HUS.out hu
      have HU := Lib.hid hu
      have HM := Lib.hid hm
      have HPN := Lib.hid (hok.num _ hm)
      have HPM := Lib.hid (show ∀ x ∈ u.parts, x.2.size ≤ 4194304 from fun x hx => Nat.le_trans (tot_mem (fun d : ByteArray => d.size) hx) (hok.siz _ hm))
      clear hu hm HUS
      have k5 := cell_blk2 M1.out.cb (i := 5) (u := .int .i64 nn) rfl
      have o2 := cell_blk2 M1.out.ob (i := 2) (u := .map (some u.pb)) rfl
      have hgp := M1.out.st.prt _ HM.out
      have hmlen := fun ty => lenP hgp ty
      clear hgp
      by_cases hN : nn < 1 ∨ nn ≠ (u.parts.length : Int)
      case pos =>
        have HE0 := Lib.hid (show comE σ id nn = 4 from by unfold comE; rw [HU.out]; simp only; rw [if_pos hN])
        have hN2 : (decide (nn < 1) = true ∧ nn < 1) ∨ (decide (nn < 1) = false ∧ ¬ nn < 1 ∧ (nn == (u.parts.length : Int)) = false ∧ (nn != (u.parts.length : Int)) = true) := by
          rcases hN with g | g
          · exact .inl ⟨decide_eq_true g, g⟩
          · rcases Int.lt_or_le nn 1 with g2 | g2
            · exact .inl ⟨decide_eq_true g2, g2⟩
            · exact .inr ⟨decide_eq_false (by omega), by omega, by simpa using g, by simpa using g⟩
        clear hN
        rcases hN2 with ⟨g1, g2⟩ | ⟨g1, g2, g3, g4⟩
        all_goals
          go_wp2_with fail
          refine (failed_any _ _).mono ?_
          rintro e W9 ⟨rfl, hb9⟩
          have M9 := Lib.hid (M1.out.kept hb9)
          clear hb9
          obtain ⟨⟨q0, q1, q2, q3, q4, q5, q6⟩, r0, r1, r2, r3, r4, r5, r6⟩ := rb_cells M9.out.rb
          unfold rep0
          go_wp2_with fail
          clear q0 q1 q2 q3 q4 q5 q6 r0 r1 r2 r3 r4 r5 r6
          obtain ⟨W5, hW5⟩ : ∃ W5, W5 = setR W9 (w.heap.size + 1) (.int .i64 4) (.slice none 0 0) (.int .i64 0) (.int .i64 0) (.int .i64 0) (.slice none 0 0) (.bool false) := ⟨_, rfl⟩
          have hr5 := setR_at0 M9.out.rb (.int .i64 4) (.slice none 0 0) (.int .i64 0) (.int .i64 0) (.int .i64 0) (.slice none 0 0) (.bool false)
          have Z := M9.out.done HL.out (fun b hb => HF.out b hb) (.int .i64 4) (.slice none 0 0) (.int .i64 0) (.int .i64 0) (.int .i64 0) (.slice none 0 0) (.bool false)
          rw [← hW5] at hr5 Z
          unfold setR at hW5
          rw [← hW5]
          refine bodyPost_ret (ret_rep rfl _ _ (w.heap.size + 1) rfl hr5) rfl ?_
          exact ComSays.no HE0.out (by decide) Z

      case neg =>
        have HN := Lib.hid hN
        have hnn : nn = (u.parts.length : Int) ∧ 1 ≤ nn := by omega
        obtain ⟨N, hNe⟩ : ∃ N : Nat, N = u.parts.length := ⟨_, rfl⟩
        obtain ⟨hnn1, hnn2⟩ := hnn
        rw [← hNe] at hnn1
        subst hnn1
        have HNE := Lib.hid hNe
        have HK0 := Lib.hid (show (N : Int).toNat = N from by omega)
        have g1 : decide ((N : Int) < 1) = false := decide_eq_false (by omega)
        have g2 : ¬ (N : Int) < 1 := by omega
        have g3 : ((N : Int) == (u.parts.length : Int)) = true := by rw [← hNe]; simp
        have g4 : ((N : Int) != (u.parts.length : Int)) = false := by rw [← hNe]; simp
        have hN32 : N ≤ 32 := by rw [hNe]; exact HPN.out
        clear hN hNe hnn2
        obtain ⟨bd, hbd⟩ : ∃ bd, bd = W1.heap.size := ⟨_, rfl⟩
        have HBQ := Lib.hid hbd
        have HBS := Lib.hid (show bd ≤ W1.heap.size by omega)
        have HBD := Lib.hid (show w.heap.size + 2 < bd by rw [hbd]; exact (Array.getElem?_eq_some_iff.1 M1.out.ob).1)
        have hIs : IsB bd bd (Lib.byteCells []) (W1.alloc (.cells #[.pointer none, .slice none 0 0] 88)) := by rw [hbd]; exact IsB.fresh
        have HIS := Lib.hid hIs
        have HBW0 := Lib.hid (show Below W1.heap.size W1 (W1.alloc (.cells #[.pointer none, .slice none 0 0] 88)) from (Below.refl _ _).alloc (Nat.le_refl _) _)
        clear hIs
        have lc : w.heap.size < W1.heap.size := (Array.getElem?_eq_some_iff.1 M1.out.cb).1
        go_wp2_with fail
        rw [← hbd]
        clear lc hbd k5 o2 hmlen g1 g2 g3 g4
        go_loopw [8, 9, 10, 40] (fun s8 s9 s10 s40 wr => ∃ (k : Nat) (dd : List UInt8), k ≤ N ∧ s40 = .int .i64 (k : Int) ∧ Hid (catP u.parts k = some dd) ∧ Hid (IsB bd bd (Lib.byteCells dd) wr) ∧ Hid (Below W1.heap.size W1 wr)) (fun _ _ _ s40 _ => N - (intOf s40).toNat)
        case atStart => exact ⟨0, [], by omega, rfl, Lib.hid rfl, HIS, HBW0⟩
        case round =>
          obtain ⟨k, dd, hkN, rfl, HC, HI, HBW⟩ := hrel
          have M9 := Lib.hid (M1.out.kept HBW.out)
          by_cases hkn : k < N
          case neg =>
            obtain rfl : N = k := by omega
            have HD := Lib.hid (catP_len (m := 4194304) HPM.out HC.out)
            have hdl : dd.length ≤ 200000000 := by have := HD.out; have := HPN.out; omega
            have zk : ¬ (N : Int) < (N : Int) := by omega
            have hcl : (Lib.byteCells dd).length = dd.length := Lib.byteCells_length dd
            have HCL := Lib.hid hcl
            clear hcl
            go_wp2_with fail
            refine (sh_Builder_Len bd bd (Lib.byteCells dd) wr HI.out).mono ?_
            rintro e w9 ⟨rfl, hw9⟩
            obtain rfl : wr = w9 := hw9.symm
            rw [HCL.out]
            by_cases h5 : 262144 < dd.length
            case pos =>
              have zn : (262144 : Int) < (dd.length : Int) := by omega
              have znb : decide ((262144 : Int) < (dd.length : Int)) = true := decide_eq_true zn
              have HE0 := Lib.hid (show comE σ id (N : Int) = 5 from by unfold comE; rw [HU.out]; simp only; rw [if_neg HN.out, HK0.out, HC.out]; simp only; rw [if_pos h5])
              clear h5
              go_wp2_with fail
              refine (failed_any _ _).mono ?_
              rintro e W9 ⟨rfl, hb9⟩
              have M9 := Lib.hid (M9.out.kept hb9)
              clear hb9
              obtain ⟨⟨q0, q1, q2, q3, q4, q5, q6⟩, r0, r1, r2, r3, r4, r5, r6⟩ := rb_cells M9.out.rb
              unfold rep0
              go_wp2_with fail
              clear q0 q1 q2 q3 q4 q5 q6 r0 r1 r2 r3 r4 r5 r6
              obtain ⟨W5, hW5⟩ : ∃ W5, W5 = setR W9 (w.heap.size + 1) (.int .i64 5) (.slice none 0 0) (.int .i64 0) (.int .i64 0) (.int .i64 0) (.slice none 0 0) (.bool false) := ⟨_, rfl⟩
              have hr5 := setR_at0 M9.out.rb (.int .i64 5) (.slice none 0 0) (.int .i64 0) (.int .i64 0) (.int .i64 0) (.slice none 0 0) (.bool false)
              have Z := M9.out.done HL.out (fun b hb => HF.out b hb) (.int .i64 5) (.slice none 0 0) (.int .i64 0) (.int .i64 0) (.int .i64 0) (.slice none 0 0) (.bool false)
              rw [← hW5] at hr5 Z
              unfold setR at hW5
              rw [← hW5]
              refine bodyPost_ret (ret_rep rfl _ _ (w.heap.size + 1) rfl hr5) rfl ?_
              exact ComSays.no HE0.out (by decide) Z

            case neg =>
              have zn : ¬ (262144 : Int) < (dd.length : Int) := by omega
              have znb : decide ((262144 : Int) < (dd.length : Int)) = false := decide_eq_false zn
              have HD5 := Lib.hid h5
              obtain ⟨os, ob, hos, hol⟩ := field_obj2 σ u.key
              obtain ⟨ov, hov⟩ : ∃ ov, ov = oldVer σ u.key := ⟨_, rfl⟩
              obtain ⟨oj, hoj⟩ : ∃ oj, oj = (getK slit u.key σ.objs).isSome := ⟨_, rfl⟩
              have HLB := Lib.hid (show ∀ w9, Below wr.heap.size wr w9 → (Instr.lookup 48 (.map (some Mo)) (.string u.key) true).run Tryz.prog w9 = .ok (.tuple #[.agg #[.string os, .int .i64 ov, .int .i64 ob], .bool oj]) w9 from fun w9 h9 => by
                have h8 := lookO2 (M9.out.st.obj.below h9) u.key (HKS.out _ HM.out)
                rw [hos, ← hoj, ← hov] at h8
                exact h8)
              have HOJ := Lib.hid hoj
              clear hos hol hoj hov h5
              go_wp2_with fail
              have hs9 : s < wr.heap.size := M9.out.st.lts
              have ho9 : w.heap.size + 2 < wr.heap.size := (Array.getElem?_eq_some_iff.1 M9.out.ob).1
              refine wp_region_inv (by kernel_rfl) (by kernel_rfl) (by kernel_rfl) (OB wr (.cells #[.string { data := #[] }, .int .i64 0, .int .i64 0] 74) (.cells #[.string os, .int .i64 ov, .int .i64 ob] 74) (fun j_9 => match j_9 with | 0 => some (.pointer (some ⟨s, 0, none⟩)) | 1 => some (.pointer (some ⟨s, 0, none⟩)) | 2 => some (.pointer (some ⟨s, 0, none⟩)) | 3 => some (.map (some Mo)) | 4 => some (.pointer (some ⟨w.heap.size + 2, 0, none⟩)) | 5 => some (.string u.key) | 6 => some (.tuple #[.agg #[.string os, .int .i64 ov, .int .i64 ob], .bool oj]) | 7 => some (.tuple #[.agg #[.string os, .int .i64 ov, .int .i64 ob], .bool oj]) | 8 => some (.agg #[.string os, .int .i64 ov, .int .i64 ob]) | 9 => some (.bool oj) | 10 => some (.pointer (some ⟨wr.heap.size, 0, none⟩)) | 11 => none | 12 => some (.bool oj) | _ => none) 10 11) (fun V => OB.start V) ?_ ?_
              · intro j9 o ho L9 V w9 K hI hL hdep hK
                have HI9 := Lib.hid hI
                have hJ := hI.below
                simp only [fill, slotOf, List.size_toArray, List.length_cons, List.length_nil, Nat.reduceAdd, List.getElem?_toArray, List.getElem?_cons_zero, List.getElem?_cons_succ, Option.bind_some, Act.put, List.setIfInBounds_toArray, List.set_cons_zero, List.set_cons_succ] at hK ⊢
                have hin : j9 < 13 := (Array.getElem?_eq_some_iff.1 ho).1
                have hcs : j9 = 0 ∨ j9 = 1 ∨ j9 = 2 ∨ j9 = 3 ∨ j9 = 4 ∨ j9 = 5 ∨ j9 = 6 ∨ j9 = 7 ∨ j9 = 8 ∨ j9 = 9 ∨ j9 = 10 ∨ j9 = 11 ∨ j9 = 12 := by omega
                clear hin
                rcases hcs with rfl | rfl | rfl | rfl | rfl | rfl | rfl | rfl | rfl | rfl | rfl | rfl | rfl
                · obtain rfl := Option.some.inj ho.symm
                  clear hdep ho hI hL hJ
                  try simp only [fill, slotOf, List.size_toArray, List.length_cons, List.length_nil, Nat.reduceAdd, List.getElem?_toArray, List.getElem?_cons_zero, List.getElem?_cons_succ, Option.bind_some, Act.put, List.setIfInBounds_toArray, List.set_cons_zero, List.set_cons_succ] at hK ⊢
                  go_simp
                  exact hK (.pointer (some ⟨s, 0, none⟩)) _ (HI9.out.put 0 _ (by decide) (fun v h => Option.some.inj h)) _ rfl
                · obtain rfl := Option.some.inj ho.symm
                  have d0 : V 0 = .pointer (some ⟨s, 0, none⟩) := hI.val 0 _ (hdep ⟨0, .data⟩ (by simp) rfl) rfl
                  clear hdep ho hI hL hJ
                  try simp only [fill, slotOf, List.size_toArray, List.length_cons, List.length_nil, Nat.reduceAdd, List.getElem?_toArray, List.getElem?_cons_zero, List.getElem?_cons_succ, Option.bind_some, Act.put, List.setIfInBounds_toArray, List.set_cons_zero, List.set_cons_succ] at hK ⊢
                  rw [d0] at hK ⊢
                  go_simp
                  exact hK (.pointer (some ⟨s, 0, none⟩)) _ (HI9.out.put 1 _ (by decide) (fun v h => Option.some.inj h)) _ rfl
                · obtain rfl := Option.some.inj ho.symm
                  have d1 : V 1 = .pointer (some ⟨s, 0, none⟩) := hI.val 1 _ (hdep ⟨1, .data⟩ (by simp) rfl) rfl
                  clear hdep ho hI hL hJ
                  try simp only [fill, slotOf, List.size_toArray, List.length_cons, List.length_nil, Nat.reduceAdd, List.getElem?_toArray, List.getElem?_cons_zero, List.getElem?_cons_succ, Option.bind_some, Act.put, List.setIfInBounds_toArray, List.set_cons_zero, List.set_cons_succ] at hK ⊢
                  rw [d1] at hK ⊢
                  go_simp
                  exact hK (.pointer (some ⟨s, 0, none⟩)) _ (HI9.out.put 2 _ (by decide) (fun v h => Option.some.inj h)) _ rfl
                · obtain rfl := Option.some.inj ho.symm
                  have d2 : V 2 = .pointer (some ⟨s, 0, none⟩) := hI.val 2 _ (hdep ⟨2, .data⟩ (by simp) rfl) rfl
                  have g9 := cell_blk2 ((hJ.block s hs9).trans M9.out.st.blk) (i := 0) (u := .map (some Mo)) rfl
                  clear hdep ho hI hL hJ
                  try simp only [fill, slotOf, List.size_toArray, List.length_cons, List.length_nil, Nat.reduceAdd, List.getElem?_toArray, List.getElem?_cons_zero, List.getElem?_cons_succ, Option.bind_some, Act.put, List.setIfInBounds_toArray, List.set_cons_zero, List.set_cons_succ] at hK ⊢
                  rw [d2] at hK ⊢
                  go_simp
                  exact hK (.map (some Mo)) _ (HI9.out.put 3 _ (by decide) (fun v h => Option.some.inj h)) _ rfl
                · obtain rfl := Option.some.inj ho.symm
                  clear hdep ho hI hL hJ
                  try simp only [fill, slotOf, List.size_toArray, List.length_cons, List.length_nil, Nat.reduceAdd, List.getElem?_toArray, List.getElem?_cons_zero, List.getElem?_cons_succ, Option.bind_some, Act.put, List.setIfInBounds_toArray, List.set_cons_zero, List.set_cons_succ] at hK ⊢
                  go_simp
                  exact hK (.pointer (some ⟨w.heap.size + 2, 0, none⟩)) _ (HI9.out.put 4 _ (by decide) (fun v h => Option.some.inj h)) _ rfl
                · obtain rfl := Option.some.inj ho.symm
                  have d4 : V 4 = .pointer (some ⟨w.heap.size + 2, 0, none⟩) := hI.val 4 _ (hdep ⟨4, .data⟩ (by simp) rfl) rfl
                  have g9 := cell_blk2 ((hJ.block (w.heap.size + 2) ho9).trans M9.out.ob) (i := 0) (u := .string u.key) rfl
                  clear hdep ho hI hL hJ
                  try simp only [fill, slotOf, List.size_toArray, List.length_cons, List.length_nil, Nat.reduceAdd, List.getElem?_toArray, List.getElem?_cons_zero, List.getElem?_cons_succ, Option.bind_some, Act.put, List.setIfInBounds_toArray, List.set_cons_zero, List.set_cons_succ] at hK ⊢
                  rw [d4] at hK ⊢
                  go_simp
                  exact hK (.string u.key) _ (HI9.out.put 5 _ (by decide) (fun v h => Option.some.inj h)) _ rfl
                · obtain rfl := Option.some.inj ho.symm
                  have d3 : V 3 = .map (some Mo) := hI.val 3 _ (hdep ⟨3, .data⟩ (by simp) rfl) rfl
                  have d5 : V 5 = .string u.key := hI.val 5 _ (hdep ⟨5, .data⟩ (by simp) rfl) rfl
                  have g9 := HLB.out w9 hJ
                  clear hdep ho hI hL hJ
                  try simp only [fill, slotOf, List.size_toArray, List.length_cons, List.length_nil, Nat.reduceAdd, List.getElem?_toArray, List.getElem?_cons_zero, List.getElem?_cons_succ, Option.bind_some, Act.put, List.setIfInBounds_toArray, List.set_cons_zero, List.set_cons_succ] at hK ⊢
                  rw [d3, d5] at hK ⊢
                  go_simp
                  exact hK (.tuple #[.agg #[.string os, .int .i64 ov, .int .i64 ob], .bool oj]) _ (HI9.out.put 6 _ (by decide) (fun v h => Option.some.inj h)) _ rfl
                · obtain rfl := Option.some.inj ho.symm
                  have d6 : V 6 = .tuple #[.agg #[.string os, .int .i64 ov, .int .i64 ob], .bool oj] := hI.val 6 _ (hdep ⟨6, .data⟩ (by simp) rfl) rfl
                  clear hdep ho hI hL hJ
                  try simp only [fill, slotOf, List.size_toArray, List.length_cons, List.length_nil, Nat.reduceAdd, List.getElem?_toArray, List.getElem?_cons_zero, List.getElem?_cons_succ, Option.bind_some, Act.put, List.setIfInBounds_toArray, List.set_cons_zero, List.set_cons_succ] at hK ⊢
                  rw [d6] at hK ⊢
                  go_simp
                  exact hK (.tuple #[.agg #[.string os, .int .i64 ov, .int .i64 ob], .bool oj]) _ (HI9.out.put 7 _ (by decide) (fun v h => Option.some.inj h)) _ rfl
                · obtain rfl := Option.some.inj ho.symm
                  have d7 : V 7 = .tuple #[.agg #[.string os, .int .i64 ov, .int .i64 ob], .bool oj] := hI.val 7 _ (hdep ⟨7, .data⟩ (by simp) rfl) rfl
                  clear hdep ho hI hL hJ
                  try simp only [fill, slotOf, List.size_toArray, List.length_cons, List.length_nil, Nat.reduceAdd, List.getElem?_toArray, List.getElem?_cons_zero, List.getElem?_cons_succ, Option.bind_some, Act.put, List.setIfInBounds_toArray, List.set_cons_zero, List.set_cons_succ] at hK ⊢
                  rw [d7] at hK ⊢
                  go_simp
                  exact hK (.agg #[.string os, .int .i64 ov, .int .i64 ob]) _ (HI9.out.put 8 _ (by decide) (fun v h => Option.some.inj h)) _ rfl
                · obtain rfl := Option.some.inj ho.symm
                  have d7 : V 7 = .tuple #[.agg #[.string os, .int .i64 ov, .int .i64 ob], .bool oj] := hI.val 7 _ (hdep ⟨7, .data⟩ (by simp) rfl) rfl
                  clear hdep ho hI hL hJ
                  try simp only [fill, slotOf, List.size_toArray, List.length_cons, List.length_nil, Nat.reduceAdd, List.getElem?_toArray, List.getElem?_cons_zero, List.getElem?_cons_succ, Option.bind_some, Act.put, List.setIfInBounds_toArray, List.set_cons_zero, List.set_cons_succ] at hK ⊢
                  rw [d7] at hK ⊢
                  go_simp
                  exact hK (.bool oj) _ (HI9.out.put 9 _ (by decide) (fun v h => Option.some.inj h)) _ rfl
                · obtain rfl := Option.some.inj ho.symm
                  have HL9 := Lib.hid hL
                  have e9 := hI.sa hL
                  clear hdep ho hI hL hJ
                  subst e9
                  try simp only [fill, slotOf, List.size_toArray, List.length_cons, List.length_nil, Nat.reduceAdd, List.getElem?_toArray, List.getElem?_cons_zero, List.getElem?_cons_succ, Option.bind_some, Act.put, List.setIfInBounds_toArray, List.set_cons_zero, List.set_cons_succ] at hK ⊢
                  go_simp
                  exact hK (.pointer (some ⟨wr.heap.size, 0, none⟩)) _ (HI9.out.puta (by decide) HL9.out _ (fun v h => Option.some.inj h)) _ rfl
                · obtain rfl := Option.some.inj ho.symm
                  have d10 : V 10 = .pointer (some ⟨wr.heap.size, 0, none⟩) := hI.val 10 _ (hdep ⟨10, .data⟩ (by simp) rfl) rfl
                  have d8 : V 8 = .agg #[.string os, .int .i64 ov, .int .i64 ob] := hI.val 8 _ (hdep ⟨8, .data⟩ (by simp) rfl) rfl
                  have la : L9 10 = true := hdep ⟨10, .data⟩ (by simp) rfl
                  have HLA := Lib.hid la
                  have e9 := hI.sb la hL
                  clear hdep ho hI hL hJ la
                  subst e9
                  try simp only [fill, slotOf, List.size_toArray, List.length_cons, List.length_nil, Nat.reduceAdd, List.getElem?_toArray, List.getElem?_cons_zero, List.getElem?_cons_succ, Option.bind_some, Act.put, List.setIfInBounds_toArray, List.set_cons_zero, List.set_cons_succ] at hK ⊢
                  rw [d10, d8] at hK ⊢
                  go_simp
                  exact hK undef _ (HI9.out.puts HLA.out _ (fun v h => by cases h)) _ rfl
                · obtain rfl := Option.some.inj ho.symm
                  have d9 : V 9 = .bool oj := hI.val 9 _ (hdep ⟨9, .data⟩ (by simp) rfl) rfl
                  clear hdep ho hI hL hJ
                  try simp only [fill, slotOf, List.size_toArray, List.length_cons, List.length_nil, Nat.reduceAdd, List.getElem?_toArray, List.getElem?_cons_zero, List.getElem?_cons_succ, Option.bind_some, Act.put, List.setIfInBounds_toArray, List.set_cons_zero, List.set_cons_succ] at hK ⊢
                  rw [d9] at hK ⊢
                  go_simp
                  exact hK (.bool oj) _ (HI9.out.put 12 _ (by decide) (fun v h => Option.some.inj h)) _ rfl
              · intro L9 V w9 hI hall
                have k10 : V 10 = .pointer (some ⟨wr.heap.size, 0, none⟩) := hI.val 10 _ (hall 10 (by decide)) rfl
                have k12 : V 12 = .bool oj := hI.val 12 _ (hall 12 (by decide)) rfl
                have e9 := hI.sc (hall 11 (by decide))
                clear hI hall
                subst e9
                simp only [fill, slotOf, List.size_toArray, List.length_cons, List.length_nil, Nat.reduceAdd, List.getElem?_toArray, List.getElem?_cons_zero, List.getElem?_cons_succ, Option.bind_some, Act.put, List.setIfInBounds_toArray, List.set_cons_zero, List.set_cons_succ]
                rw [k10, k12]
                clear k10 k12
                obtain ⟨W6, hW6⟩ : ∃ W6, W6 = (wr.alloc (.cells #[.string os, .int .i64 ov, .int .i64 ob] 74)).drew := ⟨_, rfl⟩
                have hbe6 : Below wr.heap.size wr W6 := by rw [hW6]; exact ((Below.refl _ _).alloc (Nat.le_refl _) _).drew
                have M6 := Lib.hid (M9.out.kept hbe6)
                have hsz6 : bd ≤ W6.heap.size := by have := hbe6.size; have := HBW.out.size; have := HBS.out; omega
                have HI6 := Lib.hid (HI.out.keep (w' := W6) (fun k _ hk => hbe6.block k hk))
                rw [← hW6]
                clear hW6 hbe6 hs9 ho9
                have c0 := cell_blk2 M6.out.st.blk (i := 0) (u := .map (some Mo)) rfl
                have hmlen := fun ty => lenO M6.out.st.obj ty
                by_cases hfull : oj = false ∧ 512 ≤ σ.objs.length
                case pos =>
                  obtain ⟨hof, h512⟩ := hfull
                  have hnone : (objOf σ u.key).isNone = true := by
                    have h1 := HOJ.out
                    rw [hof] at h1
                    unfold objOf
                    cases hg : getK slit u.key σ.objs with
                    | none => rfl
                    | some x => rw [hg] at h1; cases h1
                  have HE0 := Lib.hid (show comE σ id (N : Int) = 9 from by unfold comE; rw [HU.out]; simp only; rw [if_neg HN.out, HK0.out, HC.out]; simp only; rw [if_neg HD5.out, if_pos ⟨hnone, h512⟩])
                  have y1 : (512 : Int) ≤ (σ.objs.length : Int) := by omega
                  have y2 : decide ((512 : Int) ≤ (σ.objs.length : Int)) = true := decide_eq_true y1
                  obtain rfl := hof
                  clear h512 hnone
                  go_wp2_with fail
                  refine (failed_any _ _).mono ?_
                  rintro e W9 ⟨rfl, hb9⟩
                  have M9 := Lib.hid (M6.out.kept hb9)
                  clear hb9
                  obtain ⟨⟨q0, q1, q2, q3, q4, q5, q6⟩, r0, r1, r2, r3, r4, r5, r6⟩ := rb_cells M9.out.rb
                  unfold rep0
                  go_wp2_with fail
                  clear q0 q1 q2 q3 q4 q5 q6 r0 r1 r2 r3 r4 r5 r6
                  obtain ⟨W5, hW5⟩ : ∃ W5, W5 = setR W9 (w.heap.size + 1) (.int .i64 9) (.slice none 0 0) (.int .i64 0) (.int .i64 0) (.int .i64 0) (.slice none 0 0) (.bool false) := ⟨_, rfl⟩
                  have hr5 := setR_at0 M9.out.rb (.int .i64 9) (.slice none 0 0) (.int .i64 0) (.int .i64 0) (.int .i64 0) (.slice none 0 0) (.bool false)
                  have Z := M9.out.done HL.out (fun b hb => HF.out b hb) (.int .i64 9) (.slice none 0 0) (.int .i64 0) (.int .i64 0) (.int .i64 0) (.slice none 0 0) (.bool false)
                  rw [← hW5] at hr5 Z
                  unfold setR at hW5
                  rw [← hW5]
                  refine bodyPost_ret (ret_rep rfl _ _ (w.heap.size + 1) rfl hr5) rfl ?_
                  exact ComSays.no HE0.out (by decide) Z

                case neg =>
                  have HFULL := Lib.hid hfull
                  have HE0 := Lib.hid (show comE σ id (N : Int) = 0 from by
                    unfold comE; rw [HU.out]; simp only; rw [if_neg HN.out, HK0.out, HC.out]
                    simp only
                    rw [if_neg HD5.out, if_neg (by
                      rintro ⟨g1, g2⟩
                      refine HFULL.out ⟨?_, g2⟩
                      rw [HOJ.out]
                      unfold objOf at g1
                      cases hg : getK slit u.key σ.objs with
                      | none => rfl
                      | some x => rw [hg] at g1; cases g1)])
                  have hOB : oj = true ∨ (oj = false ∧ decide ((512 : Int) ≤ (σ.objs.length : Int)) = false ∧ ¬ (512 : Int) ≤ (σ.objs.length : Int)) := by
                    cases oj with
                    | true => exact .inl rfl
                    | false => exact .inr ⟨rfl, decide_eq_false (by have : ¬ 512 ≤ σ.objs.length := fun e => hfull ⟨rfl, e⟩; omega), by have : ¬ 512 ≤ σ.objs.length := fun e => hfull ⟨rfl, e⟩; omega⟩
                  have k6 := cell_blk2 M6.out.cb (i := 6) (u := .int .i64 id) rfl
                  have hm := HM.out
                  have HDR := Lib.hid (drop_any M6.out.st hid HU.out hm (fun x hx => wf_small (by have := hok.key _ hm x hx; omega)) (by have := hok.siz _ hm; simp only at this; omega) hz)
                  clear hm hfull
                  rcases hOB with rfl | ⟨rfl, y1, y2⟩
                  all_goals
                    go_wp2_with fail
                    refine HDR.out.mono ?_
                    rintro e W7 ⟨rfl, hst7, hfr7⟩
                    have hsz7 := hfr7.size
                    have hrb7 : W7.heap[w.heap.size + 1]? = some (.cells zrep 43 (0, 0)) := hfr7.at M6.out.rb (fun hb => by have := HF.out _ hb; omega)
                    have hob7 : W7.heap[w.heap.size + 2]? = some (.cells #[.string u.key, .int .i64 u.born, .map (some u.pb)] 82 (0, 0)) := hfr7.at M6.out.ob (fun hb => by have := HF.out _ hb; omega)
                    have HI7 := Lib.hid (HI6.out.keep (w' := W7) (fun k hk1 hk2 => hfr7.block k hk2 (fun hb => by have := HF.out _ hb; have := HBD.out; omega)))
                    have HST7 := Lib.hid hst7
                    have HFR7 := Lib.hid hfr7
                    have HRB7 := Lib.hid hrb7
                    have o0 := cell_blk2 hob7 (i := 0) (u := .string u.key) rfl
                    have lo : w.heap.size + 2 < W7.heap.size := (Array.getElem?_eq_some_iff.1 hob7).1
                    have HOB7 := Lib.hid hob7
                    have hbd7 : bd ≤ W7.heap.size := by omega
                    have HSTR := Lib.hid (sh_Builder_String_any bd bd dd W7.drew (HI7.out.keep (w' := W7.drew) (fun k _ _ => rfl)) hbd7)
                    clear hst7 hfr7 hrb7 hob7
                    have HMK := Lib.hid (show ∀ w8, Below bd W7.drew w8 → StAt w8 s Mo Mu (dropS σ id (psz u.parts)) ∧ w8.cell? ⟨w.heap.size + 2, 0, none⟩ = some (.string u.key) ∧ w8.heap[w.heap.size + 1]? = some (.cells zrep 43 (0, 0)) ∧ w.heap.size + 1 < w8.heap.size ∧ Frm (StF s Mo Mu σ) w w8 from fun w8 hb8 => by
                      have hbdw := HBD.out
                      refine ⟨HST7.out.same fun b hb => ?_, ?_, ?_, ?_, ?_⟩
                      · exact hb8.block b (by have := HF.out b hb.drop; omega)
                      · exact cell_blk2 ((hb8.block (w.heap.size + 2) (by omega)).trans HOB7.out) rfl
                      · exact (hb8.block (w.heap.size + 1) (by omega)).trans HRB7.out
                      · have h1 : W7.heap.size ≤ w8.heap.size := hb8.size; omega
                      · have h1 : Frm (StF s Mo Mu σ) w W7 := (Frm.ofBelow M6.out.bel).trans HFR7.out (fun i hi => .inl hi)
                        have h2 : Frm (fun i => bd ≤ i) W7 w8 := ⟨hb8.os, hb8.tape, hb8.output, hb8.size, fun i hi hf => hb8.block i (by omega)⟩
                        exact h1.trans h2 (fun i hi => .inr (by omega)))
                    have HZ7 := Lib.hid (show 0 ≤ (dropS σ id (psz u.parts)).size ∧ (dropS σ id (psz u.parts)).size ≤ 4194304 from by
                      have h1 := HZU.out _ HM.out
                      unfold dropS
                      simp only at h1 ⊢
                      omega)
                    go_wp2_with fail
                    go_region_with (first
                      | (go_at_call 51; refine HSTR.out.mono ?_; rintro e w8 ⟨rfl, hb8⟩; obtain ⟨st8, p0, rb8, lr8, fr8⟩ := HMK.out w8 hb8; have HST8 := Lib.hid st8; have HRB8 := Lib.hid rb8; have HFR8 := Lib.hid fr8; clear st8 rb8 fr8 hb8)
                      | (go_at_call 43; refine (make_any HST8.out u.key ⟨dd.toArray⟩ (HKS.out _ HM.out) (by show dd.toArray.size ≤ 1000000; simp; omega) ⟨hv.1, hv.2, HZ7.out.1, HZ7.out.2⟩ (Nat.le_trans (HOLD.out u.key) (by decide)) (by show σ.objs.length ≤ 1000; omega)).mono ?_; rintro e W9 ⟨rfl, hst9, hfr9⟩; have hrb9 : W9.heap[w.heap.size + 1]? = some (.cells zrep 43 (0, 0)) := hfr9.at HRB8.out (fun hb => by have := HF.out _ hb.drop; omega); obtain ⟨⟨q0, q1, q2, q3, q4, q5, q6⟩, r0, r1, r2, r3, r4, r5, r6⟩ := rb_cells hrb9; have HST9 := Lib.hid hst9; have HFR9 := Lib.hid hfr9; have HRB9 := Lib.hid hrb9; clear hst9 hfr9 hrb9; unfold rep))
                    all_goals
                      go_wp2_with fail
                      clear q0 q1 q2 q3 q4 q5 q6 r0 r1 r2 r3 r4 r5 r6
                      obtain ⟨W5, hW5⟩ : ∃ W5, W5 = setR W9 (w.heap.size + 1) (.int .i64 0) (.slice none 0 0) (.int .i64 ((dropS σ id (psz u.parts)).ver + 1)) (.int .i64 (dropS σ id (psz u.parts)).now) (.int .i64 0) (.slice none 0 0) (.bool false) := ⟨_, rfl⟩
                      have hr5 := setR_at0 HRB9.out (.int .i64 0) (.slice none 0 0) (.int .i64 ((dropS σ id (psz u.parts)).ver + 1)) (.int .i64 (dropS σ id (psz u.parts)).now) (.int .i64 0) (.slice none 0 0) (.bool false)
                      have hF5 := (Frm.refl (fun b => b = w.heap.size + 1) W9).setR (R := w.heap.size + 1) (.inl rfl) (.int .i64 0) (.slice none 0 0) (.int .i64 ((dropS σ id (psz u.parts)).ver + 1)) (.int .i64 (dropS σ id (psz u.parts)).now) (.int .i64 0) (.slice none 0 0) (.bool false)
                      rw [← hW5] at hr5 hF5
                      unfold setR at hW5
                      rw [← hW5]
                      have Z1 : StAt W5 s Mo Mu (comS σ id u dd) := HST9.out.same fun b hb => hF5.block b (HST9.out.lt hb) (fun e => by have := HF.out b (StF.drop (StF.make hb)); omega)
                      have Z2 : Frm (StF s Mo Mu σ) w W5 := (HFR8.out.trans HFR9.out (fun i hi => .inl hi.drop)).trans hF5 (fun i hi => .inr (by omega))
                      refine bodyPost_ret (ret_rep rfl _ _ (w.heap.size + 1) rfl hr5) rfl ?_
                      exact ComSays.yes HU.out (by rw [HK0.out]; exact HC.out) HE0.out ⟨Z1, Z2⟩
          case pos =>
            have zk : (k : Int) < (N : Int) := by omega
            have zk0 : (0 : Int) ≤ (k : Int) := by omega
            have wk : IntKind.i64.wrap ((k : Int) + 1) = (k : Int) + 1 := IntWalk.i64_in _ (by omega)
            have o2 := cell_blk2 M9.out.ob (i := 2) (u := .map (some u.pb)) rfl
            have hgp := M9.out.st.prt _ HM.out
            have hlk := lookP2 hgp ((k : Int) + 1) (wf_small (by omega))
            have HGP := Lib.hid hgp
            clear hgp
            cases hg : getK ilit ((k : Int) + 1) u.parts with
            | none =>
              have HE0 := Lib.hid (show comE σ id (N : Int) = 4 from by unfold comE; rw [HU.out]; simp only; rw [if_neg HN.out, HK0.out, catP_none (k := k) (by rw [Int.natCast_add]; exact hg) N hkn])
              rw [hg] at hlk
              have hlk2 : (Instr.lookup 80 (.map (some u.pb)) (.int .i64 ((k : Int) + 1)) true).run Tryz.prog wr = .ok (.tuple #[.agg #[.string ByteArray.empty], .bool false]) wr := hlk
              have M8 := Lib.hid (M9.out.kept ((Below.refl _ wr).alloc (Nat.le_refl _) (.cells #[.string ByteArray.empty] 85)))
              clear hlk hg hkn
              go_wp2_with fail
              refine (failed_any _ _).mono ?_
              rintro e W9 ⟨rfl, hb9⟩
              have M9 := Lib.hid (M8.out.kept hb9)
              clear hb9
              obtain ⟨⟨q0, q1, q2, q3, q4, q5, q6⟩, r0, r1, r2, r3, r4, r5, r6⟩ := rb_cells M9.out.rb
              unfold rep0
              go_wp2_with fail
              clear q0 q1 q2 q3 q4 q5 q6 r0 r1 r2 r3 r4 r5 r6
              obtain ⟨W5, hW5⟩ : ∃ W5, W5 = setR W9 (w.heap.size + 1) (.int .i64 4) (.slice none 0 0) (.int .i64 0) (.int .i64 0) (.int .i64 0) (.slice none 0 0) (.bool false) := ⟨_, rfl⟩
              have hr5 := setR_at0 M9.out.rb (.int .i64 4) (.slice none 0 0) (.int .i64 0) (.int .i64 0) (.int .i64 0) (.slice none 0 0) (.bool false)
              have Z := M9.out.done HL.out (fun b hb => HF.out b hb) (.int .i64 4) (.slice none 0 0) (.int .i64 0) (.int .i64 0) (.int .i64 0) (.slice none 0 0) (.bool false)
              rw [← hW5] at hr5 Z
              unfold setR at hW5
              rw [← hW5]
              refine bodyPost_ret (ret_rep rfl _ _ (w.heap.size + 1) rfl hr5) rfl ?_
              exact ComSays.no HE0.out (by decide) Z

            | some p =>
              have HG := Lib.hid (catP_succ HC.out (p := p) (by rw [Int.natCast_add]; exact hg))
              have hps := HPM.out _ (get_mem ilit_inj hg)
              simp only at hps
              rw [hg] at hlk
              have hlk2 : (Instr.lookup 80 (.map (some u.pb)) (.int .i64 ((k : Int) + 1)) true).run Tryz.prog wr = .ok (.tuple #[.agg #[.string p], .bool true]) wr := hlk
              have HD := Lib.hid (catP_len (m := 4194304) HPM.out HC.out)
              have hb8 : Below wr.heap.size wr (wr.alloc (.cells #[.string p] 85)) := (Below.refl _ wr).alloc (Nat.le_refl _) _
              have HI8 := Lib.hid (HI.out.keep (w' := wr.alloc (.cells #[.string p] 85)) (fun k _ hk => hb8.block k hk))
              have HB8 := Lib.hid hb8
              have hcl : (Lib.byteCells dd).length = dd.length := Lib.byteCells_length dd
              have HWS := Lib.hid (writeString_any bd bd (Lib.byteCells dd) p (wr.alloc (.cells #[.string p] 85)) HI8.out (by rw [hcl]; have := HD.out; have := HPN.out; omega) (by have h1 := HBS.out; have h2 := HBW.out.size; have h3 := hb8.size; omega))
              clear hlk hg hb8 hcl
              go_wp2_with fail
              refine HWS.out.mono ?_
              rintro e W9 ⟨rfl, hb9, hbe9⟩
              have HB9 := Lib.hid hb9
              have HBE9 := Lib.hid hbe9
              clear hb9 hbe9
              go_wp2_with fail
              go_roundw
              case rel => exact ⟨k + 1, dd ++ p.data.toList, by omega, by go_num, HG, Lib.hid (.inr (by have h7 := HB9.out; rw [Lib.strCells_eq, ← Lib.byteCells_append] at h7; exact h7)), Lib.hid (HBW.out.trans ((HB8.out.mono HBW.out.size).trans (by rw [← HBQ.out]; exact HBE9.out)))⟩
              case measure => simp [intOf]; omega
end Go.Proofs.YtjafagfhkpaciaaGreat
end PkSP4_5
section PkSP4_6
/- The store's get, walked. Written by genstoget.py. -/
namespace Go.Proofs.YtjafagfhkpaciaaGreat
open Go.RowKit
set_option linter.unusedVariables false

/-- what get answers -/
def GetSays (w : World) (s Mo Mu : Nat) (σ : Sto) (ky : ByteArray) (e : Ending) (w' : World) : Prop :=
  match objOf σ ky with
  | none => e = .returned (rep0 7) ∧ StAt w' s Mo Mu σ ∧ Below w.heap.size w w'
  | some o => ∃ g c, e = .returned (rep 0 (.slice (some ⟨g, 0, none⟩) o.data.size c) o.ver o.born 0 (.slice none 0 0) false) ∧ w.heap.size ≤ g ∧ BytesAt w' (some ⟨g, 0, none⟩) o.data.size c (numsOf o.data) ∧ StAt w' s Mo Mu σ ∧ Below w.heap.size w w' ∧ Unf w' g o.data.size
theorem GetSays.no {w w' : World} {s Mo Mu : Nat} {σ : Sto} {ky : ByteArray} (h : objOf σ ky = none) (Z : StAt w' s Mo Mu σ ∧ Below w.heap.size w w') : GetSays w s Mo Mu σ ky (.returned (rep0 7)) w' := by
  unfold GetSays
  rw [h]
  exact ⟨rfl, Z.1, Z.2⟩
theorem GetSays.yes {w w' : World} {s Mo Mu : Nat} {σ : Sto} {ky : ByteArray} {os : ByteArray} {ov ob : Int} {g c : Nat} (h : objOf σ ky = some ⟨os, ov, ob⟩) (hg : w.heap.size ≤ g) (hb : BytesAt w' (some ⟨g, 0, none⟩) os.size c (numsOf os)) (hun : Unf w' g os.size) (Z : StAt w' s Mo Mu σ ∧ Below w.heap.size w w') :
    GetSays w s Mo Mu σ ky (.returned (rep 0 (.slice (some ⟨g, 0, none⟩) os.size c) ov ob 0 (.slice none 0 0) false)) w' := by
  unfold GetSays
  rw [h]
  exact ⟨g, c, rfl, hg, hb, Z.1, Z.2, hun⟩
theorem objOf_some {σ : Sto} {ky os : ByteArray} {ob : Int} (h : (getK slit ky σ.objs).elim objZ objC = .agg #[.string os, .int .i64 (oldVer σ ky), .int .i64 ob]) (hi : (getK slit ky σ.objs).isSome = true) : objOf σ ky = some ⟨os, oldVer σ ky, ob⟩ := by
  unfold objOf
  cases hg : getK slit ky σ.objs with
  | none => rw [hg] at hi; cases hi
  | some o =>
    rw [hg] at h
    simp only [Option.elim, objC, Value.agg.injEq, Array.mk.injEq, List.cons.injEq, Value.string.injEq, Value.int.injEq, true_and, and_true] at h
    obtain ⟨h1, h2, h3⟩ := h
    obtain ⟨x, y, z⟩ := o
    simp only at h1 h2 h3
    rw [h1, h2, h3]
theorem unf_setR {w : World} {g n R : Nat} (h : Unf w g n) (hR : g ≠ R) (x0 x1 x2 x3 x4 x5 x6 : Value) : Unf (setR w R x0 x1 x2 x3 x4 x5 x6) g n := by
  have h1 : Frm (fun b => b = R) w (setR w R x0 x1 x2 x3 x4 x5 x6) := (Frm.refl (fun b => b = R) w).setR (R := R) (.inl rfl) _ _ _ _ _ _ _
  obtain ⟨cs, fr, hg, hn⟩ := h
  exact ⟨cs, fr, h1.at hg hR, hn⟩
theorem bytes_setR {w : World} {a : Option Addr} {n c R : Nat} {xs : List Nat} (h : BytesAt w a n c xs) (hR : ∀ b off, a = some ⟨b, off, none⟩ → b ≠ R) (x0 x1 x2 x3 x4 x5 x6 : Value) : BytesAt (setR w R x0 x1 x2 x3 x4 x5 x6) a n c xs := by
  have h1 : Frm (fun b => b = R) w (setR w R x0 x1 x2 x3 x4 x5 x6) := (Frm.refl (fun b => b = R) w).setR (R := R) (.inl rfl) _ _ _ _ _ _ _
  refine ⟨h.len, h.cap, h.byte, h.reach, h.capm, h.nl, fun hn => ?_⟩
  obtain ⟨b, off, ha, hlt, hc⟩ := h.cells hn
  have hne := hR b off ha
  refine ⟨b, off, ha, Nat.lt_of_lt_of_le hlt h1.size, fun i hi => ?_⟩
  rw [← hc i hi]
  exact cell_of_heap (h1.block b hlt hne)
set_option maxRecDepth 100000 in
set_option maxHeartbeats 4000000 in
theorem get_any {w : World} {s Mo Mu : Nat} {σ : Sto} (h : StAt w s Mo Mu σ) {ki vr at_ nn id : Int} {ky : ByteArray} {a : Option Addr} {n c : Nat} (hk : ky.size ≤ 1000000000000000) (ho : oldLen σ ky ≤ 262144) :
    Calls Tryz.prog 17 #[.pointer (some ⟨s, 0, none⟩), .agg #[.int .i64 ki, .string ky, .slice a n c, .int .i64 vr, .int .i64 at_, .int .i64 nn, .int .i64 id]] w (GetSays w s Mo Mu σ ky) := by
  have HE := Lib.hid (ent_mk h #[.int .i64 ki, .string ky, .slice a n c, .int .i64 vr, .int .i64 at_, .int .i64 nn, .int .i64 id])
  have HL := Lib.hid h.lts
  have HF := Lib.hid (show ∀ b, StF s Mo Mu σ b → b < w.heap.size from fun b hb => h.lt hb)
  have HS := Lib.hid h
  clear h
  go_enter Tryz.func17, Tryz.ntmps17
  go_wp2_with fail
  obtain ⟨W0, hW0⟩ : ∃ W0, W0 = (w.alloc (.cells #[.int .i64 ki, .string ky, .slice a n c, .int .i64 vr, .int .i64 at_, .int .i64 nn, .int .i64 id] 34)).alloc (.cells zrep 43) := ⟨_, rfl⟩
  rw [← hW0] at HE
  unfold zrep at hW0
  rw [← hW0]
  clear hW0
  have hk0 : w.heap.size < W0.heap.size := by have := HE.out.sz; omega
  have hr0 : w.heap.size + 1 < W0.heap.size := by have := HE.out.sz; omega
  have hs0 := HE.out.st.lts
  have ez0 := Lib.hid HE.out.sz
  obtain ⟨os, ob, hos, hol⟩ := field_obj2 σ ky
  obtain ⟨ov, hov⟩ : ∃ ov, ov = oldVer σ ky := ⟨_, rfl⟩
  obtain ⟨oi, hoi⟩ : ∃ oi, oi = (getK slit ky σ.objs).isSome := ⟨_, rfl⟩
  have HOS := Lib.hid hos
  have HLA := Lib.hid (show ∀ w9, Below W0.heap.size W0 w9 → (Instr.lookup 48 (.map (some Mo)) (.string ky) true).run Tryz.prog w9 = .ok (.tuple #[.agg #[.string os, .int .i64 ov, .int .i64 ob], .bool oi]) w9 from fun w9 h9 => by
    have h8 := lookO2 (HE.out.st.obj.below h9) ky hk
    rw [hos, ← hoi, ← hov] at h8
    exact h8)
  have HOL := Lib.hid hol
  have HOI := Lib.hid hoi
  have HOV := Lib.hid hov
  clear hos hol hoi hov
  refine wp_region_inv (by kernel_rfl) (by kernel_rfl) (by kernel_rfl) (OB W0 (.cells #[.string { data := #[] }, .int .i64 0, .int .i64 0] 74) (.cells #[.string os, .int .i64 ov, .int .i64 ob] 74) (fun j_9 => match j_9 with | 0 => some (.pointer (some ⟨s, 0, none⟩)) | 1 => some (.pointer (some ⟨s, 0, none⟩)) | 2 => some (.pointer (some ⟨s, 0, none⟩)) | 3 => some (.map (some Mo)) | 4 => some (.pointer (some ⟨w.heap.size, 1, none⟩)) | 5 => some (.string ky) | 6 => some (.tuple #[.agg #[.string os, .int .i64 ov, .int .i64 ob], .bool oi]) | 7 => some (.tuple #[.agg #[.string os, .int .i64 ov, .int .i64 ob], .bool oi]) | 8 => some (.agg #[.string os, .int .i64 ov, .int .i64 ob]) | 9 => some (.bool oi) | 10 => some (.pointer (some ⟨W0.heap.size, 0, none⟩)) | 11 => none | 12 => some (.bool oi) | _ => none) 10 11) (fun V => OB.start V) ?_ ?_
  · intro j9 o ho L9 V w9 K hI hL hdep hK
    have HI9 := Lib.hid hI
    have hJ := hI.below
    simp only [fill, slotOf, List.size_toArray, List.length_cons, List.length_nil, Nat.reduceAdd, List.getElem?_toArray, List.getElem?_cons_zero, List.getElem?_cons_succ, Option.bind_some, Act.put, List.setIfInBounds_toArray, List.set_cons_zero, List.set_cons_succ] at hK ⊢
    have hin : j9 < 13 := (Array.getElem?_eq_some_iff.1 ho).1
    have hcs : j9 = 0 ∨ j9 = 1 ∨ j9 = 2 ∨ j9 = 3 ∨ j9 = 4 ∨ j9 = 5 ∨ j9 = 6 ∨ j9 = 7 ∨ j9 = 8 ∨ j9 = 9 ∨ j9 = 10 ∨ j9 = 11 ∨ j9 = 12 := by omega
    clear hin
    rcases hcs with rfl | rfl | rfl | rfl | rfl | rfl | rfl | rfl | rfl | rfl | rfl | rfl | rfl
    · obtain rfl := Option.some.inj ho.symm
      clear hdep ho hI hL hJ
      try simp only [fill, slotOf, List.size_toArray, List.length_cons, List.length_nil, Nat.reduceAdd, List.getElem?_toArray, List.getElem?_cons_zero, List.getElem?_cons_succ, Option.bind_some, Act.put, List.setIfInBounds_toArray, List.set_cons_zero, List.set_cons_succ] at hK ⊢
      go_simp
      exact hK (.pointer (some ⟨s, 0, none⟩)) _ (HI9.out.put 0 _ (by decide) (fun v h => Option.some.inj h)) _ rfl
    · obtain rfl := Option.some.inj ho.symm
      have d0 : V 0 = .pointer (some ⟨s, 0, none⟩) := hI.val 0 _ (hdep ⟨0, .data⟩ (by simp) rfl) rfl
      clear hdep ho hI hL hJ
      try simp only [fill, slotOf, List.size_toArray, List.length_cons, List.length_nil, Nat.reduceAdd, List.getElem?_toArray, List.getElem?_cons_zero, List.getElem?_cons_succ, Option.bind_some, Act.put, List.setIfInBounds_toArray, List.set_cons_zero, List.set_cons_succ] at hK ⊢
      rw [d0] at hK ⊢
      go_simp
      exact hK (.pointer (some ⟨s, 0, none⟩)) _ (HI9.out.put 1 _ (by decide) (fun v h => Option.some.inj h)) _ rfl
    · obtain rfl := Option.some.inj ho.symm
      have d1 : V 1 = .pointer (some ⟨s, 0, none⟩) := hI.val 1 _ (hdep ⟨1, .data⟩ (by simp) rfl) rfl
      clear hdep ho hI hL hJ
      try simp only [fill, slotOf, List.size_toArray, List.length_cons, List.length_nil, Nat.reduceAdd, List.getElem?_toArray, List.getElem?_cons_zero, List.getElem?_cons_succ, Option.bind_some, Act.put, List.setIfInBounds_toArray, List.set_cons_zero, List.set_cons_succ] at hK ⊢
      rw [d1] at hK ⊢
      go_simp
      exact hK (.pointer (some ⟨s, 0, none⟩)) _ (HI9.out.put 2 _ (by decide) (fun v h => Option.some.inj h)) _ rfl
    · obtain rfl := Option.some.inj ho.symm
      have d2 : V 2 = .pointer (some ⟨s, 0, none⟩) := hI.val 2 _ (hdep ⟨2, .data⟩ (by simp) rfl) rfl
      have g9 := cell_blk2 ((hJ.block s hs0).trans HE.out.st.blk) (i := 0) (u := .map (some Mo)) rfl
      clear hdep ho hI hL hJ
      try simp only [fill, slotOf, List.size_toArray, List.length_cons, List.length_nil, Nat.reduceAdd, List.getElem?_toArray, List.getElem?_cons_zero, List.getElem?_cons_succ, Option.bind_some, Act.put, List.setIfInBounds_toArray, List.set_cons_zero, List.set_cons_succ] at hK ⊢
      rw [d2] at hK ⊢
      go_simp
      exact hK (.map (some Mo)) _ (HI9.out.put 3 _ (by decide) (fun v h => Option.some.inj h)) _ rfl
    · obtain rfl := Option.some.inj ho.symm
      clear hdep ho hI hL hJ
      try simp only [fill, slotOf, List.size_toArray, List.length_cons, List.length_nil, Nat.reduceAdd, List.getElem?_toArray, List.getElem?_cons_zero, List.getElem?_cons_succ, Option.bind_some, Act.put, List.setIfInBounds_toArray, List.set_cons_zero, List.set_cons_succ] at hK ⊢
      go_simp
      exact hK (.pointer (some ⟨w.heap.size, 1, none⟩)) _ (HI9.out.put 4 _ (by decide) (fun v h => Option.some.inj h)) _ rfl
    · obtain rfl := Option.some.inj ho.symm
      have d4 : V 4 = .pointer (some ⟨w.heap.size, 1, none⟩) := hI.val 4 _ (hdep ⟨4, .data⟩ (by simp) rfl) rfl
      have g9 := cell_blk2 ((hJ.block w.heap.size hk0).trans HE.out.cb) (i := 1) (u := .string ky) rfl
      clear hdep ho hI hL hJ
      try simp only [fill, slotOf, List.size_toArray, List.length_cons, List.length_nil, Nat.reduceAdd, List.getElem?_toArray, List.getElem?_cons_zero, List.getElem?_cons_succ, Option.bind_some, Act.put, List.setIfInBounds_toArray, List.set_cons_zero, List.set_cons_succ] at hK ⊢
      rw [d4] at hK ⊢
      go_simp
      exact hK (.string ky) _ (HI9.out.put 5 _ (by decide) (fun v h => Option.some.inj h)) _ rfl
    · obtain rfl := Option.some.inj ho.symm
      have d3 : V 3 = .map (some Mo) := hI.val 3 _ (hdep ⟨3, .data⟩ (by simp) rfl) rfl
      have d5 : V 5 = .string ky := hI.val 5 _ (hdep ⟨5, .data⟩ (by simp) rfl) rfl
      have g9 := HLA.out w9 hJ
      clear hdep ho hI hL hJ
      try simp only [fill, slotOf, List.size_toArray, List.length_cons, List.length_nil, Nat.reduceAdd, List.getElem?_toArray, List.getElem?_cons_zero, List.getElem?_cons_succ, Option.bind_some, Act.put, List.setIfInBounds_toArray, List.set_cons_zero, List.set_cons_succ] at hK ⊢
      rw [d3, d5] at hK ⊢
      go_simp
      exact hK (.tuple #[.agg #[.string os, .int .i64 ov, .int .i64 ob], .bool oi]) _ (HI9.out.put 6 _ (by decide) (fun v h => Option.some.inj h)) _ rfl
    · obtain rfl := Option.some.inj ho.symm
      have d6 : V 6 = .tuple #[.agg #[.string os, .int .i64 ov, .int .i64 ob], .bool oi] := hI.val 6 _ (hdep ⟨6, .data⟩ (by simp) rfl) rfl
      clear hdep ho hI hL hJ
      try simp only [fill, slotOf, List.size_toArray, List.length_cons, List.length_nil, Nat.reduceAdd, List.getElem?_toArray, List.getElem?_cons_zero, List.getElem?_cons_succ, Option.bind_some, Act.put, List.setIfInBounds_toArray, List.set_cons_zero, List.set_cons_succ] at hK ⊢
      rw [d6] at hK ⊢
      go_simp
      exact hK (.tuple #[.agg #[.string os, .int .i64 ov, .int .i64 ob], .bool oi]) _ (HI9.out.put 7 _ (by decide) (fun v h => Option.some.inj h)) _ rfl
    · obtain rfl := Option.some.inj ho.symm
      have d7 : V 7 = .tuple #[.agg #[.string os, .int .i64 ov, .int .i64 ob], .bool oi] := hI.val 7 _ (hdep ⟨7, .data⟩ (by simp) rfl) rfl
      clear hdep ho hI hL hJ
      try simp only [fill, slotOf, List.size_toArray, List.length_cons, List.length_nil, Nat.reduceAdd, List.getElem?_toArray, List.getElem?_cons_zero, List.getElem?_cons_succ, Option.bind_some, Act.put, List.setIfInBounds_toArray, List.set_cons_zero, List.set_cons_succ] at hK ⊢
      rw [d7] at hK ⊢
      go_simp
      exact hK (.agg #[.string os, .int .i64 ov, .int .i64 ob]) _ (HI9.out.put 8 _ (by decide) (fun v h => Option.some.inj h)) _ rfl
    · obtain rfl := Option.some.inj ho.symm
      have d7 : V 7 = .tuple #[.agg #[.string os, .int .i64 ov, .int .i64 ob], .bool oi] := hI.val 7 _ (hdep ⟨7, .data⟩ (by simp) rfl) rfl
      clear hdep ho hI hL hJ
      try simp only [fill, slotOf, List.size_toArray, List.length_cons, List.length_nil, Nat.reduceAdd, List.getElem?_toArray, List.getElem?_cons_zero, List.getElem?_cons_succ, Option.bind_some, Act.put, List.setIfInBounds_toArray, List.set_cons_zero, List.set_cons_succ] at hK ⊢
      rw [d7] at hK ⊢
      go_simp
      exact hK (.bool oi) _ (HI9.out.put 9 _ (by decide) (fun v h => Option.some.inj h)) _ rfl
    · obtain rfl := Option.some.inj ho.symm
      have HL9 := Lib.hid hL
      have e9 := hI.sa hL
      clear hdep ho hI hL hJ
      subst e9
      try simp only [fill, slotOf, List.size_toArray, List.length_cons, List.length_nil, Nat.reduceAdd, List.getElem?_toArray, List.getElem?_cons_zero, List.getElem?_cons_succ, Option.bind_some, Act.put, List.setIfInBounds_toArray, List.set_cons_zero, List.set_cons_succ] at hK ⊢
      go_simp
      exact hK (.pointer (some ⟨W0.heap.size, 0, none⟩)) _ (HI9.out.puta (by decide) HL9.out _ (fun v h => Option.some.inj h)) _ rfl
    · obtain rfl := Option.some.inj ho.symm
      have d10 : V 10 = .pointer (some ⟨W0.heap.size, 0, none⟩) := hI.val 10 _ (hdep ⟨10, .data⟩ (by simp) rfl) rfl
      have d8 : V 8 = .agg #[.string os, .int .i64 ov, .int .i64 ob] := hI.val 8 _ (hdep ⟨8, .data⟩ (by simp) rfl) rfl
      have la : L9 10 = true := hdep ⟨10, .data⟩ (by simp) rfl
      have HLA := Lib.hid la
      have e9 := hI.sb la hL
      clear hdep ho hI hL hJ la
      subst e9
      try simp only [fill, slotOf, List.size_toArray, List.length_cons, List.length_nil, Nat.reduceAdd, List.getElem?_toArray, List.getElem?_cons_zero, List.getElem?_cons_succ, Option.bind_some, Act.put, List.setIfInBounds_toArray, List.set_cons_zero, List.set_cons_succ] at hK ⊢
      rw [d10, d8] at hK ⊢
      go_simp
      exact hK undef _ (HI9.out.puts HLA.out _ (fun v h => by cases h)) _ rfl
    · obtain rfl := Option.some.inj ho.symm
      have d9 : V 9 = .bool oi := hI.val 9 _ (hdep ⟨9, .data⟩ (by simp) rfl) rfl
      clear hdep ho hI hL hJ
      try simp only [fill, slotOf, List.size_toArray, List.length_cons, List.length_nil, Nat.reduceAdd, List.getElem?_toArray, List.getElem?_cons_zero, List.getElem?_cons_succ, Option.bind_some, Act.put, List.setIfInBounds_toArray, List.set_cons_zero, List.set_cons_succ] at hK ⊢
      rw [d9] at hK ⊢
      go_simp
      exact hK (.bool oi) _ (HI9.out.put 12 _ (by decide) (fun v h => Option.some.inj h)) _ rfl
  · intro L9 V w9 hI hall
    have k10 : V 10 = .pointer (some ⟨W0.heap.size, 0, none⟩) := hI.val 10 _ (hall 10 (by decide)) rfl
    have k12 : V 12 = .bool oi := hI.val 12 _ (hall 12 (by decide)) rfl
    have e9 := hI.sc (hall 11 (by decide))
    clear hI hall
    subst e9
    simp only [fill, slotOf, List.size_toArray, List.length_cons, List.length_nil, Nat.reduceAdd, List.getElem?_toArray, List.getElem?_cons_zero, List.getElem?_cons_succ, Option.bind_some, Act.put, List.setIfInBounds_toArray, List.set_cons_zero, List.set_cons_succ]
    rw [k10, k12]
    clear k10 k12
    obtain ⟨W1, hW1⟩ : ∃ W1, W1 = (W0.alloc (.cells #[.string os, .int .i64 ov, .int .i64 ob] 74)).drew := ⟨_, rfl⟩
    have M1 := Lib.hid (md_mk HE.out #[.string os, .int .i64 ov, .int .i64 ob] 74)
    rw [← hW1] at M1
    rw [← hW1]
    rw [ez0.out]
    clear hW1 HE hk0 hr0 hs0 ez0 HLA
    cases oi with
    | false =>
      have HE0 := Lib.hid (show objOf σ ky = none from by
        have h1 := HOI.out
        unfold objOf
        cases hg : getK slit ky σ.objs with
        | none => rfl
        | some x => rw [hg] at h1; cases h1)
      go_wp2_with fail
      refine (failed_any _ _).mono ?_
      rintro e W9 ⟨rfl, hb9⟩
      have M9 := Lib.hid (M1.out.kept hb9)
      clear hb9
      obtain ⟨⟨q0, q1, q2, q3, q4, q5, q6⟩, r0, r1, r2, r3, r4, r5, r6⟩ := rb_cells M9.out.rb
      unfold rep0
      go_wp2_with fail
      clear q0 q1 q2 q3 q4 q5 q6 r0 r1 r2 r3 r4 r5 r6
      obtain ⟨W5, hW5⟩ : ∃ W5, W5 = setR W9 (w.heap.size + 1) (.int .i64 7) (.slice none 0 0) (.int .i64 0) (.int .i64 0) (.int .i64 0) (.slice none 0 0) (.bool false) := ⟨_, rfl⟩
      have hr5 := setR_at0 M9.out.rb (.int .i64 7) (.slice none 0 0) (.int .i64 0) (.int .i64 0) (.int .i64 0) (.slice none 0 0) (.bool false)
      have Z := M9.out.done HL.out (fun b hb => HF.out b hb) (.int .i64 7) (.slice none 0 0) (.int .i64 0) (.int .i64 0) (.int .i64 0) (.slice none 0 0) (.bool false)
      rw [← hW5] at hr5 Z
      unfold setR at hW5
      rw [← hW5]
      refine bodyPost_ret (ret_rep rfl _ _ (w.heap.size + 1) rfl hr5) rfl ?_
      exact GetSays.no HE0.out Z

    | true =>
      have HE0 := Lib.hid (show objOf σ ky = some ⟨os, ov, ob⟩ from by
        rw [HOV.out]
        exact objOf_some (by have := HOS.out; exact this) HOI.out.symm)
      have o0 := cell_blk2 M1.out.ob (i := 0) (u := .string os) rfl
      obtain ⟨W2, cp, hcv, hby, hbe, hlt2⟩ := bytes_made W1 os (by have := HOL.out; omega)
      have M2 := Lib.hid (M1.out.kept hbe)
      have o1 := cell_blk2 M2.out.ob (i := 1) (u := .int .i64 ov) rfl
      have o2 := cell_blk2 M2.out.ob (i := 2) (u := .int .i64 ob) rfl
      have HBY := Lib.hid hby
      have HUN := Lib.hid hlt2.2
      have HG := Lib.hid (show w.heap.size + 2 < W1.heap.size from (Array.getElem?_eq_some_iff.1 M1.out.ob).1)
      clear hby hbe hlt2
      obtain ⟨⟨q0, q1, q2, q3, q4, q5, q6⟩, r0, r1, r2, r3, r4, r5, r6⟩ := rb_cells M2.out.rb

      go_wp2_with fail
      clear o0 o1 o2 hcv
      clear q0 q1 q2 q3 q4 q5 q6 r0 r1 r2 r3 r4 r5 r6
      obtain ⟨W5, hW5⟩ : ∃ W5, W5 = setR W2 (w.heap.size + 1) (.int .i64 0) (.slice (some ⟨W1.heap.size, 0, none⟩) os.size cp) (.int .i64 ov) (.int .i64 ob) (.int .i64 0) (.slice none 0 0) (.bool false) := ⟨_, rfl⟩
      have hr5 := setR_at0 M2.out.rb (.int .i64 0) (.slice (some ⟨W1.heap.size, 0, none⟩) os.size cp) (.int .i64 ov) (.int .i64 ob) (.int .i64 0) (.slice none 0 0) (.bool false)
      have Z := M2.out.done HL.out (fun b hb => HF.out b hb) (.int .i64 0) (.slice (some ⟨W1.heap.size, 0, none⟩) os.size cp) (.int .i64 ov) (.int .i64 ob) (.int .i64 0) (.slice none 0 0) (.bool false)
      rw [← hW5] at hr5 Z
      unfold setR at hW5
      rw [← hW5]
      refine bodyPost_ret (ret_rep rfl _ _ (w.heap.size + 1) rfl hr5) rfl ?_
      have HB5 := bytes_setR (R := w.heap.size + 1) HBY.out (fun b off e => by cases e; have := HG.out; omega) (.int .i64 0) (.slice (some ⟨W1.heap.size, 0, none⟩) os.size cp) (.int .i64 ov) (.int .i64 ob) (.int .i64 0) (.slice none 0 0) (.bool false)
      have HU5 := unf_setR (R := w.heap.size + 1) HUN.out (by have := HG.out; omega) (.int .i64 0) (.slice (some ⟨W1.heap.size, 0, none⟩) os.size cp) (.int .i64 ov) (.int .i64 ob) (.int .i64 0) (.slice none 0 0) (.bool false)
      unfold setR at HB5 HU5
      rw [← hW5] at HB5 HU5
      exact GetSays.yes HE0.out (by have := HG.out; omega) HB5 HU5 Z
end Go.Proofs.YtjafagfhkpaciaaGreat
end PkSP4_6
section PkSP4_7
/- The store's Do of each kind: what it answers, what it leaves. -/
namespace Go.Proofs.YtjafagfhkpaciaaGreat
open Go.RowKit
set_option linter.unusedVariables false

section
variable {w : World} {s Mo Mu : Nat} {σ : Sto}
theorem SAt.nR (h : SAt w s Mo Mu σ) : ¬ StF s Mo Mu σ (w.heap.size + 1) := by
  intro hb
  rcases h with h | ⟨h, he, hMo, hMu⟩
  · have := h.lt hb; omega
  · have hs := h.lt
    rcases hb with g | g | g | ⟨p, hp, g⟩
    · omega
    · omega
    · omega
    · rw [he] at hp; cases hp
theorem bytes_s {cs : Array Value} (hb : w.heap[s]? = some (.cells cs 51 (0, 0))) (hc : ∀ (j : Nat) (z : Int), cs[j]? ≠ some (Value.int .u8 z)) {a : Option Addr} {n c : Nat} {xs : List Nat} (hx : BytesAt w a n c xs) : ∀ b off, a = some ⟨b, off, none⟩ → 0 < n → ¬ b = s := by
  intro b off ha hn e
  obtain ⟨b', off', ha', _, hcell⟩ := hx.cells hn
  rw [ha] at ha'
  cases ha'
  have h0 := hcell 0 hn
  rw [Nat.add_zero] at h0
  subst e
  rw [cell_of_row w b off _ _ (0, 0) hb] at h0
  exact hc _ _ h0
theorem stC_not (Mo Mu : Nat) (σ : Sto) : ∀ (j : Nat) (z : Int), (stC Mo Mu σ)[j]? ≠ some (Value.int .u8 z) := by
  intro j z h
  unfold stC at h
  rcases (by omega : j = 0 ∨ j = 1 ∨ j = 2 ∨ j = 3 ∨ j = 4 ∨ j = 5 ∨ 6 ≤ j) with rfl | rfl | rfl | rfl | rfl | rfl | g
  · simp at h
  · simp at h
  · simp at h
  · simp at h
  · simp at h
  · simp at h
  · rw [Array.getElem?_eq_none (by simpa using g)] at h; cases h
theorem SAt.bytes (h : SAt w s Mo Mu σ) {W0 : World} (hF : Frm (fun b => b = s) w W0) {a : Option Addr} {n c : Nat} {xs : List Nat} (hx : BytesAt w a n c xs) : BytesAt W0 a n c xs := by
  rcases h with h | ⟨⟨mu, h, _⟩, _⟩
  · exact bytes_frm hx hF (bytes_s h.blk (stC_not _ _ _) hx)
  · unfold freC at h
    refine bytes_frm hx hF (bytes_s h (fun j z e => ?_) hx)
    rcases (by omega : j = 0 ∨ j = 1 ∨ j = 2 ∨ j = 3 ∨ j = 4 ∨ j = 5 ∨ 6 ≤ j) with rfl | rfl | rfl | rfl | rfl | rfl | g
    · simp at e
    · simp at e
    · simp at e
    · simp at e
    · simp at e
    · simp at e
    · rw [Array.getElem?_eq_none (by simpa using g)] at e; cases e
theorem out_frm {W0 w1 w5 : World} (h1 : Frm (fun b => b = s) w W0) (h2 : Frm (StF s Mo Mu σ) W0 w1) (h3 : Frm (fun b => b = w.heap.size + 1) w1 w5) : Frm (StF s Mo Mu σ) w w5 :=
  ((h1.imp (fun i e => show StF s Mo Mu σ i from .inl e)).trans h2 (fun i hi => .inl hi)).trans h3 (fun i hi => .inr (by omega))
theorem out_st {W0 w1 w5 : World} {σ' : Sto} (h : SAt w s Mo Mu σ) (hz : w.heap.size + 2 ≤ W0.heap.size) (hst : StAt w1 s Mo Mu σ') (hsub : ∀ b, StF s Mo Mu σ' b → StF s Mo Mu σ b ∨ W0.heap.size ≤ b) (h3 : Frm (fun b => b = w.heap.size + 1) w1 w5) : StAt w5 s Mo Mu σ' :=
  hst.same fun b hb => h3.block b (hst.lt hb) (fun e => by
    rcases hsub b hb with g | g
    · rw [e] at g; exact h.nR g
    · omega)
end
/-- what is asked of a store -/
structure OkS (σ : Sto) : Prop where
  ver : 0 ≤ σ.ver ∧ σ.ver ≤ 1000000000
  id : 0 ≤ σ.id ∧ σ.id ≤ 1000000000
  siz : 0 ≤ σ.size ∧ σ.size ≤ 4194304
  nob : σ.objs.length ≤ 512
  old : ∀ k, oldLen σ k ≤ 262144
  upl : OkU σ
  usz : ∀ p ∈ σ.ups, (psz p.2.parts : Int) ≤ σ.size
  uky : ∀ p ∈ σ.ups, p.2.key.size ≤ 40
section
variable {w : World} {s Mo Mu : Nat} {σ : Sto} {vr at_ nn id : Int} {ky : ByteArray} {a : Option Addr} {n c : Nat} {xs : List Nat}
def PutD (w : World) (s Mo Mu : Nat) (σ : Sto) (er : Int) (ky d : ByteArray) (e : Ending) (w' : World) : Prop :=
  Frm (StF s Mo Mu σ) w w' ∧ (er ≠ 0 → e = .returned (rep0 er) ∧ StAt w' s Mo Mu σ) ∧ (er = 0 → e = .returned (rep 0 (.slice none 0 0) (σ.ver + 1) σ.now 0 (.slice none 0 0) false) ∧ StAt w' s Mo Mu (makeS σ ky d))
theorem put_meth {ki : Int} (h : SAt w s Mo Mu σ) (hx : BytesAt w a n c xs) (hk : ky.size ≤ 1000000000000000) (hok : OkS σ) : DoMeth w s Mo Mu σ 16 #[.int .i64 ki, .string ky, .slice a n c, .int .i64 vr, .int .i64 at_, .int .i64 nn, .int .i64 id] (fun W0 e w1 => PutSays W0 s Mo Mu σ (putE σ ki ky vr n) ky (bs xs) e w1) := by
  intro W0 h0 hF hz
  refine (put_any h0 (h.bytes hF hx) hk ⟨hok.ver.1, by have := hok.ver.2; omega, hok.siz.1, hok.siz.2⟩ (hok.old ky) hok.nob).mono fun e w1 hq => ⟨?_, hq, ?_⟩
  · rcases Classical.em (putE σ ki ky vr n = 0) with g | g
    · rw [(hq.2 g).1]; exact rep_shape _ _ _ _ _ _ _ _ _ _ _
    · rw [(hq.1 g).1]; exact rep0_shape _
  · rcases Classical.em (putE σ ki ky vr n = 0) with g | g
    · exact (hq.2 g).2.2
    · exact Frm.ofBelow (hq.1 g).2.2
theorem put_out {er : Int} {ky d : ByteArray} {e : Ending} {w5 : World} (h : SAt w s Mo Mu σ) (ho : DoOut w s Mo Mu σ (fun W0 e w1 => PutSays W0 s Mo Mu σ er ky d e w1) e w5) : PutD w s Mo Mu σ er ky d e w5 := by
  obtain ⟨W0, w1, h1, h2, h3, hq, h5, h6⟩ := ho
  exact ⟨out_frm h2 h5 h6, fun g => ⟨(hq.1 g).1, out_st h h3 (hq.1 g).2.1 (fun b hb => .inl hb) h6⟩, fun g => ⟨(hq.2 g).1, out_st h h3 (hq.2 g).2.1 (fun b hb => .inl hb) h6⟩⟩
theorem doPut (h : SAt w s Mo Mu σ) (hx : BytesAt w a n c xs) (hk : ky.size ≤ 1000000000000000) (hok : OkS σ) :
    Calls Tryz.prog 11 #[.pointer (some ⟨s, 0, none⟩), .agg #[.int .i64 1, .string ky, .slice a n c, .int .i64 vr, .int .i64 at_, .int .i64 nn, .int .i64 id]] w (PutD w s Mo Mu σ (putE σ 1 ky vr n) ky (bs xs)) :=
  (do_1 h (put_meth h hx hk hok)).mono fun e w5 ho => put_out h ho
theorem doPutIf (h : SAt w s Mo Mu σ) (hx : BytesAt w a n c xs) (hk : ky.size ≤ 1000000000000000) (hok : OkS σ) :
    Calls Tryz.prog 11 #[.pointer (some ⟨s, 0, none⟩), .agg #[.int .i64 2, .string ky, .slice a n c, .int .i64 vr, .int .i64 at_, .int .i64 nn, .int .i64 id]] w (PutD w s Mo Mu σ (putE σ 2 ky vr n) ky (bs xs)) :=
  (do_2 h (put_meth h hx hk hok)).mono fun e w5 ho => put_out h ho
def GetD (w : World) (s Mo Mu : Nat) (σ : Sto) (ky : ByteArray) (e : Ending) (w' : World) : Prop :=
  Frm (StF s Mo Mu σ) w w' ∧ StAt w' s Mo Mu σ ∧ match objOf σ ky with
  | none => e = .returned (rep0 7)
  | some o => ∃ g c, e = .returned (rep 0 (.slice (some ⟨g, 0, none⟩) o.data.size c) o.ver o.born 0 (.slice none 0 0) false) ∧ w.heap.size ≤ g ∧ BytesAt w' (some ⟨g, 0, none⟩) o.data.size c (numsOf o.data)
theorem doGet (h : SAt w s Mo Mu σ) (hk : ky.size ≤ 1000000000000000) (hok : OkS σ) :
    Calls Tryz.prog 11 #[.pointer (some ⟨s, 0, none⟩), .agg #[.int .i64 3, .string ky, .slice a n c, .int .i64 vr, .int .i64 at_, .int .i64 nn, .int .i64 id]] w (GetD w s Mo Mu σ ky) := by
  refine (do_3 h (Q := fun W0 e w1 => GetSays W0 s Mo Mu σ ky e w1) (fun W0 h0 hF hz => (get_any h0 hk (hok.old ky)).mono fun e w1 hq => ⟨?_, hq, ?_⟩)).mono fun e w5 ho => ?_
  · unfold GetSays at hq
    cases hg : objOf σ ky with
    | none => rw [hg] at hq; rw [hq.1]; exact rep0_shape _
    | some o => rw [hg] at hq; obtain ⟨g, c, he, _⟩ := hq; rw [he]; exact rep_shape _ _ _ _ _ _ _ _ _ _ _
  · unfold GetSays at hq
    cases hg : objOf σ ky with
    | none => rw [hg] at hq; exact Frm.ofBelow hq.2.2
    | some o => rw [hg] at hq; obtain ⟨g, c, he, _, _, _, hb, _⟩ := hq; exact Frm.ofBelow hb
  · obtain ⟨W0, w1, h1, h2, h3, hq, h5, h6⟩ := ho
    refine ⟨out_frm h2 h5 h6, ?_⟩
    unfold GetSays at hq
    cases hg : objOf σ ky with
    | none =>
      rw [hg] at hq
      exact ⟨out_st h h3 hq.2.1 (fun b hb => .inl hb) h6, hq.1⟩
    | some o =>
      rw [hg] at hq
      obtain ⟨g, c, he, hgg, hby, hst, hb, _⟩ := hq
      exact ⟨out_st h h3 hst (fun b hb => .inl hb) h6, g, c, he, by omega, bytes_frm hby h6 (fun b off e _ => by cases e; omega)⟩
def CreD (w : World) (s Mo Mu : Nat) (σ : Sto) (ky : ByteArray) (e : Ending) (w' : World) : Prop :=
  Frm (StF s Mo Mu σ) w w' ∧ (isKeyB ky = false → e = .returned (rep0 1) ∧ StAt w' s Mo Mu σ) ∧
  (isKeyB ky = true → 512 ≤ σ.ups.length → e = .returned (rep0 9) ∧ StAt w' s Mo Mu σ) ∧
  (isKeyB ky = true → σ.ups.length < 512 → ∃ pb, e = .returned (rep 0 (.slice none 0 0) 0 σ.now (σ.id + 1) (.slice none 0 0) false) ∧ w.heap.size ≤ pb ∧ StAt w' s Mo Mu (createS σ ky pb))
theorem doCreate (h : SAt w s Mo Mu σ) (hok : OkS σ) :
    Calls Tryz.prog 11 #[.pointer (some ⟨s, 0, none⟩), .agg #[.int .i64 7, .string ky, .slice a n c, .int .i64 vr, .int .i64 at_, .int .i64 nn, .int .i64 id]] w (CreD w s Mo Mu σ ky) := by
  have hcase : isKeyB ky = false ∨ (isKeyB ky = true ∧ 512 ≤ σ.ups.length) ∨ (isKeyB ky = true ∧ σ.ups.length < 512) := by
    cases isKeyB ky
    · exact .inl rfl
    · rcases Nat.lt_or_ge σ.ups.length 512 with g | g
      · exact .inr (.inr ⟨rfl, g⟩)
      · exact .inr (.inl ⟨rfl, g⟩)
  refine (do_7 h (Q := fun W0 e w1 => CreSays W0 s Mo Mu σ ky e w1) (fun W0 h0 hF hz => (create_any h0 ⟨hok.id.1, by have := hok.id.2; omega⟩).mono fun e w1 hq => ⟨?_, hq, ?_⟩)).mono fun e w5 ho => ?_
  · rcases hcase with g | ⟨g, g2⟩ | ⟨g, g2⟩
    · rw [(hq.1 g).1]; exact rep0_shape _
    · rw [(hq.2.1 g g2).1]; exact rep0_shape _
    · obtain ⟨pb, he, _⟩ := hq.2.2 g g2; rw [he]; exact rep_shape _ _ _ _ _ _ _ _ _ _ _
  · rcases hcase with g | ⟨g, g2⟩ | ⟨g, g2⟩
    · exact Frm.ofBelow (hq.1 g).2.2
    · exact Frm.ofBelow (hq.2.1 g g2).2.2
    · obtain ⟨pb, _, _, _, hf⟩ := hq.2.2 g g2; exact hf
  · obtain ⟨W0, w1, h1, h2, h3, hq, h5, h6⟩ := ho
    refine ⟨out_frm h2 h5 h6, fun g => ⟨(hq.1 g).1, out_st h h3 (hq.1 g).2.1 (fun b hb => .inl hb) h6⟩, fun g g2 => ⟨(hq.2.1 g g2).1, out_st h h3 (hq.2.1 g g2).2.1 (fun b hb => .inl hb) h6⟩, fun g g2 => ?_⟩
    obtain ⟨pb, he, hp, hst, _⟩ := hq.2.2 g g2
    exact ⟨pb, he, by omega, out_st h h3 hst (fun b hb => (cre_blk hb).elim .inl (fun e => .inr (by rw [e]; exact hp))) h6⟩
def PrtD (w : World) (s Mo Mu : Nat) (σ : Sto) (i nn : Int) (n : Nat) (d : ByteArray) (e : Ending) (w' : World) : Prop :=
  Frm (StF s Mo Mu σ) w w' ∧ (partE σ i nn n ≠ 0 → e = .returned (rep0 (partE σ i nn n)) ∧ StAt w' s Mo Mu σ) ∧
  (partE σ i nn n = 0 → ∃ u, upOf σ i = some u ∧ e = .returned (rep0 0) ∧ StAt w' s Mo Mu (partS σ i u nn d))
theorem doPart (h : SAt w s Mo Mu σ) (hx : BytesAt w a n c xs) (hid : (Lit.int .i64 id).wf = true) (hok : OkS σ) :
    Calls Tryz.prog 11 #[.pointer (some ⟨s, 0, none⟩), .agg #[.int .i64 8, .string ky, .slice a n c, .int .i64 vr, .int .i64 at_, .int .i64 nn, .int .i64 id]] w (PrtD w s Mo Mu σ id nn n (bs xs)) := by
  refine (do_8 h (Q := fun W0 e w1 => PrtSays W0 s Mo Mu σ id nn n (bs xs) e w1) (fun W0 h0 hF hz => (part_any h0 (h.bytes hF hx) hid hok.upl hok.siz).mono fun e w1 hq => ⟨?_, hq, ?_⟩)).mono fun e w5 ho => ?_
  · rcases Classical.em (partE σ id nn n = 0) with g | g
    · obtain ⟨u, _, he, _⟩ := hq.2 g; rw [he]; exact rep0_shape _
    · rw [(hq.1 g).1]; exact rep0_shape _
  · rcases Classical.em (partE σ id nn n = 0) with g | g
    · obtain ⟨u, _, _, _, hf⟩ := hq.2 g; exact hf
    · exact Frm.ofBelow (hq.1 g).2.2
  · obtain ⟨W0, w1, h1, h2, h3, hq, h5, h6⟩ := ho
    refine ⟨out_frm h2 h5 h6, fun g => ⟨(hq.1 g).1, out_st h h3 (hq.1 g).2.1 (fun b hb => .inl hb) h6⟩, fun g => ?_⟩
    obtain ⟨u, hu, he, hst, _⟩ := hq.2 g
    exact ⟨u, hu, he, out_st h h3 hst (fun b hb => .inl (part_blk hb)) h6⟩
def ComD (w : World) (s Mo Mu : Nat) (σ : Sto) (i nn : Int) (e : Ending) (w' : World) : Prop :=
  Frm (StF s Mo Mu σ) w w' ∧ (comE σ i nn ≠ 0 → e = .returned (rep0 (comE σ i nn)) ∧ StAt w' s Mo Mu σ) ∧
  (comE σ i nn = 0 → ∃ u d, upOf σ i = some u ∧ catP u.parts nn.toNat = some d ∧ e = .returned (rep 0 (.slice none 0 0) (σ.ver + 1) σ.now 0 (.slice none 0 0) false) ∧ StAt w' s Mo Mu (comS σ i u d))
theorem doComplete (h : SAt w s Mo Mu σ) (hid : (Lit.int .i64 id).wf = true) (hok : OkS σ) :
    Calls Tryz.prog 11 #[.pointer (some ⟨s, 0, none⟩), .agg #[.int .i64 9, .string ky, .slice a n c, .int .i64 vr, .int .i64 at_, .int .i64 nn, .int .i64 id]] w (ComD w s Mo Mu σ id nn) := by
  refine (do_9 h (Q := fun W0 e w1 => ComSays W0 s Mo Mu σ id nn e w1) (fun W0 h0 hF hz => (complete_any h0 hid hok.upl hok.siz hok.usz (fun p hp => Nat.le_trans (hok.uky p hp) (by decide)) ⟨hok.ver.1, by have := hok.ver.2; omega⟩ hok.nob hok.old).mono fun e w1 hq => ⟨?_, hq, ?_⟩)).mono fun e w5 ho => ?_
  · rcases Classical.em (comE σ id nn = 0) with g | g
    · obtain ⟨u, d, _, _, he, _⟩ := hq.2 g; rw [he]; exact rep_shape _ _ _ _ _ _ _ _ _ _ _
    · rw [(hq.1 g).1]; exact rep0_shape _
  · rcases Classical.em (comE σ id nn = 0) with g | g
    · obtain ⟨u, d, _, _, _, _, hf⟩ := hq.2 g; exact hf
    · exact Frm.ofBelow (hq.1 g).2.2
  · obtain ⟨W0, w1, h1, h2, h3, hq, h5, h6⟩ := ho
    refine ⟨out_frm h2 h5 h6, fun g => ⟨(hq.1 g).1, out_st h h3 (hq.1 g).2.1 (fun b hb => .inl hb) h6⟩, fun g => ?_⟩
    obtain ⟨u, d, hu, hd, he, hst, _⟩ := hq.2 g
    exact ⟨u, d, hu, hd, he, out_st h h3 hst (fun b hb => .inl (StF.drop (StF.make hb))) h6⟩
def AbtD (w : World) (s Mo Mu : Nat) (σ : Sto) (i : Int) (e : Ending) (w' : World) : Prop :=
  Frm (StF s Mo Mu σ) w w' ∧ match upOf σ i with
  | none => e = .returned (rep0 7) ∧ StAt w' s Mo Mu σ
  | some u => e = .returned (rep0 0) ∧ StAt w' s Mo Mu (dropS σ i (psz u.parts))
theorem doAbort (h : SAt w s Mo Mu σ) (hid : (Lit.int .i64 id).wf = true) (hok : OkS σ) :
    Calls Tryz.prog 11 #[.pointer (some ⟨s, 0, none⟩), .agg #[.int .i64 10, .string ky, .slice a n c, .int .i64 vr, .int .i64 at_, .int .i64 nn, .int .i64 id]] w (AbtD w s Mo Mu σ id) := by
  refine (do_10 h (Q := fun W0 e w1 => AbtSays W0 s Mo Mu σ id e w1) (fun W0 h0 hF hz => (abort_any h0 hid hok.upl hok.siz).mono fun e w1 hq => ⟨?_, hq, ?_⟩)).mono fun e w5 ho => ?_
  · unfold AbtSays at hq
    cases hg : upOf σ id with
    | none => rw [hg] at hq; rw [hq.1]; exact rep0_shape _
    | some o => rw [hg] at hq; rw [hq.1]; exact rep0_shape _
  · unfold AbtSays at hq
    cases hg : upOf σ id with
    | none => rw [hg] at hq; exact Frm.ofBelow hq.2.2
    | some o => rw [hg] at hq; exact hq.2.2
  · obtain ⟨W0, w1, h1, h2, h3, hq, h5, h6⟩ := ho
    refine ⟨out_frm h2 h5 h6, ?_⟩
    unfold AbtSays at hq
    cases hg : upOf σ id with
    | none => rw [hg] at hq; exact ⟨hq.1, out_st h h3 hq.2.1 (fun b hb => .inl hb) h6⟩
    | some o => rw [hg] at hq; exact ⟨hq.1, out_st h h3 hq.2.1 (fun b hb => .inl hb.drop) h6⟩
end
end Go.Proofs.YtjafagfhkpaciaaGreat
end PkSP4_7
section PkSP4_8
/- What holds of every store that calls have made, plainly. -/
namespace Go.Proofs.YtjafagfhkpaciaaGreat
open Go.RowKit
set_option linter.unusedVariables false

section
variable {κ α : Type} {lit : κ → Lit}
/-- keys that are told apart -/
structure LitOk (lit : κ → Lit) : Prop where
  inj : ∀ {i j}, lit i = lit j → i = j
  same : ∀ k, (lit k).sameKey (lit k) = true
theorem LitOk.iff (h : LitOk lit) (i j : κ) : (lit i).sameKey (lit j) = true ↔ i = j :=
  ⟨fun e => h.inj (WideAt.sameKey_eq e), fun e => by rw [e]; exact h.same j⟩
theorem get_ins_same (h : LitOk lit) {k : κ} {a : α} : ∀ {l : List (κ × α)}, (∀ p ∈ l, p.1 ≠ k) → getK lit k (insK lit (k, a) l) = some a
  | [], _ => by unfold insK getK; rw [List.find?_cons, show ((lit (k, a).1).sameKey (lit k)) = true from h.same k]; rfl
  | y :: r, hn => by
    unfold insK
    split
    · unfold getK; rw [List.find?_cons, show ((lit (k, a).1).sameKey (lit k)) = true from h.same k]; rfl
    · have h1 : (lit y.1).sameKey (lit k) = false := by
        rw [Bool.eq_false_iff]; intro e; exact hn y (List.mem_cons_self ..) ((h.iff _ _).1 e)
      have h2 := get_ins_same h (a := a) (l := r) (fun p hp => hn p (List.mem_cons_of_mem _ hp))
      unfold getK at h2 ⊢
      rw [List.find?_cons, h1]
      exact h2
theorem get_ins_ne (h : LitOk lit) {k j : κ} {a : α} (hne : j ≠ k) : ∀ {l : List (κ × α)}, getK lit j (insK lit (k, a) l) = getK lit j l
  | [] => by
    have h1 : (lit k).sameKey (lit j) = false := by rw [Bool.eq_false_iff]; intro e; exact hne ((h.iff _ _).1 e).symm
    unfold insK getK
    rw [List.find?_cons, show ((lit (k, a).1).sameKey (lit j)) = false from h1]
  | y :: r => by
    have h1 : (lit k).sameKey (lit j) = false := by rw [Bool.eq_false_iff]; intro e; exact hne ((h.iff _ _).1 e).symm
    unfold insK
    split
    · unfold getK; rw [List.find?_cons, show ((lit (k, a).1).sameKey (lit j)) = false from h1]
    · have h2 := get_ins_ne h (a := a) hne (l := r)
      unfold getK at h2 ⊢
      rw [List.find?_cons, List.find?_cons]
      split
      · rfl
      · exact h2
theorem mem_drop {k : κ} {l : List (κ × α)} {p : κ × α} (hm : p ∈ dropK lit k l) : p ∈ l := (List.mem_filter.1 hm).1
theorem drop_ne (h : LitOk lit) {k : κ} {l : List (κ × α)} {p : κ × α} (hm : p ∈ dropK lit k l) : p.1 ≠ k := fun e => by
  have h1 := (List.mem_filter.1 hm).2
  rw [(h.iff _ _).2 e] at h1
  cases h1
theorem get_drop_ne (h : LitOk lit) {k j : κ} (hne : j ≠ k) : ∀ {l : List (κ × α)}, getK lit j (dropK lit k l) = getK lit j l
  | [] => rfl
  | y :: r => by
    have h2 := get_drop_ne h hne (l := r)
    unfold dropK getK at h2 ⊢
    rw [List.filter_cons]
    cases hy : (lit y.1).sameKey (lit k) with
    | false =>
      rw [if_pos (by simp), List.find?_cons, List.find?_cons]
      split
      · rfl
      · exact h2
    | true =>
      have e := (h.iff _ _).1 hy
      have h3 : (lit y.1).sameKey (lit j) = false := by rw [Bool.eq_false_iff]; intro g; exact hne (((h.iff _ _).1 g).symm.trans e)
      rw [if_neg (by simp), List.find?_cons, h3]
      exact h2
theorem get_drop_same (h : LitOk lit) {k : κ} {l : List (κ × α)} : getK lit k (dropK lit k l) = none := by
  unfold getK
  rw [Option.map_eq_none_iff, List.find?_eq_none]
  intro p hp e
  exact drop_ne h hp ((h.iff _ _).1 e)
theorem get_put_same (h : LitOk lit) {k : κ} {a : α} {l : List (κ × α)} : getK lit k (putK lit k a l) = some a :=
  get_ins_same h fun p hp => drop_ne h hp
theorem get_put_ne (h : LitOk lit) {k j : κ} {a : α} (hne : j ≠ k) {l : List (κ × α)} : getK lit j (putK lit k a l) = getK lit j l :=
  (get_ins_ne h hne).trans (get_drop_ne h hne)
theorem get_none (h : LitOk lit) {k : κ} {l : List (κ × α)} : getK lit k l = none ↔ ∀ p ∈ l, p.1 ≠ k := by
  unfold getK
  rw [Option.map_eq_none_iff, List.find?_eq_none]
  exact ⟨fun g p hp e => g p hp ((h.iff _ _).2 e), fun g p hp e => g p hp ((h.iff _ _).1 e)⟩
theorem drop_id (h : LitOk lit) {k : κ} {l : List (κ × α)} (hg : getK lit k l = none) : dropK lit k l = l := by
  unfold dropK
  rw [List.filter_eq_self]
  intro p hp
  rw [Bool.not_eq_true', Bool.eq_false_iff]
  intro e
  exact (get_none h).1 hg p hp ((h.iff _ _).1 e)
theorem ins_len (x : κ × α) : ∀ l : List (κ × α), (insK lit x l).length = l.length + 1
  | [] => rfl
  | y :: r => by
    unfold insK
    split
    · rfl
    · rw [List.length_cons, ins_len x r, List.length_cons]
theorem tot_ins (g : α → Nat) (x : κ × α) : ∀ l : List (κ × α), totK g (insK lit x l) = totK g l + g x.2
  | [] => by simp [insK, totK]
  | y :: r => by
    have ih := tot_ins g x r
    unfold totK at ih ⊢
    unfold insK
    split
    · simp only [List.map_cons, List.sum_cons]; omega
    · simp only [List.map_cons, List.sum_cons, ih]; omega
def gotN (g : α → Nat) : Option α → Nat
  | some a => g a
  | none => 0
theorem drop_tot (h : LitOk lit) (g : α → Nat) {k : κ} : ∀ {l : List (κ × α)}, l.Pairwise (fun p q => lit p.1 ≠ lit q.1) → totK g (dropK lit k l) + gotN g (getK lit k l) = totK g l ∧ (dropK lit k l).length + (if (getK lit k l).isSome = true then 1 else 0) = l.length
  | [], _ => ⟨rfl, rfl⟩
  | y :: r, hp => by
    obtain ⟨h1, h2⟩ := List.pairwise_cons.1 hp
    obtain ⟨ih1, ih2⟩ := drop_tot h g (k := k) h2
    cases hy : (lit y.1).sameKey (lit k) with
    | false =>
      have e1 : dropK lit k (y :: r) = y :: dropK lit k r := by unfold dropK; rw [List.filter_cons, if_pos (by simp [hy])]
      have e2 : getK lit k (y :: r) = getK lit k r := by unfold getK; rw [List.find?_cons, hy]
      rw [e1, e2]
      unfold totK at ih1 ⊢
      simp only [List.map_cons, List.sum_cons, List.length_cons]
      exact ⟨by omega, by omega⟩
    | true =>
      have e := (h.iff _ _).1 hy
      have hn : getK lit k r = none := (get_none h).2 fun p hp' e' => h1 p hp' (by rw [e, e'])
      have e1 : dropK lit k (y :: r) = r := by
        have := drop_id h hn
        unfold dropK at this ⊢
        rw [List.filter_cons, if_neg (by simp [hy]), this]
      have e2 : getK lit k (y :: r) = some y.2 := by unfold getK; rw [List.find?_cons, hy]; rfl
      rw [e1, e2]
      unfold totK
      simp only [List.map_cons, List.sum_cons, List.length_cons, gotN, Option.isSome_some, if_pos]
      exact ⟨by omega, trivial⟩
theorem put_tot (h : LitOk lit) (g : α → Nat) {k : κ} {a : α} {l : List (κ × α)} (hp : l.Pairwise (fun p q => lit p.1 ≠ lit q.1)) : totK g (putK lit k a l) + gotN g (getK lit k l) = totK g l + g a := by
  have h1 := (drop_tot h g (k := k) hp).1
  unfold putK
  rw [tot_ins]
  show totK g (dropK lit k l) + g a + _ = _
  omega
theorem put_len (h : LitOk lit) {k : κ} {a : α} {l : List (κ × α)} (hp : l.Pairwise (fun p q => lit p.1 ≠ lit q.1)) : (putK lit k a l).length + (if (getK lit k l).isSome = true then 1 else 0) = l.length + 1 := by
  have h1 := (drop_tot h (fun _ => 0) (k := k) hp).2
  unfold putK
  rw [ins_len]
  omega
end
theorem litS : LitOk slit := ⟨slit_inj, fun k => by simp [slit, Lit.sameKey]⟩
theorem litI : LitOk ilit := ⟨ilit_inj, fun k => by simp [ilit, Lit.sameKey]⟩
/-- numbers that rise within bounds are few -/
theorem rise_len : ∀ (l : List Int) (a : Int), l.Pairwise (· < ·) → (∀ x ∈ l, a ≤ x ∧ x ≤ 32) → (l.length : Int) ≤ max 0 (33 - a)
  | [], a, _, _ => by simp; omega
  | x :: r, a, hp, hb => by
    obtain ⟨h1, h2⟩ := List.pairwise_cons.1 hp
    have hx := hb x (List.mem_cons_self ..)
    have := rise_len r (x + 1) h2 fun y hy => ⟨h1 y hy, (hb y (List.mem_cons_of_mem _ hy)).2⟩
    rw [List.length_cons]
    omega
def oSz (o : ObjS) : Nat := o.data.size
def uSz (u : UplS) : Nat := psz u.parts
/-- a store as calls make it -/
structure Inv (σ : Sto) : Prop where
  ver : 0 ≤ σ.ver
  id : 0 ≤ σ.id
  now : 0 ≤ σ.now
  siz : σ.size ≤ 4194304
  tot : σ.size = ((totK oSz σ.objs : Nat) : Int) + ((totK uSz σ.ups : Nat) : Int)
  nob : σ.objs.length ≤ 512
  nup : σ.ups.length ≤ 512
  obj : ∀ p ∈ σ.objs, isKeyB p.1 = true ∧ p.2.data.size ≤ 262144 ∧ 1 ≤ p.2.ver ∧ p.2.ver ≤ σ.ver ∧ 0 ≤ p.2.born ∧ p.2.born ≤ σ.now
  upl : ∀ p ∈ σ.ups, 1 ≤ p.1 ∧ p.1 ≤ σ.id ∧ isKeyB p.2.key = true ∧ 0 ≤ p.2.born ∧ p.2.born ≤ σ.now ∧ p.2.parts.length ≤ 32
  prt : ∀ p ∈ σ.ups, ∀ x ∈ p.2.parts, 1 ≤ x.1 ∧ x.1 ≤ 32 ∧ x.2.size ≤ 262144
/-- the lists of a store that lies in memory are told apart -/
structure Apt (σ : Sto) : Prop where
  obj : σ.objs.Pairwise fun p q => slit p.1 ≠ slit q.1
  upl : σ.ups.Pairwise fun p q => ilit p.1 ≠ ilit q.1
  prt : ∀ p ∈ σ.ups, p.2.parts.Pairwise fun x y => (ilit x.1).before (ilit y.1) = true
theorem inv0 : Inv (sto0 0) := ⟨by decide, by decide, by decide, by decide, by decide, by decide, by decide, (fun p hp => by cases hp), (fun p hp => by cases hp), (fun p hp => by cases hp)⟩
theorem Inv.ok {σ : Sto} (h : Inv σ) (hv : σ.ver ≤ 1000000000) (hi : σ.id ≤ 1000000000) : OkS σ where
  ver := ⟨h.ver, hv⟩
  id := ⟨h.id, hi⟩
  siz := ⟨by rw [h.tot]; omega, h.siz⟩
  nob := h.nob
  old := fun k => by
    unfold oldLen
    cases hk : objOf σ k with
    | none => exact Nat.zero_le _
    | some o => exact (h.obj _ (get_mem (slit_inj) hk)).2.1
  upl := ⟨fun p hp x hx => ⟨(h.prt p hp x hx).1, (h.prt p hp x hx).2.1⟩, fun p hp => by
    have h1 : psz p.2.parts ≤ totK uSz σ.ups := tot_mem uSz hp
    have h2 := h.siz
    have h3 := h.tot
    omega, fun p hp => (h.upl p hp).2.2.2.2.2⟩
  usz := fun p hp => by
    have h1 : psz p.2.parts ≤ totK uSz σ.ups := tot_mem uSz hp
    have h3 := h.tot
    omega
  uky := fun p hp => by
    have h1 := (h.upl p hp).2.2.1
    unfold isKeyB at h1
    simp only [Bool.and_eq_true, decide_eq_true_eq] at h1
    exact h1.1.2
theorem got_old (σ : Sto) (k : ByteArray) : gotN oSz (getK slit k σ.objs) = oldLen σ k := by
  unfold oldLen objOf
  cases getK slit k σ.objs <;> rfl
theorem Inv.make {σ : Sto} (h : Inv σ) (ha : Apt σ) {k d : ByteArray} (hk : isKeyB k = true) (hd : d.size ≤ 262144) (hn : (objOf σ k).isNone = true → σ.objs.length < 512) (hz : σ.size + ((d.size : Int) - (oldLen σ k : Int)) ≤ 4194304) : Inv (makeS σ k d) where
  ver := by have := h.ver; unfold makeS; simp only; omega
  id := h.id
  now := h.now
  siz := hz
  tot := by
    have h1 := put_tot litS oSz (k := k) (a := ⟨d, σ.ver + 1, σ.now⟩) ha.obj
    rw [got_old] at h1
    have h2 := h.tot
    unfold makeS
    simp only
    unfold oSz at h1 h2 ⊢
    simp only at h1
    omega
  nob := by
    have h1 := put_len litS (k := k) (a := (⟨d, σ.ver + 1, σ.now⟩ : ObjS)) ha.obj
    have h2 := h.nob
    unfold makeS
    simp only
    unfold objOf at hn
    cases hg : getK slit k σ.objs with
    | none => have := hn (by rw [hg]; rfl); rw [hg] at h1; simp at h1; omega
    | some o => rw [hg] at h1; simp at h1; omega
  nup := h.nup
  obj := fun p hp => by
    have hv := h.ver
    have hw := h.now
    rcases mem_put hp with rfl | g
    · exact ⟨hk, hd, by show 1 ≤ σ.ver + 1; omega, Int.le_refl _, hw, Int.le_refl _⟩
    · obtain ⟨q1, q2, q3, q4, q5, q6⟩ := h.obj p g
      exact ⟨q1, q2, q3, by unfold makeS; simp only; omega, q5, q6⟩
  upl := h.upl
  prt := h.prt
theorem Inv.create {σ : Sto} (h : Inv σ) (ha : Apt σ) {k : ByteArray} {pb : Nat} (hk : isKeyB k = true) (hn : σ.ups.length < 512) : Inv (createS σ k pb) where
  ver := h.ver
  id := by have := h.id; unfold createS; simp only; omega
  now := h.now
  siz := h.siz
  tot := by
    have hno : getK ilit (σ.id + 1) σ.ups = none := (get_none litI).2 fun p hp e => by have := (h.upl p hp).2.1; omega
    have h1 := put_tot litI uSz (k := σ.id + 1) (a := (⟨k, σ.now, pb, []⟩ : UplS)) ha.upl
    rw [hno] at h1
    have h2 := h.tot
    unfold createS
    simp only
    have h3 : uSz (⟨k, σ.now, pb, []⟩ : UplS) = 0 := rfl
    rw [h3] at h1
    simp only [gotN] at h1
    omega
  nob := h.nob
  nup := by
    have h1 := put_len litI (k := σ.id + 1) (a := (⟨k, σ.now, pb, []⟩ : UplS)) ha.upl
    unfold createS
    simp only
    omega
  obj := h.obj
  upl := fun p hp => by
    have hi := h.id
    have hw := h.now
    rcases mem_put hp with rfl | g
    · exact ⟨by show 1 ≤ σ.id + 1; omega, Int.le_refl _, hk, hw, Int.le_refl _, Nat.zero_le _⟩
    · obtain ⟨q1, q2, q3, q4, q5, q6⟩ := h.upl p g
      exact ⟨q1, by unfold createS; simp only; omega, q3, q4, q5, q6⟩
  prt := fun p hp x hx => by
    rcases mem_put hp with rfl | g
    · cases hx
    · exact h.prt p g x hx
theorem tot_cons {κ α : Type} (g : α → Nat) (y : κ × α) (r : List (κ × α)) : totK g (y :: r) = g y.2 + totK g r := by unfold totK; rw [List.map_cons, List.sum_cons]
theorem set_tot (i : Int) (ps : List (Int × ByteArray)) : ∀ {l : List (Int × UplS)}, l.Pairwise (fun p q => ilit p.1 ≠ ilit q.1) → ∀ {u : UplS}, (i, u) ∈ l → totK uSz (setParts i ps l) + psz u.parts = totK uSz l + psz ps
  | [], _, u, hu => by cases hu
  | y :: r, hp, u, hu => by
    obtain ⟨h1, h2⟩ := List.pairwise_cons.1 hp
    rcases List.mem_cons.1 hu with e | g
    · subst e
      have e2 : setParts i ps r = r := by
        unfold setParts
        refine (List.map_congr_left (g := id) fun p hp' => ?_).trans (List.map_id _)
        rw [if_neg (fun e => h1 p hp' (by rw [e]))]
        rfl
      have e3 : setParts i ps ((i, u) :: r) = (i, { u with parts := ps }) :: setParts i ps r := by
        unfold setParts
        rw [List.map_cons, if_pos rfl]
      rw [e3, e2, tot_cons, tot_cons]
      show psz ps + _ + _ = psz u.parts + _ + _
      omega
    · have ih := set_tot i ps h2 g
      have e3 : setParts i ps (y :: r) = y :: setParts i ps r := by
        unfold setParts
        rw [List.map_cons, if_neg (fun e => h1 (i, u) g (by rw [e]))]
      rw [e3, tot_cons, tot_cons]
      omega
theorem got_oldP (u : UplS) (n : Int) : gotN (fun d : ByteArray => d.size) (getK ilit n u.parts) = oldP u n := by
  unfold oldP
  cases getK ilit n u.parts <;> rfl
theorem rise_apart {κ α : Type} {lit : κ → Lit} (h0 : ∀ k, (lit k).before (lit k) = false) {l : List (κ × α)} (h : l.Pairwise fun x y => (lit x.1).before (lit y.1) = true) : l.Pairwise fun x y => lit x.1 ≠ lit y.1 :=
  h.imp fun {x y} hb e => by rw [e, h0] at hb; cases hb
theorem before_int (k : Int) : (ilit k).before (ilit k) = false := by simp [ilit, Lit.before]
theorem ins_rise {x : Int × ByteArray} : ∀ {l : List (Int × ByteArray)}, l.Pairwise (fun p q => (ilit p.1).before (ilit q.1) = true) → (∀ p ∈ l, p.1 ≠ x.1) → (insK ilit x l).Pairwise fun p q => (ilit p.1).before (ilit q.1) = true
  | [], _, _ => List.pairwise_singleton _ _
  | y :: r, hp, hn => by
    obtain ⟨h1, h2⟩ := List.pairwise_cons.1 hp
    unfold insK
    split
    · rename_i hb
      refine List.pairwise_cons.2 ⟨fun p hp' => ?_, hp⟩
      rcases List.mem_cons.1 hp' with rfl | g
      · exact hb
      · have := h1 p g
        simp only [ilit, Lit.before, decide_eq_true_eq] at *
        omega
    · rename_i hb
      refine List.pairwise_cons.2 ⟨fun p hp' => ?_, ins_rise h2 fun p hp' => hn p (List.mem_cons_of_mem _ hp')⟩
      rcases mem_ins hp' with rfl | g
      · have := hn y (List.mem_cons_self ..)
        simp only [ilit, Lit.before, decide_eq_true_eq] at *
        omega
      · exact h1 p g
theorem put_rise {n : Int} {d : ByteArray} {l : List (Int × ByteArray)} (h : l.Pairwise fun p q => (ilit p.1).before (ilit q.1) = true) : (putK ilit n d l).Pairwise fun p q => (ilit p.1).before (ilit q.1) = true :=
  ins_rise (h.filter _) fun p hp => drop_ne litI hp
theorem rise_ints {l : List (Int × ByteArray)} (h : l.Pairwise fun p q => (ilit p.1).before (ilit q.1) = true) : (l.map (·.1)).Pairwise (· < ·) :=
  List.pairwise_map.2 (h.imp fun {p q} hb => by simpa [ilit, Lit.before] using hb)
theorem Inv.part {σ : Sto} (h : Inv σ) (ha : Apt σ) {i n : Int} {u : UplS} {d : ByteArray} (hu : upOf σ i = some u) (hn : 1 ≤ n ∧ n ≤ 32) (hd : d.size ≤ 262144) (hz : σ.size + ((d.size : Int) - (oldP u n : Int)) ≤ 4194304) : Inv (partS σ i u n d) := by
  have hm : (i, u) ∈ σ.ups := get_mem ilit_inj hu
  have hr := ha.prt _ hm
  have hput : ∀ x ∈ putK ilit n d u.parts, 1 ≤ x.1 ∧ x.1 ≤ 32 ∧ x.2.size ≤ 262144 := fun x hx => by
    rcases mem_put hx with rfl | g
    · exact ⟨hn.1, hn.2, hd⟩
    · exact h.prt _ hm x g
  refine ⟨h.ver, h.id, h.now, hz, ?_, h.nob, ?_, h.obj, ?_, ?_⟩
  · have h1 := set_tot i (putK ilit n d u.parts) ha.upl hm
    have h2 := put_tot litI (fun d : ByteArray => d.size) (k := n) (a := d) (rise_apart before_int hr)
    rw [got_oldP] at h2
    have h3 := h.tot
    unfold psz at h1
    unfold partS
    simp only
    simp only at h2
    omega
  · unfold partS setParts
    simp only
    rw [List.length_map]
    exact h.nup
  · intro p hp
    obtain ⟨q, hq, e1, e2, e3, e4, e5⟩ := mem_setParts hp
    obtain ⟨r1, r2, r3, r4, r5, r6⟩ := h.upl q hq
    rw [e1, e3, e4]
    refine ⟨r1, r2, r3, r4, r5, ?_⟩
    rcases e5 with ⟨_, e⟩ | ⟨_, e⟩
    · rw [e]
      have h1 := rise_len _ 1 (rise_ints (put_rise hr)) (fun x hx => by
        obtain ⟨y, hy, rfl⟩ := List.mem_map.1 hx
        exact ⟨(hput y hy).1, (hput y hy).2.1⟩)
      rw [List.length_map] at h1
      have h2 : max 0 ((33 : Int) - 1) = 32 := by decide
      rw [h2] at h1
      exact Int.ofNat_le.1 h1
    · rw [e]; exact r6
  · intro p hp x hx
    obtain ⟨q, hq, e1, e2, e3, e4, e5⟩ := mem_setParts hp
    rcases e5 with ⟨_, e⟩ | ⟨_, e⟩
    · rw [e] at hx; exact hput x hx
    · rw [e] at hx; exact h.prt q hq x hx
theorem Inv.drop {σ : Sto} (h : Inv σ) (ha : Apt σ) {i : Int} {u : UplS} (hu : upOf σ i = some u) : Inv (dropS σ i (psz u.parts)) := by
  have h1 := drop_tot litI uSz (k := i) ha.upl
  have hg : getK ilit i σ.ups = some u := hu
  rw [hg] at h1
  have h2 := h.tot
  have h3 := h.siz
  have h4 := h.nup
  simp only [gotN, Option.isSome_some, if_pos] at h1
  have h5 : uSz u = psz u.parts := rfl
  rw [h5] at h1
  refine ⟨h.ver, h.id, h.now, ?_, ?_, h.nob, ?_, h.obj, fun p hp => h.upl p (mem_drop hp), fun p hp => h.prt p (mem_drop hp)⟩
  · unfold dropS; simp only; omega
  · unfold dropS; simp only; omega
  · unfold dropS; simp only; omega
theorem Apt.of {w : World} {s Mo Mu : Nat} {σ : Sto} (h : SAt w s Mo Mu σ) : Apt σ := by
  rcases h with h | ⟨_, e, _⟩
  · refine ⟨h.obj.apart, h.upl.apart, fun p hp => ?_⟩
    have hg := h.prt p hp
    obtain ⟨es, he, hpw, _⟩ := World.ownsMap.canon hg TP.K
    have e1 : es = encK ilit prtC p.2.parts := by cases he; rfl
    rw [e1] at hpw
    unfold encK at hpw
    exact (List.pairwise_map (f := fun p : Int × ByteArray => (ilit p.1, (DataW.held (prtC p.2) : DataW Value))) (R := fun p q => p.1.before q.1 = true)).1 hpw
  · rw [e]
    exact ⟨List.Pairwise.nil, List.Pairwise.nil, fun p hp => by cases hp⟩
end Go.Proofs.YtjafagfhkpaciaaGreat
end PkSP4_8
section PkSP4_9
/- The store's remove, walked. Written by genstorem.py. -/
namespace Go.Proofs.YtjafagfhkpaciaaGreat
open Go.RowKit
set_option linter.unusedVariables false

def remS (σ : Sto) (k : ByteArray) : Sto := { σ with size := σ.size - (oldLen σ k : Int), objs := dropK slit k σ.objs }
def RemSays (w : World) (s Mo Mu : Nat) (σ : Sto) (ky : ByteArray) (e : Ending) (w' : World) : Prop :=
  match objOf σ ky with
  | none => e = .returned (rep0 7) ∧ StAt w' s Mo Mu σ ∧ Below w.heap.size w w'
  | some o => e = .returned (rep0 0) ∧ StAt w' s Mo Mu (remS σ ky) ∧ Frm (StF s Mo Mu σ) w w'
theorem RemSays.no {w w' : World} {s Mo Mu : Nat} {σ : Sto} {ky : ByteArray} (h : objOf σ ky = none) (Z : StAt w' s Mo Mu σ ∧ Below w.heap.size w w') : RemSays w s Mo Mu σ ky (.returned (rep0 7)) w' := by
  unfold RemSays; rw [h]; exact ⟨rfl, Z.1, Z.2⟩
theorem RemSays.yes {w w' : World} {s Mo Mu : Nat} {σ : Sto} {ky : ByteArray} {o : ObjS} (h : objOf σ ky = some o) (Z : StAt w' s Mo Mu (remS σ ky) ∧ Frm (StF s Mo Mu σ) w w') : RemSays w s Mo Mu σ ky (.returned (rep0 0)) w' := by
  unfold RemSays; rw [h]; exact ⟨rfl, Z.1, Z.2⟩
set_option maxRecDepth 100000 in
set_option maxHeartbeats 4000000 in
theorem remove_any {w : World} {s Mo Mu : Nat} {σ : Sto} (h : StAt w s Mo Mu σ) {ki vr at_ nn id : Int} {ky : ByteArray} {a : Option Addr} {n c : Nat} (hk : ky.size ≤ 1000000000000000) (ho : oldLen σ ky ≤ 262144) (hz : 0 ≤ σ.size ∧ σ.size ≤ 4194304) :
    Calls Tryz.prog 20 #[.pointer (some ⟨s, 0, none⟩), .agg #[.int .i64 ki, .string ky, .slice a n c, .int .i64 vr, .int .i64 at_, .int .i64 nn, .int .i64 id]] w (RemSays w s Mo Mu σ ky) := by
  have HE := Lib.hid (ent_mk h #[.int .i64 ki, .string ky, .slice a n c, .int .i64 vr, .int .i64 at_, .int .i64 nn, .int .i64 id])
  have HL := Lib.hid h.lts
  have HF := Lib.hid (show ∀ b, StF s Mo Mu σ b → b < w.heap.size from fun b hb => h.lt hb)
  have HS := Lib.hid h
  clear h
  go_enter Tryz.func20, Tryz.ntmps20
  go_wp2_with fail
  obtain ⟨W0, hW0⟩ : ∃ W0, W0 = (w.alloc (.cells #[.int .i64 ki, .string ky, .slice a n c, .int .i64 vr, .int .i64 at_, .int .i64 nn, .int .i64 id] 34)).alloc (.cells zrep 43) := ⟨_, rfl⟩
  rw [← hW0] at HE
  unfold zrep at hW0
  rw [← hW0]
  clear hW0
  have hk0 : w.heap.size < W0.heap.size := by have := HE.out.sz; omega
  have hr0 : w.heap.size + 1 < W0.heap.size := by have := HE.out.sz; omega
  have hs0 := HE.out.st.lts
  have ez0 := Lib.hid HE.out.sz
  obtain ⟨os, ob, hos, hol⟩ := field_obj2 σ ky
  obtain ⟨ov, hov⟩ : ∃ ov, ov = oldVer σ ky := ⟨_, rfl⟩
  obtain ⟨oi, hoi⟩ : ∃ oi, oi = (getK slit ky σ.objs).isSome := ⟨_, rfl⟩
  have HOS := Lib.hid hos
  have HLA := Lib.hid (show ∀ w9, Below W0.heap.size W0 w9 → (Instr.lookup 48 (.map (some Mo)) (.string ky) true).run Tryz.prog w9 = .ok (.tuple #[.agg #[.string os, .int .i64 ov, .int .i64 ob], .bool oi]) w9 from fun w9 h9 => by
    have h8 := lookO2 (HE.out.st.obj.below h9) ky hk
    rw [hos, ← hoi, ← hov] at h8
    exact h8)
  have HOL := Lib.hid hol
  have HOI := Lib.hid hoi
  have HOV := Lib.hid hov
  clear hos hol hoi hov
  refine wp_region_inv (by kernel_rfl) (by kernel_rfl) (by kernel_rfl) (OB W0 (.cells #[.string { data := #[] }, .int .i64 0, .int .i64 0] 74) (.cells #[.string os, .int .i64 ov, .int .i64 ob] 74) (fun j_9 => match j_9 with | 0 => some (.pointer (some ⟨s, 0, none⟩)) | 1 => some (.pointer (some ⟨s, 0, none⟩)) | 2 => some (.pointer (some ⟨s, 0, none⟩)) | 3 => some (.map (some Mo)) | 4 => some (.pointer (some ⟨w.heap.size, 1, none⟩)) | 5 => some (.string ky) | 6 => some (.tuple #[.agg #[.string os, .int .i64 ov, .int .i64 ob], .bool oi]) | 7 => some (.tuple #[.agg #[.string os, .int .i64 ov, .int .i64 ob], .bool oi]) | 8 => some (.agg #[.string os, .int .i64 ov, .int .i64 ob]) | 9 => some (.bool oi) | 10 => some (.pointer (some ⟨W0.heap.size, 0, none⟩)) | 11 => none | 12 => some (.bool oi) | _ => none) 10 11) (fun V => OB.start V) ?_ ?_
  · intro j9 o ho L9 V w9 K hI hL hdep hK
    have HI9 := Lib.hid hI
    have hJ := hI.below
    simp only [fill, slotOf, List.size_toArray, List.length_cons, List.length_nil, Nat.reduceAdd, List.getElem?_toArray, List.getElem?_cons_zero, List.getElem?_cons_succ, Option.bind_some, Act.put, List.setIfInBounds_toArray, List.set_cons_zero, List.set_cons_succ] at hK ⊢
    have hin : j9 < 13 := (Array.getElem?_eq_some_iff.1 ho).1
    have hcs : j9 = 0 ∨ j9 = 1 ∨ j9 = 2 ∨ j9 = 3 ∨ j9 = 4 ∨ j9 = 5 ∨ j9 = 6 ∨ j9 = 7 ∨ j9 = 8 ∨ j9 = 9 ∨ j9 = 10 ∨ j9 = 11 ∨ j9 = 12 := by omega
    clear hin
    rcases hcs with rfl | rfl | rfl | rfl | rfl | rfl | rfl | rfl | rfl | rfl | rfl | rfl | rfl
    · obtain rfl := Option.some.inj ho.symm
      clear hdep ho hI hL hJ
      try simp only [fill, slotOf, List.size_toArray, List.length_cons, List.length_nil, Nat.reduceAdd, List.getElem?_toArray, List.getElem?_cons_zero, List.getElem?_cons_succ, Option.bind_some, Act.put, List.setIfInBounds_toArray, List.set_cons_zero, List.set_cons_succ] at hK ⊢
      go_simp
      exact hK (.pointer (some ⟨s, 0, none⟩)) _ (HI9.out.put 0 _ (by decide) (fun v h => Option.some.inj h)) _ rfl
    · obtain rfl := Option.some.inj ho.symm
      have d0 : V 0 = .pointer (some ⟨s, 0, none⟩) := hI.val 0 _ (hdep ⟨0, .data⟩ (by simp) rfl) rfl
      clear hdep ho hI hL hJ
      try simp only [fill, slotOf, List.size_toArray, List.length_cons, List.length_nil, Nat.reduceAdd, List.getElem?_toArray, List.getElem?_cons_zero, List.getElem?_cons_succ, Option.bind_some, Act.put, List.setIfInBounds_toArray, List.set_cons_zero, List.set_cons_succ] at hK ⊢
      rw [d0] at hK ⊢
      go_simp
      exact hK (.pointer (some ⟨s, 0, none⟩)) _ (HI9.out.put 1 _ (by decide) (fun v h => Option.some.inj h)) _ rfl
    · obtain rfl := Option.some.inj ho.symm
      have d1 : V 1 = .pointer (some ⟨s, 0, none⟩) := hI.val 1 _ (hdep ⟨1, .data⟩ (by simp) rfl) rfl
      clear hdep ho hI hL hJ
      try simp only [fill, slotOf, List.size_toArray, List.length_cons, List.length_nil, Nat.reduceAdd, List.getElem?_toArray, List.getElem?_cons_zero, List.getElem?_cons_succ, Option.bind_some, Act.put, List.setIfInBounds_toArray, List.set_cons_zero, List.set_cons_succ] at hK ⊢
      rw [d1] at hK ⊢
      go_simp
      exact hK (.pointer (some ⟨s, 0, none⟩)) _ (HI9.out.put 2 _ (by decide) (fun v h => Option.some.inj h)) _ rfl
    · obtain rfl := Option.some.inj ho.symm
      have d2 : V 2 = .pointer (some ⟨s, 0, none⟩) := hI.val 2 _ (hdep ⟨2, .data⟩ (by simp) rfl) rfl
      have g9 := cell_blk2 ((hJ.block s hs0).trans HE.out.st.blk) (i := 0) (u := .map (some Mo)) rfl
      clear hdep ho hI hL hJ
      try simp only [fill, slotOf, List.size_toArray, List.length_cons, List.length_nil, Nat.reduceAdd, List.getElem?_toArray, List.getElem?_cons_zero, List.getElem?_cons_succ, Option.bind_some, Act.put, List.setIfInBounds_toArray, List.set_cons_zero, List.set_cons_succ] at hK ⊢
      rw [d2] at hK ⊢
      go_simp
      exact hK (.map (some Mo)) _ (HI9.out.put 3 _ (by decide) (fun v h => Option.some.inj h)) _ rfl
    · obtain rfl := Option.some.inj ho.symm
      clear hdep ho hI hL hJ
      try simp only [fill, slotOf, List.size_toArray, List.length_cons, List.length_nil, Nat.reduceAdd, List.getElem?_toArray, List.getElem?_cons_zero, List.getElem?_cons_succ, Option.bind_some, Act.put, List.setIfInBounds_toArray, List.set_cons_zero, List.set_cons_succ] at hK ⊢
      go_simp
      exact hK (.pointer (some ⟨w.heap.size, 1, none⟩)) _ (HI9.out.put 4 _ (by decide) (fun v h => Option.some.inj h)) _ rfl
    · obtain rfl := Option.some.inj ho.symm
      have d4 : V 4 = .pointer (some ⟨w.heap.size, 1, none⟩) := hI.val 4 _ (hdep ⟨4, .data⟩ (by simp) rfl) rfl
      have g9 := cell_blk2 ((hJ.block w.heap.size hk0).trans HE.out.cb) (i := 1) (u := .string ky) rfl
      clear hdep ho hI hL hJ
      try simp only [fill, slotOf, List.size_toArray, List.length_cons, List.length_nil, Nat.reduceAdd, List.getElem?_toArray, List.getElem?_cons_zero, List.getElem?_cons_succ, Option.bind_some, Act.put, List.setIfInBounds_toArray, List.set_cons_zero, List.set_cons_succ] at hK ⊢
      rw [d4] at hK ⊢
      go_simp
      exact hK (.string ky) _ (HI9.out.put 5 _ (by decide) (fun v h => Option.some.inj h)) _ rfl
    · obtain rfl := Option.some.inj ho.symm
      have d3 : V 3 = .map (some Mo) := hI.val 3 _ (hdep ⟨3, .data⟩ (by simp) rfl) rfl
      have d5 : V 5 = .string ky := hI.val 5 _ (hdep ⟨5, .data⟩ (by simp) rfl) rfl
      have g9 := HLA.out w9 hJ
      clear hdep ho hI hL hJ
      try simp only [fill, slotOf, List.size_toArray, List.length_cons, List.length_nil, Nat.reduceAdd, List.getElem?_toArray, List.getElem?_cons_zero, List.getElem?_cons_succ, Option.bind_some, Act.put, List.setIfInBounds_toArray, List.set_cons_zero, List.set_cons_succ] at hK ⊢
      rw [d3, d5] at hK ⊢
      go_simp
      exact hK (.tuple #[.agg #[.string os, .int .i64 ov, .int .i64 ob], .bool oi]) _ (HI9.out.put 6 _ (by decide) (fun v h => Option.some.inj h)) _ rfl
    · obtain rfl := Option.some.inj ho.symm
      have d6 : V 6 = .tuple #[.agg #[.string os, .int .i64 ov, .int .i64 ob], .bool oi] := hI.val 6 _ (hdep ⟨6, .data⟩ (by simp) rfl) rfl
      clear hdep ho hI hL hJ
      try simp only [fill, slotOf, List.size_toArray, List.length_cons, List.length_nil, Nat.reduceAdd, List.getElem?_toArray, List.getElem?_cons_zero, List.getElem?_cons_succ, Option.bind_some, Act.put, List.setIfInBounds_toArray, List.set_cons_zero, List.set_cons_succ] at hK ⊢
      rw [d6] at hK ⊢
      go_simp
      exact hK (.tuple #[.agg #[.string os, .int .i64 ov, .int .i64 ob], .bool oi]) _ (HI9.out.put 7 _ (by decide) (fun v h => Option.some.inj h)) _ rfl
    · obtain rfl := Option.some.inj ho.symm
      have d7 : V 7 = .tuple #[.agg #[.string os, .int .i64 ov, .int .i64 ob], .bool oi] := hI.val 7 _ (hdep ⟨7, .data⟩ (by simp) rfl) rfl
      clear hdep ho hI hL hJ
      try simp only [fill, slotOf, List.size_toArray, List.length_cons, List.length_nil, Nat.reduceAdd, List.getElem?_toArray, List.getElem?_cons_zero, List.getElem?_cons_succ, Option.bind_some, Act.put, List.setIfInBounds_toArray, List.set_cons_zero, List.set_cons_succ] at hK ⊢
      rw [d7] at hK ⊢
      go_simp
      exact hK (.agg #[.string os, .int .i64 ov, .int .i64 ob]) _ (HI9.out.put 8 _ (by decide) (fun v h => Option.some.inj h)) _ rfl
    · obtain rfl := Option.some.inj ho.symm
      have d7 : V 7 = .tuple #[.agg #[.string os, .int .i64 ov, .int .i64 ob], .bool oi] := hI.val 7 _ (hdep ⟨7, .data⟩ (by simp) rfl) rfl
      clear hdep ho hI hL hJ
      try simp only [fill, slotOf, List.size_toArray, List.length_cons, List.length_nil, Nat.reduceAdd, List.getElem?_toArray, List.getElem?_cons_zero, List.getElem?_cons_succ, Option.bind_some, Act.put, List.setIfInBounds_toArray, List.set_cons_zero, List.set_cons_succ] at hK ⊢
      rw [d7] at hK ⊢
      go_simp
      exact hK (.bool oi) _ (HI9.out.put 9 _ (by decide) (fun v h => Option.some.inj h)) _ rfl
    · obtain rfl := Option.some.inj ho.symm
      have HL9 := Lib.hid hL
      have e9 := hI.sa hL
      clear hdep ho hI hL hJ
      subst e9
      try simp only [fill, slotOf, List.size_toArray, List.length_cons, List.length_nil, Nat.reduceAdd, List.getElem?_toArray, List.getElem?_cons_zero, List.getElem?_cons_succ, Option.bind_some, Act.put, List.setIfInBounds_toArray, List.set_cons_zero, List.set_cons_succ] at hK ⊢
      go_simp
      exact hK (.pointer (some ⟨W0.heap.size, 0, none⟩)) _ (HI9.out.puta (by decide) HL9.out _ (fun v h => Option.some.inj h)) _ rfl
    · obtain rfl := Option.some.inj ho.symm
      have d10 : V 10 = .pointer (some ⟨W0.heap.size, 0, none⟩) := hI.val 10 _ (hdep ⟨10, .data⟩ (by simp) rfl) rfl
      have d8 : V 8 = .agg #[.string os, .int .i64 ov, .int .i64 ob] := hI.val 8 _ (hdep ⟨8, .data⟩ (by simp) rfl) rfl
      have la : L9 10 = true := hdep ⟨10, .data⟩ (by simp) rfl
      have HLA := Lib.hid la
      have e9 := hI.sb la hL
      clear hdep ho hI hL hJ la
      subst e9
      try simp only [fill, slotOf, List.size_toArray, List.length_cons, List.length_nil, Nat.reduceAdd, List.getElem?_toArray, List.getElem?_cons_zero, List.getElem?_cons_succ, Option.bind_some, Act.put, List.setIfInBounds_toArray, List.set_cons_zero, List.set_cons_succ] at hK ⊢
      rw [d10, d8] at hK ⊢
      go_simp
      exact hK undef _ (HI9.out.puts HLA.out _ (fun v h => by cases h)) _ rfl
    · obtain rfl := Option.some.inj ho.symm
      have d9 : V 9 = .bool oi := hI.val 9 _ (hdep ⟨9, .data⟩ (by simp) rfl) rfl
      clear hdep ho hI hL hJ
      try simp only [fill, slotOf, List.size_toArray, List.length_cons, List.length_nil, Nat.reduceAdd, List.getElem?_toArray, List.getElem?_cons_zero, List.getElem?_cons_succ, Option.bind_some, Act.put, List.setIfInBounds_toArray, List.set_cons_zero, List.set_cons_succ] at hK ⊢
      rw [d9] at hK ⊢
      go_simp
      exact hK (.bool oi) _ (HI9.out.put 12 _ (by decide) (fun v h => Option.some.inj h)) _ rfl
  · intro L9 V w9 hI hall
    have k10 : V 10 = .pointer (some ⟨W0.heap.size, 0, none⟩) := hI.val 10 _ (hall 10 (by decide)) rfl
    have k12 : V 12 = .bool oi := hI.val 12 _ (hall 12 (by decide)) rfl
    have e9 := hI.sc (hall 11 (by decide))
    clear hI hall
    subst e9
    simp only [fill, slotOf, List.size_toArray, List.length_cons, List.length_nil, Nat.reduceAdd, List.getElem?_toArray, List.getElem?_cons_zero, List.getElem?_cons_succ, Option.bind_some, Act.put, List.setIfInBounds_toArray, List.set_cons_zero, List.set_cons_succ]
    rw [k10, k12]
    clear k10 k12
    obtain ⟨W1, hW1⟩ : ∃ W1, W1 = (W0.alloc (.cells #[.string os, .int .i64 ov, .int .i64 ob] 74)).drew := ⟨_, rfl⟩
    have M1 := Lib.hid (md_mk HE.out #[.string os, .int .i64 ov, .int .i64 ob] 74)
    rw [← hW1] at M1
    rw [← hW1]
    rw [ez0.out]
    clear hW1 HE hk0 hr0 hs0 ez0 HLA
    cases oi with
    | false =>
      have HE0 := Lib.hid (show objOf σ ky = none from by
        have h1 := HOI.out
        unfold objOf
        cases hg : getK slit ky σ.objs with
        | none => rfl
        | some x => rw [hg] at h1; cases h1)
      go_wp2_with fail
      refine (failed_any _ _).mono ?_
      rintro e W9 ⟨rfl, hb9⟩
      have M9 := Lib.hid (M1.out.kept hb9)
      clear hb9
      obtain ⟨⟨q0, q1, q2, q3, q4, q5, q6⟩, r0, r1, r2, r3, r4, r5, r6⟩ := rb_cells M9.out.rb
      unfold rep0
      go_wp2_with fail
      clear q0 q1 q2 q3 q4 q5 q6 r0 r1 r2 r3 r4 r5 r6
      obtain ⟨W5, hW5⟩ : ∃ W5, W5 = setR W9 (w.heap.size + 1) (.int .i64 7) (.slice none 0 0) (.int .i64 0) (.int .i64 0) (.int .i64 0) (.slice none 0 0) (.bool false) := ⟨_, rfl⟩
      have hr5 := setR_at0 M9.out.rb (.int .i64 7) (.slice none 0 0) (.int .i64 0) (.int .i64 0) (.int .i64 0) (.slice none 0 0) (.bool false)
      have Z := M9.out.done HL.out (fun b hb => HF.out b hb) (.int .i64 7) (.slice none 0 0) (.int .i64 0) (.int .i64 0) (.int .i64 0) (.slice none 0 0) (.bool false)
      rw [← hW5] at hr5 Z
      unfold setR at hW5
      rw [← hW5]
      refine bodyPost_ret (ret_rep rfl _ _ (w.heap.size + 1) rfl hr5) rfl ?_
      exact RemSays.no HE0.out Z

    | true =>
      have HE0 := Lib.hid (show objOf σ ky = some ⟨os, ov, ob⟩ from by
        rw [HOV.out]
        exact objOf_some (by have := HOS.out; exact this) HOI.out.symm)
      have hle : oldLen σ ky = os.size := by unfold oldLen; rw [HE0.out]
      have o0 := cell_blk2 M1.out.ob (i := 0) (u := .string os) rfl
      have c4 := cell_blk2 M1.out.st.blk (i := 4) (u := .int .i64 σ.size) rfl
      have f4 := fro_blk2 M1.out.st.blk 4
      have ws : IntKind.i64.wrap (σ.size - (os.size : Int)) = σ.size - (os.size : Int) := IntWalk.i64_in _ (by omega)
      have HLE := Lib.hid hle
      clear hle
      go_wp2_with fail
      go_region
      clear o0 c4 f4 ws
      go_wp2_with fail
      obtain ⟨W2, hW2⟩ : ∃ W2, W2 = (W1.setCell ⟨s, 4, none⟩ (.int .i64 (σ.size - (os.size : Int)))).drew := ⟨_, rfl⟩
      rw [← hW2]
      have hF2 : Frm (fun b => b = s) W1 W2 := by rw [hW2]; exact ((Frm.refl (fun b => b = s) W1).set (p := s) (.inl rfl) 4 _).drew
      have hb2 : W2.heap[s]? = some (.cells (stC Mo Mu (remS σ ky)) 51 (0, 0)) := by
        rw [hW2]
        have h1 := heap_setCell_same W1 s 4 _ _ (.int .i64 (σ.size - (os.size : Int))) M1.out.st.blk
        rw [← HLE.out] at h1
        rw [← HLE.out]
        exact h1
      have hg2 : GM TO slit objC W2 Mo σ.objs := M1.out.st.obj.same (hF2.block Mo M1.out.st.obj.lt (fun e => M1.out.st.neS.1 e.symm))
      obtain ⟨w3, hrun, g3, ht3⟩ := dropO hg2.drew ky hk 0
      have c0 := cell_blk2 hb2 (i := 0) (u := .map (some Mo)) rfl
      have hsl : s < w.heap.size := HF.out s (.inl rfl)
      have hk2 : W2.heap[w.heap.size]? = some (.cells #[.int .i64 ki, .string ky, .slice a n c, .int .i64 vr, .int .i64 at_, .int .i64 nn, .int .i64 id] 34 (0, 0)) := hF2.at M1.out.cb (by omega)
      have k1 := cell_blk2 hk2 (i := 1) (u := .string ky) rfl
      have HW2 := Lib.hid hW2
      have HF2 := Lib.hid hF2
      have HB2 := Lib.hid hb2
      have HG3 := Lib.hid g3
      have HT3 := Lib.hid ht3
      clear hW2 hF2 hb2 hg2 g3 ht3 hk2
      go_region
      clear hrun c0 k1
      have hF3 : Frm (fun b => b = s ∨ b = Mo) W1 w3 := (HF2.out.imp (fun i e => Or.inl e)).drew.turned (.inl (.inr rfl)) HT3.out
      have hMl : Mo < w.heap.size := HF.out Mo (.inr (.inl rfl))
      have hb3 : w3.heap[s]? = some (.cells (stC Mo Mu (remS σ ky)) 51 (0, 0)) :=
        (HT3.out.grown.block s (Array.getElem?_eq_some_iff.1 HB2.out).1 (fun e => M1.out.st.neS.1 (Option.some.inj e))).trans HB2.out
      have hst3 : StAt w3 s Mo Mu (remS σ ky) := M1.out.st.obj' hF3 hb3 HG3.out rfl
      have hrb3 : w3.heap[w.heap.size + 1]? = some (.cells zrep 43 (0, 0)) := hF3.at M1.out.rb (fun e => by rcases e with e | e <;> omega)
      have hfr3 : Frm (StF s Mo Mu σ) W1 w3 := hF3.imp (fun i e => e.elim (fun g => .inl g) (fun g => .inr (.inl g)))
      have HST := Lib.hid hst3
      have HFR := Lib.hid hfr3
      have HRB := Lib.hid hrb3
      obtain ⟨⟨q0, q1, q2, q3, q4, q5, q6⟩, r0, r1, r2, r3, r4, r5, r6⟩ := rb_cells hrb3
      clear hF3 hb3 hst3 hrb3 hfr3
      go_wp2_with fail
      clear q0 q1 q2 q3 q4 q5 q6 r0 r1 r2 r3 r4 r5 r6
      obtain ⟨W5, hW5⟩ : ∃ W5, W5 = setR w3 (w.heap.size + 1) (.int .i64 0) (.slice none 0 0) (.int .i64 0) (.int .i64 0) (.int .i64 0) (.slice none 0 0) (.bool false) := ⟨_, rfl⟩
      have hr5 := setR_at0 HRB.out (.int .i64 0) (.slice none 0 0) (.int .i64 0) (.int .i64 0) (.int .i64 0) (.slice none 0 0) (.bool false)
      have hF5 := (Frm.refl (fun b => b = w.heap.size + 1) w3).setR (R := w.heap.size + 1) (.inl rfl) (.int .i64 0) (.slice none 0 0) (.int .i64 0) (.int .i64 0) (.int .i64 0) (.slice none 0 0) (.bool false)
      rw [← hW5] at hr5 hF5
      unfold setR at hW5
      rw [← hW5]
      have Z := end_frm HST.out HFR.out M1.out.bel hF5 (fun b hb => HF.out b hb)
      refine bodyPost_ret (ret_rep rfl _ _ (w.heap.size + 1) rfl hr5) rfl ?_
      exact RemSays.yes HE0.out Z
end Go.Proofs.YtjafagfhkpaciaaGreat
end PkSP4_9
section PkSP4_10
/- The store's piece, walked. Written by genstopie.py. -/
namespace Go.Proofs.YtjafagfhkpaciaaGreat
open Go.RowKit
set_option linter.unusedVariables false

def pieE (σ : Sto) (ky : ByteArray) (at_ nn : Int) : Int :=
  match objOf σ ky with
  | none => 7
  | some o => if at_ < 0 ∨ nn < 0 ∨ (o.data.size : Int) < at_ ∨ (o.data.size : Int) - at_ < nn then 2 else 0
def subP (o : ObjS) (at_ nn : Int) : ByteArray := o.data.extract at_.toNat (at_ + nn).toNat
def PieSays (w : World) (s Mo Mu : Nat) (σ : Sto) (ky : ByteArray) (at_ nn : Int) (e : Ending) (w' : World) : Prop :=
  StAt w' s Mo Mu σ ∧ Below w.heap.size w w' ∧ (pieE σ ky at_ nn ≠ 0 → e = .returned (rep0 (pieE σ ky at_ nn))) ∧
  (pieE σ ky at_ nn = 0 → ∃ o g m c, objOf σ ky = some o ∧ e = .returned (rep 0 (.slice (some ⟨g, 0, none⟩) m c) o.ver o.born 0 (.slice none 0 0) false) ∧ w.heap.size ≤ g ∧ (m : Int) = nn ∧ BytesAt w' (some ⟨g, 0, none⟩) m c (numsOf (subP o at_ nn)) ∧ Unf w' g m)
theorem PieSays.no {w w' : World} {s Mo Mu : Nat} {σ : Sto} {ky : ByteArray} {at_ nn x : Int} (h : pieE σ ky at_ nn = x) (hx : x ≠ 0) (Z : StAt w' s Mo Mu σ ∧ Below w.heap.size w w') : PieSays w s Mo Mu σ ky at_ nn (.returned (rep0 x)) w' := by
  subst h
  exact ⟨Z.1, Z.2, fun _ => rfl, fun e => absurd e hx⟩
theorem PieSays.yes {w w' : World} {s Mo Mu : Nat} {σ : Sto} {ky : ByteArray} {at_ nn : Int} {o : ObjS} {g m c : Nat} (ho : objOf σ ky = some o) (h : pieE σ ky at_ nn = 0) (hg : w.heap.size ≤ g) (hm : (m : Int) = nn) (hb : BytesAt w' (some ⟨g, 0, none⟩) m c (numsOf (subP o at_ nn))) (hun : Unf w' g m) (Z : StAt w' s Mo Mu σ ∧ Below w.heap.size w w') : PieSays w s Mo Mu σ ky at_ nn (.returned (rep 0 (.slice (some ⟨g, 0, none⟩) m c) o.ver o.born 0 (.slice none 0 0) false)) w' :=
  ⟨Z.1, Z.2, fun e => absurd h e, fun _ => ⟨o, g, m, c, ho, rfl, hg, hm, hb, hun⟩⟩
set_option maxRecDepth 100000 in
set_option maxHeartbeats 4000000 in
theorem piece_any {w : World} {s Mo Mu : Nat} {σ : Sto} (h : StAt w s Mo Mu σ) {ki vr at_ nn id : Int} {ky : ByteArray} {a : Option Addr} {n c : Nat} (hk : ky.size ≤ 1000000000000000) (ho : oldLen σ ky ≤ 262144) :
    Calls Tryz.prog 18 #[.pointer (some ⟨s, 0, none⟩), .agg #[.int .i64 ki, .string ky, .slice a n c, .int .i64 vr, .int .i64 at_, .int .i64 nn, .int .i64 id]] w (PieSays w s Mo Mu σ ky at_ nn) := by
  have HE := Lib.hid (ent_mk h #[.int .i64 ki, .string ky, .slice a n c, .int .i64 vr, .int .i64 at_, .int .i64 nn, .int .i64 id])
  have HL := Lib.hid h.lts
  have HF := Lib.hid (show ∀ b, StF s Mo Mu σ b → b < w.heap.size from fun b hb => h.lt hb)
  have HS := Lib.hid h
  clear h
  go_enter Tryz.func18, Tryz.ntmps18
  go_wp2_with fail
  obtain ⟨W0, hW0⟩ : ∃ W0, W0 = (w.alloc (.cells #[.int .i64 ki, .string ky, .slice a n c, .int .i64 vr, .int .i64 at_, .int .i64 nn, .int .i64 id] 34)).alloc (.cells zrep 43) := ⟨_, rfl⟩
  rw [← hW0] at HE
  unfold zrep at hW0
  rw [← hW0]
  clear hW0
  have hk0 : w.heap.size < W0.heap.size := by have := HE.out.sz; omega
  have hr0 : w.heap.size + 1 < W0.heap.size := by have := HE.out.sz; omega
  have hs0 := HE.out.st.lts
  have ez0 := Lib.hid HE.out.sz
  obtain ⟨os, ob, hos, hol⟩ := field_obj2 σ ky
  obtain ⟨ov, hov⟩ : ∃ ov, ov = oldVer σ ky := ⟨_, rfl⟩
  obtain ⟨oi, hoi⟩ : ∃ oi, oi = (getK slit ky σ.objs).isSome := ⟨_, rfl⟩
  have HOS := Lib.hid hos
  have HLA := Lib.hid (show ∀ w9, Below W0.heap.size W0 w9 → (Instr.lookup 48 (.map (some Mo)) (.string ky) true).run Tryz.prog w9 = .ok (.tuple #[.agg #[.string os, .int .i64 ov, .int .i64 ob], .bool oi]) w9 from fun w9 h9 => by
    have h8 := lookO2 (HE.out.st.obj.below h9) ky hk
    rw [hos, ← hoi, ← hov] at h8
    exact h8)
  have HOL := Lib.hid hol
  have HOI := Lib.hid hoi
  have HOV := Lib.hid hov
  clear hos hol hoi hov
  refine wp_region_inv (by kernel_rfl) (by kernel_rfl) (by kernel_rfl) (OB W0 (.cells #[.string { data := #[] }, .int .i64 0, .int .i64 0] 74) (.cells #[.string os, .int .i64 ov, .int .i64 ob] 74) (fun j_9 => match j_9 with | 0 => some (.pointer (some ⟨s, 0, none⟩)) | 1 => some (.pointer (some ⟨s, 0, none⟩)) | 2 => some (.pointer (some ⟨s, 0, none⟩)) | 3 => some (.map (some Mo)) | 4 => some (.pointer (some ⟨w.heap.size, 1, none⟩)) | 5 => some (.string ky) | 6 => some (.tuple #[.agg #[.string os, .int .i64 ov, .int .i64 ob], .bool oi]) | 7 => some (.tuple #[.agg #[.string os, .int .i64 ov, .int .i64 ob], .bool oi]) | 8 => some (.agg #[.string os, .int .i64 ov, .int .i64 ob]) | 9 => some (.bool oi) | 10 => some (.pointer (some ⟨W0.heap.size, 0, none⟩)) | 11 => none | 12 => some (.bool oi) | _ => none) 10 11) (fun V => OB.start V) ?_ ?_
  · intro j9 o ho L9 V w9 K hI hL hdep hK
    have HI9 := Lib.hid hI
    have hJ := hI.below
    simp only [fill, slotOf, List.size_toArray, List.length_cons, List.length_nil, Nat.reduceAdd, List.getElem?_toArray, List.getElem?_cons_zero, List.getElem?_cons_succ, Option.bind_some, Act.put, List.setIfInBounds_toArray, List.set_cons_zero, List.set_cons_succ] at hK ⊢
    have hin : j9 < 13 := (Array.getElem?_eq_some_iff.1 ho).1
    have hcs : j9 = 0 ∨ j9 = 1 ∨ j9 = 2 ∨ j9 = 3 ∨ j9 = 4 ∨ j9 = 5 ∨ j9 = 6 ∨ j9 = 7 ∨ j9 = 8 ∨ j9 = 9 ∨ j9 = 10 ∨ j9 = 11 ∨ j9 = 12 := by omega
    clear hin
    rcases hcs with rfl | rfl | rfl | rfl | rfl | rfl | rfl | rfl | rfl | rfl | rfl | rfl | rfl
    · obtain rfl := Option.some.inj ho.symm
      clear hdep ho hI hL hJ
      try simp only [fill, slotOf, List.size_toArray, List.length_cons, List.length_nil, Nat.reduceAdd, List.getElem?_toArray, List.getElem?_cons_zero, List.getElem?_cons_succ, Option.bind_some, Act.put, List.setIfInBounds_toArray, List.set_cons_zero, List.set_cons_succ] at hK ⊢
      go_simp
      exact hK (.pointer (some ⟨s, 0, none⟩)) _ (HI9.out.put 0 _ (by decide) (fun v h => Option.some.inj h)) _ rfl
    · obtain rfl := Option.some.inj ho.symm
      have d0 : V 0 = .pointer (some ⟨s, 0, none⟩) := hI.val 0 _ (hdep ⟨0, .data⟩ (by simp) rfl) rfl
      clear hdep ho hI hL hJ
      try simp only [fill, slotOf, List.size_toArray, List.length_cons, List.length_nil, Nat.reduceAdd, List.getElem?_toArray, List.getElem?_cons_zero, List.getElem?_cons_succ, Option.bind_some, Act.put, List.setIfInBounds_toArray, List.set_cons_zero, List.set_cons_succ] at hK ⊢
      rw [d0] at hK ⊢
      go_simp
      exact hK (.pointer (some ⟨s, 0, none⟩)) _ (HI9.out.put 1 _ (by decide) (fun v h => Option.some.inj h)) _ rfl
    · obtain rfl := Option.some.inj ho.symm
      have d1 : V 1 = .pointer (some ⟨s, 0, none⟩) := hI.val 1 _ (hdep ⟨1, .data⟩ (by simp) rfl) rfl
      clear hdep ho hI hL hJ
      try simp only [fill, slotOf, List.size_toArray, List.length_cons, List.length_nil, Nat.reduceAdd, List.getElem?_toArray, List.getElem?_cons_zero, List.getElem?_cons_succ, Option.bind_some, Act.put, List.setIfInBounds_toArray, List.set_cons_zero, List.set_cons_succ] at hK ⊢
      rw [d1] at hK ⊢
      go_simp
      exact hK (.pointer (some ⟨s, 0, none⟩)) _ (HI9.out.put 2 _ (by decide) (fun v h => Option.some.inj h)) _ rfl
    · obtain rfl := Option.some.inj ho.symm
      have d2 : V 2 = .pointer (some ⟨s, 0, none⟩) := hI.val 2 _ (hdep ⟨2, .data⟩ (by simp) rfl) rfl
      have g9 := cell_blk2 ((hJ.block s hs0).trans HE.out.st.blk) (i := 0) (u := .map (some Mo)) rfl
      clear hdep ho hI hL hJ
      try simp only [fill, slotOf, List.size_toArray, List.length_cons, List.length_nil, Nat.reduceAdd, List.getElem?_toArray, List.getElem?_cons_zero, List.getElem?_cons_succ, Option.bind_some, Act.put, List.setIfInBounds_toArray, List.set_cons_zero, List.set_cons_succ] at hK ⊢
      rw [d2] at hK ⊢
      go_simp
      exact hK (.map (some Mo)) _ (HI9.out.put 3 _ (by decide) (fun v h => Option.some.inj h)) _ rfl
    · obtain rfl := Option.some.inj ho.symm
      clear hdep ho hI hL hJ
      try simp only [fill, slotOf, List.size_toArray, List.length_cons, List.length_nil, Nat.reduceAdd, List.getElem?_toArray, List.getElem?_cons_zero, List.getElem?_cons_succ, Option.bind_some, Act.put, List.setIfInBounds_toArray, List.set_cons_zero, List.set_cons_succ] at hK ⊢
      go_simp
      exact hK (.pointer (some ⟨w.heap.size, 1, none⟩)) _ (HI9.out.put 4 _ (by decide) (fun v h => Option.some.inj h)) _ rfl
    · obtain rfl := Option.some.inj ho.symm
      have d4 : V 4 = .pointer (some ⟨w.heap.size, 1, none⟩) := hI.val 4 _ (hdep ⟨4, .data⟩ (by simp) rfl) rfl
      have g9 := cell_blk2 ((hJ.block w.heap.size hk0).trans HE.out.cb) (i := 1) (u := .string ky) rfl
      clear hdep ho hI hL hJ
      try simp only [fill, slotOf, List.size_toArray, List.length_cons, List.length_nil, Nat.reduceAdd, List.getElem?_toArray, List.getElem?_cons_zero, List.getElem?_cons_succ, Option.bind_some, Act.put, List.setIfInBounds_toArray, List.set_cons_zero, List.set_cons_succ] at hK ⊢
      rw [d4] at hK ⊢
      go_simp
      exact hK (.string ky) _ (HI9.out.put 5 _ (by decide) (fun v h => Option.some.inj h)) _ rfl
    · obtain rfl := Option.some.inj ho.symm
      have d3 : V 3 = .map (some Mo) := hI.val 3 _ (hdep ⟨3, .data⟩ (by simp) rfl) rfl
      have d5 : V 5 = .string ky := hI.val 5 _ (hdep ⟨5, .data⟩ (by simp) rfl) rfl
      have g9 := HLA.out w9 hJ
      clear hdep ho hI hL hJ
      try simp only [fill, slotOf, List.size_toArray, List.length_cons, List.length_nil, Nat.reduceAdd, List.getElem?_toArray, List.getElem?_cons_zero, List.getElem?_cons_succ, Option.bind_some, Act.put, List.setIfInBounds_toArray, List.set_cons_zero, List.set_cons_succ] at hK ⊢
      rw [d3, d5] at hK ⊢
      go_simp
      exact hK (.tuple #[.agg #[.string os, .int .i64 ov, .int .i64 ob], .bool oi]) _ (HI9.out.put 6 _ (by decide) (fun v h => Option.some.inj h)) _ rfl
    · obtain rfl := Option.some.inj ho.symm
      have d6 : V 6 = .tuple #[.agg #[.string os, .int .i64 ov, .int .i64 ob], .bool oi] := hI.val 6 _ (hdep ⟨6, .data⟩ (by simp) rfl) rfl
      clear hdep ho hI hL hJ
      try simp only [fill, slotOf, List.size_toArray, List.length_cons, List.length_nil, Nat.reduceAdd, List.getElem?_toArray, List.getElem?_cons_zero, List.getElem?_cons_succ, Option.bind_some, Act.put, List.setIfInBounds_toArray, List.set_cons_zero, List.set_cons_succ] at hK ⊢
      rw [d6] at hK ⊢
      go_simp
      exact hK (.tuple #[.agg #[.string os, .int .i64 ov, .int .i64 ob], .bool oi]) _ (HI9.out.put 7 _ (by decide) (fun v h => Option.some.inj h)) _ rfl
    · obtain rfl := Option.some.inj ho.symm
      have d7 : V 7 = .tuple #[.agg #[.string os, .int .i64 ov, .int .i64 ob], .bool oi] := hI.val 7 _ (hdep ⟨7, .data⟩ (by simp) rfl) rfl
      clear hdep ho hI hL hJ
      try simp only [fill, slotOf, List.size_toArray, List.length_cons, List.length_nil, Nat.reduceAdd, List.getElem?_toArray, List.getElem?_cons_zero, List.getElem?_cons_succ, Option.bind_some, Act.put, List.setIfInBounds_toArray, List.set_cons_zero, List.set_cons_succ] at hK ⊢
      rw [d7] at hK ⊢
      go_simp
      exact hK (.agg #[.string os, .int .i64 ov, .int .i64 ob]) _ (HI9.out.put 8 _ (by decide) (fun v h => Option.some.inj h)) _ rfl
    · obtain rfl := Option.some.inj ho.symm
      have d7 : V 7 = .tuple #[.agg #[.string os, .int .i64 ov, .int .i64 ob], .bool oi] := hI.val 7 _ (hdep ⟨7, .data⟩ (by simp) rfl) rfl
      clear hdep ho hI hL hJ
      try simp only [fill, slotOf, List.size_toArray, List.length_cons, List.length_nil, Nat.reduceAdd, List.getElem?_toArray, List.getElem?_cons_zero, List.getElem?_cons_succ, Option.bind_some, Act.put, List.setIfInBounds_toArray, List.set_cons_zero, List.set_cons_succ] at hK ⊢
      rw [d7] at hK ⊢
      go_simp
      exact hK (.bool oi) _ (HI9.out.put 9 _ (by decide) (fun v h => Option.some.inj h)) _ rfl
    · obtain rfl := Option.some.inj ho.symm
      have HL9 := Lib.hid hL
      have e9 := hI.sa hL
      clear hdep ho hI hL hJ
      subst e9
      try simp only [fill, slotOf, List.size_toArray, List.length_cons, List.length_nil, Nat.reduceAdd, List.getElem?_toArray, List.getElem?_cons_zero, List.getElem?_cons_succ, Option.bind_some, Act.put, List.setIfInBounds_toArray, List.set_cons_zero, List.set_cons_succ] at hK ⊢
      go_simp
      exact hK (.pointer (some ⟨W0.heap.size, 0, none⟩)) _ (HI9.out.puta (by decide) HL9.out _ (fun v h => Option.some.inj h)) _ rfl
    · obtain rfl := Option.some.inj ho.symm
      have d10 : V 10 = .pointer (some ⟨W0.heap.size, 0, none⟩) := hI.val 10 _ (hdep ⟨10, .data⟩ (by simp) rfl) rfl
      have d8 : V 8 = .agg #[.string os, .int .i64 ov, .int .i64 ob] := hI.val 8 _ (hdep ⟨8, .data⟩ (by simp) rfl) rfl
      have la : L9 10 = true := hdep ⟨10, .data⟩ (by simp) rfl
      have HLA := Lib.hid la
      have e9 := hI.sb la hL
      clear hdep ho hI hL hJ la
      subst e9
      try simp only [fill, slotOf, List.size_toArray, List.length_cons, List.length_nil, Nat.reduceAdd, List.getElem?_toArray, List.getElem?_cons_zero, List.getElem?_cons_succ, Option.bind_some, Act.put, List.setIfInBounds_toArray, List.set_cons_zero, List.set_cons_succ] at hK ⊢
      rw [d10, d8] at hK ⊢
      go_simp
      exact hK undef _ (HI9.out.puts HLA.out _ (fun v h => by cases h)) _ rfl
    · obtain rfl := Option.some.inj ho.symm
      have d9 : V 9 = .bool oi := hI.val 9 _ (hdep ⟨9, .data⟩ (by simp) rfl) rfl
      clear hdep ho hI hL hJ
      try simp only [fill, slotOf, List.size_toArray, List.length_cons, List.length_nil, Nat.reduceAdd, List.getElem?_toArray, List.getElem?_cons_zero, List.getElem?_cons_succ, Option.bind_some, Act.put, List.setIfInBounds_toArray, List.set_cons_zero, List.set_cons_succ] at hK ⊢
      rw [d9] at hK ⊢
      go_simp
      exact hK (.bool oi) _ (HI9.out.put 12 _ (by decide) (fun v h => Option.some.inj h)) _ rfl
  · intro L9 V w9 hI hall
    have k10 : V 10 = .pointer (some ⟨W0.heap.size, 0, none⟩) := hI.val 10 _ (hall 10 (by decide)) rfl
    have k12 : V 12 = .bool oi := hI.val 12 _ (hall 12 (by decide)) rfl
    have e9 := hI.sc (hall 11 (by decide))
    clear hI hall
    subst e9
    simp only [fill, slotOf, List.size_toArray, List.length_cons, List.length_nil, Nat.reduceAdd, List.getElem?_toArray, List.getElem?_cons_zero, List.getElem?_cons_succ, Option.bind_some, Act.put, List.setIfInBounds_toArray, List.set_cons_zero, List.set_cons_succ]
    rw [k10, k12]
    clear k10 k12
    obtain ⟨W1, hW1⟩ : ∃ W1, W1 = (W0.alloc (.cells #[.string os, .int .i64 ov, .int .i64 ob] 74)).drew := ⟨_, rfl⟩
    have M1 := Lib.hid (md_mk HE.out #[.string os, .int .i64 ov, .int .i64 ob] 74)
    rw [← hW1] at M1
    rw [← hW1]
    rw [ez0.out]
    clear hW1 HE hk0 hr0 hs0 ez0 HLA
    cases oi with
    | false =>
      have HE0 := Lib.hid (show pieE σ ky at_ nn = 7 from by
        have h1 := HOI.out
        unfold pieE objOf
        cases hg : getK slit ky σ.objs with
        | none => rfl
        | some x => rw [hg] at h1; cases h1)
      go_wp2_with fail
      refine (failed_any _ _).mono ?_
      rintro e W9 ⟨rfl, hb9⟩
      have M9 := Lib.hid (M1.out.kept hb9)
      clear hb9
      obtain ⟨⟨q0, q1, q2, q3, q4, q5, q6⟩, r0, r1, r2, r3, r4, r5, r6⟩ := rb_cells M9.out.rb
      unfold rep0
      go_wp2_with fail
      clear q0 q1 q2 q3 q4 q5 q6 r0 r1 r2 r3 r4 r5 r6
      obtain ⟨W5, hW5⟩ : ∃ W5, W5 = setR W9 (w.heap.size + 1) (.int .i64 7) (.slice none 0 0) (.int .i64 0) (.int .i64 0) (.int .i64 0) (.slice none 0 0) (.bool false) := ⟨_, rfl⟩
      have hr5 := setR_at0 M9.out.rb (.int .i64 7) (.slice none 0 0) (.int .i64 0) (.int .i64 0) (.int .i64 0) (.slice none 0 0) (.bool false)
      have Z := M9.out.done HL.out (fun b hb => HF.out b hb) (.int .i64 7) (.slice none 0 0) (.int .i64 0) (.int .i64 0) (.int .i64 0) (.slice none 0 0) (.bool false)
      rw [← hW5] at hr5 Z
      unfold setR at hW5
      rw [← hW5]
      refine bodyPost_ret (ret_rep rfl _ _ (w.heap.size + 1) rfl hr5) rfl ?_
      exact PieSays.no HE0.out (by decide) Z

    | true =>
      have hob : objOf σ ky = some ⟨os, ov, ob⟩ := by
        rw [HOV.out]
        exact objOf_some (by have := HOS.out; exact this) HOI.out.symm
      have o0 := cell_blk2 M1.out.ob (i := 0) (u := .string os) rfl
      have k4 := cell_blk2 M1.out.cb (i := 4) (u := .int .i64 at_) rfl
      have k5 := cell_blk2 M1.out.cb (i := 5) (u := .int .i64 nn) rfl
      have hsz : os.size ≤ 262144 := by have := HOL.out; omega
      by_cases hbad : at_ < 0 ∨ nn < 0 ∨ (os.size : Int) < at_ ∨ (os.size : Int) - at_ < nn
      · have HE0 := Lib.hid (show pieE σ ky at_ nn = 2 from by
          unfold pieE
          rw [hob]
          simp only
          rw [if_pos hbad])
        clear hob
        have hwr : 0 ≤ at_ → at_ ≤ (os.size : Int) → IntKind.i64.wrap ((os.size : Int) - at_) = (os.size : Int) - at_ := fun g1 g2 => IntWalk.i64_in _ (by omega)
        have hcs : at_ < 0 ∨ (0 ≤ at_ ∧ nn < 0) ∨ (0 ≤ at_ ∧ 0 ≤ nn ∧ (os.size : Int) < at_) ∨ (0 ≤ at_ ∧ 0 ≤ nn ∧ at_ ≤ (os.size : Int) ∧ (os.size : Int) - at_ < nn) := by omega
        rcases hcs with hz1 | ⟨hz1, hz2⟩ | ⟨hz1, hz2, hz3⟩ | ⟨hz1, hz2, hz3, hz4⟩
        case' inr.inr.inr => have hz5 := hwr hz1 hz3
        all_goals
          clear hbad hwr
          go_wp2_with fail
          refine (failed_any _ _).mono ?_
          rintro e W9 ⟨rfl, hb9⟩
          have M9 := Lib.hid (M1.out.kept hb9)
          clear hb9
          obtain ⟨⟨q0, q1, q2, q3, q4, q5, q6⟩, r0, r1, r2, r3, r4, r5, r6⟩ := rb_cells M9.out.rb
          unfold rep0
          go_wp2_with fail
          clear q0 q1 q2 q3 q4 q5 q6 r0 r1 r2 r3 r4 r5 r6
          obtain ⟨W5, hW5⟩ : ∃ W5, W5 = setR W9 (w.heap.size + 1) (.int .i64 2) (.slice none 0 0) (.int .i64 0) (.int .i64 0) (.int .i64 0) (.slice none 0 0) (.bool false) := ⟨_, rfl⟩
          have hr5 := setR_at0 M9.out.rb (.int .i64 2) (.slice none 0 0) (.int .i64 0) (.int .i64 0) (.int .i64 0) (.slice none 0 0) (.bool false)
          have Z := M9.out.done HL.out (fun b hb => HF.out b hb) (.int .i64 2) (.slice none 0 0) (.int .i64 0) (.int .i64 0) (.int .i64 0) (.slice none 0 0) (.bool false)
          rw [← hW5] at hr5 Z
          unfold setR at hW5
          rw [← hW5]
          refine bodyPost_ret (ret_rep rfl _ _ (w.heap.size + 1) rfl hr5) rfl ?_
          exact PieSays.no HE0.out (by decide) Z

      · have hz1 : 0 ≤ at_ := by omega
        have hz2 : 0 ≤ nn := by omega
        have hz3 : at_ ≤ (os.size : Int) := by omega
        have hz4 : nn ≤ (os.size : Int) - at_ := by omega
        have hz6 : at_ ≤ at_ + nn := by omega
        have hz7 : at_ + nn ≤ (os.size : Int) := by omega
        have hz8 : 0 ≤ at_ + nn := by omega
        have wsb : IntKind.i64.wrap ((os.size : Int) - at_) = (os.size : Int) - at_ := IntWalk.i64_in _ (by omega)
        have wad : IntKind.i64.wrap (at_ + nn) = at_ + nn := IntWalk.i64_in _ (by omega)
        have HE0 := Lib.hid (show pieE σ ky at_ nn = 0 from by
          unfold pieE
          rw [hob]
          simp only
          rw [if_neg hbad])
        have HOB := Lib.hid hob
        clear hob hbad
        obtain ⟨ex, hex⟩ : ∃ ex, ex = os.extract at_.toNat (at_ + nn).toNat := ⟨_, rfl⟩
        have hexs : (ex.size : Int) = nn := by rw [hex, ByteArray.size_extract]; omega
        have hsli : ∀ W9, (Instr.slice 9 (.string os) (some (.int .i64 at_)) (some (.int .i64 (at_ + nn))) none).run Tryz.prog W9 = .ok (.string ex) W9 := fun W9 => by
          rw [hex]
          exact run_slice_string (P := Tryz.prog) W9 9 os .i64 .i64 at_ (at_ + nn) Tryz.underlying9 hz1 hz6 hz7
        obtain ⟨W2, cp, hcv, hby, hbe, hlt2⟩ := bytes_made W1.drew ex (by omega)
        have hbe1 : Below W1.heap.size W1 W2 := ((Below.refl _ _).drew).trans hbe
        have M2 := Lib.hid (M1.out.kept hbe1)
        have o1 := cell_blk2 M2.out.ob (i := 1) (u := .int .i64 ov) rfl
        have o2 := cell_blk2 M2.out.ob (i := 2) (u := .int .i64 ob) rfl
        have o3 := cell_blk2 M2.out.ob (i := 0) (u := .string os) rfl
        have o5 := cell_blk2 M1.out.ob (i := 1) (u := .int .i64 ov) rfl
        have o6 := cell_blk2 M1.out.ob (i := 2) (u := .int .i64 ob) rfl
        have HBY := Lib.hid hby
        have HUN := Lib.hid hlt2.2
        have HXS := Lib.hid hexs
        have HEX := Lib.hid hex
        have HG := Lib.hid (show w.heap.size + 2 < W1.heap.size from (Array.getElem?_eq_some_iff.1 M1.out.ob).1)
        clear hby hbe hbe1 hlt2 hexs hex
        obtain ⟨⟨q0, q1, q2, q3, q4, q5, q6⟩, r0, r1, r2, r3, r4, r5, r6⟩ := rb_cells M2.out.rb

        go_wp2_with fail
        go_region
        all_goals
          clear o0 k4 k5 o1 o2 o3 o5 o6 hcv hsli
          clear q0 q1 q2 q3 q4 q5 q6 r0 r1 r2 r3 r4 r5 r6
          go_wp2_with fail
          obtain ⟨W5, hW5⟩ : ∃ W5, W5 = setR W2 (w.heap.size + 1) (.int .i64 0) (.slice (some ⟨W1.heap.size, 0, none⟩) ex.size cp) (.int .i64 ov) (.int .i64 ob) (.int .i64 0) (.slice none 0 0) (.bool false) := ⟨_, rfl⟩
          have hr5 := setR_at0 M2.out.rb (.int .i64 0) (.slice (some ⟨W1.heap.size, 0, none⟩) ex.size cp) (.int .i64 ov) (.int .i64 ob) (.int .i64 0) (.slice none 0 0) (.bool false)
          have Z := M2.out.done HL.out (fun b hb => HF.out b hb) (.int .i64 0) (.slice (some ⟨W1.heap.size, 0, none⟩) ex.size cp) (.int .i64 ov) (.int .i64 ob) (.int .i64 0) (.slice none 0 0) (.bool false)
          rw [← hW5] at hr5 Z
          unfold setR at hW5
          rw [← hW5]
          refine bodyPost_ret (ret_rep rfl _ _ (w.heap.size + 1) rfl hr5) rfl ?_
          have HB5 := bytes_setR (R := w.heap.size + 1) HBY.out (fun b off e => by cases e; have := HG.out; show W1.heap.size ≠ _; omega) (.int .i64 0) (.slice (some ⟨W1.heap.size, 0, none⟩) ex.size cp) (.int .i64 ov) (.int .i64 ob) (.int .i64 0) (.slice none 0 0) (.bool false)
          have HU5 := unf_setR (R := w.heap.size + 1) HUN.out (by have := HG.out; show W1.heap.size ≠ _; omega) (.int .i64 0) (.slice (some ⟨W1.heap.size, 0, none⟩) ex.size cp) (.int .i64 ov) (.int .i64 ob) (.int .i64 0) (.slice none 0 0) (.bool false)
          unfold setR at HB5 HU5
          rw [← hW5] at HB5 HU5
          exact PieSays.yes HOB.out HE0.out (by have := HG.out; omega) HXS.out (by have h1 := HB5; rw [HEX.out] at h1 ⊢; exact h1) HU5 Z
end Go.Proofs.YtjafagfhkpaciaaGreat
end PkSP4_10
