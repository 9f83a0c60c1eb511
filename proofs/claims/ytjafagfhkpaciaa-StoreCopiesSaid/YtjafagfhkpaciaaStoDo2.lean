/- The store's Do of each kind: what it answers, what it leaves. -/
import Derived.Test.YtjafagfhkpaciaaStoDo1
import Derived.Test.YtjafagfhkpaciaaStoCom
import Derived.Test.YtjafagfhkpaciaaStoGet
namespace Go.Proofs.Ytjafagfhkpaciaa
open Go.RowKit
set_option linter.unusedVariables false

section
variable {w : World} {s Mo Mu : Nat} {σ : Sto}
theorem SAt.nR (h : SAt w s Mo Mu σ) : ¬ StF s Mo Mu σ (w.heap.size + 1) := by
  intro hb
  rcases h with h | ⟨h, he, hMo, hMu⟩
  · have := h.lt hb; omega
  · have hs := h.lt
    rcases hb with g | g | g | ⟨p, hp, g⟩
    · omega
    · omega
    · omega
    · rw [he] at hp; cases hp
theorem bytes_s {cs : Array Value} (hb : w.heap[s]? = some (.cells cs 61 (0, 0))) (hc : ∀ (j : Nat) (z : Int), cs[j]? ≠ some (Value.int .u8 z)) {a : Option Addr} {n c : Nat} {xs : List Nat} (hx : BytesAt w a n c xs) : ∀ b off, a = some ⟨b, off, none⟩ → 0 < n → ¬ b = s := by
  intro b off ha hn e
  obtain ⟨b', off', ha', _, hcell⟩ := hx.cells hn
  rw [ha] at ha'
  cases ha'
  have h0 := hcell 0 hn
  rw [Nat.add_zero] at h0
  subst e
  rw [cell_of_row w b off _ _ (0, 0) hb] at h0
  exact hc _ _ h0
theorem stC_not (Mo Mu : Nat) (σ : Sto) : ∀ (j : Nat) (z : Int), (stC Mo Mu σ)[j]? ≠ some (Value.int .u8 z) := by
  intro j z h
  unfold stC at h
  rcases (by omega : j = 0 ∨ j = 1 ∨ j = 2 ∨ j = 3 ∨ j = 4 ∨ j = 5 ∨ 6 ≤ j) with rfl | rfl | rfl | rfl | rfl | rfl | g
  · simp at h
  · simp at h
  · simp at h
  · simp at h
  · simp at h
  · simp at h
  · rw [Array.getElem?_eq_none (by simpa using g)] at h; cases h
theorem SAt.bytes (h : SAt w s Mo Mu σ) {W0 : World} (hF : Frm (fun b => b = s) w W0) {a : Option Addr} {n c : Nat} {xs : List Nat} (hx : BytesAt w a n c xs) : BytesAt W0 a n c xs := by
  rcases h with h | ⟨⟨mu, h, _⟩, _⟩
  · exact bytes_frm hx hF (bytes_s h.blk (stC_not _ _ _) hx)
  · unfold freC at h
    refine bytes_frm hx hF (bytes_s h (fun j z e => ?_) hx)
    rcases (by omega : j = 0 ∨ j = 1 ∨ j = 2 ∨ j = 3 ∨ j = 4 ∨ j = 5 ∨ 6 ≤ j) with rfl | rfl | rfl | rfl | rfl | rfl | g
    · simp at e
    · simp at e
    · simp at e
    · simp at e
    · simp at e
    · simp at e
    · rw [Array.getElem?_eq_none (by simpa using g)] at e; cases e
theorem out_frm {W0 w1 w5 : World} (h1 : Frm (fun b => b = s) w W0) (h2 : Frm (StF s Mo Mu σ) W0 w1) (h3 : Frm (fun b => b = w.heap.size + 1) w1 w5) : Frm (StF s Mo Mu σ) w w5 :=
  ((h1.imp (fun i e => show StF s Mo Mu σ i from .inl e)).trans h2 (fun i hi => .inl hi)).trans h3 (fun i hi => .inr (by omega))
theorem out_st {W0 w1 w5 : World} {σ' : Sto} (h : SAt w s Mo Mu σ) (hz : w.heap.size + 2 ≤ W0.heap.size) (hst : StAt w1 s Mo Mu σ') (hsub : ∀ b, StF s Mo Mu σ' b → StF s Mo Mu σ b ∨ W0.heap.size ≤ b) (h3 : Frm (fun b => b = w.heap.size + 1) w1 w5) : StAt w5 s Mo Mu σ' :=
  hst.same fun b hb => h3.block b (hst.lt hb) (fun e => by
    rcases hsub b hb with g | g
    · rw [e] at g; exact h.nR g
    · omega)
end
/-- what is asked of a store -/
structure OkS (σ : Sto) : Prop where
  ver : 0 ≤ σ.ver ∧ σ.ver ≤ 1000000000
  id : 0 ≤ σ.id ∧ σ.id ≤ 1000000000
  siz : 0 ≤ σ.size ∧ σ.size ≤ 4194304
  nob : σ.objs.length ≤ 512
  old : ∀ k, oldLen σ k ≤ 262144
  upl : OkU σ
  usz : ∀ p ∈ σ.ups, (psz p.2.parts : Int) ≤ σ.size
  uky : ∀ p ∈ σ.ups, p.2.key.size ≤ 40
section
variable {w : World} {s Mo Mu : Nat} {σ : Sto} {vr at_ nn id : Int} {ky : ByteArray} {a : Option Addr} {n c : Nat} {xs : List Nat}
def PutD (w : World) (s Mo Mu : Nat) (σ : Sto) (er : Int) (ky d : ByteArray) (e : Ending) (w' : World) : Prop :=
  Frm (StF s Mo Mu σ) w w' ∧ (er ≠ 0 → e = .returned (rep0 er) ∧ StAt w' s Mo Mu σ) ∧ (er = 0 → e = .returned (rep 0 (.slice none 0 0) (σ.ver + 1) σ.now 0 (.slice none 0 0) false) ∧ StAt w' s Mo Mu (makeS σ ky d))
theorem put_meth {ki : Int} (h : SAt w s Mo Mu σ) (hx : BytesAt w a n c xs) (hk : ky.size ≤ 1000000000000000) (hok : OkS σ) : DoMeth w s Mo Mu σ 23 #[.int .i64 ki, .string ky, .slice a n c, .int .i64 vr, .int .i64 at_, .int .i64 nn, .int .i64 id] (fun W0 e w1 => PutSays W0 s Mo Mu σ (putE σ ki ky vr n) ky (bs xs) e w1) := by
  intro W0 h0 hF hz
  refine (put_any h0 (h.bytes hF hx) hk ⟨hok.ver.1, by have := hok.ver.2; omega, hok.siz.1, hok.siz.2⟩ (hok.old ky) hok.nob).mono fun e w1 hq => ⟨?_, hq, ?_⟩
  · rcases Classical.em (putE σ ki ky vr n = 0) with g | g
    · rw [(hq.2 g).1]; exact rep_shape _ _ _ _ _ _ _ _ _ _ _
    · rw [(hq.1 g).1]; exact rep0_shape _
  · rcases Classical.em (putE σ ki ky vr n = 0) with g | g
    · exact (hq.2 g).2.2
    · exact Frm.ofBelow (hq.1 g).2.2
theorem put_out {er : Int} {ky d : ByteArray} {e : Ending} {w5 : World} (h : SAt w s Mo Mu σ) (ho : DoOut w s Mo Mu σ (fun W0 e w1 => PutSays W0 s Mo Mu σ er ky d e w1) e w5) : PutD w s Mo Mu σ er ky d e w5 := by
  obtain ⟨W0, w1, h1, h2, h3, hq, h5, h6⟩ := ho
  exact ⟨out_frm h2 h5 h6, fun g => ⟨(hq.1 g).1, out_st h h3 (hq.1 g).2.1 (fun b hb => .inl hb) h6⟩, fun g => ⟨(hq.2 g).1, out_st h h3 (hq.2 g).2.1 (fun b hb => .inl hb) h6⟩⟩
theorem doPut (h : SAt w s Mo Mu σ) (hx : BytesAt w a n c xs) (hk : ky.size ≤ 1000000000000000) (hok : OkS σ) :
    Calls Try.prog 12 #[.pointer (some ⟨s, 0, none⟩), .agg #[.int .i64 1, .string ky, .slice a n c, .int .i64 vr, .int .i64 at_, .int .i64 nn, .int .i64 id]] w (PutD w s Mo Mu σ (putE σ 1 ky vr n) ky (bs xs)) :=
  (do_1 h (put_meth h hx hk hok)).mono fun e w5 ho => put_out h ho
theorem doPutIf (h : SAt w s Mo Mu σ) (hx : BytesAt w a n c xs) (hk : ky.size ≤ 1000000000000000) (hok : OkS σ) :
    Calls Try.prog 12 #[.pointer (some ⟨s, 0, none⟩), .agg #[.int .i64 2, .string ky, .slice a n c, .int .i64 vr, .int .i64 at_, .int .i64 nn, .int .i64 id]] w (PutD w s Mo Mu σ (putE σ 2 ky vr n) ky (bs xs)) :=
  (do_2 h (put_meth h hx hk hok)).mono fun e w5 ho => put_out h ho
def GetD (w : World) (s Mo Mu : Nat) (σ : Sto) (ky : ByteArray) (e : Ending) (w' : World) : Prop :=
  Frm (StF s Mo Mu σ) w w' ∧ StAt w' s Mo Mu σ ∧ match objOf σ ky with
  | none => e = .returned (rep0 7)
  | some o => ∃ g c, e = .returned (rep 0 (.slice (some ⟨g, 0, none⟩) o.data.size c) o.ver o.born 0 (.slice none 0 0) false) ∧ w.heap.size ≤ g ∧ BytesAt w' (some ⟨g, 0, none⟩) o.data.size c (numsOf o.data)
theorem doGet (h : SAt w s Mo Mu σ) (hk : ky.size ≤ 1000000000000000) (hok : OkS σ) :
    Calls Try.prog 12 #[.pointer (some ⟨s, 0, none⟩), .agg #[.int .i64 3, .string ky, .slice a n c, .int .i64 vr, .int .i64 at_, .int .i64 nn, .int .i64 id]] w (GetD w s Mo Mu σ ky) := by
  refine (do_3 h (Q := fun W0 e w1 => GetSays W0 s Mo Mu σ ky e w1) (fun W0 h0 hF hz => (get_any h0 hk (hok.old ky)).mono fun e w1 hq => ⟨?_, hq, ?_⟩)).mono fun e w5 ho => ?_
  · unfold GetSays at hq
    cases hg : objOf σ ky with
    | none => rw [hg] at hq; rw [hq.1]; exact rep0_shape _
    | some o => rw [hg] at hq; obtain ⟨g, c, he, _⟩ := hq; rw [he]; exact rep_shape _ _ _ _ _ _ _ _ _ _ _
  · unfold GetSays at hq
    cases hg : objOf σ ky with
    | none => rw [hg] at hq; exact Frm.ofBelow hq.2.2
    | some o => rw [hg] at hq; obtain ⟨g, c, he, _, _, _, hb⟩ := hq; exact Frm.ofBelow hb
  · obtain ⟨W0, w1, h1, h2, h3, hq, h5, h6⟩ := ho
    refine ⟨out_frm h2 h5 h6, ?_⟩
    unfold GetSays at hq
    cases hg : objOf σ ky with
    | none =>
      rw [hg] at hq
      exact ⟨out_st h h3 hq.2.1 (fun b hb => .inl hb) h6, hq.1⟩
    | some o =>
      rw [hg] at hq
      obtain ⟨g, c, he, hgg, hby, hst, hb⟩ := hq
      exact ⟨out_st h h3 hst (fun b hb => .inl hb) h6, g, c, he, by omega, bytes_frm hby h6 (fun b off e _ => by cases e; omega)⟩
def CreD (w : World) (s Mo Mu : Nat) (σ : Sto) (ky : ByteArray) (e : Ending) (w' : World) : Prop :=
  Frm (StF s Mo Mu σ) w w' ∧ (isKeyB ky = false → e = .returned (rep0 1) ∧ StAt w' s Mo Mu σ) ∧
  (isKeyB ky = true → 512 ≤ σ.ups.length → e = .returned (rep0 9) ∧ StAt w' s Mo Mu σ) ∧
  (isKeyB ky = true → σ.ups.length < 512 → ∃ pb, e = .returned (rep 0 (.slice none 0 0) 0 σ.now (σ.id + 1) (.slice none 0 0) false) ∧ w.heap.size ≤ pb ∧ StAt w' s Mo Mu (createS σ ky pb))
theorem doCreate (h : SAt w s Mo Mu σ) (hok : OkS σ) :
    Calls Try.prog 12 #[.pointer (some ⟨s, 0, none⟩), .agg #[.int .i64 7, .string ky, .slice a n c, .int .i64 vr, .int .i64 at_, .int .i64 nn, .int .i64 id]] w (CreD w s Mo Mu σ ky) := by
  have hcase : isKeyB ky = false ∨ (isKeyB ky = true ∧ 512 ≤ σ.ups.length) ∨ (isKeyB ky = true ∧ σ.ups.length < 512) := by
    cases isKeyB ky
    · exact .inl rfl
    · rcases Nat.lt_or_ge σ.ups.length 512 with g | g
      · exact .inr (.inr ⟨rfl, g⟩)
      · exact .inr (.inl ⟨rfl, g⟩)
  refine (do_7 h (Q := fun W0 e w1 => CreSays W0 s Mo Mu σ ky e w1) (fun W0 h0 hF hz => (create_any h0 ⟨hok.id.1, by have := hok.id.2; omega⟩).mono fun e w1 hq => ⟨?_, hq, ?_⟩)).mono fun e w5 ho => ?_
  · rcases hcase with g | ⟨g, g2⟩ | ⟨g, g2⟩
    · rw [(hq.1 g).1]; exact rep0_shape _
    · rw [(hq.2.1 g g2).1]; exact rep0_shape _
    · obtain ⟨pb, he, _⟩ := hq.2.2 g g2; rw [he]; exact rep_shape _ _ _ _ _ _ _ _ _ _ _
  · rcases hcase with g | ⟨g, g2⟩ | ⟨g, g2⟩
    · exact Frm.ofBelow (hq.1 g).2.2
    · exact Frm.ofBelow (hq.2.1 g g2).2.2
    · obtain ⟨pb, _, _, _, hf⟩ := hq.2.2 g g2; exact hf
  · obtain ⟨W0, w1, h1, h2, h3, hq, h5, h6⟩ := ho
    refine ⟨out_frm h2 h5 h6, fun g => ⟨(hq.1 g).1, out_st h h3 (hq.1 g).2.1 (fun b hb => .inl hb) h6⟩, fun g g2 => ⟨(hq.2.1 g g2).1, out_st h h3 (hq.2.1 g g2).2.1 (fun b hb => .inl hb) h6⟩, fun g g2 => ?_⟩
    obtain ⟨pb, he, hp, hst, _⟩ := hq.2.2 g g2
    exact ⟨pb, he, by omega, out_st h h3 hst (fun b hb => (cre_blk hb).elim .inl (fun e => .inr (by rw [e]; exact hp))) h6⟩
def PrtD (w : World) (s Mo Mu : Nat) (σ : Sto) (i nn : Int) (n : Nat) (d : ByteArray) (e : Ending) (w' : World) : Prop :=
  Frm (StF s Mo Mu σ) w w' ∧ (partE σ i nn n ≠ 0 → e = .returned (rep0 (partE σ i nn n)) ∧ StAt w' s Mo Mu σ) ∧
  (partE σ i nn n = 0 → ∃ u, upOf σ i = some u ∧ e = .returned (rep0 0) ∧ StAt w' s Mo Mu (partS σ i u nn d))
theorem doPart (h : SAt w s Mo Mu σ) (hx : BytesAt w a n c xs) (hid : (Lit.int .i64 id).wf = true) (hok : OkS σ) :
    Calls Try.prog 12 #[.pointer (some ⟨s, 0, none⟩), .agg #[.int .i64 8, .string ky, .slice a n c, .int .i64 vr, .int .i64 at_, .int .i64 nn, .int .i64 id]] w (PrtD w s Mo Mu σ id nn n (bs xs)) := by
  refine (do_8 h (Q := fun W0 e w1 => PrtSays W0 s Mo Mu σ id nn n (bs xs) e w1) (fun W0 h0 hF hz => (part_any h0 (h.bytes hF hx) hid hok.upl hok.siz).mono fun e w1 hq => ⟨?_, hq, ?_⟩)).mono fun e w5 ho => ?_
  · rcases Classical.em (partE σ id nn n = 0) with g | g
    · obtain ⟨u, _, he, _⟩ := hq.2 g; rw [he]; exact rep0_shape _
    · rw [(hq.1 g).1]; exact rep0_shape _
  · rcases Classical.em (partE σ id nn n = 0) with g | g
    · obtain ⟨u, _, _, _, hf⟩ := hq.2 g; exact hf
    · exact Frm.ofBelow (hq.1 g).2.2
  · obtain ⟨W0, w1, h1, h2, h3, hq, h5, h6⟩ := ho
    refine ⟨out_frm h2 h5 h6, fun g => ⟨(hq.1 g).1, out_st h h3 (hq.1 g).2.1 (fun b hb => .inl hb) h6⟩, fun g => ?_⟩
    obtain ⟨u, hu, he, hst, _⟩ := hq.2 g
    exact ⟨u, hu, he, out_st h h3 hst (fun b hb => .inl (part_blk hb)) h6⟩
def ComD (w : World) (s Mo Mu : Nat) (σ : Sto) (i nn : Int) (e : Ending) (w' : World) : Prop :=
  Frm (StF s Mo Mu σ) w w' ∧ (comE σ i nn ≠ 0 → e = .returned (rep0 (comE σ i nn)) ∧ StAt w' s Mo Mu σ) ∧
  (comE σ i nn = 0 → ∃ u d, upOf σ i = some u ∧ catP u.parts nn.toNat = some d ∧ e = .returned (rep 0 (.slice none 0 0) (σ.ver + 1) σ.now 0 (.slice none 0 0) false) ∧ StAt w' s Mo Mu (comS σ i u d))
theorem doComplete (h : SAt w s Mo Mu σ) (hid : (Lit.int .i64 id).wf = true) (hok : OkS σ) :
    Calls Try.prog 12 #[.pointer (some ⟨s, 0, none⟩), .agg #[.int .i64 9, .string ky, .slice a n c, .int .i64 vr, .int .i64 at_, .int .i64 nn, .int .i64 id]] w (ComD w s Mo Mu σ id nn) := by
  refine (do_9 h (Q := fun W0 e w1 => ComSays W0 s Mo Mu σ id nn e w1) (fun W0 h0 hF hz => (complete_any h0 hid hok.upl hok.siz hok.usz (fun p hp => Nat.le_trans (hok.uky p hp) (by decide)) ⟨hok.ver.1, by have := hok.ver.2; omega⟩ hok.nob hok.old).mono fun e w1 hq => ⟨?_, hq, ?_⟩)).mono fun e w5 ho => ?_
  · rcases Classical.em (comE σ id nn = 0) with g | g
    · obtain ⟨u, d, _, _, he, _⟩ := hq.2 g; rw [he]; exact rep_shape _ _ _ _ _ _ _ _ _ _ _
    · rw [(hq.1 g).1]; exact rep0_shape _
  · rcases Classical.em (comE σ id nn = 0) with g | g
    · obtain ⟨u, d, _, _, _, _, hf⟩ := hq.2 g; exact hf
    · exact Frm.ofBelow (hq.1 g).2.2
  · obtain ⟨W0, w1, h1, h2, h3, hq, h5, h6⟩ := ho
    refine ⟨out_frm h2 h5 h6, fun g => ⟨(hq.1 g).1, out_st h h3 (hq.1 g).2.1 (fun b hb => .inl hb) h6⟩, fun g => ?_⟩
    obtain ⟨u, d, hu, hd, he, hst, _⟩ := hq.2 g
    exact ⟨u, d, hu, hd, he, out_st h h3 hst (fun b hb => .inl (StF.drop (StF.make hb))) h6⟩
def AbtD (w : World) (s Mo Mu : Nat) (σ : Sto) (i : Int) (e : Ending) (w' : World) : Prop :=
  Frm (StF s Mo Mu σ) w w' ∧ match upOf σ i with
  | none => e = .returned (rep0 7) ∧ StAt w' s Mo Mu σ
  | some u => e = .returned (rep0 0) ∧ StAt w' s Mo Mu (dropS σ i (psz u.parts))
theorem doAbort (h : SAt w s Mo Mu σ) (hid : (Lit.int .i64 id).wf = true) (hok : OkS σ) :
    Calls Try.prog 12 #[.pointer (some ⟨s, 0, none⟩), .agg #[.int .i64 10, .string ky, .slice a n c, .int .i64 vr, .int .i64 at_, .int .i64 nn, .int .i64 id]] w (AbtD w s Mo Mu σ id) := by
  refine (do_10 h (Q := fun W0 e w1 => AbtSays W0 s Mo Mu σ id e w1) (fun W0 h0 hF hz => (abort_any h0 hid hok.upl hok.siz).mono fun e w1 hq => ⟨?_, hq, ?_⟩)).mono fun e w5 ho => ?_
  · unfold AbtSays at hq
    cases hg : upOf σ id with
    | none => rw [hg] at hq; rw [hq.1]; exact rep0_shape _
    | some o => rw [hg] at hq; rw [hq.1]; exact rep0_shape _
  · unfold AbtSays at hq
    cases hg : upOf σ id with
    | none => rw [hg] at hq; exact Frm.ofBelow hq.2.2
    | some o => rw [hg] at hq; exact hq.2.2
  · obtain ⟨W0, w1, h1, h2, h3, hq, h5, h6⟩ := ho
    refine ⟨out_frm h2 h5 h6, ?_⟩
    unfold AbtSays at hq
    cases hg : upOf σ id with
    | none => rw [hg] at hq; exact ⟨hq.1, out_st h h3 hq.2.1 (fun b hb => .inl hb) h6⟩
    | some o => rw [hg] at hq; exact ⟨hq.1, out_st h h3 hq.2.1 (fun b hb => .inl hb.drop) h6⟩
end
end Go.Proofs.Ytjafagfhkpaciaa
