/-
  THE WALK over kleene.ordered.
-/
import Derived.Test.YtmpmlccomgepjaaKlOrdM
namespace Go.Proofs.Ytmpmlccomgepjaa
open Go.RowKit Go.Lib Go.Sort
namespace Kl
/-- what is read behind a call that has changed other blocks alone -/
theorem ch_rules {g : Nat} {w w' : World} (h : Ch g w w') {B : Nat} (hB : B < w.heap.size) (hg : B ≠ g) : (∀ o, w'.cell? ⟨B, o, none⟩ = w.cell? ⟨B, o, none⟩) ∧ ∀ o, w'.frozen? ⟨B, o, none⟩ = w.frozen? ⟨B, o, none⟩ := by
  have hb := h.block B hB (fun c => hg (by cases c; rfl))
  exact ⟨fun o => World.cell?_of_block (a := ⟨B, o, none⟩) hb, fun o => World.frozen?_of_block (a := ⟨B, o, none⟩) hb⟩
theorem Ch.setc {g : Nat} {w b : World} (h : Ch g w b) {p : Addr} (hp : w.heap.size ≤ p.block) (v : Value) : Ch g w (b.setCell p v) :=
  ⟨h.os, h.tape, h.output, by have := h.size; simpa [World.setCell] using this, fun k hk hn => (Below.heap_setCell _ _ _ _ (by omega)).trans (h.block k hk hn)⟩
theorem LoR.setc {w : World} {g cap : Nat} {l : List Fv} (h : LoR w g cap l) {p : Addr} (hp : p.block ≠ g) (hl : ∀ x ∈ l, p.block ∉ fp x) (v : Value) : LoR (w.setCell p v) g cap l := by
  have hk : ∀ b, b ≠ p.block → (w.setCell p v).heap[b]? = w.heap[b]? := fun b hb => Below.heap_setCell _ _ _ _ hb
  refine ⟨h.1.keep (hk g (Ne.symm hp)), fun x hx => ⟨(h.2 x hx).1.imp x fun a _ ha e => ?_, (h.2 x hx).2⟩, fun x hx => (h.3 x hx).imp x fun b hb _ => hk b fun c => hl x hx (c ▸ hb), h.4⟩
  exact (World.cell?_of_block (a := a) (hk a.block (fun c => hl x hx (c ▸ ha)))).trans e
theorem lt2 (w : World) (o o' : Obj) : w.heap.size < ((w.alloc o).alloc o').heap.size ∧ w.heap.size + 1 < ((w.alloc o).alloc o').heap.size := by constructor <;> simp <;> omega
/-- what the two calls come to -/
def Two (w : World) (g cap : Nat) (l : List Fv) (W : World) (ml : Nat) (w2 : World) : Prop :=
  ∃ m : List Fv, m.length = ml ∧ m.map ct = sr (l.map ct) ∧ (∀ x ∈ m, x ∈ l) ∧ LoR w2 g cap m ∧ Ch g W w2 ∧ Below w.heap.size w W
end Kl
set_option maxRecDepth 100000 in
set_option maxHeartbeats 2000000 in
theorem klOrdLeaf (o v n : Int) (w : World) (ho : o = 0 ∨ o = 1) : Calls Try.prog 17 #[.agg #[.int .i64 o, .int .i64 v, .int .i64 n, .slice none 0 0]] w fun r w' => r = .returned (.agg #[.int .i64 o, .int .i64 v, .int .i64 n, .slice none 0 0]) ∧ Below w.heap.size w w' := by
  rcases ho with rfl | rfl
  · go_enter Try.func17, Try.ntmps17
    go_wp2_with fail
    exact bodyPost_ret (v := .agg #[.int .i64 0, .int .i64 v, .int .i64 n, .slice none 0 0]) (by simp [results, Try.results17, go_sem]) rfl ⟨rfl, ((Below.refl _ _).alloc (Nat.le_refl _) _).alloc (by simp) _⟩
  · go_enter Try.func17, Try.ntmps17
    go_wp2_with fail
    exact bodyPost_ret (v := .agg #[.int .i64 1, .int .i64 v, .int .i64 n, .slice none 0 0]) (by simp [results, Try.results17, go_sem]) rfl ⟨rfl, ((Below.refl _ _).alloc (Nat.le_refl _) _).alloc (by simp) _⟩
set_option maxRecDepth 100000 in
set_option maxHeartbeats 4000000 in
theorem klOrdRow (o v n : Int) (g cap : Nat) (l : List Kl.Fv) (w : World) (ho : o = 2 ∨ o = 3) (h : Kl.LoR w g cap l) (hn : l.length < 4611686018427387904) :
    Calls Try.prog 17 #[.agg #[.int .i64 o, .int .i64 v, .int .i64 n, .slice (some ⟨g, 0, none⟩) l.length cap]] w fun r w' => ∃ m : List Kl.Fv, r = .returned (.agg #[.int .i64 o, .int .i64 v, .int .i64 n, .slice (some ⟨g, 0, none⟩) m.length cap]) ∧ m.map Kl.ct = Kl.sr (l.map Kl.ct) ∧ (∀ x ∈ m, x ∈ l) ∧ Kl.LoR w' g cap m ∧ Kl.Ch g w w' := by
  obtain ⟨k, hk⟩ : ∃ k, l.length = k := ⟨_, rfl⟩
  have hg := h.1.lt
  have hin : ∀ R', ((List.range k).map R').Perm ((List.range k).map (Kl.nth l)) → ∀ i, i < k → R' i ∈ l := fun R' hp i hi => by
    have := hp.mem_iff.1 (List.mem_map.2 ⟨i, by simpa using hi, rfl⟩ : R' i ∈ (List.range k).map R')
    rw [← hk, Kl.nth_range] at this
    exact this
  have cS : ∀ W, Below w.heap.size w W → Calls Try.prog 26 #[.slice (some ⟨g, 0, none⟩) k cap, .func (.func 27) #[] #[]] W fun e w' => e = .returned (.tuple #[]) ∧ Kl.SrtE W g cap k (Kl.nth l) w' := fun W hb => by
    have h2 := h.below hb
    have := klSort g cap l.length (Kl.nth l) W h2.1 (fun i hi => by
      obtain ⟨x, hx⟩ := Kl.some_of hi
      rw [Kl.nth_some hx]
      exact h2.2 x (List.mem_of_getElem? hx)) hn
    rw [hk] at this
    exact this
  have cC : ∀ W w1, Below w.heap.size w W → Kl.SrtE W g cap k (Kl.nth l) w1 → Calls Try.prog 28 #[.slice (some ⟨g, 0, none⟩) k cap, .func (.func 29) #[] #[]] w1 fun e w' => ∃ ml, e = .returned (.slice (some ⟨g, 0, none⟩) ml cap) ∧ Kl.Ch g w1 w' ∧ Kl.Two w g cap l W ml w' := fun W w1 hb hs => by
    obtain ⟨R', s1, s2, s3, s4⟩ := hs
    have h2 := h.below hb
    have hdj : Kl.Dj (Kl.kp R' k) := by
      rw [← hk, Kl.nth_range] at s2
      exact (h.4.perm s2).sub (by rw [← hk]; exact Kl.kp_sublist R' _)
    have s2 := s2
    have hok : ∀ x ∈ l, Kl.Ok w1 x ∧ g ∉ Kl.fp x := fun x hx => ⟨s4.ok (h2.2 x hx).1 (h2.2 x hx).2, (h2.2 x hx).2⟩
    refine (klCompact g cap k R' w1 s3 fun i hi => hok _ (hin R' s2 i hi)).mono fun e w' he => ?_
    obtain ⟨e1, e2, e3⟩ := he
    refine ⟨_, e1, e3, _, rfl, ?_, fun x hx => ?_, ⟨e2, fun x hx => ?_, fun x hx => ?_, hdj⟩, s4.trans e3, hb⟩
    · have := Kl.kp_sr s1 s2
      rw [this, ← hk, Kl.nth_range]
    · obtain ⟨i, hi, rfl⟩ := Kl.kp_sub R' k x hx
      exact hin R' s2 i hi
    · obtain ⟨i, hi, rfl⟩ := Kl.kp_sub R' k x hx
      have := hok _ (hin R' s2 i hi)
      exact ⟨e3.ok this.1 this.2, this.2⟩
    · obtain ⟨i, hi, rfl⟩ := Kl.kp_sub R' k x hx
      have := h2.3 _ (hin R' s2 i hi)
      have hn := (h2.2 _ (hin R' s2 i hi)).2
      exact e3.dp (s4.dp this hn) hn
  have hfp : ∀ x ∈ l, ∀ b ∈ Kl.fp x, b < w.heap.size := fun x hx => (h.2 x hx).1.lt x
  rw [hk]
  have CS := hide' cS
  have CC := hide' cC
  have HF := hide' hfp
  clear cS cC h hk hn hin hfp
  rcases ho with rfl | rfl
  all_goals
    go_enter Try.func17, Try.ntmps17
    go_wp2_with (first | (go_at_call 26; refine (CS.out _ (((Below.refl _ _).alloc (Nat.le_refl _) _).alloc (by simp) _)).mono ?_; rintro e w1 ⟨rfl, hs⟩; have HS := hide' hs; obtain ⟨_, _, _, _, hc⟩ := hs; obtain ⟨c1, f1⟩ := Kl.ch_rules hc (B := w.heap.size) (Kl.lt2 _ _ _).1 (by omega); obtain ⟨c2, f2⟩ := Kl.ch_rules hc (B := w.heap.size + 1) (Kl.lt2 _ _ _).2 (by omega); have HC := hide' hc; clear hc) | (go_at_call 28; refine (CC.out _ _ (((Below.refl _ _).alloc (Nat.le_refl _) _).alloc (by simp) _) HS.out).mono ?_; rintro e w2 ⟨ml, rfl, hc, h2⟩; have hz := HC.out.size; have H2 := hide' h2; obtain ⟨c3, f3⟩ := Kl.ch_rules hc (B := w.heap.size) (by simp at hz; omega) (by omega); obtain ⟨c4, f4⟩ := Kl.ch_rules hc (B := w.heap.size + 1) (by simp at hz; omega) (by omega); clear hc h2 hz HS HC))
    obtain ⟨m, m1, m2, m3, m4, m5, m6⟩ := H2.out
    subst m1
    have hlt : ∀ x ∈ m, ∀ b ∈ Kl.fp x, b < w.heap.size := fun x hx => HF.out x (m3 x hx)
    have hp0 : ∀ x ∈ m, w.heap.size ∉ Kl.fp x := fun x hx hb => by have := hlt x hx _ hb; omega
    have hp1 : ∀ x ∈ m, w.heap.size + 1 ∉ Kl.fp x := fun x hx hb => by have := hlt x hx _ hb; omega
    have hcw : Kl.Ch g w w2 := ⟨m5.os.trans m6.os, m5.tape.trans m6.tape, m5.output.trans m6.output, Nat.le_trans m6.size m5.size, fun b hb hn => (m5.block b (by have := m6.size; omega) hn).trans (m6.block b hb)⟩
    refine bodyPost_ret (v := .agg #[.int .i64 _, .int .i64 v, .int .i64 n, .slice (some ⟨g, 0, none⟩) m.length cap]) (by simp [results, Try.results17, go_sem, c4, c2]) rfl ⟨m, rfl, m2, m3, ?_, ?_⟩
    · exact ((((m4.setc (by show w.heap.size ≠ g; omega) hp0 _).setc (by show w.heap.size + 1 ≠ g; omega) hp1 _).setc (by show w.heap.size + 1 ≠ g; omega) hp1 _).setc (by show w.heap.size + 1 ≠ g; omega) hp1 _).setc (by show w.heap.size + 1 ≠ g; omega) hp1 _
    · exact ((((hcw.setc (Nat.le_refl _) _).setc (Nat.le_succ _) _).setc (Nat.le_succ _) _).setc (Nat.le_succ _) _).setc (Nat.le_succ _) _
end Go.Proofs.Ytmpmlccomgepjaa
