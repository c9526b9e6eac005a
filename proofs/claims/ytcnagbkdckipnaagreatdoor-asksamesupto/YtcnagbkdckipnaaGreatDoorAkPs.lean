import Derived.Test.YtcnagbkdckipnaaGreatDoorAkOne
import Derived.Test.YtcnagbkdckipnaaGreatDoorAkSf
import Derived.Recover
/-
  THE PARSER's functions that call one another, tied together by how many brackets may still be opened.
-/
namespace Go.Proofs.YtcnagbkdckipnaaGreatDoor
open Go.RowKit Go.Lib
namespace Ak
/-- either and some, wherever so many brackets more may be opened -/
def Tied (d : Nat) : Prop := ∀ (W : World) (P : Nat) (qv wv : Value) (n : Nat) (ws : Nat → Wo) (en : Wo) (at_ op mo : Nat), Ps W P qv wv n ws at_ op mo → Tb W → GU P qv wv n ws en → mo = op + d →
  Calls Tryz.prog 101 #[.pointer (some ⟨P, 0, none⟩)] W (PrE P qv wv n ws en op mo W (XV W.heap.size) (eitherR n ws (lev n ws d) at_)) ∧
  Calls Tryz.prog 147 #[.pointer (some ⟨P, 0, none⟩)] W (PrE P qv wv n ws en op mo W (XV W.heap.size) (someR n ws (withinR n ws ((lev n ws d).map Lv.ei) ⟨#[93]⟩) at_))
end Ak
theorem akSome (W : World) (P : Nat) (qv wv : Value) (n : Nat) (ws : Nat → Ak.Wo) (en : Ak.Wo) (at_ op mo : Nat) (h0 : Ak.Ps W P qv wv n ws at_ op mo) (hg : Ak.GU P qv wv n ws en) (wi : Ak.RX) (hmw : Ak.Mo wi)
    (hf : ∀ W1 a, Ak.Pb P W W1 → Ak.Ps W1 P qv wv n ws a op mo → Calls Tryz.prog 74 #[.pointer (some ⟨P, 0, none⟩)] W1 (Ak.PrE P qv wv n ws en op mo W1 (Ak.SV W1.heap.size) (Ak.stepR n ws wi a))) :
    Calls Tryz.prog 147 #[.pointer (some ⟨P, 0, none⟩)] W (Ak.PrE P qv wv n ws en op mo W (Ak.XV W.heap.size) (Ak.someR n ws wi at_)) := by
  by_cases hs : Ak.sgB n ws at_ ⟨#[64]⟩ = true
  · exact akSomeAttr W P qv wv n ws en at_ op mo h0 hg wi hs
  · exact akSomePath W P qv wv n ws en at_ op mo h0 hg wi hmw (by simpa using hs) hf
namespace Ak

set_option maxRecDepth 100000 in
theorem in_either {d : Nat} (ih : ∀ e, d = e + 1 → Tied e) {W : World} {P : Nat} {qv wv : Value} {n : Nat} {ws : Nat → Wo} {en : Wo} {at_ op mo : Nat} (h0 : Ps W P qv wv n ws at_ op mo) (ht : Tb W) (hg : GU P qv wv n ws en) (hd : mo = op + d) (ha : at_ < n) (last : ByteArray) :
    Calls Tryz.prog 100 #[.pointer (some ⟨P, 0, none⟩), .string last, .func (.func 101) #[.pointer (some ⟨P, 0, none⟩)] #[]] W (PrE P qv wv n ws en op mo W (XV W.heap.size) (withinR n ws ((lev n ws d).map Lv.ei) last at_)) :=
  akWithin W P qv wv n ws en at_ op mo h0 ha hg _ _ (fun w => by rfl) last _ (fun e => by
    obtain rfl : d = 0 := by omega
    rfl) (fun hlt => by
    obtain ⟨e, rfl⟩ : ∃ e, d = e + 1 := ⟨d - 1, by omega⟩
    exact ⟨_, rfl, fun W1 a q h => (ih e rfl W1 P qv wv n ws en a (op + 1) mo h (ht.pb h0.c q) hg (by omega)).1⟩)
set_option maxRecDepth 100000 in
theorem in_some {d : Nat} (ih : ∀ e, d = e + 1 → Tied e) {W : World} {P : Nat} {qv wv : Value} {n : Nat} {ws : Nat → Wo} {en : Wo} {at_ op mo : Nat} (h0 : Ps W P qv wv n ws at_ op mo) (ht : Tb W) (hg : GU P qv wv n ws en) (hd : mo = op + d) (ha : at_ < n) (last : ByteArray) :
    Calls Tryz.prog 100 #[.pointer (some ⟨P, 0, none⟩), .string last, .func (.func 147) #[.pointer (some ⟨P, 0, none⟩)] #[]] W (PrE P qv wv n ws en op mo W (XV W.heap.size) (withinR n ws ((lev n ws d).map Lv.so) last at_)) :=
  akWithin W P qv wv n ws en at_ op mo h0 ha hg _ _ (fun w => by rfl) last _ (fun e => by
    obtain rfl : d = 0 := by omega
    rfl) (fun hlt => by
    obtain ⟨e, rfl⟩ : ∃ e, d = e + 1 := ⟨d - 1, by omega⟩
    exact ⟨_, rfl, fun W1 a q h => (ih e rfl W1 P qv wv n ws en a (op + 1) mo h (ht.pb h0.c q) hg (by omega)).2⟩)
theorem tie_step {d : Nat} (ih : ∀ e, d = e + 1 → Tied e) : Tied d := fun W P qv wv n ws en at_ op mo h0 ht hg hd => by
  have hE : ∀ last W1 a, Pb P W W1 → Ps W1 P qv wv n ws a op mo → a < n → _ := fun last W1 a q h ha => in_either ih h (ht.pb h0.c q) hg hd ha last
  have hm := lev_mo n ws d
  have hSt : ∀ W1 a, Pb P W W1 → Ps W1 P qv wv n ws a op mo → _ := fun W1 a q h => akStep W1 P qv wv n ws en a op mo h (ht.pb h0.c q) hg _ (withinR_lt hm.ei) (fun W2 a2 q2 h2 ha => hE ⟨#[93]⟩ W2 a2 (q.trans q2) h2 ha)
  have hSo : ∀ W1 a, Pb P W W1 → Ps W1 P qv wv n ws a op mo → _ := fun W1 a q h => akSome W1 P qv wv n ws en a op mo h hg _ (withinR_mo hm.ei) (fun W2 a2 q2 h2 => hSt W2 a2 (q.trans q2) h2)
  refine ⟨?_, hSo W at_ (.refl P W) h0⟩
  have hOne : ∀ W1 a, Pb P W W1 → Ps W1 P qv wv n ws a op mo → _ := fun W1 a q h => akOne W1 P qv wv n ws en a op mo h (ht.pb h0.c q) hg (lev n ws d)
    (fun last W2 a2 q2 h2 ha => hE last W2 a2 (q.trans q2) h2 ha)
    (fun W2 a2 q2 h2 ha => akLength W2 P qv wv n ws en a2 op mo h2 (ht.pb h0.c (q.trans q2)) hg _ (fun W3 q3 h3 => in_some ih h3 (ht.pb h0.c ((q.trans q2).trans q3)) hg hd ha ⟨#[41]⟩))
    (fun c W2 a2 q2 h2 ha => akSearch W2 P qv wv n ws en a2 op mo h2 hg c (lev n ws d) ha (fun e => by
      obtain rfl : d = 0 := by omega
      rfl) (fun hlt => by
      obtain ⟨e, rfl⟩ : ∃ e, d = e + 1 := ⟨d - 1, by omega⟩
      exact ⟨_, rfl, fun W3 a3 q3 h3 => (ih e rfl W3 P qv wv n ws en a3 (op + 1) mo h3 (ht.pb h0.c ((q.trans q2).trans q3)) hg (by omega)).2⟩))
    (fun W2 q2 h2 => hSo W2 a (q.trans q2) h2)
  exact akEither W P qv wv n ws en at_ op mo h0 _ (joinedR_mo (oneR_mo hm)) (fun W1 a q h => akBoth W1 P qv wv n ws en a op mo h _ (oneR_mo hm) (fun W2 a2 q2 h2 => hOne W2 a2 (q.trans q2) h2))
theorem tied : ∀ d, Tied d
  | 0 => tie_step fun e h => absurd h (by omega)
  | d + 1 => tie_step fun e h => by
    obtain rfl : d = e := by omega
    exact tied d
/-- a step, wherever so many brackets more may be opened -/
theorem step_at {d : Nat} {W : World} {P : Nat} {qv wv : Value} {n : Nat} {ws : Nat → Wo} {en : Wo} {at_ op mo : Nat} (h0 : Ps W P qv wv n ws at_ op mo) (ht : Tb W) (hg : GU P qv wv n ws en) (hd : mo = op + d) :
    Calls Tryz.prog 74 #[.pointer (some ⟨P, 0, none⟩)] W (PrE P qv wv n ws en op mo W (SV W.heap.size) (stepR n ws (withinR n ws ((lev n ws d).map Lv.ei) ⟨#[93]⟩) at_)) :=
  akStep W P qv wv n ws en at_ op mo h0 ht hg _ (withinR_lt (lev_mo n ws d).ei) (fun _ _ q2 h2 ha => in_either (fun e _ => tied e) h2 (ht.pb h0.c q2) hg hd ha ⟨#[93]⟩)
end Ak
end Go.Proofs.YtcnagbkdckipnaaGreatDoor
/-
  THE DEFERRED CLOSURE of the parser's parse: behind a panic, behind none.
-/
namespace Go.Proofs.YtcnagbkdckipnaaGreatDoor
open Go.RowKit Go.Lib
set_option maxRecDepth 100000 in
set_option maxHeartbeats 4000000 in
theorem akCatch (a b : Nat) (x : Value) (y : Value) (d : Nat) (older : List PanicEntry) (w : World) (ha : w.cell? ⟨a, 0, none⟩ = some x) (hb : w.cell? ⟨b, 0, none⟩ = some y) (fa : w.frozen? ⟨a, 0, none⟩ = false) (fb : w.frozen? ⟨b, 0, none⟩ = false) (hab : a ≠ b) :
    CallsD Tryz.prog 38 #[.pointer (some ⟨a, 0, none⟩), .pointer (some ⟨b, 0, none⟩)] (.panicking ({ v := .iface 41 (.pointer (some ⟨d, 0, none⟩)), recovered := false } :: older)) w fun e u' w' =>
      e = .returned (.tuple #[]) ∧ u' = .panicking ({ v := .iface 41 (.pointer (some ⟨d, 0, none⟩)), recovered := true } :: older) ∧ w' = (w.setCell ⟨a, 0, none⟩ (.slice none 0 0)).setCell ⟨b, 0, none⟩ (.iface 41 (.pointer (some ⟨d, 0, none⟩))) := by
  have hta : ∀ w, (Instr.typeAssert (.iface 41 (.pointer (some ⟨d, 0, none⟩))) 20 41 true).run Tryz.prog w = .ok (.tuple #[.pointer (some ⟨d, 0, none⟩), .bool true]) w := fun w => by kernel_rfl
  refine callsD_of_wpS Tryz.func38 rfl fun c₀ cs hu => ?_
  apply wpS_seq
  apply wpS_region
  simp [wpOpsS, go_sem, recoverD, hu, Tryz.ntmps38, Exit.thenS, hta]
  apply wpS_seq
  apply wpS_region
  simp [wpOpsS, go_sem, Exit.thenS]
  refine wpS_cond (t := true) (by simp [Act.eval]) ?_
  simp only [if_true]
  apply wpS_region
  simp [wpOpsS, go_sem, ha, hb, fa, fb, bodyPostS, results, Tryz.results38]
set_option maxRecDepth 100000 in
set_option maxHeartbeats 4000000 in
theorem akIdle (a b : Nat) (w : World) :
    CallsD Tryz.prog 38 #[.pointer (some ⟨a, 0, none⟩), .pointer (some ⟨b, 0, none⟩)] .returning w fun e u' w' => e = .returned (.tuple #[]) ∧ u' = .returning ∧ w' = w := by
  have hta : ∀ w, (Instr.typeAssert .nilIface 20 41 true).run Tryz.prog w = .ok (.tuple #[.pointer none, .bool false]) w := fun w => by kernel_rfl
  refine callsD_of_wpS Tryz.func38 rfl fun c₀ cs hu => ?_
  apply wpS_seq
  apply wpS_region
  simp [wpOpsS, go_sem, recoverD, hu, Tryz.ntmps38, Exit.thenS, hta]
  apply wpS_seq
  apply wpS_region
  simp [wpOpsS, go_sem, Exit.thenS]
  refine wpS_cond (t := false) (by simp [Act.eval]) ?_
  simp only [Bool.false_eq_true, if_false]
  refine wpS_of_wp (wp_skip ?_)
  cases c₀
  simp_all [bodyPostS, results, Tryz.results38]
end Go.Proofs.YtcnagbkdckipnaaGreatDoor
/-
  THE WALK over the parser's parse (gen_akps.py writes this text).
-/
namespace Go.Proofs.YtcnagbkdckipnaaGreatDoor
open Go.RowKit Go.Lib Go.Sort
namespace Ak
/-- what parse answers -/
def PaE (P : Nat) (n : Nat) (ws : Nat → Wo) (W : World) : Res (List Sp) → Ending → World → Prop
  | .ok st _, r, w' => ∃ p k c lv, r = .returned (.tuple #[.agg #[.slice p k c], .nilIface]) ∧ LS W.heap.size w' (.slice p k c) lv ∧ cSs lv = st ∧ Pb P W w'
  | .bad a why, r, w' => ∃ d, r = .returned (.tuple #[.agg #[.slice none 0 0], .iface 41 (.pointer (some ⟨d, 0, none⟩))]) ∧ W.heap.size ≤ d ∧ w'.heap[d]? = some (.cells #[.int .i64 (plC n ws (ws n) a).p0, .int .i64 (plC n ws (ws n) a).p1, .int .i64 (plC n ws (ws n) a).p2, .int .i64 (plC n ws (ws n) a).p3, .int .i64 why] 72 (0, 0)) ∧ Pb P W w'
theorem LS.mono {B C : Nat} {w : World} {v : Value} {l : List Sv} (h : LS B w v l) (hC : C ≤ B) : LS C w v l := ⟨h.own, h.ok, fun x hx b hb => ⟨Nat.le_trans hC (h.lo x hx b hb).1, (h.lo x hx b hb).2⟩, fun b hb => Nat.le_trans hC (h.own_lo b hb)⟩
theorem LS.keepAt {B : Nat} {w w' : World} {v : Value} {l : List Sv} (h : LS B w v l) (hk : ∀ k, B ≤ k → k < w.heap.size → w'.heap[k]? = w.heap[k]?) : LS B w' v l :=
  ⟨h.own.keep fun b hb h1 => hk b (h.own_lo b hb) h1, fun x hx => (h.ok x hx).imp x fun a _ ha e => (World.cell?_of_block (hk a.block (h.lo x hx _ ha).1 (block_lt_of_cell e))).trans e, h.lo, h.own_lo⟩
theorem paSize : (Tryz.prog.info? 25).map (·.size) = some 1 := by kernel_rfl
theorem load_pa {w : World} {b : Nat} {v : Value} (h : w.heap[b]? = some (.cells #[v] 25 (0, 0))) : (loadVar 25 ⟨b, 0, none⟩).run Tryz.prog w = .ok (.agg #[v]) w := by
  have := run_loadVar_mid (P := Tryz.prog) w b 0 25 [v] _ (range_of h) Tryz.underlying25 rfl (by rw [paSize]; simp)
  simpa using this
theorem results_two {P : Program} {fn : Func} {a b : Nat} {t u : TypeId} (hr : fn.results = #[.cell a t, .cell b u]) (tmps : Array Value) (p q : Addr) (hp : tmps[a]?.getD undef = .pointer (some p)) (hq : tmps[b]?.getD undef = .pointer (some q)) (v v2 : Value) (w : World) (h : (loadVar t p).run P w = .ok v w) (h2 : (loadVar u q).run P w = .ok v2 w) : (results fn tmps).run P w = .ok (.tuple #[v, v2]) w := by
  unfold results
  rw [hr]
  simp [asAddr, hp, hq, h, h2]
/-- both results are read when the function is left -/
theorem parse_done {w : World} {A B : Nat} {v : Value} {e : Value} (ha : w.heap[A]? = some (.cells #[v] 25 (0, 0))) (he : w.cell? ⟨B, 0, none⟩ = some e) (tmps : Array Value) (hA : tmps[2]?.getD undef = .pointer (some ⟨A, 0, none⟩)) (hB : tmps[3]?.getD undef = .pointer (some ⟨B, 0, none⟩)) : (results Tryz.f16 tmps).run Tryz.prog w = .ok (.tuple #[.agg #[v], e]) w :=
  results_two Tryz.results16 tmps _ _ hA hB _ _ w (load_pa ha) (by simp [go_sem, he])
/-- the world in which parse begins its work -/
def pw (W : World) : World := (W.alloc (.cells #[.slice none 0 0] 25)).alloc (.cells #[.nilIface] 27)
theorem pw_size (W : World) : (pw W).heap.size = W.heap.size + 2 := by unfold pw; rw [World.size_alloc, World.size_alloc]
theorem pw_below (W : World) : Below W.heap.size W (pw W) := ((Below.refl _ _).alloc (Nat.le_refl _) _).alloc (by rw [World.size_alloc]; omega) _
theorem pw_a (W : World) : (pw W).heap[W.heap.size]? = some (.cells #[.slice none 0 0] 25 (0, 0)) :=
  (((Below.refl _ _).alloc (Nat.le_refl _) (.cells #[.nilIface] 27)).block W.heap.size (by rw [World.size_alloc]; omega)).trans (heap_new _ _)
theorem pw_b (W : World) : (pw W).heap[W.heap.size + 1]? = some (.cells #[.nilIface] 27 (0, 0)) := by
  have := heap_new (W.alloc (.cells #[.slice none 0 0] 25)) (.cells #[.nilIface] 27)
  rwa [World.size_alloc] at this
end Ak
set_option maxRecDepth 100000 in
set_option maxHeartbeats 16000000 in
theorem akParseP (W : World) (P : Nat) (qv wv : Value) (n : Nat) (ws : Nat → Ak.Wo) (mo : Nat) (h0 : Ak.Ps W P qv wv n ws 0 0 mo) (ht : Ak.Tb W) :
    Calls Tryz.prog 16 #[.pointer (some ⟨P, 0, none⟩)] W (Ak.PaE P n ws W (Ak.parseR n ws mo)) := by
  obtain ⟨W2, hW2⟩ : ∃ X, X = Ak.pw W := ⟨_, rfl⟩
  have hb : Below W.heap.size W W2 := by rw [hW2]; exact Ak.pw_below W
  have hs : W2.heap.size = W.heap.size + 2 := by rw [hW2]; exact Ak.pw_size W
  have hA := Ak.pw_a W
  have hB := Ak.pw_b W
  rw [← hW2] at hA hB
  have hPl : P < W.heap.size := h0.c.lt
  have hg := akGiveUp P qv wv n ws
  obtain ⟨wi, hwi⟩ : ∃ x, x = Ak.withinR n ws ((Ak.lev n ws mo).map Ak.Lv.ei) ⟨#[93]⟩ := ⟨_, rfl⟩
  have hmw : Ak.Mo wi := by rw [hwi]; exact Ak.withinR_mo (Ak.lev_mo n ws mo).ei
  have CSt := fun (w : World) (q : Ak.Pb P W w) (a : Nat) (hp : Ak.Ps w P qv wv n ws a 0 mo) => Ak.step_at (d := mo) hp (ht.pb h0.c q) hg (by omega)
  rw [← hwi] at CSt
  have CS1 := hide' (akSkip W2 P qv wv n ws 0 0 mo (h0.below hb) ⟨#[47, 47]⟩)
  have CS2 := hide' (fun (w : World) (hp : Ak.Ps w P qv wv n ws 0 0 mo) => akSkip w P qv wv n ws 0 0 mo hp ⟨#[47]⟩)
  have CP := hide' (fun (w0 w : World) (v : Value) (lv : List Ak.Sv) (a : Nat) (q : Ak.Pb P W w0) (c0 : Nat) (hq : Ak.Ps w0 P qv wv n ws c0 0 mo) (hl : Ak.PaS P qv wv n ws 0 mo w0 w0.heap.size w v lv a) (hw : w0.heap.size ≤ w.heap.size) (hl1 : lv.length ≤ 1) =>
    akPath w0 w P qv wv n ws (ws n) a 0 mo w0.heap.size false v lv c0 hq hl hq.c.lt (Nat.le_refl _) hw hl1 hg wi (Ak.stepR_mo hmw) (fun W1 a1 q1 h1 => CSt W1 (q.trans q1) a1 h1) (n + 1) (by omega))
  have HG := hide' hg
  have H0 := hide' h0
  have HW2 := hide' hW2
  have HB := hide' hb
  obtain ⟨A, hAe⟩ : ∃ A, W.heap.size = A := ⟨_, rfl⟩
  rw [hAe] at hA hB
  have HA := hide' hA
  have HE := hide' hB
  obtain ⟨J, hJ⟩ : ∃ J, Ak.parseR n ws mo = J := ⟨_, rfl⟩
  rw [hJ]
  unfold Ak.parseR at hJ
  dsimp only at hJ
  rw [← hwi] at hJ
  have hmf : ∀ (fn : Fn) (first cap : Array Value) (w : World), (Instr.makeFunc fn first cap).run Tryz.prog w = .ok (.func fn first cap) w := fun _ _ _ _ => rfl
  have hnn := h0.nn
  clear hb hW2 hA hB CSt hg h0 ht hwi hmw
  obtain ⟨t1, ht1⟩ : ∃ t, Ak.sgB n ws 0 ⟨#[47, 47]⟩ = t := ⟨_, rfl⟩
  rw [ht1] at CS1 hJ
  cases t1 with
  | true =>
    rw [if_pos rfl] at hJ
    obtain ⟨R, hR⟩ : ∃ R, Ak.pathR n ws wi false (n + 1) 1 [Ak.anyP] = R := ⟨_, rfl⟩
    rw [hR] at hJ
    have HR : Hid (Ak.pathR n ws wi false (n + 1) 1 [Ak.anyP] = R) := hide' hR
    clear hR
    cases R with
    | bad a why =>
      obtain rfl : J = .bad a why := hJ.symm
      clear hJ
      go_enter_defers Tryz.func16, Tryz.ntmps16
      go_wp2_with fail
      change Calls _ _ _ (Ak.pw W) _
      rw [← HW2.out]
      refine CS1.out.mono ?_
      rintro e w3 ⟨rfl, hb3, hp3⟩
      have HB3 := hide' ((Ak.Pb.of_below (b := P) HB.out).trans hb3)
      have HP3 := hide' hp3
      have HA3 := hide' ((hb3.block A (by omega) (by omega)).trans HA.out)
      have HE3 := hide' ((hb3.block (A + 1) (by omega) (by omega)).trans HE.out)
      have hs3 := hb3.size
      clear hb3 hp3 CS1
      go_wp2_with fail
      refine (akAnyDepth w3).mono ?_
      rintro e w4 ⟨rfl, hb4⟩
      unfold Ak.stC
      have hs4 := hb4.size
      have HP4 := hide' (HP3.out.below hb4)
      have HB4 := hide' (HB3.out.trans (.of_below (b := P) hb4))
      have HA4 := hide' ((hb4.block A (by omega)).trans HA3.out)
      have HE4 := hide' ((hb4.block (A + 1) (by omega)).trans HE3.out)
      have hbk : Below w4.heap.size w4 (w4.alloc (.cells #[.int .i64 2, .int .i64 3, .string ⟨#[]⟩, .slice none 0 0] 61)) := (Below.refl _ _).alloc (Nat.le_refl _) _
      have HBK := hide' hbk
      have HR4 := hide' (show (w4.alloc (.cells #[.int .i64 2, .int .i64 3, .string ⟨#[]⟩, .slice none 0 0] 61)).rangeAt w4.heap.size 0 (Ak.Sv.enc (.mk 2 3 ⟨#[]⟩ none 0 [])) from Ak.range_of (Ak.heap_new w4 (.cells #[.int .i64 2, .int .i64 3, .string ⟨#[]⟩, .slice none 0 0] 61)))
      clear hb4 hbk
      go_wp2_with (refine Ak.wpList_appS rfl (.tmp 8) (.tmp 10) rfl (.slice none 0 0) [] (.mk 2 3 ⟨#[]⟩ none 0 []) w4.heap.size 1 rfl rfl (Ak.OS.nil _) HR4.out (by simp) ?_; intro v' w' ho hg hv)
      have hPaw := Ak.PaS.app (P := P) (qv := qv) (wv := wv) (n := n) (ws := ws) (op := 0) (mo := mo) (W0 := w4) (B := w4.heap.size) (v := .slice none 0 0) (lv := []) (y := .mk 2 3 ⟨#[]⟩ none 0 []) (a := 1) ⟨HP4.out.below HBK.out, .of_below HBK.out, Ak.LS.nil _ _⟩ HP4.out.c.lt (Nat.le_refl _) HBK.out.size (Ak.OkS.of (Ak.RowX.nil _)) (fun b hb => by simp [Ak.fS, Ak.pb, Ak.fXs] at hb) ho hg hv HP4.out
      obtain ⟨pv, cv, rfl, hvl⟩ := ho.form
      have HS := hide' hPaw
      have HWs : Hid (w4.heap.size ≤ w'.heap.size) := hide' (Nat.le_trans HBK.out.size hg.size)
      have HF := hide' ((congrArg (Ak.pathR n ws wi false (n + 1) 1) (show Ak.cSs ([] ++ [Ak.Sv.mk 2 3 ⟨#[]⟩ none 0 []]) = [Ak.anyP] by simp [Ak.cSs, Ak.cS, Ak.cXs, Ak.anyP])).trans HR.out)
      clear ho hg hv hPaw hvl
      refine (HF.out ▸ CP.out w4 w' _ _ 1 HB4.out 1 HP4.out HS.out HWs.out (by simp)).mono ?_
      rintro e w6 hv
      obtain ⟨d, rfl, h1, h2, h3⟩ := hv
      have HD := hide' (And.intro h1 h2)
      have HB6 := hide' (HB4.out.trans h3)
      have HA6 := hide' ((h3.block A (by omega) (by omega)).trans HA4.out)
      have HE6 := hide' ((h3.block (A + 1) (by omega) (by omega)).trans HE4.out)
      have xa : w6.cell? ⟨A, 0, none⟩ = some (.slice none 0 0) := by rw [Lib.cell_of_heap HA6.out]; rfl
      have xe : w6.cell? ⟨A + 1, 0, none⟩ = some .nilIface := by rw [Lib.cell_of_heap HE6.out]; rfl
      have fa := Lib.frozen_of_heap HA6.out 0
      have fe := Lib.frozen_of_heap HE6.out 0
      clear h1 h2 h3
      go_wp2_with fail
      refine leaves_cons (f := 38) (args := #[.pointer (some ⟨A, 0, none⟩), .pointer (some ⟨A + 1, 0, none⟩)]) (by simp) (by simp [go_sem]) ?_
      refine (akCatch A (A + 1) (.slice none 0 0) .nilIface d [] _ xa xe fa fe (by omega)).mono ?_
      rintro e u' w7 ⟨rfl, rfl, rfl⟩
      have hbz := Go.Joins.block_setCell (i := 0) HA6.out (.slice none 0 0)
      have hbz2 := (Ak.set_else (w := w6.setCell ⟨A, 0, none⟩ (.slice none 0 0)) (N := A + 1) (i := 0) (v := .iface 41 (.pointer (some ⟨d, 0, none⟩))) (k := A) (by omega)).trans hbz
      have hcz : ((w6.setCell ⟨A, 0, none⟩ (.slice none 0 0)).setCell ⟨A + 1, 0, none⟩ (.iface 41 (.pointer (some ⟨d, 0, none⟩)))).cell? ⟨A + 1, 0, none⟩ = some (.iface 41 (.pointer (some ⟨d, 0, none⟩))) := by
        have e1 := Go.Joins.block_setCell (i := 0) ((Ak.set_else (w := w6) (N := A) (i := 0) (v := .slice none 0 0) (k := A + 1) (by omega)).trans HE6.out) (.iface 41 (.pointer (some ⟨d, 0, none⟩)))
        rw [Lib.cell_of_heap e1]
        rfl
      refine ⟨_, Ak.parse_done hbz2 hcz _ rfl rfl, ?_⟩
      refine ⟨d, rfl, by have := HD.out.1; omega, ?_, ?_⟩
      · have h9 := (Ak.set_else (w := w6.setCell ⟨A, 0, none⟩ (.slice none 0 0)) (N := A + 1) (i := 0) (v := .iface 41 (.pointer (some ⟨d, 0, none⟩))) (k := d) (by have := HD.out.1; omega)).trans ((Ak.set_else (w := w6) (N := A) (i := 0) (v := .slice none 0 0) (k := d) (by have := HD.out.1; omega)).trans HD.out.2)
        exact h9
      · exact (HB6.out.far (N := A) (by omega) 0 _).far (N := A + 1) (by omega) 0 _
    | ok r a =>
      obtain ⟨st, nm⟩ := r
      dsimp only [Ak.Res.bind] at hJ
      by_cases hlt : a < n
      · rw [if_pos hlt] at hJ
        obtain rfl : J = .bad a 105 := hJ.symm
        clear hJ
        go_enter_defers Tryz.func16, Tryz.ntmps16
        go_wp2_with fail
        change Calls _ _ _ (Ak.pw W) _
        rw [← HW2.out]
        refine CS1.out.mono ?_
        rintro e w3 ⟨rfl, hb3, hp3⟩
        have HB3 := hide' ((Ak.Pb.of_below (b := P) HB.out).trans hb3)
        have HP3 := hide' hp3
        have HA3 := hide' ((hb3.block A (by omega) (by omega)).trans HA.out)
        have HE3 := hide' ((hb3.block (A + 1) (by omega) (by omega)).trans HE.out)
        have hs3 := hb3.size
        clear hb3 hp3 CS1
        go_wp2_with fail
        refine (akAnyDepth w3).mono ?_
        rintro e w4 ⟨rfl, hb4⟩
        unfold Ak.stC
        have hs4 := hb4.size
        have HP4 := hide' (HP3.out.below hb4)
        have HB4 := hide' (HB3.out.trans (.of_below (b := P) hb4))
        have HA4 := hide' ((hb4.block A (by omega)).trans HA3.out)
        have HE4 := hide' ((hb4.block (A + 1) (by omega)).trans HE3.out)
        have hbk : Below w4.heap.size w4 (w4.alloc (.cells #[.int .i64 2, .int .i64 3, .string ⟨#[]⟩, .slice none 0 0] 61)) := (Below.refl _ _).alloc (Nat.le_refl _) _
        have HBK := hide' hbk
        have HR4 := hide' (show (w4.alloc (.cells #[.int .i64 2, .int .i64 3, .string ⟨#[]⟩, .slice none 0 0] 61)).rangeAt w4.heap.size 0 (Ak.Sv.enc (.mk 2 3 ⟨#[]⟩ none 0 [])) from Ak.range_of (Ak.heap_new w4 (.cells #[.int .i64 2, .int .i64 3, .string ⟨#[]⟩, .slice none 0 0] 61)))
        clear hb4 hbk
        go_wp2_with (refine Ak.wpList_appS rfl (.tmp 8) (.tmp 10) rfl (.slice none 0 0) [] (.mk 2 3 ⟨#[]⟩ none 0 []) w4.heap.size 1 rfl rfl (Ak.OS.nil _) HR4.out (by simp) ?_; intro v' w' ho hg hv)
        have hPaw := Ak.PaS.app (P := P) (qv := qv) (wv := wv) (n := n) (ws := ws) (op := 0) (mo := mo) (W0 := w4) (B := w4.heap.size) (v := .slice none 0 0) (lv := []) (y := .mk 2 3 ⟨#[]⟩ none 0 []) (a := 1) ⟨HP4.out.below HBK.out, .of_below HBK.out, Ak.LS.nil _ _⟩ HP4.out.c.lt (Nat.le_refl _) HBK.out.size (Ak.OkS.of (Ak.RowX.nil _)) (fun b hb => by simp [Ak.fS, Ak.pb, Ak.fXs] at hb) ho hg hv HP4.out
        obtain ⟨pv, cv, rfl, hvl⟩ := ho.form
        have HS := hide' hPaw
        have HWs : Hid (w4.heap.size ≤ w'.heap.size) := hide' (Nat.le_trans HBK.out.size hg.size)
        have HF := hide' ((congrArg (Ak.pathR n ws wi false (n + 1) 1) (show Ak.cSs ([] ++ [Ak.Sv.mk 2 3 ⟨#[]⟩ none 0 []]) = [Ak.anyP] by simp [Ak.cSs, Ak.cS, Ak.cXs, Ak.anyP])).trans HR.out)
        clear ho hg hv hPaw hvl
        refine (HF.out ▸ CP.out w4 w' _ _ 1 HB4.out 1 HP4.out HS.out HWs.out (by simp)).mono ?_
        rintro e w5 ⟨v, rfl, hv5, hb5, hp5⟩
        obtain ⟨v1, lv, rfl, hl5, hc5⟩ := hv5
        obtain ⟨pv1, cv1, rfl, _⟩ := hl5.own.form
        have HL5 := hide' hl5
        have HC5 := hide' hc5
        have HP5 := hide' hp5
        have HB5 := hide' (HB4.out.trans hb5)
        have HA5 := hide' ((hb5.block A (by omega) (by omega)).trans HA4.out)
        have HE5 := hide' ((hb5.block (A + 1) (by omega) (by omega)).trans HE4.out)
        have hs5 := hb5.size
        obtain ⟨pw1, cw1, rfl⟩ := hp5.sl
        obtain ⟨_, c1, c2, c3, c4, c5⟩ := hp5.c.cells
        clear hl5 hc5 hb5 hp5
        have t1 : (a : Int) < (n : Int) := by omega
        have d1 : decide ((a : Int) < (n : Int)) = true := decide_eq_true t1
        go_wp2_with fail
        go_quiet (fail)
        go_wp2_with fail
        have hbq := below_drewN (Below.refl w5.heap.size w5) nq
        refine (HG.out _ a 0 mo 105 (HP5.out.below hbq)).mono ?_
        rintro e w6 hv
        obtain ⟨d, rfl, h1, h2, h3⟩ := hv
        have HD : Hid (w4.heap.size ≤ d ∧ _) := hide' (And.intro (Nat.le_trans hs5 h1) h2)
        have HB6 := hide' ((HB5.out.drewN nq).trans h3)
        have hs5q : w5.heap.size = (w5.drewN nq).heap.size := rfl
        have HA6 := hide' ((h3.block A (by omega) (by omega)).trans HA5.out)
        have HE6 := hide' ((h3.block (A + 1) (by omega) (by omega)).trans HE5.out)
        have xa : w6.cell? ⟨A, 0, none⟩ = some (.slice none 0 0) := by rw [Lib.cell_of_heap HA6.out]; rfl
        have xe : w6.cell? ⟨A + 1, 0, none⟩ = some .nilIface := by rw [Lib.cell_of_heap HE6.out]; rfl
        have fa := Lib.frozen_of_heap HA6.out 0
        have fe := Lib.frozen_of_heap HE6.out 0
        clear h1 h2 h3 hbq
        go_wp2_with fail
        refine leaves_cons (f := 38) (args := #[.pointer (some ⟨A, 0, none⟩), .pointer (some ⟨A + 1, 0, none⟩)]) (by simp) (by simp [go_sem]) ?_
        refine (akCatch A (A + 1) (.slice none 0 0) .nilIface d [] _ xa xe fa fe (by omega)).mono ?_
        rintro e u' w7 ⟨rfl, rfl, rfl⟩
        have hbz := Go.Joins.block_setCell (i := 0) HA6.out (.slice none 0 0)
        have hbz2 := (Ak.set_else (w := w6.setCell ⟨A, 0, none⟩ (.slice none 0 0)) (N := A + 1) (i := 0) (v := .iface 41 (.pointer (some ⟨d, 0, none⟩))) (k := A) (by omega)).trans hbz
        have hcz : ((w6.setCell ⟨A, 0, none⟩ (.slice none 0 0)).setCell ⟨A + 1, 0, none⟩ (.iface 41 (.pointer (some ⟨d, 0, none⟩)))).cell? ⟨A + 1, 0, none⟩ = some (.iface 41 (.pointer (some ⟨d, 0, none⟩))) := by
          have e1 := Go.Joins.block_setCell (i := 0) ((Ak.set_else (w := w6) (N := A) (i := 0) (v := .slice none 0 0) (k := A + 1) (by omega)).trans HE6.out) (.iface 41 (.pointer (some ⟨d, 0, none⟩)))
          rw [Lib.cell_of_heap e1]
          rfl
        refine ⟨_, Ak.parse_done hbz2 hcz _ rfl rfl, ?_⟩
        refine ⟨d, rfl, by have := HD.out.1; omega, ?_, ?_⟩
        · have h9 := (Ak.set_else (w := w6.setCell ⟨A, 0, none⟩ (.slice none 0 0)) (N := A + 1) (i := 0) (v := .iface 41 (.pointer (some ⟨d, 0, none⟩))) (k := d) (by have := HD.out.1; omega)).trans ((Ak.set_else (w := w6) (N := A) (i := 0) (v := .slice none 0 0) (k := d) (by have := HD.out.1; omega)).trans HD.out.2)
          exact h9
        · exact (HB6.out.far (N := A) (by omega) 0 _).far (N := A + 1) (by omega) 0 _
      · rw [if_neg hlt] at hJ
        obtain rfl : J = .ok st a := hJ.symm
        clear hJ
        go_enter_defers Tryz.func16, Tryz.ntmps16
        go_wp2_with fail
        change Calls _ _ _ (Ak.pw W) _
        rw [← HW2.out]
        refine CS1.out.mono ?_
        rintro e w3 ⟨rfl, hb3, hp3⟩
        have HB3 := hide' ((Ak.Pb.of_below (b := P) HB.out).trans hb3)
        have HP3 := hide' hp3
        have HA3 := hide' ((hb3.block A (by omega) (by omega)).trans HA.out)
        have HE3 := hide' ((hb3.block (A + 1) (by omega) (by omega)).trans HE.out)
        have hs3 := hb3.size
        clear hb3 hp3 CS1
        go_wp2_with fail
        refine (akAnyDepth w3).mono ?_
        rintro e w4 ⟨rfl, hb4⟩
        unfold Ak.stC
        have hs4 := hb4.size
        have HP4 := hide' (HP3.out.below hb4)
        have HB4 := hide' (HB3.out.trans (.of_below (b := P) hb4))
        have HA4 := hide' ((hb4.block A (by omega)).trans HA3.out)
        have HE4 := hide' ((hb4.block (A + 1) (by omega)).trans HE3.out)
        have hbk : Below w4.heap.size w4 (w4.alloc (.cells #[.int .i64 2, .int .i64 3, .string ⟨#[]⟩, .slice none 0 0] 61)) := (Below.refl _ _).alloc (Nat.le_refl _) _
        have HBK := hide' hbk
        have HR4 := hide' (show (w4.alloc (.cells #[.int .i64 2, .int .i64 3, .string ⟨#[]⟩, .slice none 0 0] 61)).rangeAt w4.heap.size 0 (Ak.Sv.enc (.mk 2 3 ⟨#[]⟩ none 0 [])) from Ak.range_of (Ak.heap_new w4 (.cells #[.int .i64 2, .int .i64 3, .string ⟨#[]⟩, .slice none 0 0] 61)))
        clear hb4 hbk
        go_wp2_with (refine Ak.wpList_appS rfl (.tmp 8) (.tmp 10) rfl (.slice none 0 0) [] (.mk 2 3 ⟨#[]⟩ none 0 []) w4.heap.size 1 rfl rfl (Ak.OS.nil _) HR4.out (by simp) ?_; intro v' w' ho hg hv)
        have hPaw := Ak.PaS.app (P := P) (qv := qv) (wv := wv) (n := n) (ws := ws) (op := 0) (mo := mo) (W0 := w4) (B := w4.heap.size) (v := .slice none 0 0) (lv := []) (y := .mk 2 3 ⟨#[]⟩ none 0 []) (a := 1) ⟨HP4.out.below HBK.out, .of_below HBK.out, Ak.LS.nil _ _⟩ HP4.out.c.lt (Nat.le_refl _) HBK.out.size (Ak.OkS.of (Ak.RowX.nil _)) (fun b hb => by simp [Ak.fS, Ak.pb, Ak.fXs] at hb) ho hg hv HP4.out
        obtain ⟨pv, cv, rfl, hvl⟩ := ho.form
        have HS := hide' hPaw
        have HWs : Hid (w4.heap.size ≤ w'.heap.size) := hide' (Nat.le_trans HBK.out.size hg.size)
        have HF := hide' ((congrArg (Ak.pathR n ws wi false (n + 1) 1) (show Ak.cSs ([] ++ [Ak.Sv.mk 2 3 ⟨#[]⟩ none 0 []]) = [Ak.anyP] by simp [Ak.cSs, Ak.cS, Ak.cXs, Ak.anyP])).trans HR.out)
        clear ho hg hv hPaw hvl
        refine (HF.out ▸ CP.out w4 w' _ _ 1 HB4.out 1 HP4.out HS.out HWs.out (by simp)).mono ?_
        rintro e w5 ⟨v, rfl, hv5, hb5, hp5⟩
        obtain ⟨v1, lv, rfl, hl5, hc5⟩ := hv5
        obtain ⟨pv1, cv1, rfl, _⟩ := hl5.own.form
        have HL5 := hide' hl5
        have HC5 := hide' hc5
        have HP5 := hide' hp5
        have HB5 := hide' (HB4.out.trans hb5)
        have HA5 := hide' ((hb5.block A (by omega) (by omega)).trans HA4.out)
        have HE5 := hide' ((hb5.block (A + 1) (by omega) (by omega)).trans HE4.out)
        have hs5 := hb5.size
        obtain ⟨pw1, cw1, rfl⟩ := hp5.sl
        obtain ⟨_, c1, c2, c3, c4, c5⟩ := hp5.c.cells
        clear hl5 hc5 hb5 hp5
        have t1 : ¬ (a : Int) < (n : Int) := by omega
        have d1 : decide ((a : Int) < (n : Int)) = false := decide_eq_false t1
        go_wp2_with fail
        go_quiet (fail)
        obtain ⟨w6, hw6⟩ : ∃ X, X = w5.drewN nq := ⟨_, rfl⟩
        rw [← hw6]
        have HA6 : Hid (w6.heap[A]? = some (.cells #[.slice none 0 0] 25 (0, 0))) := hide' (by rw [hw6]; exact HA5.out)
        have HE6 : Hid (w6.heap[A + 1]? = some (.cells #[.nilIface] 27 (0, 0))) := hide' (by rw [hw6]; exact HE5.out)
        have HB6 : Hid (Ak.Pb P W w6) := hide' (by rw [hw6]; exact HB5.out.drewN nq)
        have HL6 : Hid (Ak.LS w4.heap.size w6 (.slice pv1 lv.length cv1) lv) := hide' (by rw [hw6]; exact HL5.out.keepAt fun _ _ _ => rfl)
        have xa : w6.cell? ⟨A, 0, none⟩ = some (.slice none 0 0) := by rw [Lib.cell_of_heap HA6.out]; rfl
        have xe : w6.cell? ⟨A + 1, 0, none⟩ = some .nilIface := by rw [Lib.cell_of_heap HE6.out]; rfl
        have fa := Lib.frozen_of_heap HA6.out 0
        have fe := Lib.frozen_of_heap HE6.out 0
        clear hw6 c1 c2 c3 c4 c5
        go_wp2_with fail
        refine leaves_cons (f := 38) (args := #[.pointer (some ⟨A, 0, none⟩), .pointer (some ⟨A + 1, 0, none⟩)]) (by simp) (by simp [go_sem]) ?_
        refine (akIdle A (A + 1) _).mono ?_
        rintro e u' w7 ⟨rfl, rfl, rfl⟩
        have hbz := Go.Joins.block_setCell (i := 0) HA6.out (.slice pv1 lv.length cv1)
        have hbz2 := (Ak.set_else (w := w6.setCell ⟨A, 0, none⟩ (.slice pv1 lv.length cv1)) (N := A + 1) (i := 0) (v := .nilIface) (k := A) (by omega)).trans hbz
        have hcz : ((w6.setCell ⟨A, 0, none⟩ (.slice pv1 lv.length cv1)).setCell ⟨A + 1, 0, none⟩ .nilIface).cell? ⟨A + 1, 0, none⟩ = some .nilIface := by
          have e1 := Go.Joins.block_setCell (i := 0) ((Ak.set_else (w := w6) (N := A) (i := 0) (v := .slice pv1 lv.length cv1) (k := A + 1) (by omega)).trans HE6.out) .nilIface
          rw [Lib.cell_of_heap e1]
          rfl
        refine ⟨_, Ak.parse_done hbz2 hcz _ rfl rfl, ?_⟩
        refine ⟨pv1, lv.length, cv1, lv, rfl, ?_, HC5.out, ?_⟩
        · exact (HL6.out.keepAt (w' := (w6.setCell ⟨A, 0, none⟩ (.slice pv1 lv.length cv1)).setCell ⟨A + 1, 0, none⟩ .nilIface) fun k hk _ => (Ak.set_else (by omega)).trans (Ak.set_else (by omega))).mono (by omega)
        · exact (HB6.out.far (N := A) (by omega) 0 _).far (N := A + 1) (by omega) 0 _
  | false =>
    rw [if_neg (by decide)] at hJ
    replace hJ : (Ak.pathR n ws wi false (n + 1) (Ak.sgB n ws 0 ⟨#[47]⟩).toNat []).bind (fun st a => if a < n then Ak.Res.bad a 105 else .ok st.1 a) = J := by
      rw [← hJ]
      cases Ak.sgB n ws 0 ⟨#[47]⟩ <;> rfl
    obtain ⟨R, hR⟩ : ∃ R, Ak.pathR n ws wi false (n + 1) (Ak.sgB n ws 0 ⟨#[47]⟩).toNat [] = R := ⟨_, rfl⟩
    rw [hR] at hJ
    have HR : Hid (Ak.pathR n ws wi false (n + 1) (0 + (Ak.sgB n ws 0 ⟨#[47]⟩).toNat) (Ak.cSs []) = R) := hide' (by rw [Nat.zero_add, show Ak.cSs [] = [] by simp [Ak.cSs]]; exact hR)
    clear hR
    cases R with
    | bad a why =>
      obtain rfl : J = .bad a why := hJ.symm
      clear hJ
      go_enter_defers Tryz.func16, Tryz.ntmps16
      go_wp2_with fail
      change Calls _ _ _ (Ak.pw W) _
      rw [← HW2.out]
      refine CS1.out.mono ?_
      rintro e w3 ⟨rfl, hb3, hp3⟩
      have HB3 := hide' ((Ak.Pb.of_below (b := P) HB.out).trans hb3)
      have HP3 := hide' hp3
      have HA3 := hide' ((hb3.block A (by omega) (by omega)).trans HA.out)
      have HE3 := hide' ((hb3.block (A + 1) (by omega) (by omega)).trans HE.out)
      have hs3 := hb3.size
      clear hb3 hp3 CS1
      go_wp2_with fail
      refine (CS2.out w3 HP3.out).mono ?_
      rintro e w4 ⟨rfl, hb4, hp4⟩
      have hs4 := hb4.size
      have HP4 := hide' hp4
      have HB4 := hide' (HB3.out.trans hb4)
      have HA4 := hide' ((hb4.block A (by omega) (by omega)).trans HA3.out)
      have HE4 := hide' ((hb4.block (A + 1) (by omega) (by omega)).trans HE3.out)
      clear hb4 hp4
      go_wp2_with fail
      refine (HR.out ▸ CP.out w4 w4 (.slice none 0 0) [] _ HB4.out _ HP4.out ⟨HP4.out, .refl P w4, Ak.LS.nil _ _⟩ (Nat.le_refl _) (by simp)).mono ?_
      rintro e w6 hv
      obtain ⟨d, rfl, h1, h2, h3⟩ := hv
      have HD := hide' (And.intro h1 h2)
      have HB6 := hide' (HB4.out.trans h3)
      have HA6 := hide' ((h3.block A (by omega) (by omega)).trans HA4.out)
      have HE6 := hide' ((h3.block (A + 1) (by omega) (by omega)).trans HE4.out)
      have xa : w6.cell? ⟨A, 0, none⟩ = some (.slice none 0 0) := by rw [Lib.cell_of_heap HA6.out]; rfl
      have xe : w6.cell? ⟨A + 1, 0, none⟩ = some .nilIface := by rw [Lib.cell_of_heap HE6.out]; rfl
      have fa := Lib.frozen_of_heap HA6.out 0
      have fe := Lib.frozen_of_heap HE6.out 0
      clear h1 h2 h3
      go_wp2_with fail
      refine leaves_cons (f := 38) (args := #[.pointer (some ⟨A, 0, none⟩), .pointer (some ⟨A + 1, 0, none⟩)]) (by simp) (by simp [go_sem]) ?_
      refine (akCatch A (A + 1) (.slice none 0 0) .nilIface d [] _ xa xe fa fe (by omega)).mono ?_
      rintro e u' w7 ⟨rfl, rfl, rfl⟩
      have hbz := Go.Joins.block_setCell (i := 0) HA6.out (.slice none 0 0)
      have hbz2 := (Ak.set_else (w := w6.setCell ⟨A, 0, none⟩ (.slice none 0 0)) (N := A + 1) (i := 0) (v := .iface 41 (.pointer (some ⟨d, 0, none⟩))) (k := A) (by omega)).trans hbz
      have hcz : ((w6.setCell ⟨A, 0, none⟩ (.slice none 0 0)).setCell ⟨A + 1, 0, none⟩ (.iface 41 (.pointer (some ⟨d, 0, none⟩)))).cell? ⟨A + 1, 0, none⟩ = some (.iface 41 (.pointer (some ⟨d, 0, none⟩))) := by
        have e1 := Go.Joins.block_setCell (i := 0) ((Ak.set_else (w := w6) (N := A) (i := 0) (v := .slice none 0 0) (k := A + 1) (by omega)).trans HE6.out) (.iface 41 (.pointer (some ⟨d, 0, none⟩)))
        rw [Lib.cell_of_heap e1]
        rfl
      refine ⟨_, Ak.parse_done hbz2 hcz _ rfl rfl, ?_⟩
      refine ⟨d, rfl, by have := HD.out.1; omega, ?_, ?_⟩
      · have h9 := (Ak.set_else (w := w6.setCell ⟨A, 0, none⟩ (.slice none 0 0)) (N := A + 1) (i := 0) (v := .iface 41 (.pointer (some ⟨d, 0, none⟩))) (k := d) (by have := HD.out.1; omega)).trans ((Ak.set_else (w := w6) (N := A) (i := 0) (v := .slice none 0 0) (k := d) (by have := HD.out.1; omega)).trans HD.out.2)
        exact h9
      · exact (HB6.out.far (N := A) (by omega) 0 _).far (N := A + 1) (by omega) 0 _
    | ok r a =>
      obtain ⟨st, nm⟩ := r
      dsimp only [Ak.Res.bind] at hJ
      by_cases hlt : a < n
      · rw [if_pos hlt] at hJ
        obtain rfl : J = .bad a 105 := hJ.symm
        clear hJ
        go_enter_defers Tryz.func16, Tryz.ntmps16
        go_wp2_with fail
        change Calls _ _ _ (Ak.pw W) _
        rw [← HW2.out]
        refine CS1.out.mono ?_
        rintro e w3 ⟨rfl, hb3, hp3⟩
        have HB3 := hide' ((Ak.Pb.of_below (b := P) HB.out).trans hb3)
        have HP3 := hide' hp3
        have HA3 := hide' ((hb3.block A (by omega) (by omega)).trans HA.out)
        have HE3 := hide' ((hb3.block (A + 1) (by omega) (by omega)).trans HE.out)
        have hs3 := hb3.size
        clear hb3 hp3 CS1
        go_wp2_with fail
        refine (CS2.out w3 HP3.out).mono ?_
        rintro e w4 ⟨rfl, hb4, hp4⟩
        have hs4 := hb4.size
        have HP4 := hide' hp4
        have HB4 := hide' (HB3.out.trans hb4)
        have HA4 := hide' ((hb4.block A (by omega) (by omega)).trans HA3.out)
        have HE4 := hide' ((hb4.block (A + 1) (by omega) (by omega)).trans HE3.out)
        clear hb4 hp4
        go_wp2_with fail
        refine (HR.out ▸ CP.out w4 w4 (.slice none 0 0) [] _ HB4.out _ HP4.out ⟨HP4.out, .refl P w4, Ak.LS.nil _ _⟩ (Nat.le_refl _) (by simp)).mono ?_
        rintro e w5 ⟨v, rfl, hv5, hb5, hp5⟩
        obtain ⟨v1, lv, rfl, hl5, hc5⟩ := hv5
        obtain ⟨pv1, cv1, rfl, _⟩ := hl5.own.form
        have HL5 := hide' hl5
        have HC5 := hide' hc5
        have HP5 := hide' hp5
        have HB5 := hide' (HB4.out.trans hb5)
        have HA5 := hide' ((hb5.block A (by omega) (by omega)).trans HA4.out)
        have HE5 := hide' ((hb5.block (A + 1) (by omega) (by omega)).trans HE4.out)
        have hs5 := hb5.size
        obtain ⟨pw1, cw1, rfl⟩ := hp5.sl
        obtain ⟨_, c1, c2, c3, c4, c5⟩ := hp5.c.cells
        clear hl5 hc5 hb5 hp5
        have t1 : (a : Int) < (n : Int) := by omega
        have d1 : decide ((a : Int) < (n : Int)) = true := decide_eq_true t1
        go_wp2_with fail
        go_quiet (fail)
        go_wp2_with fail
        have hbq := below_drewN (Below.refl w5.heap.size w5) nq
        refine (HG.out _ a 0 mo 105 (HP5.out.below hbq)).mono ?_
        rintro e w6 hv
        obtain ⟨d, rfl, h1, h2, h3⟩ := hv
        have HD : Hid (w4.heap.size ≤ d ∧ _) := hide' (And.intro (Nat.le_trans hs5 h1) h2)
        have HB6 := hide' ((HB5.out.drewN nq).trans h3)
        have hs5q : w5.heap.size = (w5.drewN nq).heap.size := rfl
        have HA6 := hide' ((h3.block A (by omega) (by omega)).trans HA5.out)
        have HE6 := hide' ((h3.block (A + 1) (by omega) (by omega)).trans HE5.out)
        have xa : w6.cell? ⟨A, 0, none⟩ = some (.slice none 0 0) := by rw [Lib.cell_of_heap HA6.out]; rfl
        have xe : w6.cell? ⟨A + 1, 0, none⟩ = some .nilIface := by rw [Lib.cell_of_heap HE6.out]; rfl
        have fa := Lib.frozen_of_heap HA6.out 0
        have fe := Lib.frozen_of_heap HE6.out 0
        clear h1 h2 h3 hbq
        go_wp2_with fail
        refine leaves_cons (f := 38) (args := #[.pointer (some ⟨A, 0, none⟩), .pointer (some ⟨A + 1, 0, none⟩)]) (by simp) (by simp [go_sem]) ?_
        refine (akCatch A (A + 1) (.slice none 0 0) .nilIface d [] _ xa xe fa fe (by omega)).mono ?_
        rintro e u' w7 ⟨rfl, rfl, rfl⟩
        have hbz := Go.Joins.block_setCell (i := 0) HA6.out (.slice none 0 0)
        have hbz2 := (Ak.set_else (w := w6.setCell ⟨A, 0, none⟩ (.slice none 0 0)) (N := A + 1) (i := 0) (v := .iface 41 (.pointer (some ⟨d, 0, none⟩))) (k := A) (by omega)).trans hbz
        have hcz : ((w6.setCell ⟨A, 0, none⟩ (.slice none 0 0)).setCell ⟨A + 1, 0, none⟩ (.iface 41 (.pointer (some ⟨d, 0, none⟩)))).cell? ⟨A + 1, 0, none⟩ = some (.iface 41 (.pointer (some ⟨d, 0, none⟩))) := by
          have e1 := Go.Joins.block_setCell (i := 0) ((Ak.set_else (w := w6) (N := A) (i := 0) (v := .slice none 0 0) (k := A + 1) (by omega)).trans HE6.out) (.iface 41 (.pointer (some ⟨d, 0, none⟩)))
          rw [Lib.cell_of_heap e1]
          rfl
        refine ⟨_, Ak.parse_done hbz2 hcz _ rfl rfl, ?_⟩
        refine ⟨d, rfl, by have := HD.out.1; omega, ?_, ?_⟩
        · have h9 := (Ak.set_else (w := w6.setCell ⟨A, 0, none⟩ (.slice none 0 0)) (N := A + 1) (i := 0) (v := .iface 41 (.pointer (some ⟨d, 0, none⟩))) (k := d) (by have := HD.out.1; omega)).trans ((Ak.set_else (w := w6) (N := A) (i := 0) (v := .slice none 0 0) (k := d) (by have := HD.out.1; omega)).trans HD.out.2)
          exact h9
        · exact (HB6.out.far (N := A) (by omega) 0 _).far (N := A + 1) (by omega) 0 _
      · rw [if_neg hlt] at hJ
        obtain rfl : J = .ok st a := hJ.symm
        clear hJ
        go_enter_defers Tryz.func16, Tryz.ntmps16
        go_wp2_with fail
        change Calls _ _ _ (Ak.pw W) _
        rw [← HW2.out]
        refine CS1.out.mono ?_
        rintro e w3 ⟨rfl, hb3, hp3⟩
        have HB3 := hide' ((Ak.Pb.of_below (b := P) HB.out).trans hb3)
        have HP3 := hide' hp3
        have HA3 := hide' ((hb3.block A (by omega) (by omega)).trans HA.out)
        have HE3 := hide' ((hb3.block (A + 1) (by omega) (by omega)).trans HE.out)
        have hs3 := hb3.size
        clear hb3 hp3 CS1
        go_wp2_with fail
        refine (CS2.out w3 HP3.out).mono ?_
        rintro e w4 ⟨rfl, hb4, hp4⟩
        have hs4 := hb4.size
        have HP4 := hide' hp4
        have HB4 := hide' (HB3.out.trans hb4)
        have HA4 := hide' ((hb4.block A (by omega) (by omega)).trans HA3.out)
        have HE4 := hide' ((hb4.block (A + 1) (by omega) (by omega)).trans HE3.out)
        clear hb4 hp4
        go_wp2_with fail
        refine (HR.out ▸ CP.out w4 w4 (.slice none 0 0) [] _ HB4.out _ HP4.out ⟨HP4.out, .refl P w4, Ak.LS.nil _ _⟩ (Nat.le_refl _) (by simp)).mono ?_
        rintro e w5 ⟨v, rfl, hv5, hb5, hp5⟩
        obtain ⟨v1, lv, rfl, hl5, hc5⟩ := hv5
        obtain ⟨pv1, cv1, rfl, _⟩ := hl5.own.form
        have HL5 := hide' hl5
        have HC5 := hide' hc5
        have HP5 := hide' hp5
        have HB5 := hide' (HB4.out.trans hb5)
        have HA5 := hide' ((hb5.block A (by omega) (by omega)).trans HA4.out)
        have HE5 := hide' ((hb5.block (A + 1) (by omega) (by omega)).trans HE4.out)
        have hs5 := hb5.size
        obtain ⟨pw1, cw1, rfl⟩ := hp5.sl
        obtain ⟨_, c1, c2, c3, c4, c5⟩ := hp5.c.cells
        clear hl5 hc5 hb5 hp5
        have t1 : ¬ (a : Int) < (n : Int) := by omega
        have d1 : decide ((a : Int) < (n : Int)) = false := decide_eq_false t1
        go_wp2_with fail
        go_quiet (fail)
        obtain ⟨w6, hw6⟩ : ∃ X, X = w5.drewN nq := ⟨_, rfl⟩
        rw [← hw6]
        have HA6 : Hid (w6.heap[A]? = some (.cells #[.slice none 0 0] 25 (0, 0))) := hide' (by rw [hw6]; exact HA5.out)
        have HE6 : Hid (w6.heap[A + 1]? = some (.cells #[.nilIface] 27 (0, 0))) := hide' (by rw [hw6]; exact HE5.out)
        have HB6 : Hid (Ak.Pb P W w6) := hide' (by rw [hw6]; exact HB5.out.drewN nq)
        have HL6 : Hid (Ak.LS w4.heap.size w6 (.slice pv1 lv.length cv1) lv) := hide' (by rw [hw6]; exact HL5.out.keepAt fun _ _ _ => rfl)
        have xa : w6.cell? ⟨A, 0, none⟩ = some (.slice none 0 0) := by rw [Lib.cell_of_heap HA6.out]; rfl
        have xe : w6.cell? ⟨A + 1, 0, none⟩ = some .nilIface := by rw [Lib.cell_of_heap HE6.out]; rfl
        have fa := Lib.frozen_of_heap HA6.out 0
        have fe := Lib.frozen_of_heap HE6.out 0
        clear hw6 c1 c2 c3 c4 c5
        go_wp2_with fail
        refine leaves_cons (f := 38) (args := #[.pointer (some ⟨A, 0, none⟩), .pointer (some ⟨A + 1, 0, none⟩)]) (by simp) (by simp [go_sem]) ?_
        refine (akIdle A (A + 1) _).mono ?_
        rintro e u' w7 ⟨rfl, rfl, rfl⟩
        have hbz := Go.Joins.block_setCell (i := 0) HA6.out (.slice pv1 lv.length cv1)
        have hbz2 := (Ak.set_else (w := w6.setCell ⟨A, 0, none⟩ (.slice pv1 lv.length cv1)) (N := A + 1) (i := 0) (v := .nilIface) (k := A) (by omega)).trans hbz
        have hcz : ((w6.setCell ⟨A, 0, none⟩ (.slice pv1 lv.length cv1)).setCell ⟨A + 1, 0, none⟩ .nilIface).cell? ⟨A + 1, 0, none⟩ = some .nilIface := by
          have e1 := Go.Joins.block_setCell (i := 0) ((Ak.set_else (w := w6) (N := A) (i := 0) (v := .slice pv1 lv.length cv1) (k := A + 1) (by omega)).trans HE6.out) .nilIface
          rw [Lib.cell_of_heap e1]
          rfl
        refine ⟨_, Ak.parse_done hbz2 hcz _ rfl rfl, ?_⟩
        refine ⟨pv1, lv.length, cv1, lv, rfl, ?_, HC5.out, ?_⟩
        · exact (HL6.out.keepAt (w' := (w6.setCell ⟨A, 0, none⟩ (.slice pv1 lv.length cv1)).setCell ⟨A + 1, 0, none⟩ .nilIface) fun k hk _ => (Ak.set_else (by omega)).trans (Ak.set_else (by omega))).mono (by omega)
        · exact (HB6.out.far (N := A) (by omega) 0 _).far (N := A + 1) (by omega) 0 _
end Go.Proofs.YtcnagbkdckipnaaGreatDoor
