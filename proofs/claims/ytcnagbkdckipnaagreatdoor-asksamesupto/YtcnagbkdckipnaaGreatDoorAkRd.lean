import Derived.Test.YtcnagbkdckipnaaGreatDoorAkParF
import Derived.Deep.RegionLaw
import Derived.RegionDies
/-
  WALKS over the parser's axis.
-/
namespace Go.Proofs.YtcnagbkdckipnaaGreatDoor
open Go.RowKit Go.Lib
namespace Ak
def axV : List Value := axs.map .string
theorem axV_range {w : World} (h : Tb w) : w.rangeAt 5 0 axV := by
  intro j v hv
  unfold axV at hv
  rw [List.getElem?_map] at hv
  obtain ⟨s, hs, rfl⟩ := Option.map_eq_some_iff.1 hv
  rw [Nat.zero_add]
  exact h.ax j s hs
theorem axInfo : (Tryz.prog.info? 209).map (·.size) = some 4 := by kernel_rfl
set_option maxRecDepth 100000 in
theorem ax_index (W : World) : ∀ (k : Nat) (s : ByteArray), axs[k]? = some s → (Instr.index 209 (.agg axV.toArray) (.int .i64 (k : Nat))).run Tryz.prog W = .ok (.string s) W
  | 0, _, h => by cases h; kernel_rfl
  | 1, _, h => by cases h; kernel_rfl
  | 2, _, h => by cases h; kernel_rfl
  | 3, _, h => by cases h; kernel_rfl
  | k + 4, _, h => by simp [axs] at h
/-- the first axis from j on, of so many, whose name and two colons stand here -/
def axF (n : Nat) (ws : Nat → Wo) (i : Nat) : Nat → Nat → Option Nat
  | _, 0 => none
  | j, m + 1 => if (nmB n ws i ((axs[j]?).getD ⟨#[]⟩) && sgB n ws (i + 1) ⟨#[58, 58]⟩) = true then some j else axF n ws i (j + 1) m
/-- what axis answers -/
def AxE (P : Nat) (qv wv : Value) (n : Nat) (ws : Nat → Wo) (at_ op mo : Nat) (W : World) : Option Nat → Ending → World → Prop
  | some j, r, w' => r = .returned (.int .i64 (j : Nat)) ∧ Pb P W w' ∧ Ps w' P qv wv n ws (at_ + 2) op mo
  | none, r, w' => r = .returned (.int .i64 0) ∧ Pb P W w' ∧ Ps w' P qv wv n ws at_ op mo
end Ak
set_option maxRecDepth 100000 in
set_option maxHeartbeats 4000000 in
theorem akAxis (W : World) (P : Nat) (qv wv : Value) (n : Nat) (ws : Nat → Ak.Wo) (at_ op mo : Nat) (h : Ak.Ps W P qv wv n ws at_ op mo) (ht : Ak.Tb W) :
    Calls Tryz.prog 98 #[.pointer (some ⟨P, 0, none⟩)] W (Ak.AxE P qv wv n ws at_ op mo W (Ak.axF n ws at_ 0 4)) := by
  have CN := hide' (fun (w1 : World) (hp : Ak.Ps w1 P qv wv n ws at_ op mo) (s : ByteArray) => akIsName w1 P qv wv n ws at_ op mo hp s)
  have CS := hide' (fun (w1 : World) (hp : Ak.Ps w1 P qv wv n ws at_ op mo) => akIsSign w1 P qv wv n ws at_ op mo hp (at_ + 1) ⟨#[58, 58]⟩)
  obtain ⟨ans, hans⟩ : ∃ a, Ak.axF n ws at_ 0 4 = a := ⟨_, rfl⟩
  rw [hans]
  have HG := hide' (Ak.axV_range ht)
  have H0 := hide' h
  have HA0 := hide' hans
  have HB0 := hide' (Ak.Pb.refl P W)
  obtain ⟨AX, hAX⟩ : ∃ AX, Ak.axV.toArray = AX := ⟨_, rfl⟩
  have hix : ∀ (k : Nat) (s : ByteArray), Ak.axs[k]? = some s → ∀ W, (Instr.index 209 (.agg AX) (.int .i64 (k : Nat))).run Tryz.prog W = .ok (.string s) W := fun k s h W => by rw [← hAX]; exact Ak.ax_index W k s h
  have HIX := hide' hix
  have HSG := hide' hAX
  clear h ht hans hAX hix
  go_enter Tryz.func98, Tryz.ntmps98
  go_wp2_with (refine wpList_load_mid rfl 209 (.global 5) rfl 5 0 rfl Ak.axV _ HG.out Tryz.underlying209 rfl Ak.axInfo ?_; rw [HSG.out])
  go_loopw [6] (fun v wr => ∃ j : Nat, v = .int .i64 j ∧ j ≤ 4 ∧ Hid (Ak.axF n ws at_ j (4 - j) = ans) ∧ Hid (Ak.Pb P W wr) ∧ Hid (Ak.Ps wr P qv wv n ws at_ op mo)) (fun v _ => 4 - (RowKit.intOf v).toNat)
  case atStart => exact ⟨0, rfl, by omega, HA0, HB0, H0⟩
  case round =>
    obtain ⟨j, rfl, hj, HA, HB, HP⟩ := hrel
    clear HA0 HB0 H0 HG
    by_cases hlt : j < 4
    · have t1 : (j : Int) < 4 := by omega
      have t0 : (0 : Int) ≤ j := by omega
      have hatn : at_ ≤ 65536 := Nat.le_trans HP.out.atn HP.out.nn
      have tw : IntKind.i64.wrap ((j : Int) + 1) = ((j + 1 : Nat) : Int) := by rw [IntKind.wrap_i64]; omega
      have tv : IntKind.i64.wrap ((at_ : Int) + 1) = ((at_ + 1 : Nat) : Int) := by rw [IntKind.wrap_i64]; omega
      have tx : IntKind.i64.wrap ((at_ : Int) + 2) = ((at_ + 2 : Nat) : Int) := by rw [IntKind.wrap_i64]; omega
      obtain ⟨s, hs⟩ : ∃ s, Ak.axs[j]? = some s := ⟨_, List.getElem?_eq_getElem (by simp [Ak.axs]; omega)⟩
      have q := HIX.out j s hs
      have C := hide' (CN.out wr HP.out s)
      have ha := HA.out
      rw [show 4 - j = (3 - j) + 1 by omega] at ha
      unfold Ak.axF at ha
      rw [hs, Option.getD_some] at ha
      obtain ⟨t, htt⟩ : ∃ t, Ak.nmB n ws at_ s = t := ⟨_, rfl⟩
      rw [htt] at C ha
      obtain ⟨u, hu⟩ : ∃ u, Ak.sgB n ws (at_ + 1) ⟨#[58, 58]⟩ = u := ⟨_, rfl⟩
      rw [hu] at CS ha
      have HU := hide' hu
      clear hs htt HA hu
      cases t
      · rw [Bool.false_and, if_neg (by decide)] at ha
        have HA := hide' ha
        clear ha
        go_wp2_with fail
        refine C.out.mono ?_
        rintro e w1 ⟨rfl, hb⟩
        have HB := hide' (HB.out.trans (.of_below (b := P) hb))
        have HP := hide' (HP.out.below hb)
        clear hb C q
        go_wp2_with fail
        refine ⟨⟨j + 1, by simp, by omega, ?_, HB, HP⟩, ?_⟩
        · rw [show 4 - (j + 1) = 3 - j by omega]
          exact HA
        · simp [RowKit.intOf]
          omega
      · cases u
        · rw [Bool.and_false, if_neg (by decide)] at ha
          have HA := hide' ha
          clear ha
          go_wp2_with fail
          refine C.out.mono ?_
          rintro e w1 ⟨rfl, hb⟩
          have HB := hide' (HB.out.trans (.of_below (b := P) hb))
          have HP := hide' (HP.out.below hb)
          clear hb C q
          obtain ⟨_, _, c2, _, _, _⟩ := HP.out.c.cells
          have D := hide' (CS.out w1 HP.out)
          go_wp2_with fail
          refine D.out.mono ?_
          rintro e w2 ⟨rfl, hb⟩
          have HB := hide' (HB.out.trans (.of_below (b := P) hb))
          have HP := hide' (HP.out.below hb)
          clear hb c2 D
          go_wp2_with fail
          refine ⟨⟨j + 1, by simp, by omega, ?_, HB, HP⟩, ?_⟩
          · rw [show 4 - (j + 1) = 3 - j by omega]
            exact HA
          · simp [RowKit.intOf]
            omega
        · rw [Bool.and_true, if_pos rfl] at ha
          subst ha
          go_wp2_with fail
          refine C.out.mono ?_
          rintro e w1 ⟨rfl, hb⟩
          have HB := hide' (HB.out.trans (.of_below (b := P) hb))
          have HP := hide' (HP.out.below hb)
          clear hb C q
          obtain ⟨_, _, c2, _, _, _⟩ := HP.out.c.cells
          have D := hide' (CS.out w1 HP.out)
          go_wp2_with fail
          refine D.out.mono ?_
          rintro e w2 ⟨rfl, hb⟩
          have HB := hide' (HB.out.trans (.of_below (b := P) hb))
          have HP := hide' (HP.out.below hb)
          clear hb c2 D
          obtain ⟨_, _, c3, _, _, c5⟩ := HP.out.c.cells
          have f3 := c5 2
          have hlt2 : at_ + 2 ≤ n := by
            have := HU.out
            unfold Ak.sgB at this
            simp at this
            omega
          have hq := Ak.Pb.set w2 P 2 (.int .i64 ((at_ + 2 : Nat) : Int))
          have HP2 := hide' (HP.out.go hq (HP.out.c.set2 (at_ + 2)) hlt2 HP.out.opm)
          have HB2 := hide' (HB.out.trans hq)
          clear hq c5
          go_wp2_with fail
          go_ret
          exact ⟨rfl, HB2.out, HP2.out⟩
    · have t1 : ¬ (j : Int) < 4 := by omega
      have ha := HA.out
      rw [show 4 - j = 0 by omega] at ha
      unfold Ak.axF at ha
      subst ha
      go_wp2_with fail
      go_ret
      exact ⟨rfl, HB.out, HP.out⟩
end Go.Proofs.YtcnagbkdckipnaaGreatDoor
/-
  WALKS over the parser's giveUp, here, anyDepth.
-/
namespace Go.Proofs.YtcnagbkdckipnaaGreatDoor
open Go.RowKit Go.Lib
namespace Ak
/-- a step as it comes -/
def stC (ax te : Int) (nm : ByteArray) (wh : Value) : Array Value := #[.int .i64 ax, .int .i64 te, .string nm, wh]
theorem stSize : (Tryz.prog.info? 61).map (·.size) = some 4 := by kernel_rfl
theorem load_st {w : World} {b : Nat} {cur : Array Value} (h : w.heap[b]? = some (.cells cur 61 (0, 0))) (h8 : cur.size = 4) : (loadVar 61 ⟨b, 0, none⟩).run Tryz.prog w = .ok (.agg cur) w := by
  have := run_loadVar_mid (P := Tryz.prog) w b 0 61 cur.toList _ (range_of h) Tryz.underlying61 rfl (by rw [stSize]; simp [h8])
  simpa using this
end Ak
set_option maxRecDepth 100000 in
theorem akHere (W : World) : Calls Tryz.prog 97 #[] W fun r w' => r = .returned (.agg (Ak.stC 3 3 ⟨#[]⟩ (.slice none 0 0))) ∧ Below W.heap.size W w' := by
  go_enter Tryz.func97, Tryz.ntmps97
  go_wp2_with fail
  exact bodyPost_ret (Ak.results_cell Tryz.results97 _ ⟨W.heap.size, 0, none⟩ rfl _ _ (Ak.load_st (Ak.heap_new W _) rfl)) rfl ⟨rfl, (Below.refl _ _).alloc (Nat.le_refl _) _⟩
set_option maxRecDepth 100000 in
theorem akAnyDepth (W : World) : Calls Tryz.prog 40 #[] W fun r w' => r = .returned (.agg (Ak.stC 2 3 ⟨#[]⟩ (.slice none 0 0))) ∧ Below W.heap.size W w' := by
  go_enter Tryz.func40, Tryz.ntmps40
  go_wp2_with fail
  exact bodyPost_ret (Ak.results_cell Tryz.results40 _ ⟨W.heap.size, 0, none⟩ rfl _ _ (Ak.load_st (Ak.heap_new W _) rfl)) rfl ⟨rfl, (Below.refl _ _).alloc (Nat.le_refl _) _⟩
set_option maxRecDepth 100000 in
set_option maxHeartbeats 4000000 in
theorem akGiveUp (P : Nat) (qv wv : Value) (n : Nat) (ws : Nat → Ak.Wo) : Ak.GU P qv wv n ws (ws n) := by
  intro W at_ op mo why h
  unfold Ak.plC
  obtain ⟨p, cap, rfl⟩ := h.sl
  obtain ⟨pq, lq, cq, rfl, hq⟩ := h.q
  obtain ⟨c0, c1, c2, _, _, _⟩ := h.c.cells
  by_cases hi : at_ < n
  · rw [if_pos hi]
    obtain ⟨b, o, rfl, w0, w1, w2, w3, w4, w5, w6⟩ := h.word hi
    have t1 : (at_ : Int) < (n : Int) := by omega
    have t0 : (0 : Int) ≤ (at_ : Int) := by omega
    obtain ⟨x, hx⟩ : ∃ x, ws at_ = x := ⟨_, rfl⟩
    rw [hx] at w0 w1 w2 w3 w4 w5 w6 ⊢
    obtain ⟨k', tx, nu, p0, p1, p2, p3⟩ := x
    dsimp only at w0 w1 w2 w3 w4 w5 w6 ⊢
    clear h hx hi hq
    go_enter Tryz.func42, Tryz.ntmps42
    go_wp2_with fail
    go_quiet (fail)
    go_wp2_with fail
    go_region_dies
    all_goals (try go_wp2_with fail)
    all_goals exact ⟨rfl, W.heap.size, rfl, Nat.le_refl _, Ak.heap_new (W.drewN (nq + 1)) _, ((Ak.Pb.refl P W).drewN (nq + 1)).alloc _⟩
  · rw [if_neg hi]
    have t2 : decide (at_ < n) = false := decide_eq_false hi
    have HQ := hide' hq
    clear h hi hq
    go_enter Tryz.func42, Tryz.ntmps42
    go_wp2_with fail
    go_quiet (fail)
    go_wp2_with fail
    go_region_dies
    all_goals
      refine (HQ.out _ ((Ak.Pb.refl P W).drewN (nq + 1)) why).mono ?_
      rintro e w2 ⟨d, rfl, h1, h2, h3⟩
      rename_i hK
      refine hK _ _ ?_
      clear hK
      refine wpAny_take (i := 11) (v := .iface 41 (.pointer (some ⟨d, 0, none⟩))) rfl (by kernel_rfl) (by kernel_rfl) (by kernel_rfl) (fun _ _ _ h => h) (Or.inl ⟨by rfl, ?_⟩) ?_
      · intro w
        go_simp
      refine wpAny_ready (rs := [12]) (by kernel_rfl) (by simp) ?_
      refine AllReady.cons rfl (fun K hK => ?_) ?_
      · go_simp
        exact ⟨rfl, d, rfl, h1, h2, ((Ak.Pb.refl P W).drewN (nq + 1)).trans (.of_below h3)⟩
      · exact AllReady.nil
end Go.Proofs.YtcnagbkdckipnaaGreatDoor
/-
  WHAT THE PARSER COMES TO, as pure functions of the words; what it answers, in memory.
-/
namespace Go.Proofs.YtcnagbkdckipnaaGreatDoor
open Go.RowKit Go.Lib
namespace Ak
abbrev RX := Nat → Res Xp
/-- between brackets, of which the first is the word i: deeper than it may be where no inner one is given -/
def withinR (n : Nat) (ws : Nat → Wo) (inner : Option RX) (last : ByteArray) (i : Nat) : Res Xp :=
  match inner with
  | none => .bad i 102
  | some f => (f (i + 1)).bind fun x a => (needR n ws a last).bind fun _ a => .ok x a
def hereP : Sp := .mk 3 3 ⟨#[]⟩ []
def anyP : Sp := .mk 2 3 ⟨#[]⟩ []
/-- a step's predicates -/
def whR (n : Nat) (ws : Nat → Wo) (wi : RX) : Nat → Nat → List Xp → Res (List Xp)
  | 0, i, acc => .ok acc i
  | f + 1, i, acc => if sgB n ws i ⟨#[91]⟩ = true then (wi i).bind fun x a => whR n ws wi f a (acc ++ [x]) else .ok acc i
def axR (n : Nat) (ws : Nat → Wo) (i : Nat) : Nat × Nat := match axF n ws i 0 4 with
  | some j => (j, i + 2)
  | none => (0, i)
def stepR (n : Nat) (ws : Nat → Wo) (wi : RX) (i : Nat) : Res Sp :=
  if sgB n ws i ⟨#[46]⟩ = true then .ok hereP (i + 1) else
    (testR n ws (axR n ws i).2).bind fun t a => (whR n ws wi n a []).bind fun wh a => .ok (.mk ((axR n ws i).1 : Nat) t.1 t.2 wh) a
/-- steps behind those that stand already; where an attribute may end them, and does, its name -/
def pathR (n : Nat) (ws : Nat → Wo) (wi : RX) (attrs : Bool) : Nat → Nat → List Sp → Res (List Sp × ByteArray)
  | 0, i, acc => .ok (acc, ⟨#[]⟩) i
  | f + 1, i, acc => (stepR n ws wi i).bind fun s a =>
    if sgB n ws a ⟨#[47, 47]⟩ = true then
      (if (attrs && sgB n ws (a + 1) ⟨#[64]⟩) = true then (attrR n ws (a + 1)).bind fun t a => .ok (acc ++ [s, anyP], t) a else pathR n ws wi attrs f (a + 1) (acc ++ [s, anyP]))
    else if sgB n ws a ⟨#[47]⟩ = true then
      (if (attrs && sgB n ws (a + 1) ⟨#[64]⟩) = true then (attrR n ws (a + 1)).bind fun t a => .ok (acc ++ [s], t) a else pathR n ws wi attrs f (a + 1) (acc ++ [s]))
    else .ok (acc ++ [s], ⟨#[]⟩) a
def someR (n : Nat) (ws : Nat → Wo) (wi : RX) (i : Nat) : Res Xp :=
  if sgB n ws i ⟨#[64]⟩ = true then (attrR n ws i).bind fun t a => .ok (.mk 3 [] [hereP] t 0 ⟨#[]⟩ 0) a
  else (pathR n ws wi true (n + 1) i []).bind fun st a => .ok (.mk 3 [] st.1 st.2 0 ⟨#[]⟩ 0) a
/-- the same expression with a comparison with a text, with a number -/
def cmpT (c : Nat) (t : ByteArray) : Xp → Xp | .mk op ar st aa _ _ nu => .mk op ar st aa (c : Nat) t nu
def cmpN (c : Nat) (k : Int) : Xp → Xp | .mk op ar st aa _ tx _ => .mk op ar st aa (c : Nat) tx k
/-- the call, of those that compare with a text, that stands here -/
def clF (n : Nat) (ws : Nat → Wo) (i : Nat) : Nat → Nat → Option Nat
  | _, 0 => none
  | j, m + 1 => if clB n ws i ((cms[j]?).getD ⟨#[]⟩) = true then some j else clF n ws i (j + 1) m
/-- what stands within such a call's brackets -/
def argsR (n : Nat) (ws : Nat → Wo) (so : RX) (c : Nat) (i : Nat) : Res Xp :=
  (so i).bind fun x a => (needR n ws a ⟨#[44]⟩).bind fun _ a => (takeR n ws a 1).bind fun w a => .ok (cmpT c w.tx x) a
/-- what a place comes to, read as an expression, and as one that only asks for a node: at one depth -/
structure Lv where
  ei : RX
  so : RX
def lenS : ByteArray := bs [115, 116, 114, 105, 110, 103, 45, 108, 101, 110, 103, 116, 104]
def oneR (n : Nat) (ws : Nat → Wo) (inner : Option Lv) (i : Nat) : Res Xp :=
  if sgB n ws i ⟨#[40]⟩ = true then withinR n ws (inner.map Lv.ei) ⟨#[41]⟩ i
  else if clB n ws i (bs [110, 111, 116]) = true then (withinR n ws (inner.map Lv.ei) ⟨#[41]⟩ (i + 1)).bind fun x a => .ok (.mk 2 [x] [] ⟨#[]⟩ 0 ⟨#[]⟩ 0) a
  else if clB n ws i lenS = true then
    (withinR n ws (inner.map Lv.so) ⟨#[41]⟩ (i + 1)).bind fun x a => match cmF n ws a 6 3 with
      | some c => (takeR n ws (a + 1) 2).bind fun w a => .ok (cmpN c w.nu x) a
      | none => .bad a 105
  else match clF n ws i 3 3 with
    | some c => withinR n ws (inner.map fun l => argsR n ws l.so c) ⟨#[41]⟩ (i + 1)
    | none => (someR n ws (withinR n ws (inner.map Lv.ei) ⟨#[93]⟩) i).bind fun x a => match cmF n ws a 1 2 with
      | some c => (takeR n ws (a + 1) 1).bind fun w a => .ok (cmpT c w.tx x) a
      | none => .ok x a
/-- further parts, behind that name each -/
def moreR (n : Nat) (ws : Nat → Wo) (part : RX) (name : ByteArray) : Nat → Nat → List Xp → Res (List Xp)
  | 0, i, acc => .ok acc i
  | f + 1, i, acc => if nmB n ws i name = true then (part (i + 1)).bind fun x a => moreR n ws part name f a (acc ++ [x]) else .ok acc i
def joinedR (n : Nat) (ws : Nat → Wo) (op : Int) (name : ByteArray) (part : RX) (i : Nat) : Res Xp :=
  (part i).bind fun x a => if nmB n ws a name = true then (moreR n ws part name n a [x]).bind fun l a => .ok (.mk op l [] ⟨#[]⟩ 0 ⟨#[]⟩ 0) a else .ok x a
def bothR (n : Nat) (ws : Nat → Wo) (inner : Option Lv) : RX := joinedR n ws 0 (bs [97, 110, 100]) (oneR n ws inner)
def eitherR (n : Nat) (ws : Nat → Wo) (inner : Option Lv) : RX := joinedR n ws 1 (bs [111, 114]) (bothR n ws inner)
def mkLv (n : Nat) (ws : Nat → Wo) (inner : Option Lv) : Lv := ⟨eitherR n ws inner, someR n ws (withinR n ws (inner.map Lv.ei) ⟨#[93]⟩)⟩
/-- what lies within so many brackets more -/
def lev (n : Nat) (ws : Nat → Wo) : Nat → Option Lv
  | 0 => none
  | d + 1 => some (mkLv n ws (lev n ws d))
/-- all the words -/
def parseR (n : Nat) (ws : Nat → Wo) (most : Nat) : Res (List Sp) :=
  let wi := withinR n ws ((lev n ws most).map Lv.ei) ⟨#[93]⟩
  let r := if sgB n ws 0 ⟨#[47, 47]⟩ = true then pathR n ws wi false (n + 1) 1 [anyP] else if sgB n ws 0 ⟨#[47]⟩ = true then pathR n ws wi false (n + 1) 1 [] else pathR n ws wi false (n + 1) 0 []
  r.bind fun st a => if a < n then .bad a 105 else .ok st.1 a
/-- an expression in memory, in blocks of B or behind it -/
def XV (B : Nat) (x : Xp) (v : Value) (w : World) : Prop := ∃ xv : Xv, cX xv = x ∧ v = .agg xv.enc.toArray ∧ OkX w xv ∧ ∀ b ∈ fX xv, B ≤ b
def SV (B : Nat) (x : Sp) (v : Value) (w : World) : Prop := ∃ xv : Sv, cS xv = x ∧ v = .agg xv.enc.toArray ∧ OkS w xv ∧ ∀ b ∈ fS xv, B ≤ b
theorem XV.pb {B P : Nat} {x : Xp} {v : Value} {w w' : World} (h : XV B x v w) (hp : Pb P w w') (hB : P < B) : XV B x v w' := by
  obtain ⟨xv, h1, h2, h3, h4⟩ := h
  exact ⟨xv, h1, h2, h3.imp xv fun a v ha e => hp.cell e (by have := h4 _ ha; omega), h4⟩
theorem SV.pb {B P : Nat} {x : Sp} {v : Value} {w w' : World} (h : SV B x v w) (hp : Pb P w w') (hB : P < B) : SV B x v w' := by
  obtain ⟨xv, h1, h2, h3, h4⟩ := h
  exact ⟨xv, h1, h2, h3.imp xv fun a v ha e => hp.cell e (by have := h4 _ ha; omega), h4⟩
theorem XV.mono {B C : Nat} {x : Xp} {v : Value} {w : World} (h : XV B x v w) (hC : C ≤ B) : XV C x v w := by
  obtain ⟨xv, h1, h2, h3, h4⟩ := h
  exact ⟨xv, h1, h2, h3, fun b hb => Nat.le_trans hC (h4 b hb)⟩
theorem SV.mono {B C : Nat} {x : Sp} {v : Value} {w : World} (h : SV B x v w) (hC : C ≤ B) : SV C x v w := by
  obtain ⟨xv, h1, h2, h3, h4⟩ := h
  exact ⟨xv, h1, h2, h3, fun b hb => Nat.le_trans hC (h4 b hb)⟩
/-- an expression: its seven cells -/
theorem XV.cells {B : Nat} {x : Xp} {v : Value} {w : World} (h : XV B x v w) : ∃ (o : Int) (p : Option Addr) (l c : Nat) (sp : Option Addr) (sl sc : Nat) (aa : ByteArray) (cm : Int) (tx : ByteArray) (nu : Int), v = .agg #[.int .i64 o, .slice p l c, .slice sp sl sc, .string aa, .int .i64 cm, .string tx, .int .i64 nu] := by
  obtain ⟨⟨op, p, c, ar, sp, sc, st, aa, cm, tx, nu⟩, h1, rfl, h3, h4⟩ := h
  exact ⟨_, _, _, _, _, _, _, _, _, _, _, rfl⟩
end Ak
end Go.Proofs.YtcnagbkdckipnaaGreatDoor
