/-
  THE WALK over gimletlaw14.KleeneValues.
-/
import Derived.Test.YtipnhfnjoaoceaaKlVal
namespace Go.Proofs.Ytipnhfnjoaoceaa
open Go.RowKit Go.Lib Go.Sort
namespace Kl
theorem Ts.form {w : World} {v : Value} {l : List Int} (h : Ts w v l) : ∃ p c, v = .slice p l.length c := by
  obtain ⟨p, c, e, _⟩ := h
  exact ⟨p, c, e⟩
end Kl
set_option maxRecDepth 100000 in
set_option maxHeartbeats 4000000 in
theorem lawValues (v : Value) (l : List Int) (t : Int) (w : World) (h : Kl.TsN w v l) (hn : l.length ≤ 17592186044416) : Calls Try.prog 3 #[v, .int .i64 t] w fun r w' => r = .returned (.bool true) ∧ Below w.heap.size w w' := by
  obtain ⟨n, hnn⟩ : ∃ n, l.length = n := ⟨_, rfl⟩
  have cT := (lawTruths14 v l w h hn)
  have CT : Hid (Calls Try.prog 9 #[v] w fun r w' => ∃ p c, r = .returned (.slice p n c) ∧ Hid (Kl.Ts w' (.slice p n c) l) ∧ Below w.heap.size w w') := cT.mono fun r w' hr => by
    obtain ⟨v', e, h1, h2⟩ := hr
    obtain ⟨p, c, rfl⟩ := h1.out.form
    rw [hnn] at e h1
    exact ⟨p, c, e, h1, h2⟩
  have HTS := hide' h.1
  have CP : Hid (∀ W, Below w.heap.size w W → Calls Try.prog 14 #[v] W fun r w' => ∃ p c, r = .returned (.slice p n c) ∧ Hid (Kl.Ts w' (.slice p n c) l) ∧ Below W.heap.size W w') := fun W hb => (lawPlain14 v l W (HTS.out.below hb) hn).mono fun r w' hr => by
    obtain ⟨v', e, h1, h2⟩ := hr
    obtain ⟨p, c, rfl⟩ := h1.out.form
    rw [hnn] at e h1
    exact ⟨p, c, e, h1, h2⟩
  have CE : Hid (∀ W p c, Below w.heap.size w W → Kl.Ts W (.slice p n c) l → Calls Try.prog 16 #[.slice p n c, v] W fun r w' => r = .returned (.bool true) ∧ Below W.heap.size W w') := fun W p c hb hp => lawEqual14 _ v l W hp (HTS.out.below hb)
  have CA := hide' (fun W v' (hv : Kl.Ts W v' l) => klAnd v' l W hv)
  have CO := hide' (fun W v' (hv : Kl.Ts W v' l) => klOr v' l W hv)
  have RA := hide' (fun W v' (hv : Kl.Ts W v' l) => refAll14 v' l W hv)
  have RO := hide' (fun W v' (hv : Kl.Ts W v' l) => refAny14 v' l W hv)
  have CN := hide' (fun W => klNot t W)
  have RN := hide' (fun W => refTurned t W)
  obtain ⟨aa, haa⟩ : ∃ a, Kl.andL l = a := ⟨_, rfl⟩
  obtain ⟨oo, hoo⟩ : ∃ a, Kl.orL l = a := ⟨_, rfl⟩
  obtain ⟨nn, hnt⟩ : ∃ a, Kl.notT t = a := ⟨_, rfl⟩
  simp only [haa] at CA RA
  simp only [hoo] at CO RO
  simp only [hnt] at CN RN
  obtain ⟨⟨pv, cv, rfl, _⟩, _⟩ := h
  rw [hnn] at CT CP CE ⊢
  clear cT HTS haa hoo hnt hn hnn
  go_enter Try.func3, Try.ntmps3
  go_wp2_with fail
  refine CT.out.mono ?_
  rintro r w1 ⟨p1, c1, rfl, HT1, hb1⟩
  have HB1 := hide' hb1
  clear hb1
  go_wp2_with (first | (go_at_call 10; refine (CA.out _ _ HT1.out).mono ?_; rintro r w2 ⟨rfl, rfl⟩) | (go_at_call 11; refine (CO.out _ _ HT1.out).mono ?_; rintro r w2 ⟨rfl, rfl⟩))
  refine (klFixed _).mono ?_
  rintro r w2 ⟨rfl, hb2⟩
  have HB2 := hide' (HB1.out.trans (hb2.mono HB1.out.size))
  have HT2 := hide' (HT1.out.below hb2)
  clear hb2 HT1 HB1
  go_wp2_with fail
  refine (CP.out _ HB2.out).mono ?_
  rintro r w3 ⟨p3, c3, rfl, HT3, hb3⟩
  have HB3 := hide' (HB2.out.trans (hb3.mono HB2.out.size))
  have HT4 := hide' (HT2.out.below hb3)
  clear hb3 HT2 HB2
  go_wp2_with (first | (go_at_call 13; refine (RA.out _ _ HT3.out).mono ?_; rintro r w4 ⟨rfl, rfl⟩))
  refine (CP.out _ HB3.out).mono ?_
  rintro r w5 ⟨p5, c5, rfl, HT5, hb5⟩
  have HB5 := hide' (HB3.out.trans (hb5.mono HB3.out.size))
  have HT6 := hide' (HT4.out.below hb5)
  clear hb5 HT3 HT4 HB3
  go_wp2_with (first | (go_at_call 15; refine (RO.out _ _ HT5.out).mono ?_; rintro r w4 ⟨rfl, rfl⟩))
  refine (CE.out _ p1 c1 HB5.out HT6.out).mono ?_
  rintro r w7 ⟨rfl, hb7⟩
  have HB7 := hide' (HB5.out.trans (hb7.mono HB5.out.size))
  clear hb7 HT5 HT6 HB5
  go_wp2_with (first | (go_at_call 17; refine (CN.out _).mono ?_; rintro r w4 ⟨rfl, rfl⟩) | (go_at_call 18; refine (RN.out _).mono ?_; rintro r w4 ⟨rfl, rfl⟩))
  go_ret
  exact ⟨rfl, HB7.out⟩
end Go.Proofs.Ytipnhfnjoaoceaa
