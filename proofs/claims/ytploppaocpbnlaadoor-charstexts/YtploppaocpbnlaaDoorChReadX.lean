/-
  THE WALK over the document's Read.
-/
import Derived.Test.YtploppaocpbnlaaDoorChReadW
import Derived.Deep.RegionHeld
import Derived.Deep.QuietTactic
import Derived.BigQuiet
namespace Go.Proofs.YtploppaocpbnlaaDoor
open Go.RowKit Go.Lib

set_option maxRecDepth 100000 in
set_option maxHeartbeats 2000000 in
theorem read_any (f : Nat → Nat) (n p : Nat) (w : World) (hf : ∀ j, f j < 256) (hn : n ≤ 4611686018427387904) (hp : p < n) :
    Calls Tryd.prog 37 #[.string (Rn.arr f n), .int .i64 p] w fun e w' =>
      e = .returned (.tuple #[.int .i64 (Ch.rd (Rn.off f p) (n - p)).1, .int .i64 (Ch.rd (Rn.off f p) (n - p)).2]) ∧ Below w.heap.size w w' := by
  have hsz := Rn.arr_size f n
  have hg : ∀ j, Rn.off f p j < 256 := fun j => hf _
  go_enter Tryd.func37, Tryd.ntmps37
  go_wp2
  go_loopw [6] (fun i wr => ∃ k : Nat, i = .int .i64 k ∧ 1 ≤ k ∧ k ≤ 5 ∧ Below w.heap.size w wr ∧ (Rn.whole (Rn.off f p) (n - p) = true → k ≤ Rn.fs (Rn.off f p) (n - p))) (fun i _ => 5 - (RowKit.intOf i).toNat)
  case atStart => exact ⟨1, rfl, by omega, by omega, Below.refl _ _, fun h => by simp only [Rn.whole, decide_eq_true_eq] at h; omega⟩
  case round =>
    obtain ⟨k, rfl, hk1, hk5, hB, hfs⟩ := hrel
    have hs4 := Rn.fs_le (Rn.off f p) (n - p)
    have hfl := Rn.fk_le (Rn.off f p) (n - p)
    have hend : (k = 5 ∨ n < p + k) → Rn.whole (Rn.off f p) (n - p) = false := by
      intro h
      cases hw : Rn.whole (Rn.off f p) (n - p)
      · rfl
      · have h1 := hfs hw
        simp only [Rn.whole, decide_eq_true_eq] at hw
        omega
    by_cases hk4 : k = 5
    · have hw := hend (.inl hk4)
      have HW := hide' (Ch.rd_no hw)
      have d1 : ¬ (k : Int) ≤ 4 := by omega
      clear hend hw hfs
      go_wp2_with fail
      exact bodyPost_ret (v := .tuple #[.int .i64 0, .int .i64 0]) (by simp [results, Tryd.results37, go_sem]) rfl ⟨by rw [HW.out], hB⟩
    · have d1 : (k : Int) ≤ 4 := by omega
      by_cases hpn : n < p + k
      · have hw := hend (.inr hpn)
        have HW := hide' (Ch.rd_no hw)
        have d2 : ¬ (p : Int) + k ≤ n := by omega
        clear hend hw hfs
        go_wp2_with fail
        exact bodyPost_ret (v := .tuple #[.int .i64 0, .int .i64 0]) (by simp [results, Tryd.results37, go_sem]) rfl ⟨by rw [HW.out], hB⟩
      · have d2 : (p : Int) + k ≤ n := by omega
        clear hend
        have hx : (Rn.arr f n).extract p (p + k) = Rn.arr (Rn.off f p) k := by
          rw [Rn.arr_extract f n p (p + k) (by omega) (by omega)]
          congr 1
          omega
        obtain ⟨cap, W, hcv, hc1, hc2, hby, hbW⟩ := conv_part (Rn.off f p) k wr hg (by omega)
        have hBW := hB.trans (hbW.mono hB.size)
        have cS := span_any (Rn.off f p) (some ⟨wr.heap.size, 0, none⟩) k cap W hg (by omega) hc1 (.inr ⟨_, _, rfl, hby⟩)
        have hstep : ∀ v : Nat, (∃ c : Bool, ((Rn.arr (Ch.rb v) (Ch.rl v)).toList == (Rn.arr (Rn.off f p) k).toList) = c) := fun v => ⟨_, rfl⟩
        have henc : Rn.whole (Rn.off f p) (n - p) = true → Rn.fs (Rn.off f p) (n - p) = k → Ch.span (Rn.off f p) k = ((Rn.fv (Rn.off f p) : Int), (Rn.fv (Rn.off f p) : Int)) ∧ Ch.rl (Rn.fv (Rn.off f p)) = k ∧ ∀ j, j < k → Ch.rb (Rn.fv (Rn.off f p)) j = Rn.off f p j := by
          intro hw he
          have E := Ch.enc_whole hw
          rw [he] at E
          exact ⟨Ch.span_enc E, Ch.rb_of_enc E⟩
        have hrg := Ch.span_range (Rn.off f p) k
        have hin : k ≤ n - p := by omega
        by_cases he : (Ch.span (Rn.off f p) k).1 = (Ch.span (Rn.off f p) k).2
        · obtain ⟨v, hv⟩ : ∃ v : Nat, (Ch.span (Rn.off f p) k).1 = v := ⟨(Ch.span (Rn.off f p) k).1.toNat, by have := (hrg he).1; omega⟩
          have hvr : v ≤ 1114111 := by have := (hrg he).2; omega
          have hv2 : (Ch.span (Rn.off f p) k).2 = v := by rw [← he]; exact hv
          have hsame := Rn.arr_same (Ch.rb v) (Rn.off f p) (Ch.rl v) k (Ch.rb_lt v hvr) hg
          have cB := fun w1 => refBytes_any v w1 hvr
          have hrb := Ch.rb_lt v hvr
          rw [hv, hv2] at cS
          cases hc : ((Rn.arr (Ch.rb v) (Ch.rl v)).toList == (Rn.arr (Rn.off f p) k).toList)
          · have hnext : Rn.whole (Rn.off f p) (n - p) = true → k + 1 ≤ Rn.fs (Rn.off f p) (n - p) := by
              intro hw
              have h1 := hfs hw
              by_cases h2 : Rn.fs (Rn.off f p) (n - p) = k
              · obtain ⟨q1, q2, q3⟩ := henc hw h2
                have ev : v = Rn.fv (Rn.off f p) := by
                  have := hv
                  rw [q1] at this
                  simp only at this
                  omega
                subst ev
                have := hsame.2 ⟨q2, q3⟩
                rw [hc] at this
                cases this
              · omega
            have HX := hide' hnext
            clear hnext hfs henc hsame he hrg hv hv2 hstep
            go_wp2_with fail
            refine cS.mono ?_
            rintro e w1 ⟨rfl, hb1⟩
            have hB1 := hBW.trans (hb1.mono hBW.size)
            clear cS
            go_wp2_with fail
            have hD1 := hB1.drew
            have hwr : IntKind.i64.wrap ((p : Int) + (k : Int)) = (p : Int) + (k : Int) := by rw [IntKind.wrap_i64]; omega
            have s1 : (0 : Int) ≤ (p : Int) := by omega
            have s2 : (p : Int) ≤ (p : Int) + (k : Int) := by omega
            have s3 : (0 : Int) ≤ (p : Int) + (k : Int) := by omega
            have s4 : (p : Int) ≤ (n : Int) := by omega
            have hx2 : (Rn.arr f n).extract p ((p : Int) + (k : Int)).toNat = Rn.arr (Rn.off f p) k := by rw [show ((p : Int) + (k : Int)).toNat = p + k by omega]; exact hx
            rw [← hx2] at hc
            clear hx2
            have hvv : ((v : Int) == (v : Int)) = true := by simp
            go_region_held (fun _ => True) (trivial) (first | (go_at_call 41; refine (cB w1.drew).mono ?_; rintro e w2 ⟨rfl, hby2, hb2⟩; have hB2 := hD1.trans (hb2.mono hD1.size); have hst := bytes_string w2 w1.heap.size 0 (Ch.rl v) (Ch.rl v) (Ch.rb v) hrb hby2))
            clear cB
            go_wp2_with fail
            go_roundw
            case rel => exact ⟨k + 1, by go_num, by omega, by omega, hB2, HX.out⟩
            case measure => simp [RowKit.intOf]; omega
          · obtain ⟨q1, q2⟩ := hsame.1 hc
            by_cases hsur : 55296 ≤ v ∧ v ≤ 57343
            · have HW := hide' (Ch.rd_no (Ch.gap_bad (L := n - p) q1 q2 hsur))
              have z1 : (55296 : Int) ≤ v := by omega
              have z2 : (v : Int) ≤ 57343 := by omega
              clear hfs henc hsame he hrg hv hv2 hstep q1 q2 hsur
              go_wp2_with fail
              refine cS.mono ?_
              rintro e w1 ⟨rfl, hb1⟩
              have hB1 := hBW.trans (hb1.mono hBW.size)
              clear cS
              go_wp2_with fail
              have hD1 := hB1.drew
              have hwr : IntKind.i64.wrap ((p : Int) + (k : Int)) = (p : Int) + (k : Int) := by rw [IntKind.wrap_i64]; omega
              have s1 : (0 : Int) ≤ (p : Int) := by omega
              have s2 : (p : Int) ≤ (p : Int) + (k : Int) := by omega
              have s3 : (0 : Int) ≤ (p : Int) + (k : Int) := by omega
              have s4 : (p : Int) ≤ (n : Int) := by omega
              have hx2 : (Rn.arr f n).extract p ((p : Int) + (k : Int)).toNat = Rn.arr (Rn.off f p) k := by rw [show ((p : Int) + (k : Int)).toNat = p + k by omega]; exact hx
              rw [← hx2] at hc
              clear hx2
              have hvv : ((v : Int) == (v : Int)) = true := by simp
              go_region_held (fun _ => True) (trivial) (first | (go_at_call 41; refine (cB w1.drew).mono ?_; rintro e w2 ⟨rfl, hby2, hb2⟩; have hB2 := hD1.trans (hb2.mono hD1.size); have hst := bytes_string w2 w1.heap.size 0 (Ch.rl v) (Ch.rl v) (Ch.rb v) hrb hby2))
              clear cB
              go_wp2_with fail
              exact bodyPost_ret (v := .tuple #[.int .i64 0, .int .i64 0]) (by simp [results, Tryd.results37, go_sem]) rfl ⟨by rw [HW.out], hB2⟩
            · obtain ⟨u1, u2, u3⟩ := Ch.whole_more (Ch.enc_of_rb (Rn.off f p) k v hvr q1 q2 hsur) hin
              have hrd := Ch.rd_yes u1
              rw [u2, u3] at hrd
              have HW := hide' hrd
              have hz : (v : Int) < 55296 ∨ ((55296 : Int) ≤ v ∧ (57343 : Int) < (v : Int)) := by omega
              clear hfs henc hsame he hrg hv hv2 hstep q1 q2 hsur u1 u2 u3 hrd
              obtain ⟨V, hV⟩ : ∃ V : Int, (v : Int) = V := ⟨_, rfl⟩
              simp only [hV] at cS cB HW hz
              clear hV
              rcases hz with z1 | ⟨z1, z2⟩
              all_goals
                go_wp2_with fail
                refine cS.mono ?_
                rintro e w1 ⟨rfl, hb1⟩
                have hB1 := hBW.trans (hb1.mono hBW.size)
                clear cS
                go_wp2_with fail
                have hD1 := hB1.drew
                have hwr : IntKind.i64.wrap ((p : Int) + (k : Int)) = (p : Int) + (k : Int) := by rw [IntKind.wrap_i64]; omega
                have s1 : (0 : Int) ≤ (p : Int) := by omega
                have s2 : (p : Int) ≤ (p : Int) + (k : Int) := by omega
                have s3 : (0 : Int) ≤ (p : Int) + (k : Int) := by omega
                have s4 : (p : Int) ≤ (n : Int) := by omega
                have hx2 : (Rn.arr f n).extract p ((p : Int) + (k : Int)).toNat = Rn.arr (Rn.off f p) k := by rw [show ((p : Int) + (k : Int)).toNat = p + k by omega]; exact hx
                rw [← hx2] at hc
                clear hx2
                have hvv : (V == V) = true := by simp
                go_region_held (fun _ => True) (trivial) (first | (go_at_call 41; refine (cB w1.drew).mono ?_; rintro e w2 ⟨rfl, hby2, hb2⟩; have hB2 := hD1.trans (hb2.mono hD1.size); have hst := bytes_string w2 w1.heap.size 0 (Ch.rl v) (Ch.rl v) (Ch.rb v) hrb hby2))
                clear cB hwr hc s1 s2 s3 s4 hvv hst hby2 hx hcv hvr hin hpn d2 hk4 hrb hfl hs4
                go_wp2_with fail
                exact bodyPost_ret (v := .tuple #[.int .i64 V, .int .i64 k]) (by simp [results, Tryd.results37, go_sem]) rfl ⟨by rw [HW.out], hB2⟩
        · have hne : ((Ch.span (Rn.off f p) k).1 == (Ch.span (Rn.off f p) k).2) = false := by simpa using he
          have hnext : Rn.whole (Rn.off f p) (n - p) = true → k + 1 ≤ Rn.fs (Rn.off f p) (n - p) := by
            intro hw
            have h1 := hfs hw
            by_cases h2 : Rn.fs (Rn.off f p) (n - p) = k
            · obtain ⟨q1, q2, q3⟩ := henc hw h2
              rw [q1] at he
              exact absurd rfl he
            · omega
          have HX := hide' hnext
          clear hnext hfs henc he hrg hstep
          generalize Ch.span (Rn.off f p) k = sp at *
          go_wp2_with fail
          refine cS.mono ?_
          rintro e w1 ⟨rfl, hb1⟩
          have hB1 := hBW.trans (hb1.mono hBW.size)
          clear cS
          go_wp2_with fail
          go_quiet (fail)
          go_wp2_with fail
          go_roundw
          case rel => exact ⟨k + 1, by go_num, by omega, by omega, below_drewN hB1 _, HX.out⟩
          case measure => simp [RowKit.intOf]; omega
end Go.Proofs.YtploppaocpbnlaaDoor
