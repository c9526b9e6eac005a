/-
  THE WALK over gimletlaw11.fixed.
-/
import Derived.Test.YtcnagbkdckipnaaGreatDoorAkCb
namespace Go.Proofs.YtcnagbkdckipnaaGreatDoor
open Go.RowKit Go.Lib Go.Sort
namespace Ak
theorem cS_inv {x : Sv} {ax te : Int} {nm : ByteArray} {wh : List Xp} (h : cS x = .mk ax te nm wh) : ∃ p c l, x = .mk ax te nm p c l ∧ cXs l = wh := by
  obtain ⟨a, b, c, p, q, l⟩ := x
  unfold cS at h
  cases h
  exact ⟨p, q, l, rfl, rfl⟩
mutual
/-- strings are short, as they say -/
def sS : Sp → Prop | .mk _ _ nm wh => nm.size ≤ 9223372036854775807 ∧ sXs wh
def sX : Xp → Prop | .mk _ ar st aa _ tx _ => (aa.size ≤ 9223372036854775807 ∧ tx.size ≤ 9223372036854775807) ∧ sXs ar ∧ sSs st
def sXs : List Xp → Prop
  | [] => True
  | a :: l => sX a ∧ sXs l
def sSs : List Sp → Prop
  | [] => True
  | a :: l => sS a ∧ sSs l
end
mutual
theorem zS_of : ∀ (x : Sv), sS (cS x) → zS x
  | .mk ax te nm p c wh, h => by
    unfold cS sS at h
    unfold zS
    exact ⟨h.1, zXs_of wh h.2⟩
theorem zX_of : ∀ (x : Xv), sX (cX x) → zX x
  | .mk op p c ar sp sc st aa cm tx nu, h => by
    unfold cX sX at h
    unfold zX
    exact ⟨h.1, zXs_of ar h.2.1, zSs_of st h.2.2⟩
theorem zXs_of : ∀ (l : List Xv), sXs (cXs l) → zXs l
  | [], _ => by unfold zXs; trivial
  | a :: l, h => by
    unfold cXs sXs at h
    unfold zXs
    exact ⟨zX_of a h.1, zXs_of l h.2⟩
theorem zSs_of : ∀ (l : List Sv), sSs (cSs l) → zSs l
  | [], _ => by unfold zSs; trivial
  | a :: l, h => by
    unfold cSs sSs at h
    unfold zSs
    exact ⟨zS_of a h.1, zSs_of l h.2⟩
end
theorem fx_ss : sSs fxP := by
  unfold fxP anyP exB
  simp [sSs, sS, sXs, sX]
  decide
end Ak
set_option maxRecDepth 100000 in
set_option maxHeartbeats 4000000 in
theorem akFixed (w : World) (hT : Lib.Utf8Tabs 1 2 w) (hS : Spans w) (hG : Signs w) (ht : Ak.Tb w) (htt : Ak.TbT w) :
    Calls Tryz.prog 7 #[] w fun e w' => e = .returned (.bool true) ∧ Below w.heap.size w w' := by
  have kc := Lib.run_convert_bytes_const (P := Tryz.prog) w 22 5 #[.int .u8 47, .int .u8 47, .int .u8 97, .int .u8 91, .int .u8 32, .int .u8 40, .int .u8 32, .int .u8 98, .int .u8 32, .int .u8 111, .int .u8 114, .int .u8 32, .int .u8 99, .int .u8 32, .int .u8 41, .int .u8 32, .int .u8 97, .int .u8 110, .int .u8 100, .int .u8 32, .int .u8 100, .int .u8 32, .int .u8 93] 23 23 Tryz.underlying22 Tryz.underlying5
  have hb : Below w.heap.size w (w.alloc (.cells #[.int .u8 47, .int .u8 47, .int .u8 97, .int .u8 91, .int .u8 32, .int .u8 40, .int .u8 32, .int .u8 98, .int .u8 32, .int .u8 111, .int .u8 114, .int .u8 32, .int .u8 99, .int .u8 32, .int .u8 41, .int .u8 32, .int .u8 97, .int .u8 110, .int .u8 100, .int .u8 32, .int .u8 100, .int .u8 32, .int .u8 93] 5 (23, 24))) := (Below.refl _ _).alloc (Nat.le_refl _) _
  have hv : ArgS (w.alloc (.cells #[.int .u8 47, .int .u8 47, .int .u8 97, .int .u8 91, .int .u8 32, .int .u8 40, .int .u8 32, .int .u8 98, .int .u8 32, .int .u8 111, .int .u8 114, .int .u8 32, .int .u8 99, .int .u8 32, .int .u8 41, .int .u8 32, .int .u8 97, .int .u8 110, .int .u8 100, .int .u8 32, .int .u8 100, .int .u8 32, .int .u8 93] 5 (23, 24))) Ak.fxF 23 (.slice (some ⟨w.heap.size, 0, none⟩) 23 23) := by
    refine .some _ 23 (Nat.le_refl _) (by decide) (fun j hj => ?_) (fun _ => ⟨_, _, rfl⟩)
    rw [show (Addr.add ⟨w.heap.size, 0, none⟩ j) = ⟨w.heap.size, j, none⟩ from by simp [Addr.add]; exact fun h => h.symm, Lib.cell_of_heap (Ak.heap_new w _)]
    have : ∀ j, j < 23 → (#[.int .u8 47, .int .u8 47, .int .u8 97, .int .u8 91, .int .u8 32, .int .u8 40, .int .u8 32, .int .u8 98, .int .u8 32, .int .u8 111, .int .u8 114, .int .u8 32, .int .u8 99, .int .u8 32, .int .u8 41, .int .u8 32, .int .u8 97, .int .u8 110, .int .u8 100, .int .u8 32, .int .u8 100, .int .u8 32, .int .u8 93] : Array Value)[j]? = some (.int .u8 (Ak.fxF j : Nat)) := by
      intro j hj
      match j, hj with
      | 0, _ => rfl
      | 1, _ => rfl
      | 2, _ => rfl
      | 3, _ => rfl
      | 4, _ => rfl
      | 5, _ => rfl
      | 6, _ => rfl
      | 7, _ => rfl
      | 8, _ => rfl
      | 9, _ => rfl
      | 10, _ => rfl
      | 11, _ => rfl
      | 12, _ => rfl
      | 13, _ => rfl
      | 14, _ => rfl
      | 15, _ => rfl
      | 16, _ => rfl
      | 17, _ => rfl
      | 18, _ => rfl
      | 19, _ => rfl
      | 20, _ => rfl
      | 21, _ => rfl
      | 22, _ => rfl
      | (k + 23), h => omega
    exact this j hj
  have hle := Nat.le_refl w.heap.size
  have C := akParse 100 20 (tabs_below hT hb hle) (hS.below hb hle) (hG.below hb hle) (ht.below hb) Ak.fxF_lt (by decide) hv
  rw [Ak.fx_ask] at C
  have HB := hide' hb
  have HC := hide' C
  have HX := hide' (fun (W : World) (h : Below w.heap.size w W) => And.intro (Ak.ckx (tabs_below hT h hle) (hS.below h hle)) (And.intro (ht.below h) (htt.below h)))
  clear hT hS hG ht htt hb hv C
  go_enter Tryz.func7, Tryz.ntmps7
  go_wp2_with fail
  refine HC.out.mono ?_
  rintro e w2 ⟨q, k, c, lv, rfl, hl, hc, hb2⟩
  obtain ⟨rfl, hrow, _, _⟩ := hl.row
  have hbb := HB.out.trans (hb2.mono HB.out.size)
  obtain ⟨hx, hta, htt⟩ := HX.out w2 hbb
  have hbk : Below w2.heap.size w2 (w2.alloc (.cells #[.slice q lv.length c] 25)) := (Below.refl _ _).alloc (Nat.le_refl _) _
  have CP := akPrint hx hta htt lv (Ak.zSs_of lv (by rw [hc]; exact Ak.fx_ss)) (w2.alloc (.cells #[.slice q lv.length c] 25)) q c hrow hbk (by rw [hc]; exact Ak.fx_chk _) (by rw [hc]; exact Ak.fx_gs) (by rw [hc, Ak.fx_wp]; decide)
  rw [hc, Ak.fx_wp] at CP
  have HCP := hide' CP
  have HB3 := hide' (hbb.trans (hbk.mono hbb.size))
  obtain ⟨n, hn⟩ : ∃ n, lv.length = n := ⟨_, rfl⟩
  rw [hn] at HCP HB3 ⊢
  clear hl hc hb2 hrow hbb hx hta htt hbk CP hn HC HX kc
  go_wp2_with fail
  refine HCP.out.mono ?_
  rintro e w4 ⟨rfl, hb4⟩
  have HB4 := hide' (HB3.out.trans (hb4.mono HB3.out.size))
  clear hb4 HCP
  go_wp2_with fail
  go_ret
  exact ⟨rfl, HB4.out⟩
end Go.Proofs.YtcnagbkdckipnaaGreatDoor
