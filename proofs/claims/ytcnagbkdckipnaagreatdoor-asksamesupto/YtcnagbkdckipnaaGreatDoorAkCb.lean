import Derived.Test.YtcnagbkdckipnaaGreatDoorAkWrC
import Derived.Test.YtcnagbkdckipnaaGreatDoorAkCkT
import Derived.Lib.SlBytesConst
/-
  WALKS over ask.writeSome (nothing compared), writeExpr; the writing functions tied together.
-/
namespace Go.Proofs.YtcnagbkdckipnaaGreatDoor
open Go.RowKit Go.Lib Go.Sort
set_option maxRecDepth 100000 in
set_option maxHeartbeats 4000000 in
theorem wrSome {w0 : World} {B b : Nat} (op : Int) (pa : Option Addr) (la ca : Nat) (ps : Option Addr) (cc : Nat) (st : List Ak.Sv) (aa : ByteArray) (cm : Int) (tx : ByteArray) (nu : Int) (hcm : cm = 0) (hrow : Ak.RowS w0 ps cc st) (hg : Ak.gSs (Ak.cSs st)) (hpp : Ak.WrPP w0 B b st) (W : World) (out : List UInt8) (hP : Ak.PrS w0 B b out W) (hL : out.length + (Ak.wC (Ak.cSs st) aa).length ≤ 70368744177664) :
    Calls Tryz.prog 131 #[.pointer (some ⟨b, 0, none⟩), .agg #[.int .i64 op, .slice pa la ca, .slice ps st.length cc, .string aa, .int .i64 cm, .string tx, .int .i64 nu]] W (Ak.WrE w0 B b W (out ++ Ak.wC (Ak.cSs st) aa)) := by
  have hbox : Below W.heap.size W (W.alloc (.cells #[.int .i64 op, .slice pa la ca, .slice ps st.length cc, .string aa, .int .i64 cm, .string tx, .int .i64 nu] 121)) := (Below.refl _ _).alloc (Nat.le_refl _) _
  have C := wrCompared op pa la ca ps cc st aa cm tx nu hrow hg hpp _ out (hP.below hbox) hL
  have HK := hide' (Ak.Kp.of_below (b := b) hbox)
  obtain ⟨ls, hls⟩ : ∃ k, st.length = k := ⟨_, rfl⟩
  obtain ⟨o2, ho2⟩ : ∃ o, out ++ Ak.wC (Ak.cSs st) aa = o := ⟨_, rfl⟩
  rw [hls] at C HK ⊢
  rw [ho2] at C ⊢
  have g0 : (cm == 0) = true := by simp [hcm]
  clear hrow hg hpp hP hL hbox hls ho2 hcm
  go_enter Tryz.func131, Tryz.ntmps131
  go_wp2_with fail
  refine C.mono ?_
  rintro e w2 ⟨rfl, hp, hk⟩
  have HP2 := hide' hp
  have HK2 := hide' (HK.out.trans hk)
  clear hp hk C HK
  go_wp2_with fail
  first | go_end0 | refine bodyPost_ret (results_none rfl _ _ _) rfl ?_
  exact ⟨rfl, HP2.out, HK2.out⟩
set_option maxRecDepth 100000 in
set_option maxHeartbeats 8000000 in
theorem wrExprAo {w0 : World} {B b : Nat} (op : Int) (pa : Option Addr) (ca : Nat) (ar : List Ak.Xv) (ps : Option Addr) (cc : Nat) (st : List Ak.Sv) (aa : ByteArray) (cm : Int) (tx : ByteArray) (nu : Int) (hop : op = 0 ∨ op = 1) (ih : ∀ a ∈ ar, Ak.WrXX w0 B b a) : Ak.WrXX w0 B b (.mk op pa ca ar ps cc st aa cm tx nu) := by
  intro hok hG W out hP hL
  rw [show Ak.cX (.mk op pa ca ar ps cc st aa cm tx nu) = .mk op (Ak.cXs ar) (Ak.cSs st) aa cm tx nu by simp [Ak.cX]] at hG hL ⊢
  unfold Ak.gX at hG
  change Calls Tryz.prog 117 #[.pointer (some ⟨b, 0, none⟩), .agg #[.int .i64 op, .slice pa ar.length ca, .slice ps st.length cc, .string aa, .int .i64 cm, .string tx, .int .i64 nu]] W _
  have hbox : Below W.heap.size W (W.alloc (.cells #[.int .i64 op, .slice pa ar.length ca, .slice ps st.length cc, .string aa, .int .i64 cm, .string tx, .int .i64 nu] 121)) := (Below.refl _ _).alloc (Nat.le_refl _) _
  have hP1 := hP.below hbox
  have HK := hide' (Ak.Kp.of_below (b := b) hbox)
  obtain ⟨ls, hls⟩ : ∃ k, st.length = k := ⟨_, rfl⟩
  have hrow := hok.rows.1
  have C := fun (bt : ByteArray) (h2 : out.length + (Ak.wA op (Ak.by_ bt) true (Ak.cXs ar)).length ≤ 70368744177664) => wrParts op pa ca ar ps cc ls aa cm tx nu bt hrow hG.2.1 ih _ out hP1 h2
  rw [hls] at C HK ⊢
  unfold Ak.wX at hL ⊢
  rcases hop with hop | hop
  · rw [if_pos hop] at hL ⊢
    have C1 := C ⟨#[32, 97, 110, 100, 32]⟩ hL
    rw [show Ak.by_ ⟨#[32, 97, 110, 100, 32]⟩ = [32, 97, 110, 100, 32] from rfl] at C1
    obtain ⟨o2, ho2⟩ : ∃ o, out ++ Ak.wA op [32, 97, 110, 100, 32] true (Ak.cXs ar) = o := ⟨_, rfl⟩
    rw [ho2] at C1 ⊢
    obtain ⟨la, hla⟩ : ∃ k, ar.length = k := ⟨_, rfl⟩
    rw [hla] at C1 HK ⊢
    have g0 : (op == 0) = true := by simp [hop]
    clear hok hG hP hL hbox hls hP1 hrow ih C hop ho2 hla
    go_enter Tryz.func117, Tryz.ntmps117
    go_wp2_with fail
    refine C1.mono ?_
    rintro e w2 ⟨rfl, hp, hk⟩
    have HP2 := hide' hp
    have HK2 := hide' (HK.out.trans hk)
    clear hp hk C1 HK
    go_wp2_with fail
    first | go_end0 | refine bodyPost_ret (results_none rfl _ _ _) rfl ?_
    exact ⟨rfl, HP2.out, HK2.out⟩
  · rw [if_neg (by omega), if_pos hop] at hL ⊢
    have C1 := C ⟨#[32, 111, 114, 32]⟩ hL
    rw [show Ak.by_ ⟨#[32, 111, 114, 32]⟩ = [32, 111, 114, 32] from rfl] at C1
    obtain ⟨o2, ho2⟩ : ∃ o, out ++ Ak.wA op [32, 111, 114, 32] true (Ak.cXs ar) = o := ⟨_, rfl⟩
    rw [ho2] at C1 ⊢
    obtain ⟨la, hla⟩ : ∃ k, ar.length = k := ⟨_, rfl⟩
    rw [hla] at C1 HK ⊢
    have g0 : (op == 0) = false := by simp [hop]
    have g1 : (op == 1) = true := by simp [hop]
    clear hok hG hP hL hbox hls hP1 hrow ih C hop ho2 hla
    go_enter Tryz.func117, Tryz.ntmps117
    go_wp2_with fail
    refine C1.mono ?_
    rintro e w2 ⟨rfl, hp, hk⟩
    have HP2 := hide' hp
    have HK2 := hide' (HK.out.trans hk)
    clear hp hk C1 HK
    go_wp2_with fail
    first | go_end0 | refine bodyPost_ret (results_none rfl _ _ _) rfl ?_
    exact ⟨rfl, HP2.out, HK2.out⟩
set_option maxRecDepth 100000 in
set_option maxHeartbeats 8000000 in
theorem wrExprSome {w0 : World} {B b : Nat} (op : Int) (pa : Option Addr) (ca : Nat) (ar : List Ak.Xv) (ps : Option Addr) (cc : Nat) (st : List Ak.Sv) (aa : ByteArray) (cm : Int) (tx : ByteArray) (nu : Int) (hop : op = 3) (hpp : Ak.WrPP w0 B b st) : Ak.WrXX w0 B b (.mk op pa ca ar ps cc st aa cm tx nu) := by
  intro hok hG W out hP hL
  rw [show Ak.cX (.mk op pa ca ar ps cc st aa cm tx nu) = .mk op (Ak.cXs ar) (Ak.cSs st) aa cm tx nu by simp [Ak.cX]] at hG hL ⊢
  unfold Ak.gX at hG
  change Calls Tryz.prog 117 #[.pointer (some ⟨b, 0, none⟩), .agg #[.int .i64 op, .slice pa ar.length ca, .slice ps st.length cc, .string aa, .int .i64 cm, .string tx, .int .i64 nu]] W _
  have hbox : Below W.heap.size W (W.alloc (.cells #[.int .i64 op, .slice pa ar.length ca, .slice ps st.length cc, .string aa, .int .i64 cm, .string tx, .int .i64 nu] 121)) := (Below.refl _ _).alloc (Nat.le_refl _) _
  have HK := hide' (Ak.Kp.of_below (b := b) hbox)
  unfold Ak.wX at hL ⊢
  rw [if_neg (by omega), if_neg (by omega), if_neg (by omega)] at hL ⊢
  obtain ⟨la, hla⟩ : ∃ k, ar.length = k := ⟨_, rfl⟩
  have C := wrSome op pa la ca ps cc st aa cm tx nu (hG.1.2.2 hop) hok.rows.2 hG.2.2 hpp _ out (hP.below hbox) hL
  rw [hla] at C HK ⊢
  obtain ⟨o2, ho2⟩ : ∃ o, out ++ Ak.wC (Ak.cSs st) aa = o := ⟨_, rfl⟩
  change Calls _ _ _ _ (Ak.WrE w0 B b W (out ++ Ak.wC (Ak.cSs st) aa))
  rw [ho2] at C ⊢
  obtain ⟨ls, hls⟩ : ∃ k, st.length = k := ⟨_, rfl⟩
  rw [hls] at C HK ⊢
  have g0 : (op == 0) = false := by simp [hop]
  have g1 : (op == 1) = false := by simp [hop]
  have g2 : (op == 2) = false := by simp [hop]
  have g3 : (op == 3) = true := by simp [hop]
  clear hok hG hP hL hbox hls hpp hop ho2 hla
  go_enter Tryz.func117, Tryz.ntmps117
  go_wp2_with fail
  refine C.mono ?_
  rintro e w2 ⟨rfl, hp, hk⟩
  have HP2 := hide' hp
  have HK2 := hide' (HK.out.trans hk)
  clear hp hk C HK
  go_wp2_with fail
  first | go_end0 | refine bodyPost_ret (results_none rfl _ _ _) rfl ?_
  exact ⟨rfl, HP2.out, HK2.out⟩
set_option maxRecDepth 100000 in
set_option maxHeartbeats 8000000 in
theorem wrExprNot {w0 : World} {B b : Nat} (op : Int) (pa : Option Addr) (ca : Nat) (ar : List Ak.Xv) (ps : Option Addr) (cc : Nat) (st : List Ak.Sv) (aa : ByteArray) (cm : Int) (tx : ByteArray) (nu : Int) (hop : op = 2) (ih : ∀ a ∈ ar, Ak.WrXX w0 B b a) : Ak.WrXX w0 B b (.mk op pa ca ar ps cc st aa cm tx nu) := by
  intro hok hG W out hP hL
  rw [show Ak.cX (.mk op pa ca ar ps cc st aa cm tx nu) = .mk op (Ak.cXs ar) (Ak.cSs st) aa cm tx nu by simp [Ak.cX]] at hG hL ⊢
  unfold Ak.gX at hG
  change Calls Tryz.prog 117 #[.pointer (some ⟨b, 0, none⟩), .agg #[.int .i64 op, .slice pa ar.length ca, .slice ps st.length cc, .string aa, .int .i64 cm, .string tx, .int .i64 nu]] W _
  obtain ⟨la, hla⟩ : ∃ k, ar.length = k := ⟨_, rfl⟩
  obtain ⟨ls, hls⟩ : ∃ k, st.length = k := ⟨_, rfl⟩
  have h1l : la = 1 := by have := hG.1.2.1 hop; rw [Ak.cXs_map, List.length_map] at this; omega
  obtain ⟨x, rfl⟩ := List.length_eq_one_iff.1 (hla.trans h1l)
  obtain ⟨h1, _, h3⟩ := hok.rows.1
  obtain ⟨g, o, rfl, hel⟩ := h3 (by simp)
  obtain ⟨hrg, hokx⟩ := hel 0 x rfl
  rw [Nat.zero_mul, Nat.add_zero] at hrg
  have hgx : Ak.gX (Ak.cX x) := Ak.gXs_at [x] 0 x hG.2.1 rfl
  have hcl := ih x (by simp) hokx hgx
  unfold Ak.wX at hL ⊢
  rw [if_neg (by omega), if_neg (by omega), if_pos hop, show Ak.cXs [x] = [Ak.cX x] by simp [Ak.cXs], Ak.wN] at hL ⊢
  rw [hla, hls]
  obtain ⟨op', pa', ca', ar', ps', cc', st', aa', cm', tx', nu'⟩ := x
  obtain ⟨la', hla'⟩ : ∃ k, ar'.length = k := ⟨_, rfl⟩
  obtain ⟨ls', hls'⟩ : ∃ k, st'.length = k := ⟨_, rfl⟩
  obtain ⟨ws, hws⟩ : ∃ u, Ak.wX (Ak.cX (.mk op' pa' ca' ar' ps' cc' st' aa' cm' tx' nu')) = u := ⟨_, rfl⟩
  rw [hws] at hL hcl ⊢
  have hrg2 : w0.rangeAt g o [.int .i64 op', .slice pa' la' ca', .slice ps' ls' cc', .string aa', .int .i64 cm', .string tx', .int .i64 nu'] := by rw [← hla', ← hls']; exact hrg
  have HC : Hid (∀ (w : World) (o3 : List UInt8), Ak.PrS w0 B b o3 w → o3.length + ws.length ≤ 70368744177664 → Calls Tryz.prog 117 #[.pointer (some ⟨b, 0, none⟩), .agg #[.int .i64 op', .slice pa' la' ca', .slice ps' ls' cc', .string aa', .int .i64 cm', .string tx', .int .i64 nu']] w (Ak.WrE w0 B b w (o3 ++ ws))) := hide' (fun w o3 h1 h2 => by rw [← hla', ← hls']; exact hcl w o3 h1 h2)
  have HRG := hide' hrg2
  have hbox : Below W.heap.size W (W.alloc (.cells #[.int .i64 op, .slice (some ⟨g, o, none⟩) la ca, .slice ps ls cc, .string aa, .int .i64 cm, .string tx, .int .i64 nu] 121)) := (Below.refl _ _).alloc (Nat.le_refl _) _
  have HP1 := hide' (hP.below hbox)
  have HK1 := hide' (Ak.Kp.of_below (b := b) hbox)
  have HX1 := hide' (Ak.heap_new W (.cells #[.int .i64 op, .slice (some ⟨g, o, none⟩) la ca, .slice ps ls cc, .string aa, .int .i64 cm, .string tx, .int .i64 nu] 121))
  have hbl := (Ak.IsB.lt hP.ib).2
  have HLt := hide' hL
  have HC1 : Hid (la ≤ ca) := hide' (by rw [← hla]; exact h1)
  have t1 : (0 : Int) < (la : Int) := by omega
  have g0 : (op == 0) = false := by simp [hop]
  have g1 : (op == 1) = false := by simp [hop]
  have g2 : (op == 2) = true := by simp [hop]
  have hcn : Ak.by_ ⟨#[110, 111, 116, 40]⟩ = [110, 111, 116, 40] := rfl
  have CS := wrStr (w0 := w0) (B := B) (b := b) HP1.out ⟨#[110, 111, 116, 40]⟩ (by rw [hcn]; have := HLt.out; simp at this ⊢; omega)
  rw [hcn] at CS
  clear hok hG hP hL hbox hls hop hla h1 h3 hel hrg hrg2 hokx hgx hcl ih hws hla' hls' h1l hcn
  go_enter Tryz.func117, Tryz.ntmps117
  go_wp2_with fail
  refine CS.mono ?_
  rintro e w2 ⟨rfl, hp, hk⟩
  have HP2 := hide' hp
  have HK2 := hide' (HK1.out.trans hk)
  have hx2 := hk.keep HX1.out (by omega) (by decide)
  have x1 : w2.cell? ⟨W.heap.size, 1, none⟩ = some (.slice (some ⟨g, o, none⟩) la ca) := by rw [Lib.cell_of_heap hx2]; rfl
  have q0 := HP2.out.cell (HRG.out 0 _ rfl)
  have q1 := HP2.out.cell (HRG.out 1 _ rfl)
  have q2 := HP2.out.cell (HRG.out 2 _ rfl)
  have q3 := HP2.out.cell (HRG.out 3 _ rfl)
  have q4 := HP2.out.cell (HRG.out 4 _ rfl)
  have q5 := HP2.out.cell (HRG.out 5 _ rfl)
  have q6 := HP2.out.cell (HRG.out 6 _ rfl)
  rw [Nat.add_zero] at q0
  clear hp hk hx2 CS
  go_wp2_with fail
  refine (HC.out _ _ HP2.out (by have := HLt.out; simp at this ⊢; omega)).mono ?_
  rintro e w3 ⟨rfl, hp, hk⟩
  have HP3 := hide' hp
  have HK3 := hide' (HK2.out.trans hk)
  clear hp hk HC
  go_wp2_with fail
  refine (wrByte (w0 := w0) (B := B) (b := b) HP3.out (by have := HLt.out; simp at this ⊢; omega) 41).mono ?_
  rintro e w4 ⟨rfl, hp, hk⟩
  have HP4 := hide' hp
  have HK4 := hide' (HK3.out.trans hk)
  clear hp hk
  go_wp2_with fail
  first | go_end0 | refine bodyPost_ret (results_none rfl _ _ _) rfl ?_
  refine ⟨rfl, ?_, HK4.out⟩
  have h4 := HP4.out
  simp only [List.append_assoc, List.cons_append, List.nil_append] at h4 ⊢
  exact h4
theorem wrAll {w0 : World} {B b : Nat} (hta : Ak.Tb w0) (htt : Ak.TbT w0) : (∀ x, Ak.WrSS w0 B b x) ∧ ∀ x, Ak.WrXX w0 B b x := by
  have hs : ∀ ax te nm p c wh, (∀ a ∈ wh, Ak.WrXX w0 B b a) → Ak.WrSS w0 B b (.mk ax te nm p c wh) := fun ax te nm p c wh ih => wrStep hta htt ax te nm p c wh ih
  have he : ∀ op p c ar sp sc st aa cm tx nu, (∀ a ∈ ar, Ak.WrXX w0 B b a) → (∀ a ∈ st, Ak.WrSS w0 B b a) → Ak.WrXX w0 B b (.mk op p c ar sp sc st aa cm tx nu) := fun op p c ar sp sc st aa cm tx nu ia is => by
    by_cases h01 : op = 0 ∨ op = 1
    · exact wrExprAo op p c ar sp sc st aa cm tx nu h01 ia
    by_cases h2 : op = 2
    · exact wrExprNot op p c ar sp sc st aa cm tx nu h2 ia
    by_cases h3 : op = 3
    · exact wrExprSome op p c ar sp sc st aa cm tx nu h3 (wrPath st is)
    intro _ hG
    rw [show Ak.cX (.mk op p c ar sp sc st aa cm tx nu) = .mk op (Ak.cXs ar) (Ak.cSs st) aa cm tx nu by simp [Ak.cX]] at hG
    unfold Ak.gX at hG
    exact absurd hG.1.1 (fun e => by omega)
  exact ⟨Ak.Sv.ind hs he, Ak.Xv.ind hs he⟩
end Go.Proofs.YtcnagbkdckipnaaGreatDoor
/-
  THE WALK over ask.Print, of paths that are a query's and compare nothing.
-/
namespace Go.Proofs.YtcnagbkdckipnaaGreatDoor
open Go.RowKit Go.Lib Go.Sort
namespace Ak
theorem TbT.below {w w' : World} (h : TbT w) (hb : Below w.heap.size w w') : TbT w' := fun i s hs => (hb.cell (p := ⟨6, i, none⟩) (block_lt_of_cell (h i s hs))).trans (h i s hs)
end Ak
set_option maxRecDepth 100000 in
set_option maxHeartbeats 4000000 in
theorem akPrint {w0 : World} {NB QB : ByteArray → Bool} (hx : Ak.CkX w0 NB QB) (hta : Ak.Tb w0) (htt : Ak.TbT w0) (l : List Ak.Sv) (hz : Ak.zSs l) (W : World) (p : Option Addr) (c : Nat) (hR : Ak.RowS w0 p c l) (hb : Below w0.heap.size w0 W) (hc : (Ak.pathC NB QB (Ak.cSs l) 0 (0, 0)).isSome = true) (hg : Ak.gSs (Ak.cSs l)) (hl : (Ak.wP true (Ak.cSs l)).length ≤ 70368744177664) :
    Calls Tryz.prog 23 #[.agg #[.slice p l.length c]] W fun r w' => r = .returned (.tuple #[.string ⟨(Ak.wP true (Ak.cSs l)).toArray⟩, .int .i64 0]) ∧ Below W.heap.size W w' := by
  have hb1 : Below W.heap.size W (W.alloc (.cells #[.slice p l.length c] 25)) := (Below.refl _ _).alloc (Nat.le_refl _) _
  have hb01 := hb.trans (hb1.mono hb.size)
  have C := ckCheck hx l hz (W.alloc (.cells #[.slice p l.length c] 25)) p c hR hb01
  rw [if_pos hc] at C
  have CP := fun (w2 : World) (h2 : Below W.heap.size W w2) => wrPath (w0 := W) (B := w2.heap.size) (b := w2.heap.size) l (fun a _ => (wrAll (hta.below hb) (htt.below hb)).1 a) p c (hR.below hb) hg (w2.alloc (.cells #[.pointer none, .slice none 0 0] 115)) []
    ⟨h2.size, h2.trans (((Below.refl _ _).alloc (Nat.le_refl _) _).mono h2.size), by rw [World.size_alloc]; omega, Lib.IsBuilderF.of (Lib.fresh_isBuilder 115 5 w2)⟩ (by simpa using hl)
  obtain ⟨ws, hws⟩ : ∃ u, Ak.wP true (Ak.cSs l) = u := ⟨_, rfl⟩
  rw [hws] at CP ⊢
  obtain ⟨n, hn⟩ : ∃ n, l.length = n := ⟨_, rfl⟩
  rw [hn] at C CP hb1 hb01 ⊢
  have HX1 := hide' (Ak.heap_new W (.cells #[.slice p n c] 25))
  have HB1 := hide' hb1
  have HCP := hide' CP
  have s1 : (W.alloc (.cells #[.slice p n c] 25)).heap.size = W.heap.size + 1 := World.size_alloc W _
  clear hR hb hb1 hb01 CP hws hn hc hg hl hx hta htt hz
  go_enter Tryz.func23, Tryz.ntmps23
  go_wp2_with fail
  refine C.mono ?_
  rintro e w2 ⟨rfl, hb2⟩
  have hx2 := (hb2.block W.heap.size (by omega)).trans HX1.out
  have x0 : w2.cell? ⟨W.heap.size, 0, none⟩ = some (.slice p n c) := by rw [Lib.cell_of_heap hx2]; rfl
  have CP2 := hide' (HCP.out w2 (HB1.out.trans (hb2.mono HB1.out.size)))
  have hs2 := hb2.size
  have x1 : (w2.alloc (.cells #[.pointer none, .slice none 0 0] 115)).cell? ⟨W.heap.size, 0, none⟩ = some (.slice p n c) := (((Below.refl w2.heap.size w2).alloc (Nat.le_refl _) _).cell (p := ⟨W.heap.size, 0, none⟩) (by show W.heap.size < _; omega)).trans x0
  clear hb2 hx2 C HCP
  go_wp2_with fail
  refine CP2.out.mono ?_
  rintro e w3 ⟨rfl, hp, hk⟩
  have CT := Tryz.Builder_String_any_k w2.heap.size w2.heap.size _ w3 hp.ib hp.hB
  have HB3 := hide' hp.b0
  clear hp hk CP2
  go_wp2_with fail
  refine CT.mono ?_
  rintro e w4 ⟨rfl, _, hb4, _⟩
  have HB4 := hide' (HB3.out.trans (hb4.mono (by omega)))
  clear hb4 CT
  go_wp2_with fail
  go_ret2
  exact ⟨rfl, HB4.out⟩
end Go.Proofs.YtcnagbkdckipnaaGreatDoor
/-
  THE QUERY of gimletlaw11.fixed, as its bytes, its words, its path.
-/
namespace Go.Proofs.YtcnagbkdckipnaaGreatDoor
open Go.RowKit Go.Lib Go.Sort
namespace Ak
/-- the bytes of the query -/
def fxB : List Nat := [47, 47, 97, 91, 32, 40, 32, 98, 32, 111, 114, 32, 99, 32, 41, 32, 97, 110, 100, 32, 100, 32, 93]
def fxF : Nat → Nat := fun j => fxB.getD j 0
theorem fxF_lt (j : Nat) : fxF j < 256 := by
  unfold fxF
  by_cases h : j < 23
  · have : ∀ j, j < 23 → fxB.getD j 0 < 256 := by decide
    exact this j h
  · rw [List.getD_eq_getElem?_getD, List.getElem?_eq_none (by show 23 ≤ j; omega)]
    decide
theorem fx_flt : Lx.flt fxF 23 = none := by kernel_rfl
theorem fx_wn : wn fxF 23 = 11 := by kernel_rfl
def exB (s : ByteArray) : Xp := .mk 3 [] [.mk 0 0 s []] ⟨#[]⟩ 0 ⟨#[]⟩ 0
/-- the path -/
def fxP : List Sp := [anyP, .mk 0 0 ⟨#[97]⟩ [.mk 0 [.mk 1 [exB ⟨#[98]⟩, exB ⟨#[99]⟩] [] ⟨#[]⟩ 0 ⟨#[]⟩ 0, exB ⟨#[100]⟩] [] ⟨#[]⟩ 0 ⟨#[]⟩ 0]]
set_option maxRecDepth 100000 in
theorem fx_ask : askR fxF 23 100 20 = .path fxP := by kernel_rfl
/-- is it a name, by its bytes? -/
def nmP (s : ByteArray) : Bool := Ch.allFrom (fun j => (s.data.toList.getD j 0).toNat) s.size 3 s.size 0 2 && (decide (0 < s.size) && Ch.valid (fun j => (s.data.toList.getD j 0).toNat) s.size)
theorem fx_nm : nmP ⟨#[97]⟩ = true ∧ nmP ⟨#[98]⟩ = true ∧ nmP ⟨#[99]⟩ = true ∧ nmP ⟨#[100]⟩ = true := ⟨by kernel_rfl, by kernel_rfl, by kernel_rfl, by kernel_rfl⟩
theorem fx_wp : wP true fxP = (⟨#[100, 101, 115, 99, 101, 110, 100, 97, 110, 116, 45, 111, 114, 45, 115, 101, 108, 102, 58, 58, 110, 111, 100, 101, 40, 41, 47, 97, 91, 40, 98, 32, 111, 114, 32, 99, 41, 32, 97, 110, 100, 32, 100, 93]⟩ : ByteArray).data.toList := by kernel_rfl
theorem fx_gs : gSs fxP := by
  unfold fxP anyP exB
  simp [gSs, gS, gXs, gX]
theorem fx_chk (QB : ByteArray → Bool) : (pathC nmP QB fxP 0 (0, 0)).isSome = true := by
  have h := fx_nm
  unfold fxP anyP exB
  simp [pathC, stepsC, stepC, listC, exprC, partC, tstB, em, aoB, cpB, cbC, nbB, opX, h.1, h.2.1, h.2.2.1, h.2.2.2]
end Ak
end Go.Proofs.YtcnagbkdckipnaaGreatDoor
/-
  WALKS over ask.canBeQuoted; what the survey asks of other functions, as it is.
-/
namespace Go.Proofs.YtcnagbkdckipnaaGreatDoor
open Go.RowKit Go.Lib Go.Sort
namespace Ak
/-- can it stand between quotes? -/
def qtP (s : ByteArray) : Bool := Lib.validD s.data.toList && !(decide (0 ≤ Lib.indexByte s.data.toList 34) && decide (0 ≤ Lib.indexByte s.data.toList 39))
def nF (s : ByteArray) : Nat → Nat := fun j => (s.data.toList.getD j 0).toNat
theorem nF_lt (s : ByteArray) (j : Nat) : nF s j < 256 := UInt8.toNat_lt _
theorem nF_arr (s : ByteArray) : Rn.arr (nF s) s.size = s := by
  unfold Rn.arr nF
  refine ByteArray.ext (Array.ext ?_ fun i h1 h2 => ?_)
  · simp
  · simp at h1 h2 ⊢
end Ak
set_option maxRecDepth 100000 in
set_option maxHeartbeats 2000000 in
theorem akCanQuote (s : ByteArray) (w : World) (hs : s.size ≤ 9223372036854775807) (hT : Lib.Utf8Tabs 1 2 w) :
    Calls Tryz.prog 167 #[.string s] w fun r w' => r = .returned (.bool (Ak.qtP s)) ∧ Below w.heap.size w w' := by
  have cV := Tryz.utf8_ValidString s w hs hT
  have c1 := fun w => Tryz.strings_Contains_one s 34 w
  have c2 := fun w => Tryz.strings_Contains_one s 39 w
  unfold Ak.qtP
  generalize Lib.validD s.data.toList = v at *
  generalize decide (0 ≤ Lib.indexByte s.data.toList 34) = a at *
  generalize decide (0 ≤ Lib.indexByte s.data.toList 39) = b at *
  clear hT
  cases v with
  | false =>
    go_enter Tryz.func167, Tryz.ntmps167
    go_wp2_with fail
    refine cV.mono ?_
    rintro e w1 ⟨rfl, hb⟩
    have HB := hide' hb
    clear hb cV
    go_wp2_with fail
    go_ret
    exact ⟨rfl, HB.out⟩
  | true =>
    cases a with
    | false =>
      go_enter Tryz.func167, Tryz.ntmps167
      go_wp2_with fail
      refine cV.mono ?_
      rintro e w1 ⟨rfl, hb⟩
      have HB := hide' hb
      clear hb cV
      go_wp2_with fail
      refine (c1 w1).mono ?_
      rintro e w2 ⟨rfl, rfl⟩
      go_wp2_with fail
      go_ret
      exact ⟨rfl, HB.out⟩
    | true =>
      cases b with
      | false =>
        go_enter Tryz.func167, Tryz.ntmps167
        go_wp2_with fail
        refine cV.mono ?_
        rintro e w1 ⟨rfl, hb⟩
        have HB := hide' hb
        clear hb cV
        go_wp2_with fail
        refine (c1 w1).mono ?_
        rintro e w2 ⟨rfl, rfl⟩
        go_wp2_with fail
        refine (c2 w2).mono ?_
        rintro e w3 ⟨rfl, rfl⟩
        go_wp2_with fail
        go_ret
        exact ⟨rfl, HB.out⟩
      | true =>
        go_enter Tryz.func167, Tryz.ntmps167
        go_wp2_with fail
        refine cV.mono ?_
        rintro e w1 ⟨rfl, hb⟩
        have HB := hide' hb
        clear hb cV
        go_wp2_with fail
        refine (c1 w1).mono ?_
        rintro e w2 ⟨rfl, rfl⟩
        go_wp2_with fail
        refine (c2 w2).mono ?_
        rintro e w3 ⟨rfl, rfl⟩
        go_wp2_with fail
        go_ret
        exact ⟨rfl, HB.out⟩
namespace Ak
theorem ckx {w0 : World} (hT : Lib.Utf8Tabs 1 2 w0) (hS : Spans w0) : CkX w0 nmP qtP where
  nm W s hs hb := by
    have := name_any (nF s) s.size W (nF_lt s) hs (hS.below hb (Nat.le_refl _)) (tabs_below hT hb (Nat.le_refl _))
    rw [nF_arr] at this
    exact this
  qt W s hs hb := akCanQuote s W hs (tabs_below hT hb (Nat.le_refl _))
end Ak
end Go.Proofs.YtcnagbkdckipnaaGreatDoor
