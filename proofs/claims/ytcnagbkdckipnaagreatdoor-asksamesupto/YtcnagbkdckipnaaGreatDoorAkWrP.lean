import Derived.Test.YtcnagbkdckipnaaGreatDoorAkCkR
import Derived.Test.YtcnagbkdckipnaaGreatDoorLxPrA
/-
  WHAT ask.Print writes, as pure functions; a builder while it writes; WALKS over isHere and the builder's two.
-/
namespace Go.Proofs.YtcnagbkdckipnaaGreatDoor
open Go.RowKit Go.Lib Go.Sort
namespace Ak
/-- the tests' names -/
def tss : List ByteArray := [bs [], bs [42], bs [116, 101, 120, 116, 40, 41], bs [110, 111, 100, 101, 40, 41]]
/-- the table of the tests lies in memory -/
def TbT (w : World) : Prop := ∀ i s, tss[i]? = some s → w.cell? ⟨6, i, none⟩ = some (.string s)
def hereB (ax te : Int) (n : Nat) : Bool := decide (ax = 3) && (decide (te = 3) && decide (n = 0))
def by_ (s : ByteArray) : List UInt8 := s.data.toList
def nth (l : List ByteArray) (i : Int) : ByteArray := (l[i.toNat]?).getD ⟨#[]⟩
/-- is it a single step ".", as it says? -/
def aloneB : List Sp → Bool
  | [.mk ax te _ wh] => hereB ax te wh.length
  | _ => false
mutual
def wS : Sp → List UInt8
  | .mk ax te nm wh => if hereB ax te wh.length = true then [46] else ((if ax = 0 then [] else by_ (nth axs ax) ++ [58, 58]) ++ (if te = 0 then by_ nm else by_ (nth tss te))) ++ wL wh
def wL : List Xp → List UInt8
  | [] => []
  | a :: l => (([91] ++ wX a) ++ [93]) ++ wL l
def wN : List Xp → List UInt8
  | [] => []
  | a :: _ => wX a
def wX : Xp → List UInt8
  | .mk op ar st aa _ _ _ => if op = 0 then wA op [32, 97, 110, 100, 32] true ar else if op = 1 then wA op [32, 111, 114, 32] true ar else if op = 2 then ([110, 111, 116, 40] ++ wN ar) ++ [41]
    else (if (em aa || !aloneB st) = true then wP true st else []) ++ (if em aa = true then [] else ((if aloneB st = true then [] else [47]) ++ [64]) ++ by_ aa)
def wA (op : Int) (bt : List UInt8) : Bool → List Xp → List UInt8
  | _, [] => []
  | fi, a :: l => ((if fi = true then [] else bt) ++ (if nbB op (opX a) = true then ([40] ++ wX a) ++ [41] else wX a)) ++ wA op bt false l
def wP : Bool → List Sp → List UInt8
  | _, [] => []
  | fi, a :: l => ((if fi = true then [] else [47]) ++ wS a) ++ wP false l
end
mutual
/-- the kinds are named ones (and nothing is compared) -/
def gS : Sp → Prop | .mk ax te _ wh => ((0 ≤ ax ∧ ax ≤ 3) ∧ 0 ≤ te ∧ te ≤ 3) ∧ gXs wh
def gX : Xp → Prop | .mk op ar st _ cm _ _ => ((0 ≤ op ∧ op ≤ 3) ∧ (op = 2 → ar.length = 1) ∧ (op = 3 → cm = 0)) ∧ gXs ar ∧ gSs st
def gXs : List Xp → Prop
  | [] => True
  | a :: l => gX a ∧ gXs l
def gSs : List Sp → Prop
  | [] => True
  | a :: l => gS a ∧ gSs l
end
/-- nothing but the builder's own blocks has changed -/
abbrev Kp (b : Nat) (w w' : World) : Prop := Lib.OthersKept 5 (some b) w w'
theorem Kp.of_below {b : Nat} {w w' : World} (h : Below w.heap.size w w') : Kp b w w' := fun k _ e _ _ => (h.block k (Array.getElem?_eq_some_iff.1 e).1).trans e
/-- the builder at b, in blocks of B or behind it, has so many bytes; what was there is as it was -/
structure PrS (w0 : World) (B b : Nat) (out : List UInt8) (w : World) : Prop where
  lo : w0.heap.size ≤ B
  b0 : Below w0.heap.size w0 w
  hB : B ≤ w.heap.size
  ib : Lib.IsBuilderF 115 5 B b (Lib.byteCells out) w
theorem isB_below {T e : TypeId} {B b : Nat} {bs : List Value} {W W' : World} (h : Lib.IsBuilderF T e B b bs W) (hb : Below W.heap.size W W') : Lib.IsBuilderF T e B b bs W' := by
  have hk : ∀ {q : Nat} {o : Obj}, W.heap[q]? = some o → W'.heap[q]? = some o := fun {q o} e => (hb.block q (Array.getElem?_eq_some_iff.1 e).1).trans e
  have go : ∀ {p : Value}, Lib.BuilderAtF T e B b p bs W → Lib.BuilderAtF T e B b p bs W' := by
    rintro p ⟨hB, v, hb, hown, hne⟩
    refine ⟨hB, v, hk hb, ⟨hown.1, ?_⟩, hne⟩
    rcases hown.2 with hn | ⟨g, cap, cur, fz, hv, hbg, hg, rest⟩
    · exact .inl hn
    · exact .inr ⟨g, cap, cur, fz, hv, hbg, hk hg, rest⟩
  exact h.elim (fun x => .inl (go x)) (fun x => .inr (go x))
theorem PrS.below {w0 : World} {B b : Nat} {out : List UInt8} {w w' : World} (h : PrS w0 B b out w) (hb : Below w.heap.size w w') : PrS w0 B b out w' := ⟨h.lo, h.b0.trans (hb.mono h.b0.size), Nat.le_trans h.hB hb.size, isB_below h.ib hb⟩
theorem PrS.cell {w0 : World} {B b : Nat} {out : List UInt8} {w : World} (h : PrS w0 B b out w) {a : Addr} {v : Value} (e : w0.cell? a = some v) : w.cell? a = some v := (h.b0.cell (p := a) (block_lt_of_cell e)).trans e
/-- what a writing function answers -/
def WrE (w0 : World) (B b : Nat) (W : World) (out : List UInt8) (r : Ending) (w' : World) : Prop := r = .returned (.tuple #[]) ∧ PrS w0 B b out w' ∧ Kp b W w'
theorem IsB.lt {T e : TypeId} {B b : Nat} {bs : List Value} {w : World} (h : Lib.IsBuilderF T e B b bs w) : B ≤ b ∧ b < w.heap.size := h.elim (fun x => ⟨x.1, x.lt⟩) (fun x => ⟨x.1, x.lt⟩)
end Ak
theorem wrByte {w0 : World} {B b : Nat} {out : List UInt8} {W : World} (h : Ak.PrS w0 B b out W) (hl : out.length + 1 ≤ 70368744177664) (c : UInt8) :
    Calls Tryz.prog 87 #[.pointer (some ⟨b, 0, none⟩), .int .u8 (c.toNat : Nat)] W fun r w' => r = .returned .nilIface ∧ Ak.PrS w0 B b (out ++ [c]) w' ∧ Ak.Kp b W w' := by
  refine (lxWriteByte B b _ _ W h.ib (by rw [Lib.byteCells_length]; omega) h.hB).mono ?_
  rintro e w' ⟨rfl, h1, h2, h3⟩
  exact ⟨rfl, ⟨h.lo, h.b0.trans (h2.mono h.lo), Nat.le_trans h.hB h2.size, .inr (by rw [show Lib.byteCells (out ++ [c]) = Lib.byteCells out ++ [.int .u8 (c.toNat : Nat)] by simp [Lib.byteCells]]; exact h1)⟩, h3⟩
theorem wrStr {w0 : World} {B b : Nat} {out : List UInt8} {W : World} (h : Ak.PrS w0 B b out W) (s : ByteArray) (hl : out.length + (Ak.by_ s).length ≤ 70368744177664) :
    Calls Tryz.prog 116 #[.pointer (some ⟨b, 0, none⟩), .string s] W fun r w' => r = .returned (.tuple #[.int .i64 s.size, .nilIface]) ∧ Ak.PrS w0 B b (out ++ Ak.by_ s) w' ∧ Ak.Kp b W w' := by
  have hsz : (Ak.by_ s).length = s.size := by unfold Ak.by_; rw [Array.length_toList]; rfl
  refine (writeString_k B b _ s W h.ib (by rw [Lib.byteCells_length]; omega) h.hB).mono ?_
  rintro e w' ⟨rfl, h1, h2, h3⟩
  exact ⟨rfl, ⟨h.lo, h.b0.trans (h2.mono h.lo), Nat.le_trans h.hB h2.size, .inr (by rw [show Lib.byteCells (out ++ Ak.by_ s) = Lib.byteCells out ++ Lib.strCells s by simp [Lib.byteCells, Ak.by_, Lib.strCells]]; exact h1)⟩, h3⟩
set_option maxRecDepth 100000 in
set_option maxHeartbeats 2000000 in
theorem wrHere (W : World) (ax te : Int) (nm : ByteArray) (p : Option Addr) (n c : Nat) : Calls Tryz.prog 115 #[.agg #[.int .i64 ax, .int .i64 te, .string nm, .slice p n c]] W fun r w' => r = .returned (.bool (Ak.hereB ax te n)) ∧ Below W.heap.size W w' := by
  unfold Ak.hereB
  by_cases h1 : ax = 3
  · subst h1
    rw [show decide ((3 : Int) = 3) = true from rfl, Bool.true_and]
    by_cases h2 : te = 3
    · subst h2
      rw [show decide ((3 : Int) = 3) = true from rfl, Bool.true_and]
      by_cases h3 : n = 0
      · subst h3
        go_enter Tryz.func115, Tryz.ntmps115
        go_wp2_with fail
        go_ret
        exact ⟨rfl, (Below.refl _ _).alloc (Nat.le_refl _) _⟩
      · have g3 : ((n : Int) == 0) = false := by simp; omega
        rw [decide_eq_false h3]
        go_enter Tryz.func115, Tryz.ntmps115
        go_wp2_with fail
        go_ret
        exact ⟨rfl, (Below.refl _ _).alloc (Nat.le_refl _) _⟩
    · have g2 : (te == 3) = false := by simpa using h2
      rw [decide_eq_false h2, Bool.false_and]
      go_enter Tryz.func115, Tryz.ntmps115
      go_wp2_with fail
      go_ret
      exact ⟨rfl, (Below.refl _ _).alloc (Nat.le_refl _) _⟩
  · have g1 : (ax == 3) = false := by simpa using h1
    rw [decide_eq_false h1, Bool.false_and]
    go_enter Tryz.func115, Tryz.ntmps115
    go_wp2_with fail
    go_ret
    exact ⟨rfl, (Below.refl _ _).alloc (Nat.le_refl _) _⟩
end Go.Proofs.YtcnagbkdckipnaaGreatDoor
/-
  WALKS over ask.writePath and writeStep (gen_akwr.py writes this text).
-/
namespace Go.Proofs.YtcnagbkdckipnaaGreatDoor
open Go.RowKit Go.Lib Go.Sort
namespace Ak
/-- what is asked of writeStep, writeExpr, writeParts, writePath -/
def WrSS (w0 : World) (B b : Nat) (x : Sv) : Prop := OkS w0 x → gS (cS x) → ∀ (W : World) (out : List UInt8), PrS w0 B b out W → out.length + (wS (cS x)).length ≤ 70368744177664 → Calls Tryz.prog 88 #[.pointer (some ⟨b, 0, none⟩), .agg x.enc.toArray] W (WrE w0 B b W (out ++ wS (cS x)))
def WrXX (w0 : World) (B b : Nat) (x : Xv) : Prop := OkX w0 x → gX (cX x) → ∀ (W : World) (out : List UInt8), PrS w0 B b out W → out.length + (wX (cX x)).length ≤ 70368744177664 → Calls Tryz.prog 117 #[.pointer (some ⟨b, 0, none⟩), .agg x.enc.toArray] W (WrE w0 B b W (out ++ wX (cX x)))
def WrPP (w0 : World) (B b : Nat) (l : List Sv) : Prop := ∀ (p : Option Addr) (c : Nat), RowS w0 p c l → gSs (cSs l) → ∀ (W : World) (out : List UInt8), PrS w0 B b out W → out.length + (wP true (cSs l)).length ≤ 70368744177664 → Calls Tryz.prog 54 #[.pointer (some ⟨b, 0, none⟩), .agg #[.slice p l.length c]] W (WrE w0 B b W (out ++ wP true (cSs l)))
theorem gSs_at : ∀ (l : List Sv) (i : Nat) (x : Sv), gSs (cSs l) → l[i]? = some x → gS (cS x)
  | [], _, _, _, h => by simp at h
  | a :: l, 0, x, h, e => by simp at e; subst e; unfold cSs gSs at h; exact h.1
  | a :: l, i + 1, x, h, e => by unfold cSs gSs at h; exact gSs_at l i x h.2 (by simpa using e)
theorem gXs_at : ∀ (l : List Xv) (i : Nat) (x : Xv), gXs (cXs l) → l[i]? = some x → gX (cX x)
  | [], _, _, _, h => by simp at h
  | a :: l, 0, x, h, e => by simp at e; subst e; unfold cXs gXs at h; exact h.1
  | a :: l, i + 1, x, h, e => by unfold cXs gXs at h; exact gXs_at l i x h.2 (by simpa using e)
theorem wP_at (fi : Bool) (l : List Sv) (i : Nat) (x : Sv) (h : l[i]? = some x) : wP fi (cSs (l.drop i)) = ((if fi = true then [] else [47]) ++ wS (cS x)) ++ wP false (cSs (l.drop (i + 1))) := by
  obtain ⟨hi, rfl⟩ := List.getElem?_eq_some_iff.1 h
  rw [List.drop_eq_getElem_cons hi, cSs, wP]
theorem wP_end (fi : Bool) (l : List Sv) (i : Nat) (h : l.length ≤ i) : wP fi (cSs (l.drop i)) = [] := by rw [List.drop_eq_nil_of_le h, cSs, wP]
theorem wL_at (l : List Xv) (i : Nat) (x : Xv) (h : l[i]? = some x) : wL (cXs (l.drop i)) = (([91] ++ wX (cX x)) ++ [93]) ++ wL (cXs (l.drop (i + 1))) := by
  obtain ⟨hi, rfl⟩ := List.getElem?_eq_some_iff.1 h
  rw [List.drop_eq_getElem_cons hi, cXs, wL]
theorem wL_end (l : List Xv) (i : Nat) (h : l.length ≤ i) : wL (cXs (l.drop i)) = [] := by rw [List.drop_eq_nil_of_le h, cXs, wL]
theorem wA_at (op : Int) (bt : List UInt8) (fi : Bool) (l : List Xv) (i : Nat) (x : Xv) (h : l[i]? = some x) : wA op bt fi (cXs (l.drop i)) = ((if fi = true then [] else bt) ++ (if nbB op (opX (cX x)) = true then ([40] ++ wX (cX x)) ++ [41] else wX (cX x))) ++ wA op bt false (cXs (l.drop (i + 1))) := by
  obtain ⟨hi, rfl⟩ := List.getElem?_eq_some_iff.1 h
  rw [List.drop_eq_getElem_cons hi, cXs, wA]
theorem wA_end (op : Int) (bt : List UInt8) (fi : Bool) (l : List Xv) (i : Nat) (h : l.length ≤ i) : wA op bt fi (cXs (l.drop i)) = [] := by rw [List.drop_eq_nil_of_le h, cXs, wA]
/-- a block of another kind stays -/
theorem Kp.keep {b : Nat} {w w' : World} (h : Kp b w w') {k : Nat} {cs : Array Value} {t : TypeId} {fr : Nat × Nat} (e : w.heap[k]? = some (.cells cs t fr)) (hk : k ≠ b) (ht : t ≠ 5) : w'.heap[k]? = some (.cells cs t fr) :=
  h k _ e (fun e => hk (Option.some.inj e)) (fun c fz e => ht (by injection e))
end Ak
set_option maxRecDepth 100000 in
set_option maxHeartbeats 8000000 in
theorem wrPath {w0 : World} {B b : Nat} (l : List Ak.Sv) (ih : ∀ a ∈ l, Ak.WrSS w0 B b a) : Ak.WrPP w0 B b l := by
  intro p c hR hG W out hP hL
  obtain ⟨h1, h2, h3⟩ := hR
  obtain ⟨n, hn⟩ : ∃ n, l.length = n := ⟨_, rfl⟩
  rw [hn] at h1 h3 ⊢
  obtain ⟨ans, hans⟩ : ∃ a, out ++ Ak.wP true (Ak.cSs l) = a := ⟨_, rfl⟩
  rw [hans]
  have hbox : Below W.heap.size W (W.alloc (.cells #[.slice p n c] 25)) := (Below.refl _ _).alloc (Nat.le_refl _) _
  have HA0 : Hid (out ++ Ak.wP true (Ak.cSs (l.drop 0)) = ans) := hide' (by rw [List.drop_zero]; exact hans)
  have HL0 : Hid (out.length + (Ak.wP true (Ak.cSs (l.drop 0))).length ≤ 70368744177664) := hide' (by rw [List.drop_zero]; exact hL)
  have HP0 := hide' (hP.below hbox)
  have HK0 : Hid (Ak.Kp b W (W.alloc (.cells #[.slice p n c] 25))) := hide' (Ak.Kp.of_below hbox)
  have HN := hide' hn
  have HNC : Hid (n ≤ 9223372036854775807) := hide' (by omega)
  have H3 := hide' h3
  have HG := hide' hG
  have IH := hide' ih
  clear h1 h2 h3 hG hP hL ih hn hans hbox
  go_enter Tryz.func54, Tryz.ntmps54
  go_wp2_with fail
  go_loopw [9] (fun v wr => ∃ (i : Nat) (o2 : List UInt8), v = .int .i64 i ∧ i ≤ n ∧ Hid (o2 ++ Ak.wP (decide (i = 0)) (Ak.cSs (l.drop i)) = ans) ∧ Hid (o2.length + (Ak.wP (decide (i = 0)) (Ak.cSs (l.drop i))).length ≤ 70368744177664) ∧ Hid (Ak.PrS w0 B b o2 wr) ∧ Hid (Ak.Kp b W wr)) (fun v _ => n - (RowKit.intOf v).toNat)
  case atStart => exact ⟨0, out, rfl, Nat.zero_le _, HA0, HL0, HP0, HK0⟩
  case round =>
    obtain ⟨i, o2, rfl, hi, HA, HL, HP, HK⟩ := hrel
    clear HA0 HL0 HP0 HK0
    by_cases hlt : i < n
    · have t1 : (i : Int) < (n : Int) := by omega
      have t0 : (0 : Int) ≤ i := by omega
      obtain ⟨g, o, rfl, hel⟩ := H3.out (by omega)
      obtain ⟨x, hx⟩ : ∃ x, l[i]? = some x := ⟨_, List.getElem?_eq_getElem (by rw [HN.out]; exact hlt)⟩
      obtain ⟨hrg, hok⟩ := hel i x hx
      have hcl := IH.out x (List.mem_of_getElem? hx) hok (Ak.gSs_at l i x HG.out hx)
      have hst := Ak.wP_at (decide (i = 0)) l i x hx
      have ha := HA.out
      have hl := HL.out
      rw [hst] at ha hl
      obtain ⟨ws, hws⟩ : ∃ u, Ak.wS (Ak.cS x) = u := ⟨_, rfl⟩
      rw [hws] at ha hl hcl
      obtain ⟨rr, hrr⟩ : ∃ u, Ak.wP false (Ak.cSs (l.drop (i + 1))) = u := ⟨_, rfl⟩
      rw [hrr] at ha hl
      have HRR := hide' hrr
      obtain ⟨ax, te, nm, pw, cw, lw⟩ := x
      obtain ⟨lx, hlx⟩ : ∃ lx, lw.length = lx := ⟨_, rfl⟩
      have hrg2 : w0.rangeAt g (o + i * 4) [.int .i64 ax, .int .i64 te, .string nm, .slice pw lx cw] := by rw [← hlx]; exact hrg
      have HC : Hid (∀ (w : World) (o3 : List UInt8), Ak.PrS w0 B b o3 w → o3.length + ws.length ≤ 70368744177664 → Calls Tryz.prog 88 #[.pointer (some ⟨b, 0, none⟩), .agg #[.int .i64 ax, .int .i64 te, .string nm, .slice pw lx cw]] w (Ak.WrE w0 B b w (o3 ++ ws))) := hide' (fun w o3 h1 h2 => by rw [← hlx]; exact hcl w o3 h1 h2)
      have hEl : Below wr.heap.size wr (wr.alloc (.cells #[.int .i64 ax, .int .i64 te, .string nm, .slice pw lx cw] 61)) := (Below.refl _ _).alloc (Nat.le_refl _) _
      have HP3 := hide' (HP.out.below hEl)
      have HK3 := hide' (HK.out.trans (Ak.Kp.of_below (b := b) hEl))
      have HE3 := hide' (Ak.heap_new wr (.cells #[.int .i64 ax, .int .i64 te, .string nm, .slice pw lx cw] 61))
      have hbl := (Ak.IsB.lt HP.out.ib).2
      have q0 := HP.out.cell (hrg2 0 _ rfl)
      have q1 := HP.out.cell (hrg2 1 _ rfl)
      have q2 := HP.out.cell (hrg2 2 _ rfl)
      have q3 := HP.out.cell (hrg2 3 _ rfl)
      rw [Nat.add_zero] at q0
      have tw : IntKind.i64.wrap ((i : Int) + 1) = (i : Int) + 1 := by have := HNC.out; rw [IntKind.wrap_i64]; omega
      by_cases h0 : i = 0
      · have t2 : ¬ (0 : Int) < (i : Int) := by omega
        rw [show (decide (i = 0)) = true from decide_eq_true h0, if_pos rfl] at ha hl
        rw [List.nil_append] at ha hl
        have HAx := hide' ha
        have HLx := hide' hl
        clear hel hrg hrg2 hok hcl hst hx hlx hws hrr HA HL HP HK H3 IH HG ha hl hEl h0
        go_wp2_with fail
        refine (HC.out _ o2 HP3.out (by have := HLx.out; simp at this; omega)).mono ?_
        rintro e w5 ⟨rfl, hp5, hk5⟩
        have HP5 := hide' hp5
        have HK5 := hide' (HK3.out.trans hk5)
        have HA5 : Hid ((o2 ++ ws) ++ Ak.wP (decide (i + 1 = 0)) (Ak.cSs (l.drop (i + 1))) = ans) := hide' (by rw [show (decide (i + 1 = 0)) = false from by simp, HRR.out]; have := HAx.out; rw [← List.append_assoc] at this; exact this)
        have HL5 : Hid ((o2 ++ ws).length + (Ak.wP (decide (i + 1 = 0)) (Ak.cSs (l.drop (i + 1)))).length ≤ 70368744177664) := hide' (by rw [show (decide (i + 1 = 0)) = false from by simp, HRR.out]; have := HLx.out; simp at this ⊢; omega)
        have HLT := hide' hlt
        clear hp5 hk5 hlt
        go_wp2_with fail
        exact ⟨⟨i + 1, _, rfl, HLT.out, HA5, HL5, HP5, HK5⟩, by have := HLT.out; simp [RowKit.intOf]; omega⟩
      · have t2 : (0 : Int) < (i : Int) := by omega
        rw [show (decide (i = 0)) = false from decide_eq_false h0, if_neg (by decide)] at ha hl
        have HAx := hide' ha
        have HLx := hide' hl
        have HI0 := hide' h0
        have CB := hide' (wrByte (w0 := w0) (B := B) (b := b) HP3.out (by have := HLx.out; simp at this; omega) 47)
        have s3 : (wr.alloc (.cells #[.int .i64 ax, .int .i64 te, .string nm, .slice pw lx cw] 61)).heap.size = wr.heap.size + 1 := World.size_alloc wr _
        clear hel hrg hrg2 hok hcl hst hx hlx hws hrr HA HL HP HK H3 IH HG ha hl hEl h0
        go_wp2_with fail
        refine CB.out.mono ?_
        rintro e w4 ⟨rfl, hp4, hk4⟩
        have HP4 := hide' hp4
        have HK4 := hide' (HK3.out.trans hk4)
        have he4 := hk4.keep HE3.out (by omega) (by decide)
        have e0 : w4.cell? ⟨wr.heap.size, 0, none⟩ = some (.int .i64 ax) := by rw [Lib.cell_of_heap he4]; rfl
        have e1 : w4.cell? ⟨wr.heap.size, 1, none⟩ = some (.int .i64 te) := by rw [Lib.cell_of_heap he4]; rfl
        have e2 : w4.cell? ⟨wr.heap.size, 2, none⟩ = some (.string nm) := by rw [Lib.cell_of_heap he4]; rfl
        have e3 : w4.cell? ⟨wr.heap.size, 3, none⟩ = some (.slice pw lx cw) := by rw [Lib.cell_of_heap he4]; rfl
        clear hp4 hk4 he4 CB
        go_wp2_with fail
        refine (HC.out _ _ HP4.out (by have := HLx.out; simp at this ⊢; omega)).mono ?_
        rintro e w5 ⟨rfl, hp5, hk5⟩
        have HP5 := hide' hp5
        have HK5 := hide' (HK4.out.trans hk5)
        have HA5 : Hid (((o2 ++ [47]) ++ ws) ++ Ak.wP (decide (i + 1 = 0)) (Ak.cSs (l.drop (i + 1))) = ans) := hide' (by rw [show (decide (i + 1 = 0)) = false from by simp, HRR.out]; have := HAx.out; simpa [List.append_assoc] using this)
        have HL5 : Hid (((o2 ++ [47]) ++ ws).length + (Ak.wP (decide (i + 1 = 0)) (Ak.cSs (l.drop (i + 1)))).length ≤ 70368744177664) := hide' (by rw [show (decide (i + 1 = 0)) = false from by simp, HRR.out]; have := HLx.out; simp at this ⊢; omega)
        have HLT := hide' hlt
        clear hp5 hk5 hlt
        go_wp2_with fail
        exact ⟨⟨i + 1, _, rfl, HLT.out, HA5, HL5, HP5, HK5⟩, by have := HLT.out; simp [RowKit.intOf]; omega⟩
    · have t1 : ¬ (i : Int) < (n : Int) := by omega
      have ha := HA.out
      rw [Ak.wP_end _ l i (by have := HN.out; omega), List.append_nil] at ha
      subst ha
      go_wp2_with fail
      first | go_end0 | refine bodyPost_ret (results_none rfl _ _ _) rfl ?_
      exact ⟨rfl, HP.out, HK.out⟩
end Go.Proofs.YtcnagbkdckipnaaGreatDoor
