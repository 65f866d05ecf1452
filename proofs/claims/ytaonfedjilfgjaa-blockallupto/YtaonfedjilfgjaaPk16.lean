import Derived.Test.YtaonfedjilfgjaaPk15
import Derived.Maps.Views
import Derived.Maps.OwnOps
import Derived.Test.YtaonfedjilfgjaaPk3
import Derived.Test.YtaonfedjilfgjaaPk6
import Derived.Test.YtaonfedjilfgjaaPk12

/-
  A device and the reference's state, plain: what each call keeps; what a crash leaves of each half.
-/
namespace Go.Proofs.Ytaonfedjilfgjaa
open Go.RowKit

/-- A device, and the state that is its own. -/
structure Rel (d : DvP) (s : StP) : Prop where
  lost : LostI d s.l
  row : s.row = d.row.map fun x => ((x.pl : Int), x.is)
  ops : d.ops = s.ops
  down : d.down = s.down
  fuse : d.down = false → s.fuse = if d.armed = true then d.left else -1
theorem kept_at (k : Nat) : ∀ (row : List WrP) (j : Nat) (bl : List Bs), k < bl.length → (formsP [1] j row bl).getD k [] = foldR k (bl.getD k []) (row.map fun x => ((x.pl : Int), x.is))
  | [], _, _, _ => rfl
  | x :: row, j, bl, hk => by
    rw [formsP, form_kept, kept_at k row (j + 1) _ (by rw [takeB_length]; exact hk), List.map_cons]
    unfold foldR
    rw [List.foldl_cons]
    congr 1
    unfold takeB
    show (bl.set x.pl x.is).getD k [] = _
    by_cases e : x.pl = k
    · subst e
      simp [List.getD, hk]
    · rw [if_neg (fun h => e (by exact Int.ofNat.inj h))]
      simp [List.getD, List.getElem?_set_ne e]
theorem Rel.len {d : DvP} {s : StP} (h : Rel d s) : s.l.length = d.bl.length := by rw [← h.lost.back, backP_length]
theorem Rel.same {d : DvP} {s : StP} (h : Rel d s) : Same d s d.bl.length d.row.length := by
  refine ⟨rfl, rfl, h.ops, h.down, fun k hk => ?_⟩
  have h1 := kept_at k d.row 0 s.l (by rw [h.len]; exact hk)
  rw [h.lost.again] at h1
  rw [h1]
  unfold atR
  rw [h.row]
theorem Rel.new (m : Nat) : Rel (newP m) (newR m) := ⟨LostI.first m, rfl, rfl, rfl, fun _ => rfl⟩
theorem Rel.op {d : DvP} {s : StP} (h : Rel d s) (hd : d.down = false) (ha : d.armed = true → 0 ≤ d.left) : Rel (opP d) (countR s) ∧ opE d = if (countR s).down = true then 100 else 0 := by
  have hf := h.fuse hd
  have hsd : s.down = false := by rw [← h.down]; exact hd
  have hl : LostI (opP d) (countR s).l := h.lost.same (opP_bl d).1 (opP_bl d).2
  have hr : (countR s).row = (opP d).row.map fun x => ((x.pl : Int), x.is) := by rw [(opP_bl d).2]; exact h.row
  have ho : (opP d).ops = (countR s).ops := by rw [opP_ops, h.ops]; rfl
  by_cases h1 : d.armed = true
  · rw [if_pos h1] at hf
    have h0 := ha h1
    by_cases h2 : d.left = 0
    · have e1 : (opP d).down = true := by unfold opP; rw [if_pos h1, if_pos h2]
      have e2 : (countR s).down = true := by simp [countR, hsd, hf, h2]
      refine ⟨⟨hl, hr, ho, e1.trans e2.symm, fun e => by rw [e1] at e; cases e⟩, ?_⟩
      unfold opE
      rw [if_pos ⟨h1, h2⟩, if_pos e2]
    · have e1 : (opP d).down = false := by unfold opP; rw [if_pos h1, if_neg h2]; exact hd
      have e2 : (countR s).down = false := by simp [countR, hsd, hf, h2]
      refine ⟨⟨hl, hr, ho, e1.trans e2.symm, fun _ => ?_⟩, ?_⟩
      · unfold opP
        rw [if_pos h1, if_neg h2]
        show _ = if d.armed = true then d.left - 1 else -1
        rw [if_pos h1]
        simp [countR, hf, h0]
      · unfold opE
        rw [if_neg (fun e => h2 e.2), if_neg (by rw [e2]; decide)]
  · rw [if_neg h1] at hf
    have e1 : (opP d).down = false := by unfold opP; rw [if_neg h1]; exact hd
    have e2 : (countR s).down = false := by simp [countR, hsd, hf]
    refine ⟨⟨hl, hr, ho, e1.trans e2.symm, fun _ => ?_⟩, ?_⟩
    · unfold opP
      rw [if_neg h1]
      show _ = if d.armed = true then d.left else -1
      rw [if_neg h1]
      simp [countR, hf]
    · unfold opE
      rw [if_neg (fun e => h1 e.1), if_neg (by rw [e2]; decide)]
theorem Rel.write {d : DvP} {s : StP} (h : Rel d s) (hok : DvOk d) (x : OpC) (hk : x.kind = 0) : Rel (writeP d x.k x.bs).1 (doR s x).1 ∧ (writeP d x.k x.bs).2 = (doR s x).2 := by
  unfold writeP doR
  rw [if_pos hk]
  by_cases hd : d.down = true
  · rw [if_pos hd, if_pos (by rw [← h.down]; exact hd)]
    exact ⟨h, rfl⟩
  · have hd0 : d.down = false := by simpa using hd
    have hsd : ¬ s.down = true := by rw [← h.down]; exact hd
    rw [if_neg hd, if_neg hsd, h.len]
    by_cases hc : x.k < 0 ∨ (d.bl.length : Int) ≤ x.k ∨ 64 < x.bs.length
    · rw [if_pos hc, if_pos hc]
      exact ⟨h, rfl⟩
    · rw [if_neg hc, if_neg hc]
      have hp : Rel (putP d x.k.toNat x.bs) { s with row := s.row ++ [(x.k, fillB x.bs)] } := by
        refine ⟨h.lost.put (by omega) x.bs, ?_, h.ops, h.down, h.fuse⟩
        show s.row ++ [(x.k, fillB x.bs)] = (d.row ++ [(⟨x.k.toNat, d.bl.getD x.k.toNat [], fillB x.bs⟩ : WrP)]).map fun x => ((x.pl : Int), x.is)
        rw [List.map_append, ← h.row, List.map_singleton]
        congr 2
        show (x.k, _) = (((x.k.toNat : Nat) : Int), _)
        rw [show ((x.k.toNat : Nat) : Int) = x.k by omega]
      obtain ⟨h1, h2⟩ := hp.op hd0 hok.arm
      exact ⟨h1, h2⟩
theorem Rel.flush {d : DvP} {s : StP} (h : Rel d s) (hok : DvOk d) (x : OpC) (hk : x.kind = 1) : Rel (flushP d).1 (doR s x).1 ∧ (flushP d).2 = (doR s x).2 := by
  have hk0 : ¬ x.kind = 0 := by rw [hk]; decide
  unfold flushP doR
  rw [if_neg hk0, if_pos hk]
  by_cases hd : d.down = true
  · rw [if_pos hd, if_pos (by rw [← h.down]; exact hd)]
    exact ⟨h, rfl⟩
  · have hd0 : d.down = false := by simpa using hd
    have hsd : ¬ s.down = true := by rw [← h.down]; exact hd
    rw [if_neg hd, if_neg hsd]
    obtain ⟨h1, h2⟩ := h.op hd0 hok.arm
    by_cases hc : d.armed = true ∧ d.left = 0
    · have e : opE d = 100 := by unfold opE; rw [if_pos hc]
      have hdn : (countR s).down = true := by
        cases hq : (countR s).down with
        | true => rfl
        | false => rw [hq, e, if_neg (by decide)] at h2; cases h2
      rw [if_pos hc]
      dsimp only
      rw [if_pos hdn]
      exact ⟨h1, rfl⟩
    · have e : opE d = 0 := by unfold opE; rw [if_neg hc]
      have hdn : (countR s).down = false := by
        cases hq : (countR s).down with
        | false => rfl
        | true => rw [hq, e, if_pos rfl] at h2; cases h2
      rw [if_neg hc]
      dsimp only
      rw [if_neg (by rw [hdn]; decide)]
      refine ⟨⟨⟨?_, ?_⟩, rfl, h1.ops, h1.down, h1.fuse⟩, rfl⟩
      · show (opP d).bl = (List.range s.l.length).map (atR s)
        rw [(opP_bl d).1]
        apply List.ext_getElem?
        intro k
        rw [h.len]
        by_cases hkl : k < d.bl.length
        · have := h.same.bl k hkl
          rw [List.getElem?_map, List.getElem?_range hkl, List.getElem?_eq_getElem hkl]
          rw [List.getD_eq_getElem?_getD, List.getElem?_eq_getElem hkl] at this
          simp only [Option.getD_some] at this
          rw [this]
          rfl
        · rw [List.getElem?_eq_none (by omega), List.getElem?_eq_none (by rw [List.length_map, List.length_range]; omega)]
      · show (List.range s.l.length).map (atR s) = (opP d).bl
        rw [(opP_bl d).1]
        apply List.ext_getElem?
        intro k
        rw [h.len]
        by_cases hkl : k < d.bl.length
        · have := h.same.bl k hkl
          rw [List.getElem?_map, List.getElem?_range hkl, List.getElem?_eq_getElem hkl]
          rw [List.getD_eq_getElem?_getD, List.getElem?_eq_getElem hkl] at this
          simp only [Option.getD_some] at this
          rw [this]
          rfl
        · rw [List.getElem?_eq_none (by rw [List.length_map, List.length_range]; omega), List.getElem?_eq_none (by omega)]
theorem Rel.arm {d : DvP} {s : StP} (h : Rel d s) (x : OpC) (hk : x.kind = 2) : Rel (armP d x.k) (doR s x).1 := by
  have hk0 : ¬ x.kind = 0 := by rw [hk]; decide
  have hk1 : ¬ x.kind = 1 := by rw [hk]; decide
  unfold doR
  rw [if_neg hk0, if_neg hk1, if_pos hk]
  refine ⟨h.lost.same rfl rfl, h.row, h.ops, h.down, fun _ => ?_⟩
  show max x.k (-1) = if decide (0 ≤ x.k) = true then x.k else -1
  by_cases h0 : 0 ≤ x.k
  · rw [if_pos (by simpa using h0)]
    omega
  · rw [if_neg (by simpa using h0)]
    omega

/-- A half of a block. -/
def halfB (b : Bs) (at_ : Nat) : Bs := (b.drop at_).take 32
theorem mix_half {f : Nat} {now is : Bs} (h1 : now.length = 64) (h2 : is.length = 64) {at_ : Nat} (ha : at_ = 0 ∨ at_ = 32) : halfB (mixB f now is) at_ = halfB now at_ ∨ halfB (mixB f now is) at_ = halfB is at_ := by
  have ht1 : (now.take 32).length = 32 := by rw [List.length_take]; omega
  have ht2 : (is.take 32).length = 32 := by rw [List.length_take]; omega
  unfold mixB halfB
  split
  · exact .inr rfl
  · split
    · rcases ha with rfl | rfl
      · right
        rw [List.drop_zero, List.drop_zero, List.take_append_of_le_length (by omega), List.take_take]
        rfl
      · left
        have e := List.drop_left (l₁ := is.take 32) (l₂ := now.drop 32)
        rw [ht2] at e
        rw [e]
    · split
      · rcases ha with rfl | rfl
        · left
          rw [List.drop_zero, List.drop_zero, List.take_append_of_le_length (by omega), List.take_take]
          rfl
        · right
          have e := List.drop_left (l₁ := now.take 32) (l₂ := is.drop 32)
          rw [ht1] at e
          rw [e]
      · exact .inl rfl
theorem forms_half (fs : List Int) {k at_ : Nat} (ha : at_ = 0 ∨ at_ = 32) : ∀ (row : List WrP) (j : Nat) (bl : List Bs), k < bl.length → (∀ b ∈ bl, b.length = 64) → (∀ x ∈ row, x.pl < bl.length ∧ x.is.length = 64) →
    halfB ((formsP fs j row bl).getD k []) at_ = halfB (bl.getD k []) at_ ∨ ∃ x ∈ row, x.pl = k ∧ halfB ((formsP fs j row bl).getD k []) at_ = halfB x.is at_
  | [], _, _, _, _, _ => .inl rfl
  | x :: row, j, bl, hk, hs, hr => by
    have hx := hr x (List.mem_cons_self ..)
    rw [formsP]
    rcases forms_half fs ha row (j + 1) (takeB bl x (formB fs j)) (by rw [takeB_length]; exact hk) (takeB_size hs hx _) (fun y hy => by rw [takeB_length]; exact hr y (List.mem_cons_of_mem _ hy)) with h | ⟨y, hy, e, h⟩
    · rw [h]
      by_cases e : x.pl = k
      · subst e
        have e1 : (takeB bl x (formB fs j)).getD x.pl [] = mixB (formB fs j) (bl.getD x.pl []) x.is := by
          unfold takeB
          simp [List.getD, hk]
        have h64 : (bl.getD x.pl []).length = 64 := by
          simp only [List.getD, List.getElem?_eq_getElem hk, Option.getD_some]
          exact hs _ (List.getElem_mem hk)
        rw [e1]
        rcases mix_half (f := formB fs j) h64 hx.2 ha with h1 | h1
        · exact .inl h1
        · exact .inr ⟨x, List.mem_cons_self .., rfl, h1⟩
      · left
        unfold takeB
        simp [List.getD, List.getElem?_set_ne e]
    · exact .inr ⟨y, List.mem_cons_of_mem _ hy, e, h⟩

end Go.Proofs.Ytaonfedjilfgjaa

/-
  What follows of a device, plain: blocks that were not written since the flush; a map that tells which were.
-/
namespace Go.Proofs.Ytaonfedjilfgjaa
open Go.RowKit Go.Maps

section
variable {d : DvP} {f : List Bs} {row : List WrP}
theorem down_m1 (h : DownI (-1) d) : d.down = false ∧ d.armed = false := by
  refine ⟨?_, ?_⟩
  · rw [h.down, decide_eq_false_iff_not]
    omega
  · rw [h.armed]
    decide
theorem fl_write (h : DownI (-1) d) (k : Int) (b : Bs) : (writeP d k b).2 ≠ 0 ∧ (writeP d k b).1 = d ∨ (writeP d k b).2 = 0 ∧ 0 ≤ k ∧ ∃ a c, (writeP d k b).1.row = d.row ++ [⟨k.toNat, a, c⟩] := by
  obtain ⟨h1, h2⟩ := down_m1 h
  unfold writeP
  rw [if_neg (by rw [h1]; decide)]
  split
  · exact .inl ⟨by show (101 : Int) ≠ 0; decide, rfl⟩
  · rename_i hk
    refine .inr ⟨?_, by omega, d.bl.getD k.toNat [], fillB b, ?_⟩
    · show opE d = 0
      unfold opE
      rw [if_neg (fun e => by rw [h2] at e; cases e.1)]
    · show (opP (putP d k.toNat b)).row = _
      rw [(opP_bl _).2]
      rfl
theorem fl_flush (h : DownI (-1) d) : (flushP d).2 = 0 ∧ (flushP d).1.row = [] := by
  obtain ⟨h1, h2⟩ := down_m1 h
  unfold flushP
  rw [if_neg (by rw [h1]; decide), if_neg (fun e => by rw [h2] at e; cases e.1)]
  exact ⟨rfl, rfl⟩
theorem formsP_other (fs : List Int) (k : Nat) : ∀ (row : List WrP) (j : Nat) (bl : List Bs), (∀ x ∈ row, x.pl ≠ k) → (formsP fs j row bl)[k]? = bl[k]?
  | [], _, _, _ => rfl
  | x :: row, j, bl, h => by
    rw [formsP, formsP_other fs k row (j + 1) _ fun y hy => h y (List.mem_cons_of_mem _ hy)]
    unfold takeB
    exact List.getElem?_set_ne (h x (List.mem_cons_self ..))
/-- The map tells of every block that was written since. -/
def SinceI (D : DataW Unit) (row : List WrP) : Prop := ∀ x ∈ row, D.atKey (.int .i64 (x.pl : Int)) (.lit (.int .i64 0)) = .lit (.int .i64 1)
theorem SinceI.put {D : DataW Unit} {k : Int} {a c : Bs} (h : SinceI D row) (hD : IsMap D) (hk : 0 ≤ k) : SinceI (D.put (.int .i64 k) (.lit (.int .i64 1))) (row ++ [⟨k.toNat, a, c⟩]) := fun x hx => by
  by_cases e : (x.pl : Int) = k
  · rw [e]
    exact atKey_put_same hD (by unfold WideAt.IsKeyLit; trivial) _ _
  · rw [atKey_put_other (fun e' => e (by injection e'))]
    rcases List.mem_append.1 hx with hx | hx
    · exact h x hx
    · simp only [List.mem_singleton] at hx
      subst hx
      exact absurd (by show ((k.toNat : Nat) : Int) = k; omega) e
theorem since_not {D : DataW Unit} {k : Nat} {c : Int} (h : SinceI D row) (hat : D.atKey (.int .i64 (k : Int)) (.lit (.int .i64 0)) = .lit (.int .i64 c)) (hc : c = 0) : ∀ x ∈ row, x.pl ≠ k := fun x hx e => by
  have h1 := h x hx
  rw [e, hat, hc] at h1
  injection h1 with h1
  injection h1 with _ h1
  cases h1
theorem flat_get (h : ∀ b ∈ f, b.length = 64) {k : Nat} (hk : k < f.length) : (f.flatten.drop (k * 64)).take 64 = f.getD k [] := by
  have e1 : f.flatten = (f.take k).flatten ++ (f.getD k [] ++ (f.drop (k + 1)).flatten) := by
    rw [← List.append_assoc, ← take_flat hk, ← List.flatten_append, List.take_append_drop]
  have hL : (f.take k).flatten.length = k * 64 := by
    rw [flat64 (fun b hb => h b (List.mem_of_mem_take hb)), List.length_take, Nat.min_eq_left (Nat.le_of_lt hk)]
  have h64 : (f.getD k []).length = 64 := by
    simp only [List.getD, List.getElem?_eq_getElem hk, Option.getD_some]
    exact h _ (List.getElem_mem hk)
  rw [e1, ← hL, List.drop_left, ← h64, List.take_left]
/-- What a crash leaves of a block that no write of the row was of. -/
theorem crash_other (h : LostI d f) (hok : DvOk d) (fs : List Int) {k : Nat} (hk : k < d.bl.length) (hn : ∀ x ∈ d.row, x.pl ≠ k) : (crashP d fs).bl.getD k [] = (f.flatten.drop (k * 64)).take 64 := by
  have hf : f = backP d.bl d.row := h.back.symm
  have hl : k < f.length := by rw [hf, backP_length]; exact hk
  rw [flat_get (fun b hb => backP_size hok.size (fun x hx => (hok.row x hx).2.1) b (by rw [← hf]; exact hb)) hl]
  show (formsP fs 0 d.row (backP d.bl d.row)).getD k [] = _
  rw [h.back]
  unfold List.getD
  rw [formsP_other fs k d.row 0 f hn]
end
theorem BsAt.sub64 {w : World} {b n k : Nat} {bs : Bs} (h : BsAt w (some ⟨b, 0, .none⟩) n bs) (hk : k * 64 + 64 ≤ n) : BsAt w (some ⟨b, k * 64, .none⟩) 64 ((bs.drop (k * 64)).take 64) := by
  refine ⟨by rw [List.length_take, List.length_drop, h.1]; omega, fun _ => ⟨b, k * 64, rfl, fun j x hx => ?_⟩⟩
  obtain ⟨b', o', e, hcl⟩ := h.2 (by omega)
  cases e
  rw [List.getElem?_take] at hx
  split at hx
  · rw [List.getElem?_drop] at hx
    have := hcl _ x hx
    rwa [Nat.zero_add] at this
  · cases hx
section
variable {H : Type} {P : Program} {K : TypeId} {R : Value → Option (DataW H × List MemPlace)} {w w' : World} {b n : Nat} {D : DataW H} {S : Nat → Prop}
theorem map_chg (h : w.ownsMap P K R b n D) (hc : Chg S w w') (hn : ¬ S b) : w'.ownsMap P K R b n D := by
  have hlt := h.lt
  obtain ⟨es, clock, hb, F, hs, hD⟩ := h
  exact ⟨es, clock, (hc.block b hlt hn).trans hb, F, hs, hD⟩
theorem map_later (h : w.ownsMap P K R b n D) (hl : Later w w') : w'.ownsMap P K R b n D := map_chg (S := fun _ => False) h (Chg.later hl) (fun e => e)
theorem chg_map (h : w.grownBy w' (some b)) : Chg (fun q => q = b) w w' := ⟨h.os, h.tape, h.output, h.size, fun i hi hn => h.block i hi fun e => hn (Option.some.inj e)⟩
end

end Go.Proofs.Ytaonfedjilfgjaa

/-
  What the law BlockFlushed comes to, as a call.
-/
namespace Go.Proofs.Ytaonfedjilfgjaa
open Go.RowKit Go.Maps

theorem law3 : Keyed Try.prog 3 := int_keyed Try.underlying3
theorem zero3 (w : World) : (zeroValue 3).run Try.prog w = .ok (.int .i64 0) w := by kernel_rfl
/-- What the law's loop keeps. -/
structure FlLp (W w : World) (S : Nat → Prop) (g k : Nat) (d : DvP) (f : List Bs) (lb ln mb : Nat) (D : DataW Unit) : Prop where
  dev : DevAt W w S g d
  inv : LostI d f
  arm : DownI (-1) d
  last : BsAt w (some ⟨lb, 0, none⟩) ln f.flatten
  lt : lb < w.heap.size
  out : ¬ S lb
  ops : d.ops ≤ k
  row : d.row.length ≤ k
  map : w.ownsMap Try.prog 3 (plainElem Try.prog 3) mb k D
  mout : ¬ S mb
  apart : lb ≠ mb
  since : SinceI D d.row
  mbase : W.heap.size ≤ mb
theorem downI_new (n : Nat) : DownI (-1) (newP n) := by
  refine ⟨?_, rfl, fun h => absurd h (by decide)⟩
  show false = decide (0 ≤ (-1 : Int) ∧ (-1 : Int) < ((0 : Nat) : Int))
  decide
theorem IntsAt.lt {w : World} {A : Option Addr} {n : Nat} {xs : List Int} (h : IntsAt w A n xs) (h0 : 0 < n) (a : Addr) (ha : A = some a) : a.block < w.heap.size := by
  obtain ⟨b, o, e, hc⟩ := h.2 h0
  have := h.1
  rw [ha] at e
  cases e
  exact lt_of_cell (hc 0 _ (List.getElem?_eq_getElem (show 0 < xs.length by omega)))

end Go.Proofs.Ytaonfedjilfgjaa

/-
  does at all kinds but a crash and a copy, as a call; the reference's Do so.
-/
namespace Go.Proofs.Ytaonfedjilfgjaa
open Go.RowKit

/-- What a call makes of a device, and tells. -/
def doQ (d : DvP) (x : OpC) : DvP × Int := if x.kind = 0 then writeP d x.k x.bs else if x.kind = 1 then flushP d else if x.kind = 2 then (armP d x.k, 0) else (d, 0)
theorem doQ_rel {d : DvP} {s : StP} (h : Rel d s) (hok : DvOk d) (x : OpC) : Rel (doQ d x).1 (doR s x).1 ∧ (doQ d x).2 = (doR s x).2 := by
  unfold doQ
  by_cases h0 : x.kind = 0
  · rw [if_pos h0]
    exact h.write hok x h0
  · rw [if_neg h0]
    by_cases h1 : x.kind = 1
    · rw [if_pos h1]
      exact h.flush hok x h1
    · rw [if_neg h1]
      by_cases h2 : x.kind = 2
      · rw [if_pos h2]
        refine ⟨h.arm x h2, ?_⟩
        unfold doR
        rw [if_neg h0, if_neg h1, if_pos h2]
      · rw [if_neg h2]
        unfold doR
        rw [if_neg h0, if_neg h1, if_neg h2]
        exact ⟨h, rfl⟩
theorem doQ_small (d : DvP) (x : OpC) : (doQ d x).1.ops ≤ d.ops + 1 ∧ (doQ d x).1.row.length ≤ d.row.length + 1 ∧ (doQ d x).1.bl.length = d.bl.length := by
  unfold doQ
  split
  · unfold writeP
    split
    · exact ⟨by simp, by simp, rfl⟩
    · split
      · exact ⟨by simp, by simp, rfl⟩
      · refine ⟨?_, ?_, ?_⟩
        · show (opP (putP d _ _)).ops ≤ _
          rw [opP_ops]
          exact Nat.le_refl _
        · show (opP (putP d _ _)).row.length ≤ _
          rw [(opP_bl _).2]
          simp [putP]
        · show (opP (putP d _ _)).bl.length = _
          rw [(opP_bl _).1]
          simp [putP]
  · split
    · unfold flushP
      split
      · exact ⟨by simp, by simp, rfl⟩
      · split
        · exact ⟨by show (opP d).ops ≤ _; rw [opP_ops]; exact Nat.le_refl _, by show (opP d).row.length ≤ _; rw [(opP_bl d).2]; omega, by show (opP d).bl.length = _; rw [(opP_bl d).1]⟩
        · exact ⟨by show (opP d).ops ≤ _; rw [opP_ops]; exact Nat.le_refl _, by show (0 : Nat) ≤ _; omega, by show (opP d).bl.length = _; rw [(opP_bl d).1]⟩
    · split
      · exact ⟨by show d.ops ≤ _; omega, by show d.row.length ≤ _; omega, rfl⟩
      · exact ⟨by simp, by simp, rfl⟩
section
variable {W w : World} {S : Nat → Prop} {g : Nat} {d : DvP}
set_option maxRecDepth 100000 in
set_option maxHeartbeats 800000 in
theorem does10_all (h : DevAt W w S g d) (ho : d.ops ≤ 1000000000) (hro : d.row.length ≤ 900000) (x : OpC) (hx : OpOk w x) (hk3 : x.kind ≠ 3) (hk4 : x.kind ≠ 4) :
    Calls Try.prog 17 #[.pointer (some ⟨g, 0, none⟩), opV x] w fun e w' => ∃ S', e = .returned (.tuple #[.pointer (some ⟨g, 0, none⟩), .int .i64 (doQ d x).2]) ∧ DevAt W w' S' g (doQ d x).1 ∧ Up S S' w ∧ Chg S w w' := by
  by_cases hk0 : x.kind = 0
  · have := does10_any h ho hro x hx (.inl hk0)
    have e : doQ d x = doP d x := by unfold doQ doP; rw [if_pos hk0, if_pos hk0]
    rw [e]
    exact this
  · by_cases hk1 : x.kind = 1
    · have := does10_any h ho hro x hx (.inr hk1)
      have e : doQ d x = doP d x := by unfold doQ doP; rw [if_neg hk0, if_neg hk0, if_pos hk1]
      rw [e]
      exact this
    · obtain ⟨kd, k, A, n, c, bs, F, m, e, fs⟩ := x
      dsimp only at hk0 hk1 hk3 hk4
      have hkl := hx.klo; have hkh := hx.khi
      dsimp only at hkl hkh
      unfold opV opL
      dsimp only
      have hl : Later w (w.alloc (.cells #[.int .i64 kd, .int .i64 k, .slice A n c, .slice F m e] 36)) := (Later.refl w).alloc _
      by_cases hk2 : kd = 2
      · subst hk2
        have e1 : doQ d ⟨2, k, A, n, c, bs, F, m, e, fs⟩ = (armP d k, 0) := rfl
        rw [e1]
        have HC := Lib.hid (armDev_any (h.later hl) k hkl hkh)
        have HL := Lib.hid hl
        have HM : Hid (S g) := h.mem
        clear h hx hl e1
        go_enter Try.func17, Try.ntmps17
        go_wp2_with fail
        refine HC.out.mono ?_
        rintro e1 w1 ⟨rfl, hd, hc⟩
        have HD := Lib.hid hd
        clear hd
        go_wp2
        go_ret2
        exact ⟨S, rfl, HD.out, fun q hq => .inl hq, (Chg.later HL.out).trans hc fun q hq => .inl (by rw [hq]; exact HM.out)⟩
      · have e1 : doQ d ⟨kd, k, A, n, c, bs, F, m, e, fs⟩ = (d, 0) := by unfold doQ; rw [if_neg hk0, if_neg hk1, if_neg hk2]
        rw [e1]
        have HD := Lib.hid (h.later hl)
        have HL := Lib.hid hl
        clear h hx hl e1
        go_enter Try.func17, Try.ntmps17
        go_wp2
        go_ret2
        exact ⟨S, rfl, HD.out, fun q hq => .inl hq, Chg.later HL.out⟩
end
/-- The reference's Do at all kinds but a crash. -/
theorem do_all {w : World} {A B : Option Addr} {n m : Nat} {s : StP} (h : StAt w A n B m s) (c e : Nat) (x : OpC) (hk3 : x.kind ≠ 3) (hx : OpOk w x) (hn1 : x.n ≤ 100000) (ho : s.ops ≤ 1000000000) (hf0 : -9223372036854775808 ≤ s.fuse) (hf1 : s.fuse ≤ 9223372036854775807) (hm : m ≤ 900000) (hn : n ≤ 4096) :
    Calls Try.prog 16 #[.agg #[.slice A n c, .slice B m e, .int .i64 (s.ops : Nat), .int .i64 s.fuse, .bool s.down], opV x] w fun e9 w' => ∃ A' n' c' B' m' e', e9 = .returned (.tuple #[.agg #[.slice A' n' c', .slice B' m' e', .int .i64 ((doR s x).1.ops : Nat), .int .i64 (doR s x).1.fuse, .bool (doR s x).1.down], .int .i64 (doR s x).2]) ∧ StAt w' A' n' B' m' (doR s x).1 ∧ Later w w' ∧ (∀ a, A' = some a → A' = A ∨ w.heap.size ≤ a.block) ∧ ∀ a, B' = some a → B' = B ∨ w.heap.size ≤ a.block := by
  by_cases h0 : x.kind = 0
  · exact do_write h c e x h0 hx hn1 ho hf0 hf1 hm hn
  · by_cases h1 : x.kind = 1
    · exact do_flush h c e x h1 ho hf0 hf1 hm hn
    · exact do_else h c e x h0 h1 hk3
theorem doR_fuse {s : StP} (x : OpC) (hk : -9223372036854775808 ≤ x.k ∧ x.k ≤ 9223372036854775807) (h0 : -1 ≤ s.fuse) (h1 : s.fuse ≤ 9223372036854775807) : -1 ≤ (doR s x).1.fuse ∧ (doR s x).1.fuse ≤ 9223372036854775807 := by
  have hc : ∀ t : StP, t.fuse = s.fuse → -1 ≤ (countR t).fuse ∧ (countR t).fuse ≤ 9223372036854775807 := fun t ht => by
    show -1 ≤ (if 0 ≤ t.fuse then t.fuse - 1 else t.fuse) ∧ (if 0 ≤ t.fuse then t.fuse - 1 else t.fuse) ≤ _
    rw [ht]
    split <;> omega
  unfold doR
  split
  · split
    · exact ⟨h0, h1⟩
    · split
      · exact ⟨h0, h1⟩
      · exact hc _ rfl
  · split
    · split
      · exact ⟨h0, h1⟩
      · dsimp only
        split
        · exact hc _ rfl
        · exact hc _ rfl
    · split
      · show -1 ≤ max x.k (-1) ∧ max x.k (-1) ≤ _
        omega
      · exact ⟨h0, h1⟩

end Go.Proofs.Ytaonfedjilfgjaa
