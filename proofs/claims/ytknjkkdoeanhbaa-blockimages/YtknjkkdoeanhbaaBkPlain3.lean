/-
  What follows of a device, plain: blocks that were not written since the flush; a map that tells which were.
-/
import Derived.Maps.Views
import Derived.Maps.OwnOps
import Derived.Test.YtknjkkdoeanhbaaBkPlain2
import Derived.Test.YtknjkkdoeanhbaaBkImage
namespace Go.Proofs.Ytknjkkdoeanhbaa
open Go.RowKit Go.Maps

section
variable {d : DvP} {f : List Bs} {row : List WrP}
theorem down_m1 (h : DownI (-1) d) : d.down = false ∧ d.armed = false := by
  refine ⟨?_, ?_⟩
  · rw [h.down, decide_eq_false_iff_not]
    omega
  · rw [h.armed]
    decide
theorem fl_write (h : DownI (-1) d) (k : Int) (b : Bs) : (writeP d k b).2 ≠ 0 ∧ (writeP d k b).1 = d ∨ (writeP d k b).2 = 0 ∧ 0 ≤ k ∧ ∃ a c, (writeP d k b).1.row = d.row ++ [⟨k.toNat, a, c⟩] := by
  obtain ⟨h1, h2⟩ := down_m1 h
  unfold writeP
  rw [if_neg (by rw [h1]; decide)]
  split
  · exact .inl ⟨by show (101 : Int) ≠ 0; decide, rfl⟩
  · rename_i hk
    refine .inr ⟨?_, by omega, d.bl.getD k.toNat [], fillB b, ?_⟩
    · show opE d = 0
      unfold opE
      rw [if_neg (fun e => by rw [h2] at e; cases e.1)]
    · show (opP (putP d k.toNat b)).row = _
      rw [(opP_bl _).2]
      rfl
theorem fl_flush (h : DownI (-1) d) : (flushP d).2 = 0 ∧ (flushP d).1.row = [] := by
  obtain ⟨h1, h2⟩ := down_m1 h
  unfold flushP
  rw [if_neg (by rw [h1]; decide), if_neg (fun e => by rw [h2] at e; cases e.1)]
  exact ⟨rfl, rfl⟩
theorem formsP_other (fs : List Int) (k : Nat) : ∀ (row : List WrP) (j : Nat) (bl : List Bs), (∀ x ∈ row, x.pl ≠ k) → (formsP fs j row bl)[k]? = bl[k]?
  | [], _, _, _ => rfl
  | x :: row, j, bl, h => by
    rw [formsP, formsP_other fs k row (j + 1) _ fun y hy => h y (List.mem_cons_of_mem _ hy)]
    unfold takeB
    exact List.getElem?_set_ne (h x (List.mem_cons_self ..))
/-- The map tells of every block that was written since. -/
def SinceI (D : DataW Unit) (row : List WrP) : Prop := ∀ x ∈ row, D.atKey (.int .i64 (x.pl : Int)) (.lit (.int .i64 0)) = .lit (.int .i64 1)
theorem SinceI.put {D : DataW Unit} {k : Int} {a c : Bs} (h : SinceI D row) (hD : IsMap D) (hk : 0 ≤ k) : SinceI (D.put (.int .i64 k) (.lit (.int .i64 1))) (row ++ [⟨k.toNat, a, c⟩]) := fun x hx => by
  by_cases e : (x.pl : Int) = k
  · rw [e]
    exact atKey_put_same hD (by unfold WideAt.IsKeyLit; trivial) _ _
  · rw [atKey_put_other (fun e' => e (by injection e'))]
    rcases List.mem_append.1 hx with hx | hx
    · exact h x hx
    · simp only [List.mem_singleton] at hx
      subst hx
      exact absurd (by show ((k.toNat : Nat) : Int) = k; omega) e
theorem since_not {D : DataW Unit} {k : Nat} {c : Int} (h : SinceI D row) (hat : D.atKey (.int .i64 (k : Int)) (.lit (.int .i64 0)) = .lit (.int .i64 c)) (hc : c = 0) : ∀ x ∈ row, x.pl ≠ k := fun x hx e => by
  have h1 := h x hx
  rw [e, hat, hc] at h1
  injection h1 with h1
  injection h1 with _ h1
  cases h1
theorem flat_get (h : ∀ b ∈ f, b.length = 64) {k : Nat} (hk : k < f.length) : (f.flatten.drop (k * 64)).take 64 = f.getD k [] := by
  have e1 : f.flatten = (f.take k).flatten ++ (f.getD k [] ++ (f.drop (k + 1)).flatten) := by
    rw [← List.append_assoc, ← take_flat hk, ← List.flatten_append, List.take_append_drop]
  have hL : (f.take k).flatten.length = k * 64 := by
    rw [flat64 (fun b hb => h b (List.mem_of_mem_take hb)), List.length_take, Nat.min_eq_left (Nat.le_of_lt hk)]
  have h64 : (f.getD k []).length = 64 := by
    simp only [List.getD, List.getElem?_eq_getElem hk, Option.getD_some]
    exact h _ (List.getElem_mem hk)
  rw [e1, ← hL, List.drop_left, ← h64, List.take_left]
/-- What a crash leaves of a block that no write of the row was of. -/
theorem crash_other (h : LostI d f) (hok : DvOk d) (fs : List Int) {k : Nat} (hk : k < d.bl.length) (hn : ∀ x ∈ d.row, x.pl ≠ k) : (crashP d fs).bl.getD k [] = (f.flatten.drop (k * 64)).take 64 := by
  have hf : f = backP d.bl d.row := h.back.symm
  have hl : k < f.length := by rw [hf, backP_length]; exact hk
  rw [flat_get (fun b hb => backP_size hok.size (fun x hx => (hok.row x hx).2.1) b (by rw [← hf]; exact hb)) hl]
  show (formsP fs 0 d.row (backP d.bl d.row)).getD k [] = _
  rw [h.back]
  unfold List.getD
  rw [formsP_other fs k d.row 0 f hn]
end
theorem BsAt.sub64 {w : World} {b n k : Nat} {bs : Bs} (h : BsAt w (some ⟨b, 0, .none⟩) n bs) (hk : k * 64 + 64 ≤ n) : BsAt w (some ⟨b, k * 64, .none⟩) 64 ((bs.drop (k * 64)).take 64) := by
  refine ⟨by rw [List.length_take, List.length_drop, h.1]; omega, fun _ => ⟨b, k * 64, rfl, fun j x hx => ?_⟩⟩
  obtain ⟨b', o', e, hcl⟩ := h.2 (by omega)
  cases e
  rw [List.getElem?_take] at hx
  split at hx
  · rw [List.getElem?_drop] at hx
    have := hcl _ x hx
    rwa [Nat.zero_add] at this
  · cases hx
section
variable {H : Type} {P : Program} {K : TypeId} {R : Value → Option (DataW H × List MemPlace)} {w w' : World} {b n : Nat} {D : DataW H} {S : Nat → Prop}
theorem map_chg (h : w.ownsMap P K R b n D) (hc : Chg S w w') (hn : ¬ S b) : w'.ownsMap P K R b n D := by
  have hlt := h.lt
  obtain ⟨es, clock, hb, F, hs, hD⟩ := h
  exact ⟨es, clock, (hc.block b hlt hn).trans hb, F, hs, hD⟩
theorem map_later (h : w.ownsMap P K R b n D) (hl : Later w w') : w'.ownsMap P K R b n D := map_chg (S := fun _ => False) h (Chg.later hl) (fun e => e)
theorem chg_map (h : w.grownBy w' (some b)) : Chg (fun q => q = b) w w' := ⟨h.os, h.tape, h.output, h.size, fun i hi hn => h.block i hi fun e => hn (Option.some.inj e)⟩
end

end Go.Proofs.Ytknjkkdoeanhbaa
