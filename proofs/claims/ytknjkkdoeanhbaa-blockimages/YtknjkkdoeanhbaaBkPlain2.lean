/-
  What follows of a device, plain: what a row of calls leaves; what a crash leaves.
-/
import Derived.Test.YtknjkkdoeanhbaaBkPlain
namespace Go.Proofs.Ytknjkkdoeanhbaa

section
variable {d : DvP} {bl f : List Bs} {row : List WrP} {x : WrP}
theorem backP_snoc (x : WrP) : ∀ (row : List WrP) (bl : List Bs), backP bl (row ++ [x]) = backP (bl.set x.pl x.was) row
  | [], bl => rfl
  | y :: row, bl => by
    rw [List.cons_append, backP, backP_snoc x row bl, backP]
theorem formsP_snoc (fs : List Int) (x : WrP) : ∀ (row : List WrP) (k : Nat) (bl : List Bs), formsP fs k (row ++ [x]) bl = takeB (formsP fs k row bl) x (formB fs (k + row.length))
  | [], k, bl => rfl
  | y :: row, k, bl => by
    rw [List.cons_append, formsP, formsP_snoc fs x row (k + 1), formsP, List.length_cons]
    congr 2
    omega
theorem form_lost (k : Nat) : formB [0] k = 0 := by
  unfold formB
  rw [if_neg (by decide)]
  simp [Nat.mod_one]
theorem form_kept (k : Nat) : formB [1] k = 1 := by
  unfold formB
  rw [if_neg (by decide)]
  show (max 0 (([1] : List Int).getD (k % 1) 0)).toNat % 4 = 1
  rw [Nat.mod_one]
  rfl
theorem formsP_lost : ∀ (row : List WrP) (k : Nat) (bl : List Bs), formsP [0] k row bl = bl
  | [], _, _ => rfl
  | x :: row, k, bl => by
    rw [formsP, form_lost, formsP_lost row]
    unfold takeB mixB
    rw [if_neg (by decide), if_neg (by decide), if_neg (by decide)]
    by_cases h : x.pl < bl.length
    · simp [List.getD, h]
    · rw [List.set_eq_of_length_le (by omega)]
/-- What stands between the calls of a row: what was flushed, and that all that was written since is there. -/
structure LostI (d : DvP) (f : List Bs) : Prop where
  back : backP d.bl d.row = f
  again : formsP [1] 0 d.row f = d.bl
theorem LostI.first (n : Nat) : LostI (newP n) (newP n).bl := ⟨rfl, rfl⟩
theorem LostI.same {d' : DvP} (h : LostI d f) (h1 : d'.bl = d.bl) (h2 : d'.row = d.row) : LostI d' f := ⟨by rw [h1, h2]; exact h.back, by rw [h1, h2]; exact h.again⟩
theorem opP_bl (d : DvP) : (opP d).bl = d.bl ∧ (opP d).row = d.row := by
  unfold opP
  split
  · split <;> exact ⟨rfl, rfl⟩
  · exact ⟨rfl, rfl⟩
theorem opP_ops (d : DvP) : (opP d).ops = d.ops + 1 := by
  unfold opP
  split
  · split <;> rfl
  · rfl
theorem LostI.put (h : LostI d f) {k : Nat} (hk : k < d.bl.length) (b : Bs) : LostI (putP d k b) f := by
  refine ⟨?_, ?_⟩
  · show backP (d.bl.set k (fillB b)) (d.row ++ [⟨k, d.bl.getD k [], fillB b⟩]) = f
    rw [backP_snoc]
    have e : (d.bl.set k (fillB b)).set k (d.bl.getD k []) = d.bl := by
      rw [List.set_set]
      simp [List.getD, hk]
    show backP ((d.bl.set k (fillB b)).set k (d.bl.getD k [])) d.row = f
    rw [e]
    exact h.back
  · show formsP [1] 0 (d.row ++ [⟨k, d.bl.getD k [], fillB b⟩]) f = d.bl.set k (fillB b)
    rw [formsP_snoc, form_kept, h.again]
    rfl
theorem LostI.write (h : LostI d f) (k : Int) (b : Bs) : LostI (writeP d k b).1 f := by
  unfold writeP
  split
  · exact h
  · split
    · exact h
    · rename_i h1 h2
      exact (h.put (k := k.toNat) (by omega) b).same (opP_bl _).1 (opP_bl _).2
theorem LostI.flush (h : LostI d f) : (flushP d).2 ≠ 0 ∧ LostI (flushP d).1 f ∨ (flushP d).2 = 0 ∧ LostI (flushP d).1 (flushP d).1.bl := by
  unfold flushP
  split
  · exact .inl ⟨by show (100 : Int) ≠ 0; decide, h⟩
  · split
    · exact .inl ⟨by show (100 : Int) ≠ 0; decide, h.same (opP_bl _).1 (opP_bl _).2⟩
    · exact .inr ⟨rfl, rfl, rfl⟩
theorem crash_lost (h : LostI d f) : (crashP d [0]).bl = f := by
  show formsP [0] 0 d.row (backP d.bl d.row) = f
  rw [formsP_lost, h.back]
theorem crash_kept (h : LostI d f) : (crashP d [1]).bl = d.bl := by
  show formsP [1] 0 d.row (backP d.bl d.row) = d.bl
  rw [h.back, h.again]
/-- What is armed, and what is down, behind that many ops. -/
structure DownI (n : Int) (d : DvP) : Prop where
  down : d.down = decide (0 ≤ n ∧ n < (d.ops : Int))
  armed : d.armed = decide (0 ≤ n)
  left : 0 ≤ n → d.down = false → d.left = n - (d.ops : Int)
theorem DownI.first (m : Nat) (n : Int) : DownI n (armP (newP m) n) := by
  refine ⟨?_, rfl, fun _ _ => ?_⟩
  · show false = decide (0 ≤ n ∧ n < ((0 : Nat) : Int))
    symm
    rw [decide_eq_false_iff_not]
    omega
  · show n = n - ((0 : Nat) : Int)
    omega
theorem DownI.op {n : Int} (h : DownI n d) (hd : d.down = false) : DownI n (opP d) ∧ ((opP d).down = true ↔ opE d = 100) ∧ (opE d = 100 ∨ opE d = 0) := by
  have h1 := h.down
  rw [hd] at h1
  have h1' : ¬ (0 ≤ n ∧ n < (d.ops : Int)) := of_decide_eq_false h1.symm
  unfold opP opE
  by_cases ha : d.armed = true
  · have hn : 0 ≤ n := by have := h.armed; rw [ha] at this; exact of_decide_eq_true this.symm
    have hl := h.left hn hd
    rw [if_pos ha]
    by_cases h0 : d.left = 0
    · rw [if_pos h0, if_pos ⟨ha, h0⟩]
      refine ⟨⟨?_, h.armed, fun _ e => by cases e⟩, ⟨fun _ => rfl, fun _ => rfl⟩, .inl rfl⟩
      show true = decide (0 ≤ n ∧ n < ((d.ops + 1 : Nat) : Int))
      symm
      rw [decide_eq_true_eq]
      omega
    · rw [if_neg h0, if_neg (fun e => h0 e.2)]
      refine ⟨⟨?_, h.armed, fun _ _ => ?_⟩, ⟨fun e => ?_, fun e => by cases e⟩, .inr rfl⟩
      · show d.down = decide (0 ≤ n ∧ n < ((d.ops + 1 : Nat) : Int))
        rw [hd]
        symm
        rw [decide_eq_false_iff_not]
        omega
      · show d.left - 1 = n - ((d.ops + 1 : Nat) : Int)
        omega
      · have e' : d.down = true := e
        rw [hd] at e'
        cases e'
  · have hn : ¬ 0 ≤ n := by
      intro hn
      have := h.armed
      rw [decide_eq_true hn] at this
      exact ha this
    rw [if_neg ha, if_neg (fun e => ha e.1)]
    refine ⟨⟨?_, h.armed, fun h0 => absurd h0 hn⟩, ⟨fun e => ?_, fun e => by cases e⟩, .inr rfl⟩
    · show d.down = decide (0 ≤ n ∧ n < ((d.ops + 1 : Nat) : Int))
      rw [hd]
      symm
      rw [decide_eq_false_iff_not]
      omega
    · have e' : d.down = true := e
      rw [hd] at e'
      cases e'
theorem DownI.same {n : Int} {d' : DvP} (h : DownI n d) (h1 : d'.down = d.down) (h2 : d'.ops = d.ops) (h3 : d'.armed = d.armed) (h4 : d'.left = d.left) : DownI n d' := ⟨by rw [h1, h2]; exact h.down, by rw [h3]; exact h.armed, by rw [h1, h2, h4]; exact h.left⟩
/-- What a call of a row of writes and flushes leaves, and what it tells. -/
structure StepI (n : Int) (d : DvP) (r : DvP × Int) : Prop where
  inv : DownI n r.1
  stay : d.down = true → r = (d, 100)
  told : d.down = false → (r.1.down = true ↔ r.2 = 100)
  ops : r.1.ops ≤ d.ops + 1
  row : r.1.row.length ≤ d.row.length + 1
theorem DownI.write {n : Int} (h : DownI n d) (k : Int) (b : Bs) : StepI n d (writeP d k b) := by
  unfold writeP
  by_cases hd : d.down = true
  · rw [if_pos hd]
    exact ⟨h, fun _ => rfl, (fun e => by rw [hd] at e; cases e), by dsimp only; omega, by dsimp only; omega⟩
  · have hd0 : d.down = false := by simpa using hd
    rw [if_neg hd]
    split
    · exact ⟨h, (fun e => absurd e hd), (fun _ => ⟨fun e => absurd e hd, fun e => by cases e⟩), by dsimp only; omega, by dsimp only; omega⟩
    · have hp : DownI n (putP d k.toNat b) := h.same rfl rfl rfl rfl
      obtain ⟨h1, h2, _⟩ := hp.op hd0
      refine ⟨h1, (fun e => absurd e hd), fun _ => h2, ?_, ?_⟩
      · show (opP (putP d k.toNat b)).ops ≤ _
        rw [opP_ops]
        exact Nat.le_refl _
      · show (opP (putP d k.toNat b)).row.length ≤ _
        rw [(opP_bl _).2]
        simp [putP]
theorem DownI.flush {n : Int} (h : DownI n d) : StepI n d (flushP d) := by
  unfold flushP
  by_cases hd : d.down = true
  · rw [if_pos hd]
    exact ⟨h, fun _ => rfl, (fun e => by rw [hd] at e; cases e), by dsimp only; omega, by dsimp only; omega⟩
  · have hd0 : d.down = false := by simpa using hd
    rw [if_neg hd]
    obtain ⟨h1, h2, _⟩ := h.op hd0
    by_cases ha : d.armed = true ∧ d.left = 0
    · rw [if_pos ha]
      have e : opE d = 100 := by unfold opE; rw [if_pos ha]
      refine ⟨h1, (fun e => absurd e hd), fun _ => ⟨fun _ => rfl, fun _ => h2.2 e⟩, ?_, ?_⟩
      · dsimp only; rw [opP_ops]; exact Nat.le_refl _
      · dsimp only; rw [(opP_bl _).2]; omega
    · rw [if_neg ha]
      have e : opE d = 0 := by unfold opE; rw [if_neg ha]
      have h3 : (opP d).down = false := by
        cases hq : (opP d).down with
        | false => rfl
        | true => have := h2.1 hq; rw [e] at this; cases this
      refine ⟨h1.same rfl rfl rfl rfl, (fun e => absurd e hd), fun _ => ⟨fun e' => ?_, fun e' => by cases e'⟩, ?_, ?_⟩
      · have e2 : (opP d).down = true := e'
        rw [h3] at e2
        cases e2
      · show (opP d).ops ≤ _
        rw [opP_ops]
        exact Nat.le_refl _
      · show (0 : Nat) ≤ _
        exact Nat.zero_le _
end

end Go.Proofs.Ytknjkkdoeanhbaa
