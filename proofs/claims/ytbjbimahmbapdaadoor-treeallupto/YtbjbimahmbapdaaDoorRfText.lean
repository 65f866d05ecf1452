/-
  What the document's digits and Text come to, as calls.
-/
import Derived.Test.YtbjbimahmbapdaaDoorRfMem
import Derived.Test.YtbjbimahmbapdaaDoorTrText
import Derived.Test.YtbjbimahmbapdaaDoorRText
import Derived.Deep.RegionWith
namespace Go.Proofs.YtbjbimahmbapdaaDoor
open Go.RowKit Go.Maps

/-- One byte of a new row, as a text. -/
theorem conv_at (W : World) (b : Nat) (c : UInt8) (h : W.cell? ⟨b, 0, none⟩ = some (.int .u8 c.toNat)) : Sem.run Tryd.prog (convert 69 9 (.slice (some ⟨b, 0, none⟩) 1 1)) W = .ok (.string ⟨#[c]⟩) W :=
  run_convert_bytes_back (P := Tryd.prog) W 69 9 5 ⟨b, 0, none⟩ 1 [c] Tryd.underlying69 Tryd.underlying5 Tryd.underlying9 (fun j hj => by
    obtain rfl : j = 0 := (by simp at hj; omega)
    simpa [Addr.add] using h)
theorem conv_one (w : World) (c : UInt8) : Sem.run Tryd.prog (convert 69 9 (.slice (some ⟨w.heap.size, 0, none⟩) 1 1)) (w.alloc (.cells #[.int .u8 c.toNat] 5)) = .ok (.string ⟨#[c]⟩) (w.alloc (.cells #[.int .u8 c.toNat] 5)) :=
  conv_at _ _ c (by simp)

theorem digit_byte (d : Nat) (h : d < 10) : ((UInt8.ofNat (48 + d)).toNat : Int) = 48 + d := by
  rw [UInt8.toNat_ofNat']; omega

theorem snoc_text (l : List UInt8) (c : UInt8) : txt l ++ (⟨#[c]⟩ : ByteArray) = txt (l ++ [c]) := by
  apply bytes_inj
  rw [bytes_txt]
  simp [bytes, txt, ByteArray.data_append]

set_option maxRecDepth 100000 in
set_option maxHeartbeats 1000000 in
theorem refDigits_any : ∀ (n : Nat) (w : World), n ≤ 65536 → Calls Tryd.prog 41 #[.int .i64 n] w fun e w' => e = .returned (.string (txt (Lib.decDigits n))) ∧ Later w w' := by
  intro n
  induction n using Nat.strongRecOn with
  | ind n ih =>
    intro w hn
    by_cases h9 : 9 < n
    · have IH := Lib.hid (fun w1 => ih (n / 10) (by omega) w1 (by omega))
      clear ih
      have hd : decide ((9 : Int) < n) = true := by simp; omega
      have E : Hid (Lib.decDigits n = Lib.decDigits (n / 10) ++ [UInt8.ofNat (48 + n % 10)]) := by
        show _ = _
        rw [Lib.decDigits, dif_neg (by omega)]
      have hby := digit_byte (n % 10) (by omega)
      have e1 : IntKind.i64.wrap ((n : Int) / 10) = ((n / 10 : Nat) : Int) := by rw [IntKind.wrap_i64]; omega
      have e2 : ((n : Int).tmod 10) = ((n % 10 : Nat) : Int) := by rw [Int.tmod_eq_emod_of_nonneg (by omega)]; omega
      have e3 : IntKind.u8.wrap (IntKind.i64.wrap (48 + ((n % 10 : Nat) : Int))) = ((UInt8.ofNat (48 + n % 10)).toNat : Int) := by rw [hby, IntKind.wrap_u8, IntKind.wrap_i64]; omega
      have hql := digits_length (n / 10) (by omega)
      generalize UInt8.ofNat (48 + n % 10) = c at E e3
      generalize n % 10 = d at e2 e3
      clear hby
      generalize n / 10 = q at IH E e1 hql
      go_enter Tryd.func41, Tryd.ntmps41
      go_wp2_with fail
      have hcv := conv_at (w.alloc (.cells #[.int .u8 c.toNat] 5)).drew w.heap.size c (by simp)
      have hcb : (w.alloc (.cells #[.int .u8 c.toNat] 5)).drew.cell? ⟨w.heap.size, 0, none⟩ = some (.int .u8 c.toNat) := by simp
      have HCB := Lib.hid hcb; clear hcb
      go_region_with (first
          | (go_at_call 41; ((with_reducible refine (IH.out (w.alloc (.cells #[.int .u8 c.toNat] 5)).drew).mono ?_); rintro e w2 ⟨rfl, hl2⟩; have HL2 : Hid (Later w w2) := Later.trans (((Later.refl _).alloc _).drew) hl2; have hcw := conv_at w2 _ c (hl2.cell HCB.out); have hsz : (txt (Lib.decDigits q)).size ≤ 20 := (by rw [txt_size]; exact hql); generalize htx : txt (Lib.decDigits q) = tx at hsz ⊢; have HTX := Lib.hid htx; have hnl : ¬ 9223372036854775807 < tx.size + 1 := (by omega); clear hl2 htx))
          | (go_at_call 41; ((with_reducible refine (IH.out w.drew).mono ?_); rintro e w2 ⟨rfl, hl2⟩; have HL2 : Hid (Later w w2) := Later.trans ((Later.refl _).drew) hl2; have hcw := conv_one w2 c; have hsz : (txt (Lib.decDigits q)).size ≤ 20 := (by rw [txt_size]; exact hql); generalize htx : txt (Lib.decDigits q) = tx at hsz ⊢; have HTX := Lib.hid htx; have hnl : ¬ 9223372036854775807 < tx.size + 1 := (by omega); clear hl2 htx)))
      all_goals
        clear hcv e1 e2 e3
        go_wp2
        go_ret
        refine ⟨congrArg (fun z => Ending.returned (.string z)) ?_, ?_⟩
        · rw [E.out, ← HTX.out]
          exact snoc_text _ _
        · first | exact HL2.out | exact HL2.out.alloc _
    · have hd : decide ((9 : Int) < n) = false := by simp; omega
      have E : Hid (Lib.decDigits n = [UInt8.ofNat (48 + n)]) := by
        show _ = _
        rw [Lib.decDigits, dif_pos (by omega)]
      have hby := digit_byte n (by omega)
      generalize UInt8.ofNat (48 + n) = c at E hby
      have hcv := conv_one w c
      rw [hby] at hcv
      clear ih hby
      go_enter Tryd.func41, Tryd.ntmps41
      go_wp2
      go_ret
      exact ⟨congrArg (fun z => Ending.returned (.string z)) (by rw [E.out]; rfl), (Later.refl w).alloc _⟩

end Go.Proofs.YtbjbimahmbapdaaDoor
