/-
  What tree's Many comes to, as a call.
-/
import Derived.Test.YtbjbimahmbapdaaDoorChecked
import Derived.Test.YtbjbimahmbapdaaDoorTrRange
import Derived.Test.YtbjbimahmbapdaaDoorWords
import Derived.Deep.LoopGhost
import Derived.Lib.Hide
namespace Go.Proofs.YtbjbimahmbapdaaDoor
open Go.RowKit Go.Maps

/-- Two numbers. -/
def Gives2 (a b : Int) (w : World) (e : Ending) (w' : World) : Prop := e = .returned (.tuple #[.int .i64 a, .int .i64 b]) ∧ Later w w'

set_option maxHeartbeats 400000 in
theorem many_any (p B : Nat) (t : Tr) (w : World) (ht : TreeAt w p B t) (hl : t.length ≤ 65536) (hb : linesT t ≤ 1000000) :
    Calls Tryd.prog 18 #[.pointer (some ⟨p, 0, none⟩)] w (Gives2 t.length (linesT t) w) := by
  obtain ⟨hc, z, hz, rfl⟩ := ht
  rw [mapT_length] at hl ⊢
  have HZ := Lib.hid hz; clear hz
  go_enter Tryd.func18, Tryd.ntmps18
  go_wp2_with (at_range; refine wpList_range_files rfl _ rfl B z rfl HZ.out ?_; intro w0 hrg0 hl0; have HR0 := Lib.hid hrg0; have HL0 := Lib.hid hl0; clear hrg0 hl0)
  go_frame
  go_loopg [3] (z.length + 1) (fun g s3 wr => ∃ (left : Lit → Bool) (cnt : Nat), cnt ≤ g ∧ s3 = .int .i64 (linesT (seen left (mapT (·.2) z)) : Nat) ∧ Later w wr ∧ Hid (Ranging wr B w.heap.size z left cnt))
  case atStart => exact ⟨_, _, Nat.le_succ _, by rw [seen_map, seen_start]; rfl, HL0.out, HR0.out⟩
  case round =>
    obtain ⟨left, cnt, hcg, rfl, hwr, hrg⟩ := hrel
    have hls := lines_seen left (mapT (·.2) z)
    have hle := hwr.le
    have hcw := hwr.cell hc
    have HW := Lib.hid hwr; clear hwr
    go_wp2_with (at_next; refine wpList_next_files rfl _ rfl B w.heap.size z left cnt rfl hrg.out ?_ ?_)
    · intro hdone
      have E : Hid (linesT (seen left (mapT (·.2) z)) = linesT (mapT (·.2) z)) := by rw [seen_end hdone]; rfl
      rw [E.out]
      clear hdone E
      go_wp2_with (at_len; refine wpList_len_own _ rfl _ 65 rfl 9 29 Tryd.underlying65 raw B z.length _ rfl hrg.out.files.own ?_)
      go_ret2
      refine ⟨?_, HW.out⟩
      rw [size_datum, mapT_length]
      rfl
    · intro nm A m c l w' cnt' hmem hnm hmc hrow hlk hrg' hlt hturn hen
      have hlen := hrow.len
      have hstep : linesT (seen (but left nm) (mapT (·.2) z)) = linesT (seen left (mapT (·.2) z)) + m := by
        rw [seen_step (rising_map.2 hrg'.rise) (x := l) (by simp only [mapT, List.mem_map]; exact ⟨_, hmem, rfl⟩), lines_with (seen_has hlk), hlen]
      have hls2 := lines_seen (but left nm) (mapT (·.2) z)
      have HS := Lib.hid hstep
      have hm : m ≤ 1000000 := by omega
      have HRG := Lib.hid hrg'; have HT := Lib.hid hturn
      clear hstep hls2 hlen hrow hmem hlk hrg' hturn
      go_wp2
      go_roundg cnt'
      case measure => omega
      case rel => exact ⟨but left nm, cnt', Nat.le_refl _, by rw [HS.out]; go_num, HW.out.turn HT.out (Nat.le_refl _), HRG.out⟩

end Go.Proofs.YtbjbimahmbapdaaDoor
