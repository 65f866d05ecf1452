import Derived.Test.YtnhhdjcbifmfgaaPk14

/-
  The statements' own example: two hunks of one file.
-/
namespace Go.Proofs.Ytnhhdjcbifmfgaa
open Go.RowKit Go.Maps

def lA : ByteArray := ⟨#[97]⟩
def lB : ByteArray := ⟨#[98]⟩
def lC : ByteArray := ⟨#[99]⟩
def lX : ByteArray := ⟨#[120]⟩
def lY : ByteArray := ⟨#[121]⟩
def lZ : ByteArray := ⟨#[122]⟩
def aP : Pr := ⟨0, lA, ByteArray.empty, 0, [lX], []⟩
def aQ : Pr := ⟨0, lA, ByteArray.empty, 5, [lY], [lZ]⟩
def aM : Pr := ⟨3, lA, lB, 0, [], []⟩
def aC : Pr := ⟨1, lC, ByteArray.empty, 0, [], []⟩
theorem ay1 : swapR (swapP aP aQ) = (placed aQ 6, aP, true) := by kernel_rfl
theorem ay2 : swapR (swapP (placed aQ 6) aP) = (aP, aQ, true) := by kernel_rfl
theorem ay3 : swapR (swapP aP aM) = (aM, inFile aP lB, true) := by kernel_rfl
theorem ay4 : (!(swapR (swapP aP aP)).2.2) = true := by kernel_rfl
theorem ay5 : apartP aP aC = true := by kernel_rfl
theorem bare_okS (w : World) (k : Int) {a b : ByteArray} (ha : a.size ≤ 100) (hb : b.size ≤ 100) : PrOk w ⟨⟨k, a, b, 0, [], []⟩, none, 0, 0, none, 0, 0⟩ :=
  ⟨Row.none, Row.none, Nat.le_refl _, Nat.le_refl _, Nat.zero_le _, Nat.zero_le _, (by simp only [maxLen]; omega), (by simp only [maxLen]; omega), by simp, by simp, (fun s hs => by simp at hs), (fun s hs => by simp at hs)⟩
theorem one_size {s : ByteArray} (h : s.size ≤ 100) : ∀ x ∈ [s], x.size ≤ maxLen := fun x hx => by simp at hx; subst hx; simp only [maxLen]; omega
theorem aP_ok {w : World} {b : Nat} (h : Row w (some ⟨b, 0, none⟩) 1 [lX]) : PrOk w ⟨aP, some ⟨b, 0, none⟩, 1, 1, none, 0, 0⟩ :=
  ⟨h, Row.none, Nat.le_refl _, Nat.le_refl _, (by show 1 ≤ 65536; omega), Nat.zero_le _, of_decide_eq_true rfl, of_decide_eq_true rfl, (by show (-9223372036854775808 : Int) ≤ 0; omega), (by show (0 : Int) ≤ 9223372036854775807; omega), one_size (of_decide_eq_true rfl), (fun s hs => by cases hs)⟩
theorem aQ_ok {w : World} {b c : Nat} (h : Row w (some ⟨b, 0, none⟩) 1 [lY]) (k : Row w (some ⟨c, 0, none⟩) 1 [lZ]) : PrOk w ⟨aQ, some ⟨b, 0, none⟩, 1, 1, some ⟨c, 0, none⟩, 1, 1⟩ :=
  ⟨h, k, Nat.le_refl _, Nat.le_refl _, (by show 1 ≤ 65536; omega), (by show 1 ≤ 65536; omega), of_decide_eq_true rfl, of_decide_eq_true rfl, (by show (-9223372036854775808 : Int) ≤ 5; omega), (by show (5 : Int) ≤ 9223372036854775807; omega), one_size (of_decide_eq_true rfl), one_size (of_decide_eq_true rfl)⟩

/-- The first memory of the example. -/
structure Ex (w w' : World) (cp cq : PrC) (gp gq : Nat) : Prop where
  bp : BoxAt w' gp (prL cp).toArray 28
  bq : BoxAt w' gq (prL cq).toArray 28
  op : PrOk w' cp
  oq : PrOk w' cq
  later : Later w w'
theorem Ex.on {w w1 w2 : World} {cp cq : PrC} {gp gq : Nat} (h : Ex w w1 cp cq gp gq) (hl : Later w1 w2) : Ex w w2 cp cq gp gq := ⟨h.bp.later hl, h.bq.later hl, h.op.later hl, h.oq.later hl, h.later.trans hl⟩
theorem ex_first (w : World) : Ex w (((((w.alloc (.cells #[.string ⟨#[120]⟩] 9)).alloc (.cells #[.int .i64 0, .string ⟨#[97]⟩, .string ⟨#[]⟩, .int .i64 0, .slice (some ⟨w.heap.size, 0, none⟩) 1 1, .slice none 0 0] 28)).alloc (.cells #[.string ⟨#[121]⟩] 9)).alloc (.cells #[.string ⟨#[122]⟩] 9)).alloc (.cells #[.int .i64 0, .string ⟨#[97]⟩, .string ⟨#[]⟩, .int .i64 5, .slice (some ⟨w.heap.size + 1 + 1, 0, none⟩) 1 1, .slice (some ⟨w.heap.size + 1 + 1 + 1, 0, none⟩) 1 1] 28)) (⟨aP, some ⟨w.heap.size, 0, none⟩, 1, 1, none, 0, 0⟩ : PrC) (⟨aQ, some ⟨w.heap.size + 1 + 1, 0, none⟩, 1, 1, some ⟨w.heap.size + 1 + 1 + 1, 0, none⟩, 1, 1⟩ : PrC) (w.heap.size + 1) (w.heap.size + 1 + 1 + 1 + 1) := by
  have l1 : Later ((w.alloc (.cells #[.string ⟨#[120]⟩] 9)).alloc (.cells #[.int .i64 0, .string ⟨#[97]⟩, .string ⟨#[]⟩, .int .i64 0, .slice (some ⟨w.heap.size, 0, none⟩) 1 1, .slice none 0 0] 28)) (((((w.alloc (.cells #[.string ⟨#[120]⟩] 9)).alloc (.cells #[.int .i64 0, .string ⟨#[97]⟩, .string ⟨#[]⟩, .int .i64 0, .slice (some ⟨w.heap.size, 0, none⟩) 1 1, .slice none 0 0] 28)).alloc (.cells #[.string ⟨#[121]⟩] 9)).alloc (.cells #[.string ⟨#[122]⟩] 9)).alloc (.cells #[.int .i64 0, .string ⟨#[97]⟩, .string ⟨#[]⟩, .int .i64 5, .slice (some ⟨w.heap.size + 1 + 1, 0, none⟩) 1 1, .slice (some ⟨w.heap.size + 1 + 1 + 1, 0, none⟩) 1 1] 28)) := (((Later.refl _).alloc _).alloc _).alloc _
  have hX : Row (((((w.alloc (.cells #[.string ⟨#[120]⟩] 9)).alloc (.cells #[.int .i64 0, .string ⟨#[97]⟩, .string ⟨#[]⟩, .int .i64 0, .slice (some ⟨w.heap.size, 0, none⟩) 1 1, .slice none 0 0] 28)).alloc (.cells #[.string ⟨#[121]⟩] 9)).alloc (.cells #[.string ⟨#[122]⟩] 9)).alloc (.cells #[.int .i64 0, .string ⟨#[97]⟩, .string ⟨#[]⟩, .int .i64 5, .slice (some ⟨w.heap.size + 1 + 1, 0, none⟩) 1 1, .slice (some ⟨w.heap.size + 1 + 1 + 1, 0, none⟩) 1 1] 28)) (some ⟨w.heap.size, 0, none⟩) 1 [lX] := (Row.lit w [lX] 9).later ((((Later.refl _).alloc _).alloc _).alloc _ |>.alloc _)
  have hY : Row (((((w.alloc (.cells #[.string ⟨#[120]⟩] 9)).alloc (.cells #[.int .i64 0, .string ⟨#[97]⟩, .string ⟨#[]⟩, .int .i64 0, .slice (some ⟨w.heap.size, 0, none⟩) 1 1, .slice none 0 0] 28)).alloc (.cells #[.string ⟨#[121]⟩] 9)).alloc (.cells #[.string ⟨#[122]⟩] 9)).alloc (.cells #[.int .i64 0, .string ⟨#[97]⟩, .string ⟨#[]⟩, .int .i64 5, .slice (some ⟨w.heap.size + 1 + 1, 0, none⟩) 1 1, .slice (some ⟨w.heap.size + 1 + 1 + 1, 0, none⟩) 1 1] 28)) (some ⟨w.heap.size + 1 + 1, 0, none⟩) 1 [lY] := by
    have := Row.lit ((w.alloc (.cells #[.string ⟨#[120]⟩] 9)).alloc (.cells #[.int .i64 0, .string ⟨#[97]⟩, .string ⟨#[]⟩, .int .i64 0, .slice (some ⟨w.heap.size, 0, none⟩) 1 1, .slice none 0 0] 28)) [lY] 9
    rw [show ((w.alloc (.cells #[.string ⟨#[120]⟩] 9)).alloc (.cells #[.int .i64 0, .string ⟨#[97]⟩, .string ⟨#[]⟩, .int .i64 0, .slice (some ⟨w.heap.size, 0, none⟩) 1 1, .slice none 0 0] 28)).heap.size = w.heap.size + 1 + 1 from by simp] at this
    exact this.later (((Later.refl _).alloc _).alloc _)
  have hZ : Row (((((w.alloc (.cells #[.string ⟨#[120]⟩] 9)).alloc (.cells #[.int .i64 0, .string ⟨#[97]⟩, .string ⟨#[]⟩, .int .i64 0, .slice (some ⟨w.heap.size, 0, none⟩) 1 1, .slice none 0 0] 28)).alloc (.cells #[.string ⟨#[121]⟩] 9)).alloc (.cells #[.string ⟨#[122]⟩] 9)).alloc (.cells #[.int .i64 0, .string ⟨#[97]⟩, .string ⟨#[]⟩, .int .i64 5, .slice (some ⟨w.heap.size + 1 + 1, 0, none⟩) 1 1, .slice (some ⟨w.heap.size + 1 + 1 + 1, 0, none⟩) 1 1] 28)) (some ⟨w.heap.size + 1 + 1 + 1, 0, none⟩) 1 [lZ] := by
    have := Row.lit (((w.alloc (.cells #[.string ⟨#[120]⟩] 9)).alloc (.cells #[.int .i64 0, .string ⟨#[97]⟩, .string ⟨#[]⟩, .int .i64 0, .slice (some ⟨w.heap.size, 0, none⟩) 1 1, .slice none 0 0] 28)).alloc (.cells #[.string ⟨#[121]⟩] 9)) [lZ] 9
    rw [show (((w.alloc (.cells #[.string ⟨#[120]⟩] 9)).alloc (.cells #[.int .i64 0, .string ⟨#[97]⟩, .string ⟨#[]⟩, .int .i64 0, .slice (some ⟨w.heap.size, 0, none⟩) 1 1, .slice none 0 0] 28)).alloc (.cells #[.string ⟨#[121]⟩] 9)).heap.size = w.heap.size + 1 + 1 + 1 from by simp] at this
    exact this.later ((Later.refl _).alloc _)
  refine ⟨?_, ?_, aP_ok hX, aQ_ok hY hZ, ((((((Later.refl w).alloc _).alloc _).alloc _).alloc _).alloc _)⟩
  · have := BoxAt.made (w.alloc (.cells #[.string ⟨#[120]⟩] 9)) (prL (⟨aP, some ⟨w.heap.size, 0, none⟩, 1, 1, none, 0, 0⟩ : PrC)).toArray 28
    rw [show (w.alloc (.cells #[.string ⟨#[120]⟩] 9)).heap.size = w.heap.size + 1 from by simp] at this
    exact this.later l1
  · have := BoxAt.made ((((w.alloc (.cells #[.string ⟨#[120]⟩] 9)).alloc (.cells #[.int .i64 0, .string ⟨#[97]⟩, .string ⟨#[]⟩, .int .i64 0, .slice (some ⟨w.heap.size, 0, none⟩) 1 1, .slice none 0 0] 28)).alloc (.cells #[.string ⟨#[121]⟩] 9)).alloc (.cells #[.string ⟨#[122]⟩] 9)) (prL (⟨aQ, some ⟨w.heap.size + 1 + 1, 0, none⟩, 1, 1, some ⟨w.heap.size + 1 + 1 + 1, 0, none⟩, 1, 1⟩ : PrC)).toArray 28
    rw [show ((((w.alloc (.cells #[.string ⟨#[120]⟩] 9)).alloc (.cells #[.int .i64 0, .string ⟨#[97]⟩, .string ⟨#[]⟩, .int .i64 0, .slice (some ⟨w.heap.size, 0, none⟩) 1 1, .slice none 0 0] 28)).alloc (.cells #[.string ⟨#[121]⟩] 9)).alloc (.cells #[.string ⟨#[122]⟩] 9)).heap.size = w.heap.size + 1 + 1 + 1 + 1 from by simp] at this
    exact this

set_option maxRecDepth 100000 in
set_option maxHeartbeats 3200000 in
theorem aliveS_any (w : World) : Calls Try.prog 5 #[] w (Says true w) := by
  go_enter Try.func5, Try.ntmps5
  go_wp2_with fail
  have hex := ex_first w
  have HS1 : Hid (Calls Try.prog 9 #[prV (⟨aP, some ⟨w.heap.size, 0, none⟩, 1, 1, none, 0, 0⟩ : PrC), prV (⟨aQ, some ⟨w.heap.size + 1 + 1, 0, none⟩, 1, 1, some ⟨w.heap.size + 1 + 1 + 1, 0, none⟩, 1, 1⟩ : PrC)] (((((w.alloc (.cells #[.string ⟨#[120]⟩] 9)).alloc (.cells #[.int .i64 0, .string ⟨#[97]⟩, .string ⟨#[]⟩, .int .i64 0, .slice (some ⟨w.heap.size, 0, none⟩) 1 1, .slice none 0 0] 28)).alloc (.cells #[.string ⟨#[121]⟩] 9)).alloc (.cells #[.string ⟨#[122]⟩] 9)).alloc (.cells #[.int .i64 0, .string ⟨#[97]⟩, .string ⟨#[]⟩, .int .i64 5, .slice (some ⟨w.heap.size + 1 + 1, 0, none⟩) 1 1, .slice (some ⟨w.heap.size + 1 + 1 + 1, 0, none⟩) 1 1] 28)) (GivesT (placed aQ 6, aP, true) (((((w.alloc (.cells #[.string ⟨#[120]⟩] 9)).alloc (.cells #[.int .i64 0, .string ⟨#[97]⟩, .string ⟨#[]⟩, .int .i64 0, .slice (some ⟨w.heap.size, 0, none⟩) 1 1, .slice none 0 0] 28)).alloc (.cells #[.string ⟨#[121]⟩] 9)).alloc (.cells #[.string ⟨#[122]⟩] 9)).alloc (.cells #[.int .i64 0, .string ⟨#[97]⟩, .string ⟨#[]⟩, .int .i64 5, .slice (some ⟨w.heap.size + 1 + 1, 0, none⟩) 1 1, .slice (some ⟨w.heap.size + 1 + 1 + 1, 0, none⟩) 1 1] 28)))) := by
    have := swap_any (⟨aP, some ⟨w.heap.size, 0, none⟩, 1, 1, none, 0, 0⟩ : PrC) (⟨aQ, some ⟨w.heap.size + 1 + 1, 0, none⟩, 1, 1, some ⟨w.heap.size + 1 + 1 + 1, 0, none⟩, 1, 1⟩ : PrC) _ hex.op hex.oq
    rw [ay1] at this
    exact this
  refine HS1.out.mono ?_
  clear HS1
  generalize ((((w.alloc (.cells #[.string ⟨#[120]⟩] 9)).alloc (.cells #[.int .i64 0, .string ⟨#[97]⟩, .string ⟨#[]⟩, .int .i64 0, .slice (some ⟨w.heap.size, 0, none⟩) 1 1, .slice none 0 0] 28)).alloc (.cells #[.string ⟨#[121]⟩] 9)).alloc (.cells #[.string ⟨#[122]⟩] 9)).alloc (.cells #[.int .i64 0, .string ⟨#[97]⟩, .string ⟨#[]⟩, .int .i64 5, .slice (some ⟨w.heap.size + 1 + 1, 0, none⟩) 1 1, .slice (some ⟨w.heap.size + 1 + 1 + 1, 0, none⟩) 1 1] 28) = wb at hex ⊢
  obtain ⟨cp, hcp⟩ : ∃ c : PrC, c = (⟨aP, some ⟨w.heap.size, 0, none⟩, 1, 1, none, 0, 0⟩ : PrC) := ⟨_, rfl⟩
  obtain ⟨cq, hcq⟩ : ∃ c : PrC, c = (⟨aQ, some ⟨w.heap.size + 1 + 1, 0, none⟩, 1, 1, some ⟨w.heap.size + 1 + 1 + 1, 0, none⟩, 1, 1⟩ : PrC) := ⟨_, rfl⟩
  have hpv : cp.v = aP := by rw [hcp]
  have hqv : cq.v = aQ := by rw [hcq]
  rw [← hcp, ← hcq] at hex
  clear hcp hcq
  generalize w.heap.size + 1 + 1 + 1 + 1 = gq at hex ⊢
  generalize w.heap.size + 1 = gp at hex ⊢
  rintro e w1 ⟨a, b, rfl, ha, hb, hao, hbo, hl1⟩
  dsimp only at ha hb ⊢
  obtain ⟨d0, d1, hl2⟩ := two_boxes w1 #[.int .i64 a.v.kind, .string a.v.name, .string a.v.to, .int .i64 a.v.place, .slice a.A a.n a.c, .slice a.B a.m a.d] #[.int .i64 b.v.kind, .string b.v.name, .string b.v.to, .int .i64 b.v.place, .slice b.A b.n b.c, .slice b.B b.m b.d] 28
  have hex2 := hex.on (hl1.trans hl2)
  have HAO := Lib.hid (hao.later hl2); have HBO := Lib.hid (hbo.later hl2); have HA := Lib.hid ha; have HB := Lib.hid hb; have HPV := Lib.hid hpv; have HQV := Lib.hid hqv
  clear hex hl1 hl2 hao hbo ha hb hpv hqv
  unfold prV
  go_upto_region 4 with fail
  generalize (w1.alloc (.cells #[.int .i64 a.v.kind, .string a.v.name, .string a.v.to, .int .i64 a.v.place, .slice a.A a.n a.c, .slice a.B a.m a.d] 28)).alloc (.cells #[.int .i64 b.v.kind, .string b.v.name, .string b.v.to, .int .i64 b.v.place, .slice b.A b.n b.c, .slice b.B b.m b.d] 28) = w2 at d0 d1 hex2 HAO HBO ⊢
  generalize w1.heap.size + 1 = gb at d1 ⊢
  generalize w1.heap.size = ga at d0 ⊢
  have HS2 : Hid (Calls Try.prog 9 #[prV a, prV b] w2 (GivesT (aP, aQ, true) w2)) := by
    have := swap_any a b _ HAO.out HBO.out
    rw [HA.out, HB.out, ay2] at this
    exact this
  obtain ⟨p0, p1, p2, p3, p4, p5⟩ := BoxAt.all (x := a) d0
  obtain ⟨q0, q1, q2, q3, q4, q5⟩ := BoxAt.all (x := b) d1
  have HD0 := Lib.hid d0; have HD1 := Lib.hid d1; have HEX := Lib.hid hex2
  unfold prV at HS2
  clear d0 d1 hex2
  go_wp2_with fail
  refine HS2.out.mono ?_
  clear HS2 p0 p1 p2 p3 p4 p5 q0 q1 q2 q3 q4 q5
  rintro e w3 ⟨c, d, rfl, hc, hd, hco, hdo, hl1⟩
  dsimp only at hc hd ⊢
  obtain ⟨d0, d1, hl2⟩ := two_boxes w3 #[.int .i64 c.v.kind, .string c.v.name, .string c.v.to, .int .i64 c.v.place, .slice c.A c.n c.c, .slice c.B c.m c.d] #[.int .i64 d.v.kind, .string d.v.name, .string d.v.to, .int .i64 d.v.place, .slice d.A d.n d.c, .slice d.B d.m d.d] 28
  have l3 : Later w3 (((w3.alloc (.cells #[.int .i64 c.v.kind, .string c.v.name, .string c.v.to, .int .i64 c.v.place, .slice c.A c.n c.c, .slice c.B c.m c.d] 28)).alloc (.cells #[.int .i64 d.v.kind, .string d.v.name, .string d.v.to, .int .i64 d.v.place, .slice d.A d.n d.c, .slice d.B d.m d.d] 28)).alloc (.cells #[.int .i64 3, .string ⟨#[97]⟩, .string ⟨#[98]⟩, .int .i64 0, .slice none 0 0, .slice none 0 0] 28)) := hl2.alloc _
  have hm : BoxAt (((w3.alloc (.cells #[.int .i64 c.v.kind, .string c.v.name, .string c.v.to, .int .i64 c.v.place, .slice c.A c.n c.c, .slice c.B c.m c.d] 28)).alloc (.cells #[.int .i64 d.v.kind, .string d.v.name, .string d.v.to, .int .i64 d.v.place, .slice d.A d.n d.c, .slice d.B d.m d.d] 28)).alloc (.cells #[.int .i64 3, .string ⟨#[97]⟩, .string ⟨#[98]⟩, .int .i64 0, .slice none 0 0, .slice none 0 0] 28)) (w3.heap.size + 1 + 1) (prL (⟨aM, none, 0, 0, none, 0, 0⟩ : PrC)).toArray 28 := by
    have := BoxAt.made ((w3.alloc (.cells #[.int .i64 c.v.kind, .string c.v.name, .string c.v.to, .int .i64 c.v.place, .slice c.A c.n c.c, .slice c.B c.m c.d] 28)).alloc (.cells #[.int .i64 d.v.kind, .string d.v.name, .string d.v.to, .int .i64 d.v.place, .slice d.A d.n d.c, .slice d.B d.m d.d] 28)) #[.int .i64 3, .string ⟨#[97]⟩, .string ⟨#[98]⟩, .int .i64 0, .slice none 0 0, .slice none 0 0] 28
    rw [show ((w3.alloc (.cells #[.int .i64 c.v.kind, .string c.v.name, .string c.v.to, .int .i64 c.v.place, .slice c.A c.n c.c, .slice c.B c.m c.d] 28)).alloc (.cells #[.int .i64 d.v.kind, .string d.v.name, .string d.v.to, .int .i64 d.v.place, .slice d.A d.n d.c, .slice d.B d.m d.d] 28)).heap.size = w3.heap.size + 1 + 1 from by simp] at this
    exact this
  replace d0 := d0.alloc (.cells #[.int .i64 3, .string ⟨#[97]⟩, .string ⟨#[98]⟩, .int .i64 0, .slice none 0 0, .slice none 0 0] 28)
  replace d1 := d1.alloc (.cells #[.int .i64 3, .string ⟨#[97]⟩, .string ⟨#[98]⟩, .int .i64 0, .slice none 0 0, .slice none 0 0] 28)
  have hex3 := HEX.out.on (hl1.trans l3)
  have da := HD0.out.later (hl1.trans l3)
  have db := HD1.out.later (hl1.trans l3)
  have HAO2 := Lib.hid (HAO.out.later (hl1.trans l3)); have HBO2 := Lib.hid (HBO.out.later (hl1.trans l3)); have HCO := Lib.hid (hco.later l3); have HDO := Lib.hid (hdo.later l3); have HC := Lib.hid hc; have HD := Lib.hid hd
  clear hl1 hl2 hco hdo hc hd HEX HD0 HD1 HAO HBO l3
  unfold prV
  go_upto_region 6 with fail
  generalize ((w3.alloc (.cells #[.int .i64 c.v.kind, .string c.v.name, .string c.v.to, .int .i64 c.v.place, .slice c.A c.n c.c, .slice c.B c.m c.d] 28)).alloc (.cells #[.int .i64 d.v.kind, .string d.v.name, .string d.v.to, .int .i64 d.v.place, .slice d.A d.n d.c, .slice d.B d.m d.d] 28)).alloc (.cells #[.int .i64 3, .string ⟨#[97]⟩, .string ⟨#[98]⟩, .int .i64 0, .slice none 0 0, .slice none 0 0] 28) = w4 at d0 d1 hm hex3 da db HAO2 HBO2 HCO HDO ⊢
  generalize w3.heap.size + 1 + 1 = gm at hm ⊢
  generalize w3.heap.size + 1 = gd at d1 ⊢
  generalize w3.heap.size = gc at d0 ⊢
  have hmo : PrOk w4 ⟨aM, none, 0, 0, none, 0, 0⟩ := bare_okS w4 3 (of_decide_eq_true rfl) (of_decide_eq_true rfl)
  obtain ⟨cm, hcm⟩ : ∃ c : PrC, c = ⟨aM, none, 0, 0, none, 0, 0⟩ := ⟨_, rfl⟩
  have hmv : cm.v = aM := by rw [hcm]
  rw [← hcm] at hmo hm
  have HMV := Lib.hid hmv; have HMO := Lib.hid hmo
  clear hcm hmv hmo
  have HS3 : Hid (Calls Try.prog 9 #[prV cp, prV cm] w4 (GivesT (aM, inFile aP lB, true) w4)) := by
    have := swap_any cp cm _ hex3.op HMO.out
    rw [HPV.out, HMV.out, ay3] at this
    exact this
  obtain ⟨p0, p1, p2, p3, p4, p5⟩ := BoxAt.all (x := cp) hex3.bp
  obtain ⟨q0, q1, q2, q3, q4, q5⟩ := BoxAt.all (x := cm) hm
  have HD0 := Lib.hid d0; have HD1 := Lib.hid d1; have HEX := Lib.hid hex3; have HDA := Lib.hid da; have HDB := Lib.hid db; have HM := Lib.hid hm
  unfold prV at HS3
  clear d0 d1 hex3 da db hm
  go_wp2_with fail
  refine HS3.out.mono ?_
  clear HS3 p0 p1 p2 p3 p4 p5 q0 q1 q2 q3 q4 q5
  rintro e w5 ⟨m, f, rfl, hmm, hf, hmo, hfo, hl1⟩
  dsimp only at hmm hf ⊢
  obtain ⟨d0, d1, hl2⟩ := two_boxes w5 #[.int .i64 m.v.kind, .string m.v.name, .string m.v.to, .int .i64 m.v.place, .slice m.A m.n m.c, .slice m.B m.m m.d] #[.int .i64 f.v.kind, .string f.v.name, .string f.v.to, .int .i64 f.v.place, .slice f.A f.n f.c, .slice f.B f.m f.d] 28
  have l3 := hl1.trans hl2
  have hex := HEX.out.on l3
  have da := HDA.out.later l3; have db := HDB.out.later l3; have dc := HD0.out.later l3; have dd := HD1.out.later l3; have dm := HM.out.later l3
  have HAO := Lib.hid (HAO2.out.later l3); have HBO := Lib.hid (HBO2.out.later l3); have HCO2 := Lib.hid (HCO.out.later l3); have HDO2 := Lib.hid (HDO.out.later l3); have HMO2 := Lib.hid (HMO.out.later l3); have HMM := Lib.hid hmm; have HF := Lib.hid hf; have HEO := Lib.hid (hmo.later hl2)
  clear hl1 hl2 l3 hmo hfo hmm hf HEX HDA HDB HD0 HD1 HM HAO2 HBO2 HCO HDO HMO
  unfold prV
  go_upto_region 7 with fail
  generalize (w5.alloc (.cells #[.int .i64 m.v.kind, .string m.v.name, .string m.v.to, .int .i64 m.v.place, .slice m.A m.n m.c, .slice m.B m.m m.d] 28)).alloc (.cells #[.int .i64 f.v.kind, .string f.v.name, .string f.v.to, .int .i64 f.v.place, .slice f.A f.n f.c, .slice f.B f.m f.d] 28) = w6 at d0 d1 hex da db dc dd dm HAO HBO HCO2 HDO2 HMO2 HEO ⊢
  generalize w5.heap.size + 1 = gf at d1 ⊢
  generalize w5.heap.size = ge at d0 ⊢
  have h6 : (a.v.place == 6) = true := by rw [HA.out]; rfl
  obtain ⟨a0, a1, a2, a3, a4, a5⟩ := BoxAt.all (x := a) da
  have s1 : Hid (∀ w', Later w6 w' → Calls Try.prog 7 #[prV b, prV cp] w' (Says true w')) := fun w' h => by
    have := primSame_any b cp w' (HBO.out.later h) (hex.op.later h)
    rw [HB.out, HPV.out, sameP_self] at this
    exact this
  have s2 : Hid (∀ w', Later w6 w' → Calls Try.prog 7 #[prV c, prV cp] w' (Says true w')) := fun w' h => by
    have := primSame_any c cp w' (HCO2.out.later h) (hex.op.later h)
    rw [HC.out, HPV.out, sameP_self] at this
    exact this
  have s3 : Hid (∀ w', Later w6 w' → Calls Try.prog 7 #[prV d, prV cq] w' (Says true w')) := fun w' h => by
    have := primSame_any d cq w' (HDO2.out.later h) (hex.oq.later h)
    rw [HD.out, HQV.out, sameP_self] at this
    exact this
  have s4 : Hid (∀ w', Later w6 w' → Calls Try.prog 7 #[prV m, prV cm] w' (Says true w')) := fun w' h => by
    have := primSame_any m cm w' (HEO.out.later h) (HMO2.out.later h)
    rw [HMM.out, HMV.out, sameP_self] at this
    exact this
  have s5 : Hid (∀ w', Later w6 w' → Calls Try.prog 10 #[prV cp, prV cp] w' (Says true w')) := fun w' h => by
    have := needs_any cp cp w' (hex.op.later h) (hex.op.later h)
    rw [HPV.out, ay4] at this
    exact this
  have s6 : Hid (∀ w', Later w6 w' → Calls Try.prog 11 #[prV cp, .agg #[.int .i64 1, .string ⟨#[99]⟩, .string ⟨#[]⟩, .int .i64 0, .slice none 0 0, .slice none 0 0]] w' (Says true w')) := fun w' h => by
    have := apart_any cp ⟨aC, none, 0, 0, none, 0, 0⟩ w' (hex.op.later h) (bare_okS w' 1 (of_decide_eq_true rfl) (of_decide_eq_true rfl))
    rw [HPV.out, ay5] at this
    exact this
  unfold prV at s1 s2 s3 s4 s5 s6
  have HEX := Lib.hid hex; have HDB := Lib.hid db; have HDC := Lib.hid dc; have HDD := Lib.hid dd; have HDM := Lib.hid dm; have HDE := Lib.hid d0; have HDF := Lib.hid d1
  obtain ⟨b0, b1, b2, b3, b4, b5⟩ := BoxAt.all (x := b) db
  obtain ⟨p0, p1, p2, p3, p4, p5⟩ := BoxAt.all (x := cp) hex.bp
  have L6 : Hid (Later w6 w6) := Later.refl w6
  clear hex da db dc dd dm d0 d1 HAO HBO HCO2 HDO2 HMO2 HEO HA HB HC HD HMM HPV HQV HMV
  go_wp2_with fail
  refine (s1.out _ L6.out).mono ?_
  rintro e n7 ⟨rfl, hl⟩
  have L7 : Hid (Later w6 n7) := L6.out.trans hl
  clear hl
  clear a0 a1 a2 a3 a4 a5 b0 b1 b2 b3 b4 b5 p0 p1 p2 p3 p4 p5 h6
  obtain ⟨b0, b1, b2, b3, b4, b5⟩ := BoxAt.all (x := c) (HDC.out.later L7.out)
  obtain ⟨p0, p1, p2, p3, p4, p5⟩ := BoxAt.all (x := cp) (HEX.out.bp.later L7.out)
  go_wp2_with fail
  refine (s2.out _ L7.out).mono ?_
  rintro e n8 ⟨rfl, hl⟩
  have L8 : Hid (Later w6 n8) := L7.out.trans hl
  clear hl
  clear b0 b1 b2 b3 b4 b5 p0 p1 p2 p3 p4 p5
  obtain ⟨b0, b1, b2, b3, b4, b5⟩ := BoxAt.all (x := d) (HDD.out.later L8.out)
  obtain ⟨p0, p1, p2, p3, p4, p5⟩ := BoxAt.all (x := cq) (HEX.out.bq.later L8.out)
  go_wp2_with fail
  refine (s3.out _ L8.out).mono ?_
  rintro e n9 ⟨rfl, hl⟩
  have L9 : Hid (Later w6 n9) := L8.out.trans hl
  clear hl
  clear b0 b1 b2 b3 b4 b5 p0 p1 p2 p3 p4 p5
  obtain ⟨b0, b1, b2, b3, b4, b5⟩ := BoxAt.all (x := m) (HDE.out.later L9.out)
  obtain ⟨p0, p1, p2, p3, p4, p5⟩ := BoxAt.all (x := cm) (HDM.out.later L9.out)
  go_wp2_with fail
  refine (s4.out _ L9.out).mono ?_
  rintro e n10 ⟨rfl, hl⟩
  have L10 : Hid (Later w6 n10) := L9.out.trans hl
  clear hl
  clear b0 b1 b2 b3 b4 b5 p0 p1 p2 p3 p4 p5
  obtain ⟨b0, b1, b2, b3, b4, b5⟩ := BoxAt.all (x := f) (HDF.out.later L10.out)
  rw [HF.out] at b1
  simp only [inFile, lB] at b1
  obtain ⟨p0, p1, p2, p3, p4, p5⟩ := BoxAt.all (x := cp) (HEX.out.bp.later L10.out)
  go_wp2_with fail
  refine (s5.out _ L10.out).mono ?_
  rintro e n11 ⟨rfl, hl⟩
  have L11 : Hid (Later w6 n11) := L10.out.trans hl
  clear hl
  clear b0 b1 b2 b3 b4 b5 p0 p1 p2 p3 p4 p5
  obtain ⟨p0, p1, p2, p3, p4, p5⟩ := BoxAt.all (x := cp) (HEX.out.bp.later L11.out)
  go_wp2_with fail
  refine (s6.out _ L11.out).mono ?_
  rintro e n12 ⟨rfl, hl⟩
  have L12 : Hid (Later w6 n12) := L11.out.trans hl
  clear hl
  clear p0 p1 p2 p3 p4 p5
  go_wp2
  go_ret
  exact ⟨rfl, HEX.out.later.trans L12.out⟩

end Go.Proofs.Ytnhhdjcbifmfgaa
