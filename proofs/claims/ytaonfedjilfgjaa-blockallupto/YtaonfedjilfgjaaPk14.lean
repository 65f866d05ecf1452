import Derived.Test.YtaonfedjilfgjaaPk11
import Derived.Test.YtaonfedjilfgjaaPk13
import Derived.Test.YtaonfedjilfgjaaPk6

/-
  The reference's Of, as a call.
-/
namespace Go.Proofs.Ytaonfedjilfgjaa
open Go.RowKit

/-- What Of makes. -/
def ofR (bs : Bs) : StP := ⟨(List.range (countI bs.length)).map (pieceB bs), [], 0, -1, false⟩
theorem ofR_size (bs : Bs) : ∀ b ∈ (ofR bs).l, b.length = 64 := fun b hb => by
  obtain ⟨i, _, rfl⟩ := List.mem_map.1 hb
  exact fillB_length (by rw [List.length_take]; omega)
theorem of_same (bs : Bs) : Same (ofP bs) (ofR bs) (countI bs.length) 0 := by
  refine ⟨ofTo_len _ _ _, rfl, rfl, rfl, fun k hk => ?_⟩
  have e1 : (ofP bs).bl[k]? = some (pieceB bs k) := by
    show ((List.range _).map fun i => if i < countI bs.length then pieceB bs i else zeros 64)[k]? = _
    rw [List.getElem?_map, List.getElem?_range hk]
    simp [hk]
  have e2 : (ofR bs).l[k]? = some (pieceB bs k) := by
    show ((List.range _).map (pieceB bs))[k]? = _
    rw [List.getElem?_map, List.getElem?_range hk]
    rfl
  show _ = foldR _ _ []
  unfold foldR
  rw [List.foldl_nil, List.getD_eq_getElem?_getD, List.getD_eq_getElem?_getD, e1, e2]
theorem own_ne2 {W w : World} {v : Value} {css : List (List Value)} {g : Nat} {cur : Array Value} (h : OwnK 47 64 W w v css) (hc : CellsAt w g cur 30) : v.ownBlock ≠ some g := fun e => by
  obtain ⟨cur', h1⟩ := h.typed g e
  have h2 : w.heap[g]? = some (.cells cur 30 (0, 0)) := hc
  have h3 : w.heap[g]? = some (.cells cur' 47 (0, 0)) := h1
  rw [h3] at h2
  injection h2 with h2
  injection h2 with _ h2
  exact absurd h2 (by decide)
/-- What the loop of Of keeps. -/
structure OfLp (W w : World) (g2 g3 j : Nat) (bs : Bs) (V : Option Addr) (cv : Nat) : Prop where
  own : OwnK 47 64 W w (.slice V j cv) ((List.range j).map fun i => Lib.byteCells (pieceB bs i))
  box : CellsAt w g3 #[.slice V j cv, .slice none 0 0, .int .i64 0, .int .i64 (-1), .bool false] 30
  res : CellsAt w g2 #[.slice none 0 0, .slice none 0 0, .int .i64 0, .int .i64 0, .bool false] 30
  base : Later W w
  g2w : W.heap.size ≤ g2
  g3w : W.heap.size ≤ g3
  ne : g2 ≠ g3
theorem OfLp.next {W w w1 wm w2 : World} {g2 g3 j cv : Nat} {bs : Bs} {V : Option Addr} {v0 : Value} (h : OfLp W w g2 g3 j bs V cv) (l : Later w w1) (how : OwnK 47 64 W wm v0 (((List.range j).map fun i => Lib.byteCells (pieceB bs i)) ++ [Lib.byteCells (fromB bs (64 * j))])) (hgr : w1.grownBy wm (Value.slice V j cv).ownBlock)
    (hbx : CellsAt w2 g3 #[v0, .slice none 0 0, .int .i64 0, .int .i64 (-1), .bool false] 30) (hch : Chg (fun q => q = g3) wm w2) : ∃ V' cv', OfLp W w2 g2 g3 (j + 1) bs V' cv' := by
  have hc1 : Chg (fun q => (Value.slice V j cv).ownBlock = some q) w1 wm := Chg.grown hgr fun q hq => .inl hq
  have o1 := h.own.on l
  have b1 := h.box.later l; have r1 := h.res.later l
  have bm := b1.chg hc1 (own_ne2 o1 b1); have rm := r1.chg hc1 (own_ne2 o1 r1)
  have hl2 : Later W w2 := hch.low how.later (fun q hq => by rw [hq]; exact h.g3w)
  have e : ((List.range j).map fun i => Lib.byteCells (pieceB bs i)) ++ [Lib.byteCells (fromB bs (64 * j))] = (List.range (j + 1)).map fun i => Lib.byteCells (pieceB bs i) := by
    rw [List.range_succ, List.map_append, List.map_singleton]
    congr 3
    unfold fromB pieceB
    rw [Nat.mul_comm]
  rw [e] at how
  have o2 := how.chg hch (fun q hq e => own_ne2 how bm (by rw [hq, e])) hl2
  obtain ⟨V', cv', e', -, -⟩ := o2.row
  rw [List.length_map, List.length_range] at e'
  subst e'
  exact ⟨V', cv', o2, hbx, rm.chg hch h.ne, hl2, h.g2w, h.g3w, h.ne⟩
theorem OfLp.ofR {W w : World} {g2 g3 j cv : Nat} {bs : Bs} {V : Option Addr} {n : Nat} (_h : OfLp W w g2 g3 j bs V cv) (hj : j = countI n) (hl : bs.length = n) : (ofR bs).l.map Lib.byteCells = (List.range j).map fun i => Lib.byteCells (pieceB bs i) := by
  unfold Go.Proofs.Ytaonfedjilfgjaa.ofR
  rw [hl, ← hj, List.map_map]
  rfl
set_option maxRecDepth 100000 in
set_option maxHeartbeats 1600000 in
theorem ofRef_any (A : Option Addr) (n c : Nat) (bs : Bs) (w : World) (hx : BsAt w A n bs) (hn : n ≤ 1000000) :
    Calls Try.prog 30 #[.slice A n c] w fun e w' => ∃ V cv, e = .returned (.agg #[.slice V (countI n) cv, .slice none 0 0, .int .i64 0, .int .i64 (-1), .bool false]) ∧ StAt w' V (countI n) none 0 (ofR bs) ∧ Later w w' := by
  have HX := Lib.hid hx
  have hm1 := countN_lo (((n + 63) / 64 : Nat) : Int); have hm2 := countN_hi (((n + 63) / 64 : Nat) : Int)
  have hm3 : countI n = (max 1 (min (((n + 63) / 64 : Nat) : Int) 4096)).toNat := rfl
  clear hx
  go_enter Try.func30, Try.ntmps30
  go_wp2
  have hla : Later w (w.alloc (.cells #[.slice none 0 0, .slice none 0 0, .int .i64 0, .int .i64 0, .bool false] 30)) := (Later.refl w).alloc _
  have hlb : Later (w.alloc (.cells #[.slice none 0 0, .slice none 0 0, .int .i64 0, .int .i64 0, .bool false] 30)) ((w.alloc (.cells #[.slice none 0 0, .slice none 0 0, .int .i64 0, .int .i64 0, .bool false] 30)).alloc (.cells #[.slice none 0 0, .slice none 0 0, .int .i64 0, .int .i64 (-1), .bool false] 30)) := (Later.refl _).alloc _
  have hsz : (w.alloc (.cells #[.slice none 0 0, .slice none 0 0, .int .i64 0, .int .i64 0, .bool false] 30)).heap.size = w.heap.size + 1 := World.size_alloc _ _
  have HST : Hid (OfLp w ((w.alloc (.cells #[.slice none 0 0, .slice none 0 0, .int .i64 0, .int .i64 0, .bool false] 30)).alloc (.cells #[.slice none 0 0, .slice none 0 0, .int .i64 0, .int .i64 (-1), .bool false] 30)) w.heap.size (w.heap.size + 1) 0 bs none 0) := ⟨OwnK.nil (hla.trans hlb), by rw [← hsz]; exact CellsAt.made _ _ _, (CellsAt.made w _ _).later hlb, hla.trans hlb, Nat.le_refl _, Nat.le_succ _, by omega⟩
  clear hla hlb hsz
  obtain ⟨g2, hg2⟩ : ∃ g, g = w.heap.size := ⟨_, rfl⟩
  obtain ⟨g3, hg3⟩ : ∃ g, g = w.heap.size + 1 := ⟨_, rfl⟩
  rw [← hg3, ← hg2] at HST ⊢
  clear hg2 hg3
  go_loopg [] (countI n + 1) (fun g0 wr => ∃ (j : Nat) (V : Option Addr) (cv : Nat), j ≤ countI n ∧ countI n - j ≤ g0 ∧ Hid (OfLp w wr g2 g3 j bs V cv))
  case atStart => exact ⟨0, none, 0, Nat.zero_le _, by omega, HST⟩
  case round =>
    clear HST
    obtain ⟨j, V, cv, hj, hg, hlp⟩ := hrel
    have q0 : wr.cell? ⟨g3, 0, none⟩ = some (.slice V j cv) := hlp.out.box.cell rfl
    have HLEN : Hid ((Lib.byteCells (fromB bs (64 * j))).length = 64) := by show _ = _; rw [bc_len]; exact fromB_length _ _
    by_cases hj0 : j < 1
    · have hj0' : ((j : Nat) : Int) < 1 := by omega
      have hj1 : j < countI n := by omega
      go_wp2_with fail
      refine bkOf3 rfl (by kernel_rfl) ⟨_, rfl, rfl, rfl, rfl, by kernel_rfl⟩ ⟨_, rfl, rfl, rfl, rfl, by kernel_rfl⟩ ⟨_, rfl, rfl, rfl, rfl, by kernel_rfl⟩ ⟨_, rfl, rfl, rfl, rfl, by kernel_rfl⟩ ⟨_, rfl, rfl, rfl, rfl, by kernel_rfl⟩ ⟨_, rfl, rfl, rfl, rfl, by kernel_rfl⟩ ⟨_, rfl, rfl, rfl, rfl, by kernel_rfl⟩ ⟨_, rfl, rfl, rfl, rfl, by kernel_rfl⟩ ⟨_, rfl, rfl, rfl, rfl, by kernel_rfl⟩ ⟨_, rfl, rfl, rfl, rfl, by kernel_rfl⟩ ⟨_, rfl, rfl, rfl, rfl, by kernel_rfl⟩ ⟨_, rfl, rfl, rfl, rfl, by kernel_rfl⟩ (of_decide_eq_true rfl) (w0 := w) (g := g3) (A := A) (n := n) (c := c) (bs := bs) (V := V) (j := j) (cv := cv) (xs := (List.range j).map fun i => Lib.byteCells (pieceB bs i)) rfl rfl q0 (HX.out.later hlp.out.base) hn (by omega) HLEN.out hlp.out.own (by simp; omega) hlp.out.box (own_ne2 hlp.out.own hlp.out.box) (fun a w1 w2 v0 v1 so l e33 hx => ?_)
      obtain ⟨wm, how, hgr, hob, hbx, hch⟩ := hx
      have HEND := Lib.hid (OfLp.next hlp.out l how hgr hbx hch)
      have ha := so.is
      simp only [List.foldl_cons, List.foldl_nil] at ha
      rw [e33] at ha
      generalize a.eval (.tmp 24) = y24 at ha
      generalize a.eval (.tmp 25) = y25 at ha
      generalize a.eval (.tmp 26) = y26 at ha
      generalize a.eval (.tmp 27) = y27 at ha
      generalize a.eval (.tmp 28) = y28 at ha
      generalize a.eval (.tmp 29) = y29 at ha
      generalize a.eval (.tmp 30) = y30 at ha
      generalize a.eval (.tmp 31) = y31 at ha
      generalize a.eval (.tmp 32) = y32 at ha
      generalize a.eval (.tmp 34) = y34 at ha
      subst ha
      clear so e33 how hgr hob hbx hch l hlp HLEN
      obtain ⟨V', cv', hn'⟩ := HEND.out
      have HN := Lib.hid hn'
      clear HEND hn'
      simp only [Act.put, List.setIfInBounds_toArray, List.set_cons_zero, List.set_cons_succ]
      go_wp2
      go_roundg (countI n - (j + 1))
      case measure => omega
      case rel => exact ⟨j + 1, V', cv', by omega, by omega, HN⟩
    · have hj0' : ¬ ((j : Nat) : Int) < 1 := by omega
      by_cases h2 : 64 * j < n
      · have h2' : 64 * ((j : Nat) : Int) < ((n : Nat) : Int) := by omega
        by_cases h3 : j < 4096
        · have h3' : ((j : Nat) : Int) < 4096 := by omega
          have hj1 : j < countI n := by omega
          go_wp2_with fail
          refine bkOf3 rfl (by kernel_rfl) ⟨_, rfl, rfl, rfl, rfl, by kernel_rfl⟩ ⟨_, rfl, rfl, rfl, rfl, by kernel_rfl⟩ ⟨_, rfl, rfl, rfl, rfl, by kernel_rfl⟩ ⟨_, rfl, rfl, rfl, rfl, by kernel_rfl⟩ ⟨_, rfl, rfl, rfl, rfl, by kernel_rfl⟩ ⟨_, rfl, rfl, rfl, rfl, by kernel_rfl⟩ ⟨_, rfl, rfl, rfl, rfl, by kernel_rfl⟩ ⟨_, rfl, rfl, rfl, rfl, by kernel_rfl⟩ ⟨_, rfl, rfl, rfl, rfl, by kernel_rfl⟩ ⟨_, rfl, rfl, rfl, rfl, by kernel_rfl⟩ ⟨_, rfl, rfl, rfl, rfl, by kernel_rfl⟩ ⟨_, rfl, rfl, rfl, rfl, by kernel_rfl⟩ (of_decide_eq_true rfl) (w0 := w) (g := g3) (A := A) (n := n) (c := c) (bs := bs) (V := V) (j := j) (cv := cv) (xs := (List.range j).map fun i => Lib.byteCells (pieceB bs i)) rfl rfl q0 (HX.out.later hlp.out.base) hn (by omega) HLEN.out hlp.out.own (by simp; omega) hlp.out.box (own_ne2 hlp.out.own hlp.out.box) (fun a w1 w2 v0 v1 so l e33 hx => ?_)
          obtain ⟨wm, how, hgr, hob, hbx, hch⟩ := hx
          have HEND := Lib.hid (OfLp.next hlp.out l how hgr hbx hch)
          have ha := so.is
          simp only [List.foldl_cons, List.foldl_nil] at ha
          rw [e33] at ha
          generalize a.eval (.tmp 24) = y24 at ha
          generalize a.eval (.tmp 25) = y25 at ha
          generalize a.eval (.tmp 26) = y26 at ha
          generalize a.eval (.tmp 27) = y27 at ha
          generalize a.eval (.tmp 28) = y28 at ha
          generalize a.eval (.tmp 29) = y29 at ha
          generalize a.eval (.tmp 30) = y30 at ha
          generalize a.eval (.tmp 31) = y31 at ha
          generalize a.eval (.tmp 32) = y32 at ha
          generalize a.eval (.tmp 34) = y34 at ha
          subst ha
          clear so e33 how hgr hob hbx hch l hlp HLEN
          obtain ⟨V', cv', hn'⟩ := HEND.out
          have HN := Lib.hid hn'
          clear HEND hn'
          simp only [Act.put, List.setIfInBounds_toArray, List.set_cons_zero, List.set_cons_succ]
          go_wp2
          go_roundg (countI n - (j + 1))
          case measure => omega
          case rel => exact ⟨j + 1, V', cv', by omega, by omega, HN⟩
        · have h3' : ¬ ((j : Nat) : Int) < 4096 := by omega
          have hj' : j = countI n := by omega
          have HFN := Lib.hid (hlp.out.ofR hj' HX.out.len)
          go_wp2_with (with_reducible show wpList _ _ _ ({ dst := some 35, op := Op.load _ _, type := _, pos := _, after := _, guard := _ } :: _) _ _; refine Hid.out ?_)
          refine Lib.hid (wpList_load_mid rfl _ _ rfl g3 0 rfl [.slice V j cv, .slice none 0 0, .int .i64 0, .int .i64 (-1), .bool false] _ (hlp.out.box.range (o := 0) (fun i u hi => by rw [Nat.zero_add, List.getElem?_toArray]; exact hi)) Try.underlying30 rfl Try.stateSize ?_)
          refine wpList_store_mids rfl rfl _ _ _ rfl g2 0 [.slice V j cv, .slice none 0 0, .int .i64 0, .int .i64 (-1), .bool false] rfl rfl (hlp.out.res.there (Nat.le_refl _)) Try.stateSize (fun v hv => by
            simp only [List.mem_cons, List.not_mem_nil, or_false] at hv
            rcases hv with rfl | rfl | rfl | rfl | rfl <;> rfl) ?_
          intro w9 hw9
          have hc9 : CellsAt w9 g2 #[.slice V j cv, .slice none 0 0, .int .i64 0, .int .i64 (-1), .bool false] 30 := by
            have := hlp.out.res.sets [.slice V j cv, .slice none 0 0, .int .i64 0, .int .i64 (-1), .bool false] (o := 0)
            rw [hw9]
            exact this
          have hch9 : Chg (fun q => q = g2) wr w9 := by rw [hw9]; exact sets_chg _ _ _
          have hl9 : Later w w9 := hch9.low hlp.out.base (fun q hq => by rw [hq]; exact hlp.out.g2w)
          have HST : Hid (StAt w9 V j none 0 (ofR bs)) := ⟨by
            have hr := hlp.out.own.chg hch9 (fun q hq e => own_ne2 hlp.out.own hlp.out.res (by rw [hq, e])) hl9
            obtain ⟨V', cv', e', -, hrr⟩ := hr.row
            injection e' with e1 e2 e3
            subst e1
            rw [HFN.out]
            rw [← e2] at hrr
            exact hrr, RowK.none, ofR_size bs, (fun x hx => by cases hx), fun _ => rfl⟩
          have HC9 := Lib.hid hc9; have HL9 := Lib.hid hl9
          clear hc9 hl9 hw9 hch9 hlp HFN q0
          refine Lib.hid ?_
          go_wp2
          refine bodyPost_ret (results_cell_row rfl _ _ g2 _ _ _ _ rfl HC9.out Try.underlying30 rfl Try.stateSize) rfl ?_
          exact ⟨V, cv, by rw [hj'], by rw [← hj']; exact HST.out, HL9.out⟩
      · have h2' : ¬ (64 * ((j : Nat) : Int) < ((n : Nat) : Int)) := by omega
        have hj' : j = countI n := by omega
        have HFN := Lib.hid (hlp.out.ofR hj' HX.out.len)
        go_wp2_with (with_reducible show wpList _ _ _ ({ dst := some 35, op := Op.load _ _, type := _, pos := _, after := _, guard := _ } :: _) _ _; refine Hid.out ?_)
        refine Lib.hid (wpList_load_mid rfl _ _ rfl g3 0 rfl [.slice V j cv, .slice none 0 0, .int .i64 0, .int .i64 (-1), .bool false] _ (hlp.out.box.range (o := 0) (fun i u hi => by rw [Nat.zero_add, List.getElem?_toArray]; exact hi)) Try.underlying30 rfl Try.stateSize ?_)
        refine wpList_store_mids rfl rfl _ _ _ rfl g2 0 [.slice V j cv, .slice none 0 0, .int .i64 0, .int .i64 (-1), .bool false] rfl rfl (hlp.out.res.there (Nat.le_refl _)) Try.stateSize (fun v hv => by
          simp only [List.mem_cons, List.not_mem_nil, or_false] at hv
          rcases hv with rfl | rfl | rfl | rfl | rfl <;> rfl) ?_
        intro w9 hw9
        have hc9 : CellsAt w9 g2 #[.slice V j cv, .slice none 0 0, .int .i64 0, .int .i64 (-1), .bool false] 30 := by
          have := hlp.out.res.sets [.slice V j cv, .slice none 0 0, .int .i64 0, .int .i64 (-1), .bool false] (o := 0)
          rw [hw9]
          exact this
        have hch9 : Chg (fun q => q = g2) wr w9 := by rw [hw9]; exact sets_chg _ _ _
        have hl9 : Later w w9 := hch9.low hlp.out.base (fun q hq => by rw [hq]; exact hlp.out.g2w)
        have HST : Hid (StAt w9 V j none 0 (ofR bs)) := ⟨by
          have hr := hlp.out.own.chg hch9 (fun q hq e => own_ne2 hlp.out.own hlp.out.res (by rw [hq, e])) hl9
          obtain ⟨V', cv', e', -, hrr⟩ := hr.row
          injection e' with e1 e2 e3
          subst e1
          rw [HFN.out]
          rw [← e2] at hrr
          exact hrr, RowK.none, ofR_size bs, (fun x hx => by cases hx), fun _ => rfl⟩
        have HC9 := Lib.hid hc9; have HL9 := Lib.hid hl9
        clear hc9 hl9 hw9 hch9 hlp HFN q0
        refine Lib.hid ?_
        go_wp2
        refine bodyPost_ret (results_cell_row rfl _ _ g2 _ _ _ _ rfl HC9.out Try.underlying30 rfl Try.stateSize) rfl ?_
        exact ⟨V, cv, by rw [hj'], by rw [← hj']; exact HST.out, HL9.out⟩

end Go.Proofs.Ytaonfedjilfgjaa

/-
  The reference's New, as a call.
-/
namespace Go.Proofs.Ytaonfedjilfgjaa
open Go.RowKit

/-- What New makes. -/
def newR (m : Nat) : StP := ⟨List.replicate m (zeros 64), [], 0, -1, false⟩
theorem newR_size (m : Nat) : ∀ b ∈ (newR m).l, b.length = 64 := fun b hb => by
  obtain ⟨_, rfl⟩ := List.mem_replicate.1 hb
  exact zeros_length 64
theorem new_same (m : Nat) : Same (newP m) (newR m) m 0 := ⟨List.length_replicate .., rfl, rfl, rfl, fun _ _ => rfl⟩
/-- What the loop of New keeps. -/
structure NwLp (W w : World) (g2 g3 j : Nat) (V : Option Addr) (cv : Nat) : Prop where
  own : OwnK 47 64 W w (.slice V j cv) (List.replicate j (Lib.byteCells (zeros 64)))
  box : CellsAt w g3 #[.slice V j cv, .slice none 0 0, .int .i64 0, .int .i64 (-1), .bool false] 30
  res : CellsAt w g2 #[.slice none 0 0, .slice none 0 0, .int .i64 0, .int .i64 0, .bool false] 30
  base : Later W w
  g2w : W.heap.size ≤ g2
  g3w : W.heap.size ≤ g3
  ne : g2 ≠ g3
theorem NwLp.next {W w w1 wm w2 : World} {g2 g3 j cv : Nat} {V : Option Addr} {v0 : Value} (h : NwLp W w g2 g3 j V cv) (l : Later w w1) (how : OwnK 47 64 W wm v0 (List.replicate j (Lib.byteCells (zeros 64)) ++ [Lib.byteCells (zeros 64)])) (hgr : w1.grownBy wm (Value.slice V j cv).ownBlock)
    (hbx : CellsAt w2 g3 #[v0, .slice none 0 0, .int .i64 0, .int .i64 (-1), .bool false] 30) (hch : Chg (fun q => q = g3) wm w2) : ∃ V' cv', NwLp W w2 g2 g3 (j + 1) V' cv' := by
  have hc1 : Chg (fun q => (Value.slice V j cv).ownBlock = some q) w1 wm := Chg.grown hgr fun q hq => .inl hq
  have o1 := h.own.on l
  have b1 := h.box.later l; have r1 := h.res.later l
  have bm := b1.chg hc1 (own_ne2 o1 b1); have rm := r1.chg hc1 (own_ne2 o1 r1)
  have hl2 : Later W w2 := hch.low how.later (fun q hq => by rw [hq]; exact h.g3w)
  rw [← List.replicate_succ'] at how
  have o2 := how.chg hch (fun q hq e => own_ne2 how bm (by rw [hq, e])) hl2
  obtain ⟨V', cv', e', -, -⟩ := o2.row
  rw [List.length_replicate] at e'
  subst e'
  exact ⟨V', cv', o2, hbx, rm.chg hch h.ne, hl2, h.g2w, h.g3w, h.ne⟩
set_option maxRecDepth 100000 in
set_option maxHeartbeats 1600000 in
theorem newRef_any (cnt : Int) (w : World) :
    Calls Try.prog 14 #[.int .i64 cnt] w fun e w' => ∃ V cv, e = .returned (.agg #[.slice V (countN cnt) cv, .slice none 0 0, .int .i64 0, .int .i64 (-1), .bool false]) ∧ StAt w' V (countN cnt) none 0 (newR (countN cnt)) ∧ Later w w' ∧ ∀ a, V = some a → w.heap.size ≤ a.block := by
  have hm1 := countN_lo cnt; have hm2 := countN_hi cnt
  have hm3 : countN cnt = (max 1 (min cnt 4096)).toNat := rfl
  go_enter Try.func14, Try.ntmps14
  go_wp2
  have hla : Later w (w.alloc (.cells #[.slice none 0 0, .slice none 0 0, .int .i64 0, .int .i64 0, .bool false] 30)) := (Later.refl w).alloc _
  have hlb : Later (w.alloc (.cells #[.slice none 0 0, .slice none 0 0, .int .i64 0, .int .i64 0, .bool false] 30)) ((w.alloc (.cells #[.slice none 0 0, .slice none 0 0, .int .i64 0, .int .i64 0, .bool false] 30)).alloc (.cells #[.slice none 0 0, .slice none 0 0, .int .i64 0, .int .i64 (-1), .bool false] 30)) := (Later.refl _).alloc _
  have hsz : (w.alloc (.cells #[.slice none 0 0, .slice none 0 0, .int .i64 0, .int .i64 0, .bool false] 30)).heap.size = w.heap.size + 1 := World.size_alloc _ _
  have HST : Hid (NwLp w ((w.alloc (.cells #[.slice none 0 0, .slice none 0 0, .int .i64 0, .int .i64 0, .bool false] 30)).alloc (.cells #[.slice none 0 0, .slice none 0 0, .int .i64 0, .int .i64 (-1), .bool false] 30)) w.heap.size (w.heap.size + 1) 0 none 0) := ⟨OwnK.nil (hla.trans hlb), by rw [← hsz]; exact CellsAt.made _ _ _, (CellsAt.made w _ _).later hlb, hla.trans hlb, Nat.le_refl _, Nat.le_succ _, by omega⟩
  clear hla hlb hsz
  obtain ⟨g2, hg2⟩ : ∃ g, g = w.heap.size := ⟨_, rfl⟩
  obtain ⟨g3, hg3⟩ : ∃ g, g = w.heap.size + 1 := ⟨_, rfl⟩
  rw [← hg3, ← hg2] at HST ⊢
  clear hg2 hg3
  go_loopg [] (countN cnt + 1) (fun g0 wr => ∃ (j : Nat) (V : Option Addr) (cv : Nat), j ≤ countN cnt ∧ countN cnt - j ≤ g0 ∧ Hid (NwLp w wr g2 g3 j V cv))
  case atStart => exact ⟨0, none, 0, Nat.zero_le _, by omega, HST⟩
  case round =>
    clear HST
    obtain ⟨j, V, cv, hj, hg, hlp⟩ := hrel
    have q0 : wr.cell? ⟨g3, 0, none⟩ = some (.slice V j cv) := hlp.out.box.cell rfl
    by_cases hj0 : j < 1
    · have hj0' : ((j : Nat) : Int) < 1 := by omega
      have hj1 : j < countN cnt := by omega
      go_wp2_with (with_reducible show wpList _ _ _ ({ dst := some 24, op := Op.build _ _, type := _, pos := _, after := _, guard := _ } :: _) _ _; refine Hid.out ?_)
      refine Lib.hid (wpList_build_of rfl _ _ rfl [] _ (by simp only [List.map_toArray, List.map_nil]) Try.rblockBuilt ?_)
      refine wpList_block rfl rfl _ _ 25 rfl rfl rfl (zeros 64) (zeros_length 64) (w0 := w) (v := .slice V j cv) (olds := List.replicate j (Lib.byteCells (zeros 64))) rfl (of_decide_eq_true rfl) rfl hlp.out.own (by rw [List.length_replicate]; omega) ?_
      intro w1 v0 wm l how hgr
      have HEND : Hid (∀ w2, CellsAt w2 g3 #[v0, .slice none 0 0, .int .i64 0, .int .i64 (-1), .bool false] 30 → Chg (fun q => q = g3) wm w2 → ∃ V' cv', NwLp w w2 g2 g3 (j + 1) V' cv') := fun w2 hbx hch => NwLp.next hlp.out l how hgr hbx hch
      have hc1 : Chg (fun q => (Value.slice V j cv).ownBlock = some q) w1 wm := Chg.grown hgr fun q hq => .inl hq
      have bm := (hlp.out.box.later l).chg hc1 (own_ne2 (hlp.out.own.on l) (hlp.out.box.later l))
      obtain ⟨V', cv', e', -, -⟩ := how.row
      rw [List.length_append, List.length_replicate, List.length_singleton] at e'
      have hcm : wm.cell? ⟨g3, 0, none⟩ = some (.slice V j cv) := bm.cell rfl
      have hfm : wm.frozen? ⟨g3, 0, none⟩ = false := bm.frozen 0
      have HS1 := Lib.hid (bm.set1 0 v0)
      subst e'
      clear how hgr hc1 bm l hlp q0
      simp only [Act.put, List.setIfInBounds_toArray, List.set_cons_zero, List.set_cons_succ]
      go_wp2
      obtain ⟨V2, cv2, hn'⟩ := HEND.out _ HS1.out (chg_set _ _ _ _)
      go_roundg (countN cnt - (j + 1))
      case measure => omega
      case rel => exact ⟨j + 1, V2, cv2, by omega, by omega, hn'⟩
    · have hj0' : ¬ ((j : Nat) : Int) < 1 := by omega
      by_cases h2 : ((j : Nat) : Int) < cnt
      · by_cases h3 : j < 4096
        · have h3' : ((j : Nat) : Int) < 4096 := by omega
          have hj1 : j < countN cnt := by omega
          go_wp2_with (with_reducible show wpList _ _ _ ({ dst := some 24, op := Op.build _ _, type := _, pos := _, after := _, guard := _ } :: _) _ _; refine Hid.out ?_)
          refine Lib.hid (wpList_build_of rfl _ _ rfl [] _ (by simp only [List.map_toArray, List.map_nil]) Try.rblockBuilt ?_)
          refine wpList_block rfl rfl _ _ 25 rfl rfl rfl (zeros 64) (zeros_length 64) (w0 := w) (v := .slice V j cv) (olds := List.replicate j (Lib.byteCells (zeros 64))) rfl (of_decide_eq_true rfl) rfl hlp.out.own (by rw [List.length_replicate]; omega) ?_
          intro w1 v0 wm l how hgr
          have HEND : Hid (∀ w2, CellsAt w2 g3 #[v0, .slice none 0 0, .int .i64 0, .int .i64 (-1), .bool false] 30 → Chg (fun q => q = g3) wm w2 → ∃ V' cv', NwLp w w2 g2 g3 (j + 1) V' cv') := fun w2 hbx hch => NwLp.next hlp.out l how hgr hbx hch
          have hc1 : Chg (fun q => (Value.slice V j cv).ownBlock = some q) w1 wm := Chg.grown hgr fun q hq => .inl hq
          have bm := (hlp.out.box.later l).chg hc1 (own_ne2 (hlp.out.own.on l) (hlp.out.box.later l))
          obtain ⟨V', cv', e', -, -⟩ := how.row
          rw [List.length_append, List.length_replicate, List.length_singleton] at e'
          have hcm : wm.cell? ⟨g3, 0, none⟩ = some (.slice V j cv) := bm.cell rfl
          have hfm : wm.frozen? ⟨g3, 0, none⟩ = false := bm.frozen 0
          have HS1 := Lib.hid (bm.set1 0 v0)
          subst e'
          clear how hgr hc1 bm l hlp q0
          simp only [Act.put, List.setIfInBounds_toArray, List.set_cons_zero, List.set_cons_succ]
          go_wp2
          obtain ⟨V2, cv2, hn'⟩ := HEND.out _ HS1.out (chg_set _ _ _ _)
          go_roundg (countN cnt - (j + 1))
          case measure => omega
          case rel => exact ⟨j + 1, V2, cv2, by omega, by omega, hn'⟩
        · have h3' : ¬ ((j : Nat) : Int) < 4096 := by omega
          have hj' : j = countN cnt := by omega
          have HFN : Hid ((newR (countN cnt)).l.map Lib.byteCells = List.replicate j (Lib.byteCells (zeros 64))) := by show (List.replicate (countN cnt) (zeros 64)).map Lib.byteCells = _; rw [List.map_replicate, hj']
          go_wp2_with (with_reducible show wpList _ _ _ ({ dst := some 28, op := Op.load _ _, type := _, pos := _, after := _, guard := _ } :: _) _ _; refine Hid.out ?_)
          refine Lib.hid (wpList_load_mid rfl _ _ rfl g3 0 rfl [.slice V j cv, .slice none 0 0, .int .i64 0, .int .i64 (-1), .bool false] _ (hlp.out.box.range (o := 0) (fun i u hi => by rw [Nat.zero_add, List.getElem?_toArray]; exact hi)) Try.underlying30 rfl Try.stateSize ?_)
          refine wpList_store_mids rfl rfl _ _ _ rfl g2 0 [.slice V j cv, .slice none 0 0, .int .i64 0, .int .i64 (-1), .bool false] rfl rfl (hlp.out.res.there (Nat.le_refl _)) Try.stateSize (fun v hv => by
            simp only [List.mem_cons, List.not_mem_nil, or_false] at hv
            rcases hv with rfl | rfl | rfl | rfl | rfl <;> rfl) ?_
          intro w9 hw9
          have hc9 : CellsAt w9 g2 #[.slice V j cv, .slice none 0 0, .int .i64 0, .int .i64 (-1), .bool false] 30 := by
            have := hlp.out.res.sets [.slice V j cv, .slice none 0 0, .int .i64 0, .int .i64 (-1), .bool false] (o := 0)
            rw [hw9]
            exact this
          have hch9 : Chg (fun q => q = g2) wr w9 := by rw [hw9]; exact sets_chg _ _ _
          have hl9 : Later w w9 := hch9.low hlp.out.base (fun q hq => by rw [hq]; exact hlp.out.g2w)
          have HST : Hid (StAt w9 V j none 0 (newR (countN cnt))) := ⟨by
            have hr := hlp.out.own.chg hch9 (fun q hq e => own_ne2 hlp.out.own hlp.out.res (by rw [hq, e])) hl9
            obtain ⟨V', cv', e', -, hrr⟩ := hr.row
            injection e' with e1 e2 e3
            subst e1
            rw [HFN.out]
            rw [← e2] at hrr
            exact hrr, RowK.none, newR_size _, (fun x hx => by cases hx), fun _ => rfl⟩
          have HC9 := Lib.hid hc9; have HL9 := Lib.hid hl9
          have HV : Hid (∀ a, V = some a → w.heap.size ≤ a.block) := fun a ha => (hlp.out.own.lt a.block (by rw [ha]; rfl)).1
          clear hc9 hl9 hw9 hch9 hlp HFN q0
          refine Lib.hid ?_
          go_wp2
          refine bodyPost_ret (results_cell_row rfl _ _ g2 _ _ _ _ rfl HC9.out Try.underlying30 rfl Try.stateSize) rfl ?_
          exact ⟨V, cv, by rw [hj'], by have h := HST.out; rw [hj'] at h; exact h, HL9.out, HV.out⟩
      · have hj' : j = countN cnt := by omega
        have HFN : Hid ((newR (countN cnt)).l.map Lib.byteCells = List.replicate j (Lib.byteCells (zeros 64))) := by show (List.replicate (countN cnt) (zeros 64)).map Lib.byteCells = _; rw [List.map_replicate, hj']
        go_wp2_with (with_reducible show wpList _ _ _ ({ dst := some 28, op := Op.load _ _, type := _, pos := _, after := _, guard := _ } :: _) _ _; refine Hid.out ?_)
        refine Lib.hid (wpList_load_mid rfl _ _ rfl g3 0 rfl [.slice V j cv, .slice none 0 0, .int .i64 0, .int .i64 (-1), .bool false] _ (hlp.out.box.range (o := 0) (fun i u hi => by rw [Nat.zero_add, List.getElem?_toArray]; exact hi)) Try.underlying30 rfl Try.stateSize ?_)
        refine wpList_store_mids rfl rfl _ _ _ rfl g2 0 [.slice V j cv, .slice none 0 0, .int .i64 0, .int .i64 (-1), .bool false] rfl rfl (hlp.out.res.there (Nat.le_refl _)) Try.stateSize (fun v hv => by
          simp only [List.mem_cons, List.not_mem_nil, or_false] at hv
          rcases hv with rfl | rfl | rfl | rfl | rfl <;> rfl) ?_
        intro w9 hw9
        have hc9 : CellsAt w9 g2 #[.slice V j cv, .slice none 0 0, .int .i64 0, .int .i64 (-1), .bool false] 30 := by
          have := hlp.out.res.sets [.slice V j cv, .slice none 0 0, .int .i64 0, .int .i64 (-1), .bool false] (o := 0)
          rw [hw9]
          exact this
        have hch9 : Chg (fun q => q = g2) wr w9 := by rw [hw9]; exact sets_chg _ _ _
        have hl9 : Later w w9 := hch9.low hlp.out.base (fun q hq => by rw [hq]; exact hlp.out.g2w)
        have HST : Hid (StAt w9 V j none 0 (newR (countN cnt))) := ⟨by
          have hr := hlp.out.own.chg hch9 (fun q hq e => own_ne2 hlp.out.own hlp.out.res (by rw [hq, e])) hl9
          obtain ⟨V', cv', e', -, hrr⟩ := hr.row
          injection e' with e1 e2 e3
          subst e1
          rw [HFN.out]
          rw [← e2] at hrr
          exact hrr, RowK.none, newR_size _, (fun x hx => by cases hx), fun _ => rfl⟩
        have HC9 := Lib.hid hc9; have HL9 := Lib.hid hl9
        have HV : Hid (∀ a, V = some a → w.heap.size ≤ a.block) := fun a ha => (hlp.out.own.lt a.block (by rw [ha]; rfl)).1
        clear hc9 hl9 hw9 hch9 hlp HFN q0
        refine Lib.hid ?_
        go_wp2
        refine bodyPost_ret (results_cell_row rfl _ _ g2 _ _ _ _ rfl HC9.out Try.underlying30 rfl Try.stateSize) rfl ?_
        exact ⟨V, cv, by rw [hj'], by have h := HST.out; rw [hj'] at h; exact h, HL9.out, HV.out⟩

end Go.Proofs.Ytaonfedjilfgjaa
