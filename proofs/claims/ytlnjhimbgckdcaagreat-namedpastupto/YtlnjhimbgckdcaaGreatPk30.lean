import Derived.Test.YtlnjhimbgckdcaaGreatPk16
import Derived.Test.YtlnjhimbgckdcaaGreatPk29

/-
  A region that draws its order: calls and reads in any order, boxes that are made beside them, and stores into these boxes at its end, one behind the other.
-/
namespace Go.Proofs.YtlnjhimbgckdcaaGreat
open Go.RowKit Go.Maps

structure BoxO where
  al : Nat
  st : Nat
  src : Nat
  T : TypeId
  zs : Array Value
def Down (ops : Array Oper) (l : Nat -> Bool) : Prop := ∀ i o, ops[i]? = some o -> l i = true -> ∀ e ∈ o.after, Region.binds .any e = true -> l e.on = true
theorem Down.add {ops : Array Oper} {l : Nat -> Bool} {i : Nat} {o : Oper} (h : Down ops l) (ho : ops[i]? = some o) (hw : ∀ e ∈ o.after, Region.binds .any e = true -> l e.on = true) : Down ops (more l i) := by
  have key : ∀ j, l j = true -> more l i j = true := fun j hj => by
    by_cases e : j = i
    · subst e; exact more_same l j
    · rw [more_other l e]; exact hj
  intro j o' hj hl e he hb
  by_cases e' : j = i
  · subst e'
    rw [ho] at hj
    cases hj
    exact key _ (hw e he hb)
  · rw [more_other l e'] at hl
    exact key _ (h j o' hj hl e he hb)
theorem OpIs.back {ops : Array Oper} {i : Nat} {op : Op} {dst : Option Tmp} {js : List Nat} (h : OpIs ops i op dst js) {l : Nat -> Bool} (hd : Down ops l) (hi : l i = true) : ∀ j ∈ js, l j = true := by
  obtain ⟨o, h1, h2⟩ := h
  exact OpIs.waits ⟨o, h1, h2⟩ h1 (hd i o h1 hi)
def Wrote : List (Nat × Array Value × Array Value × TypeId) -> World -> World -> Prop
  | [], w, w' => w' = w
  | r :: rs, w, w' => ∃ wm, BoxAt w r.1 r.2.2.1 r.2.2.2 /\ Turned r.1 w wm /\ BoxAt wm r.1 r.2.1 r.2.2.2 /\ Wrote rs wm w'
theorem Wrote.snoc {r : Nat × Array Value × Array Value × TypeId} : ∀ {rs : List (Nat × Array Value × Array Value × TypeId)} {w w' w'' : World}, Wrote rs w w' -> BoxAt w' r.1 r.2.2.1 r.2.2.2 -> Turned r.1 w' w'' -> BoxAt w'' r.1 r.2.1 r.2.2.2 -> Wrote (rs ++ [r]) w w''
  | [], _, _, _, h, h1, h2, h3 => by cases h; exact ⟨_, h1, h2, h3, rfl⟩
  | _ :: _, _, _, _, ⟨wm, k1, k2, k3, k4⟩, h1, h2, h3 => ⟨wm, k1, k2, k3, k4.snoc h1 h2 h3⟩
theorem Wrote.other {g : Nat} {cs : Array Value} {T : TypeId} : ∀ {rs : List (Nat × Array Value × Array Value × TypeId)} {w w' : World}, Wrote rs w w' -> (∀ r ∈ rs, r.1 ≠ g) -> BoxAt w g cs T -> BoxAt w' g cs T
  | [], _, _, h, _, hb => by cases h; exact hb
  | r :: _, _, _, ⟨_, _, k2, _, k4⟩, hne, hb => k4.other (fun r' h' => hne r' (List.mem_cons_of_mem _ h')) (hb.other k2 (fun e => hne r List.mem_cons_self e.symm))
structure Recs (ds : List Nat) (a : Act) (bs : List BoxO) (rs : List (Nat × Array Value × Array Value × TypeId)) : Prop where
  len : rs.length = bs.length
  at_ : ∀ (t : Nat) (b : BoxO) r, bs[t]? = some b -> rs[t]? = some r -> a.eval (.tmp (ds.getD b.al 0)) = .pointer (some ⟨r.1, 0, none⟩) /\ (a.eval (.tmp (ds.getD b.src 0))).cells = r.2.1 /\ r.2.2.1 = b.zs /\ r.2.2.2 = b.T
theorem Recs.nil (ds : List Nat) (a : Act) : Recs ds a [] [] := ⟨rfl, fun t b r h => by simp at h⟩
theorem Recs.put {ds : List Nat} {a : Act} {bs : List BoxO} {rs : List (Nat × Array Value × Array Value × TypeId)} (h : Recs ds a bs rs) {k : Nat} (hk : ∀ b ∈ bs, ds.getD b.al 0 ≠ k /\ ds.getD b.src 0 ≠ k) (v : Value) : Recs ds (a.put (some k) v) bs rs :=
  ⟨h.len, fun t b r hb hr => by
    obtain ⟨h1, h2, h3⟩ := h.at_ t b r hb hr
    have hne := hk b (List.mem_of_getElem? hb)
    exact ⟨(eval_put_other' _ _ (fun e => hne.1 e.symm)).trans h1, by rw [eval_put_other' _ _ (fun e => hne.2 e.symm)]; exact h2, h3⟩⟩
theorem Recs.snoc {ds : List Nat} {a : Act} {bs : List BoxO} {rs : List (Nat × Array Value × Array Value × TypeId)} {b : BoxO} {r : Nat × Array Value × Array Value × TypeId} (h : Recs ds a bs rs) (h1 : a.eval (.tmp (ds.getD b.al 0)) = .pointer (some ⟨r.1, 0, none⟩)) (h2 : (a.eval (.tmp (ds.getD b.src 0))).cells = r.2.1) (h3 : r.2.2.1 = b.zs) (h4 : r.2.2.2 = b.T) : Recs ds a (bs ++ [b]) (rs ++ [r]) := by
  refine ⟨by simp [h.len], fun t b' r' hb hr => ?_⟩
  rcases Nat.lt_or_ge t bs.length with hlt | hge
  · rw [List.getElem?_append_left hlt] at hb
    rw [List.getElem?_append_left (by rw [h.len]; exact hlt)] at hr
    exact h.at_ t b' r' hb hr
  · rw [List.getElem?_append_right hge] at hb
    rw [List.getElem?_append_right (by rw [h.len]; exact hge), h.len] at hr
    cases hq : t - bs.length with
    | zero => rw [hq] at hb hr; simp at hb hr; subst hb hr; exact ⟨h1, h2, h3, h4⟩
    | succ m => rw [hq] at hb; simp at hb

set_option maxHeartbeats 1600000 in
theorem region_calls {P : Program} {ops : Array Oper} {Q : Exit -> Act -> World -> Prop} {id : Nat} {a1 : Act} {wx : World} {n : Nat} (hm : P.follows .mixedOrders = true) (hg : goesBack ops = true) (hn : ops.size = n) (ds : List Nat) (hnd : ds.Nodup) (hlen : ds.length = n) (os : List Nat) (bs : List BoxO) (isA isS pure : Nat -> Bool)
    (hos : ∀ i, i < n -> isS i = false -> ds.getD i 0 ∈ os) (hsz : ∀ i, i < n -> isS i = false -> ds.getD i 0 < a1.tmps.size) (R : (Nat -> Prop) -> Nat -> Value -> World -> Prop) (hmono : ∀ (G : Nat -> Prop) (k : Nat) (v : Value) (w : World) (g : Nat), k < n -> R G k v w -> w.heap.size <= g -> R (fun j => G j ∨ j = g) k v w)
    (hA : ∀ i, isA i = true -> ∃ b ∈ bs, b.al = i) (hS : ∀ i, isS i = true -> ∃ b ∈ bs, b.st = i) (hbn : ∀ b ∈ bs, b.al < n /\ b.st < n /\ b.src < n /\ isA b.al = true /\ isS b.st = true /\ isS b.al = false /\ isS b.src = false /\ pure b.al = false /\ pure b.st = false)
    (hpre : ∀ l, Down ops l -> ∀ b ∈ bs, l b.st = true -> ∀ i, i < n -> pure i = false -> isS i = false -> l i = true)
    (hdep : ∀ l, Down ops l -> ∀ b ∈ bs, l b.st = true -> l b.al = true /\ l b.src = true)
    (hord : ∀ l, Down ops l -> ∀ (t : Nat) b b', bs[t]? = some b -> bs[t + 1]? = some b' -> l b'.st = true -> l b.st = true)
    (huniq : ∀ (t t' : Nat) b b', bs[t]? = some b -> bs[t']? = some b' -> b.st = b'.st ∨ b.al = b'.al -> t = t')
    (hal : ∀ b ∈ bs, ∀ (a : Act) (w : World) (K : Act -> World -> Prop), K (a.put (some (ds.getD b.al 0)) (.pointer (some ⟨w.heap.size, 0, none⟩))) (w.alloc (.cells b.zs b.T)) -> wpOp P ops Q b.al K a w)
    (hst : ∀ b ∈ bs, ∀ (a : Act) (w w0 : World) (G : Nat -> Prop) (g : Nat) (v : Value) (K : Act -> World -> Prop), a.eval (.tmp (ds.getD b.al 0)) = .pointer (some ⟨g, 0, none⟩) -> a.eval (.tmp (ds.getD b.src 0)) = v -> R G b.src v w0 -> BoxAt w g b.zs b.T -> (∀ w', BoxAt w' g v.cells b.T -> Turned g w w' -> K a w') -> wpOp P ops Q b.st K a w)
    (hstep : ∀ (G : Nat -> Prop) (l : Nat -> Bool) (a : Act) (w : World) (i : Nat) (o : Oper) (K : Act -> World -> Prop), ops[i]? = some o -> i < n -> pure i = false -> isA i = false -> isS i = false -> (∀ e ∈ o.after, Region.binds .any e = true -> l e.on = true) -> SameOut a1 a os -> Later wx w -> (∀ g, G g -> wx.heap.size <= g /\ g < w.heap.size) -> Known wx ds n (R G) l a w -> (∀ v w', Later w w' -> R G i v w' -> K (a.put (some (ds.getD i 0)) v) w') -> wpOp P ops Q i K a w)
    (hpure : ∀ (G : Nat -> Prop) (l : Nat -> Bool) (a : Act) (w w1 : World) (i : Nat) (o : Oper) (K : Act -> World -> Prop), ops[i]? = some o -> i < n -> pure i = true -> (∀ e ∈ o.after, Region.binds .any e = true -> l e.on = true) -> SameOut a1 a os -> Later wx w1 -> Known wx ds n (R G) l a w1 -> (∀ v, R G i v w1 -> K (a.put (some (ds.getD i 0)) v) w) -> wpOp P ops Q i K a w)
    (hR : ∀ b ∈ bs, ∀ G v w, R G b.al v w ↔ ∃ g, v = .pointer (some ⟨g, 0, none⟩) /\ wx.heap.size <= g /\ BoxAt w g b.zs b.T) (hRs : ∀ i, isS i = true -> ∀ G v w, R G i v w)
    (hend : ∀ (G : Nat -> Prop) a w1 w rs, SameOut a1 a os -> Later wx w1 -> Known wx ds n (R G) (fun _ => true) a w1 -> (∀ r ∈ rs, G r.1) -> (∀ g, G g -> wx.heap.size <= g /\ g < w1.heap.size) -> (∀ (t t' : Nat) r r', rs[t]? = some r -> rs[t']? = some r' -> t ≠ t' -> r.1 ≠ r'.1) -> Recs ds a bs rs -> Wrote rs w1 w -> Q .normal a w) : (Code.region id ops true).wp P Q a1 wx := by
  refine region_inv hm hg (fun l a w => SameOut a1 a os /\ Down ops l /\ (∀ b ∈ bs, ∀ b' ∈ bs, b.al ≠ b'.al -> l b.al = true -> l b'.al = true -> a.eval (.tmp (ds.getD b.al 0)) ≠ a.eval (.tmp (ds.getD b'.al 0))) /\ ∃ (G : Nat -> Prop) (j : Nat) (w1 : World) (rs : List (Nat × Array Value × Array Value × TypeId)), (∀ (t : Nat) b, bs[t]? = some b -> (l b.st = true ↔ t < j)) /\ j <= bs.length /\ Later wx w1 /\ ((∀ b ∈ bs, l b.al = true -> ∀ g, a.eval (.tmp (ds.getD b.al 0)) = .pointer (some ⟨g, 0, none⟩) -> G g) /\ ∀ g, G g -> wx.heap.size <= g /\ g < w1.heap.size) /\ Known wx ds n (R G) l a w1 /\ Recs ds a (bs.take j) rs /\ Wrote rs w1 w) ?_ ?_ ?_
  · intro l a w i o ho hl hwait ⟨so, dn, di, G, j, w1, rs, hj, hjb, hL, ⟨hG1, hG2⟩, hk, hrec, hwr⟩
    have hi : i < n := by rw [← hn]; exact (Array.getElem?_eq_some_iff.1 ho).1
    have hdn := dn.add ho hwait
    -- a slot of another operation
    have hother : ∀ k, k < n -> k ≠ i -> ds.getD k 0 ≠ ds.getD i 0 := fun k hk e => getD_inj hnd (by omega) (by omega) e
    have hrecp : ∀ v, Recs ds (a.put (some (ds.getD i 0)) v) (bs.take j) rs := fun v => by
      refine hrec.put (fun b hb => ?_) v
      obtain ⟨t, ht⟩ := List.mem_iff_getElem?.1 hb
      have hlt : t < j := by
        have := (List.getElem?_eq_some_iff.1 ht).1
        rw [List.length_take] at this; omega
      rw [List.getElem?_take, if_pos hlt] at ht
      have hbm := List.mem_of_getElem? ht
      have hd := hdep l dn b hbm ((hj t b ht).2 hlt)
      obtain ⟨n1, n2, n3, _⟩ := hbn b hbm
      exact ⟨hother _ n1 (fun e => by rw [e, hl] at hd; cases hd.1), hother _ n3 (fun e => by rw [e, hl] at hd; cases hd.2)⟩
    have hdip : ∀ v, isA i = false -> ∀ b ∈ bs, ∀ b' ∈ bs, b.al ≠ b'.al -> more l i b.al = true -> more l i b'.al = true -> (a.put (some (ds.getD i 0)) v).eval (.tmp (ds.getD b.al 0)) ≠ (a.put (some (ds.getD i 0)) v).eval (.tmp (ds.getD b'.al 0)) := fun v hna b hb b' hb' hne h1 h2 => by
      have e1 : b.al ≠ i := fun e => by rw [← e, (hbn b hb).2.2.2.1] at hna; cases hna
      have e2 : b'.al ≠ i := fun e => by rw [← e, (hbn b' hb').2.2.2.1] at hna; cases hna
      rw [more_other l e1] at h1
      rw [more_other l e2] at h2
      rw [eval_put_other' _ _ (fun e => hother _ (hbn b hb).1 e1 e.symm), eval_put_other' _ _ (fun e => hother _ (hbn b' hb').1 e2 e.symm)]
      exact di b hb b' hb' hne h1 h2
    have hjm : isS i = false -> ∀ (t : Nat) b, bs[t]? = some b -> (more l i b.st = true ↔ t < j) := fun hns t b hb => by
      have : b.st ≠ i := fun e => by rw [← e, (hbn b (List.mem_of_getElem? hb)).2.2.2.2.1] at hns; cases hns
      rw [more_other l this]
      exact hj t b hb
    have hkn : ∀ v (w2 w3 : World), Later w1 w2 -> Later w1 w3 -> Later w2 w3 -> R G i v w2 -> isS i = false -> Known wx ds n (R G) (more l i) (a.put (some (ds.getD i 0)) v) w3 := by
      intro v w2 w3 h12 h13 h23 hr hns q hq hqn
      by_cases e : q = i
      · subst e
        refine ⟨w2, hL.trans h12, h23, ?_⟩
        rw [eval_put_same' _ _ _ (by rw [so.size]; exact hsz q hi hns)]
        exact hr
      · rw [more_other l e] at hq
        obtain ⟨w0, h1, h2, h3⟩ := hk q hq hqn
        refine ⟨w0, h1, h2.trans h13, ?_⟩
        rw [eval_put_other' _ _ (fun e' => hother q hqn e e'.symm)]
        exact h3
    have hG1p : ∀ v, isA i = false -> ∀ b ∈ bs, more l i b.al = true -> ∀ g, (a.put (some (ds.getD i 0)) v).eval (.tmp (ds.getD b.al 0)) = .pointer (some ⟨g, 0, none⟩) -> G g := fun v hna b hb h1 g hg' => by
      have e1 : b.al ≠ i := fun e => by rw [← e, (hbn b hb).2.2.2.1] at hna; cases hna
      rw [more_other l e1] at h1
      rw [eval_put_other' _ _ (fun e => hother _ (hbn b hb).1 e1 e.symm)] at hg'
      exact hG1 b hb h1 g hg'
    have hj0 : pure i = false -> isS i = false -> j = 0 := fun hp hs => by
      rcases Nat.eq_zero_or_pos j with h | h
      · exact h
      · have hb : bs[0]? = some bs[0] := List.getElem?_eq_getElem (by omega)
        have := hpre l dn _ (List.mem_of_getElem? hb) ((hj 0 _ hb).2 h) i hi hp hs
        rw [hl] at this; cases this
    cases hs : isS i with
    | true =>
      obtain ⟨b, hb, rfl⟩ := hS i hs
      obtain ⟨t, ht⟩ := List.mem_iff_getElem?.1 hb
      have htl := (List.getElem?_eq_some_iff.1 ht).1
      have htj : t = j := by
        have h1 : ¬ t < j := fun h => by rw [(hj t b ht).2 h] at hl; cases hl
        rcases t with _ | t
        · omega
        · have hb' : bs[t]? = some bs[t] := List.getElem?_eq_getElem (by omega)
          have := hord _ hdn t _ b hb' ht (more_same l _)
          rw [more_other l (fun e => by have := huniq t (t + 1) _ _ hb' ht (.inl e); omega)] at this
          have := (hj t _ hb').1 this
          omega
      subst htj
      obtain ⟨d1, d2⟩ := hdep _ hdn b hb (more_same l _)
      obtain ⟨n1, n2, n3, n4, n5, n6, n7, n8, n9⟩ := hbn b hb
      have e1 : b.al ≠ b.st := fun e => by rw [e, n5] at n6; cases n6
      have e2 : b.src ≠ b.st := fun e => by rw [e, n5] at n7; cases n7
      rw [more_other l e1] at d1
      rw [more_other l e2] at d2
      obtain ⟨w0, k1, k2, k3⟩ := hk b.al d1 n1
      obtain ⟨g, hv, hgw, hbox⟩ := (hR b hb _ _ _).1 k3
      obtain ⟨w0', k1', k2', k3'⟩ := hk b.src d2 n3
      have hne : ∀ r ∈ rs, r.1 ≠ g := by
        intro r hr e
        obtain ⟨t', ht'⟩ := List.mem_iff_getElem?.1 hr
        have hlt' := (List.getElem?_eq_some_iff.1 ht').1
        rw [hrec.len, List.length_take] at hlt'
        have hbt : bs[t']? = some bs[t'] := List.getElem?_eq_getElem (by omega)
        have hbm := List.mem_of_getElem? hbt
        have h1 := (hrec.at_ t' bs[t'] r (by rw [List.getElem?_take, if_pos (by omega)]; exact hbt) ht').1
        refine di _ hbm b hb (fun e' => ?_) (hdep l dn _ hbm ((hj t' _ hbt).2 (by omega))).1 d1 (by rw [h1, hv, e])
        have := huniq t' t _ _ hbt ht (.inr e')
        omega
      refine hst b hb a w w0' G g _ _ hv rfl k3' (hwr.other hne (hbox.later k2)) fun w' hb' ht' => ?_
      refine ⟨so, hdn, fun c hc c' hc' hcc h1 h2 => ?_, G, t + 1, w1, rs ++ [(g, (a.eval (.tmp (ds.getD b.src 0))).cells, b.zs, b.T)], fun t' c hc => ?_, by omega, hL, ⟨fun c hc h1 g' hg' => ?_, hG2⟩, fun q hq hqn => ?_, ?_, hwr.snoc (hwr.other hne (hbox.later k2)) ht' hb'⟩
      · have f1 : c.al ≠ b.st := fun e => by have := (hbn c hc).2.2.2.2.2.1; rw [e, n5] at this; cases this
        have f2 : c'.al ≠ b.st := fun e => by have := (hbn c' hc').2.2.2.2.2.1; rw [e, n5] at this; cases this
        rw [more_other l f1] at h1
        rw [more_other l f2] at h2
        exact di c hc c' hc' hcc h1 h2
      · by_cases e : c.st = b.st
        · have := huniq t' t c b hc ht (.inl e)
          subst this
          rw [e, more_same]
          exact ⟨fun _ => Nat.lt_succ_self _, fun _ => rfl⟩
        · rw [more_other l e, hj t' c hc]
          have : t' ≠ t := fun e' => by subst e'; rw [hc] at ht; cases ht; exact e rfl
          omega
      · have f1 : c.al ≠ b.st := fun e => by have := (hbn c hc).2.2.2.2.2.1; rw [e, n5] at this; cases this
        rw [more_other l f1] at h1
        exact hG1 c hc h1 g' hg'
      · by_cases e : q = b.st
        · subst e
          exact ⟨w1, hL, Later.refl _, hRs _ hs _ _ _⟩
        · rw [more_other l e] at hq
          exact hk q hq hqn
      · have e3 : bs.take (t + 1) = bs.take t ++ [b] := by rw [List.take_add_one, ht]; rfl
        rw [e3]
        exact hrec.snoc hv rfl rfl rfl
    | false =>
      cases hp : pure i with
      | true =>
        have hna : isA i = false := by
          cases h : isA i with
          | false => rfl
          | true => obtain ⟨b, hb, rfl⟩ := hA i h; have := (hbn b hb).2.2.2.2.2.2.2.1; rw [hp] at this; cases this
        refine hpure G l a w w1 i o _ ho hi hp hwait so hL hk fun v hr => ?_
        exact ⟨so.put (hos _ hi hs) v, hdn, hdip v hna, G, j, w1, rs, hjm hs, hjb, hL, ⟨hG1p v hna, hG2⟩, hkn v w1 w1 (Later.refl _) (Later.refl _) (Later.refl _) hr hs, hrecp v, hwr⟩
      | false =>
        have h0 := hj0 hp hs
        subst h0
        have hw : w = w1 := by
          have : rs = [] := List.eq_nil_of_length_eq_zero (by rw [hrec.len]; simp)
          subst this
          exact hwr
        subst hw
        have hrn : ∀ v, Recs ds (a.put (some (ds.getD i 0)) v) (bs.take 0) [] := fun v => Recs.nil _ _
        cases ha : isA i with
        | true =>
          obtain ⟨b, hb, rfl⟩ := hA i ha
          refine hal b hb a w _ ?_
          have hlw : Later w (w.alloc (.cells b.zs b.T)) := (Later.refl w).alloc _
          have old : ∀ c ∈ bs, l c.al = true -> c.al ≠ b.al -> a.eval (.tmp (ds.getD c.al 0)) ≠ .pointer (some ⟨w.heap.size, 0, none⟩) := fun c hc h1 hne e => by
            obtain ⟨w0, k1, k2, k3⟩ := hk c.al h1 (hbn c hc).1
            obtain ⟨g, hv, _, hbox⟩ := (hR c hc _ _ _).1 k3
            rw [hv] at e
            cases e
            have h1 := hbox.lt; have h2 := k2.le
            omega
          have hnew : (a.put (some (ds.getD b.al 0)) (.pointer (some ⟨w.heap.size, 0, none⟩))).eval (.tmp (ds.getD b.al 0)) = .pointer (some ⟨w.heap.size, 0, none⟩) := eval_put_same' _ _ _ (by rw [so.size]; exact hsz _ hi hs)
          refine ⟨so.put (hos _ hi hs) _, hdn, fun c hc c' hc' hcc h1 h2 => ?_, (fun j => G j ∨ j = w.heap.size), 0, w.alloc (.cells b.zs b.T), [], hjm hs, hjb, hL.trans hlw, ⟨fun c hc h1 g hg' => ?_, fun g hg' => ?_⟩, fun q hq hqn => ?_, hrn _, rfl⟩
          · by_cases f1 : c.al = b.al
            · have f2 : c'.al ≠ b.al := fun e => hcc (f1.trans e.symm)
              rw [more_other l f2] at h2
              rw [f1, hnew, eval_put_other' _ _ (fun e => hother _ (hbn c' hc').1 f2 e.symm)]
              exact fun e => old c' hc' h2 f2 e.symm
            · rw [more_other l f1] at h1
              rw [eval_put_other' _ _ (fun e => hother _ (hbn c hc).1 f1 e.symm)]
              by_cases f2 : c'.al = b.al
              · rw [f2, hnew]
                exact old c hc h1 f1
              · rw [more_other l f2] at h2
                rw [eval_put_other' _ _ (fun e => hother _ (hbn c' hc').1 f2 e.symm)]
                exact di c hc c' hc' hcc h1 h2
          · by_cases f1 : c.al = b.al
            · rw [f1, hnew] at hg'
              cases hg'
              exact .inr rfl
            · rw [more_other l f1] at h1
              rw [eval_put_other' _ _ (fun e => hother _ (hbn c hc).1 f1 e.symm)] at hg'
              exact .inl (hG1 c hc h1 g hg')
          · rcases hg' with h | rfl
            · have := hG2 g h
              rw [World.size_alloc]
              omega
            · rw [World.size_alloc]
              exact ⟨hL.le, Nat.lt_succ_self _⟩
          · by_cases e : q = b.al
            · subst e
              refine ⟨_, hL.trans hlw, Later.refl _, ?_⟩
              rw [hnew]
              exact (hR b hb _ _ _).2 ⟨_, rfl, hL.le, BoxAt.made w b.zs b.T⟩
            · rw [more_other l e] at hq
              obtain ⟨w0, h1, h2, h3⟩ := hk q hq hqn
              refine ⟨w0, h1, h2.trans hlw, ?_⟩
              rw [eval_put_other' _ _ (fun e' => hother q hqn e e'.symm)]
              exact hmono G q _ w0 _ hqn h3 h2.le
        | false =>
          refine hstep G l a w i o _ ho hi hp ha hs hwait so hL hG2 hk fun v w' hlw hr => ?_
          exact ⟨so.put (hos _ hi hs) v, hdn, hdip v ha, G, 0, w', [], hjm hs, hjb, hL.trans hlw, ⟨hG1p v ha, fun g hg' => ⟨(hG2 g hg').1, Nat.lt_of_lt_of_le (hG2 g hg').2 hlw.le⟩⟩, hkn v w' w' hlw hlw (Later.refl _) hr hs, hrn v, rfl⟩
  · intro l a w hall ⟨so, dn, di, G, j, w1, rs, hj, hjb, hL, ⟨hG1, hG2⟩, hk, hrec, hwr⟩
    rw [hn] at hall
    have hjl : j = bs.length := by
      rcases Nat.lt_or_ge j bs.length with h | h
      · have hb : bs[j]? = some bs[j] := List.getElem?_eq_getElem h
        have := (hj j _ hb).1 (hall _ (hbn _ (List.mem_of_getElem? hb)).2.1)
        omega
      · omega
    subst hjl
    rw [List.take_length] at hrec
    refine hend G a w1 w rs so hL (fun q _ hqn => hk q (hall q hqn) hqn) (fun r hr => ?_) hG2 (fun t t' r r' h1 h2 hne e => ?_) hrec hwr
    · obtain ⟨t, ht⟩ := List.mem_iff_getElem?.1 hr
      have l1 := (List.getElem?_eq_some_iff.1 ht).1
      rw [hrec.len] at l1
      have b1 : bs[t]? = some bs[t] := List.getElem?_eq_getElem l1
      have m1 := List.mem_of_getElem? b1
      exact hG1 _ m1 (hall _ (hbn _ m1).1) _ (hrec.at_ t _ r b1 ht).1
    have l1 := (List.getElem?_eq_some_iff.1 h1).1; have l2 := (List.getElem?_eq_some_iff.1 h2).1
    rw [hrec.len] at l1 l2
    have b1 : bs[t]? = some bs[t] := List.getElem?_eq_getElem l1
    have b2 : bs[t']? = some bs[t'] := List.getElem?_eq_getElem l2
    have m1 := List.mem_of_getElem? b1; have m2 := List.mem_of_getElem? b2
    refine di _ m1 _ m2 (fun e' => hne (huniq t t' _ _ b1 b2 (.inr e'))) (hall _ (hbn _ m1).1) (hall _ (hbn _ m2).1) ?_
    rw [(hrec.at_ t _ r b1 h1).1, (hrec.at_ t' _ r' b2 h2).1, e]
  · refine ⟨SameOut.refl _ _, (fun i o _ h => by cases h), (fun b _ b' _ _ h => by cases h), (fun _ => False), 0, { wx with drawn := wx.drawn + 1 }, [], (fun t b _ => ⟨(fun h => by cases h), fun h => by omega⟩), Nat.zero_le _, (Later.refl wx).drew, ⟨(fun b _ h => by cases h), fun g h => h.elim⟩, (fun k hk => by cases hk), Recs.nil _ _, rfl⟩

theorem wrote1 {ds : List Nat} {a : Act} {b : BoxO} {rs : List (Nat × Array Value × Array Value × TypeId)} {w1 w : World} (hrec : Recs ds a [b] rs) (hw : Wrote rs w1 w) : ∃ g, a.eval (.tmp (ds.getD b.al 0)) = .pointer (some ⟨g, 0, none⟩) /\ (∃ r ∈ rs, r.1 = g) /\ Turned g w1 w /\ BoxAt w g (a.eval (.tmp (ds.getD b.src 0))).cells b.T := by
  match rs, hrec.len with
  | [r], _ =>
    obtain ⟨h1, h2, h3, h4⟩ := hrec.at_ 0 b r rfl rfl
    obtain ⟨wm, k1, k2, k3, rfl⟩ := hw
    rw [← h2, h4] at k3
    exact ⟨r.1, h1, ⟨r, by simp, rfl⟩, k2, k3⟩
end Go.Proofs.YtlnjhimbgckdcaaGreat
