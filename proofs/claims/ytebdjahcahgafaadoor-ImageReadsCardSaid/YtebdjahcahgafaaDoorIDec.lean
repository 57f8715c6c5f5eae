/- The document's own Decode. -/
import Derived.Test.YtebdjahcahgafaaDoorIRdM
import Derived.Test.YtebdjahcahgafaaDoorRefM
import Derived.Deep.CutBlock
import Derived.Deep.DeepCutAuto
namespace Go.Proofs.YtebdjahcahgafaaDoor
open Go.RowKit

/-- The image that bytes are. -/
def decI (bs : List Nat) : Option ImgR := if bs = frame (bs.take (bs.length - 4)) ∧ 4 ≤ bs.length then readI (bs.take (bs.length - 4)) else none

/-- 'b[:k]', as an equation. -/
theorem SlB.upto_ {w : World} {A : Option Addr} {n c : Nat} {bs : List Nat} (h : SlB w (.slice A n c) bs) (k : Nat) (hk : k ≤ n) :
    ∃ B d, (∀ w', (Instr.sliceAt 30 (.slice A n c) none (some (.int .i64 (k : Int))) none).run Tryd.prog w' = .ok (.slice B k d) w') ∧ SlB w (.slice B k d) (bs.take k) := by
  have hcap : n ≤ c := by
    obtain ⟨_, _, e, h1, _⟩ := h
    injection e with e1 e2 e3
    omega
  refine ⟨_, _, fun w' => ?_, h.take (k := k) hk⟩
  rw [run_sliceAt_slice w' 30 _ _ _ _ (by rw [elem22]; exact Tryd.underlying30), run_slice_h w' 30 A n c (by rw [elem22]; exact Tryd.underlying30) .i64 (k : Int) (by omega) (by omega), elem22, size_u8]
  simp [Result.andThen, sliced]
  intro _
  cases A <;> simp [Addr.add]

/-- In the midst of reading an image: the reader in block g, the result in rx, the image in px; w1 is when they were made. -/
structure DX (w1 : World) (g : Nat) (v : Value) (bs : List Nat) (rx px : Nat) (gv fv : Value) (st : Option (List Nat)) (wr : World) : Prop where
  rd : RdSt g v bs st wr
  res : Blk wr rx 25 #[.slice none 0 0, .slice none 0 0]
  xb : Blk wr px 25 #[gv, fv]
  fr : Fr (fun i => i = g ∨ i = px) w1 wr
  gw : g < w1.heap.size
  rw_ : rx < w1.heap.size
  pw : px < w1.heap.size
  ne : rx ≠ px
section
variable {w1 wr w2 : World} {g rx px : Nat} {v gv fv : Value} {bs : List Nat} {st st' : Option (List Nat)}
theorem DX.sub {S : Nat → Prop} (X : DX w1 g v bs rx px gv fv st wr) (hf : Fr S wr w2) (hS : ∀ i, S i → w1.heap.size ≤ i) : DX w1 g v bs rx px gv fv st w2 :=
  ⟨X.rd.fr hf (fun e => by have := hS _ e; have := X.gw; omega) (fun A n c e q => by have := X.rd.low A n c e; have := hS _ q; have := X.gw; omega),
    X.res.fr hf (fun e => by have := hS _ e; have := X.rw_; omega), X.xb.fr hf (fun e => by have := hS _ e; have := X.pw; omega), X.fr.trans hf (fun i hi e => absurd (hS _ e) (by omega)), X.gw, X.rw_, X.pw, X.ne⟩
theorem DX.alloc (X : DX w1 g v bs rx px gv fv st wr) (o : Obj) : DX w1 g v bs rx px gv fv st (wr.alloc o) := X.sub (S := fun _ => False) (Fr.alloc wr o) (fun _ h => h.elim)
theorem DX.call (X : DX w1 g v bs rx px gv fv st wr) (hr : RdSt g v bs st' w2) (hf : Fr (fun i => i = g) wr w2) : DX w1 g v bs rx px gv fv st' w2 := by
  obtain ⟨a, b, hk, _⟩ := X.rd.ex
  exact ⟨hr, X.res.fr hf (fun e => Blk.ne_ X.res hk (by decide) e), X.xb.fr hf (fun e => Blk.ne_ X.xb hk (by decide) e), X.fr.trans hf (fun _ _ e => .inl e), X.gw, X.rw_, X.pw, X.ne⟩
/-- A field of the image is stored. -/
theorem DX.store (X : DX w1 g v bs rx px gv fv st wr) (j : Nat) (u : Value) (hv : ∀ A n c, v = .slice (some A) n c → A.block ≠ px) (gv' fv' : Value) (he : #[gv, fv].setIfInBounds j u = #[gv', fv']) : DX w1 g v bs rx px gv' fv' st (wr.setCell ⟨px, j, none⟩ u) := by
  obtain ⟨a, b, hk, _⟩ := X.rd.ex
  have hf : Fr (fun i => i = px) wr (wr.setCell ⟨px, j, none⟩ u) := Fr.set (S := fun i => i = px) wr (p := ⟨px, j, none⟩) rfl _
  have hb := X.xb.set_ j u
  rw [he] at hb
  exact ⟨X.rd.fr hf (fun e => Blk.ne_ hk X.xb (by decide) e) (fun A n c e q => hv A n c e q), X.res.fr hf (fun e => X.ne e), hb, X.fr.trans hf (fun _ _ e => .inr e), X.gw, X.rw_, X.pw, X.ne⟩
theorem drow_call {e : TypeId} {k n : Nat} {u : Value} {xs : List Value} (X : DX w1 g v bs rx px gv fv st wr) (h : wr.ownsRow w1.heap.size e k u n xs) (hf : Fr (fun i => i = g) wr w2) : w2.ownsRow w1.heap.size e k u n xs :=
  own_fr h hf fun b hb _ q => by have q : b = g := q; have := X.gw; omega
theorem drow_store {e : TypeId} {k n : Nat} {u : Value} {xs : List Value} (X : DX w1 g v bs rx px gv fv st wr) (h : wr.ownsRow w1.heap.size e k u n xs) (j : Nat) (y : Value) : (wr.setCell ⟨px, j, none⟩ y).ownsRow w1.heap.size e k u n xs :=
  own_fr h (Fr.set (S := fun i => i = px) wr (p := ⟨px, j, none⟩) rfl _) fun b hb _ q => by have q : b = px := q; have := X.pw; omega
end

/-- In the midst of reading a variable, in block gx. -/
structure GX (w1 : World) (g : Nat) (v : Value) (bs : List Nat) (rx px : Nat) (gv : Value) (l : List GlobR) (gx : Nat) (cx : Array Value) (s : Option (List Nat)) (wr : World) : Prop where
  x : DX w1 g v bs rx px gv (.slice none 0 0) s wr
  oc : wr.ownsRow w1.heap.size 48 3 gv l.length (globsV l)
  kx : Blk wr gx 48 cx
  hx : w1.heap.size ≤ gx
  hc : ∀ q, gv.ownBlock = some q → q ≠ gx
section
variable {w1 wr w2 : World} {g rx px gx : Nat} {v gv : Value} {bs : List Nat} {cx : Array Value} {l : List GlobR} {s s' : Option (List Nat)}
theorem GX.call (X : GX w1 g v bs rx px gv l gx cx s wr) (hr : RdSt g v bs s' w2) (hf : Fr (fun i => i = g) wr w2) : GX w1 g v bs rx px gv l gx cx s' w2 :=
  ⟨X.x.call hr hf, drow_call X.x X.oc hf, X.kx.fr hf (fun e => by have e : gx = g := e; have := X.hx; have := X.x.gw; omega), X.hx, X.hc⟩
theorem GX.set (X : GX w1 g v bs rx px gv l gx cx s wr) (j : Nat) (u : Value) : GX w1 g v bs rx px gv l gx (cx.setIfInBounds j u) s (wr.setCell ⟨gx, j, none⟩ u) := by
  have hf : Fr (fun i => i = gx) wr (wr.setCell ⟨gx, j, none⟩ u) := Fr.set (S := fun i => i = gx) wr (p := ⟨gx, j, none⟩) rfl _
  exact ⟨X.x.sub hf (fun i e => by have e : i = gx := e; rw [e]; exact X.hx), ownsRow_fr X.oc hf (fun q hq e => X.hc q hq e), X.kx.set_ j u, X.hx, X.hc⟩
end
theorem infoGlob : ∃ i, Tryd.prog.info? 48 = some i ∧ i.zero = some (.agg #[.int .i64 0, .int .i64 0, .int .i64 0]) ∧ i.size = 3 ∧ i.bytes = 24 := info_parts (by kernel_rfl)
theorem infoFn : ∃ i, Tryd.prog.info? 54 = some i ∧ i.zero = some (.agg #[.string ⟨#[]⟩, .slice none 0 0, .int .i64 0, .slice none 0 0, .slice none 0 0]) ∧ i.size = 5 ∧ i.bytes = 96 := info_parts (by kernel_rfl)

/-- The functions that were read: their row, and the rows of each. -/
structure FnsOwn (w : World) (base : Nat) (fv : Value) (l : List FnR) : Prop where
  ex : ∃ ts : List Trip, ts.length = l.length ∧ w.ownsRow base 54 5 fv l.length (fnsV l ts) ∧ ∀ (i : Nat) (f : FnR) (t : Trip), l[i]? = some f → ts[i]? = some t → FnOwn w base t f
theorem fnsV_snoc {l : List FnR} {ts : List Trip} (h : ts.length = l.length) (f : FnR) (t : Trip) : fnsV (l ++ [f]) (ts ++ [t]) = fnsV l ts ++ fnC f t := by
  unfold fnsV
  rw [List.zip_append h.symm]
  simp
section
variable {w w' : World} {base : Nat} {fv : Value} {l : List FnR}
theorem FnsOwn.nil (w : World) (base : Nat) : FnsOwn w base (.slice none 0 0) [] := ⟨[], rfl, World.ownsRow_nil _ _ _ _, fun i f t hf => by simp at hf⟩
theorem FnsOwn.fr {S : Nat → Prop} (h : FnsOwn w base fv l) (hf : Fr S w w') (hS : ∀ b, base ≤ b → b < w.heap.size → ¬ S b) : FnsOwn w' base fv l := by
  obtain ⟨ts, h2, h3, h4⟩ := h.ex
  exact ⟨ts, h2, own_fr h3 hf hS, fun i f t hx ht => (h4 i f t hx ht).fr hf hS⟩
/-- One more function. -/
theorem FnsOwn.add {fv' : Value} {f : FnR} {t : Trip} {ts : List Trip} (h2 : ts.length = l.length) (h3 : w.ownsRow base 54 5 fv l.length (fnsV l ts)) (h4 : ∀ (i : Nat) (f : FnR) (t : Trip), l[i]? = some f → ts[i]? = some t → FnOwn w base t f) (hf : FnOwn w base t f)
    (hg : w.grownBy w' fv.ownBlock) (ho : w'.ownsRow base 54 5 fv' (l.length + 1) (fnsV l ts ++ fnC f t)) : FnsOwn w' base fv' (l ++ [f]) := by
  have hG : Fr (fun q => fv.ownBlock = some q) w w' := Fr.of_grown hg fun _ _ e => e
  have keep : ∀ (t' : Trip) (f' : FnR), FnOwn w base t' f' → FnOwn w' base t' f' := fun t' f' k =>
    ⟨ownsRow_fr k.params hG (fun q hq e => own_ne_own k.params h3 (by decide) q e hq), ownsRow_fr k.locals hG (fun q hq e => own_ne_own k.locals h3 (by decide) q e hq), ownsRow_fr k.code hG (fun q hq e => own_ne_own k.code h3 (by decide) q e hq)⟩
  refine ⟨ts ++ [t], by simp [h2], ?_, fun i f' t' hx ht => ?_⟩
  · rw [fnsV_snoc h2, List.length_append]
    exact ho
  · rcases Nat.lt_or_ge i l.length with hi | hi
    · rw [List.getElem?_append_left hi] at hx
      rw [List.getElem?_append_left (by omega)] at ht
      exact keep _ _ (h4 i f' t' hx ht)
    · rw [List.getElem?_append_right hi] at hx
      rw [List.getElem?_append_right (by omega)] at ht
      have e0 : i - l.length = 0 := by
        have := (List.getElem?_eq_some_iff.1 hx).1
        simp at this; omega
      rw [e0] at hx
      rw [show i - ts.length = 0 by omega] at ht
      simp at hx ht
      subst hx ht
      exact keep _ _ hf
end

theorem below_at_ {w w1 w2 : World} {rx : Nat} (hb : Below w.heap.size w w1) (hf : Fr (fun i => i = rx) w1 w2) (h : w.heap.size ≤ rx) : Below w.heap.size w w2 :=
  hb.trans (hf.below hb.size fun i hi e => by have e : i = rx := e; omega)

/-- Decode's answer. -/
def DecR (w : World) (bs : List Nat) (e : Ending) (w' : World) : Prop :=
  Below w.heap.size w w' ∧
  if 1048576 < bs.length then e = .returned (.tuple #[imgV (.slice none 0 0) (.slice none 0 0), .int .i64 2])
  else match decI bs with
    | none => e = .returned (.tuple #[imgV (.slice none 0 0) (.slice none 0 0), .int .i64 150])
    | some x => ∃ gv fv, e = .returned (.tuple #[imgV gv fv, .int .i64 0]) ∧ ImgOwn w' w.heap.size gv fv x

set_option maxHeartbeats 8000000 in
set_option maxRecDepth 100000 in
theorem rdecode_c (v : Value) (bs : List Nat) (w : World) (hv : SlB w v bs) (hn : bs.length ≤ 140737488355318) (hby : ∀ x ∈ bs, x < 256) : Calls Tryd.prog 19 #[v] w (DecR w bs) := by
  have HV := Lib.hid hv
  have HBy := Lib.hid hby
  obtain ⟨A, c, rfl, hc, hA, _⟩ := hv
  clear hby
  have HZ := Lib.hid (Blk.new w 25 #[.slice none 0 0, .slice none 0 0])
  have HBz := Lib.hid ((Below.refl w.heap.size w).alloc (Nat.le_refl _) (.cells #[.slice none 0 0, .slice none 0 0] 25))
  go_enter Tryd.func19, Tryd.ntmps19
  by_cases hbig : (1048576 : Int) < (bs.length : Int)
  · have hd : decide ((1048576 : Int) < (bs.length : Int)) = true := decide_eq_true hbig
    have HBg : Hid (1048576 < bs.length) := by show _ < _; omega
    clear hbig hA
    go_wp2_with fail
    have y0 := HZ.out.cell 0
    have y1 := HZ.out.cell 1
    exact bodyPost_ret (v := .tuple #[imgV (.slice none 0 0) (.slice none 0 0), .int .i64 2]) (by simp [results, Tryd.results19, go_sem, y0, y1]) rfl ⟨HBz.out, by rw [if_pos HBg.out]⟩
  · have hd : decide ((1048576 : Int) < (bs.length : Int)) = false := decide_eq_false hbig
    have HBg : Hid (¬ 1048576 < bs.length) := by show ¬ _; omega
    have HRX : Hid (w.heap.size ≤ w.heap.size) := Nat.le_refl _
    clear hbig hA
    go_upto_region 3 with (fail)
    have HV := Lib.hid (HV.out.below HBz.out)
    generalize w.alloc (.cells #[.slice none 0 0, .slice none 0 0] 25) = w0 at *
    obtain ⟨rx, hrx⟩ : ∃ rx, rx = w.heap.size := ⟨_, rfl⟩
    rw [← hrx] at HZ
    rw [show (some { block := w.heap.size, off := 0, spot := none } : Option Addr) = some ⟨rx, 0, none⟩ by rw [hrx]]
    have HRX : Hid (w.heap.size ≤ rx) := by show _ ≤ _; omega
    clear hrx
    go_wp2_with fail
    refine (ropen_c _ bs w0 HV.out hn HBy.out).mono ?_
    rintro e w1 ⟨hb, hor⟩
    have HB1 := Lib.hid (below_trans HBz.out hb)
    have HZr := Lib.hid (HZ.out.below hb HZ.out.lt)
    clear HV HBz HZ hb
    rcases hor with ⟨hfr, h4, u, rfl, ho⟩ | ⟨hno, rfl⟩
    · have HDec : Hid (decI bs = readI (bs.take (bs.length - 4))) := by show _ = _; unfold decI; rw [if_pos ⟨hfr, h4⟩]
      have hrl : (bs.take (bs.length - 4)).length ≤ 1048576 := by have := HBg.out; rw [List.length_take]; omega
      have hrby : ∀ x ∈ bs.take (bs.length - 4), x < 256 := fun x hx => HBy.out x (List.mem_of_mem_take hx)
      clear hfr h4
      generalize bs.take (bs.length - 4) = rs at *
      have HRby := Lib.hid hrby
      obtain ⟨A5, c5, rfl⟩ := own_slice ho
      have HO := Lib.hid ho
      have HSl := Lib.hid ho.sl
      clear ho hrby
      by_cases h4 : (rs.length : Int) < 4
      · have hd4 : decide ((rs.length : Int) < 4) = true := decide_eq_true h4
        have HD : Hid (decI bs = none) := by
          show _ = _
          rw [HDec.out]
          unfold readI
          rw [if_neg]
          intro e
          have := congrArg List.length e
          rw [List.length_take] at this
          simp at this; omega
        clear h4
        have r0 := HZr.out.cell 0
        have r1 := HZr.out.cell 1
        have z0 := HZr.out.frozen 0
        have z1 := HZr.out.frozen 1
        have HZ2 : Hid (Blk ((w1.setCell ⟨rx, 0, none⟩ (.slice none 0 0)).setCell ⟨rx, 1, none⟩ (.slice none 0 0)) rx 25 #[.slice none 0 0, .slice none 0 0]) := by
          have := (HZr.out.set_ 0 (.slice none 0 0)).set_ 1 (.slice none 0 0)
          exact Lib.hid (by simpa using this)
        have HB2 : Hid (Below w.heap.size w ((w1.setCell ⟨rx, 0, none⟩ (.slice none 0 0)).setCell ⟨rx, 1, none⟩ (.slice none 0 0))) := by
          have f1 : Fr (fun i => i = rx) w1 (w1.setCell ⟨rx, 0, none⟩ (.slice none 0 0)) := Fr.set (S := fun i => i = rx) w1 (p := ⟨rx, 0, none⟩) rfl _
          have f2 : Fr (fun i => i = rx) (w1.setCell ⟨rx, 0, none⟩ (.slice none 0 0)) _ := Fr.set (S := fun i => i = rx) _ (p := ⟨rx, 1, none⟩) (u := .slice none 0 0) rfl
          exact below_at_ HB1.out (f1.trans f2 (fun _ _ e => e)) HRX.out
        go_wp2_with fail
        generalize (w1.setCell ⟨rx, 0, none⟩ (.slice none 0 0)).setCell ⟨rx, 1, none⟩ (.slice none 0 0) = wz at *
        have y0 := HZ2.out.cell 0
        have y1 := HZ2.out.cell 1
        exact bodyPost_ret (v := .tuple #[imgV (.slice none 0 0) (.slice none 0 0), .int .i64 150]) (by simp [results, Tryd.results19, go_sem, y0, y1]) rfl ⟨HB2.out, by rw [if_neg HBg.out, HD.out]⟩
      have hd4 : decide ((rs.length : Int) < 4) = false := decide_eq_false h4
      have hl4 : 4 ≤ rs.length := by omega
      obtain ⟨B, d, hsl', hsb⟩ := HSl.out.upto_ 4 hl4
      have hsl : ∀ w', (Instr.sliceAt 30 (.slice A5 rs.length c5) none (some (.int .i64 4)) none).run Tryd.prog w' = .ok (.slice B 4 d) w' := hsl'
      clear hsl'
      have hcv := hsb.conv
      by_cases hm : rs.take 4 = [84, 73, 76, 84]
      case neg =>
        have hne : ((strOf (rs.take 4)).toList == [84, 73, 76, 84]) = false := by
          have h1 : strOf (rs.take 4) ≠ ⟨#[84, 73, 76, 84]⟩ := by
            intro e
            apply hm
            have h2 := congrArg bytesOf e
            rw [bytesOf_strOf (fun x hx => HRby.out x (List.mem_of_mem_take hx))] at h2
            rw [h2]; rfl
          have h3 := str_ne h1
          have e4 : (⟨#[84, 73, 76, 84]⟩ : ByteArray).toList = [84, 73, 76, 84] := by rw [ByteArray.toList_eq]
          rw [e4] at h3
          exact h3
        have HD : Hid (decI bs = none) := by
          show _ = _
          rw [HDec.out]
          unfold readI
          rw [if_neg hm]
        clear h4 hm hsb
        have r0 := HZr.out.cell 0
        have r1 := HZr.out.cell 1
        have z0 := HZr.out.frozen 0
        have z1 := HZr.out.frozen 1
        have HZ2 : Hid (Blk ((w1.setCell ⟨rx, 0, none⟩ (.slice none 0 0)).setCell ⟨rx, 1, none⟩ (.slice none 0 0)) rx 25 #[.slice none 0 0, .slice none 0 0]) := by
          have := (HZr.out.set_ 0 (.slice none 0 0)).set_ 1 (.slice none 0 0)
          exact Lib.hid (by simpa using this)
        have HB2 : Hid (Below w.heap.size w ((w1.setCell ⟨rx, 0, none⟩ (.slice none 0 0)).setCell ⟨rx, 1, none⟩ (.slice none 0 0))) := by
          have f1 : Fr (fun i => i = rx) w1 (w1.setCell ⟨rx, 0, none⟩ (.slice none 0 0)) := Fr.set (S := fun i => i = rx) w1 (p := ⟨rx, 0, none⟩) rfl _
          have f2 : Fr (fun i => i = rx) (w1.setCell ⟨rx, 0, none⟩ (.slice none 0 0)) _ := Fr.set (S := fun i => i = rx) _ (p := ⟨rx, 1, none⟩) (u := .slice none 0 0) rfl
          exact below_at_ HB1.out (f1.trans f2 (fun _ _ e => e)) HRX.out
        go_wp2_with fail
        generalize (w1.setCell ⟨rx, 0, none⟩ (.slice none 0 0)).setCell ⟨rx, 1, none⟩ (.slice none 0 0) = wz at *
        have y0 := HZ2.out.cell 0
        have y1 := HZ2.out.cell 1
        exact bodyPost_ret (v := .tuple #[imgV (.slice none 0 0) (.slice none 0 0), .int .i64 150]) (by simp [results, Tryd.results19, go_sem, y0, y1]) rfl ⟨HB2.out, by rw [if_neg HBg.out, HD.out]⟩
      case pos =>
        have hcv2 : (convert 30 9 (.slice B 4 d)).run Tryd.prog w1 = .ok (.string ⟨#[84, 73, 76, 84]⟩) w1 := by
          rw [hm] at hcv
          exact hcv
        clear hcv
        have HDec2 : Hid (decI bs = (pImg (rs.drop 4)).bind fun q => if q.2 = [] ∧ imgK q.1 = true then some q.1 else none) := by
          show _ = _
          rw [HDec.out]
          unfold readI
          rw [if_pos hm]
        clear h4 hm hsb
        go_upto_region 8 with (fail)
        have D0 : Hid (DX ((w1.alloc (.cells #[.slice A5 rs.length c5, .int .i64 4, .bool false] 77)).alloc (.cells #[.slice none 0 0, .slice none 0 0] 25)) w1.heap.size (.slice A5 rs.length c5) rs rx (w1.heap.size + 1) (.slice none 0 0) (.slice none 0 0) (some (rs.drop 4)) ((w1.alloc (.cells #[.slice A5 rs.length c5, .int .i64 4, .bool false] 77)).alloc (.cells #[.slice none 0 0, .slice none 0 0] 25))) := by
          have hb2 : Below w1.heap.size w1 ((w1.alloc (.cells #[.slice A5 rs.length c5, .int .i64 4, .bool false] 77)).alloc (.cells #[.slice none 0 0, .slice none 0 0] 25)) := ((Below.refl _ _).alloc (Nat.le_refl _) _).alloc (by simp) _
          refine ⟨⟨⟨4, false, (Blk.new w1 77 _).alloc _, ⟨⟨by omega, by omega⟩, .inr ⟨rfl, 4, rfl, hl4, rfl⟩⟩⟩, HSl.out.below hb2, fun A' n' c' e => ?_⟩, HZr.out.below hb2 HZr.out.lt, ?_, Fr.refl _ _, by simp; omega, by have := HZr.out.lt; simp; omega, by simp, by have := HZr.out.lt; omega⟩
          · exact (HO.out.lt _ (by rw [e]; rfl)).2
          · have := Blk.new (w1.alloc (.cells #[.slice A5 rs.length c5, .int .i64 4, .bool false] 77)) 25 #[.slice none 0 0, .slice none 0 0]
            simpa using this
        have HBa : Hid (Below w.heap.size w ((w1.alloc (.cells #[.slice A5 rs.length c5, .int .i64 4, .bool false] 77)).alloc (.cells #[.slice none 0 0, .slice none 0 0] 25))) := (HB1.out.alloc HB1.out.size _).alloc (by have := HB1.out.size; simp; omega) _
        have hgp : Hid (w1.heap.size < w1.heap.size + 1) := by show _ < _; omega
        have hgw : Hid (w.heap.size ≤ w1.heap.size) := HB1.out.size
        have HMany := Lib.hid (fun st w h => rrmany_c w1.heap.size (.slice A5 rs.length c5) rs st w 64 h (by omega) HRby.out)
        have HNat := Lib.hid (fun st w h => rrnat_c w1.heap.size (.slice A5 rs.length c5) rs st w h (by omega) HRby.out)
        have HNum := Lib.hid (fun st w h => rrnum_c w1.heap.size (.slice A5 rs.length c5) rs st w h (by omega) HRby.out)
        have HFn := Lib.hid (fun st w h => rrfn_c w1.heap.size (.slice A5 rs.length c5) rs st w h (by omega) HRby.out)
        generalize (w1.alloc (.cells #[.slice A5 rs.length c5, .int .i64 4, .bool false] 77)).alloc (.cells #[.slice none 0 0, .slice none 0 0] 25) = wa at *
        clear HB1 HZr HO HSl hsl hcv2
        generalize w1.heap.size + 1 = px at *
        generalize w1.heap.size = g at *
        go_wp2_with fail
        refine (HMany.out _ wa D0.out.rd).mono ?_
        rintro e wb ⟨n, s1, rfl, ⟨hn0, hn1'⟩, hg1, hr1, hf1⟩
        have hn1 : n ≤ 64 := hn1'
        have D1 := Lib.hid (D0.out.call hr1 hf1)
        have HG1 := Lib.hid hg1
        clear D0 hg1 hr1 hf1 hn1'
        go_upto_block 0 with (fail)
        go_cut [] (fun wx => ∃ (l : List GlobR) (s : Option (List Nat)) (gv : Value), l.length ≤ 64 ∧ Got (pList 64 pGlob) (some (rs.drop 4)) l s ∧ DX wa g (.slice A5 rs.length c5) rs rx px gv (.slice none 0 0) s wx ∧ wx.ownsRow wa.heap.size 48 3 gv l.length (globsV l))
        case first =>
          go_wp2_with fail
          go_loopg [9, 10] n.toNat (fun gg s9 _ wr => ∃ (i : Nat) (l : List GlobR) (s : Option (List Nat)) (gv : Value), i + gg = n.toNat ∧ s9 = .int .i64 (i : Int) ∧ Hid (l.length = i) ∧ Hid (Got (pRep pGlob i) s1 l s) ∧ Hid (DX wa g (.slice A5 rs.length c5) rs rx px gv (.slice none 0 0) s wr) ∧ Hid (wr.ownsRow wa.heap.size 48 3 gv l.length (globsV l)))
          case atStart => exact ⟨0, [], s1, .slice none 0 0, by omega, rfl, rfl, got_zero, D1, World.ownsRow_nil _ _ _ _⟩
          case round =>
            clear D1
            obtain ⟨i, l, s, gv, hi, rfl, HLL, HGR, X, HOC⟩ := hrel
            obtain ⟨at_, bad, hk, hki, hst⟩ := X.out.rd.ex
            have k2 := hk.cell 2
            clear hk hki
            cases gk with
            | zero =>
              have hd : decide ((i : Int) < n) = false := by simp; omega
              have HEnd : Hid (Got (pList 64 pGlob) (some (rs.drop 4)) l s) := got_list HG1.out HGR.out (.inr (by omega))
              have hll : Hid (l.length ≤ 64) := by show _ ≤ _; have := HLL.out; omega
              clear hi hst
              go_wp2_with fail
              go_meet
              exact ⟨l, s, gv, hll.out, HEnd.out, X.out, HOC.out⟩
            | succ gk =>
              have hd : decide ((i : Int) < n) = true := by simp; omega
              rcases hst with ⟨rfl, rfl⟩ | ⟨rfl, k', rfl, hkl', rfl⟩
              · have HEnd : Hid (Got (pList 64 pGlob) (some (rs.drop 4)) l none) := got_list HG1.out HGR.out (.inl ⟨rfl, by omega⟩)
                have hll : Hid (l.length ≤ 64) := by show _ ≤ _; have := HLL.out; omega
                clear hi
                go_wp2_with fail
                go_meet
                exact ⟨l, none, gv, hll.out, HEnd.out, X.out, HOC.out⟩
              · clear hkl'
                have L0 : Hid (GX wa g (.slice A5 rs.length c5) rs rx px gv l wr.heap.size #[.int .i64 0, .int .i64 0, .int .i64 0] (some (rs.drop k')) (wr.alloc (.cells #[.int .i64 0, .int .i64 0, .int .i64 0] 48))) :=
                  ⟨X.out.alloc _, HOC.out.alloc _, Blk.new wr 48 _, X.out.fr.size, fun q hq => by have := (HOC.out.lt q hq).2; omega⟩
                go_upto_region 13 with (fail)
                generalize wr.alloc (.cells #[.int .i64 0, .int .i64 0, .int .i64 0] 48) = wq at *
                generalize wr.heap.size = gx at *
                clear X HOC k2
                go_wp2_with fail
                refine (HNat.out _ wq L0.out.x.rd).mono ?_
                rintro e wb2 ⟨a, sA, rfl, ha, hgA, hrA, hfA⟩
                have L1 := Lib.hid (L0.out.call hrA hfA)
                have L2 : Hid (GX wa g (.slice A5 rs.length c5) rs rx px gv l gx #[.int .i64 a, .int .i64 0, .int .i64 0] sA (wb2.setCell ⟨gx, 0, none⟩ (.int .i64 a))) := by
                  have := L1.out.set 0 (.int .i64 a)
                  exact Lib.hid (by simpa using this)
                have HGA := Lib.hid hgA
                have x0 := L1.out.kx.cell 0
                have y0 := L1.out.kx.frozen 0
                clear L0 L1 ha hgA hrA hfA
                go_upto_region 14 with (fail)
                generalize wb2.setCell ⟨gx, 0, none⟩ (.int .i64 a) = wc at *
                clear x0 y0
                go_wp2_with fail
                refine (HNat.out _ wc L2.out.x.rd).mono ?_
                rintro e wd ⟨b, sB, rfl, hb, hgB, hrB, hfB⟩
                have L3 := Lib.hid (L2.out.call hrB hfB)
                have L4 : Hid (GX wa g (.slice A5 rs.length c5) rs rx px gv l gx #[.int .i64 a, .int .i64 b, .int .i64 0] sB (wd.setCell ⟨gx, 1, none⟩ (.int .i64 b))) := by
                  have := L3.out.set 1 (.int .i64 b)
                  exact Lib.hid (by simpa using this)
                have HGB := Lib.hid hgB
                have x1 := L3.out.kx.cell 1
                have y1 := L3.out.kx.frozen 1
                clear L2 L3 hb hgB hrB hfB
                go_upto_region 15 with (fail)
                generalize wd.setCell ⟨gx, 1, none⟩ (.int .i64 b) = we at *
                clear x1 y1
                go_wp2_with fail
                refine (HNum.out _ we L4.out.x.rd).mono ?_
                rintro e wf ⟨d', sC, rfl, hd', hgC, hrC, hfC⟩
                have L5 := Lib.hid (L4.out.call hrC hfC)
                have L6 : Hid (GX wa g (.slice A5 rs.length c5) rs rx px gv l gx #[.int .i64 a, .int .i64 b, .int .i64 d'] sC (wf.setCell ⟨gx, 2, none⟩ (.int .i64 d'))) := by
                  have := L5.out.set 2 (.int .i64 d')
                  exact Lib.hid (by simpa using this)
                have HGC : Hid (Got (pRep pGlob (i + 1)) s1 (l ++ [GlobR.mk a b d']) sC) := got_step HGR.out (got_glob HGA.out HGB.out hgC)
                have x2 := L5.out.kx.cell 2
                have y2 := L5.out.kx.frozen 2
                clear L4 L5 hd' hgC hrC hfC HGA HGB HGR
                go_upto_region 16 with (fail)
                generalize wf.setCell ⟨gx, 2, none⟩ (.int .i64 d') = wg at *
                clear x2 y2
                have f0 : wg.cell? ⟨px, 0, none⟩ = some gv := L6.out.x.xb.cell 0
                have x0 := L6.out.kx.cell 0
                have x1 := L6.out.kx.cell 1
                have x2 := L6.out.kx.cell 2
                have hsz : Hid (wa.heap.size ≤ wg.heap.size) := L6.out.x.fr.size
                have HOc := Lib.hid (L6.out.oc.alloc (.cells #[.int .i64 a, .int .i64 b, .int .i64 d'] 48))
                have hll : Hid (l.length ≤ 64) := by show _ ≤ _; have := HLL.out; omega
                obtain ⟨i0, hi0, hz0, hz1, hz2⟩ := infoGlob
                go_wp2_with (at_builtin; refine wpList_append_own_at _ rfl (.tmp 64) (.tmp 66) 22 rfl wa.heap.size 48 i0 _ 3 24 Tryd.underlying22 hi0 hz0 hz1 hz2 rfl (by decide) _ _ _ rfl HOc.out ⟨wg.heap.size, 0, none⟩ 1 1 [.int .i64 a, .int .i64 b, .int .i64 d'] rfl rfl (cells_new wg 48 [.int .i64 a, .int .i64 b, .int .i64 d']) ?c2 ?c3 ?c4 ?c5 ?_)
                case c2 => intro u hu; simp at hu; rcases hu with rfl | rfl | rfl <;> rfl
                case c3 => have := hll.out; unfold maxLen; omega
                case c4 => have := hll.out; omega
                case c5 => have := hsz.out; simp; omega
                intro ud wh hod hgrd _ _
                have hfr : Fr (fun q => gv.ownBlock = some q) wg wh := (Fr.alloc (S := fun q => gv.ownBlock = some q) wg _).trans (Fr.of_grown hgrd fun _ _ he => he) (fun _ _ h => h)
                have XH := Lib.hid (L6.out.x.sub hfr (fun q hq => (L6.out.oc.lt q hq).1))
                have HOC : Hid (wh.ownsRow wa.heap.size 48 3 ud (l ++ [GlobR.mk a b d']).length (globsV (l ++ [GlobR.mk a b d']))) := by
                  show World.ownsRow _ _ _ _ _ _ _
                  have e1 : globsV (l ++ [GlobR.mk a b d']) = globsV l ++ [.int .i64 a, .int .i64 b, .int .i64 d'] := by simp [globsV, globC]
                  rw [e1, List.length_append]
                  exact hod
                obtain ⟨Ad, cd, rfl⟩ := own_sl hod
                have XI : Hid (DX wa g (.slice A5 rs.length c5) rs rx px (.slice Ad (l.length + 1) cd) (.slice none 0 0) sC (wh.setCell ⟨px, 0, none⟩ (.slice Ad (l.length + 1) cd))) :=
                  XH.out.store 0 _ (fun A' n' c' e q => by have := XH.out.rd.low A' n' c' e; have := hgp.out; omega) _ _ rfl
                have HOC := Lib.hid (drow_store XH.out HOC.out 0 (.slice Ad (l.length + 1) cd))
                have f0 := XH.out.xb.cell 0
                have z0 := XH.out.xb.frozen 0
                clear XH L6 hod hgrd hfr HOc x0 x1 x2
                go_wp2_with fail
                go_roundg gk
                case measure => omega
                case rel => exact ⟨i + 1, l ++ [GlobR.mk a b d'], sC, _, by omega, by push_cast; rfl, by show _ = _; rw [List.length_append, HLL.out]; rfl, HGC, XI, HOC⟩
        case rest =>
          obtain ⟨lg, s2, gv, hlg, hgg, hdx, hrow⟩ := hcut
          have HLg := Lib.hid hlg
          have HGg := Lib.hid hgg
          have X := Lib.hid hdx
          have HOG := Lib.hid hrow
          clear D1 HG1 hlg hgg hdx hrow hn0 hn1
          go_wp2_with fail
          refine (HMany.out _ wc X.out.rd).mono ?_
          rintro e wd ⟨m, s3, rfl, ⟨hm0, hm1'⟩, hg3, hr3, hf3⟩
          have hm1 : m ≤ 64 := hm1'
          have D1 := Lib.hid (X.out.call hr3 hf3)
          have HOG := Lib.hid (drow_call X.out HOG.out hf3)
          have HG3 := Lib.hid hg3
          clear X hg3 hr3 hf3 hm1'
          go_upto_block 2 with (fail)
          go_cut [] (fun wx => ∃ (l : List FnR) (s : Option (List Nat)) (fv : Value), l.length ≤ 64 ∧ Got (pList 64 pFn) s2 l s ∧ DX wa g (.slice A5 rs.length c5) rs rx px gv fv s wx ∧ wx.ownsRow wa.heap.size 48 3 gv lg.length (globsV lg) ∧ FnsOwn wx wa.heap.size fv l ∧ ∀ f ∈ l, f.small)
          case first =>
            go_wp2_with fail
            go_loopg [11, 12] m.toNat (fun gg s11 _ wr => ∃ (i : Nat) (l : List FnR) (s : Option (List Nat)) (fv : Value), i + gg = m.toNat ∧ s11 = .int .i64 (i : Int) ∧ Hid (l.length = i) ∧ Hid (Got (pRep pFn i) s3 l s) ∧ Hid (DX wa g (.slice A5 rs.length c5) rs rx px gv fv s wr) ∧ Hid (wr.ownsRow wa.heap.size 48 3 gv lg.length (globsV lg)) ∧ Hid (FnsOwn wr wa.heap.size fv l) ∧ Hid (∀ f ∈ l, f.small))
            case atStart => exact ⟨0, [], s3, .slice none 0 0, by omega, rfl, rfl, got_zero, D1, HOG, FnsOwn.nil _ _, fun f hf => by cases hf⟩
            case round =>
              clear D1 HOG
              obtain ⟨i, l, s, fv, hi, rfl, HLL, HGR, X, HOG, HFS, HSm⟩ := hrel
              obtain ⟨at_, bad, hk, hki, hst⟩ := X.out.rd.ex
              have k2 := hk.cell 2
              clear hk hki
              cases gk with
              | zero =>
                have hd : decide ((i : Int) < m) = false := by simp; omega
                have HEnd : Hid (Got (pList 64 pFn) s2 l s) := got_list HG3.out HGR.out (.inr (by omega))
                have hll : Hid (l.length ≤ 64) := by show _ ≤ _; have := HLL.out; omega
                clear hi hst
                go_wp2_with fail
                go_meet
                exact ⟨l, s, fv, hll.out, HEnd.out, X.out, HOG.out, HFS.out, HSm.out⟩
              | succ gk =>
                have hd : decide ((i : Int) < m) = true := by simp; omega
                rcases hst with ⟨rfl, rfl⟩ | ⟨rfl, k', rfl, hkl', rfl⟩
                · have HEnd : Hid (Got (pList 64 pFn) s2 l none) := got_list HG3.out HGR.out (.inl ⟨rfl, by omega⟩)
                  have hll : Hid (l.length ≤ 64) := by show _ ≤ _; have := HLL.out; omega
                  clear hi
                  go_wp2_with fail
                  go_meet
                  exact ⟨l, none, fv, hll.out, HEnd.out, X.out, HOG.out, HFS.out, HSm.out⟩
                · clear hkl'
                  go_wp2_with fail
                  refine (HFn.out _ wr X.out.rd).mono ?_
                  rintro e we ⟨f, t, sA, rfl, hfo, hfs, hgA, hrA, hfA⟩
                  have HGA : Hid (Got (pRep pFn (i + 1)) s3 (l ++ [f]) sA) := got_step HGR.out hgA
                  have XA := Lib.hid (X.out.call hrA hfA)
                  have HOG := Lib.hid (drow_call X.out HOG.out hfA)
                  have HFS := Lib.hid (HFS.out.fr hfA (fun b hb _ e => by have e : b = g := e; have := X.out.gw; omega))
                  have hfo2 : FnOwn we wa.heap.size t f := hfo.lower X.out.fr.size
                  have HSm2 : Hid (∀ f' ∈ l ++ [f], f'.small) := fun f' hf' => by
                    rcases List.mem_append.1 hf' with h | h
                    · exact HSm.out f' h
                    · obtain rfl : f' = f := by simpa using h
                      exact hfs
                  obtain ⟨t1, t2, t3⟩ := t
                  obtain ⟨Ap, cp, e1⟩ := own_sl hfo.params
                  obtain ⟨Al, cl, e2⟩ := own_sl hfo.locals
                  obtain ⟨Ac, cc, e3⟩ := own_sl hfo.code
                  simp only at e1 e2 e3
                  subst e1 e2 e3
                  have HFO := Lib.hid hfo2
                  clear X HGR HSm k2 hfo hfo2 hfs hgA hrA hfA
                  have KF := Lib.hid (Blk.new we 54 (fnBox f (.slice Ap f.params.length cp, .slice Al f.locals.length cl, .slice Ac f.code.length cc)))
                  have XB := Lib.hid (XA.out.alloc (.cells (fnBox f (.slice Ap f.params.length cp, .slice Al f.locals.length cl, .slice Ac f.code.length cc)) 54))
                  have HB := Lib.hid ((Below.refl we.heap.size we).alloc (Nat.le_refl _) (.cells (fnBox f (.slice Ap f.params.length cp, .slice Al f.locals.length cl, .slice Ac f.code.length cc)) 54))
                  have hF : Hid (Fr (fun _ => False) we (we.alloc (.cells (fnBox f (.slice Ap f.params.length cp, .slice Al f.locals.length cl, .slice Ac f.code.length cc)) 54))) := Fr.alloc _ _
                  have HOG := Lib.hid (own_fr HOG.out hF.out (fun _ _ _ h => h))
                  have HFS := Lib.hid (HFS.out.fr hF.out (fun _ _ _ h => h))
                  have HFO := Lib.hid (HFO.out.fr hF.out (fun _ _ _ h => h))
                  go_upto_region 22 with (fail)
                  generalize we.alloc (.cells (fnBox f (.slice Ap f.params.length cp, .slice Al f.locals.length cl, .slice Ac f.code.length cc)) 54) = wf at *
                  clear XA HB hF
                  generalize we.heap.size = gF at *
                  obtain ⟨ts, hts, hro, hall⟩ := HFS.out.ex
                  have hts2 := Lib.hid hts
                  have hF2 : Hid (Fr (fun _ => False) wf (wf.alloc (.cells (fnBox f (.slice Ap f.params.length cp, .slice Al f.locals.length cl, .slice Ac f.code.length cc)) 54))) := Fr.alloc _ _
                  have HRo := Lib.hid (own_fr hro hF2.out (fun _ _ _ h => h))
                  have HAll : Hid (∀ (i : Nat) (f' : FnR) (t' : Trip), l[i]? = some f' → ts[i]? = some t' → FnOwn (wf.alloc (.cells (fnBox f (.slice Ap f.params.length cp, .slice Al f.locals.length cl, .slice Ac f.code.length cc)) 54)) wa.heap.size t' f') := fun i f' t' h1 h2 => (hall i f' t' h1 h2).fr hF2.out (fun _ _ _ h => h)
                  have HFO := Lib.hid (HFO.out.fr hF2.out (fun _ _ _ h => h))
                  have f1 : wf.cell? ⟨px, 1, none⟩ = some fv := XB.out.xb.cell 1
                  have x0 := KF.out.cell 0
                  have x1 := KF.out.cell 1
                  have x2 := KF.out.cell 2
                  have x3 := KF.out.cell 3
                  have x4 := KF.out.cell 4
                  have hsz : Hid (wa.heap.size ≤ wf.heap.size) := XB.out.fr.size
                  have hll : Hid (l.length ≤ 64) := by show _ ≤ _; have := HLL.out; omega
                  clear hts hro hall
                  obtain ⟨i0, hi0, hz0, hz1, hz2⟩ := infoFn
                  go_wp2_with (at_builtin; refine wpList_append_own_at _ rfl (.tmp 86) (.tmp 88) 23 rfl wa.heap.size 54 i0 _ 5 96 Tryd.underlying23 hi0 hz0 hz1 hz2 rfl (by decide) _ _ _ rfl HRo.out ⟨wf.heap.size, 0, none⟩ 1 1 (fnC f (.slice Ap f.params.length cp, .slice Al f.locals.length cl, .slice Ac f.code.length cc)) rfl rfl (cells_new wf 54 (fnC f (.slice Ap f.params.length cp, .slice Al f.locals.length cl, .slice Ac f.code.length cc))) ?c2 ?c3 ?c4 ?c5 ?_)
                  case c2 => intro u hu; simp [fnC] at hu; rcases hu with rfl | rfl | rfl | rfl | rfl <;> rfl
                  case c3 => have := hll.out; unfold maxLen; omega
                  case c4 => have := hll.out; omega
                  case c5 => have := hsz.out; simp; omega
                  intro ud wh hod hgrd _ _
                  have HFS2 : Hid (FnsOwn wh wa.heap.size ud (l ++ [f])) := FnsOwn.add hts2.out HRo.out HAll.out HFO.out hgrd hod
                  have hfr : Fr (fun q => fv.ownBlock = some q) wf wh := (hF2.out.mono (fun _ _ h => h.elim)).trans (Fr.of_grown hgrd fun _ _ he => he) (fun _ _ h => h)
                  have XH := Lib.hid (XB.out.sub hfr (fun q hq => (HRo.out.lt q hq).1))
                  have HOGa := Lib.hid (own_fr HOG.out hF2.out (fun _ _ _ h => h))
                  have HOG := Lib.hid (ownsRow_fr HOGa.out (Fr.of_grown (S := fun q => fv.ownBlock = some q) hgrd fun _ _ he => he) (fun q hq e => own_ne_own HOGa.out HRo.out (by decide) q e hq))
                  obtain ⟨Ad, cd, rfl⟩ := own_sl hod
                  have XI : Hid (DX wa g (.slice A5 rs.length c5) rs rx px gv (.slice Ad (l.length + 1) cd) sA (wh.setCell ⟨px, 1, none⟩ (.slice Ad (l.length + 1) cd))) :=
                    XH.out.store 1 _ (fun A' n' c' e q => by have := XH.out.rd.low A' n' c' e; have := hgp.out; omega) _ _ rfl
                  have HOG := Lib.hid (drow_store XH.out HOG.out 1 (.slice Ad (l.length + 1) cd))
                  have HFS2 := Lib.hid (HFS2.out.fr (Fr.set (S := fun i => i = px) wh (p := ⟨px, 1, none⟩) rfl (.slice Ad (l.length + 1) cd)) (fun b hb _ e => by have e : b = px := e; have := XH.out.pw; omega))
                  have f1 := XH.out.xb.cell 1
                  have z1 := XH.out.xb.frozen 1
                  clear XH XB hod hgrd hfr HRo HAll HFO HFS hF2 KF x0 x1 x2 x3 x4
                  go_wp2_with fail
                  go_roundg gk
                  case measure => omega
                  case rel => exact ⟨i + 1, l ++ [f], sA, _, by omega, by push_cast; rfl, by show _ = _; rw [List.length_append, HLL.out]; rfl, HGA, XI, HOG, HFS2, HSm2⟩
          case rest =>
            obtain ⟨lf, s4, fv, hlf, hgf, hdx, hog, hfs, hsm⟩ := hcut
            have HLf := Lib.hid hlf
            have X := Lib.hid hdx
            have HOG := Lib.hid hog
            have HFS := Lib.hid hfs
            have HIM : Hid (ImgOwn wc wa.heap.size gv fv ⟨lg, lf⟩) := ⟨hog, hfs.ex⟩
            have HGI : Hid (Got pImg (some (rs.drop 4)) ⟨lg, lf⟩ s4) := got_bind (q := fun a l => (pList 64 pFn l).bind fun s => some (ImgR.mk a s.1, s.2)) HGg.out (got_map (f := fun b => ImgR.mk lg b) hgf)
            have HSI : Hid (ImgR.small ⟨lg, lf⟩) := ⟨by show lg.length ≤ _; have := HLg.out; omega, by show lf.length ≤ _; omega, hsm⟩
            obtain ⟨Ag, cg, rfl⟩ := own_sl hog
            obtain ⟨_, _, hro, _⟩ := hfs.ex
            obtain ⟨Af, cf, rfl⟩ := own_sl hro
            clear D1 HG3 HGg hlf hgf hdx hog hfs hsm hro hm0 hm1
            have x0 := X.out.xb.cell 0
            have x1 := X.out.xb.cell 1
            go_wp2_with fail
            refine (rok_c _ _ ⟨lg, lf⟩ wc HIM.out.shows HSI.out).mono ?_
            rintro e we ⟨rfl, hbe⟩
            have hFe : Fr (fun _ => False) wc we := Fr.of_below hbe
            have X := Lib.hid (X.out.sub hFe (fun _ h => h.elim))
            have HIM := Lib.hid (HIM.out.fr hFe (fun _ _ _ h => h))
            clear hbe hFe HOG HFS x0 x1 HSI
            have HBw : Hid (Below w.heap.size w we) := HBa.out.trans (X.out.fr.below HBa.out.size (fun i hi e => by
              have h1 := hgw.out
              have h2 := hgp.out
              rcases e with e | e <;> omega))
            obtain ⟨at_, bad, hk, hki, hst⟩ := X.out.rd.ex
            have k1 := hk.cell 1
            have k2 := hk.cell 2
            have HZr := Lib.hid X.out.res
            clear hk hki
            generalize hik : imgK ⟨lg, lf⟩ = ok
            have HOK := Lib.hid hik
            clear hik
            rcases hst with ⟨rfl, rfl⟩ | ⟨rfl, k', rfl, hkl', rfl⟩
            · have HD : Hid (decI bs = none) := by
                show _ = _
                rw [HDec2.out, HGI.out.of_none]; rfl
              have r0 := HZr.out.cell 0
              have r1 := HZr.out.cell 1
              have z0 := HZr.out.frozen 0
              have z1 := HZr.out.frozen 1
              have HZ2 : Hid (Blk ((we.setCell ⟨rx, 0, none⟩ (.slice none 0 0)).setCell ⟨rx, 1, none⟩ (.slice none 0 0)) rx 25 #[.slice none 0 0, .slice none 0 0]) := by
                have := (HZr.out.set_ 0 (.slice none 0 0)).set_ 1 (.slice none 0 0)
                exact Lib.hid (by simpa using this)
              have HB2 : Hid (Below w.heap.size w ((we.setCell ⟨rx, 0, none⟩ (.slice none 0 0)).setCell ⟨rx, 1, none⟩ (.slice none 0 0))) := by
                have f1 : Fr (fun i => i = rx) we (we.setCell ⟨rx, 0, none⟩ (.slice none 0 0)) := Fr.set (S := fun i => i = rx) we (p := ⟨rx, 0, none⟩) rfl _
                have f2 : Fr (fun i => i = rx) (we.setCell ⟨rx, 0, none⟩ (.slice none 0 0)) _ := Fr.set (S := fun i => i = rx) _ (p := ⟨rx, 1, none⟩) (u := .slice none 0 0) rfl
                exact below_at_ HBw.out (f1.trans f2 (fun _ _ e => e)) HRX.out
              go_wp2_with fail
              generalize (we.setCell ⟨rx, 0, none⟩ (.slice none 0 0)).setCell ⟨rx, 1, none⟩ (.slice none 0 0) = wz at *
              have y0 := HZ2.out.cell 0
              have y1 := HZ2.out.cell 1
              exact bodyPost_ret (v := .tuple #[imgV (.slice none 0 0) (.slice none 0 0), .int .i64 150]) (by simp [results, Tryd.results19, go_sem, y0, y1]) rfl ⟨HB2.out, by rw [if_neg HBg.out, HD.out]⟩
            · have HP : Hid (pImg (rs.drop 4) = some (⟨lg, lf⟩, rs.drop k')) := by
                obtain ⟨l', e, h1⟩ := HGI.out.of_some
                injection e with e
                show _ = _
                rw [e]; exact h1
              by_cases hkk : k' = rs.length
              · have hne : ((k' : Int) != (rs.length : Int)) = false := by simp [hkk]
                have hnil : rs.drop k' = [] := by rw [hkk]; exact List.drop_length
                cases ok with
                | false =>
                  have HD : Hid (decI bs = none) := by
                    show _ = _
                    rw [HDec2.out, HP.out]
                    simp only [Option.bind_some]
                    rw [if_neg (by rw [HOK.out]; simp)]
                  clear hkk hnil
                  have r0 := HZr.out.cell 0
                  have r1 := HZr.out.cell 1
                  have z0 := HZr.out.frozen 0
                  have z1 := HZr.out.frozen 1
                  have HZ2 : Hid (Blk ((we.setCell ⟨rx, 0, none⟩ (.slice none 0 0)).setCell ⟨rx, 1, none⟩ (.slice none 0 0)) rx 25 #[.slice none 0 0, .slice none 0 0]) := by
                    have := (HZr.out.set_ 0 (.slice none 0 0)).set_ 1 (.slice none 0 0)
                    exact Lib.hid (by simpa using this)
                  have HB2 : Hid (Below w.heap.size w ((we.setCell ⟨rx, 0, none⟩ (.slice none 0 0)).setCell ⟨rx, 1, none⟩ (.slice none 0 0))) := by
                    have f1 : Fr (fun i => i = rx) we (we.setCell ⟨rx, 0, none⟩ (.slice none 0 0)) := Fr.set (S := fun i => i = rx) we (p := ⟨rx, 0, none⟩) rfl _
                    have f2 : Fr (fun i => i = rx) (we.setCell ⟨rx, 0, none⟩ (.slice none 0 0)) _ := Fr.set (S := fun i => i = rx) _ (p := ⟨rx, 1, none⟩) (u := .slice none 0 0) rfl
                    exact below_at_ HBw.out (f1.trans f2 (fun _ _ e => e)) HRX.out
                  go_wp2_with fail
                  generalize (we.setCell ⟨rx, 0, none⟩ (.slice none 0 0)).setCell ⟨rx, 1, none⟩ (.slice none 0 0) = wz at *
                  have y0 := HZ2.out.cell 0
                  have y1 := HZ2.out.cell 1
                  exact bodyPost_ret (v := .tuple #[imgV (.slice none 0 0) (.slice none 0 0), .int .i64 150]) (by simp [results, Tryd.results19, go_sem, y0, y1]) rfl ⟨HB2.out, by rw [if_neg HBg.out, HD.out]⟩
                | true =>
                  have HD : Hid (decI bs = some ⟨lg, lf⟩) := by
                    show _ = _
                    rw [HDec2.out, HP.out]
                    simp only [Option.bind_some]
                    rw [if_pos ⟨hnil, HOK.out⟩]
                  clear hkk hnil
                  have x0 := X.out.xb.cell 0
                  have x1 := X.out.xb.cell 1
                  have r0 := HZr.out.cell 0
                  have r1 := HZr.out.cell 1
                  have z0 := HZr.out.frozen 0
                  have z1 := HZr.out.frozen 1
                  have hF2 : Hid (Fr (fun i => i = rx) we ((we.setCell ⟨rx, 0, none⟩ (.slice Ag lg.length cg)).setCell ⟨rx, 1, none⟩ (.slice Af lf.length cf))) := by
                    have f1 : Fr (fun i => i = rx) we (we.setCell ⟨rx, 0, none⟩ (.slice Ag lg.length cg)) := Fr.set (S := fun i => i = rx) we (p := ⟨rx, 0, none⟩) rfl _
                    have f2 : Fr (fun i => i = rx) (we.setCell ⟨rx, 0, none⟩ (.slice Ag lg.length cg)) _ := Fr.set (S := fun i => i = rx) _ (p := ⟨rx, 1, none⟩) (u := .slice Af lf.length cf) rfl
                    exact f1.trans f2 (fun _ _ e => e)
                  have HZ2 : Hid (Blk ((we.setCell ⟨rx, 0, none⟩ (.slice Ag lg.length cg)).setCell ⟨rx, 1, none⟩ (.slice Af lf.length cf)) rx 25 #[.slice Ag lg.length cg, .slice Af lf.length cf]) := by
                    have := (HZr.out.set_ 0 (.slice Ag lg.length cg)).set_ 1 (.slice Af lf.length cf)
                    exact Lib.hid (by simpa using this)
                  have HB2 := Lib.hid (below_at_ HBw.out hF2.out HRX.out)
                  have HIM := Lib.hid ((HIM.out.fr hF2.out (fun b hb _ e => by have e : b = rx := e; have := X.out.rw_; omega)).lower HBa.out.size)
                  go_wp2_with fail
                  generalize (we.setCell ⟨rx, 0, none⟩ (.slice Ag lg.length cg)).setCell ⟨rx, 1, none⟩ (.slice Af lf.length cf) = wz at *
                  have y0 := HZ2.out.cell 0
                  have y1 := HZ2.out.cell 1
                  exact bodyPost_ret (v := .tuple #[imgV (.slice Ag lg.length cg) (.slice Af lf.length cf), .int .i64 0]) (by simp [results, Tryd.results19, go_sem, y0, y1]) rfl ⟨HB2.out, by rw [if_neg HBg.out, HD.out]; exact ⟨_, _, rfl, HIM.out⟩⟩
              · have hne : ((k' : Int) != (rs.length : Int)) = true := by simp; omega
                have hnil : rs.drop k' ≠ [] := by
                  intro e
                  have := congrArg List.length e
                  rw [List.length_drop] at this
                  simp at this; omega
                have HD : Hid (decI bs = none) := by
                  show _ = _
                  rw [HDec2.out, HP.out]
                  simp only [Option.bind_some]
                  rw [if_neg (fun h => hnil h.1)]
                clear hkk hnil
                have r0 := HZr.out.cell 0
                have r1 := HZr.out.cell 1
                have z0 := HZr.out.frozen 0
                have z1 := HZr.out.frozen 1
                have HZ2 : Hid (Blk ((we.setCell ⟨rx, 0, none⟩ (.slice none 0 0)).setCell ⟨rx, 1, none⟩ (.slice none 0 0)) rx 25 #[.slice none 0 0, .slice none 0 0]) := by
                  have := (HZr.out.set_ 0 (.slice none 0 0)).set_ 1 (.slice none 0 0)
                  exact Lib.hid (by simpa using this)
                have HB2 : Hid (Below w.heap.size w ((we.setCell ⟨rx, 0, none⟩ (.slice none 0 0)).setCell ⟨rx, 1, none⟩ (.slice none 0 0))) := by
                  have f1 : Fr (fun i => i = rx) we (we.setCell ⟨rx, 0, none⟩ (.slice none 0 0)) := Fr.set (S := fun i => i = rx) we (p := ⟨rx, 0, none⟩) rfl _
                  have f2 : Fr (fun i => i = rx) (we.setCell ⟨rx, 0, none⟩ (.slice none 0 0)) _ := Fr.set (S := fun i => i = rx) _ (p := ⟨rx, 1, none⟩) (u := .slice none 0 0) rfl
                  exact below_at_ HBw.out (f1.trans f2 (fun _ _ e => e)) HRX.out
                go_wp2_with fail
                generalize (we.setCell ⟨rx, 0, none⟩ (.slice none 0 0)).setCell ⟨rx, 1, none⟩ (.slice none 0 0) = wz at *
                have y0 := HZ2.out.cell 0
                have y1 := HZ2.out.cell 1
                exact bodyPost_ret (v := .tuple #[imgV (.slice none 0 0) (.slice none 0 0), .int .i64 150]) (by simp [results, Tryd.results19, go_sem, y0, y1]) rfl ⟨HB2.out, by rw [if_neg HBg.out, HD.out]⟩
    · have HD : Hid (decI bs = none) := by show _ = _; unfold decI; rw [if_neg hno]
      clear hno
      have r0 := HZr.out.cell 0
      have r1 := HZr.out.cell 1
      have z0 := HZr.out.frozen 0
      have z1 := HZr.out.frozen 1
      have HZ2 : Hid (Blk ((w1.setCell ⟨rx, 0, none⟩ (.slice none 0 0)).setCell ⟨rx, 1, none⟩ (.slice none 0 0)) rx 25 #[.slice none 0 0, .slice none 0 0]) := by
        have := (HZr.out.set_ 0 (.slice none 0 0)).set_ 1 (.slice none 0 0)
        exact Lib.hid (by simpa using this)
      have HB2 : Hid (Below w.heap.size w ((w1.setCell ⟨rx, 0, none⟩ (.slice none 0 0)).setCell ⟨rx, 1, none⟩ (.slice none 0 0))) := by
        have f1 : Fr (fun i => i = rx) w1 (w1.setCell ⟨rx, 0, none⟩ (.slice none 0 0)) := Fr.set (S := fun i => i = rx) w1 (p := ⟨rx, 0, none⟩) rfl _
        have f2 : Fr (fun i => i = rx) (w1.setCell ⟨rx, 0, none⟩ (.slice none 0 0)) _ := Fr.set (S := fun i => i = rx) _ (p := ⟨rx, 1, none⟩) (u := .slice none 0 0) rfl
        exact below_at_ HB1.out (f1.trans f2 (fun _ _ e => e)) HRX.out
      go_wp2_with fail
      generalize (w1.setCell ⟨rx, 0, none⟩ (.slice none 0 0)).setCell ⟨rx, 1, none⟩ (.slice none 0 0) = wz at *
      have y0 := HZ2.out.cell 0
      have y1 := HZ2.out.cell 1
      exact bodyPost_ret (v := .tuple #[imgV (.slice none 0 0) (.slice none 0 0), .int .i64 150]) (by simp [results, Tryd.results19, go_sem, y0, y1]) rfl ⟨HB2.out, by rw [if_neg HBg.out, HD.out]⟩

end Go.Proofs.YtebdjahcahgafaaDoor
