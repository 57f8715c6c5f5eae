/- The contract of read: the part of a datagram. -/
import Derived.Test.YtmlbhlfjaagcaaaDoorLState
import Derived.Test.YtmlbhlfjaagcaaaDoorRead
namespace Go.Proofs.YtmlbhlfjaagcaaaDoor
open Go.RowKit

/-- What a datagram holds. -/
structure DG where
  so : Bool
  la : Nat
  bi : Nat
  nu : Nat
  ix : Nat
  ct : Nat
  bs : List Nat

/-- The fields of eleven bytes and more. -/
def dgOf (b : List Nat) : DG := ⟨decide (b.getD 0 0 = 1), b.getD 1 0 * 256 + b.getD 2 0, (b.getD 3 0 * 256 + b.getD 4 0) * 65536 + (b.getD 5 0 * 256 + b.getD 6 0), b.getD 7 0 * 256 + b.getD 8 0, b.getD 9 0, b.getD 10 0, b.drop 11⟩
/-- Are the bytes without the sum well formed? -/
def formB (b : List Nat) : Bool := decide (11 ≤ b.length) && (decide (b.getD 0 0 ≤ 1) && ((dgOf b).so || (decide ((dgOf b).la = 0) && decide ((dgOf b).bi = 0))) && (decide ((dgOf b).ct ≤ 10) && decide ((dgOf b).ix < (dgOf b).ct) && rightB (dgOf b).ix (dgOf b).ct (b.length - 11)))
/-- The bytes ahead of the sum. -/
abbrev bodyL (d : List Nat) : List Nat := d.take (d.length - 4)
def opens (d : List Nat) : Prop := d = frame (bodyL d) ∧ 4 ≤ d.length
instance (d : List Nat) : Decidable (opens d) := by unfold opens; infer_instance
/-- What a datagram is, if it is well formed. -/
def decD (d : List Nat) : Option DG := if opens d ∧ formB (bodyL d) = true then some (dgOf (bodyL d)) else none

def ReadA (w : World) (d : List Nat) (e : Ending) (w' : World) : Prop :=
  Below w.heap.size w w' ∧ ((∃ v, decD d = some (dgOf (bodyL d)) ∧ e = .returned (.tuple #[partV (dgOf (bodyL d)).so (dgOf (bodyL d)).la (dgOf (bodyL d)).bi (dgOf (bodyL d)).nu (dgOf (bodyL d)).ix (dgOf (bodyL d)).ct v, .bool true]) ∧ PSl w' (fun k => w.heap.size ≤ k) v (bodyL d |>.drop 11)) ∨
    (decD d = none ∧ e = .returned (.tuple #[partV false 0 0 0 0 0 (.slice none 0 0), .bool false])))

abbrev part0 : Array Value := #[.bool false, .int .u16 0, .int .u32 0, .int .u16 0, .int .i64 0, .int .i64 0, .slice none 0 0]

/-- Where a goto leads. -/
def ReadGo (w : World) (d : List Nat) (l : Nat) (a' : Act) (w' : World) : Prop :=
  (l = 0 ∧ decD d = none) ∧ Below w.heap.size w w' ∧ Blk w' w.heap.size 78 part0 ∧
  ∃ u0 u1 u3 u4 u5 u6 u7 u8 u9 u10 u11 u12 u13 u14 u15 u16 u17 u18 u19 u20 u21 u22 u23 u24 u25 u26 u27 u28 u29 u30 u31 u32 u33 u34 u35 u36 u37 u38 u39 u40 u41 u42 u43 u44 u45 u46 u47 u48 u49 u50 u51 u52 u53 u54 u55 u56 u57 u58 u59 u60 u61 u62 u63 u64 u65 u66 u67 u68 u69 u70 u71 u72 u73 u74 u75 u76 u77 u78 u79 u80 u81 u82 u83 u84 u85 u86 u87 u88 u89 u90 u91 u92 u93 u94 u95 u96 u97 u98 u99 u100 u101 u102 u103 : Value, a' = { tmps := #[u0, u1, Value.pointer (some ⟨w.heap.size, 0, none⟩), u3, u4, u5, u6, u7, u8, u9, u10, u11, u12, u13, u14, u15, u16, u17, u18, u19, u20, u21, u22, u23, u24, u25, u26, u27, u28, u29, u30, u31, u32, u33, u34, u35, u36, u37, u38, u39, u40, u41, u42, u43, u44, u45, u46, u47, u48, u49, u50, u51, u52, u53, u54, u55, u56, u57, u58, u59, u60, u61, u62, u63, u64, u65, u66, u67, u68, u69, u70, u71, u72, u73, u74, u75, u76, u77, u78, u79, u80, u81, u82, u83, u84, u85, u86, u87, u88, u89, u90, u91, u92, u93, u94, u95, u96, u97, u98, u99, u100, u101, u102, u103], defers := [] }

theorem ReadGo.of {w : World} {d : List Nat} {w' : World} {u0 u1 u3 u4 u5 u6 u7 u8 u9 u10 u11 u12 u13 u14 u15 u16 u17 u18 u19 u20 u21 u22 u23 u24 u25 u26 u27 u28 u29 u30 u31 u32 u33 u34 u35 u36 u37 u38 u39 u40 u41 u42 u43 u44 u45 u46 u47 u48 u49 u50 u51 u52 u53 u54 u55 u56 u57 u58 u59 u60 u61 u62 u63 u64 u65 u66 u67 u68 u69 u70 u71 u72 u73 u74 u75 u76 u77 u78 u79 u80 u81 u82 u83 u84 u85 u86 u87 u88 u89 u90 u91 u92 u93 u94 u95 u96 u97 u98 u99 u100 u101 u102 u103 : Value} (hd : decD d = none) (hb : Below w.heap.size w w') (hk : Blk w' w.heap.size 78 part0) :
    ReadGo w d 0 { tmps := #[u0, u1, Value.pointer (some ⟨w.heap.size, 0, none⟩), u3, u4, u5, u6, u7, u8, u9, u10, u11, u12, u13, u14, u15, u16, u17, u18, u19, u20, u21, u22, u23, u24, u25, u26, u27, u28, u29, u30, u31, u32, u33, u34, u35, u36, u37, u38, u39, u40, u41, u42, u43, u44, u45, u46, u47, u48, u49, u50, u51, u52, u53, u54, u55, u56, u57, u58, u59, u60, u61, u62, u63, u64, u65, u66, u67, u68, u69, u70, u71, u72, u73, u74, u75, u76, u77, u78, u79, u80, u81, u82, u83, u84, u85, u86, u87, u88, u89, u90, u91, u92, u93, u94, u95, u96, u97, u98, u99, u100, u101, u102, u103], defers := [] } w' := ⟨⟨rfl, hd⟩, hb, hk, u0, u1, u3, u4, u5, u6, u7, u8, u9, u10, u11, u12, u13, u14, u15, u16, u17, u18, u19, u20, u21, u22, u23, u24, u25, u26, u27, u28, u29, u30, u31, u32, u33, u34, u35, u36, u37, u38, u39, u40, u41, u42, u43, u44, u45, u46, u47, u48, u49, u50, u51, u52, u53, u54, u55, u56, u57, u58, u59, u60, u61, u62, u63, u64, u65, u66, u67, u68, u69, u70, u71, u72, u73, u74, u75, u76, u77, u78, u79, u80, u81, u82, u83, u84, u85, u86, u87, u88, u89, u90, u91, u92, u93, u94, u95, u96, u97, u98, u99, u100, u101, u102, u103, rfl⟩

theorem pair_s (a b : Nat) (w : World) (ha : a < 256) (hb : b < 256) :
    Calls Tryd.prog 44 #[.int .u8 (a : Int), .int .u8 (b : Int)] w fun e w' => e = .returned (.int .u16 ((a * 256 + b : Nat) : Int)) ∧ w' = w :=
  (pair_c a b w ha hb).mono fun _ _ h => ⟨h.1, h.2.symm⟩

theorem dec_no {d b : List Nat} (h : decD d = if formB b = true then some (dgOf b) else none) (h2 : formB b = false) : decD d = none := by
  rw [h, h2]; rfl
theorem formA {x0 la bi : Nat} {so : Bool} (h : x0 ≤ 1) (hc : ¬ (so = false ∧ (la ≠ 0 ∨ bi ≠ 0))) : (decide (x0 ≤ 1) && (so || (decide (la = 0) && decide (bi = 0)))) = true := by
  cases so with
  | true => simp [h]
  | false =>
    have h1 : la = 0 ∧ bi = 0 := by
      refine ⟨Decidable.byContradiction fun e => hc ⟨rfl, .inl e⟩, Decidable.byContradiction fun e => hc ⟨rfl, .inr e⟩⟩
    simp [h, h1]
theorem formC {la bi : Nat} {so : Bool} (hc : ¬ (so = false ∧ (la ≠ 0 ∨ bi ≠ 0))) : (so = true) ∨ (so = false ∧ la = 0 ∧ bi = 0) := by
  cases so with
  | true => exact .inl rfl
  | false => exact .inr ⟨rfl, Decidable.byContradiction fun e => hc ⟨rfl, .inl e⟩, Decidable.byContradiction fun e => hc ⟨rfl, .inr e⟩⟩

theorem u32_wrap (x : Int) : IntKind.u32.wrap x = x % 4294967296 := by simp [IntKind.wrap, IntKind.bits, IntKind.signed]

/-- In the midst of read. -/
structure RdSt (w : World) (gb : Nat) (b : List Nat) (cs : Array Value) (wr : World) : Prop where
  z : Blk wr w.heap.size 78 part0
  p : Blk wr (w.heap.size + 1) 78 cs
  k : Blk wr gb 5 (U8s b).toArray
  far : w.heap.size + 1 < gb
  below : Below w.heap.size w wr

section
variable {w wr w' : World} {gb : Nat} {b : List Nat} {cs : Array Value}
theorem RdSt.drew (S : RdSt w gb b cs wr) : RdSt w gb b cs wr.drew := ⟨S.z, S.p, S.k, S.far, S.below.drew⟩
theorem RdSt.set (S : RdSt w gb b cs wr) (i : Nat) (u : Value) : RdSt w gb b (cs.setIfInBounds i u) (wr.setCell ⟨w.heap.size + 1, i, none⟩ u) :=
  ⟨S.z.far (p := ⟨w.heap.size + 1, i, none⟩) (by simp) _, S.p.set_ i u, S.k.far (p := ⟨w.heap.size + 1, i, none⟩) (by have := S.far; simp; omega) _, S.far, S.below.setCell (by simp) _⟩
theorem RdSt.row (S : RdSt w gb b cs wr) (rs : Array Value) : RdSt w gb b rs (wr.setRow (w.heap.size + 1) rs) :=
  ⟨S.z.setRow (by omega) rs, S.p.setRow_ rs, S.k.setRow (by have := S.far; omega) rs, S.far, bsr S.below (by omega) rs⟩
theorem RdSt.at_ (S : RdSt w gb b cs wr) (i : Nat) (h : i < b.length) : wr.cell? ⟨gb, i, none⟩ = some (.int .u8 ((b.getD i 0 : Nat) : Int)) := by rw [S.k.cell]; simpa using U8s_get b i h
theorem RdSt.go (S : RdSt w gb b cs wr) (h : Below wr.heap.size wr w') : RdSt w gb b cs w' :=
  ⟨S.z.below h S.z.lt, S.p.below h S.p.lt, S.k.below h S.k.lt, S.far, below_trans S.below h⟩
end

theorem rd_start (w w3 : World) (b : List Nat) (gb : Nat) (hb : Below ((w.alloc (.cells part0 78)).alloc (.cells part0 78)).heap.size ((w.alloc (.cells part0 78)).alloc (.cells part0 78)) w3) (hg : ((w.alloc (.cells part0 78)).alloc (.cells part0 78)).heap.size ≤ gb) (hk : Blk w3 gb 5 (U8s b).toArray) : RdSt w gb b part0 w3 := by
  have e : ((w.alloc (.cells part0 78)).alloc (.cells part0 78)).heap.size = w.heap.size + 1 + 1 := by simp
  refine ⟨((Blk.new w 78 part0).alloc _).below hb (by rw [e]; omega), ?_, hk, by omega, below_trans ((lbel1 w _).trans ((lbel1 _ _).mono (by simp))) hb⟩
  have := Blk.new (w.alloc (.cells part0 78)) 78 part0
  exact (show Blk _ (w.heap.size + 1) 78 part0 by simpa using this).below hb (by rw [e]; omega)

theorem rd_end {w wr : World} {gb : Nat} {b : List Nat} {cs : Array Value} (S : RdSt w gb b cs wr) (c0 c1 c2 c3 c4 c5 c6 : Value) :
    Blk (((((((wr.setCell ⟨w.heap.size, 0, none⟩ (c0)).setCell ⟨w.heap.size, 1, none⟩ (c1)).setCell ⟨w.heap.size, 2, none⟩ (c2)).setCell ⟨w.heap.size, 3, none⟩ (c3)).setCell ⟨w.heap.size, 4, none⟩ (c4)).setCell ⟨w.heap.size, 5, none⟩ (c5)).setCell ⟨w.heap.size, 6, none⟩ (c6)) w.heap.size 78 #[c0, c1, c2, c3, c4, c5, c6] ∧ Blk (((((((wr.setCell ⟨w.heap.size, 0, none⟩ (c0)).setCell ⟨w.heap.size, 1, none⟩ (c1)).setCell ⟨w.heap.size, 2, none⟩ (c2)).setCell ⟨w.heap.size, 3, none⟩ (c3)).setCell ⟨w.heap.size, 4, none⟩ (c4)).setCell ⟨w.heap.size, 5, none⟩ (c5)).setCell ⟨w.heap.size, 6, none⟩ (c6)) gb 5 (U8s b).toArray ∧ Below w.heap.size w (((((((wr.setCell ⟨w.heap.size, 0, none⟩ (c0)).setCell ⟨w.heap.size, 1, none⟩ (c1)).setCell ⟨w.heap.size, 2, none⟩ (c2)).setCell ⟨w.heap.size, 3, none⟩ (c3)).setCell ⟨w.heap.size, 4, none⟩ (c4)).setCell ⟨w.heap.size, 5, none⟩ (c5)).setCell ⟨w.heap.size, 6, none⟩ (c6)) :=
  ⟨((((((((((((((S.z).set_ 0 (c0))).set_ 1 (c1))).set_ 2 (c2))).set_ 3 (c3))).set_ 4 (c4))).set_ 5 (c5))).set_ 6 (c6)), ((((((((((((((S.k).far (p := ⟨w.heap.size, 0, none⟩) (by have := S.far; simp; omega) (c0))).far (p := ⟨w.heap.size, 1, none⟩) (by have := S.far; simp; omega) (c1))).far (p := ⟨w.heap.size, 2, none⟩) (by have := S.far; simp; omega) (c2))).far (p := ⟨w.heap.size, 3, none⟩) (by have := S.far; simp; omega) (c3))).far (p := ⟨w.heap.size, 4, none⟩) (by have := S.far; simp; omega) (c4))).far (p := ⟨w.heap.size, 5, none⟩) (by have := S.far; simp; omega) (c5))).far (p := ⟨w.heap.size, 6, none⟩) (by have := S.far; simp; omega) (c6)), ((((((((((((((S.below).setCell (p := ⟨w.heap.size, 0, none⟩) (Nat.le_refl _) (c0))).setCell (p := ⟨w.heap.size, 1, none⟩) (Nat.le_refl _) (c1))).setCell (p := ⟨w.heap.size, 2, none⟩) (Nat.le_refl _) (c2))).setCell (p := ⟨w.heap.size, 3, none⟩) (Nat.le_refl _) (c3))).setCell (p := ⟨w.heap.size, 4, none⟩) (Nat.le_refl _) (c4))).setCell (p := ⟨w.heap.size, 5, none⟩) (Nat.le_refl _) (c5))).setCell (p := ⟨w.heap.size, 6, none⟩) (Nat.le_refl _) (c6))⟩

/-- 'b[11:]'. -/
theorem cut11 {gb : Nat} {b : List Nat} (h : 11 ≤ b.length) :
    ∃ o, (∀ w', (Instr.sliceAt 36 (.slice (some ⟨gb, 0, none⟩) b.length b.length) (some (.int .i64 11)) none none).run Tryd.prog w' = .ok (.slice (some ⟨gb, o, none⟩) (b.length - 11) (b.length - 11)) w') ∧ ∀ w', Blk w' gb 5 (U8s b).toArray → SlB w' (.slice (some ⟨gb, o, none⟩) (b.length - 11) (b.length - 11)) (b.drop 11) := by
  have key : ∃ o, (if b.length = 11 then some (⟨gb, 0, none⟩ : Addr) else (some (⟨gb, 0, none⟩ : Addr)).map (·.add 11)) = some ⟨gb, o, none⟩ := by
    by_cases e : b.length = 11
    · exact ⟨0, by rw [if_pos e]⟩
    · exact ⟨11, by rw [if_neg e]; simp [Addr.add]⟩
  obtain ⟨o, ho⟩ := key
  refine ⟨o, fun w' => ?_, fun w' hk' => ?_⟩
  · rw [run_sliceAt_slice w' 36 _ _ _ _ (by rw [elem22]; exact Tryd.underlying36), run_slice_l w' 36 _ _ _ (by rw [elem22]; exact Tryd.underlying36) .i64 11 (by omega) (by omega), elem22, size_u8, ← ho]
    simp [Result.andThen, sliced]
  · have h0 : SlB w' (.slice (some ⟨gb, 0, none⟩) b.length b.length) b := ⟨_, _, rfl, Nat.le_refl _, (fun e => nomatch e), by
      have := Reads.blk (w := w') (t := 5) hk'
      rw [U8s_length] at this
      exact this.more (Nat.succ_le_of_lt hk'.lt)⟩
    have := h0.drop (k := 11) h (b.length - 11) rfl
    rw [ho] at this
    exact this

set_option maxHeartbeats 8000000 in
set_option maxRecDepth 100000 in
theorem lread_c (v : Value) (d : List Nat) (w : World) (hv : SlB w v d) (ht : Tab w) (hn : d.length ≤ 281474976710656) (hby : ∀ x ∈ d, x < 256) :
    Calls Tryd.prog 33 #[v] w (ReadA w d) := by
  have HO := Lib.hid (open_c v d ((w.alloc (.cells part0 78)).alloc (.cells part0 78)) (hv.below ((lbel1 w _).trans ((lbel1 _ _).mono (by simp)))) (ht.below ((lbel1 w _).trans ((lbel1 _ _).mono (by simp)))) hn hby)
  have HBy := Lib.hid hby
  clear hv ht hby
  go_enter Tryd.func33, Tryd.ntmps33
  go_wp2_with fail
  refine wp_scope_fwd (ReadGo w d) ?_ ?_
  · go_wp2_with fail
    refine HO.out.mono ?_
    rintro e w3 ⟨hb3, h3 | h3⟩
    · obtain ⟨h31, h32, gb, n, rfl, rfl, h33, h34⟩ := h3
      have S3 := rd_start w w3 (bodyL d) gb hb3 h33 h34
      have HOp := Lib.hid (show opens d from ⟨h31, h32⟩)
      have hl4 : d.length - 4 = (bodyL d).length := by simp [bodyL]
      rw [hl4]
      have HX : Hid (∀ x ∈ bodyL d, x < 256) := fun x hx => HBy.out x (List.mem_of_mem_take hx)
      have hdec : decD d = if formB (bodyL d) = true then some (dgOf (bodyL d)) else none := by
        unfold decD; simp only [HOp.out, true_and]
      have hbl : (bodyL d).length ≤ 281474976710656 := by simp [bodyL]; omega
      obtain ⟨b, hbe⟩ : ∃ b, b = bodyL d := ⟨_, rfl⟩
      rw [← hbe] at hdec S3 HX hbl
      rw [← hbe]
      have HD := Lib.hid hdec
      have HE := Lib.hid hbe
      clear h31 h32 h33 h34 hb3 hl4 hdec HO HBy HOp hbe
      rcases Nat.lt_or_ge b.length 11 with hs | hs
      · have hd : decide ((b.length : Int) < 11) = true := by simp; omega
        have HN : Hid (decD d = none) := by rw [HD.out, if_neg (by simp [formB]; omega)]; exact rfl
        have HS := Lib.hid S3
        clear S3
        go_wp2_with fail
        go_step3
        simp only [Exit.then, jumps]
        exact ReadGo.of HN.out HS.out.below HS.out.z
      · have hd : decide ((b.length : Int) < 11) = false := by simp; omega
        have hd1 : (11 : Int) ≤ (b.length : Int) := by omega
        obtain ⟨x0, hx0⟩ : ∃ x, x = b.getD 0 0 := ⟨_, rfl⟩
        have l0 : x0 < 256 := by rw [hx0, List.getD_eq_getElem?_getD, List.getElem?_eq_getElem (by omega), Option.getD_some]; exact HX.out _ (List.getElem_mem _)
        have Hx0 := Lib.hid hx0
        have g0 : 0 < b.length := by omega
        have i0 : (0 : Int) < (b.length : Int) := by omega
        clear hx0
        obtain ⟨x1, hx1⟩ : ∃ x, x = b.getD 1 0 := ⟨_, rfl⟩
        have l1 : x1 < 256 := by rw [hx1, List.getD_eq_getElem?_getD, List.getElem?_eq_getElem (by omega), Option.getD_some]; exact HX.out _ (List.getElem_mem _)
        have Hx1 := Lib.hid hx1
        have g1 : 1 < b.length := by omega
        have i1 : (1 : Int) < (b.length : Int) := by omega
        clear hx1
        obtain ⟨x2, hx2⟩ : ∃ x, x = b.getD 2 0 := ⟨_, rfl⟩
        have l2 : x2 < 256 := by rw [hx2, List.getD_eq_getElem?_getD, List.getElem?_eq_getElem (by omega), Option.getD_some]; exact HX.out _ (List.getElem_mem _)
        have Hx2 := Lib.hid hx2
        have g2 : 2 < b.length := by omega
        have i2 : (2 : Int) < (b.length : Int) := by omega
        clear hx2
        obtain ⟨x3, hx3⟩ : ∃ x, x = b.getD 3 0 := ⟨_, rfl⟩
        have l3 : x3 < 256 := by rw [hx3, List.getD_eq_getElem?_getD, List.getElem?_eq_getElem (by omega), Option.getD_some]; exact HX.out _ (List.getElem_mem _)
        have Hx3 := Lib.hid hx3
        have g3 : 3 < b.length := by omega
        have i3 : (3 : Int) < (b.length : Int) := by omega
        clear hx3
        obtain ⟨x4, hx4⟩ : ∃ x, x = b.getD 4 0 := ⟨_, rfl⟩
        have l4 : x4 < 256 := by rw [hx4, List.getD_eq_getElem?_getD, List.getElem?_eq_getElem (by omega), Option.getD_some]; exact HX.out _ (List.getElem_mem _)
        have Hx4 := Lib.hid hx4
        have g4 : 4 < b.length := by omega
        have i4 : (4 : Int) < (b.length : Int) := by omega
        clear hx4
        obtain ⟨x5, hx5⟩ : ∃ x, x = b.getD 5 0 := ⟨_, rfl⟩
        have l5 : x5 < 256 := by rw [hx5, List.getD_eq_getElem?_getD, List.getElem?_eq_getElem (by omega), Option.getD_some]; exact HX.out _ (List.getElem_mem _)
        have Hx5 := Lib.hid hx5
        have g5 : 5 < b.length := by omega
        have i5 : (5 : Int) < (b.length : Int) := by omega
        clear hx5
        obtain ⟨x6, hx6⟩ : ∃ x, x = b.getD 6 0 := ⟨_, rfl⟩
        have l6 : x6 < 256 := by rw [hx6, List.getD_eq_getElem?_getD, List.getElem?_eq_getElem (by omega), Option.getD_some]; exact HX.out _ (List.getElem_mem _)
        have Hx6 := Lib.hid hx6
        have g6 : 6 < b.length := by omega
        have i6 : (6 : Int) < (b.length : Int) := by omega
        clear hx6
        obtain ⟨x7, hx7⟩ : ∃ x, x = b.getD 7 0 := ⟨_, rfl⟩
        have l7 : x7 < 256 := by rw [hx7, List.getD_eq_getElem?_getD, List.getElem?_eq_getElem (by omega), Option.getD_some]; exact HX.out _ (List.getElem_mem _)
        have Hx7 := Lib.hid hx7
        have g7 : 7 < b.length := by omega
        have i7 : (7 : Int) < (b.length : Int) := by omega
        clear hx7
        obtain ⟨x8, hx8⟩ : ∃ x, x = b.getD 8 0 := ⟨_, rfl⟩
        have l8 : x8 < 256 := by rw [hx8, List.getD_eq_getElem?_getD, List.getElem?_eq_getElem (by omega), Option.getD_some]; exact HX.out _ (List.getElem_mem _)
        have Hx8 := Lib.hid hx8
        have g8 : 8 < b.length := by omega
        have i8 : (8 : Int) < (b.length : Int) := by omega
        clear hx8
        obtain ⟨x9, hx9⟩ : ∃ x, x = b.getD 9 0 := ⟨_, rfl⟩
        have l9 : x9 < 256 := by rw [hx9, List.getD_eq_getElem?_getD, List.getElem?_eq_getElem (by omega), Option.getD_some]; exact HX.out _ (List.getElem_mem _)
        have Hx9 := Lib.hid hx9
        have g9 : 9 < b.length := by omega
        have i9 : (9 : Int) < (b.length : Int) := by omega
        clear hx9
        obtain ⟨x10, hx10⟩ : ∃ x, x = b.getD 10 0 := ⟨_, rfl⟩
        have l10 : x10 < 256 := by rw [hx10, List.getD_eq_getElem?_getD, List.getElem?_eq_getElem (by omega), Option.getD_some]; exact HX.out _ (List.getElem_mem _)
        have Hx10 := Lib.hid hx10
        have g10 : 10 < b.length := by omega
        have i10 : (10 : Int) < (b.length : Int) := by omega
        clear hx10
        obtain ⟨so, hso⟩ : ∃ so, so = decide (x0 = 1) := ⟨_, rfl⟩
        have e0 : ((x0 : Int) == 1) = so := by rw [hso, Bool.eq_iff_iff]; simp; omega
        obtain ⟨la, hla⟩ : ∃ la, la = x1 * 256 + x2 := ⟨_, rfl⟩
        have e1 : (x1 : Int) * 256 + (x2 : Int) = (la : Int) := by omega
        have lla : la < 65536 := by omega
        obtain ⟨m1, hm1⟩ : ∃ m1, m1 = x3 * 256 + x4 := ⟨_, rfl⟩
        have e2 : (x3 : Int) * 256 + (x4 : Int) = (m1 : Int) := by omega
        obtain ⟨m2, hm2⟩ : ∃ m2, m2 = x5 * 256 + x6 := ⟨_, rfl⟩
        have e3 : (x5 : Int) * 256 + (x6 : Int) = (m2 : Int) := by omega
        have e4 : IntKind.u32.wrap (m1 : Int) = (m1 : Int) := by rw [u32_wrap]; omega
        have e5 : IntKind.u32.wrap (m2 : Int) = (m2 : Int) := by rw [u32_wrap]; omega
        have e6 : IntKind.u32.wrap ((m1 : Int) * 65536) = (m1 : Int) * 65536 := by rw [u32_wrap]; omega
        obtain ⟨bi, hbi⟩ : ∃ bi, bi = m1 * 65536 + m2 := ⟨_, rfl⟩
        have lbi : bi < 4294967296 := by omega
        have e7 : bits BinOp.or IntKind.u32 ((m1 : Int) * 65536) (m2 : Int) = (bi : Int) := by
          rw [hbi, ← join16 m1 m2 (by omega), ← u32_or_nat (m1 * 65536) m2 (by omega) (by omega), Int.natCast_mul]; rfl
        have HF : Hid (so = (dgOf b).so ∧ la = (dgOf b).la ∧ bi = (dgOf b).bi) := by
          refine ⟨by rw [hso, Hx0.out]; rfl, by rw [hla, Hx1.out, Hx2.out]; rfl, by rw [hbi, hm1, hm2, Hx3.out, Hx4.out, Hx5.out, Hx6.out]; rfl⟩
        have Hso := Lib.hid hso
        clear hso hla hm1 hm2 hbi
        have HS := Lib.hid S3
        clear S3
        go_wp2_with fail
        refine wp_region_still_tail 31 (by kernel_rfl) (by kernel_rfl) ?_
        simp only [List.take_succ_cons, List.take_zero, List.drop_succ_cons, List.drop_zero]
        change wpStill _ _ w3.drew (fun a' => wpList _ _ _ _ a' w3.drew) _ _
        have S4 := HS.out.drew
        generalize w3.drew = w4 at S4 ⊢
        clear HS
        have q0 : w4.cell? ⟨gb, 0, none⟩ = some (.int .u8 (x0 : Int)) := by rw [Hx0.out]; exact S4.at_ 0 (by omega)
        have q1 : w4.cell? ⟨gb, 1, none⟩ = some (.int .u8 (x1 : Int)) := by rw [Hx1.out]; exact S4.at_ 1 (by omega)
        have q2 : w4.cell? ⟨gb, 2, none⟩ = some (.int .u8 (x2 : Int)) := by rw [Hx2.out]; exact S4.at_ 2 (by omega)
        have q3 : w4.cell? ⟨gb, 3, none⟩ = some (.int .u8 (x3 : Int)) := by rw [Hx3.out]; exact S4.at_ 3 (by omega)
        have q4 : w4.cell? ⟨gb, 4, none⟩ = some (.int .u8 (x4 : Int)) := by rw [Hx4.out]; exact S4.at_ 4 (by omega)
        have q5 : w4.cell? ⟨gb, 5, none⟩ = some (.int .u8 (x5 : Int)) := by rw [Hx5.out]; exact S4.at_ 5 (by omega)
        have q6 : w4.cell? ⟨gb, 6, none⟩ = some (.int .u8 (x6 : Int)) := by rw [Hx6.out]; exact S4.at_ 6 (by omega)
        have p0 : w4.cell? ⟨w.heap.size + 1, 0, none⟩ = some (.bool false) := S4.p.cell 0
        have r0 : w4.frozen? ⟨w.heap.size + 1, 0, none⟩ = false := S4.p.frozen 0
        have p1 : w4.cell? ⟨w.heap.size + 1, 1, none⟩ = some (.int .u16 0) := S4.p.cell 1
        have r1 : w4.frozen? ⟨w.heap.size + 1, 1, none⟩ = false := S4.p.frozen 1
        have p2 : w4.cell? ⟨w.heap.size + 1, 2, none⟩ = some (.int .u32 0) := S4.p.cell 2
        have r2 : w4.frozen? ⟨w.heap.size + 1, 2, none⟩ = false := S4.p.frozen 2
        have HS := Lib.hid S4
        clear S4
        repeat (first | still_step | still_call (pair_s _ _ _ (by assumption) (by assumption)))
        refine wpStill_nil ?_
        go_wp2_with fail
        have S5 := ((HS.out.set 0 (.bool so)).set 1 (.int .u16 (la : Int))).set 2 (.int .u32 (bi : Int))
        generalize ((w4.setCell ⟨w.heap.size + 1, 0, none⟩ (Value.bool so)).setCell ⟨w.heap.size + 1, 1, none⟩ (Value.int IntKind.u16 (la : Int))).setCell ⟨w.heap.size + 1, 2, none⟩ (Value.int IntKind.u32 (bi : Int)) = w5 at S5 ⊢
        clear HS e0 e1 e2 e3 e4 e5 e6 e7 q0 q1 q2 q3 q4 q5 q6 p0 p1 p2 r0 r1 r2
        refine wp_region_still_tail 8 (by kernel_rfl) (by kernel_rfl) ?_
        simp only [List.take_succ_cons, List.take_zero, List.drop_succ_cons, List.drop_zero]
        change wpStill _ _ w5.drew (fun a' => wpList _ _ _ _ a' w5.drew) _ _
        have S6 := S5.drew
        generalize w5.drew = w6 at S6 ⊢
        clear S5
        have q7 : w6.cell? ⟨gb, 7, none⟩ = some (.int .u8 (x7 : Int)) := by rw [Hx7.out]; exact S6.at_ 7 (by omega)
        have q8 : w6.cell? ⟨gb, 8, none⟩ = some (.int .u8 (x8 : Int)) := by rw [Hx8.out]; exact S6.at_ 8 (by omega)
        have p3 : w6.cell? ⟨w.heap.size + 1, 3, none⟩ = some (.int .u16 0) := S6.p.cell 3
        have r3 : w6.frozen? ⟨w.heap.size + 1, 3, none⟩ = false := S6.p.frozen 3
        have HS := Lib.hid S6
        clear S6
        obtain ⟨nu, hnu⟩ : ∃ nu, nu = x7 * 256 + x8 := ⟨_, rfl⟩
        have e1 : (x7 : Int) * 256 + (x8 : Int) = (nu : Int) := by omega
        have lnu : nu < 65536 := by omega
        have HF2 : Hid (nu = (dgOf b).nu) := by show nu = b.getD 7 0 * 256 + b.getD 8 0; rw [hnu, Hx7.out, Hx8.out]
        clear hnu
        repeat (first | still_step | still_call (pair_s _ _ _ (by assumption) (by assumption)))
        refine wpStill_nil ?_
        go_wp2_with fail
        have S7 := HS.out.set 3 (.int .u16 (nu : Int))
        generalize w6.setCell ⟨w.heap.size + 1, 3, none⟩ (Value.int IntKind.u16 (nu : Int)) = w7 at S7 ⊢
        clear HS q7 q8 p3 r3 e1
        have q9 : w7.cell? ⟨gb, 9, none⟩ = some (.int .u8 (x9 : Int)) := by rw [Hx9.out]; exact S7.at_ 9 (by omega)
        have q10 : w7.cell? ⟨gb, 10, none⟩ = some (.int .u8 (x10 : Int)) := by rw [Hx10.out]; exact S7.at_ 10 (by omega)
        have p4 : w7.cell? ⟨w.heap.size + 1, 4, none⟩ = some (.int .i64 0) := S7.p.cell 4
        have r4 : w7.frozen? ⟨w.heap.size + 1, 4, none⟩ = false := S7.p.frozen 4
        have p5 : w7.cell? ⟨w.heap.size + 1, 5, none⟩ = some (.int .i64 0) := S7.p.cell 5
        have r5 : w7.frozen? ⟨w.heap.size + 1, 5, none⟩ = false := S7.p.frozen 5
        have e9 : IntKind.i64.wrap (x9 : Int) = (x9 : Int) := IntWalk.i64_in _ (by omega)
        have e10 : IntKind.i64.wrap (x10 : Int) = (x10 : Int) := IntWalk.i64_in _ (by omega)
        have HS := Lib.hid S7
        clear S7
        go_region
        have S8 := ((HS.out.set 4 (.int .i64 (x9 : Int))).set 5 (.int .i64 (x10 : Int))).drew
        generalize ((w7.setCell ⟨w.heap.size + 1, 4, none⟩ (Value.int IntKind.i64 (x9 : Int))).setCell ⟨w.heap.size + 1, 5, none⟩ (Value.int IntKind.i64 (x10 : Int))).drew = w8 at S8 ⊢
        clear HS q9 q10 p4 r4 p5 r5 e9 e10
        obtain ⟨o, hcut, hsl⟩ := cut11 (gb := gb) hs
        have p6 : w8.cell? ⟨w.heap.size + 1, 6, none⟩ = some (.slice none 0 0) := S8.p.cell 6
        have r6 : w8.frozen? ⟨w.heap.size + 1, 6, none⟩ = false := S8.p.frozen 6
        have S9 := S8.set 6 (.slice (some ⟨gb, o, none⟩) (b.length - 11) (b.length - 11))
        have S9 : RdSt w gb b #[.bool so, .int .u16 (la : Int), .int .u32 (bi : Int), .int .u16 (nu : Int), .int .i64 (x9 : Int), .int .i64 (x10 : Int), .slice (some ⟨gb, o, none⟩) (b.length - 11) (b.length - 11)] (w8.setCell ⟨w.heap.size + 1, 6, none⟩ (.slice (some ⟨gb, o, none⟩) (b.length - 11) (b.length - 11))) := S9
        have HSl := Lib.hid hsl
        have HS := Lib.hid S9
        clear S8 S9 hsl
        go_upto_region 8 with (fail)
        have S9 := HS.out
        generalize w8.setCell ⟨w.heap.size + 1, 6, none⟩ (.slice (some ⟨gb, o, none⟩) (b.length - 11) (b.length - 11)) = w9 at S9 HS ⊢
        clear HS hcut p6 r6
        have q0 : w9.cell? ⟨gb, 0, none⟩ = some (.int .u8 (x0 : Int)) := by rw [Hx0.out]; exact S9.at_ 0 (by omega)
        have p0 : w9.cell? ⟨w.heap.size + 1, 0, none⟩ = some (.bool so) := S9.p.cell 0
        have p1 : w9.cell? ⟨w.heap.size + 1, 1, none⟩ = some (.int .u16 (la : Int)) := S9.p.cell 1
        have p2 : w9.cell? ⟨w.heap.size + 1, 2, none⟩ = some (.int .u32 (bi : Int)) := S9.p.cell 2
        have p3 : w9.cell? ⟨w.heap.size + 1, 3, none⟩ = some (.int .u16 (nu : Int)) := S9.p.cell 3
        have p4 : w9.cell? ⟨w.heap.size + 1, 4, none⟩ = some (.int .i64 (x9 : Int)) := S9.p.cell 4
        have p5 : w9.cell? ⟨w.heap.size + 1, 5, none⟩ = some (.int .i64 (x10 : Int)) := S9.p.cell 5
        have p6 : w9.cell? ⟨w.heap.size + 1, 6, none⟩ = some (.slice (some ⟨gb, o, none⟩) (b.length - 11) (b.length - 11)) := S9.p.cell 6
        have HS := Lib.hid S9
        clear S9
        by_cases ha : 1 < x0
        · have hd1 : decide ((1 : Int) < (x0 : Int)) = true := by simp; omega
          have HN : Hid (decD d = none) := by rw [HD.out, if_neg]; · exact rfl
                                              · rw [show formB b = false by unfold formB; rw [← Hx0.out, decide_eq_false (show ¬ x0 ≤ 1 by omega)]; simp]; simp
          go_wp2_with fail
          go_step3
          simp only [Exit.then, jumps]
          exact ReadGo.of HN.out HS.out.below HS.out.z
        · have hd1 : decide ((1 : Int) < (x0 : Int)) = false := by simp; omega
          by_cases hc : so = false ∧ (la ≠ 0 ∨ bi ≠ 0)
          · obtain ⟨hc1, hc2⟩ := hc
            have HN : Hid (decD d = none) := by
              rw [HD.out, if_neg]; · exact rfl
              · rw [show formB b = false by unfold formB; rw [← HF.out.1, ← HF.out.2.1, ← HF.out.2.2, hc1]; rcases hc2 with h | h <;> simp [h]]; simp
            subst hc1
            by_cases hl0 : la = 0
            · have hb0 : ¬ bi = 0 := by rcases hc2 with h | h; · exact absurd hl0 h
                                        · exact h
              clear hc2
              go_wp2_with fail
              go_step3
              simp only [Exit.then, jumps]
              exact ReadGo.of HN.out HS.out.below HS.out.z
            · clear hc2
              go_wp2_with fail
              go_step3
              simp only [Exit.then, jumps]
              exact ReadGo.of HN.out HS.out.below HS.out.z
          · have HA : Hid ((decide (b.getD 0 0 ≤ 1) && ((dgOf b).so || (decide ((dgOf b).la = 0) && decide ((dgOf b).bi = 0)))) = true) := by
              show _ = _
              rw [← Hx0.out, ← HF.out.1, ← HF.out.2.1, ← HF.out.2.2]
              exact formA (by omega) hc
            have hso : (so = true) ∨ (so = false ∧ la = 0 ∧ bi = 0) := by
              exact formC hc
            have HFm : Hid (formB b = (decide (x10 ≤ 10) && decide (x9 < x10) && rightB x9 x10 (b.length - 11))) := by
              unfold formB
              rw [HA.out, decide_eq_true hs, Bool.true_and, Bool.true_and]
              show (decide (b.getD 10 0 ≤ 10) && decide (b.getD 9 0 < b.getD 10 0) && rightB (b.getD 9 0) (b.getD 10 0) (b.length - 11)) = _
              rw [← Hx9.out, ← Hx10.out]
            clear HA hc
            go_cut [86] (fun s86 wx => s86 = .bool false ∧ w9 = wx)
            case first =>
              rcases hso with h | ⟨h1, h2, h3⟩
              · subst h
                go_wp2_with fail
                go_meet
                exact ⟨rfl, rfl⟩
              · subst h1 h2 h3
                go_wp2_with fail
                go_meet
                exact ⟨rfl, rfl⟩
            case rest =>
              obtain ⟨rfl, rfl⟩ := hcut
              by_cases hA : 10 < x10
              · have hdA : decide ((10 : Int) < (x10 : Int)) = true := by simp; omega
                have HN : Hid (decD d = none) := dec_no HD.out (by rw [HFm.out, decide_eq_false (show ¬ x10 ≤ 10 by omega), Bool.false_and, Bool.false_and])
                go_wp2_with fail
                go_step3
                simp only [Exit.then, jumps]
                exact ReadGo.of HN.out HS.out.below HS.out.z
              by_cases hB : x10 ≤ x9
              · have hdA : decide ((10 : Int) < (x10 : Int)) = false := by simp; omega
                have hdB : decide (x10 ≤ x9) = true := by simpa using hB
                have HN : Hid (decD d = none) := dec_no HD.out (by rw [HFm.out, decide_eq_false (show ¬ x9 < x10 by omega), Bool.and_false, Bool.false_and])
                go_wp2_with fail
                go_step3
                simp only [Exit.then, jumps]
                exact ReadGo.of HN.out HS.out.below HS.out.z
              have hdA : decide ((10 : Int) < (x10 : Int)) = false := by simp; omega
              have hdB : decide (x10 ≤ x9) = false := by simp; omega
              have HFm2 : Hid (formB b = rightB x9 x10 (b.length - 11)) := by rw [HFm.out, decide_eq_true (show x10 ≤ 10 by omega), decide_eq_true (show x9 < x10 by omega), Bool.true_and, Bool.true_and]; exact rfl
              clear HFm
              go_wp2_with fail
              refine (right_c so la bi nu x9 x10 (b.length - 11) (b.length - 11) (some ⟨gb, o, none⟩) w9 (by omega) (by omega)).mono ?_
              rintro e w10 ⟨rfl, hb10⟩
              have S10 := HS.out.go hb10
              clear HS hb10 hA hB hdA hdB
              generalize rightB x9 x10 (b.length - 11) = rr at *
              cases rr with
              | false =>
                have HN : Hid (decD d = none) := dec_no HD.out HFm2.out
                have HS := Lib.hid S10
                clear S10
                go_wp2_with fail
                go_step3
                simp only [Exit.then, jumps]
                exact ReadGo.of HN.out HS.out.below HS.out.z
              | true =>
                have HY : Hid (decD d = some (dgOf b)) := by rw [HD.out, if_pos HFm2.out]; exact rfl
                have s0 : w10.cell? ⟨w.heap.size + 1, 0, none⟩ = some (.bool so) := S10.p.cell 0
                have s1 : w10.cell? ⟨w.heap.size + 1, 1, none⟩ = some (.int .u16 (la : Int)) := S10.p.cell 1
                have s2 : w10.cell? ⟨w.heap.size + 1, 2, none⟩ = some (.int .u32 (bi : Int)) := S10.p.cell 2
                have s3 : w10.cell? ⟨w.heap.size + 1, 3, none⟩ = some (.int .u16 (nu : Int)) := S10.p.cell 3
                have s4 : w10.cell? ⟨w.heap.size + 1, 4, none⟩ = some (.int .i64 (x9 : Int)) := S10.p.cell 4
                have s5 : w10.cell? ⟨w.heap.size + 1, 5, none⟩ = some (.int .i64 (x10 : Int)) := S10.p.cell 5
                have s6 : w10.cell? ⟨w.heap.size + 1, 6, none⟩ = some (.slice (some ⟨gb, o, none⟩) (b.length - 11) (b.length - 11)) := S10.p.cell 6
                have z0 : w10.cell? ⟨w.heap.size, 0, none⟩ = some (.bool false) := S10.z.cell 0
                have f0 : w10.frozen? ⟨w.heap.size, 0, none⟩ = false := S10.z.frozen 0
                have z1 : w10.cell? ⟨w.heap.size, 1, none⟩ = some (.int .u16 0) := S10.z.cell 1
                have f1 : w10.frozen? ⟨w.heap.size, 1, none⟩ = false := S10.z.frozen 1
                have z2 : w10.cell? ⟨w.heap.size, 2, none⟩ = some (.int .u32 0) := S10.z.cell 2
                have f2 : w10.frozen? ⟨w.heap.size, 2, none⟩ = false := S10.z.frozen 2
                have z3 : w10.cell? ⟨w.heap.size, 3, none⟩ = some (.int .u16 0) := S10.z.cell 3
                have f3 : w10.frozen? ⟨w.heap.size, 3, none⟩ = false := S10.z.frozen 3
                have z4 : w10.cell? ⟨w.heap.size, 4, none⟩ = some (.int .i64 0) := S10.z.cell 4
                have f4 : w10.frozen? ⟨w.heap.size, 4, none⟩ = false := S10.z.frozen 4
                have z5 : w10.cell? ⟨w.heap.size, 5, none⟩ = some (.int .i64 0) := S10.z.cell 5
                have f5 : w10.frozen? ⟨w.heap.size, 5, none⟩ = false := S10.z.frozen 5
                have z6 : w10.cell? ⟨w.heap.size, 6, none⟩ = some (.slice none 0 0) := S10.z.cell 6
                have f6 : w10.frozen? ⟨w.heap.size, 6, none⟩ = false := S10.z.frozen 6
                have HE2 := Lib.hid (rd_end S10 (.bool so) (.int .u16 (la : Int)) (.int .u32 (bi : Int)) (.int .u16 (nu : Int)) (.int .i64 (x9 : Int)) (.int .i64 (x10 : Int)) (.slice (some ⟨gb, o, none⟩) (b.length - 11) (b.length - 11)))
                have hfar := S10.far
                clear S10 p0 p1 p2 p3 p4 p5 p6
                go_wp2_with fail
                generalize (((((((w10.setCell ⟨w.heap.size, 0, none⟩ (.bool so)).setCell ⟨w.heap.size, 1, none⟩ (.int .u16 (la : Int))).setCell ⟨w.heap.size, 2, none⟩ (.int .u32 (bi : Int))).setCell ⟨w.heap.size, 3, none⟩ (.int .u16 (nu : Int))).setCell ⟨w.heap.size, 4, none⟩ (.int .i64 (x9 : Int))).setCell ⟨w.heap.size, 5, none⟩ (.int .i64 (x10 : Int))).setCell ⟨w.heap.size, 6, none⟩ (.slice (some ⟨gb, o, none⟩) (b.length - 11) (b.length - 11))) = w11 at HE2 ⊢
                obtain ⟨hz, hk, hb⟩ := HE2.out
                have y0 : w11.cell? ⟨w.heap.size, 0, none⟩ = some (.bool so) := hz.cell 0
                have y1 : w11.cell? ⟨w.heap.size, 1, none⟩ = some (.int .u16 (la : Int)) := hz.cell 1
                have y2 : w11.cell? ⟨w.heap.size, 2, none⟩ = some (.int .u32 (bi : Int)) := hz.cell 2
                have y3 : w11.cell? ⟨w.heap.size, 3, none⟩ = some (.int .u16 (nu : Int)) := hz.cell 3
                have y4 : w11.cell? ⟨w.heap.size, 4, none⟩ = some (.int .i64 (x9 : Int)) := hz.cell 4
                have y5 : w11.cell? ⟨w.heap.size, 5, none⟩ = some (.int .i64 (x10 : Int)) := hz.cell 5
                have y6 : w11.cell? ⟨w.heap.size, 6, none⟩ = some (.slice (some ⟨gb, o, none⟩) (b.length - 11) (b.length - 11)) := hz.cell 6
                clear s0 s1 s2 s3 s4 s5 s6 z0 z1 z2 z3 z4 z5 z6 f0 f1 f2 f3 f4 f5 f6 HE2
                simp only [jumps]
                refine bodyPost_ret (v := .tuple #[partV so la bi nu x9 x10 (.slice (some ⟨gb, o, none⟩) (b.length - 11) (b.length - 11)), .bool true]) (by simp [results, Tryd.results33, go_sem, y0, y1, y2, y3, y4, y5, y6]) rfl ?_
                have hbe := HE.out
                subst hbe
                refine ⟨hb, .inl ⟨_, HY.out, ?_, ⟨HSl.out w11 hk, fun A n c e => ?_⟩⟩⟩
                · have e9 : (dgOf (bodyL d)).ix = x9 := Hx9.out.symm
                  have e10 : (dgOf (bodyL d)).ct = x10 := Hx10.out.symm
                  rw [← HF.out.1, ← HF.out.2.1, ← HF.out.2.2, ← HF2.out, e9, e10]
                · injection e with e1 e2 e3
                  injection e1 with e1
                  subst e1
                  exact ⟨by show w.heap.size ≤ gb; omega, _, hk⟩
    · obtain ⟨h31, rfl⟩ := h3
      have HN : Hid (decD d = none) := by unfold decD; rw [if_neg (fun h => h31 h.1)]; exact rfl
      have hb4 : Below w.heap.size w w3 := below_trans ((lbel1 w _).trans ((lbel1 _ _).mono (by simp))) hb3
      have hz4 : Blk w3 w.heap.size 78 part0 := ((Blk.new w 78 part0).alloc _).below hb3 (by simp; omega)
      have HB4 := Lib.hid hb4
      have HZ4 := Lib.hid hz4
      clear hb3 h31 hb4 hz4 HO
      go_wp2_with fail
      go_step3
      simp only [Exit.then, jumps]
      exact ReadGo.of HN.out HB4.out HZ4.out
  · intro l a' w' ⟨⟨hl, hd⟩, hb, hk, u0, u1, u3, u4, u5, u6, u7, u8, u9, u10, u11, u12, u13, u14, u15, u16, u17, u18, u19, u20, u21, u22, u23, u24, u25, u26, u27, u28, u29, u30, u31, u32, u33, u34, u35, u36, u37, u38, u39, u40, u41, u42, u43, u44, u45, u46, u47, u48, u49, u50, u51, u52, u53, u54, u55, u56, u57, u58, u59, u60, u61, u62, u63, u64, u65, u66, u67, u68, u69, u70, u71, u72, u73, u74, u75, u76, u77, u78, u79, u80, u81, u82, u83, u84, u85, u86, u87, u88, u89, u90, u91, u92, u93, u94, u95, u96, u97, u98, u99, u100, u101, u102, u103, ha⟩
    subst ha hl
    refine ⟨_, rfl, ?_⟩
    have z0 : w'.cell? ⟨w.heap.size, 0, none⟩ = some (.bool false) := hk.cell 0
    have f0 : w'.frozen? ⟨w.heap.size, 0, none⟩ = false := hk.frozen 0
    have z1 : w'.cell? ⟨w.heap.size, 1, none⟩ = some (.int .u16 0) := hk.cell 1
    have f1 : w'.frozen? ⟨w.heap.size, 1, none⟩ = false := hk.frozen 1
    have z2 : w'.cell? ⟨w.heap.size, 2, none⟩ = some (.int .u32 0) := hk.cell 2
    have f2 : w'.frozen? ⟨w.heap.size, 2, none⟩ = false := hk.frozen 2
    have z3 : w'.cell? ⟨w.heap.size, 3, none⟩ = some (.int .u16 0) := hk.cell 3
    have f3 : w'.frozen? ⟨w.heap.size, 3, none⟩ = false := hk.frozen 3
    have z4 : w'.cell? ⟨w.heap.size, 4, none⟩ = some (.int .i64 0) := hk.cell 4
    have f4 : w'.frozen? ⟨w.heap.size, 4, none⟩ = false := hk.frozen 4
    have z5 : w'.cell? ⟨w.heap.size, 5, none⟩ = some (.int .i64 0) := hk.cell 5
    have f5 : w'.frozen? ⟨w.heap.size, 5, none⟩ = false := hk.frozen 5
    have z6 : w'.cell? ⟨w.heap.size, 6, none⟩ = some (.slice none 0 0) := hk.cell 6
    have f6 : w'.frozen? ⟨w.heap.size, 6, none⟩ = false := hk.frozen 6
    have HE2 : Hid (Blk (((((((w'.setCell ⟨w.heap.size, 0, none⟩ (.bool false)).setCell ⟨w.heap.size, 1, none⟩ (.int .u16 0)).setCell ⟨w.heap.size, 2, none⟩ (.int .u32 0)).setCell ⟨w.heap.size, 3, none⟩ (.int .u16 0)).setCell ⟨w.heap.size, 4, none⟩ (.int .i64 0)).setCell ⟨w.heap.size, 5, none⟩ (.int .i64 0)).setCell ⟨w.heap.size, 6, none⟩ (.slice none 0 0)) w.heap.size 78 part0 ∧ Below w.heap.size w (((((((w'.setCell ⟨w.heap.size, 0, none⟩ (.bool false)).setCell ⟨w.heap.size, 1, none⟩ (.int .u16 0)).setCell ⟨w.heap.size, 2, none⟩ (.int .u32 0)).setCell ⟨w.heap.size, 3, none⟩ (.int .u16 0)).setCell ⟨w.heap.size, 4, none⟩ (.int .i64 0)).setCell ⟨w.heap.size, 5, none⟩ (.int .i64 0)).setCell ⟨w.heap.size, 6, none⟩ (.slice none 0 0))) := ⟨(Blk.set_ (Blk.set_ (Blk.set_ (Blk.set_ (Blk.set_ (Blk.set_ (Blk.set_ hk 0 (.bool false)) 1 (.int .u16 0)) 2 (.int .u32 0)) 3 (.int .u16 0)) 4 (.int .i64 0)) 5 (.int .i64 0)) 6 (.slice none 0 0)), (((((((hb.setCell (p := ⟨w.heap.size, 0, none⟩) (Nat.le_refl _) (.bool false)).setCell (p := ⟨w.heap.size, 1, none⟩) (Nat.le_refl _) (.int .u16 0)).setCell (p := ⟨w.heap.size, 2, none⟩) (Nat.le_refl _) (.int .u32 0)).setCell (p := ⟨w.heap.size, 3, none⟩) (Nat.le_refl _) (.int .u16 0)).setCell (p := ⟨w.heap.size, 4, none⟩) (Nat.le_refl _) (.int .i64 0)).setCell (p := ⟨w.heap.size, 5, none⟩) (Nat.le_refl _) (.int .i64 0)).setCell (p := ⟨w.heap.size, 6, none⟩) (Nat.le_refl _) (.slice none 0 0))⟩
    have HN := Lib.hid hd
    clear hb hk hd HO HBy
    go_wp2_with fail
    generalize (((((((w'.setCell ⟨w.heap.size, 0, none⟩ (.bool false)).setCell ⟨w.heap.size, 1, none⟩ (.int .u16 0)).setCell ⟨w.heap.size, 2, none⟩ (.int .u32 0)).setCell ⟨w.heap.size, 3, none⟩ (.int .u16 0)).setCell ⟨w.heap.size, 4, none⟩ (.int .i64 0)).setCell ⟨w.heap.size, 5, none⟩ (.int .i64 0)).setCell ⟨w.heap.size, 6, none⟩ (.slice none 0 0)) = w11 at HE2 ⊢
    obtain ⟨hz, hb⟩ := HE2.out
    have y0 : w11.cell? ⟨w.heap.size, 0, none⟩ = some (.bool false) := hz.cell 0
    have y1 : w11.cell? ⟨w.heap.size, 1, none⟩ = some (.int .u16 0) := hz.cell 1
    have y2 : w11.cell? ⟨w.heap.size, 2, none⟩ = some (.int .u32 0) := hz.cell 2
    have y3 : w11.cell? ⟨w.heap.size, 3, none⟩ = some (.int .u16 0) := hz.cell 3
    have y4 : w11.cell? ⟨w.heap.size, 4, none⟩ = some (.int .i64 0) := hz.cell 4
    have y5 : w11.cell? ⟨w.heap.size, 5, none⟩ = some (.int .i64 0) := hz.cell 5
    have y6 : w11.cell? ⟨w.heap.size, 6, none⟩ = some (.slice none 0 0) := hz.cell 6
    rw [Exit.noGoto_ret]
    refine bodyPost_ret (v := .tuple #[partV false 0 0 0 0 0 (.slice none 0 0), .bool false]) (by simp [results, Tryd.results33, go_sem, y0, y1, y2, y3, y4, y5, y6]) rfl ?_
    exact ⟨hb, .inr ⟨HN.out, rfl⟩⟩

end Go.Proofs.YtmlbhlfjaagcaaaDoor
