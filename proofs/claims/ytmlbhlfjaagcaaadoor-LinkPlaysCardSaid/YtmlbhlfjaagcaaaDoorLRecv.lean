/- The contract of Receive. -/
import Derived.Test.YtmlbhlfjaagcaaaDoorLDeliver
import Derived.Test.YtmlbhlfjaagcaaaDoorLRead
namespace Go.Proofs.YtmlbhlfjaagcaaaDoor
open Go.RowKit

/-- What is answered: the error, and the message if one is told. -/
structure RA where
  st : LS
  err : Nat
  msg : Option (List Nat)

/-- The part waits; if all are there the message is told. -/
def LS.wait (s : LS) (g : DG) : LS := { s with nu := g.nu, ct := g.ct, ps := s.ps ++ [(g.ix, g.bs)] }
def LS.put (s : LS) (g : DG) : RA := if (s.wait g).ps.length = g.ct then ⟨(s.wait g).tell, 0, some (msgTo (s.wait g).ps (s.wait g).ct)⟩ else ⟨s.wait g, 0, none⟩
def LS.same (s : LS) (g : DG) : RA := if s.ps ≠ [] ∧ g.ct ≠ s.ct then ⟨s, 70, none⟩ else if g.ix ∈ s.ps.map (·.1) then ⟨s, 71, none⟩ else s.put g
def LS.come (s : LS) (g : DG) : RA :=
  if s.so = true ∧ newerN g.nu s.la = false then ⟨s, 71, none⟩
  else if s.ps ≠ [] ∧ g.nu ≠ s.nu then (if newerN g.nu s.nu = false then ⟨s, 71, none⟩ else LS.same { s with ps := [] } g)
  else s.same g
def LS.recv (s : LS) (d : List Nat) : RA := match decD d with
  | none => ⟨s, 70, none⟩
  | some g => (s.recd g.so g.la g.bi).come g

abbrev S3 (g ga gp : Nat) (i : Nat) : Prop := i = g ∨ i = ga ∨ i = gp

def RecvTo (w : World) (g ga gp : Nat) (U : Nat → Prop) (r : RA) (e : Ending) (w' : World) : Prop :=
  Fr (S3 g ga gp) w w' ∧ ((∃ m v, r.msg = some m ∧ r.err = 0 ∧ e = .returned (.tuple #[v, .bool true, .int .i64 0]) ∧ OwnB w' w.heap.size v m ∧ ∀ U', LinkAt w' g ga gp U' r.st) ∨
    (r.msg = none ∧ e = .returned (.tuple #[.slice none 0 0, .bool false, .int .i64 (r.err : Int)]) ∧ LinkAt w' g ga gp (fun k => U k ∨ w.heap.size ≤ k) r.st))

/-- Where a goto leads. -/
def RecvGo (w : World) (g ga gp : Nat) (U : Nat → Prop) (r : RA) (l : Nat) (a' : Act) (w' : World) : Prop :=
  ((l = 0 ∧ r.err = 70) ∨ (l = 1 ∧ r.err = 71)) ∧ r.msg = none ∧ LinkAt w' g ga gp (fun k => U k ∨ w.heap.size ≤ k) r.st ∧ Fr (S3 g ga gp) w w' ∧
  ∃ u0 u1 u2 u3 u4 u5 u6 u7 u8 u9 u10 u11 u12 u13 u14 u15 u16 u17 u18 u19 u20 u21 u22 u23 u24 u25 u26 u27 u28 u29 u30 u31 u32 u33 u34 u35 u36 u37 u38 u39 u40 u41 u42 u43 u44 u45 u46 u47 u48 u49 u50 u51 u52 u53 u54 u55 u56 u57 u58 u59 u60 u61 u62 u63 u64 u65 u66 u67 u68 u69 u70 u71 u72 u73 u74 u75 u76 u77 u78 u79 u80 u81 u82 u83 u84 u85 u86 u87 u88 u89 u90 u91 u92 u93 u94 u95 u96 u97 u98 u99 u100 u101 u102 u103 u104 u105 u106 u107 u108 u109 u110 u111 u112 u113 u114 u115 u116 u117 u118 : Value, a' = { tmps := #[u0, u1, u2, u3, u4, u5, u6, u7, u8, u9, u10, u11, u12, u13, u14, u15, u16, u17, u18, u19, u20, u21, u22, u23, u24, u25, u26, u27, u28, u29, u30, u31, u32, u33, u34, u35, u36, u37, u38, u39, u40, u41, u42, u43, u44, u45, u46, u47, u48, u49, u50, u51, u52, u53, u54, u55, u56, u57, u58, u59, u60, u61, u62, u63, u64, u65, u66, u67, u68, u69, u70, u71, u72, u73, u74, u75, u76, u77, u78, u79, u80, u81, u82, u83, u84, u85, u86, u87, u88, u89, u90, u91, u92, u93, u94, u95, u96, u97, u98, u99, u100, u101, u102, u103, u104, u105, u106, u107, u108, u109, u110, u111, u112, u113, u114, u115, u116, u117, u118], defers := [] }

theorem RecvGo.of {w : World} {g ga gp : Nat} {U : Nat → Prop} {r : RA} {l : Nat} {w' : World} {u0 u1 u2 u3 u4 u5 u6 u7 u8 u9 u10 u11 u12 u13 u14 u15 u16 u17 u18 u19 u20 u21 u22 u23 u24 u25 u26 u27 u28 u29 u30 u31 u32 u33 u34 u35 u36 u37 u38 u39 u40 u41 u42 u43 u44 u45 u46 u47 u48 u49 u50 u51 u52 u53 u54 u55 u56 u57 u58 u59 u60 u61 u62 u63 u64 u65 u66 u67 u68 u69 u70 u71 u72 u73 u74 u75 u76 u77 u78 u79 u80 u81 u82 u83 u84 u85 u86 u87 u88 u89 u90 u91 u92 u93 u94 u95 u96 u97 u98 u99 u100 u101 u102 u103 u104 u105 u106 u107 u108 u109 u110 u111 u112 u113 u114 u115 u116 u117 u118 : Value} (hl : (l = 0 ∧ r.err = 70) ∨ (l = 1 ∧ r.err = 71)) (hm : r.msg = none) (ha : LinkAt w' g ga gp (fun k => U k ∨ w.heap.size ≤ k) r.st) (hf : Fr (S3 g ga gp) w w') :
    RecvGo w g ga gp U r l { tmps := #[u0, u1, u2, u3, u4, u5, u6, u7, u8, u9, u10, u11, u12, u13, u14, u15, u16, u17, u18, u19, u20, u21, u22, u23, u24, u25, u26, u27, u28, u29, u30, u31, u32, u33, u34, u35, u36, u37, u38, u39, u40, u41, u42, u43, u44, u45, u46, u47, u48, u49, u50, u51, u52, u53, u54, u55, u56, u57, u58, u59, u60, u61, u62, u63, u64, u65, u66, u67, u68, u69, u70, u71, u72, u73, u74, u75, u76, u77, u78, u79, u80, u81, u82, u83, u84, u85, u86, u87, u88, u89, u90, u91, u92, u93, u94, u95, u96, u97, u98, u99, u100, u101, u102, u103, u104, u105, u106, u107, u108, u109, u110, u111, u112, u113, u114, u115, u116, u117, u118], defers := [] } w' := ⟨hl, hm, ha, hf, u0, u1, u2, u3, u4, u5, u6, u7, u8, u9, u10, u11, u12, u13, u14, u15, u16, u17, u18, u19, u20, u21, u22, u23, u24, u25, u26, u27, u28, u29, u30, u31, u32, u33, u34, u35, u36, u37, u38, u39, u40, u41, u42, u43, u44, u45, u46, u47, u48, u49, u50, u51, u52, u53, u54, u55, u56, u57, u58, u59, u60, u61, u62, u63, u64, u65, u66, u67, u68, u69, u70, u71, u72, u73, u74, u75, u76, u77, u78, u79, u80, u81, u82, u83, u84, u85, u86, u87, u88, u89, u90, u91, u92, u93, u94, u95, u96, u97, u98, u99, u100, u101, u102, u103, u104, u105, u106, u107, u108, u109, u110, u111, u112, u113, u114, u115, u116, u117, u118, rfl⟩

/-- In the midst of Receive. -/
structure RvX (w : World) (g ga gp : Nat) (U : Nat → Prop) (s : LS) (hp : Nat) (d : DG) (v : Value) (wr : World) : Prop where
  at_ : LinkAt wr g ga gp (fun k => U k ∨ w.heap.size ≤ k) s
  pk : Blk wr hp 78 #[.bool d.so, .int .u16 (d.la : Int), .int .u32 (d.bi : Int), .int .u16 (d.nu : Int), .int .i64 (d.ix : Int), .int .i64 (d.ct : Int), v]
  sl : PSl wr (fun k => U k ∨ w.heap.size ≤ k) v d.bs
  fr : Fr (S3 g ga gp) w wr

section
variable {w wr w1 : World} {g ga gp hp : Nat} {U : Nat → Prop} {s s1 : LS} {d : DG} {v : Value}
theorem RvX.draw (X : RvX w g ga gp U s hp d v wr) (n : Nat) : RvX w g ga gp U s hp d v (wr.drewN n) :=
  ⟨X.at_.draw n, X.pk, X.sl.fr (S := fun _ => False) (Fr.drewN wr n) (fun _ _ _ _ h => h), X.fr.trans (Fr.drewN (S := fun _ => False) wr n) (fun _ _ h => h.elim)⟩
theorem RvX.drew (X : RvX w g ga gp U s hp d v wr) : RvX w g ga gp U s hp d v wr.drew := X.draw 1
theorem RvX.ga_step (X : RvX w g ga gp U s hp d v wr) (h1 : LinkAt w1 g ga gp (fun k => U k ∨ w.heap.size ≤ k) s1) (h2 : Fr (fun i => i = ga) wr w1) : RvX w g ga gp U s1 hp d v w1 :=
  ⟨h1, X.pk.fr h2 (fun e => X.at_.am.ne_blk X.pk e.symm), X.sl.fr h2 (map_ne5 X.at_.am _), X.fr.trans h2 (fun _ _ h => .inr (.inl h))⟩
theorem RvX.gp_step (X : RvX w g ga gp U s hp d v wr) (h1 : LinkAt w1 g ga gp (fun k => U k ∨ w.heap.size ≤ k) s1) (h2 : Fr (fun i => i = gp) wr w1) : RvX w g ga gp U s1 hp d v w1 := by
  obtain ⟨m, hm, _⟩ := X.at_.pm
  exact ⟨h1, X.pk.fr h2 (fun e => hm.ne_blk X.pk e.symm), X.sl.fr h2 (map_ne5 hm _), X.fr.trans h2 (fun _ _ h => .inr (.inr h))⟩
end

theorem newer_s (a b : Nat) (w : World) (hb : b < 65536) :
    Calls Tryd.prog 25 #[.int .u16 (a : Int), .int .u16 (b : Int)] w fun e w' => e = .returned (.bool (newerN a b)) ∧ w' = w :=
  (newer_c a b w hb).mono fun _ _ h => ⟨h.1, h.2.symm⟩

theorem bne_both {p : Prop} [Decidable p] {a b : Nat} (h : p) : Value.bool ((a : Int) != (b : Int)) = .bool (decide (p ∧ a ≠ b)) := by
  congr 1
  rw [Bool.eq_iff_iff]
  simp [h]
  omega

/-- What a well-formed datagram's fields are. -/
structure DG.ok (g : DG) : Prop where
  la : g.la < 65536
  bi : g.bi < 4294967296
  nu : g.nu < 65536
  ix : g.ix < g.ct
  ct : g.ct ≤ 10
  len : g.bs.length ≤ 200
  byte : ∀ x ∈ g.bs, x < 256
  right : rightB g.ix g.ct g.bs.length = true
  zero : g.so = false → g.la = 0 ∧ g.bi = 0

theorem getD_lt {b : List Nat} (h : ∀ x ∈ b, x < 256) (i : Nat) : b.getD i 0 < 256 := by
  rw [List.getD_eq_getElem?_getD]
  cases hx : b[i]? with
  | none => simp
  | some x => exact h x (List.mem_of_getElem? hx)

theorem form_ok {b : List Nat} (h : ∀ x ∈ b, x < 256) (hf : formB b = true) : (dgOf b).ok := by
  unfold formB at hf
  simp only [Bool.and_eq_true, Bool.or_eq_true, decide_eq_true_eq] at hf
  obtain ⟨h1, ⟨h2, h3⟩, ⟨h4, h5⟩, h6⟩ := hf
  have l := fun i => getD_lt h i
  have l1 := l 1; have l2 := l 2; have l3 := l 3; have l4 := l 4; have l5 := l 5; have l6 := l 6; have l7 := l 7; have l8 := l 8
  have hbl : (dgOf b).bs.length = b.length - 11 := by simp [dgOf]
  have hr : (dgOf b).bs.length ≤ 200 := by
    rw [hbl]
    unfold rightB at h6
    split at h6
    · have := of_decide_eq_true h6; omega
    · simp only [Bool.and_eq_true, decide_eq_true_eq] at h6; exact h6.1
  refine ⟨?_, ?_, ?_, h5, h4, hr, fun x hx => h x (List.mem_of_mem_drop hx), by rw [hbl]; exact h6, fun e => ?_⟩
  · show b.getD 1 0 * 256 + b.getD 2 0 < 65536; omega
  · show (b.getD 3 0 * 256 + b.getD 4 0) * 65536 + (b.getD 5 0 * 256 + b.getD 6 0) < 4294967296; omega
  · show b.getD 7 0 * 256 + b.getD 8 0 < 65536; omega
  · rcases h3 with h3 | h3
    · rw [e] at h3; cases h3
    · exact h3

theorem dec_ok {d : List Nat} {g : DG} (h : ∀ x ∈ d, x < 256) (hd : decD d = some g) : g.ok := by
  unfold decD at hd
  split at hd
  · rename_i hc
    injection hd with hd
    subst hd
    exact form_ok (fun x hx => h x (List.mem_of_mem_take hx)) hc.2
  · cases hd

theorem newer_pos {a b : Nat} (h : newerN a b = true) : 1 ≤ aheadN a b := by
  unfold newerN at h; simp only [Bool.and_eq_true, decide_eq_true_eq] at h; omega

theorem wait_ok {s : LS} {g : DG} (hs : s.ok) (hg : g.ok) (hc : ¬ (s.ps ≠ [] ∧ g.ct ≠ s.ct)) (hi : g.ix ∉ s.ps.map (·.1)) : (s.wait g).ok := by
  refine ⟨hs.next, hs.sent, hs.la, hs.bi, hg.nu, hg.ct, hs.ak, fun p hp => ?_, fun p hp => ?_, ?_⟩
  · rcases List.mem_append.1 hp with h | h
    · have h0 : s.ps ≠ [] := fun e => by rw [e] at h; cases h
      have := hs.ix p h
      have : g.ct = s.ct := Decidable.byContradiction fun e => hc ⟨h0, e⟩
      show p.1 < g.ct
      omega
    · obtain rfl : p = (g.ix, g.bs) := by simpa using h
      exact hg.ix
  · rcases List.mem_append.1 hp with h | h
    · exact hs.by_ p h
    · obtain rfl : p = (g.ix, g.bs) := by simpa using h
      exact ⟨hg.len, hg.byte⟩
  · show ((s.ps ++ [(g.ix, g.bs)]).map (·.1)).Nodup
    rw [List.map_append, List.nodup_append]
    refine ⟨hs.one, by simp, fun a ha b hb => ?_⟩
    obtain rfl : b = g.ix := by simpa using hb
    exact fun e => hi (e ▸ ha)

section
variable {w wr w1 : World} {g ga gp hp : Nat} {U : Nat → Prop} {s s1 : LS} {d : DG} {v : Value}
theorem RvX.set2 (X : RvX w g ga gp U s hp d v wr) (hne : hp ≠ g) : RvX w g ga gp U { s with nu := d.nu, ct := d.ct } hp d v ((wr.setCell ⟨g, 7, none⟩ (.int .u16 (d.nu : Int))).setCell ⟨g, 8, none⟩ (.int .i64 (d.ct : Int))) := by
  have h1 : Fr (fun i => i = g) wr ((wr.setCell ⟨g, 7, none⟩ (.int .u16 (d.nu : Int))).setCell ⟨g, 8, none⟩ (.int .i64 (d.ct : Int))) :=
    (Fr.set (S := fun i => i = g) wr (p := ⟨g, 7, none⟩) rfl _).trans (Fr.set (S := fun i => i = g) _ (p := ⟨g, 8, none⟩) rfl _) (fun _ _ h => h)
  have h5 : ∀ (Z : Nat → Prop) (k : Nat) cs, Z k → Blk wr k 5 cs → ¬ (fun i => i = g) k := fun _ k cs _ hk e => hk.ne_ X.at_.blk (by decide) e
  obtain ⟨m, hm, hp'⟩ := X.at_.pm
  refine ⟨⟨(X.at_.blk.set_ 7 _).set_ 8 _, X.at_.am.fr h1 (fun e => X.at_.ne1 e), ⟨m, hm.fr h1 (fun e => X.at_.ne2 e), hp'.fr h1 (h5 _)⟩, X.at_.ne⟩, X.pk.fr h1 hne, X.sl.fr h1 (h5 _), X.fr.trans h1 (fun _ _ h => .inl h)⟩
theorem RvX.hpg (X : RvX w g ga gp U s hp d v wr) : hp ≠ g := X.pk.ne_ X.at_.blk (by decide)
end

theorem mput_new {m : List (Int × Value)} {w : World} {U : Nat → Prop} {ps : List (Nat × List Nat)} (h : PartsAre w U m ps) {k : Nat} (hk : k ∉ ps.map (·.1)) (v : Value) : mput m (k : Int) v = m ++ [((k : Int), v)] := by
  unfold mput
  have : mfind m (k : Int) 0 = none := by
    rw [mfind_none]
    intro p hp e
    obtain ⟨i, hi⟩ := List.getElem?_of_mem hp
    obtain ⟨k', v'⟩ := p
    obtain ⟨q, h1, h2, _⟩ := h.key hi
    have e : k' = (k : Int) := e
    exact hk (List.mem_map.2 ⟨q, List.mem_of_getElem? h1, by omega⟩)
  rw [this]
theorem PartsAre.add {w : World} {U : Nat → Prop} {m : List (Int × Value)} {ps : List (Nat × List Nat)} (h : PartsAre w U m ps) {k : Nat} {bs : List Nat} {v : Value} (hv : PSl w U v bs) : PartsAre w U (m ++ [((k : Int), v)]) (ps ++ [(k, bs)]) := by
  refine ⟨by simp [h.len], fun i p hp => ?_⟩
  by_cases hi : i < ps.length
  · rw [List.getElem?_append_left hi] at hp
    obtain ⟨v', h1, h2⟩ := h.each i p hp
    exact ⟨v', by rw [List.getElem?_append_left (by rw [h.len]; exact hi)]; exact h1, h2⟩
  · rw [List.getElem?_append_right (by omega)] at hp
    have h0 : i - ps.length = 0 := by
      have := (List.getElem?_eq_some_iff.1 hp).1
      simp at this; omega
    rw [h0] at hp
    obtain rfl : (k, bs) = p := by simpa using hp
    refine ⟨v, ?_, hv⟩
    rw [List.getElem?_append_right (by rw [h.len]; omega), h.len, h0]
    rfl

theorem len59 {w : World} {gp : Nat} {m : List (Int × Value)} (h : MapI w gp .i64 m) : ∀ n ty, (Builtin.len_ #[59] ty #[.map (some gp)]).run Tryd.prog (w.drewN n) = .ok (.int .i64 (m.length : Int)) (w.drewN n) := fun n ty =>
  MapI.len (h.fr (S := fun _ => False) (Fr.drewN w n) (fun h => h)) (by kernel_rfl) ty

set_option maxHeartbeats 8000000 in
set_option maxRecDepth 100000 in
theorem recv_c {g ga gp : Nat} {U : Nat → Prop} {s : LS} {w : World} (v : Value) (d : List Nat) (h : LinkAt w g ga gp U s) (hs : s.ok) (hv : SlB w v d) (ht : Tab w) (hn : d.length ≤ 281474976710656) (hby : ∀ x ∈ d, x < 256) :
    Calls Tryd.prog 22 #[.pointer (some ⟨g, 0, none⟩), v] w (RecvTo w g ga gp U (s.recv d)) := by
  have HR := Lib.hid (lread_c v d w hv ht hn hby)
  have HL := Lib.hid h
  have HS := Lib.hid hs
  have HBy := Lib.hid hby
  clear h hs hv ht hby
  go_enter Tryd.func22, Tryd.ntmps22
  go_wp2_with fail
  refine wp_scope_fwd (RecvGo w g ga gp U (s.recv d)) ?_ ?_
  · go_wp2_with fail
    refine HR.out.mono ?_
    rintro e w2 ⟨hb2, h2 | h2⟩
    · obtain ⟨v2, h3, rfl, h4⟩ := h2
      have hok := dec_ok HBy.out h3
      have hdg : (dgOf (bodyL d)).bs = (bodyL d).drop 11 := rfl
      rw [← hdg] at h4
      generalize dgOf (bodyL d) = dg at *
      have HQ : Hid (s.recv d = (s.recd dg.so dg.la dg.bi).come dg) := by unfold LS.recv; rw [h3]; exact rfl
      have X0 : RvX w g ga gp U s w2.heap.size dg v2 (w2.alloc (.cells #[.bool dg.so, .int .u16 (dg.la : Int), .int .u32 (dg.bi : Int), .int .u16 (dg.nu : Int), .int .i64 (dg.ix : Int), .int .i64 (dg.ct : Int), v2] 78)) :=
        ⟨((HL.out.below hb2).below (lbel1 w2 _)).wide (fun _ h => .inl h), Blk.new w2 78 _, ⟨h4.1.below (lbel1 w2 _), fun A n c e => by
          obtain ⟨a1, cs, a2⟩ := h4.2 A n c e
          exact ⟨.inr a1, cs, a2.alloc _⟩⟩, (Fr.of_below hb2).trans (Fr.alloc (S := fun _ => False) w2 _) (fun _ _ h => h.elim)⟩
      obtain ⟨A2, n2, c2, hv2⟩ : ∃ A n c, v2 = .slice A n c := by obtain ⟨A, c, e, _⟩ := h4.1; exact ⟨A, _, c, e⟩
      subst hv2
      have HX := Lib.hid X0
      have HOk := Lib.hid hok
      clear h3 h4 hdg hb2 X0 hok HR HBy HL
      go_wp2_with fail
      refine (rec_c dg.so dg.la dg.bi HX.out.at_ HS.out HOk.out.la HOk.out.bi).mono ?_
      rintro e w3 ⟨rfl, h1, h2⟩
      have X3 := HX.out.ga_step h1 h2
      have hs3 := rec_ok (so := dg.so) (bi := dg.bi) HS.out HOk.out.la
      clear h1 h2 HX HS
      generalize s.recd dg.so dg.la dg.bi = s1 at *
      generalize w2.heap.size = hp at X3 ⊢
      have HX := Lib.hid X3
      have HS := Lib.hid hs3
      have c3 : w3.cell? ⟨g, 3, none⟩ = some (.bool s1.so) := X3.at_.blk.cell 3
      have c4 : w3.cell? ⟨g, 4, none⟩ = some (.int .u16 (s1.la : Int)) := X3.at_.blk.cell 4
      have p3 : w3.cell? ⟨hp, 3, none⟩ = some (.int .u16 (dg.nu : Int)) := X3.pk.cell 3
      have hla := hs3.la
      clear X3 hs3
      go_upto_region 4 with (fail)
      by_cases hst : s1.so = true ∧ newerN dg.nu s1.la = false
      · have HA : Hid (s.recv d = ⟨s1, 71, none⟩) := by rw [HQ.out]; unfold LS.come; rw [if_pos hst]; exact rfl
        obtain ⟨hso, hne⟩ := hst
        rw [hso] at c3
        go_quiet ((go_at_call 25; exact Calls.quiet_of_same (newer_s _ _ _ hla)))
        rw [hne]
        go_wp2_with fail
        go_step3
        simp only [Exit.then, jumps]
        rw [HA.out]
        exact RecvGo.of (.inr ⟨rfl, rfl⟩) rfl (HX.out.draw nq).at_ (HX.out.draw nq).fr
      · have HQ2 : Hid (s.recv d = if s1.ps ≠ [] ∧ dg.nu ≠ s1.nu then (if newerN dg.nu s1.nu = false then ⟨s1, 71, none⟩ else LS.same { s1 with ps := [] } dg) else s1.same dg) := by rw [HQ.out]; unfold LS.come; rw [if_neg hst]; exact rfl
        have HNw : Hid (s1.so = true → newerN dg.nu s1.la = true) := fun hso => by
          cases hx : newerN dg.nu s1.la with
          | true => rfl
          | false => exact absurd ⟨hso, hx⟩ hst
        go_cut [37] (fun s37 wx => s37 = .bool false ∧ RvX w g ga gp U s1 hp dg (.slice A2 n2 c2) wx)
        case first =>
          cases hso : s1.so with
          | true =>
            have hne : newerN dg.nu s1.la = true := by
              cases hx : newerN dg.nu s1.la with
              | true => rfl
              | false => exact absurd ⟨hso, hx⟩ hst
            rw [hso] at c3
            go_quiet ((go_at_call 25; exact Calls.quiet_of_same (newer_s _ _ _ hla)))
            rw [hne]
            go_wp2_with fail
            go_meet
            exact ⟨rfl, HX.out.draw nq⟩
          | false =>
            rw [hso] at c3
            go_quiet (fail)
            go_wp2_with fail
            go_meet
            exact ⟨rfl, HX.out.draw nq⟩
        case rest =>
          obtain ⟨rfl, X4⟩ := hcut
          clear HX c3 c4 p3 hst HQ
          have c6 : wc.cell? ⟨g, 6, none⟩ = some (.map (some gp)) := X4.at_.blk.cell 6
          have c7 : wc.cell? ⟨g, 7, none⟩ = some (.int .u16 (s1.nu : Int)) := X4.at_.blk.cell 7
          have p3 : wc.cell? ⟨hp, 3, none⟩ = some (.int .u16 (dg.nu : Int)) := X4.pk.cell 3
          have hlen : ∀ n ty, (Builtin.len_ #[59] ty #[.map (some gp)]).run Tryd.prog (wc.drewN n) = .ok (.int .i64 (s1.ps.length : Int)) (wc.drewN n) := by
            obtain ⟨m, hm, hp⟩ := X4.at_.pm
            rw [← hp.len]; exact len59 hm
          have hnu1 := HS.out.nu
          have HX := Lib.hid X4
          clear X4
          go_upto_region 5 with (fail)
          go_cut [52] (fun s52 wx => s52 = .bool (decide (s1.ps ≠ [] ∧ dg.nu ≠ s1.nu)) ∧ RvX w g ga gp U s1 hp dg (.slice A2 n2 c2) wx)
          case first =>
            cases hps : s1.ps with
            | nil =>
              rw [hps] at hlen
              go_quiet (fail)
              go_wp2_with fail
              go_meet
              exact ⟨by rw [decide_eq_false (fun h => h.1 hps)], HX.out.draw nq⟩
            | cons q r =>
              rw [hps] at hlen
              simp only [List.length_cons] at hlen
              have hd : decide ((0 : Int) < ((r.length + 1 : Nat) : Int)) = true := by simp
              go_quiet (fail)
              go_wp2_with fail
              go_meet
              exact ⟨bne_both (by rw [hps]; simp), HX.out.draw nq⟩
          case rest =>
            obtain ⟨rfl, X5⟩ := hcut
            clear HX c6 c7 p3 hlen
            go_upto_if 52 with (fail)
            go_cut [] (fun wx => ∃ s2, RvX w g ga gp U s2 hp dg (.slice A2 n2 c2) wx ∧ s2.ok ∧ s.recv d = s2.same dg ∧ (s2.so = true → newerN dg.nu s2.la = true))
            case first =>
              by_cases hc : s1.ps ≠ [] ∧ dg.nu ≠ s1.nu
              · rw [decide_eq_true hc]
                rw [if_pos hc] at HQ2
                have c7 : wc.cell? ⟨g, 7, none⟩ = some (.int .u16 (s1.nu : Int)) := X5.at_.blk.cell 7
                have p3 : wc.cell? ⟨hp, 3, none⟩ = some (.int .u16 (dg.nu : Int)) := X5.pk.cell 3
                have HX := Lib.hid X5
                clear X5 hc
                cases hnw : newerN dg.nu s1.nu with
                | false =>
                  rw [if_pos hnw] at HQ2
                  go_upto_region 6 with (fail)
                  go_quiet ((go_at_call 25; exact Calls.quiet_of_same (newer_s _ _ _ hnu1)))
                  rw [hnw]
                  go_wp2_with fail
                  go_step3
                  simp only [Exit.then, jumps]
                  rw [HQ2.out]
                  exact RecvGo.of (.inr ⟨rfl, rfl⟩) rfl (HX.out.draw nq).at_ (HX.out.draw nq).fr
                | true =>
                  rw [if_neg (by rw [hnw]; simp)] at HQ2
                  go_upto_region 6 with (fail)
                  go_quiet ((go_at_call 25; exact Calls.quiet_of_same (newer_s _ _ _ hnu1)))
                  rw [hnw]
                  clear hnw
                  have X6 := Lib.hid (HX.out.draw nq)
                  clear HX c7 p3
                  go_wp2_with fail
                  refine (drop_c X6.out.at_ HS.out.one HS.out.ix HS.out.ct).mono ?_
                  rintro e w7 ⟨rfl, h1, h2⟩
                  have X7 := Lib.hid (X6.out.gp_step h1 h2)
                  clear h1 h2 X6
                  have hs7 : Hid (LS.ok { s1 with ps := [] }) := ⟨HS.out.next, HS.out.sent, HS.out.la, HS.out.bi, HS.out.nu, HS.out.ct, HS.out.ak, by simp, by simp, by simp⟩
                  go_wp2_with fail
                  go_meet
                  exact ⟨_, X7.out, hs7.out, HQ2.out, HNw.out⟩
              · rw [decide_eq_false hc]
                rw [if_neg hc] at HQ2
                have HX := Lib.hid X5
                clear X5 hc
                go_wp2_with fail
                go_meet
                exact ⟨_, HX.out, HS.out, HQ2.out, HNw.out⟩
            case rest =>
              obtain ⟨s2, X6, hs2, hq2⟩ := hcut
              clear HS HQ2 HNw hla hnu1 X5
              have c6 : wc.cell? ⟨g, 6, none⟩ = some (.map (some gp)) := X6.at_.blk.cell 6
              have c8 : wc.cell? ⟨g, 8, none⟩ = some (.int .i64 (s2.ct : Int)) := X6.at_.blk.cell 8
              have p5 : wc.cell? ⟨hp, 5, none⟩ = some (.int .i64 (dg.ct : Int)) := X6.pk.cell 5
              have hlen : ∀ n ty, (Builtin.len_ #[59] ty #[.map (some gp)]).run Tryd.prog (wc.drewN n) = .ok (.int .i64 (s2.ps.length : Int)) (wc.drewN n) := by
                obtain ⟨m, hm, hp⟩ := X6.at_.pm
                rw [← hp.len]; exact len59 hm
              obtain ⟨hq3, hnw⟩ := hq2
              have HX := Lib.hid X6
              have HS := Lib.hid hs2
              have HQ := Lib.hid hq3
              have HNw := Lib.hid hnw
              clear X6 hs2 hq3 hnw
              go_upto_region 8 with (fail)
              go_cut [77] (fun s77 wx => s77 = .bool (decide (s2.ps ≠ [] ∧ dg.ct ≠ s2.ct)) ∧ RvX w g ga gp U s2 hp dg (.slice A2 n2 c2) wx)
              case first =>
                cases hps : s2.ps with
                | nil =>
                  rw [hps] at hlen
                  go_quiet (fail)
                  go_wp2_with fail
                  go_meet
                  exact ⟨by rw [decide_eq_false (fun h => h.1 hps)], HX.out.draw nq⟩
                | cons q r =>
                  rw [hps] at hlen
                  simp only [List.length_cons] at hlen
                  have hd : decide ((0 : Int) < ((r.length + 1 : Nat) : Int)) = true := by simp
                  go_quiet (fail)
                  go_wp2_with fail
                  go_meet
                  exact ⟨bne_both (by rw [hps]; simp), HX.out.draw nq⟩
              case rest =>
                obtain ⟨rfl, X7⟩ := hcut
                clear HX c6 c8 p5 hlen
                by_cases hc : s2.ps ≠ [] ∧ dg.ct ≠ s2.ct
                · rw [decide_eq_true hc]
                  have HA : Hid (s.recv d = ⟨s2, 70, none⟩) := by rw [HQ.out]; unfold LS.same; rw [if_pos hc]; exact rfl
                  have HX := Lib.hid X7
                  clear X7 hc
                  go_wp2_with fail
                  go_step3
                  simp only [Exit.then, jumps]
                  rw [HA.out]
                  exact RecvGo.of (.inl ⟨rfl, rfl⟩) rfl HX.out.at_ HX.out.fr
                · rw [decide_eq_false hc]
                  have HQ2 : Hid (s.recv d = if dg.ix ∈ s2.ps.map (·.1) then ⟨s2, 71, none⟩ else s2.put dg) := by rw [HQ.out]; unfold LS.same; rw [if_neg hc]; exact rfl
                  have HC := Lib.hid hc
                  clear hc HQ
                  have c6 : wc.cell? ⟨g, 6, none⟩ = some (.map (some gp)) := X7.at_.blk.cell 6
                  have p4 : wc.cell? ⟨hp, 4, none⟩ = some (.int .i64 (dg.ix : Int)) := X7.pk.cell 4
                  obtain ⟨m, hm, hpa⟩ := X7.at_.pm
                  have hlook : ∀ n, (Instr.lookup 59 (.map (some gp)) (.int .i64 (dg.ix : Int)) true).run Tryd.prog (wc.drewN n) = .ok (.tuple #[(mget m (dg.ix : Int)).getD (.slice none 0 0), .bool (mget m (dg.ix : Int)).isSome]) (wc.drewN n) := fun n =>
                    MapI.look (hm.fr (S := fun _ => False) (Fr.drewN wc n) (fun h => h)) und59 und3 (zero36 _) _
                  rw [(hpa.get dg.ix).1] at hlook
                  have HM := Lib.hid hm
                  have HP := Lib.hid hpa
                  have HX := Lib.hid X7
                  clear X7 hm hpa
                  generalize (mget m (dg.ix : Int)).getD (.slice none 0 0) = vg at hlook
                  go_upto_region 9 with (fail)
                  by_cases hix : dg.ix ∈ s2.ps.map (·.1)
                  · rw [List.contains_iff_mem.2 hix] at hlook
                    rw [if_pos hix] at HQ2
                    clear hix
                    go_quiet (fail)
                    go_wp2_with fail
                    go_step3
                    simp only [Exit.then, jumps]
                    rw [HQ2.out]
                    exact RecvGo.of (.inr ⟨rfl, rfl⟩) rfl (HX.out.draw nq).at_ (HX.out.draw nq).fr
                  · have hcf : (s2.ps.map (·.1)).contains dg.ix = false := by
                      cases hx : (s2.ps.map (·.1)).contains dg.ix with
                      | false => rfl
                      | true => exact absurd (List.contains_iff_mem.1 hx) hix
                    rw [hcf] at hlook
                    rw [if_neg hix] at HQ2
                    have HI := Lib.hid hix
                    clear hix hcf
                    go_quiet (fail)
                    have X8 := HX.out.draw nq
                    clear hlook c6 p4 HX
                    generalize wc.drewN nq = w8 at X8 ⊢
                    have c7 : w8.cell? ⟨g, 7, none⟩ = some (.int .u16 (s2.nu : Int)) := X8.at_.blk.cell 7
                    have c8 : w8.cell? ⟨g, 8, none⟩ = some (.int .i64 (s2.ct : Int)) := X8.at_.blk.cell 8
                    have f7 : w8.frozen? ⟨g, 7, none⟩ = false := X8.at_.blk.frozen 7
                    have f8 : w8.frozen? ⟨g, 8, none⟩ = false := X8.at_.blk.frozen 8
                    have p3 : w8.cell? ⟨hp, 3, none⟩ = some (.int .u16 (dg.nu : Int)) := X8.pk.cell 3
                    have p5 : w8.cell? ⟨hp, 5, none⟩ = some (.int .i64 (dg.ct : Int)) := X8.pk.cell 5
                    have hgp1 : hp ≠ g := X8.hpg
                    have hgp2 : g ≠ hp := fun e => hgp1 e.symm
                    have HX := Lib.hid X8
                    clear X8 HM HP
                    go_upto_region 11 with (fail)
                    go_region
                    have X9 := (HX.out.set2 hgp1).drew
                    generalize ((w8.setCell ⟨g, 7, none⟩ (.int .u16 (dg.nu : Int))).setCell ⟨g, 8, none⟩ (.int .i64 (dg.ct : Int))).drew = w9 at X9 ⊢
                    clear c7 c8 f7 f8 p3 p5 HX
                    have HX := Lib.hid X9
                    clear X9
                    go_upto_region 12 with (fail)
                    refine wp_region_still_tail 8 (by kernel_rfl) (by kernel_rfl) ?_
                    simp only [List.take_succ_cons, List.take_zero, List.drop_succ_cons, List.drop_zero]
                    change wpStill _ _ w9.drew (fun a' => wpList _ _ _ _ a' w9.drew) _ _
                    have X10 := HX.out.drew
                    generalize w9.drew = w10 at X10 ⊢
                    clear HX
                    have c6 : w10.cell? ⟨g, 6, none⟩ = some (.map (some gp)) := X10.at_.blk.cell 6
                    have p4 : w10.cell? ⟨hp, 4, none⟩ = some (.int .i64 (dg.ix : Int)) := X10.pk.cell 4
                    have p6 : w10.cell? ⟨hp, 6, none⟩ = some (.slice A2 n2 c2) := X10.pk.cell 6
                    obtain ⟨m2, hm2, hpa2⟩ := X10.at_.pm
                    obtain ⟨w11, hrun, hm3, hf3⟩ := hm2.put und59 und3 (dg.ix : Int) (.slice A2 n2 c2)
                    rw [mput_new hpa2 HI.out] at hm3
                    have hpa3 := (hpa2.add (k := dg.ix) X10.sl).fr hf3 (map_ne5 hm2 _)
                    have X11 : RvX w g ga gp U (s2.wait dg) hp dg (.slice A2 n2 c2) w11 := X10.gp_step (X10.at_.set_ps hm3 hpa3 hf3) hf3
                    have HX := Lib.hid X11
                    have hsw := wait_ok HS.out HOk.out HC.out HI.out
                    have HSW := Lib.hid hsw
                    clear X11 hm2 hpa2 hm3 hf3 hpa3 X10 hsw
                    repeat still_step
                    refine wpStill_nil ?_
                    go_upto_region 13 with (fail)
                    clear hrun c6 p4 p6
                    have X12 := HX.out
                    have c6 : w11.cell? ⟨g, 6, none⟩ = some (.map (some gp)) := X12.at_.blk.cell 6
                    have c8 : w11.cell? ⟨g, 8, none⟩ = some (.int .i64 (dg.ct : Int)) := X12.at_.blk.cell 8
                    have hlen : ∀ n ty, (Builtin.len_ #[59] ty #[.map (some gp)]).run Tryd.prog (w11.drewN n) = .ok (.int .i64 ((s2.wait dg).ps.length : Int)) (w11.drewN n) := by
                      obtain ⟨m, hm, hp⟩ := X12.at_.pm
                      rw [← hp.len]; exact len59 hm
                    clear X12
                    generalize hln : (s2.wait dg).ps.length = ln at hlen
                    have HLn := Lib.hid hln
                    clear hln
                    by_cases hall : ln = dg.ct
                    · have hd : ((ln : Int) == (dg.ct : Int)) = true := by simp [hall]
                      have HA : Hid (s.recv d = ⟨(s2.wait dg).tell, 0, some (msgTo (s2.wait dg).ps (s2.wait dg).ct)⟩) := by
                        rw [HQ2.out]; unfold LS.put; rw [if_pos (by rw [HLn.out]; exact hall)]; exact rfl
                      clear hall
                      go_quiet (fail)
                      have X13 := Lib.hid (HX.out.draw nq)
                      clear HX c6 c8 hlen
                      generalize w11.drewN nq = w12 at X13 ⊢
                      go_wp2_with fail
                      refine (deliver_c X13.out.at_ HSW.out (fun h => newer_pos (HNw.out h))).mono ?_
                      rintro e w13 ⟨v9, rfl, h1, h2, h3⟩
                      have HE : Hid (Fr (S3 g ga gp) w w13 ∧ OwnB w13 w.heap.size v9 (msgTo (s2.wait dg).ps (s2.wait dg).ct) ∧ ∀ U', LinkAt w13 g ga gp U' (s2.wait dg).tell) :=
                        ⟨X13.out.fr.trans h3 (fun _ _ h => h.elim (fun e => .inl e) (fun e => .inr (.inr e))), h1.lower X13.out.fr.size, h2⟩
                      clear h1 h2 h3 X13
                      go_wp2_with fail
                      simp only [jumps]
                      go_ret3
                      rw [HA.out]
                      exact ⟨HE.out.1, .inl ⟨_, v9, rfl, rfl, rfl, HE.out.2.1, HE.out.2.2⟩⟩
                    · have hd : ((ln : Int) == (dg.ct : Int)) = false := by simp; omega
                      have HA : Hid (s.recv d = ⟨s2.wait dg, 0, none⟩) := by
                        rw [HQ2.out]; unfold LS.put; rw [if_neg (by rw [HLn.out]; exact hall)]; exact rfl
                      clear hall
                      go_quiet (fail)
                      have X13 := Lib.hid (HX.out.draw nq)
                      clear HX c6 c8 hlen
                      generalize w11.drewN nq = w12 at X13 ⊢
                      go_wp2_with fail
                      simp only [jumps]
                      go_ret3
                      rw [HA.out]
                      exact ⟨X13.out.fr, .inr ⟨rfl, rfl, X13.out.at_⟩⟩
    · obtain ⟨h3, rfl⟩ := h2
      have HQ : Hid (s.recv d = ⟨s, 70, none⟩) := by unfold LS.recv; rw [h3]; exact rfl
      have HL2 := Lib.hid ((HL.out.below hb2).below (lbel1 w2 (.cells part0 78)))
      have HF2 : Hid (Fr (S3 g ga gp) w (w2.alloc (.cells part0 78))) := (Fr.of_below hb2).trans (Fr.alloc (S := fun _ => False) w2 _) (fun _ _ h => h.elim)
      clear h3 hb2 HR
      go_wp2_with fail
      go_step3
      simp only [Exit.then, jumps]
      rw [HQ.out]
      exact RecvGo.of (.inl ⟨rfl, rfl⟩) rfl (HL2.out.wide (fun _ h => .inl h)) HF2.out
  · intro l a' w' ⟨hl, hm, ha, hf, u0, u1, u2, u3, u4, u5, u6, u7, u8, u9, u10, u11, u12, u13, u14, u15, u16, u17, u18, u19, u20, u21, u22, u23, u24, u25, u26, u27, u28, u29, u30, u31, u32, u33, u34, u35, u36, u37, u38, u39, u40, u41, u42, u43, u44, u45, u46, u47, u48, u49, u50, u51, u52, u53, u54, u55, u56, u57, u58, u59, u60, u61, u62, u63, u64, u65, u66, u67, u68, u69, u70, u71, u72, u73, u74, u75, u76, u77, u78, u79, u80, u81, u82, u83, u84, u85, u86, u87, u88, u89, u90, u91, u92, u93, u94, u95, u96, u97, u98, u99, u100, u101, u102, u103, u104, u105, u106, u107, u108, u109, u110, u111, u112, u113, u114, u115, u116, u117, u118, he⟩
    subst he
    have HA := Lib.hid ha
    have HF := Lib.hid hf
    have HM := Lib.hid hm
    have HL2 := Lib.hid hl
    clear ha hf hm HR HBy HL HS
    rcases hl with ⟨rfl, he⟩ | ⟨rfl, he⟩
    · have HE := Lib.hid he
      clear he HL2
      refine ⟨_, rfl, ?_⟩
      go_wp2_with fail
      rw [Exit.noGoto_ret]
      go_ret3
      exact ⟨HF.out, .inr ⟨HM.out, by rw [HE.out]; rfl, HA.out⟩⟩
    · have HE := Lib.hid he
      clear he HL2
      refine ⟨_, rfl, ?_⟩
      go_wp2_with fail
      rw [Exit.noGoto_ret]
      go_ret3
      exact ⟨HF.out, .inr ⟨HM.out, by rw [HE.out]; rfl, HA.out⟩⟩

end Go.Proofs.YtmlbhlfjaagcaaaDoor
