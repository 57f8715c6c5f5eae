/- Two ends side by side, and the contracts of their calls. -/
import Derived.Test.YtmlbhlfjaagcaaaDoorLMath
namespace Go.Proofs.YtmlbhlfjaagcaaaDoor
open Go.RowKit

/-- Where an end lies. -/
structure Lk where
  g : Nat
  a : Nat
  p : Nat
abbrev Lk.ptr (x : Lk) : Value := .pointer (some ⟨x.g, 0, none⟩)
abbrev anyB : Nat → Prop := fun _ => True
abbrev At1 (w : World) (x : Lk) (s : LS) : Prop := LinkAt w x.g x.a x.p anyB s
/-- Nothing in common. -/
structure Apart (x y : Lk) : Prop where
  gg : x.g ≠ y.g
  aa : x.a ≠ y.a
  ap : x.a ≠ y.p
  pa : x.p ≠ y.a
  pp : x.p ≠ y.p
theorem Apart.symm {x y : Lk} (h : Apart x y) : Apart y x := ⟨fun e => h.gg e.symm, fun e => h.aa e.symm, fun e => h.pa e.symm, fun e => h.ap e.symm, fun e => h.pp e.symm⟩
structure Lk.from (x : Lk) (B : Nat) : Prop where
  g : B ≤ x.g
  a : B ≤ x.a
  p : B ≤ x.p

theorem LinkAt.other {w w' : World} {x y : Lk} {U U' : Nat → Prop} {sx sy : LS} (h : LinkAt w y.g y.a y.p U sy) (hx : LinkAt w x.g x.a x.p U' sx) (ha : Apart x y) (hf : Fr (S3 x.g x.a x.p) w w') : LinkAt w' y.g y.a y.p U sy := by
  obtain ⟨m, hm, hp⟩ := h.pm
  obtain ⟨mx, hmx, _⟩ := hx.pm
  refine h.fr hf ?_ ?_ ?_ ?_
  · rintro (e | e | e)
    · exact ha.gg e.symm
    · exact hx.am.ne_blk h.blk e.symm
    · exact hmx.ne_blk h.blk e.symm
  · rintro (e | e | e)
    · exact h.am.ne_blk hx.blk e
    · exact ha.aa e.symm
    · exact ha.pa e.symm
  · rintro (e | e | e)
    · exact hm.ne_blk hx.blk e
    · exact ha.ap e.symm
    · exact ha.pp e.symm
  · rintro k cs _ hk (e | e | e)
    · exact hk.ne_ hx.blk (by decide) e
    · exact hx.am.ne_blk hk e.symm
    · exact hmx.ne_blk hk e.symm

theorem Fr.base {S : Nat → Prop} {w0 w w' : World} (hb : Below w0.heap.size w0 w) (hf : Fr S w w') (hs : ∀ i, S i → w0.heap.size ≤ i) : Below w0.heap.size w0 w' :=
  hb.trans (hf.below hb.size fun i hi h => by have := hs i h; omega)
theorem from_S3 {x : Lk} {B : Nat} (h : x.from B) : ∀ i, S3 x.g x.a x.p i → B ≤ i := by
  rintro i (e | e | e)
  · exact e ▸ h.g
  · exact e ▸ h.a
  · exact e ▸ h.p

/-- A link that was made since w0, in w. -/
structure One (w0 w : World) (x : Lk) (s : LS) : Prop where
  at_ : At1 w x s
  ok : s.ok
  zero : s.zero
  fr : x.from w0.heap.size
  below : Below w0.heap.size w0 w

/-- Rows and slices of others stay where an end is written. -/
theorem keep_row {w w' : World} {x : Lk} {s : LS} {U : Nat → Prop} {S : Nat → Prop} {e : TypeId} {sz n base : Nat} {v : Value} {xs : List Value} (hx : LinkAt w x.g x.a x.p U s) (hf : Fr S w w') (hS : ∀ i, S i → S3 x.g x.a x.p i) (h : w.ownsRow base e sz v n xs) (he : e ≠ 64) : w'.ownsRow base e sz v n xs := by
  refine ownsRow_fr h hf fun k hk hs => ?_
  rcases hS k hs with h1 | h1 | h1
  · subst h1; exact own_ne_blk h hx.blk he hk
  · rcases h.2 with ⟨rfl, _⟩ | ⟨g', cap, cur, rfl, _, hh, _⟩
    · simp [Value.ownBlock] at hk
    · have : g' = k := by simpa [Value.ownBlock] using hk
      subst this; subst h1
      exact hx.am.ne_blk (ty := e) (cs := cur) hh rfl
  · obtain ⟨m, hm, _⟩ := hx.pm
    rcases h.2 with ⟨rfl, _⟩ | ⟨g', cap, cur, rfl, _, hh, _⟩
    · simp [Value.ownBlock] at hk
    · have : g' = k := by simpa [Value.ownBlock] using hk
      subst this; subst h1
      exact hm.ne_blk (ty := e) (cs := cur) hh rfl
theorem keep_blk {w w' : World} {x : Lk} {s : LS} {U : Nat → Prop} {S : Nat → Prop} {e : TypeId} {g : Nat} {cs : Array Value} (hx : LinkAt w x.g x.a x.p U s) (hf : Fr S w w') (hS : ∀ i, S i → S3 x.g x.a x.p i) (h : Blk w g e cs) (he : e ≠ 64) : Blk w' g e cs := by
  refine h.fr hf fun hs => ?_
  obtain ⟨m, hm, _⟩ := hx.pm
  rcases hS g hs with h1 | h1 | h1
  · exact h.ne_ hx.blk he h1
  · exact hx.am.ne_blk h h1.symm
  · exact hm.ne_blk h h1.symm
theorem keep_rows {w w' : World} {x : Lk} {s : LS} {U : Nat → Prop} {S : Nat → Prop} {base : Nat} {gs : List Nat} {ds : List (List Nat)} (hx : LinkAt w x.g x.a x.p U s) (hf : Fr S w w') (hS : ∀ i, S i → S3 x.g x.a x.p i) (h : Rows w base gs ds) : Rows w' base gs ds :=
  ⟨h.len, fun j g d h1 h2 => by obtain ⟨a, b⟩ := h.each j g d h1 h2; exact ⟨a, keep_blk hx hf hS b (by decide)⟩, h.inc⟩

section
variable {w0 w w' : World} {x y : Lk} {s sy : LS}
theorem One.draw (h : One w0 w x s) (n : Nat) : One w0 (w.drewN n) x s := ⟨h.at_.draw n, h.ok, h.zero, h.fr, below_draw h.below n⟩
theorem One.go (h : One w0 w x s) (hb : Below w.heap.size w w') : One w0 w' x s := ⟨h.at_.below hb, h.ok, h.zero, h.fr, below_trans h.below hb⟩
theorem One.other (h : One w0 w y sy) (hx : One w0 w x s) (ha : Apart x y) {S : Nat → Prop} (hf : Fr S w w') (hS : ∀ i, S i → S3 x.g x.a x.p i) : One w0 w' y sy :=
  ⟨h.at_.other hx.at_ ha (hf.mono fun i _ hi => hS i hi), h.ok, h.zero, h.fr, Fr.base h.below hf fun i hi => from_S3 hx.fr i (hS i hi)⟩
end

def Sent1 (w0 w : World) (x : Lk) (s : LS) (b : List Nat) (e : Ending) (w' : World) : Prop :=
  (2000 < b.length ∧ e = .returned (.tuple #[.slice none 0 0, .int .i64 0, .int .i64 2]) ∧ w' = w) ∨
  (b.length ≤ 2000 ∧ ∃ v gs, e = .returned (.tuple #[v, .int .i64 (s.next : Int), .int .i64 0]) ∧ w'.ownsRow w.heap.size 36 1 v (manyN b.length) (rowV gs (dgrams s b (manyN b.length))) ∧ Rows w' w.heap.size gs (dgrams s b (manyN b.length)) ∧ One w0 w' x s.sendS ∧ Fr (fun i => i = x.g ∨ i = x.a) w w')

theorem send1_c {w0 w : World} {x : Lk} {s : LS} (v : Value) (b : List Nat) (h : One w0 w x s) (hv : SlB w v b) (ht : Tab w) (hby : ∀ y ∈ b, y < 256) :
    Calls Tryd.prog 21 #[x.ptr, v] w (Sent1 w0 w x s b) := by
  refine (send_c v b h.at_ h.ok hv ht hby).mono ?_
  rintro e w' (h1 | ⟨h1, v', gs, h2, h3, h4, h5, h6⟩)
  · exact .inl h1
  · refine .inr ⟨h1, v', gs, h2, h3, h4, ⟨h5, send_ok h.ok, zero_send h.zero, h.fr, Fr.base h.below h6 ?_⟩, h6⟩
    rintro i (e | e)
    · exact e ▸ h.fr.g
    · exact e ▸ h.fr.a

def Recv1 (w0 w : World) (x : Lk) (r : RA) (e : Ending) (w' : World) : Prop :=
  One w0 w' x r.st ∧ Fr (S3 x.g x.a x.p) w w' ∧ ((∃ m v, r.msg = some m ∧ r.err = 0 ∧ e = .returned (.tuple #[v, .bool true, .int .i64 0]) ∧ OwnB w' w.heap.size v m) ∨
    (r.msg = none ∧ e = .returned (.tuple #[.slice none 0 0, .bool false, .int .i64 (r.err : Int)])))

theorem recv1_c {w0 w : World} {x : Lk} {s : LS} (v : Value) (d : List Nat) (h : One w0 w x s) (hv : SlB w v d) (ht : Tab w) (hn : d.length ≤ 281474976710656) (hby : ∀ y ∈ d, y < 256) :
    Calls Tryd.prog 22 #[x.ptr, v] w (Recv1 w0 w x (s.recv d)) := by
  refine (recv_c v d h.at_ h.ok hv ht hn hby).mono ?_
  rintro e w' ⟨hf, ⟨m, v', h1, h2, h3, h4, h5⟩ | ⟨h1, h2, h3⟩⟩
  · exact ⟨⟨h5 _, recv_ok h.ok hby, zero_recv h.zero d, h.fr, Fr.base h.below hf (from_S3 h.fr)⟩, hf, .inl ⟨m, v', h1, h2, h3, h4⟩⟩
  · exact ⟨⟨h3.wide (fun _ _ => trivial), recv_ok h.ok hby, zero_recv h.zero d, h.fr, Fr.base h.below hf (from_S3 h.fr)⟩, hf, .inr ⟨h1, h2⟩⟩

theorem new1_c (w0 w : World) (n : Int) (hb : Below w0.heap.size w0 w) :
    Calls Tryd.prog 10 #[.int .i64 n] w fun e w' => ∃ x : Lk, e = .returned x.ptr ∧ One w0 w' x (LS.new (n % 65536).toNat) ∧ x.from w.heap.size ∧ Below w.heap.size w w' := by
  refine (lnew_c n w).mono ?_
  rintro e w' ⟨g, ga, gp, rfl, h1, h2, h3, h4, h5⟩
  have := hb.size
  exact ⟨⟨g, ga, gp⟩, rfl, ⟨h1 _, new_ok (by omega), zero_new _, ⟨by show _ ≤ g; omega, by show _ ≤ ga; omega, by show _ ≤ gp; omega⟩, below_trans hb h5⟩, ⟨h2, h3, h4⟩, h5⟩

theorem apart_new {w0 w : World} {x y : Lk} {s : LS} (hx : One w0 w x s) (hy : y.from w.heap.size) : Apart x y := by
  have h1 := hx.at_.blk.lt
  have h2 := hx.at_.am.lt
  obtain ⟨m, hm, _⟩ := hx.at_.pm
  have h3 := hm.lt
  have := hy.g; have := hy.a; have := hy.p
  exact ⟨by omega, by omega, by omega, by omega, by omega⟩

theorem addr0 (r j : Nat) : (⟨r, 0, none⟩ : Addr).add j = ⟨r, j, none⟩ := by unfold Addr.add; split <;> simp_all

/-- The slice at place j of a row of datagrams. -/
theorem row_at {w : World} {base B n : Nat} {v : Value} {gs : List Nat} {ds : List (List Nat)} (h : w.ownsRow base 36 1 v n (rowV gs ds)) (hr : Rows w B gs ds) {j : Nat} {d : List Nat} (hd : ds[j]? = some d) :
    ∃ g r c, v = .slice (some ⟨r, 0, none⟩) n c ∧ w.cell? ⟨r, j, none⟩ = some (.slice (some ⟨g, 0, none⟩) d.length d.length) ∧ SlB w (.slice (some ⟨g, 0, none⟩) d.length d.length) d ∧ B ≤ g ∧ gs[j]? = some g ∧ Blk w g 5 (U8s d).toArray ∧ n = ds.length := by
  have hjd : j < ds.length := (List.getElem?_eq_some_iff.1 hd).1
  have hjg : j < gs.length := by rw [hr.len]; exact hjd
  have hl := h.1
  rw [rowV_len hr.len] at hl
  have hn : n = ds.length := by omega
  obtain ⟨r, c, hv, _, _⟩ := h.form (by omega)
  obtain ⟨hb, hk⟩ := hr.each j gs[j] d (List.getElem?_eq_getElem hjg) hd
  refine ⟨gs[j], r, c, hv, ?_, ⟨_, _, rfl, Nat.le_refl _, (fun e => nomatch e), ?_⟩, hb, List.getElem?_eq_getElem hjg, hk, hn⟩
  · have hc := h.cells (g := r) (by rw [hv]; rfl) j (.slice (some ⟨gs[j], 0, none⟩) d.length d.length) (by
      unfold rowV
      rw [List.getElem?_zipWith, List.getElem?_eq_getElem hjg, hd])
    rw [addr0] at hc
    exact hc
  · have := Reads.blk (w := w) (t := 5) hk
    rw [U8s_length] at this
    exact this.more (Nat.succ_le_of_lt hk.lt)

end Go.Proofs.YtmlbhlfjaagcaaaDoor
