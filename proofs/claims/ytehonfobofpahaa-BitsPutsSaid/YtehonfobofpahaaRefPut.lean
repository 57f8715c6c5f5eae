/- The document's own answers: contracts of the reference's Put and Bytes. -/
import Derived.Test.YtehonfobofpahaaPutAny
import Derived.Test.YtehonfobofpahaaRefTake
namespace Go.Proofs.Ytehonfobofpahaa
open Go.RowKit

/-- The s bits of x, the most significant one first. -/
def bitsOf (x s : Nat) : List Bool := (List.range s).map fun i => x / 2 ^ (s - 1 - i) % 2 == 1
theorem bitsOf_length (x s : Nat) : (bitsOf x s).length = s := by simp [bitsOf]

/-- The bits of x from place j down. -/
def downFrom (x : Nat) : Nat → List Bool
  | 0 => []
  | j + 1 => (x / 2 ^ j % 2 == 1) :: downFrom x j
theorem downFrom_eq (x s : Nat) : downFrom x s = bitsOf x s := by
  induction s with
  | zero => rfl
  | succ s ih =>
    rw [downFrom, ih]
    simp only [bitsOf, List.range_succ_eq_map, List.map_cons, List.map_map]
    congr 1
    apply List.map_congr_left
    intro i hi
    simp only [Function.comp]
    rw [show s + 1 - 1 - (i + 1) = s - 1 - i by omega]

/-- What the reference's Put leaves where it puts. -/
def RPutTo (w : World) (base : Nat) (v : Value) (L : List Bool) (e : Ending) (w' : World) : Prop :=
  ∃ v', e = .returned (.tuple #[v', .int .i64 0]) ∧ w'.ownsRow base 4 1 v' L.length (Bools L) ∧ w.grownBy w' v.ownBlock ∧ Born w v v'

theorem grown_trans_born {a b c : World} {v v' : Value} (h : a.grownBy b v.ownBlock) (hb : Born a v v') (k : b.grownBy c v'.ownBlock) : a.grownBy c v.ownBlock :=
  ⟨k.os.trans h.os, k.tape.trans h.tape, k.output.trans h.output, Nat.le_trans h.size k.size, fun i hi hn => by
    refine (k.block i (Nat.lt_of_lt_of_le hi h.size) fun e => ?_).trans (h.block i hi hn)
    rcases hb with hb | ⟨j, hb, hj⟩
    · exact hn (e.trans hb)
    · rw [hb] at e; injection e with e; omega⟩

theorem wrap_pow (s : Nat) (hs : s < 63) : wrap64 ((2 : Int) ^ s) = 2 ^ s := by
  have h1 : (2 : Nat) ^ s ≤ 2 ^ 62 := Nat.pow_le_pow_right (by omega) (by omega)
  have h2 : (2 : Nat) ^ 62 = 4611686018427387904 := by decide
  have h3 : ((2 : Int) ^ s) = ((2 ^ s : Nat) : Int) := by push_cast; rfl
  rw [h3]
  generalize (2 : Nat) ^ s = z at h1
  exact IntWalk.wrap64_in _ ⟨by omega, by omega⟩

theorem ref_bit (x l : Nat) : (bits BinOp.and IntKind.i64 ((x : Int) / 2 ^ l) 1 == 1) = (x / 2 ^ l % 2 == 1) := by
  rw [i64_and1, cast_div]
  generalize x / 2 ^ l = y
  rw [Bool.eq_iff_iff]
  simp
  omega

/-- In the midst of the reference's Put: the bools M lie at v'. -/
structure RPutIn (w : World) (base : Nat) (v : Value) (M : List Bool) (wr : World) (v' : Value) : Prop where
  own : wr.ownsRow base 4 1 v' M.length (Bools M)
  grown : w.grownBy wr v.ownBlock
  born : Born w v v'

theorem RPutIn.next {w wr w4 : World} {base : Nat} {v v' v4 : Value} {M : List Bool} {b : Bool} {o : Obj} (R : RPutIn w base v M wr v') (hown : w4.ownsRow base 4 1 v4 (M.length + 1) (Bools M ++ [.bool b])) (hg : (wr.alloc o).grownBy w4 v'.ownBlock)
    (hat : v4.ownBlock = v'.ownBlock ∨ v4.ownBlock = some (wr.heap.size + 1)) : RPutIn w base v (M ++ [b]) w4 v4 := by
  have hsz := R.grown.size
  refine ⟨?_, grown_trans_born R.grown R.born ?_, ?_⟩
  · rw [Bools_snoc, show (M ++ [b]).length = M.length + 1 by simp]; exact hown
  · exact ⟨hg.os, hg.tape, hg.output, by have := hg.size; simp at this; omega, fun k hk hn => (hg.block k (by simp; omega) hn).trans (Below.heap_alloc wr o k hk)⟩
  · rcases hat with h | h
    · rcases R.born with hb | ⟨k, hb, hk⟩
      · exact .inl (h.trans hb)
      · exact .inr ⟨k, h.trans hb, hk⟩
    · exact .inr ⟨_, h, by omega⟩

set_option maxHeartbeats 1000000 in
theorem rput_yes (base x s : Nat) (v : Value) (L : List Bool) (w : World) (h : w.ownsRow base 4 1 v L.length (Bools L)) (hb : base ≤ w.heap.size) (hs : s ≤ 63) (hx : x < 2 ^ s) (hn : L.length + s ≤ 1048576) :
    Calls Try.prog 12 #[v, .int .i64 (x : Int), .int .i64 (s : Int)] w (RPutTo w base v (L ++ bitsOf x s)) := by
  obtain ⟨i0, hi, hz0, hz1, hz2⟩ := info_parts Try.info4
  obtain ⟨A, c, rfl⟩ : ∃ A c, v = .slice A L.length c := by
    rcases h.2 with ⟨rfl, h0⟩ | ⟨g, cap, cur, rfl, _⟩
    · exact ⟨none, 0, by rw [h0]⟩
    · exact ⟨_, _, rfl⟩
  have H := Lib.hid h
  have HX := Lib.hid hx
  have hd1 : decide ((s : Int) < 0) = false := by simp
  have hd2 : decide (63 < (s : Int)) = false := by simp; omega
  have hd3 : decide ((x : Int) < 0) = false := by simp
  have hd5 : decide (1048576 < (L.length : Int) + (s : Int)) = false := by simp; omega
  clear h
  have hcase : decide ((s : Int) < 63) = false ∨ (decide ((s : Int) < 63) = true ∧ s < 63 ∧ decide (wrap64 ((2 : Int) ^ s) ≤ (x : Int)) = false) := by
    by_cases h63 : s < 63
    · right
      refine ⟨by simp; omega, h63, ?_⟩
      have : (x : Int) < 2 ^ s := by exact_mod_cast hx
      rw [wrap_pow s h63]
      simp; omega
    · left; simp; omega
  clear hx
  have R0 : RPutIn w base (.slice A L.length c) L w (.slice A L.length c) := ⟨H.out, World.grownBy.refl _ _, .inl rfl⟩
  rcases hcase with hd4 | ⟨hd4, hs63, hd6⟩
  · go_enter Try.func12, Try.ntmps12
    go_wp2_with fail
    go_loopg [0, 8] s (fun gg s0 s8 wr => ∃ M : List Bool, gg ≤ s ∧ M.length + gg = L.length + s ∧ s8 = .int .i64 ((gg : Int) - 1) ∧ M ++ downFrom x gg = L ++ bitsOf x s ∧ RPutIn w base (.slice A L.length c) M wr s0)
    case atStart => exact ⟨L, Nat.le_refl _, by omega, rfl, by rw [downFrom_eq], R0⟩
    case round =>
      obtain ⟨M, hgs, hlen, rfl, hM, R⟩ := hrel
      have HM := Lib.hid hM
      clear hM R0
      obtain ⟨A1, c1, rfl⟩ : ∃ A c, u0 = .slice A M.length c := by
        rcases R.own.2 with ⟨rfl, h0⟩ | ⟨g, cap, cur, rfl, _⟩
        · exact ⟨none, 0, by rw [h0]⟩
        · exact ⟨_, _, rfl⟩
      cases gk with
      | zero =>
        go_wp2_with fail
        go_ret2
        have e : M = L ++ bitsOf x s := by have := HM.out; simpa [downFrom] using this
        rw [← e]
        exact ⟨_, rfl, R.own, R.grown, R.born⟩
      | succ j =>
        have ek : ((j + 1 : Nat) : Int) - 1 = (j : Int) := by omega
        rw [ek]
        clear ek
        have hrb := ref_bit x j
        have HO := Lib.hid R.own
        have hsz := R.grown.size
        go_wp2_with (at_builtin; refine wpList_append_own_at _ rfl (.tmp 42) (.tmp 48) 26 rfl base 4 i0 (.bool false) 1 1 Try.underlying26 hi hz0 hz1 hz2 rfl (by decide) _ _ _ rfl (HO.out.alloc _) ⟨wr.heap.size, 0, none⟩ 1 1 [.bool (x / 2 ^ j % 2 == 1)] rfl rfl (cell_one_new _ _ _) ?c2 ?c3 ?c4 ?c5 ?_)
        case c2 => intro u hu; simp at hu; subst hu; rfl
        case c3 => unfold maxLen; omega
        case c4 => omega
        case c5 => simp; omega
        intro v4 w4 hown4 hgrow4 _ hat4
        have R4 := R.next hown4 hgrow4 hat4
        clear hown4 hgrow4 hat4 hrb
        go_wp2_with fail
        go_roundg j
        case measure => omega
        case rel =>
          refine ⟨M ++ [x / 2 ^ j % 2 == 1], by omega, by simp; omega, rfl, ?_, R4⟩
          rw [← HM.out, downFrom]
          simp
  · go_enter Try.func12, Try.ntmps12
    go_wp2_with fail
    go_loopg [0, 8] s (fun gg s0 s8 wr => ∃ M : List Bool, gg ≤ s ∧ M.length + gg = L.length + s ∧ s8 = .int .i64 ((gg : Int) - 1) ∧ M ++ downFrom x gg = L ++ bitsOf x s ∧ RPutIn w base (.slice A L.length c) M wr s0)
    case atStart => exact ⟨L, Nat.le_refl _, by omega, rfl, by rw [downFrom_eq], R0⟩
    case round =>
      obtain ⟨M, hgs, hlen, rfl, hM, R⟩ := hrel
      have HM := Lib.hid hM
      clear hM R0
      obtain ⟨A1, c1, rfl⟩ : ∃ A c, u0 = .slice A M.length c := by
        rcases R.own.2 with ⟨rfl, h0⟩ | ⟨g, cap, cur, rfl, _⟩
        · exact ⟨none, 0, by rw [h0]⟩
        · exact ⟨_, _, rfl⟩
      cases gk with
      | zero =>
        go_wp2_with fail
        go_ret2
        have e : M = L ++ bitsOf x s := by have := HM.out; simpa [downFrom] using this
        rw [← e]
        exact ⟨_, rfl, R.own, R.grown, R.born⟩
      | succ j =>
        have ek : ((j + 1 : Nat) : Int) - 1 = (j : Int) := by omega
        rw [ek]
        clear ek
        have hrb := ref_bit x j
        have HO := Lib.hid R.own
        have hsz := R.grown.size
        go_wp2_with (at_builtin; refine wpList_append_own_at _ rfl (.tmp 42) (.tmp 48) 26 rfl base 4 i0 (.bool false) 1 1 Try.underlying26 hi hz0 hz1 hz2 rfl (by decide) _ _ _ rfl (HO.out.alloc _) ⟨wr.heap.size, 0, none⟩ 1 1 [.bool (x / 2 ^ j % 2 == 1)] rfl rfl (cell_one_new _ _ _) ?e2 ?e3 ?e4 ?e5 ?_)
        case e2 => intro u hu; simp at hu; subst hu; rfl
        case e3 => unfold maxLen; omega
        case e4 => omega
        case e5 => simp; omega
        intro v4 w4 hown4 hgrow4 _ hat4
        have R4 := R.next hown4 hgrow4 hat4
        clear hown4 hgrow4 hat4 hrb
        go_wp2_with fail
        go_roundg j
        case measure => omega
        case rel =>
          refine ⟨M ++ [x / 2 ^ j % 2 == 1], by omega, by simp; omega, rfl, ?_, R4⟩
          rw [← HM.out, downFrom]
          simp

set_option maxHeartbeats 400000 in
theorem rput_arg (A : Option Addr) (m c : Nat) (x y : Int) (w : World) (h : ¬ Good x y) (hx : x ≤ 9223372036854775807) :
    Calls Try.prog 12 #[.slice A m c, .int .i64 x, .int .i64 y] w fun e w' => e = .returned (.tuple #[.slice A m c, .int .i64 1]) ∧ w = w' := by
  by_cases h1 : y < 0
  · have hd1 : decide (y < 0) = true := by simpa using h1
    clear h
    go_enter Try.func12, Try.ntmps12
    go_wp2_with fail
    go_ret2
    exact ⟨rfl, rfl⟩
  have hd1 : decide (y < 0) = false := by simpa using h1
  by_cases h2 : 63 < y
  · have hd2 : decide (63 < y) = true := by simpa using h2
    clear h
    go_enter Try.func12, Try.ntmps12
    go_wp2_with fail
    go_ret2
    exact ⟨rfl, rfl⟩
  have hd2 : decide (63 < y) = false := by simpa using h2
  by_cases h3 : x < 0
  · have hd3 : decide (x < 0) = true := by simpa using h3
    clear h
    go_enter Try.func12, Try.ntmps12
    go_wp2_with fail
    go_ret2
    exact ⟨rfl, rfl⟩
  have hd3 : decide (x < 0) = false := by simpa using h3
  obtain ⟨s, rfl⟩ := Int.eq_ofNat_of_zero_le (show 0 ≤ y by omega)
  have hge : (2 : Int) ^ s ≤ x := by
    refine Int.not_lt.1 fun hlt => h ⟨by omega, by omega, by omega, ?_⟩
    simpa using hlt
  have hs : s < 63 := by
    rcases Nat.lt_or_ge s 63 with hs | hs
    · exact hs
    · have e : s = 63 := by omega
      subst e
      have : (2 : Int) ^ 63 = 9223372036854775808 := by decide
      omega
  have hd4 : decide ((s : Int) < 63) = true := by simp; omega
  have hd6 : decide (wrap64 ((2 : Int) ^ s) ≤ x) = true := by rw [wrap_pow s hs]; simpa using hge
  clear h hge
  go_enter Try.func12, Try.ntmps12
  go_wp2_with fail
  go_ret2
  exact ⟨rfl, rfl⟩

set_option maxHeartbeats 400000 in
theorem rput_long (A : Option Addr) (m c x s : Nat) (w : World) (hs : s ≤ 63) (hx : x < 2 ^ s) (hm : m ≤ 1048576) (hn : 1048576 < m + s) :
    Calls Try.prog 12 #[.slice A m c, .int .i64 (x : Int), .int .i64 (s : Int)] w fun e w' => e = .returned (.tuple #[.slice A m c, .int .i64 2]) ∧ w = w' := by
  have hd1 : decide ((s : Int) < 0) = false := by simp
  have hd2 : decide (63 < (s : Int)) = false := by simp; omega
  have hd3 : decide ((x : Int) < 0) = false := by simp
  have hd5 : decide (1048576 < (m : Int) + (s : Int)) = true := by simp; omega
  by_cases h63 : s < 63
  · have hd4 : decide ((s : Int) < 63) = true := by simp; omega
    have hd6 : decide (wrap64 ((2 : Int) ^ s) ≤ (x : Int)) = false := by
      have : (x : Int) < 2 ^ s := by exact_mod_cast hx
      rw [wrap_pow s h63]
      simp; omega
    clear hx
    go_enter Try.func12, Try.ntmps12
    go_wp2_with fail
    go_ret2
    exact ⟨rfl, rfl⟩
  · have hd4 : decide ((s : Int) < 63) = false := by simp; omega
    clear hx
    go_enter Try.func12, Try.ntmps12
    go_wp2_with fail
    go_ret2
    exact ⟨rfl, rfl⟩

end Go.Proofs.Ytehonfobofpahaa
