/- What a datagram that was sent is read as; what states keep. -/
import Derived.Test.YtmlbhlfjaagcaaaDoorLRecv
import Derived.Test.YtmlbhlfjaagcaaaDoorLSend
namespace Go.Proofs.YtmlbhlfjaagcaaaDoor
open Go.RowKit

theorem body_frame (X : List Nat) : bodyL (frame X) = X := by
  unfold bodyL
  rw [frame_length]
  unfold frame
  rw [show X.length + 4 - 4 = X.length by omega, List.take_left]
theorem opens_frame (X : List Nat) : opens (frame X) := by
  unfold opens
  rw [body_frame, frame_length]
  exact ⟨rfl, by omega⟩

theorem head_len (so : Bool) (la bi nu ix ct : Nat) : (headL so la bi nu ix ct).length = 11 := rfl
theorem cut_len (b : List Nat) (i : Nat) : (cutN b i).length = min 200 (b.length - 200 * i) := by simp [cutN]
theorem right_cut (b : List Nat) (i : Nat) (hi : i < manyN b.length) : rightB i (manyN b.length) (cutN b i).length = true := by
  rw [cut_len]
  unfold rightB manyN at *
  split
  · rw [decide_eq_true_iff]; omega
  · simp only [Bool.and_eq_true, Bool.or_eq_true, decide_eq_true_eq]; omega

theorem dg_head (so : Bool) (la bi nu ix ct : Nat) (x : List Nat) : dgOf (headL so la bi nu ix ct ++ x) = ⟨so, la, bi, nu, ix, ct, x⟩ := by
  have e0 : decide ((headL so la bi nu ix ct ++ x).getD 0 0 = 1) = so := by cases so <;> rfl
  have e1 : (headL so la bi nu ix ct ++ x).getD 1 0 = la / 256 := rfl
  have e2 : (headL so la bi nu ix ct ++ x).getD 2 0 = la % 256 := rfl
  have e3 : (headL so la bi nu ix ct ++ x).getD 3 0 = bi / 16777216 := rfl
  have e4 : (headL so la bi nu ix ct ++ x).getD 4 0 = bi / 65536 % 256 := rfl
  have e5 : (headL so la bi nu ix ct ++ x).getD 5 0 = bi / 256 % 256 := rfl
  have e6 : (headL so la bi nu ix ct ++ x).getD 6 0 = bi % 256 := rfl
  have e7 : (headL so la bi nu ix ct ++ x).getD 7 0 = nu / 256 := rfl
  have e8 : (headL so la bi nu ix ct ++ x).getD 8 0 = nu % 256 := rfl
  have e9 : (headL so la bi nu ix ct ++ x).getD 9 0 = ix := rfl
  have e10 : (headL so la bi nu ix ct ++ x).getD 10 0 = ct := rfl
  have e11 : (headL so la bi nu ix ct ++ x).drop 11 = x := rfl
  unfold dgOf
  rw [e0, e1, e2, e3, e4, e5, e6, e7, e8, e9, e10, e11, show la / 256 * 256 + la % 256 = la by omega, show (bi / 16777216 * 256 + bi / 65536 % 256) * 65536 + (bi / 256 % 256 * 256 + bi % 256) = bi by omega, show nu / 256 * 256 + nu % 256 = nu by omega]

/-- The datagram of a part, as a datagram that came. -/
theorem dec_dgram {s : LS} {b : List Nat} (hz : s.so = false → s.la = 0 ∧ s.bi = 0) (hb : b.length ≤ 2000) (i : Nat) (hi : i < manyN b.length) :
    decD (dgram s b i) = some ⟨s.so, s.la, s.bi, s.next, i, manyN b.length, cutN b i⟩ := by
  unfold dgram decD
  have hd := dg_head s.so s.la s.bi s.next i (manyN b.length) (cutN b i)
  rw [body_frame, if_pos, hd]
  refine ⟨opens_frame _, ?_⟩
  unfold formB
  rw [hd]
  have h1 : 11 ≤ (headL s.so s.la s.bi s.next i (manyN b.length) ++ cutN b i).length := by rw [List.length_append, head_len]; omega
  have h2 : (headL s.so s.la s.bi s.next i (manyN b.length) ++ cutN b i).getD 0 0 ≤ 1 := by
    show (if s.so = true then 1 else 0) ≤ 1
    split <;> omega
  have h3 : (s.so || (decide (s.la = 0) && decide (s.bi = 0))) = true := by
    cases hso : s.so with
    | true => rfl
    | false => obtain ⟨e1, e2⟩ := hz hso; simp [e1, e2]
  have h4 := many_le hb
  have h5 := right_cut b i hi
  have h6 : (headL s.so s.la s.bi s.next i (manyN b.length) ++ cutN b i).length - 11 = (cutN b i).length := by rw [List.length_append, head_len]; omega
  simp only [h6, h5, h3, decide_eq_true h1, decide_eq_true h2, decide_eq_true h4, decide_eq_true hi, Bool.and_self]

theorem dgram_lt {s : LS} (hs : s.ok) {b : List Nat} (hb : ∀ x ∈ b, x < 256) (hl : b.length ≤ 2000) {i : Nat} (hi : i < manyN b.length) : ∀ x ∈ dgram s b i, x < 256 := by
  have := many_le hl
  exact frame_lt (fun x hx => (List.mem_append.1 hx).elim (head_lt hs.la hs.bi hs.next (by omega) (by omega) x) (fun h => hb x (List.mem_of_mem_drop (List.mem_of_mem_take h))))
theorem dgram_len (s : LS) (b : List Nat) (i : Nat) : (dgram s b i).length = 15 + (cutN b i).length := by
  unfold dgram; rw [frame_length, List.length_append, head_len]; omega
theorem dgram_le (s : LS) (b : List Nat) (i : Nat) : (dgram s b i).length ≤ 215 := by
  rw [dgram_len, cut_len]; omega

/-- Without a told message there is nothing to tell of. -/
def LS.zero (s : LS) : Prop := s.so = false → s.la = 0 ∧ s.bi = 0
theorem zero_new (n : Nat) : (LS.new n).zero := fun _ => ⟨rfl, rfl⟩
theorem zero_tell (s : LS) : s.tell.zero := fun h => by cases h
theorem zero_send {s : LS} (h : s.zero) : s.sendS.zero := h
theorem zero_ack {s : LS} (h : s.zero) (n : Nat) : (s.ack n).zero := by unfold LS.ack; split <;> exact h
theorem zero_recTo {s : LS} (h : s.zero) (la bi : Nat) : ∀ k, (recTo s la bi k).zero
  | 0 => zero_ack h la
  | k + 1 => by
    unfold recTo
    split
    · exact zero_ack (zero_recTo h la bi k) _
    · exact zero_recTo h la bi k
theorem zero_recd {s : LS} (h : s.zero) (so : Bool) (la bi : Nat) : (s.recd so la bi).zero := by
  unfold LS.recd; split
  · exact zero_recTo h la bi 32
  · exact h
theorem zero_put {s : LS} (h : s.zero) (g : DG) : (s.put g).st.zero := by
  unfold LS.put; split
  · exact zero_tell _
  · exact h
theorem zero_same {s : LS} (h : s.zero) (g : DG) : (s.same g).st.zero := by
  unfold LS.same; split
  · exact h
  · split
    · exact h
    · exact zero_put h g
theorem zero_come {s : LS} (h : s.zero) (g : DG) : (s.come g).st.zero := by
  unfold LS.come
  split
  · exact h
  · split
    · split
      · exact h
      · exact zero_same (s := { s with ps := [] }) h g
    · exact zero_same h g
theorem zero_recv {s : LS} (h : s.zero) (d : List Nat) : (s.recv d).st.zero := by
  unfold LS.recv
  split
  · exact h
  · exact zero_come (zero_recd h _ _ _) _

theorem send_ok {s : LS} (h : s.ok) : s.sendS.ok :=
  ⟨Nat.mod_lt _ (by omega), by show min (s.sent + 1) 64 ≤ 64; omega, h.la, h.bi, h.nu, h.ct, fun n hn => h.ak n (List.mem_of_mem_erase hn), h.ix, h.by_, h.one⟩
theorem tell_ok {s : LS} (h : s.ok) : s.tell.ok :=
  ⟨h.next, h.sent, h.nu, by show (if s.so then withN s.bi (aheadN s.nu s.la) else 0) < 4294967296; split; exact with_lt _ _; omega, h.nu, h.ct, h.ak, by simp [LS.tell], by simp [LS.tell], by simp [LS.tell]⟩
theorem drop_ok {s : LS} (h : s.ok) : LS.ok { s with ps := [] } := ⟨h.next, h.sent, h.la, h.bi, h.nu, h.ct, h.ak, by simp, by simp, by simp⟩
theorem same_ok {s : LS} (h : s.ok) {g : DG} (hg : g.ok) : (s.same g).st.ok := by
  unfold LS.same
  split
  · exact h
  · rename_i hc
    split
    · exact h
    · rename_i hi
      unfold LS.put
      split
      · exact tell_ok (wait_ok h hg hc hi)
      · exact wait_ok h hg hc hi
theorem come_ok {s : LS} (h : s.ok) {g : DG} (hg : g.ok) : (s.come g).st.ok := by
  unfold LS.come
  split
  · exact h
  · split
    · split
      · exact h
      · exact same_ok (drop_ok h) hg
    · exact same_ok h hg
theorem recv_ok {s : LS} (h : s.ok) {d : List Nat} (hd : ∀ x ∈ d, x < 256) : (s.recv d).st.ok := by
  unfold LS.recv
  split
  · exact h
  · rename_i g hg
    have hk := dec_ok hd hg
    exact come_ok (rec_ok h hk.la) hk

end Go.Proofs.YtmlbhlfjaagcaaaDoor
