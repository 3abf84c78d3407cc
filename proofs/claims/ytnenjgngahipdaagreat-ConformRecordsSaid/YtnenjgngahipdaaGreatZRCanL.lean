/- A value as it must be, the reference's way. No condition but how many items there are. -/
import Derived.Test.YtnenjgngahipdaaGreatZg30
set_option linter.unusedVariables false
set_option linter.unusedSimpArgs false
set_option linter.unnecessarySimpa false
namespace Go.Proofs.YtnenjgngahipdaaGreat
open Go.RowKit Go.Sort
set_option maxHeartbeats 4000000 in
set_option maxRecDepth 100000 in
theorem rcan_1 (b : Bool) (nn : Int) (s t i : ByteArray) (l : List V) (ns : List ByteArray) (w : World) (vai van : Option Addr) (vci vcn : Nat) (_hb : Bh ⟨1, b, nn, s, t, i⟩) :
    Calls Tryz.prog 30 #[.agg #[.int .i64 1, .bool b, .int .i64 nn, .string s, .string t, .string i, .slice vai l.length vci, .slice van ns.length vcn]] w (CanPost (.mk { hd0 with k := 1, b := b } [] []) 0 w) := by
  go_enter Tryz.func30, Tryz.ntmps30
  go_wp2_with fail
  refine bodyPost_ret (v := .tuple #[.agg #[.int .i64 1, .bool b, .int .i64 0, .string ⟨#[]⟩, .string ⟨#[]⟩, .string ⟨#[]⟩, .slice none 0 0, .slice none 0 0], .int .i64 0]) (by simp [results, Tryz.results30, go_sem]; try rfl) rfl ?_
  exact ⟨none, 0, none, 0, rfl, rep_v.2 ⟨⟨Nat.zero_le _, Nat.zero_le _, Nat.zero_le _⟩, names_nil _ _, none, 0, rfl, ⟨Nat.zero_le _, Nat.zero_le _⟩, .inl rfl⟩, Low.alloc (Low.alloc (Low.alloc (Low.refl w) _) _) _⟩
set_option maxHeartbeats 4000000 in
set_option maxRecDepth 100000 in
theorem rcan_2 (b : Bool) (nn : Int) (s t i : ByteArray) (l : List V) (ns : List ByteArray) (w : World) (vai van : Option Addr) (vci vcn : Nat) (_hb : Bh ⟨2, b, nn, s, t, i⟩) :
    Calls Tryz.prog 30 #[.agg #[.int .i64 2, .bool b, .int .i64 nn, .string s, .string t, .string i, .slice vai l.length vci, .slice van ns.length vcn]] w (CanPost (.mk { hd0 with k := 2, n := nn } [] []) 0 w) := by
  go_enter Tryz.func30, Tryz.ntmps30
  go_wp2_with fail
  refine bodyPost_ret (v := .tuple #[.agg #[.int .i64 2, .bool false, .int .i64 nn, .string ⟨#[]⟩, .string ⟨#[]⟩, .string ⟨#[]⟩, .slice none 0 0, .slice none 0 0], .int .i64 0]) (by simp [results, Tryz.results30, go_sem]; try rfl) rfl ?_
  exact ⟨none, 0, none, 0, rfl, rep_v.2 ⟨⟨Nat.zero_le _, Nat.zero_le _, Nat.zero_le _⟩, names_nil _ _, none, 0, rfl, ⟨Nat.zero_le _, Nat.zero_le _⟩, .inl rfl⟩, Low.alloc (Low.alloc (Low.alloc (Low.refl w) _) _) _⟩
set_option maxHeartbeats 4000000 in
set_option maxRecDepth 100000 in
theorem rcan_3 (b : Bool) (nn : Int) (s t i : ByteArray) (l : List V) (ns : List ByteArray) (w : World) (vai van : Option Addr) (vci vcn : Nat) (hb : Bh ⟨3, b, nn, s, t, i⟩) :
    Calls Tryz.prog 30 #[.agg #[.int .i64 3, .bool b, .int .i64 nn, .string s, .string t, .string i, .slice vai l.length vci, .slice van ns.length vcn]] w (CanPost (.mk { hd0 with k := 3, s := s } [] []) 0 w) := by
  go_enter Tryz.func30, Tryz.ntmps30
  go_wp2_with fail
  refine bodyPost_ret (v := .tuple #[.agg #[.int .i64 3, .bool false, .int .i64 0, .string s, .string ⟨#[]⟩, .string ⟨#[]⟩, .slice none 0 0, .slice none 0 0], .int .i64 0]) (by simp [results, Tryz.results30, go_sem]; try rfl) rfl ?_
  exact ⟨none, 0, none, 0, rfl, rep_v.2 ⟨⟨hb.1, Nat.zero_le _, Nat.zero_le _⟩, names_nil _ _, none, 0, rfl, ⟨Nat.zero_le _, Nat.zero_le _⟩, .inl rfl⟩, Low.alloc (Low.alloc (Low.alloc (Low.refl w) _) _) _⟩
set_option maxHeartbeats 4000000 in
set_option maxRecDepth 100000 in
theorem rcan_4 (b : Bool) (nn : Int) (s t i : ByteArray) (l : List V) (ns : List ByteArray) (w : World) (vai van : Option Addr) (vci vcn : Nat) (hb : Bh ⟨4, b, nn, s, t, i⟩) :
    Calls Tryz.prog 30 #[.agg #[.int .i64 4, .bool b, .int .i64 nn, .string s, .string t, .string i, .slice vai l.length vci, .slice van ns.length vcn]] w (CanPost (.mk { hd0 with k := 4, t := t, i := i } [] []) 0 w) := by
  go_enter Tryz.func30, Tryz.ntmps30
  go_wp2_with fail
  refine bodyPost_ret (v := .tuple #[.agg #[.int .i64 4, .bool false, .int .i64 0, .string ⟨#[]⟩, .string t, .string i, .slice none 0 0, .slice none 0 0], .int .i64 0]) (by simp [results, Tryz.results30, go_sem]; try rfl) rfl ?_
  exact ⟨none, 0, none, 0, rfl, rep_v.2 ⟨⟨Nat.zero_le _, hb.2.1, hb.2.2⟩, names_nil _ _, none, 0, rfl, ⟨Nat.zero_le _, Nat.zero_le _⟩, .inl rfl⟩, Low.alloc (Low.alloc (Low.alloc (Low.refl w) _) _) _⟩
set_option maxHeartbeats 4000000 in
set_option maxRecDepth 100000 in
theorem rcan_lo (k : Int) (hk : k < 1) (b : Bool) (nn : Int) (s t i : ByteArray) (l : List V) (ns : List ByteArray) (w : World) (vai van : Option Addr) (vci vcn : Nat) :
    Calls Tryz.prog 30 #[.agg #[.int .i64 k, .bool b, .int .i64 nn, .string s, .string t, .string i, .slice vai l.length vci, .slice van ns.length vcn]] w (CanPost V0 1 w) := by
  go_enter Tryz.func30, Tryz.ntmps30
  go_wp2_with fail
  refine bodyPost_ret (v := .tuple #[.agg #[.int .i64 0, .bool false, .int .i64 0, .string ⟨#[]⟩, .string ⟨#[]⟩, .string ⟨#[]⟩, .slice none 0 0, .slice none 0 0], .int .i64 1]) (by simp [results, Tryz.results30, go_sem]; try rfl) rfl ?_
  exact ⟨none, 0, none, 0, rfl, rep_V0 _ _, Low.alloc (Low.alloc (Low.refl w) _) _⟩
set_option maxHeartbeats 4000000 in
set_option maxRecDepth 100000 in
theorem rcan_hi (k : Int) (hk : 6 < k) (hk1 : ¬ k < 1) (b : Bool) (nn : Int) (s t i : ByteArray) (l : List V) (ns : List ByteArray) (w : World) (vai van : Option Addr) (vci vcn : Nat) :
    Calls Tryz.prog 30 #[.agg #[.int .i64 k, .bool b, .int .i64 nn, .string s, .string t, .string i, .slice vai l.length vci, .slice van ns.length vcn]] w (CanPost V0 1 w) := by
  go_enter Tryz.func30, Tryz.ntmps30
  go_wp2_with fail
  refine bodyPost_ret (v := .tuple #[.agg #[.int .i64 0, .bool false, .int .i64 0, .string ⟨#[]⟩, .string ⟨#[]⟩, .string ⟨#[]⟩, .slice none 0 0, .slice none 0 0], .int .i64 1]) (by simp [results, Tryz.results30, go_sem]; try rfl) rfl ?_
  exact ⟨none, 0, none, 0, rfl, rep_V0 _ _, Low.alloc (Low.alloc (Low.refl w) _) _⟩
set_option maxHeartbeats 4000000 in
set_option maxRecDepth 100000 in
theorem rcan_ne (b : Bool) (nn : Int) (s t i : ByteArray) (l : List V) (ns : List ByteArray) (w : World) (vai van : Option Addr) (vci vcn : Nat) (hz : ¬ (ns.length : Int) = (l.length : Int)) :
    Calls Tryz.prog 30 #[.agg #[.int .i64 6, .bool b, .int .i64 nn, .string s, .string t, .string i, .slice vai l.length vci, .slice van ns.length vcn]] w (CanPost V0 1 w) := by
  have hz2 : ((ns.length : Int) == (l.length : Int)) = false := by simpa using hz
  go_enter Tryz.func30, Tryz.ntmps30
  go_wp2_with fail
  refine bodyPost_ret (v := .tuple #[.agg #[.int .i64 0, .bool false, .int .i64 0, .string ⟨#[]⟩, .string ⟨#[]⟩, .string ⟨#[]⟩, .slice none 0 0, .slice none 0 0], .int .i64 1]) (by simp [results, Tryz.results30, go_sem]; try rfl) rfl ?_
  exact ⟨none, 0, none, 0, rfl, rep_V0 _ _, Low.alloc (Low.alloc (Low.refl w) _) _⟩
end Go.Proofs.YtnenjgngahipdaaGreat
