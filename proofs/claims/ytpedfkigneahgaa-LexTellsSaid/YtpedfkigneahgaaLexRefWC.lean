/- The reference's Lex: the switch, ways [4, 5]. -/
import Derived.Test.YtpedfkigneahgaaLexRefM
namespace Go.Proofs.Ytpedfkigneahgaa
set_option linter.unusedVariables false
open Go.RowKit

set_option maxRecDepth 100000 in
set_option maxHeartbeats 3200000 in
theorem sw4 {x1 x2 x3 x4 x5 x11 x12 x13 x14 x15 x16 x17 x18 x19 x20 x21 x22 x23 x24 x25 x26 x27 x28 x29 x30 x31 x32 x33 x34 x35 x36 x37 x38 x39 x40 x41 x42 x43 x44 x45 x46 x47 x48 x49 x50 x51 x52 x53 x54 x55 x56 x57 x58 x59 x60 x61 x62 x63 x64 x65 x66 x67 x68 x69 x70 x71 x72 x73 x74 x75 x76 x77 x78 x79 x80 x81 x82 x83 x84 x85 x86 x87 x88 x89 x90 x91 x92 x93 x94 x95 x96 x97 x98 x99 x100 x101 x102 x103 x104 x105 x106 x107 x108 x109 x110 x111 x112 x113 x114 x115 x116 x117 x118 x119 x120 x121 x122 x123 x124 x125 x126 x127 x128 x129 x130 x131 x132 x133 x134 x135 x136 x137 x138 x139 x140 x141 x142 x143 x144 x145 x146 x147 x148 x149 x150 x151 x152 x153 x154 x155 x156 x157 x158 x159 x160 x161 x162 x163 x164 x165 x166 x167 x168 x169 x170 x171 x172 x173 x174 x175 x176 x177 x178 x179 x180 x181 x182 x183 x184 x185 x186 x187 x188 x189 x190 x191 x192 x193 x194 x195 x196 x197 x198 x199 x200 x201 x202 x203 x204 x205 x206 x207 x208 x209 x210 x211 x212 x213 x214 x215 : Value} (s : ByteArray) (hs : s.size ≤ 4096) (wo w1 : World) (j : Nat) (hlt : j < s.size) (b : UInt8) (hdb : s.data.toList[j]? = some b) (T1 : Hid (Tb w1 wo.heap.size 0 (j : Int) 0 ⟨#[]⟩)) (D1 : Hid (Below wo.heap.size wo w1)) (K : Act → World → Prop) (Q : Exit → Act → World → Prop)
    (HK : Hid (∀ (e o n1 n2 n3 y51 y52 y53 y54 y55 y56 y57 y58 y59 y60 y61 y62 y63 y64 y65 y66 y67 y68 y69 y70 y71 y72 y73 y74 y75 y76 y77 y78 y79 y80 y81 y82 y83 y84 y85 y86 y87 y88 y89 y90 y91 y92 y93 y94 y95 y96 y97 y98 y99 y100 y101 y102 y103 y104 y105 y106 y107 y108 y109 y110 y111 y112 y113 y114 y115 y116 y117 y118 y119 y120 y121 y122 y123 y124 y125 y126 y127 y128 y129 y130 y131 y132 y133 y134 y135 y136 y137 y138 y139 y140 y141 y142 y143 y144 y145 y146 y147 y148 y149 y150 y151 y152 y153 y154 y155 y156 y157 y158 y159 y160 y161 y162 y163 y164 y165 y166 y167 y168 y169 y170 y171 y172 y173 y174 y175 y176 y177 y178 y179 y180 y181 y182 y183 y184 y185 y186 y187 y188 y189 y190 y191 y192 y193 y194 y195 y196 y197 y198 y199 y200 y201 y202 y203 y204 y205 y206 y207 : Value) (w3 : World), RCut s wo j e o w3 → K { tmps := #[.string s, x1, x2, x3, x4, x5, .int .i64 (j : Int), .pointer (some ⟨wo.heap.size, 0, none⟩), e, o, .int .u8 (b.toNat : Int), n1, n2, n3, x14, x15, x16, x17, x18, x19, x20, x21, x22, x23, x24, x25, x26, x27, x28, x29, x30, x31, x32, x33, x34, x35, x36, x37, x38, x39, x40, x41, x42, x43, x44, x45, x46, x47, x48, x49, x50, y51, y52, y53, y54, y55, y56, y57, y58, y59, y60, y61, y62, y63, y64, y65, y66, y67, y68, y69, y70, y71, y72, y73, y74, y75, y76, y77, y78, y79, y80, y81, y82, y83, y84, y85, y86, y87, y88, y89, y90, y91, y92, y93, y94, y95, y96, y97, y98, y99, y100, y101, y102, y103, y104, y105, y106, y107, y108, y109, y110, y111, y112, y113, y114, y115, y116, y117, y118, y119, y120, y121, y122, y123, y124, y125, y126, y127, y128, y129, y130, y131, y132, y133, y134, y135, y136, y137, y138, y139, y140, y141, y142, y143, y144, y145, y146, y147, y148, y149, y150, y151, y152, y153, y154, y155, y156, y157, y158, y159, y160, y161, y162, y163, y164, y165, y166, y167, y168, y169, y170, y171, y172, y173, y174, y175, y176, y177, y178, y179, y180, y181, y182, y183, y184, y185, y186, y187, y188, y189, y190, y191, y192, y193, y194, y195, y196, y197, y198, y199, y200, y201, y202, y203, y204, y205, y206, y207, x208, x209, x210, x211, x212, x213, x214, x215], defers := [] } w3)) (e1 : lett b = false) (e2 : dgt b = false) (e3 : ((b.toNat : Int) == 45) = false) (e4 : ((b.toNat : Int) == 64) = false) (e5 : ((b.toNat : Int) == 35) = true) :
    ∃ R, findBlock 4 ((Try.f10.body).getD .skip) = some R ∧ R.wp Try.prog (Exit.then K Q) { tmps := #[.string s, x1, x2, x3, x4, x5, .int .i64 (j : Int), .pointer (some ⟨wo.heap.size, 0, none⟩), .int .i64 ((j : Int) + 1), .bool true, .int .u8 (b.toNat : Int), x11, x12, x13, x14, x15, x16, x17, x18, x19, x20, x21, x22, x23, x24, x25, x26, x27, x28, x29, x30, x31, x32, x33, x34, x35, x36, x37, x38, x39, x40, x41, x42, x43, x44, x45, x46, x47, x48, x49, x50, x51, x52, x53, x54, x55, x56, x57, x58, x59, x60, x61, x62, x63, x64, x65, x66, x67, x68, x69, x70, x71, x72, x73, x74, x75, x76, x77, x78, x79, x80, x81, x82, x83, x84, x85, x86, x87, x88, x89, x90, x91, x92, x93, x94, x95, x96, x97, x98, x99, x100, x101, x102, x103, x104, x105, x106, x107, x108, x109, x110, x111, x112, x113, x114, x115, x116, x117, x118, x119, x120, x121, x122, x123, x124, x125, x126, x127, x128, x129, x130, x131, x132, x133, x134, x135, x136, x137, x138, x139, x140, x141, x142, x143, x144, x145, x146, x147, x148, x149, x150, x151, x152, x153, x154, x155, x156, x157, x158, x159, x160, x161, x162, x163, x164, x165, x166, x167, x168, x169, x170, x171, x172, x173, x174, x175, x176, x177, x178, x179, x180, x181, x182, x183, x184, x185, x186, x187, x188, x189, x190, x191, x192, x193, x194, x195, x196, x197, x198, x199, x200, x201, x202, x203, x204, x205, x206, x207, x208, x209, x210, x211, x212, x213, x214, x215], defers := [] } w1 := by
  refine ⟨_, rfl, ?_⟩
  have HDB := Lib.hid hdb
  have HDR := Lib.hid (drop_at' hdb)
  have hbb : s[j] = b := by
    have := data_at hlt
    rw [hdb] at this
    exact (Option.some.inj this).symm
  have hj : j ≤ s.size := by omega
  have hji : 0 ≤ (j : Int) ∧ (j : Int) < s.size := by omega
  have c1 := T1.out.c4
  have f1 := T1.out.fz
  have HLT := Lib.hid (rletter_any b)
  have HDG := Lib.hid (rdigit_any b)
  clear hdb
  rw [e1] at HLT
  rw [e2] at HDG
  have hb35 : b = 35 := UInt8.toNat_inj.1 (by rw [beq_iff_eq] at e5; have : (35 : UInt8).toNat = 35 := rfl; omega)
  have hvt : tokB (s.data.toList.drop j) = if Named ((s.data.toList.drop (j + 1)).takeWhile inm) then some (4, 0, (s.data.toList.drop (j + 1)).takeWhile inm, ((s.data.toList.drop (j + 1)).takeWhile inm).length + 1) else none := by
    rw [HDR.out, hb35, tokB, if_neg (by decide), if_neg (by decide), if_neg (by decide), if_neg (by decide), if_pos rfl]
  have hwo := word_any s (by unfold maxLen; omega) (j + 1) (by omega)
  have hwl := wordE_le s (a := j + 1) (by omega)
  have hwy := wordE_named (l := s.data.toList) (a := j + 1)
  have hwn := wordE_not (l := s.data.toList) (a := j + 1)
  have hex := ext_mid s (j + 1) (wordE s.data.toList (j + 1))
  have hexy := ext_tw s inm (j + 1)
  generalize he : wordE s.data.toList (j + 1) = e at *
  generalize hnmm : (s.data.toList.drop (j + 1)).takeWhile inm = nm at *
  have hrn := fun w => refname_any (s.extract (j + 1) e) (by rw [ext_size _ hwl.2]; unfold maxLen; omega) w
  have HWO := Lib.hid hwo
  have T2 := Lib.hid (T1.out.setK 4)
  have T3 := Lib.hid (T2.out.setS (s.extract (j + 1) e))
  have D3 := Lib.hid ((D1.out.setCell (p := ⟨wo.heap.size, 0, none⟩) (Nat.le_refl _) (.int .i64 4)).setCell (p := ⟨wo.heap.size, 3, none⟩) (Nat.le_refl _) (.string (s.extract (j + 1) e)))
  have c2 := T2.out.c4
  have f2 := T2.out.fz
  have c3 := T3.out.c4
  have hje : (j : Int) + 1 ≤ (e : Int) := by omega
  have hje2 : (e : Int) ≤ (s.size : Int) := by omega
  have hje3 : ((j : Int) + 1).toNat = j + 1 := by omega
  have hje4 : (0 : Int) ≤ (j : Int) + 1 := by omega
  by_cases hn : Named nm
  · rw [if_pos hn] at hvt
    have hey := hwy hn
    have hx : s.extract (j + 1) e = ⟨nm.toArray⟩ := by rw [hey]; exact ba_of hexy
    have HX := Lib.hid hx
    have HEY := Lib.hid hey
    have hrn2 : ∀ w, Calls Try.prog 26 #[.string (s.extract (j + 1) e)] w fun e' w' => e' = .returned (.bool true) ∧ w' = w := fun w => by
      have := hrn w
      rwa [hx, decide_eq_true (show Named ((⟨nm.toArray⟩ : ByteArray).data.toList) by simpa using hn), ← hx] at this
    have HRN := Lib.hid hrn2
    have HTK := Lib.hid hvt
    clear hwo hwl hwy hwn hex hexy he hnmm hrn hrn2 hvt hey hx hn hb35
    go_wp2_with (first | (go_at_call 22; refine (HLT.out _).mono ?_; rintro e'' w'' ⟨rfl, rfl⟩) | (go_at_call 24; refine (HDG.out _).mono ?_; rintro e'' w'' ⟨rfl, rfl⟩))
    refine (HWO.out _).mono ?_
    rintro e'' w'' ⟨rfl, rfl⟩
    go_wp2_with fail
    refine (HRN.out _).mono ?_
    rintro e'' w'' ⟨rfl, rfl⟩
    go_wp2_with fail
    exact HK.out _ _ _ _ _ _ _ _ _ _ _ _ _ _ _ _ _ _ _ _ _ _ _ _ _ _ _ _ _ _ _ _ _ _ _ _ _ _ _ _ _ _ _ _ _ _ _ _ _ _ _ _ _ _ _ _ _ _ _ _ _ _ _ _ _ _ _ _ _ _ _ _ _ _ _ _ _ _ _ _ _ _ _ _ _ _ _ _ _ _ _ _ _ _ _ _ _ _ _ _ _ _ _ _ _ _ _ _ _ _ _ _ _ _ _ _ _ _ _ _ _ _ _ _ _ _ _ _ _ _ _ _ _ _ _ _ _ _ _ _ _ _ _ _ _ _ _ _ _ _ _ _ _ _ _ _ _ _ _ _ _ _ _ ⟨_, true, 4, 0, _, rfl, rfl, T3.out, D3.out, by rw [HTK.out]; exact back_some HX.out (by have := HEY.out; omega)⟩
  · rw [if_neg hn] at hvt
    have hnn := hwn hn
    rw [← hex] at hnn
    have hrn2 : ∀ w, Calls Try.prog 26 #[.string (s.extract (j + 1) e)] w fun e' w' => e' = .returned (.bool false) ∧ w' = w := fun w => by
      have := hrn w
      rwa [decide_eq_false hnn] at this
    have HRN := Lib.hid hrn2
    have HTK := Lib.hid hvt
    clear hwo hwl hwy hwn hex hexy he hnmm hrn hrn2 hvt hnn hn hb35
    go_wp2_with (first | (go_at_call 22; refine (HLT.out _).mono ?_; rintro e'' w'' ⟨rfl, rfl⟩) | (go_at_call 24; refine (HDG.out _).mono ?_; rintro e'' w'' ⟨rfl, rfl⟩))
    refine (HWO.out _).mono ?_
    rintro e'' w'' ⟨rfl, rfl⟩
    go_wp2_with fail
    refine (HRN.out _).mono ?_
    rintro e'' w'' ⟨rfl, rfl⟩
    go_wp2_with fail
    exact HK.out _ _ _ _ _ _ _ _ _ _ _ _ _ _ _ _ _ _ _ _ _ _ _ _ _ _ _ _ _ _ _ _ _ _ _ _ _ _ _ _ _ _ _ _ _ _ _ _ _ _ _ _ _ _ _ _ _ _ _ _ _ _ _ _ _ _ _ _ _ _ _ _ _ _ _ _ _ _ _ _ _ _ _ _ _ _ _ _ _ _ _ _ _ _ _ _ _ _ _ _ _ _ _ _ _ _ _ _ _ _ _ _ _ _ _ _ _ _ _ _ _ _ _ _ _ _ _ _ _ _ _ _ _ _ _ _ _ _ _ _ _ _ _ _ _ _ _ _ _ _ _ _ _ _ _ _ _ _ _ _ _ _ _ ⟨_, false, _, _, _, rfl, rfl, T3.out, D3.out, by rw [HTK.out]; exact back_none⟩

set_option maxRecDepth 100000 in
set_option maxHeartbeats 3200000 in
theorem sw5 {x1 x2 x3 x4 x5 x11 x12 x13 x14 x15 x16 x17 x18 x19 x20 x21 x22 x23 x24 x25 x26 x27 x28 x29 x30 x31 x32 x33 x34 x35 x36 x37 x38 x39 x40 x41 x42 x43 x44 x45 x46 x47 x48 x49 x50 x51 x52 x53 x54 x55 x56 x57 x58 x59 x60 x61 x62 x63 x64 x65 x66 x67 x68 x69 x70 x71 x72 x73 x74 x75 x76 x77 x78 x79 x80 x81 x82 x83 x84 x85 x86 x87 x88 x89 x90 x91 x92 x93 x94 x95 x96 x97 x98 x99 x100 x101 x102 x103 x104 x105 x106 x107 x108 x109 x110 x111 x112 x113 x114 x115 x116 x117 x118 x119 x120 x121 x122 x123 x124 x125 x126 x127 x128 x129 x130 x131 x132 x133 x134 x135 x136 x137 x138 x139 x140 x141 x142 x143 x144 x145 x146 x147 x148 x149 x150 x151 x152 x153 x154 x155 x156 x157 x158 x159 x160 x161 x162 x163 x164 x165 x166 x167 x168 x169 x170 x171 x172 x173 x174 x175 x176 x177 x178 x179 x180 x181 x182 x183 x184 x185 x186 x187 x188 x189 x190 x191 x192 x193 x194 x195 x196 x197 x198 x199 x200 x201 x202 x203 x204 x205 x206 x207 x208 x209 x210 x211 x212 x213 x214 x215 : Value} (s : ByteArray) (hs : s.size ≤ 4096) (wo w1 : World) (j : Nat) (hlt : j < s.size) (b : UInt8) (hdb : s.data.toList[j]? = some b) (T1 : Hid (Tb w1 wo.heap.size 0 (j : Int) 0 ⟨#[]⟩)) (D1 : Hid (Below wo.heap.size wo w1)) (K : Act → World → Prop) (Q : Exit → Act → World → Prop)
    (HK : Hid (∀ (e o n1 n2 n3 y51 y52 y53 y54 y55 y56 y57 y58 y59 y60 y61 y62 y63 y64 y65 y66 y67 y68 y69 y70 y71 y72 y73 y74 y75 y76 y77 y78 y79 y80 y81 y82 y83 y84 y85 y86 y87 y88 y89 y90 y91 y92 y93 y94 y95 y96 y97 y98 y99 y100 y101 y102 y103 y104 y105 y106 y107 y108 y109 y110 y111 y112 y113 y114 y115 y116 y117 y118 y119 y120 y121 y122 y123 y124 y125 y126 y127 y128 y129 y130 y131 y132 y133 y134 y135 y136 y137 y138 y139 y140 y141 y142 y143 y144 y145 y146 y147 y148 y149 y150 y151 y152 y153 y154 y155 y156 y157 y158 y159 y160 y161 y162 y163 y164 y165 y166 y167 y168 y169 y170 y171 y172 y173 y174 y175 y176 y177 y178 y179 y180 y181 y182 y183 y184 y185 y186 y187 y188 y189 y190 y191 y192 y193 y194 y195 y196 y197 y198 y199 y200 y201 y202 y203 y204 y205 y206 y207 : Value) (w3 : World), RCut s wo j e o w3 → K { tmps := #[.string s, x1, x2, x3, x4, x5, .int .i64 (j : Int), .pointer (some ⟨wo.heap.size, 0, none⟩), e, o, .int .u8 (b.toNat : Int), n1, n2, n3, x14, x15, x16, x17, x18, x19, x20, x21, x22, x23, x24, x25, x26, x27, x28, x29, x30, x31, x32, x33, x34, x35, x36, x37, x38, x39, x40, x41, x42, x43, x44, x45, x46, x47, x48, x49, x50, y51, y52, y53, y54, y55, y56, y57, y58, y59, y60, y61, y62, y63, y64, y65, y66, y67, y68, y69, y70, y71, y72, y73, y74, y75, y76, y77, y78, y79, y80, y81, y82, y83, y84, y85, y86, y87, y88, y89, y90, y91, y92, y93, y94, y95, y96, y97, y98, y99, y100, y101, y102, y103, y104, y105, y106, y107, y108, y109, y110, y111, y112, y113, y114, y115, y116, y117, y118, y119, y120, y121, y122, y123, y124, y125, y126, y127, y128, y129, y130, y131, y132, y133, y134, y135, y136, y137, y138, y139, y140, y141, y142, y143, y144, y145, y146, y147, y148, y149, y150, y151, y152, y153, y154, y155, y156, y157, y158, y159, y160, y161, y162, y163, y164, y165, y166, y167, y168, y169, y170, y171, y172, y173, y174, y175, y176, y177, y178, y179, y180, y181, y182, y183, y184, y185, y186, y187, y188, y189, y190, y191, y192, y193, y194, y195, y196, y197, y198, y199, y200, y201, y202, y203, y204, y205, y206, y207, x208, x209, x210, x211, x212, x213, x214, x215], defers := [] } w3)) (e1 : lett b = false) (e2 : dgt b = false) (e3 : ((b.toNat : Int) == 45) = false) (e4 : ((b.toNat : Int) == 64) = false) (e5 : ((b.toNat : Int) == 35) = false) (e6 : ((b.toNat : Int) == 34) = true) :
    ∃ R, findBlock 4 ((Try.f10.body).getD .skip) = some R ∧ R.wp Try.prog (Exit.then K Q) { tmps := #[.string s, x1, x2, x3, x4, x5, .int .i64 (j : Int), .pointer (some ⟨wo.heap.size, 0, none⟩), .int .i64 ((j : Int) + 1), .bool true, .int .u8 (b.toNat : Int), x11, x12, x13, x14, x15, x16, x17, x18, x19, x20, x21, x22, x23, x24, x25, x26, x27, x28, x29, x30, x31, x32, x33, x34, x35, x36, x37, x38, x39, x40, x41, x42, x43, x44, x45, x46, x47, x48, x49, x50, x51, x52, x53, x54, x55, x56, x57, x58, x59, x60, x61, x62, x63, x64, x65, x66, x67, x68, x69, x70, x71, x72, x73, x74, x75, x76, x77, x78, x79, x80, x81, x82, x83, x84, x85, x86, x87, x88, x89, x90, x91, x92, x93, x94, x95, x96, x97, x98, x99, x100, x101, x102, x103, x104, x105, x106, x107, x108, x109, x110, x111, x112, x113, x114, x115, x116, x117, x118, x119, x120, x121, x122, x123, x124, x125, x126, x127, x128, x129, x130, x131, x132, x133, x134, x135, x136, x137, x138, x139, x140, x141, x142, x143, x144, x145, x146, x147, x148, x149, x150, x151, x152, x153, x154, x155, x156, x157, x158, x159, x160, x161, x162, x163, x164, x165, x166, x167, x168, x169, x170, x171, x172, x173, x174, x175, x176, x177, x178, x179, x180, x181, x182, x183, x184, x185, x186, x187, x188, x189, x190, x191, x192, x193, x194, x195, x196, x197, x198, x199, x200, x201, x202, x203, x204, x205, x206, x207, x208, x209, x210, x211, x212, x213, x214, x215], defers := [] } w1 := by
  refine ⟨_, rfl, ?_⟩
  have HDB := Lib.hid hdb
  have HDR := Lib.hid (drop_at' hdb)
  have hbb : s[j] = b := by
    have := data_at hlt
    rw [hdb] at this
    exact (Option.some.inj this).symm
  have hj : j ≤ s.size := by omega
  have hji : 0 ≤ (j : Int) ∧ (j : Int) < s.size := by omega
  have c1 := T1.out.c4
  have f1 := T1.out.fz
  have HLT := Lib.hid (rletter_any b)
  have HDG := Lib.hid (rdigit_any b)
  clear hdb
  rw [e1] at HLT
  rw [e2] at HDG
  have hb34 : b = 34 := UInt8.toNat_inj.1 (by rw [beq_iff_eq] at e6; have : (34 : UInt8).toNat = 34 := rfl; omega)
  have hvt : tokB (s.data.toList.drop j) = (txtR (s.data.toList.drop (j + 1))).map fun p => (5, 0, p.1, p.2 + 1) := by
    rw [HDR.out, hb34, tokB, if_neg (by decide), if_neg (by decide), if_neg (by decide), if_neg (by decide), if_neg (by decide), if_pos rfl]
    unfold txtR
    cases qtB (s.data.toList.drop (j + 1)) with
    | none => rfl
    | some p =>
      simp only [Option.bind_some]
      by_cases hz : p.1.length ≤ 64
      · rw [if_pos hz, if_pos hz]; rfl
      · rw [if_neg hz, if_neg hz]; rfl
  have HWO := Lib.hid (quoted7_any s (by omega) j (by omega))
  have T2 := Lib.hid (T1.out.setK 5)
  have D2 := Lib.hid (D1.out.setCell (p := ⟨wo.heap.size, 0, none⟩) (Nat.le_refl _) (.int .i64 5))
  have HVT := Lib.hid hvt
  clear hvt hb34
  go_wp2_with (first | (go_at_call 22; refine (HLT.out _).mono ?_; rintro e'' w'' ⟨rfl, rfl⟩) | (go_at_call 24; refine (HDG.out _).mono ?_; rintro e'' w'' ⟨rfl, rfl⟩))
  refine (HWO.out _).mono ?_
  rintro e'' w2 ⟨e', x, ok, rfl, hok, hxe, hb2⟩
  have T4 := Lib.hid (T2.out.then_ hb2)
  have T3 := Lib.hid (T4.out.setS x)
  have D3 := Lib.hid ((D2.out.trans (hb2.mono D2.out.size)).setCell (p := ⟨wo.heap.size, 3, none⟩) (Nat.le_refl _) (.string x))
  have c2 := T4.out.c4
  have f2 := T4.out.fz
  clear hb2
  cases hto : txtR (s.data.toList.drop (j + 1)) with
  | none =>
    rw [hto] at hok
    obtain rfl : ok = false := hok
    have HTK : Hid (tokB (s.data.toList.drop j) = none) := by show _ = _; rw [HVT.out, hto]; rfl
    clear hxe hto
    go_wp2_with fail
    exact HK.out _ _ _ _ _ _ _ _ _ _ _ _ _ _ _ _ _ _ _ _ _ _ _ _ _ _ _ _ _ _ _ _ _ _ _ _ _ _ _ _ _ _ _ _ _ _ _ _ _ _ _ _ _ _ _ _ _ _ _ _ _ _ _ _ _ _ _ _ _ _ _ _ _ _ _ _ _ _ _ _ _ _ _ _ _ _ _ _ _ _ _ _ _ _ _ _ _ _ _ _ _ _ _ _ _ _ _ _ _ _ _ _ _ _ _ _ _ _ _ _ _ _ _ _ _ _ _ _ _ _ _ _ _ _ _ _ _ _ _ _ _ _ _ _ _ _ _ _ _ _ _ _ _ _ _ _ _ _ _ _ _ _ _ ⟨_, false, _, _, _, rfl, rfl, T3.out, D3.out, by rw [HTK.out]; exact back_none⟩
  | some p =>
    obtain ⟨m', q⟩ := p
    rw [hto] at hok
    obtain rfl : ok = true := hok
    obtain ⟨hx, he⟩ := hxe m' q hto
    have HX := Lib.hid hx
    have HE := Lib.hid he
    have HTK : Hid (tokB (s.data.toList.drop j) = some (5, 0, m', q + 1)) := by show _ = _; rw [HVT.out, hto]; rfl
    clear hxe hto hx he
    go_wp2_with fail
    exact HK.out _ _ _ _ _ _ _ _ _ _ _ _ _ _ _ _ _ _ _ _ _ _ _ _ _ _ _ _ _ _ _ _ _ _ _ _ _ _ _ _ _ _ _ _ _ _ _ _ _ _ _ _ _ _ _ _ _ _ _ _ _ _ _ _ _ _ _ _ _ _ _ _ _ _ _ _ _ _ _ _ _ _ _ _ _ _ _ _ _ _ _ _ _ _ _ _ _ _ _ _ _ _ _ _ _ _ _ _ _ _ _ _ _ _ _ _ _ _ _ _ _ _ _ _ _ _ _ _ _ _ _ _ _ _ _ _ _ _ _ _ _ _ _ _ _ _ _ _ _ _ _ _ _ _ _ _ _ _ _ _ _ _ _ ⟨_, true, 5, 0, _, rfl, rfl, T3.out, D3.out, by rw [HTK.out]; exact back_some HX.out (by have := HE.out; omega)⟩
end Go.Proofs.Ytpedfkigneahgaa
