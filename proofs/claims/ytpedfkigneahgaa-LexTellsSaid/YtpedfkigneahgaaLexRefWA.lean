/- The reference's Lex: the switch, ways [0, 1]. -/
import Derived.Test.YtpedfkigneahgaaLexRefM
namespace Go.Proofs.Ytpedfkigneahgaa
set_option linter.unusedVariables false
open Go.RowKit

set_option maxRecDepth 100000 in
set_option maxHeartbeats 3200000 in
theorem sw0 {x1 x2 x3 x4 x5 x11 x12 x13 x14 x15 x16 x17 x18 x19 x20 x21 x22 x23 x24 x25 x26 x27 x28 x29 x30 x31 x32 x33 x34 x35 x36 x37 x38 x39 x40 x41 x42 x43 x44 x45 x46 x47 x48 x49 x50 x51 x52 x53 x54 x55 x56 x57 x58 x59 x60 x61 x62 x63 x64 x65 x66 x67 x68 x69 x70 x71 x72 x73 x74 x75 x76 x77 x78 x79 x80 x81 x82 x83 x84 x85 x86 x87 x88 x89 x90 x91 x92 x93 x94 x95 x96 x97 x98 x99 x100 x101 x102 x103 x104 x105 x106 x107 x108 x109 x110 x111 x112 x113 x114 x115 x116 x117 x118 x119 x120 x121 x122 x123 x124 x125 x126 x127 x128 x129 x130 x131 x132 x133 x134 x135 x136 x137 x138 x139 x140 x141 x142 x143 x144 x145 x146 x147 x148 x149 x150 x151 x152 x153 x154 x155 x156 x157 x158 x159 x160 x161 x162 x163 x164 x165 x166 x167 x168 x169 x170 x171 x172 x173 x174 x175 x176 x177 x178 x179 x180 x181 x182 x183 x184 x185 x186 x187 x188 x189 x190 x191 x192 x193 x194 x195 x196 x197 x198 x199 x200 x201 x202 x203 x204 x205 x206 x207 x208 x209 x210 x211 x212 x213 x214 x215 : Value} (s : ByteArray) (hs : s.size ≤ 4096) (wo w1 : World) (j : Nat) (hlt : j < s.size) (b : UInt8) (hdb : s.data.toList[j]? = some b) (T1 : Hid (Tb w1 wo.heap.size 0 (j : Int) 0 ⟨#[]⟩)) (D1 : Hid (Below wo.heap.size wo w1)) (K : Act → World → Prop) (Q : Exit → Act → World → Prop)
    (HK : Hid (∀ (e o n1 n2 n3 y51 y52 y53 y54 y55 y56 y57 y58 y59 y60 y61 y62 y63 y64 y65 y66 y67 y68 y69 y70 y71 y72 y73 y74 y75 y76 y77 y78 y79 y80 y81 y82 y83 y84 y85 y86 y87 y88 y89 y90 y91 y92 y93 y94 y95 y96 y97 y98 y99 y100 y101 y102 y103 y104 y105 y106 y107 y108 y109 y110 y111 y112 y113 y114 y115 y116 y117 y118 y119 y120 y121 y122 y123 y124 y125 y126 y127 y128 y129 y130 y131 y132 y133 y134 y135 y136 y137 y138 y139 y140 y141 y142 y143 y144 y145 y146 y147 y148 y149 y150 y151 y152 y153 y154 y155 y156 y157 y158 y159 y160 y161 y162 y163 y164 y165 y166 y167 y168 y169 y170 y171 y172 y173 y174 y175 y176 y177 y178 y179 y180 y181 y182 y183 y184 y185 y186 y187 y188 y189 y190 y191 y192 y193 y194 y195 y196 y197 y198 y199 y200 y201 y202 y203 y204 y205 y206 y207 : Value) (w3 : World), RCut s wo j e o w3 → K { tmps := #[.string s, x1, x2, x3, x4, x5, .int .i64 (j : Int), .pointer (some ⟨wo.heap.size, 0, none⟩), e, o, .int .u8 (b.toNat : Int), n1, n2, n3, x14, x15, x16, x17, x18, x19, x20, x21, x22, x23, x24, x25, x26, x27, x28, x29, x30, x31, x32, x33, x34, x35, x36, x37, x38, x39, x40, x41, x42, x43, x44, x45, x46, x47, x48, x49, x50, y51, y52, y53, y54, y55, y56, y57, y58, y59, y60, y61, y62, y63, y64, y65, y66, y67, y68, y69, y70, y71, y72, y73, y74, y75, y76, y77, y78, y79, y80, y81, y82, y83, y84, y85, y86, y87, y88, y89, y90, y91, y92, y93, y94, y95, y96, y97, y98, y99, y100, y101, y102, y103, y104, y105, y106, y107, y108, y109, y110, y111, y112, y113, y114, y115, y116, y117, y118, y119, y120, y121, y122, y123, y124, y125, y126, y127, y128, y129, y130, y131, y132, y133, y134, y135, y136, y137, y138, y139, y140, y141, y142, y143, y144, y145, y146, y147, y148, y149, y150, y151, y152, y153, y154, y155, y156, y157, y158, y159, y160, y161, y162, y163, y164, y165, y166, y167, y168, y169, y170, y171, y172, y173, y174, y175, y176, y177, y178, y179, y180, y181, y182, y183, y184, y185, y186, y187, y188, y189, y190, y191, y192, y193, y194, y195, y196, y197, y198, y199, y200, y201, y202, y203, y204, y205, y206, y207, x208, x209, x210, x211, x212, x213, x214, x215], defers := [] } w3)) (e1 : lett b = true) :
    ∃ R, findBlock 4 ((Try.f10.body).getD .skip) = some R ∧ R.wp Try.prog (Exit.then K Q) { tmps := #[.string s, x1, x2, x3, x4, x5, .int .i64 (j : Int), .pointer (some ⟨wo.heap.size, 0, none⟩), .int .i64 ((j : Int) + 1), .bool true, .int .u8 (b.toNat : Int), x11, x12, x13, x14, x15, x16, x17, x18, x19, x20, x21, x22, x23, x24, x25, x26, x27, x28, x29, x30, x31, x32, x33, x34, x35, x36, x37, x38, x39, x40, x41, x42, x43, x44, x45, x46, x47, x48, x49, x50, x51, x52, x53, x54, x55, x56, x57, x58, x59, x60, x61, x62, x63, x64, x65, x66, x67, x68, x69, x70, x71, x72, x73, x74, x75, x76, x77, x78, x79, x80, x81, x82, x83, x84, x85, x86, x87, x88, x89, x90, x91, x92, x93, x94, x95, x96, x97, x98, x99, x100, x101, x102, x103, x104, x105, x106, x107, x108, x109, x110, x111, x112, x113, x114, x115, x116, x117, x118, x119, x120, x121, x122, x123, x124, x125, x126, x127, x128, x129, x130, x131, x132, x133, x134, x135, x136, x137, x138, x139, x140, x141, x142, x143, x144, x145, x146, x147, x148, x149, x150, x151, x152, x153, x154, x155, x156, x157, x158, x159, x160, x161, x162, x163, x164, x165, x166, x167, x168, x169, x170, x171, x172, x173, x174, x175, x176, x177, x178, x179, x180, x181, x182, x183, x184, x185, x186, x187, x188, x189, x190, x191, x192, x193, x194, x195, x196, x197, x198, x199, x200, x201, x202, x203, x204, x205, x206, x207, x208, x209, x210, x211, x212, x213, x214, x215], defers := [] } w1 := by
  refine ⟨_, rfl, ?_⟩
  have HDB := Lib.hid hdb
  have HDR := Lib.hid (drop_at' hdb)
  have hbb : s[j] = b := by
    have := data_at hlt
    rw [hdb] at this
    exact (Option.some.inj this).symm
  have hj : j ≤ s.size := by omega
  have hji : 0 ≤ (j : Int) ∧ (j : Int) < s.size := by omega
  have c1 := T1.out.c4
  have f1 := T1.out.fz
  have HLT := Lib.hid (rletter_any b)
  have HDG := Lib.hid (rdigit_any b)
  clear hdb
  rw [e1] at HLT
  have hwl := wordE_lett (HDB.out) e1
  have hwo := word_any s (by unfold maxLen; omega) j (by omega)
  have hex := ext_tw s inm j
  have hle := tw_le s inm j (by omega)
  have hnt := named_tw (r := s.data.toList.drop (j + 1)) e1
  rw [← HDR.out] at hnt
  rw [hwl] at hwo
  have hvt : tokB (s.data.toList.drop j) = if Named ((s.data.toList.drop j).takeWhile inm) then some (1, 0, (s.data.toList.drop j).takeWhile inm, ((s.data.toList.drop j).takeWhile inm).length) else none := by
    rw [HDR.out, tokB, if_pos e1]
  generalize (s.data.toList.drop j).takeWhile inm = nm at *
  generalize he : j + nm.length = e at *
  have HX := Lib.hid (ba_of hex)
  have hsz : (s.extract j e).size = nm.length := by rw [ext_size _ hle]; omega
  have HWO := Lib.hid hwo
  have T2 := Lib.hid (T1.out.setK 1)
  have T3 := Lib.hid (T2.out.setS (s.extract j e))
  have D3 := Lib.hid ((D1.out.setCell (p := ⟨wo.heap.size, 0, none⟩) (Nat.le_refl _) (.int .i64 1)).setCell (p := ⟨wo.heap.size, 3, none⟩) (Nat.le_refl _) (.string (s.extract j e)))
  have c2 := T2.out.c4
  have f2 := T2.out.fz
  have c3 := T3.out.c4
  have hje : j ≤ e := by omega
  by_cases h16 : nm.length ≤ 16
  · have h1 : decide (((e - j : Nat) : Int) ≤ 16) = true := decide_eq_true (by omega)
    have h2 : ((e - j : Nat) : Int) ≤ 16 := by omega
    rw [if_pos (hnt.2 h16)] at hvt
    have HTK := Lib.hid hvt
    have HE := Lib.hid he
    clear hwo hex hnt hvt hwl e1 he hsz h16
    go_wp2_with fail
    refine (HLT.out _).mono ?_
    rintro e'' w'' ⟨rfl, rfl⟩
    go_wp2_with fail
    refine (HWO.out _).mono ?_
    rintro e'' w'' ⟨rfl, rfl⟩
    go_wp2_with fail
    exact HK.out _ _ _ _ _ _ _ _ _ _ _ _ _ _ _ _ _ _ _ _ _ _ _ _ _ _ _ _ _ _ _ _ _ _ _ _ _ _ _ _ _ _ _ _ _ _ _ _ _ _ _ _ _ _ _ _ _ _ _ _ _ _ _ _ _ _ _ _ _ _ _ _ _ _ _ _ _ _ _ _ _ _ _ _ _ _ _ _ _ _ _ _ _ _ _ _ _ _ _ _ _ _ _ _ _ _ _ _ _ _ _ _ _ _ _ _ _ _ _ _ _ _ _ _ _ _ _ _ _ _ _ _ _ _ _ _ _ _ _ _ _ _ _ _ _ _ _ _ _ _ _ _ _ _ _ _ _ _ _ _ _ _ _ ⟨_, true, 1, 0, _, rfl, rfl, T3.out, D3.out, by rw [HTK.out]; exact back_some HX.out (by rw [HE.out])⟩
  · have h1 : decide (((e - j : Nat) : Int) ≤ 16) = false := decide_eq_false (by omega)
    have h2 : ¬ ((e - j : Nat) : Int) ≤ 16 := by omega
    rw [if_neg (fun hh => h16 (hnt.1 hh))] at hvt
    have HTK := Lib.hid hvt
    clear hwo hex hnt hvt hwl e1 he hsz h16
    go_wp2_with fail
    refine (HLT.out _).mono ?_
    rintro e'' w'' ⟨rfl, rfl⟩
    go_wp2_with fail
    refine (HWO.out _).mono ?_
    rintro e'' w'' ⟨rfl, rfl⟩
    go_wp2_with fail
    exact HK.out _ _ _ _ _ _ _ _ _ _ _ _ _ _ _ _ _ _ _ _ _ _ _ _ _ _ _ _ _ _ _ _ _ _ _ _ _ _ _ _ _ _ _ _ _ _ _ _ _ _ _ _ _ _ _ _ _ _ _ _ _ _ _ _ _ _ _ _ _ _ _ _ _ _ _ _ _ _ _ _ _ _ _ _ _ _ _ _ _ _ _ _ _ _ _ _ _ _ _ _ _ _ _ _ _ _ _ _ _ _ _ _ _ _ _ _ _ _ _ _ _ _ _ _ _ _ _ _ _ _ _ _ _ _ _ _ _ _ _ _ _ _ _ _ _ _ _ _ _ _ _ _ _ _ _ _ _ _ _ _ _ _ _ ⟨_, false, _, _, _, rfl, rfl, T3.out, D3.out, by rw [HTK.out]; exact back_none⟩

set_option maxRecDepth 100000 in
set_option maxHeartbeats 3200000 in
theorem sw1 {x1 x2 x3 x4 x5 x11 x12 x13 x14 x15 x16 x17 x18 x19 x20 x21 x22 x23 x24 x25 x26 x27 x28 x29 x30 x31 x32 x33 x34 x35 x36 x37 x38 x39 x40 x41 x42 x43 x44 x45 x46 x47 x48 x49 x50 x51 x52 x53 x54 x55 x56 x57 x58 x59 x60 x61 x62 x63 x64 x65 x66 x67 x68 x69 x70 x71 x72 x73 x74 x75 x76 x77 x78 x79 x80 x81 x82 x83 x84 x85 x86 x87 x88 x89 x90 x91 x92 x93 x94 x95 x96 x97 x98 x99 x100 x101 x102 x103 x104 x105 x106 x107 x108 x109 x110 x111 x112 x113 x114 x115 x116 x117 x118 x119 x120 x121 x122 x123 x124 x125 x126 x127 x128 x129 x130 x131 x132 x133 x134 x135 x136 x137 x138 x139 x140 x141 x142 x143 x144 x145 x146 x147 x148 x149 x150 x151 x152 x153 x154 x155 x156 x157 x158 x159 x160 x161 x162 x163 x164 x165 x166 x167 x168 x169 x170 x171 x172 x173 x174 x175 x176 x177 x178 x179 x180 x181 x182 x183 x184 x185 x186 x187 x188 x189 x190 x191 x192 x193 x194 x195 x196 x197 x198 x199 x200 x201 x202 x203 x204 x205 x206 x207 x208 x209 x210 x211 x212 x213 x214 x215 : Value} (s : ByteArray) (hs : s.size ≤ 4096) (wo w1 : World) (j : Nat) (hlt : j < s.size) (b : UInt8) (hdb : s.data.toList[j]? = some b) (T1 : Hid (Tb w1 wo.heap.size 0 (j : Int) 0 ⟨#[]⟩)) (D1 : Hid (Below wo.heap.size wo w1)) (K : Act → World → Prop) (Q : Exit → Act → World → Prop)
    (HK : Hid (∀ (e o n1 n2 n3 y51 y52 y53 y54 y55 y56 y57 y58 y59 y60 y61 y62 y63 y64 y65 y66 y67 y68 y69 y70 y71 y72 y73 y74 y75 y76 y77 y78 y79 y80 y81 y82 y83 y84 y85 y86 y87 y88 y89 y90 y91 y92 y93 y94 y95 y96 y97 y98 y99 y100 y101 y102 y103 y104 y105 y106 y107 y108 y109 y110 y111 y112 y113 y114 y115 y116 y117 y118 y119 y120 y121 y122 y123 y124 y125 y126 y127 y128 y129 y130 y131 y132 y133 y134 y135 y136 y137 y138 y139 y140 y141 y142 y143 y144 y145 y146 y147 y148 y149 y150 y151 y152 y153 y154 y155 y156 y157 y158 y159 y160 y161 y162 y163 y164 y165 y166 y167 y168 y169 y170 y171 y172 y173 y174 y175 y176 y177 y178 y179 y180 y181 y182 y183 y184 y185 y186 y187 y188 y189 y190 y191 y192 y193 y194 y195 y196 y197 y198 y199 y200 y201 y202 y203 y204 y205 y206 y207 : Value) (w3 : World), RCut s wo j e o w3 → K { tmps := #[.string s, x1, x2, x3, x4, x5, .int .i64 (j : Int), .pointer (some ⟨wo.heap.size, 0, none⟩), e, o, .int .u8 (b.toNat : Int), n1, n2, n3, x14, x15, x16, x17, x18, x19, x20, x21, x22, x23, x24, x25, x26, x27, x28, x29, x30, x31, x32, x33, x34, x35, x36, x37, x38, x39, x40, x41, x42, x43, x44, x45, x46, x47, x48, x49, x50, y51, y52, y53, y54, y55, y56, y57, y58, y59, y60, y61, y62, y63, y64, y65, y66, y67, y68, y69, y70, y71, y72, y73, y74, y75, y76, y77, y78, y79, y80, y81, y82, y83, y84, y85, y86, y87, y88, y89, y90, y91, y92, y93, y94, y95, y96, y97, y98, y99, y100, y101, y102, y103, y104, y105, y106, y107, y108, y109, y110, y111, y112, y113, y114, y115, y116, y117, y118, y119, y120, y121, y122, y123, y124, y125, y126, y127, y128, y129, y130, y131, y132, y133, y134, y135, y136, y137, y138, y139, y140, y141, y142, y143, y144, y145, y146, y147, y148, y149, y150, y151, y152, y153, y154, y155, y156, y157, y158, y159, y160, y161, y162, y163, y164, y165, y166, y167, y168, y169, y170, y171, y172, y173, y174, y175, y176, y177, y178, y179, y180, y181, y182, y183, y184, y185, y186, y187, y188, y189, y190, y191, y192, y193, y194, y195, y196, y197, y198, y199, y200, y201, y202, y203, y204, y205, y206, y207, x208, x209, x210, x211, x212, x213, x214, x215], defers := [] } w3)) (e1 : lett b = false) (e2 : dgt b = true) :
    ∃ R, findBlock 4 ((Try.f10.body).getD .skip) = some R ∧ R.wp Try.prog (Exit.then K Q) { tmps := #[.string s, x1, x2, x3, x4, x5, .int .i64 (j : Int), .pointer (some ⟨wo.heap.size, 0, none⟩), .int .i64 ((j : Int) + 1), .bool true, .int .u8 (b.toNat : Int), x11, x12, x13, x14, x15, x16, x17, x18, x19, x20, x21, x22, x23, x24, x25, x26, x27, x28, x29, x30, x31, x32, x33, x34, x35, x36, x37, x38, x39, x40, x41, x42, x43, x44, x45, x46, x47, x48, x49, x50, x51, x52, x53, x54, x55, x56, x57, x58, x59, x60, x61, x62, x63, x64, x65, x66, x67, x68, x69, x70, x71, x72, x73, x74, x75, x76, x77, x78, x79, x80, x81, x82, x83, x84, x85, x86, x87, x88, x89, x90, x91, x92, x93, x94, x95, x96, x97, x98, x99, x100, x101, x102, x103, x104, x105, x106, x107, x108, x109, x110, x111, x112, x113, x114, x115, x116, x117, x118, x119, x120, x121, x122, x123, x124, x125, x126, x127, x128, x129, x130, x131, x132, x133, x134, x135, x136, x137, x138, x139, x140, x141, x142, x143, x144, x145, x146, x147, x148, x149, x150, x151, x152, x153, x154, x155, x156, x157, x158, x159, x160, x161, x162, x163, x164, x165, x166, x167, x168, x169, x170, x171, x172, x173, x174, x175, x176, x177, x178, x179, x180, x181, x182, x183, x184, x185, x186, x187, x188, x189, x190, x191, x192, x193, x194, x195, x196, x197, x198, x199, x200, x201, x202, x203, x204, x205, x206, x207, x208, x209, x210, x211, x212, x213, x214, x215], defers := [] } w1 := by
  refine ⟨_, rfl, ?_⟩
  have HDB := Lib.hid hdb
  have HDR := Lib.hid (drop_at' hdb)
  have hbb : s[j] = b := by
    have := data_at hlt
    rw [hdb] at this
    exact (Option.some.inj this).symm
  have hj : j ≤ s.size := by omega
  have hji : 0 ≤ (j : Int) ∧ (j : Int) < s.size := by omega
  have c1 := T1.out.c4
  have f1 := T1.out.fz
  have HLT := Lib.hid (rletter_any b)
  have HDG := Lib.hid (rdigit_any b)
  clear hdb
  rw [e1] at HLT
  rw [e2] at HDG
  have hwo := rnumber_any s (by omega) (j) (by omega)
  have hvt : tokB (s.data.toList.drop j) = (decD 9223372036854775807 ((s.data.toList.drop j).takeWhile dgt)).map fun (n : Nat) => (2, (n : Int), [], ((s.data.toList.drop j).takeWhile dgt).length) := by
    rw [HDR.out, tokB, if_neg (by rw [e1]; simp), if_pos e2]
  generalize hds : (s.data.toList.drop (j)).takeWhile dgt = ds at *
  have HDS := Lib.hid hds
  have HWO := Lib.hid hwo
  have T2 := Lib.hid (T1.out.setK 2)
  have c2 := T2.out.c4
  have f2 := T2.out.fz
  clear hwo hds
  go_wp2_with (first | (go_at_call 22; refine (HLT.out _).mono ?_; rintro e'' w'' ⟨rfl, rfl⟩) | (go_at_call 24; refine (HDG.out _).mono ?_; rintro e'' w'' ⟨rfl, rfl⟩))
  refine (HWO.out _).mono ?_
  rintro e'' w'' ⟨e', n, ok, rfl, hn, hr, he, hel, rfl⟩
  rw [HDS.out] at hr he
  have HEL := Lib.hid hel
  clear hel
  cases ok with
  | false =>
    rw [numR_no hr (by omega)] at hvt
    have HTK : Hid (tokB (s.data.toList.drop j) = none) := hvt
    clear hvt hr he
    go_wp2_with fail
    exact HK.out _ _ _ _ _ _ _ _ _ _ _ _ _ _ _ _ _ _ _ _ _ _ _ _ _ _ _ _ _ _ _ _ _ _ _ _ _ _ _ _ _ _ _ _ _ _ _ _ _ _ _ _ _ _ _ _ _ _ _ _ _ _ _ _ _ _ _ _ _ _ _ _ _ _ _ _ _ _ _ _ _ _ _ _ _ _ _ _ _ _ _ _ _ _ _ _ _ _ _ _ _ _ _ _ _ _ _ _ _ _ _ _ _ _ _ _ _ _ _ _ _ _ _ _ _ _ _ _ _ _ _ _ _ _ _ _ _ _ _ _ _ _ _ _ _ _ _ _ _ _ _ _ _ _ _ _ _ _ _ _ _ _ _ ⟨_, false, _, _, _, rfl, rfl, T2.out.setN _, (D1.out.setCell (p := ⟨wo.heap.size, 0, none⟩) (Nat.le_refl _) _).setCell (p := ⟨wo.heap.size, 2, none⟩) (Nat.le_refl _) _, by rw [HTK.out]; exact back_none⟩
  | true =>
    have HE := Lib.hid (he rfl)
    clear he
    have hways : (n ≤ 9223372036854775807) ∨ (¬ n ≤ 9223372036854775807) := by omega
    rcases hways with hx | hx
    · rw [numR_yes hr (by omega) hx] at hvt
      have HTK := Lib.hid (show tokB (s.data.toList.drop j) = some (2, (n : Int), [], ds.length) from hvt)
      have hc1 : ((n : Int) < 9223372036854775808) = True := eq_true (by omega)
      have hc2 : decide ((n : Int) < 9223372036854775808) = true := decide_eq_true (by omega)
      have hc3 : IntKind.i64.wrap (n : Int) = (n : Int) := by rw [IntKind.wrap_i64]; omega
      have hc4 : (n : Int) < 9223372036854775808 := by omega
      clear hvt hr hx hn
      have T3 := Lib.hid (T2.out.setN ((n : Int)))
      have D3 := Lib.hid ((D1.out.setCell (p := ⟨wo.heap.size, 0, none⟩) (Nat.le_refl _) (.int .i64 2)).setCell (p := ⟨wo.heap.size, 2, none⟩) (Nat.le_refl _) (.int .i64 ((n : Int))))

      go_wp2_with fail
      exact HK.out _ _ _ _ _ _ _ _ _ _ _ _ _ _ _ _ _ _ _ _ _ _ _ _ _ _ _ _ _ _ _ _ _ _ _ _ _ _ _ _ _ _ _ _ _ _ _ _ _ _ _ _ _ _ _ _ _ _ _ _ _ _ _ _ _ _ _ _ _ _ _ _ _ _ _ _ _ _ _ _ _ _ _ _ _ _ _ _ _ _ _ _ _ _ _ _ _ _ _ _ _ _ _ _ _ _ _ _ _ _ _ _ _ _ _ _ _ _ _ _ _ _ _ _ _ _ _ _ _ _ _ _ _ _ _ _ _ _ _ _ _ _ _ _ _ _ _ _ _ _ _ _ _ _ _ _ _ _ _ _ _ _ _ ⟨_, true, 2, (n : Int), _, rfl, rfl, T3.out, D3.out, by rw [HTK.out]; exact back_some rfl (by have := HE.out; omega)⟩
    · rw [numR_over hr (by omega) (by omega)] at hvt
      have HTK := Lib.hid (show tokB (s.data.toList.drop j) = none from hvt)
      have hc1 : ((n : Int) < 9223372036854775808) = False := eq_false (by omega)
      have hc2 : decide ((n : Int) < 9223372036854775808) = false := decide_eq_false (by omega)
      clear hvt hr hx
      go_wp2_with fail
      exact HK.out _ _ _ _ _ _ _ _ _ _ _ _ _ _ _ _ _ _ _ _ _ _ _ _ _ _ _ _ _ _ _ _ _ _ _ _ _ _ _ _ _ _ _ _ _ _ _ _ _ _ _ _ _ _ _ _ _ _ _ _ _ _ _ _ _ _ _ _ _ _ _ _ _ _ _ _ _ _ _ _ _ _ _ _ _ _ _ _ _ _ _ _ _ _ _ _ _ _ _ _ _ _ _ _ _ _ _ _ _ _ _ _ _ _ _ _ _ _ _ _ _ _ _ _ _ _ _ _ _ _ _ _ _ _ _ _ _ _ _ _ _ _ _ _ _ _ _ _ _ _ _ _ _ _ _ _ _ _ _ _ _ _ _ ⟨_, false, _, _, _, rfl, rfl, T2.out.setN _, (D1.out.setCell (p := ⟨wo.heap.size, 0, none⟩) (Nat.le_refl _) _).setCell (p := ⟨wo.heap.size, 2, none⟩) (Nat.le_refl _) _, by rw [HTK.out]; exact back_none⟩
end Go.Proofs.Ytpedfkigneahgaa
