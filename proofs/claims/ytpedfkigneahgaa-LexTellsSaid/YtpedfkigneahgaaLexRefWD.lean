/- The reference's Lex: the switch, ways [6]. -/
import Derived.Test.YtpedfkigneahgaaLexRefM
namespace Go.Proofs.Ytpedfkigneahgaa
set_option linter.unusedVariables false
open Go.RowKit

set_option maxRecDepth 100000 in
set_option maxHeartbeats 3200000 in
theorem sw6 {x1 x2 x3 x4 x5 x11 x12 x13 x14 x15 x16 x17 x18 x19 x20 x21 x22 x23 x24 x25 x26 x27 x28 x29 x30 x31 x32 x33 x34 x35 x36 x37 x38 x39 x40 x41 x42 x43 x44 x45 x46 x47 x48 x49 x50 x51 x52 x53 x54 x55 x56 x57 x58 x59 x60 x61 x62 x63 x64 x65 x66 x67 x68 x69 x70 x71 x72 x73 x74 x75 x76 x77 x78 x79 x80 x81 x82 x83 x84 x85 x86 x87 x88 x89 x90 x91 x92 x93 x94 x95 x96 x97 x98 x99 x100 x101 x102 x103 x104 x105 x106 x107 x108 x109 x110 x111 x112 x113 x114 x115 x116 x117 x118 x119 x120 x121 x122 x123 x124 x125 x126 x127 x128 x129 x130 x131 x132 x133 x134 x135 x136 x137 x138 x139 x140 x141 x142 x143 x144 x145 x146 x147 x148 x149 x150 x151 x152 x153 x154 x155 x156 x157 x158 x159 x160 x161 x162 x163 x164 x165 x166 x167 x168 x169 x170 x171 x172 x173 x174 x175 x176 x177 x178 x179 x180 x181 x182 x183 x184 x185 x186 x187 x188 x189 x190 x191 x192 x193 x194 x195 x196 x197 x198 x199 x200 x201 x202 x203 x204 x205 x206 x207 x208 x209 x210 x211 x212 x213 x214 x215 : Value} (s : ByteArray) (hs : s.size ≤ 4096) (wo w1 : World) (j : Nat) (hlt : j < s.size) (b : UInt8) (hdb : s.data.toList[j]? = some b) (T1 : Hid (Tb w1 wo.heap.size 0 (j : Int) 0 ⟨#[]⟩)) (D1 : Hid (Below wo.heap.size wo w1)) (K : Act → World → Prop) (Q : Exit → Act → World → Prop)
    (HK : Hid (∀ (e o n1 n2 n3 y51 y52 y53 y54 y55 y56 y57 y58 y59 y60 y61 y62 y63 y64 y65 y66 y67 y68 y69 y70 y71 y72 y73 y74 y75 y76 y77 y78 y79 y80 y81 y82 y83 y84 y85 y86 y87 y88 y89 y90 y91 y92 y93 y94 y95 y96 y97 y98 y99 y100 y101 y102 y103 y104 y105 y106 y107 y108 y109 y110 y111 y112 y113 y114 y115 y116 y117 y118 y119 y120 y121 y122 y123 y124 y125 y126 y127 y128 y129 y130 y131 y132 y133 y134 y135 y136 y137 y138 y139 y140 y141 y142 y143 y144 y145 y146 y147 y148 y149 y150 y151 y152 y153 y154 y155 y156 y157 y158 y159 y160 y161 y162 y163 y164 y165 y166 y167 y168 y169 y170 y171 y172 y173 y174 y175 y176 y177 y178 y179 y180 y181 y182 y183 y184 y185 y186 y187 y188 y189 y190 y191 y192 y193 y194 y195 y196 y197 y198 y199 y200 y201 y202 y203 y204 y205 y206 y207 : Value) (w3 : World), RCut s wo j e o w3 → K { tmps := #[.string s, x1, x2, x3, x4, x5, .int .i64 (j : Int), .pointer (some ⟨wo.heap.size, 0, none⟩), e, o, .int .u8 (b.toNat : Int), n1, n2, n3, x14, x15, x16, x17, x18, x19, x20, x21, x22, x23, x24, x25, x26, x27, x28, x29, x30, x31, x32, x33, x34, x35, x36, x37, x38, x39, x40, x41, x42, x43, x44, x45, x46, x47, x48, x49, x50, y51, y52, y53, y54, y55, y56, y57, y58, y59, y60, y61, y62, y63, y64, y65, y66, y67, y68, y69, y70, y71, y72, y73, y74, y75, y76, y77, y78, y79, y80, y81, y82, y83, y84, y85, y86, y87, y88, y89, y90, y91, y92, y93, y94, y95, y96, y97, y98, y99, y100, y101, y102, y103, y104, y105, y106, y107, y108, y109, y110, y111, y112, y113, y114, y115, y116, y117, y118, y119, y120, y121, y122, y123, y124, y125, y126, y127, y128, y129, y130, y131, y132, y133, y134, y135, y136, y137, y138, y139, y140, y141, y142, y143, y144, y145, y146, y147, y148, y149, y150, y151, y152, y153, y154, y155, y156, y157, y158, y159, y160, y161, y162, y163, y164, y165, y166, y167, y168, y169, y170, y171, y172, y173, y174, y175, y176, y177, y178, y179, y180, y181, y182, y183, y184, y185, y186, y187, y188, y189, y190, y191, y192, y193, y194, y195, y196, y197, y198, y199, y200, y201, y202, y203, y204, y205, y206, y207, x208, x209, x210, x211, x212, x213, x214, x215], defers := [] } w3)) (e1 : lett b = false) (e2 : dgt b = false) (e3 : ((b.toNat : Int) == 45) = false) (e4 : ((b.toNat : Int) == 64) = false) (e5 : ((b.toNat : Int) == 35) = false) (e6 : ((b.toNat : Int) == 34) = false) :
    ∃ R, findBlock 4 ((Try.f10.body).getD .skip) = some R ∧ R.wp Try.prog (Exit.then K Q) { tmps := #[.string s, x1, x2, x3, x4, x5, .int .i64 (j : Int), .pointer (some ⟨wo.heap.size, 0, none⟩), .int .i64 ((j : Int) + 1), .bool true, .int .u8 (b.toNat : Int), x11, x12, x13, x14, x15, x16, x17, x18, x19, x20, x21, x22, x23, x24, x25, x26, x27, x28, x29, x30, x31, x32, x33, x34, x35, x36, x37, x38, x39, x40, x41, x42, x43, x44, x45, x46, x47, x48, x49, x50, x51, x52, x53, x54, x55, x56, x57, x58, x59, x60, x61, x62, x63, x64, x65, x66, x67, x68, x69, x70, x71, x72, x73, x74, x75, x76, x77, x78, x79, x80, x81, x82, x83, x84, x85, x86, x87, x88, x89, x90, x91, x92, x93, x94, x95, x96, x97, x98, x99, x100, x101, x102, x103, x104, x105, x106, x107, x108, x109, x110, x111, x112, x113, x114, x115, x116, x117, x118, x119, x120, x121, x122, x123, x124, x125, x126, x127, x128, x129, x130, x131, x132, x133, x134, x135, x136, x137, x138, x139, x140, x141, x142, x143, x144, x145, x146, x147, x148, x149, x150, x151, x152, x153, x154, x155, x156, x157, x158, x159, x160, x161, x162, x163, x164, x165, x166, x167, x168, x169, x170, x171, x172, x173, x174, x175, x176, x177, x178, x179, x180, x181, x182, x183, x184, x185, x186, x187, x188, x189, x190, x191, x192, x193, x194, x195, x196, x197, x198, x199, x200, x201, x202, x203, x204, x205, x206, x207, x208, x209, x210, x211, x212, x213, x214, x215], defers := [] } w1 := by
  refine ⟨_, rfl, ?_⟩
  have HDB := Lib.hid hdb
  have HDR := Lib.hid (drop_at' hdb)
  have hbb : s[j] = b := by
    have := data_at hlt
    rw [hdb] at this
    exact (Option.some.inj this).symm
  have hj : j ≤ s.size := by omega
  have hji : 0 ≤ (j : Int) ∧ (j : Int) < s.size := by omega
  have c1 := T1.out.c4
  have f1 := T1.out.fz
  have HLT := Lib.hid (rletter_any b)
  have HDG := Lib.hid (rdigit_any b)
  clear hdb
  rw [e1] at HLT
  rw [e2] at HDG
  have hno : b ≠ 45 ∧ b ≠ 64 ∧ b ≠ 35 ∧ b ≠ 34 := by
    rw [beq_eq_false_iff_ne] at e3 e4 e5 e6
    refine ⟨?_, ?_, ?_, ?_⟩ <;> rintro rfl
    · exact e3 rfl
    · exact e4 rfl
    · exact e5 rfl
    · exact e6 rfl
  have hvt : tokB (s.data.toList.drop j) = if mrk b = true then some (6, 0, [b], 1) else none := by
    rw [HDR.out, tokB, if_neg (by rw [e1]; simp), if_neg (by rw [e2]; simp), if_neg hno.1, if_neg hno.2.1, if_neg hno.2.2.1, if_neg hno.2.2.2]
  have eqb : ∀ q : UInt8, ((b.toNat : Int) == (q.toNat : Int)) = decide (b = q) := fun q => by
    rw [Bool.eq_iff_iff, beq_iff_eq, decide_eq_true_iff]
    exact ⟨fun h => UInt8.toNat_inj.1 (by omega), fun h => by rw [h]⟩
  clear hno
  cases hmk : mrk b with
  | true =>
    rw [hmk, if_pos rfl] at hvt
    have HTK := Lib.hid hvt
    have HMK := Lib.hid hmk
    clear hvt hmk
    go_upto_region 45 with (first | (go_at_call 22; refine (HLT.out _).mono ?_; rintro e'' w'' ⟨rfl, hh⟩; obtain rfl := hh.symm) | (go_at_call 24; refine (HDG.out _).mono ?_; rintro e'' w'' ⟨rfl, hh⟩; obtain rfl := hh.symm))
    go_cut [160] from 160 to 203 (fun u wx => u = .bool true ∧ wx = w1)
    case first =>
      have hw := mrk_ways b
      rw [HMK.out] at hw
      rcases hw with hb | hb | hb | hb | hb | hb | hb | hb | hb | hb | hb | hb
      · have q0 : ((b.toNat : Int) == 123) = true := by rw [show ((b.toNat : Int) == 123) = decide (b = 123) from eqb 123, hb]; decide
        clear eqb hb
        go_wp2_with fail
        go_meet
        exact ⟨rfl, rfl⟩
      · have q0 : ((b.toNat : Int) == 123) = false := by rw [show ((b.toNat : Int) == 123) = decide (b = 123) from eqb 123, hb]; decide
        have q1 : ((b.toNat : Int) == 125) = true := by rw [show ((b.toNat : Int) == 125) = decide (b = 125) from eqb 125, hb]; decide
        clear eqb hb
        go_wp2_with fail
        go_meet
        exact ⟨rfl, rfl⟩
      · have q0 : ((b.toNat : Int) == 123) = false := by rw [show ((b.toNat : Int) == 123) = decide (b = 123) from eqb 123, hb]; decide
        have q1 : ((b.toNat : Int) == 125) = false := by rw [show ((b.toNat : Int) == 125) = decide (b = 125) from eqb 125, hb]; decide
        have q2 : ((b.toNat : Int) == 40) = true := by rw [show ((b.toNat : Int) == 40) = decide (b = 40) from eqb 40, hb]; decide
        clear eqb hb
        go_wp2_with fail
        go_meet
        exact ⟨rfl, rfl⟩
      · have q0 : ((b.toNat : Int) == 123) = false := by rw [show ((b.toNat : Int) == 123) = decide (b = 123) from eqb 123, hb]; decide
        have q1 : ((b.toNat : Int) == 125) = false := by rw [show ((b.toNat : Int) == 125) = decide (b = 125) from eqb 125, hb]; decide
        have q2 : ((b.toNat : Int) == 40) = false := by rw [show ((b.toNat : Int) == 40) = decide (b = 40) from eqb 40, hb]; decide
        have q3 : ((b.toNat : Int) == 41) = true := by rw [show ((b.toNat : Int) == 41) = decide (b = 41) from eqb 41, hb]; decide
        clear eqb hb
        go_wp2_with fail
        go_meet
        exact ⟨rfl, rfl⟩
      · have q0 : ((b.toNat : Int) == 123) = false := by rw [show ((b.toNat : Int) == 123) = decide (b = 123) from eqb 123, hb]; decide
        have q1 : ((b.toNat : Int) == 125) = false := by rw [show ((b.toNat : Int) == 125) = decide (b = 125) from eqb 125, hb]; decide
        have q2 : ((b.toNat : Int) == 40) = false := by rw [show ((b.toNat : Int) == 40) = decide (b = 40) from eqb 40, hb]; decide
        have q3 : ((b.toNat : Int) == 41) = false := by rw [show ((b.toNat : Int) == 41) = decide (b = 41) from eqb 41, hb]; decide
        have q4 : ((b.toNat : Int) == 46) = true := by rw [show ((b.toNat : Int) == 46) = decide (b = 46) from eqb 46, hb]; decide
        clear eqb hb
        go_wp2_with fail
        go_meet
        exact ⟨rfl, rfl⟩
      · have q0 : ((b.toNat : Int) == 123) = false := by rw [show ((b.toNat : Int) == 123) = decide (b = 123) from eqb 123, hb]; decide
        have q1 : ((b.toNat : Int) == 125) = false := by rw [show ((b.toNat : Int) == 125) = decide (b = 125) from eqb 125, hb]; decide
        have q2 : ((b.toNat : Int) == 40) = false := by rw [show ((b.toNat : Int) == 40) = decide (b = 40) from eqb 40, hb]; decide
        have q3 : ((b.toNat : Int) == 41) = false := by rw [show ((b.toNat : Int) == 41) = decide (b = 41) from eqb 41, hb]; decide
        have q4 : ((b.toNat : Int) == 46) = false := by rw [show ((b.toNat : Int) == 46) = decide (b = 46) from eqb 46, hb]; decide
        have q5 : ((b.toNat : Int) == 44) = true := by rw [show ((b.toNat : Int) == 44) = decide (b = 44) from eqb 44, hb]; decide
        clear eqb hb
        go_wp2_with fail
        go_meet
        exact ⟨rfl, rfl⟩
      · have q0 : ((b.toNat : Int) == 123) = false := by rw [show ((b.toNat : Int) == 123) = decide (b = 123) from eqb 123, hb]; decide
        have q1 : ((b.toNat : Int) == 125) = false := by rw [show ((b.toNat : Int) == 125) = decide (b = 125) from eqb 125, hb]; decide
        have q2 : ((b.toNat : Int) == 40) = false := by rw [show ((b.toNat : Int) == 40) = decide (b = 40) from eqb 40, hb]; decide
        have q3 : ((b.toNat : Int) == 41) = false := by rw [show ((b.toNat : Int) == 41) = decide (b = 41) from eqb 41, hb]; decide
        have q4 : ((b.toNat : Int) == 46) = false := by rw [show ((b.toNat : Int) == 46) = decide (b = 46) from eqb 46, hb]; decide
        have q5 : ((b.toNat : Int) == 44) = false := by rw [show ((b.toNat : Int) == 44) = decide (b = 44) from eqb 44, hb]; decide
        have q6 : ((b.toNat : Int) == 59) = true := by rw [show ((b.toNat : Int) == 59) = decide (b = 59) from eqb 59, hb]; decide
        clear eqb hb
        go_wp2_with fail
        go_meet
        exact ⟨rfl, rfl⟩
      · have q0 : ((b.toNat : Int) == 123) = false := by rw [show ((b.toNat : Int) == 123) = decide (b = 123) from eqb 123, hb]; decide
        have q1 : ((b.toNat : Int) == 125) = false := by rw [show ((b.toNat : Int) == 125) = decide (b = 125) from eqb 125, hb]; decide
        have q2 : ((b.toNat : Int) == 40) = false := by rw [show ((b.toNat : Int) == 40) = decide (b = 40) from eqb 40, hb]; decide
        have q3 : ((b.toNat : Int) == 41) = false := by rw [show ((b.toNat : Int) == 41) = decide (b = 41) from eqb 41, hb]; decide
        have q4 : ((b.toNat : Int) == 46) = false := by rw [show ((b.toNat : Int) == 46) = decide (b = 46) from eqb 46, hb]; decide
        have q5 : ((b.toNat : Int) == 44) = false := by rw [show ((b.toNat : Int) == 44) = decide (b = 44) from eqb 44, hb]; decide
        have q6 : ((b.toNat : Int) == 59) = false := by rw [show ((b.toNat : Int) == 59) = decide (b = 59) from eqb 59, hb]; decide
        have q7 : ((b.toNat : Int) == 61) = true := by rw [show ((b.toNat : Int) == 61) = decide (b = 61) from eqb 61, hb]; decide
        clear eqb hb
        go_wp2_with fail
        go_meet
        exact ⟨rfl, rfl⟩
      · have q0 : ((b.toNat : Int) == 123) = false := by rw [show ((b.toNat : Int) == 123) = decide (b = 123) from eqb 123, hb]; decide
        have q1 : ((b.toNat : Int) == 125) = false := by rw [show ((b.toNat : Int) == 125) = decide (b = 125) from eqb 125, hb]; decide
        have q2 : ((b.toNat : Int) == 40) = false := by rw [show ((b.toNat : Int) == 40) = decide (b = 40) from eqb 40, hb]; decide
        have q3 : ((b.toNat : Int) == 41) = false := by rw [show ((b.toNat : Int) == 41) = decide (b = 41) from eqb 41, hb]; decide
        have q4 : ((b.toNat : Int) == 46) = false := by rw [show ((b.toNat : Int) == 46) = decide (b = 46) from eqb 46, hb]; decide
        have q5 : ((b.toNat : Int) == 44) = false := by rw [show ((b.toNat : Int) == 44) = decide (b = 44) from eqb 44, hb]; decide
        have q6 : ((b.toNat : Int) == 59) = false := by rw [show ((b.toNat : Int) == 59) = decide (b = 59) from eqb 59, hb]; decide
        have q7 : ((b.toNat : Int) == 61) = false := by rw [show ((b.toNat : Int) == 61) = decide (b = 61) from eqb 61, hb]; decide
        have q8 : ((b.toNat : Int) == 60) = true := by rw [show ((b.toNat : Int) == 60) = decide (b = 60) from eqb 60, hb]; decide
        clear eqb hb
        go_wp2_with fail
        go_meet
        exact ⟨rfl, rfl⟩
      · have q0 : ((b.toNat : Int) == 123) = false := by rw [show ((b.toNat : Int) == 123) = decide (b = 123) from eqb 123, hb]; decide
        have q1 : ((b.toNat : Int) == 125) = false := by rw [show ((b.toNat : Int) == 125) = decide (b = 125) from eqb 125, hb]; decide
        have q2 : ((b.toNat : Int) == 40) = false := by rw [show ((b.toNat : Int) == 40) = decide (b = 40) from eqb 40, hb]; decide
        have q3 : ((b.toNat : Int) == 41) = false := by rw [show ((b.toNat : Int) == 41) = decide (b = 41) from eqb 41, hb]; decide
        have q4 : ((b.toNat : Int) == 46) = false := by rw [show ((b.toNat : Int) == 46) = decide (b = 46) from eqb 46, hb]; decide
        have q5 : ((b.toNat : Int) == 44) = false := by rw [show ((b.toNat : Int) == 44) = decide (b = 44) from eqb 44, hb]; decide
        have q6 : ((b.toNat : Int) == 59) = false := by rw [show ((b.toNat : Int) == 59) = decide (b = 59) from eqb 59, hb]; decide
        have q7 : ((b.toNat : Int) == 61) = false := by rw [show ((b.toNat : Int) == 61) = decide (b = 61) from eqb 61, hb]; decide
        have q8 : ((b.toNat : Int) == 60) = false := by rw [show ((b.toNat : Int) == 60) = decide (b = 60) from eqb 60, hb]; decide
        have q9 : ((b.toNat : Int) == 62) = true := by rw [show ((b.toNat : Int) == 62) = decide (b = 62) from eqb 62, hb]; decide
        clear eqb hb
        go_wp2_with fail
        go_meet
        exact ⟨rfl, rfl⟩
      · have q0 : ((b.toNat : Int) == 123) = false := by rw [show ((b.toNat : Int) == 123) = decide (b = 123) from eqb 123, hb]; decide
        have q1 : ((b.toNat : Int) == 125) = false := by rw [show ((b.toNat : Int) == 125) = decide (b = 125) from eqb 125, hb]; decide
        have q2 : ((b.toNat : Int) == 40) = false := by rw [show ((b.toNat : Int) == 40) = decide (b = 40) from eqb 40, hb]; decide
        have q3 : ((b.toNat : Int) == 41) = false := by rw [show ((b.toNat : Int) == 41) = decide (b = 41) from eqb 41, hb]; decide
        have q4 : ((b.toNat : Int) == 46) = false := by rw [show ((b.toNat : Int) == 46) = decide (b = 46) from eqb 46, hb]; decide
        have q5 : ((b.toNat : Int) == 44) = false := by rw [show ((b.toNat : Int) == 44) = decide (b = 44) from eqb 44, hb]; decide
        have q6 : ((b.toNat : Int) == 59) = false := by rw [show ((b.toNat : Int) == 59) = decide (b = 59) from eqb 59, hb]; decide
        have q7 : ((b.toNat : Int) == 61) = false := by rw [show ((b.toNat : Int) == 61) = decide (b = 61) from eqb 61, hb]; decide
        have q8 : ((b.toNat : Int) == 60) = false := by rw [show ((b.toNat : Int) == 60) = decide (b = 60) from eqb 60, hb]; decide
        have q9 : ((b.toNat : Int) == 62) = false := by rw [show ((b.toNat : Int) == 62) = decide (b = 62) from eqb 62, hb]; decide
        have q10 : ((b.toNat : Int) == 33) = true := by rw [show ((b.toNat : Int) == 33) = decide (b = 33) from eqb 33, hb]; decide
        clear eqb hb
        go_wp2_with fail
        go_meet
        exact ⟨rfl, rfl⟩
      · cases hb
    case rest =>
      obtain ⟨rfl, hh⟩ := hcut
      obtain rfl := hh.symm
      clear eqb
      go_wp2_with fail
      have hgl := T1.out.lt
      have hob := Ob.made w1 5 #[.int .u8 (b.toNat : Int)]
      have hob2 := Ob.keep hob (w' := (w1.alloc (.cells #[.int .u8 (b.toNat : Int)] 5)).setCell ⟨wo.heap.size, 0, none⟩ (.int .i64 6)) (Below.heap_setCell _ ⟨wo.heap.size, 0, none⟩ _ _ (by show _ ≠ wo.heap.size; omega))
      have hob3 := Ob.made (w1.setCell ⟨wo.heap.size, 0, none⟩ (.int .i64 6)) 5 #[.int .u8 (b.toNat : Int)]
      rw [size_set] at hob3
      have hca := conv_ob b hob.drew
      have hcb := conv_ob b hob2.drew
      have hcc := conv_ob b hob3.drew
      have TA := Lib.hid (T1.out.alloc (.cells #[.int .u8 (b.toNat : Int)] 5))
      have TA2 := Lib.hid (TA.out.setK 6)
      have TB := Lib.hid (T1.out.setK 6)
      have TB2 := Lib.hid (TB.out.alloc (.cells #[.int .u8 (b.toNat : Int)] 5))
      have ca := TA.out.c4
      have fa := TA.out.fz
      have ca2 := TA2.out.c4
      have fa2 := TA2.out.fz
      have cb2 := TB2.out.c4
      have fb2 := TB2.out.fz
      have da := TA.out.drew.c4
      have ea := TA.out.drew.fz
      have da2 := TA2.out.drew.c4
      have ea2 := TA2.out.drew.fz
      have db2 := TB2.out.drew.c4
      have eb2 := TB2.out.drew.fz
      clear hgl hob hob2 hob3
      go_region
      · have T3 := Lib.hid ((TA2.out.setS ⟨#[b]⟩).drew)
        have D3 : Hid (Below wo.heap.size wo ((((w1.alloc (.cells #[.int .u8 (b.toNat : Int)] 5)).setCell ⟨wo.heap.size, 0, none⟩ (.int .i64 6)).setCell ⟨wo.heap.size, 3, none⟩ (.string ⟨#[b]⟩)).drew)) := below_drewN (((D1.out.alloc D1.out.size (.cells #[.int .u8 (b.toNat : Int)] 5)).setCell (p := ⟨wo.heap.size, 0, none⟩) (Nat.le_refl _) (.int .i64 6)).setCell (p := ⟨wo.heap.size, 3, none⟩) (Nat.le_refl _) (.string ⟨#[b]⟩)) 1
        obtain ⟨w3, hw3⟩ : ∃ w3, w3 = (((w1.alloc (.cells #[.int .u8 (b.toNat : Int)] 5)).setCell ⟨wo.heap.size, 0, none⟩ (.int .i64 6)).setCell ⟨wo.heap.size, 3, none⟩ (.string ⟨#[b]⟩)).drew := ⟨_, rfl⟩
        rw [← hw3] at T3 D3 ⊢
        clear hw3 ca fa ca2 fa2 cb2 fb2 da ea da2 ea2 db2 eb2 hca hcb hcc
        go_wp2_with fail
        exact HK.out _ _ _ _ _ _ _ _ _ _ _ _ _ _ _ _ _ _ _ _ _ _ _ _ _ _ _ _ _ _ _ _ _ _ _ _ _ _ _ _ _ _ _ _ _ _ _ _ _ _ _ _ _ _ _ _ _ _ _ _ _ _ _ _ _ _ _ _ _ _ _ _ _ _ _ _ _ _ _ _ _ _ _ _ _ _ _ _ _ _ _ _ _ _ _ _ _ _ _ _ _ _ _ _ _ _ _ _ _ _ _ _ _ _ _ _ _ _ _ _ _ _ _ _ _ _ _ _ _ _ _ _ _ _ _ _ _ _ _ _ _ _ _ _ _ _ _ _ _ _ _ _ _ _ _ _ _ _ _ _ _ _ _ ⟨_, true, 6, 0, _, rfl, rfl, T3.out, D3.out, by rw [HTK.out]; exact back_some rfl (by omega)⟩
      · have T3 := Lib.hid ((TB2.out.setS ⟨#[b]⟩).drew)
        have D3 : Hid (Below wo.heap.size wo ((((w1.setCell ⟨wo.heap.size, 0, none⟩ (.int .i64 6)).alloc (.cells #[.int .u8 (b.toNat : Int)] 5)).setCell ⟨wo.heap.size, 3, none⟩ (.string ⟨#[b]⟩)).drew)) := below_drewN (((D1.out.setCell (p := ⟨wo.heap.size, 0, none⟩) (Nat.le_refl _) (.int .i64 6)).alloc (by rw [size_set]; exact D1.out.size) (.cells #[.int .u8 (b.toNat : Int)] 5)).setCell (p := ⟨wo.heap.size, 3, none⟩) (Nat.le_refl _) (.string ⟨#[b]⟩)) 1
        obtain ⟨w3, hw3⟩ : ∃ w3, w3 = (((w1.setCell ⟨wo.heap.size, 0, none⟩ (.int .i64 6)).alloc (.cells #[.int .u8 (b.toNat : Int)] 5)).setCell ⟨wo.heap.size, 3, none⟩ (.string ⟨#[b]⟩)).drew := ⟨_, rfl⟩
        rw [← hw3] at T3 D3 ⊢
        clear hw3 ca fa ca2 fa2 cb2 fb2 da ea da2 ea2 db2 eb2 hca hcb hcc
        go_wp2_with fail
        exact HK.out _ _ _ _ _ _ _ _ _ _ _ _ _ _ _ _ _ _ _ _ _ _ _ _ _ _ _ _ _ _ _ _ _ _ _ _ _ _ _ _ _ _ _ _ _ _ _ _ _ _ _ _ _ _ _ _ _ _ _ _ _ _ _ _ _ _ _ _ _ _ _ _ _ _ _ _ _ _ _ _ _ _ _ _ _ _ _ _ _ _ _ _ _ _ _ _ _ _ _ _ _ _ _ _ _ _ _ _ _ _ _ _ _ _ _ _ _ _ _ _ _ _ _ _ _ _ _ _ _ _ _ _ _ _ _ _ _ _ _ _ _ _ _ _ _ _ _ _ _ _ _ _ _ _ _ _ _ _ _ _ _ _ _ ⟨_, true, 6, 0, _, rfl, rfl, T3.out, D3.out, by rw [HTK.out]; exact back_some rfl (by omega)⟩
  | false =>
    rw [hmk, if_neg (by simp)] at hvt
    have HTK := Lib.hid hvt
    have q0 : ((b.toNat : Int) == 123) = false := by rw [show ((b.toNat : Int) == 123) = decide (b = 123) from eqb 123, decide_eq_false_iff_not]; intro hh; rw [hh] at hmk; revert hmk; decide
    have q1 : ((b.toNat : Int) == 125) = false := by rw [show ((b.toNat : Int) == 125) = decide (b = 125) from eqb 125, decide_eq_false_iff_not]; intro hh; rw [hh] at hmk; revert hmk; decide
    have q2 : ((b.toNat : Int) == 40) = false := by rw [show ((b.toNat : Int) == 40) = decide (b = 40) from eqb 40, decide_eq_false_iff_not]; intro hh; rw [hh] at hmk; revert hmk; decide
    have q3 : ((b.toNat : Int) == 41) = false := by rw [show ((b.toNat : Int) == 41) = decide (b = 41) from eqb 41, decide_eq_false_iff_not]; intro hh; rw [hh] at hmk; revert hmk; decide
    have q4 : ((b.toNat : Int) == 46) = false := by rw [show ((b.toNat : Int) == 46) = decide (b = 46) from eqb 46, decide_eq_false_iff_not]; intro hh; rw [hh] at hmk; revert hmk; decide
    have q5 : ((b.toNat : Int) == 44) = false := by rw [show ((b.toNat : Int) == 44) = decide (b = 44) from eqb 44, decide_eq_false_iff_not]; intro hh; rw [hh] at hmk; revert hmk; decide
    have q6 : ((b.toNat : Int) == 59) = false := by rw [show ((b.toNat : Int) == 59) = decide (b = 59) from eqb 59, decide_eq_false_iff_not]; intro hh; rw [hh] at hmk; revert hmk; decide
    have q7 : ((b.toNat : Int) == 61) = false := by rw [show ((b.toNat : Int) == 61) = decide (b = 61) from eqb 61, decide_eq_false_iff_not]; intro hh; rw [hh] at hmk; revert hmk; decide
    have q8 : ((b.toNat : Int) == 60) = false := by rw [show ((b.toNat : Int) == 60) = decide (b = 60) from eqb 60, decide_eq_false_iff_not]; intro hh; rw [hh] at hmk; revert hmk; decide
    have q9 : ((b.toNat : Int) == 62) = false := by rw [show ((b.toNat : Int) == 62) = decide (b = 62) from eqb 62, decide_eq_false_iff_not]; intro hh; rw [hh] at hmk; revert hmk; decide
    have q10 : ((b.toNat : Int) == 33) = false := by rw [show ((b.toNat : Int) == 33) = decide (b = 33) from eqb 33, decide_eq_false_iff_not]; intro hh; rw [hh] at hmk; revert hmk; decide
    clear hvt eqb hmk
    have D3 := D1
    have T3 := T1
    go_wp2_with (first | (go_at_call 22; refine (HLT.out _).mono ?_; rintro e'' w'' ⟨rfl, hh⟩; obtain rfl := hh.symm) | (go_at_call 24; refine (HDG.out _).mono ?_; rintro e'' w'' ⟨rfl, hh⟩; obtain rfl := hh.symm))
    exact HK.out _ _ _ _ _ _ _ _ _ _ _ _ _ _ _ _ _ _ _ _ _ _ _ _ _ _ _ _ _ _ _ _ _ _ _ _ _ _ _ _ _ _ _ _ _ _ _ _ _ _ _ _ _ _ _ _ _ _ _ _ _ _ _ _ _ _ _ _ _ _ _ _ _ _ _ _ _ _ _ _ _ _ _ _ _ _ _ _ _ _ _ _ _ _ _ _ _ _ _ _ _ _ _ _ _ _ _ _ _ _ _ _ _ _ _ _ _ _ _ _ _ _ _ _ _ _ _ _ _ _ _ _ _ _ _ _ _ _ _ _ _ _ _ _ _ _ _ _ _ _ _ _ _ _ _ _ _ _ _ _ _ _ _ ⟨_, false, _, _, _, rfl, rfl, T3.out, D3.out, by rw [HTK.out]; exact back_none⟩
end Go.Proofs.Ytpedfkigneahgaa
