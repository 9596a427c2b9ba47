/- Plain facts, and what functions give, for the proofs of this seat: several texts in one, each with its own first remark. -/
import Derived.StillTailTactics
import Derived.Test.YtmgfkdmjgjlkjaaGreatAd

namespace Go.Proofs.YtmgfkdmjgjlkjaaGreat
open Go.RowKit
set_option linter.unusedVariables false
set_option linter.unusedSimpArgs false
set_option maxRecDepth 100000 in
set_option maxHeartbeats 2000000 in
theorem rgPush_any (g n : Nat) (ps : List Pk) (D : Nat → Prop) (p : Pk) (a : Option Addr) (c : Nat) (w : World) (h : RgAt w g n ps D) (hp : PlAt w (fun j => j ≠ g) a p.pl.length c p.pl) (hl : p.pl.length ≤ 1000000) (hN : ps.length ≤ 1000000) :
    Calls Tryz.prog 31 #[.pointer (some ⟨g, 0, none⟩), .agg (pkC p a p.pl.length c)] w fun e w' => e = .returned (.int .i64 ps.length) ∧ RgAt w' g n (ps ++ [p]) (fun j => D j ∨ w.heap.size ≤ j) ∧ Keeps (fun j => j = g) w w' := by
  have hgl := h.lt
  obtain ⟨n1, n2, hg, cs, hc, hr⟩ := h
  have HG := Lib.hid hg
  have HR := Lib.hid hr
  obtain ⟨m, hm⟩ : ∃ m, ps.length = m := ⟨_, rfl⟩
  have HM := Lib.hid hm
  have k0 : w.cell? ⟨g, 0, none⟩ = some (.int .i64 n) := by rw [hc.cell]; exact hr.room
  have k1 : w.cell? ⟨g, 1, none⟩ = some (.int .i64 m) := by rw [hc.cell, ← hm]; exact hr.next
  have f1 := hc.frozen 1
  have e1 : IntKind.i64.wrap ((m : Int) + 1) = (m : Int) + 1 := IntWalk.i64_in _ (by omega)
  have q0 : decide ((0 : Int) < (n : Int)) = true := by simp; omega
  rw [hm] at hN ⊢
  have HCp : RowKit.Hid (∀ W, Keeps (fun j => j = g) w W → Calls Tryz.prog 65 #[.agg (pkC p a p.pl.length c)] W fun e w' => ∃ a2 c2, e = .returned (.agg (pkC p a2 p.pl.length c2)) ∧ w'.ownsRow W.heap.size 5 1 (.slice a2 p.pl.length c2) p.pl.length (p.pl.map (Value.int .u8)) ∧ Below W.heap.size W w') :=
    fun W hW => rgCopied_any p a c W ((hp.keeps hW fun j e hj => hj e).weaken fun _ _ _ => trivial) hl
  obtain ⟨l, hl2⟩ : ∃ l, p.pl.length = l := ⟨_, rfl⟩
  have HL := Lib.hid hl2
  unfold pkC at HCp ⊢
  rw [hl2] at hl HCp ⊢
  obtain ⟨W2, hW2⟩ : ∃ W2, (w.setCell ⟨g, 1, none⟩ (.int .i64 ((m : Int) + 1))).alloc (.cells #[.int .u32 p.ep, .int .u32 p.nu, .bool p.wh, .slice a l c] 45) = W2 := ⟨_, rfl⟩
  have hk2 : Keeps (fun j => j = g) w W2 := by rw [← hW2]; exact (((Keeps.refl (fun j => j = g) w).setCell (p := ⟨g, 1, none⟩) (.inl rfl) _).alloc _)
  have hc2 : Cel W2 g 130 (cs.setIfInBounds 1 (.int .i64 ((m : Int) + 1))) := by rw [← hW2]; exact (hc.set_ 1 _).alloc _
  have HW2 := Lib.hid hW2
  have HK2 := Lib.hid hk2
  have HC2 := Lib.hid hc2
  have HP := Lib.hid hp
  have hm2 : m % n < n := Nat.mod_lt _ n1
  have HRm : RowKit.Hid (cs[0]? = some (.int .i64 n) ∧ cs.size = 1026) := ⟨hr.room, hr.size⟩
  obtain ⟨s, hs⟩ : ∃ s, m % n = s := ⟨_, rfl⟩
  have HS := Lib.hid hs
  rw [hs] at hm2
  clear hg hr hc hm hp hl2 hW2 hk2 hc2 hs
  go_enter Tryz.func31, Tryz.ntmps31
  go_wp2_with (go_at_call 65; rw [HW2.out]; go_loud (refine (HCp.out W2 HK2.out).mono ?_); rintro e w3 ⟨a2, c2, rfl, ho, hb⟩; have HO := Lib.hid ho; have HB3 := Lib.hid hb; have HK3 := Lib.hid (HK2.out.trans (.of_below hb)); have HC3 := Lib.hid (HC2.out.below hb); obtain ⟨W5, hW5⟩ : ∃ W5, w3.alloc (.cells #[.int .u32 p.ep, .int .u32 p.nu, .bool p.wh, .slice a2 l c2] 45) = W5 := ⟨_, rfl⟩; have HW5 := Lib.hid hW5; have hc5 := HC3.out.alloc (.cells #[.int .u32 p.ep, .int .u32 p.nu, .bool p.wh, .slice a2 l c2] 45); have hq5 := Cel.new w3 45 #[.int .u32 p.ep, .int .u32 p.nu, .bool p.wh, .slice a2 l c2]; have hb5 := Below.alloc_new w3 (.cells #[.int .u32 p.ep, .int .u32 p.nu, .bool p.wh, .slice a2 l c2] 45); rw [hW5] at hc5 hq5 hb5; have HC5 := Lib.hid hc5; have HQ5 := Lib.hid hq5; have HB5 := Lib.hid hb5; clear ho hb hc5 hq5 hb5 hW5)
  rw [HW5.out]
  have q2 : (s : Int) < 1024 := by omega
  have HSl : RowKit.Hid (Calls Tryz.prog 66 #[.pointer (some ⟨g, 0, none⟩), .int .i64 m] W5.drew fun e w' => e = .returned (.int .i64 s) ∧ w' = W5.drew) := by
    have kk : W5.cell? ⟨g, 0, none⟩ = some (.int .i64 n) := by rw [HC5.out.cell, Array.getElem?_setIfInBounds_ne (by omega)]; exact HRm.out.1
    have := rgSlot_any g n m W5.drew kk n1 n2 (by omega)
    rw [HS.out] at this
    exact this.mono fun _ _ h => ⟨h.1, h.2.symm⟩
  have kv : ∃ v, W5.cell? ⟨g, 2 + s, none⟩ = some v := by
    refine ⟨_, (HC5.out.cell _).trans (Array.getElem?_eq_getElem (by rw [Array.size_setIfInBounds, HRm.out.2]; omega))⟩
  obtain ⟨v0, kv⟩ := kv
  have kf := HC5.out.frozen (2 + s)
  go_still_tail 7, (by kernel_rfl)
  still_call HSl.out
  repeat still_step
  try refine wpStill_nil ?_
  change wpList _ _ _ _ _ W5.drew
  go_wp2
  go_ret
  obtain ⟨WF, hWF⟩ : ∃ WF, (W5.setCell ⟨g, 2 + s, none⟩ (.pointer (some ⟨w3.heap.size, 0, none⟩))).drew = WF := ⟨_, rfl⟩
  have k3F : Keeps (fun j => j = g) w3 WF := by rw [← hWF]; exact (((Keeps.of_below (F := fun j => j = g) HB5.out).setCell (p := ⟨g, 2 + s, none⟩) (.inl rfl) _).drewN 1)
  have kF := HK3.out.trans k3F
  have hcF : Cel WF g 130 ((cs.setIfInBounds 1 (.int .i64 ((m : Int) + 1))).setIfInBounds (2 + s) (.pointer (some ⟨w3.heap.size, 0, none⟩))) := by rw [← hWF]; exact (HC5.out.set_ (2 + s) _)
  have hs3 := HK3.out.size
  have hqF : Cel WF w3.heap.size 45 (pkC p a2 p.pl.length c2) := by rw [← hWF, HL.out]; exact HQ5.out.far (by simp; omega) _
  have hs2 := HK2.out.size
  have hpF : PlAt WF (fun j => w.heap.size ≤ j) a2 p.pl.length c2 p.pl := by
    have := (PlAt.own HO.out).keeps k3F fun j e hj => (by omega)
    rw [HL.out]
    exact this.weaken fun j hj _ => (by omega)
  rw [hWF]
  have hmore := HR.out.more n1 n2 HG.out kF hs3 hqF hpF
  rw [HM.out, HS.out] at hmore
  exact ⟨rfl, ⟨n1, n2, fun h => (by rcases h with h | h; exact HG.out h; omega), _, hcF, hmore⟩, kF⟩
end Go.Proofs.YtmgfkdmjgjlkjaaGreat

namespace Go.Proofs.YtmgfkdmjgjlkjaaGreat
open Go
set_option linter.unusedVariables false
def cosL : List Int := [
  16777216, 16777195, 16777136, 16777038, 16776899, 16776723, 16776505, 16776249, 16775952, 16775618, 16775243, 16774829,
  16774374, 16773882, 16773348, 16772776, 16772162, 16771512, 16770821, 16770092, 16769321, 16768513, 16767664, 16766776,
  16765847, 16764882, 16763875, 16762830, 16761743, 16760619, 16759454, 16758251, 16757006, 16755725, 16754403, 16753043,
  16751641, 16750202, 16748722, 16747203, 16745643, 16744047, 16742409, 16740733, 16739016, 16737262, 16735466, 16733632,
  16731757, 16729846, 16727893, 16725902, 16723870, 16721801, 16719691, 16717542, 16715352, 16713126, 16710859, 16708553,
  16706206, 16703822, 16701397, 16698933, 16696428, 16693888, 16691306, 16688686, 16686025, 16683327, 16680588, 16677811,
  16674992, 16672138, 16669242, 16666308, 16663333, 16660321, 16657268, 16654177, 16651044, 16647876, 16644667, 16641420,
  16638131, 16634806, 16631439, 16628035, 16624589, 16621108, 16617585, 16614024, 16610422, 16606784, 16603104, 16599387,
  16595628, 16591834, 16587999, 16584126, 16580212, 16576262, 16572270, 16568241, 16564170, 16560064, 16555917, 16551732,
  16547506, 16543244, 16538940, 16534599, 16530217, 16525800, 16521341, 16516845, 16512307, 16507734, 16503119, 16498467,
  16493774, 16489046, 16484276, 16479469, 16474621, 16469737, 16464812, 16459850, 16454846, 16449808, 16444729, 16439613,
  16434455, 16429262, 16424027, 16418756, 16413443, 16408096, 16402707, 16397282, 16391815, 16386313, 16380769, 16375188,
  16369567, 16363911, 16358214, 16352480, 16346705, 16340894, 16335043, 16329155, 16323226, 16317262, 16311257, 16305215,
  16299133, 16293015, 16286857, 16280661, 16274425, 16268155, 16261844, 16255496, 16249107, 16242683, 16236218, 16229717,
  16223175, 16216599, 16209982, 16203328, 16196634, 16189905, 16183135, 16176328, 16169481, 16162600, 16155678, 16148720,
  16141721, 16134687, 16127613, 16120503, 16113352, 16106167, 16098941, 16091679, 16084377, 16077040, 16069663, 16062249,
  16054795, 16047308, 16039780, 16032216, 16024612, 16016973, 16009294, 16001579, 15993823, 15986034, 15978205, 15970339,
  15962434, 15954494, 15946514, 15938497, 15930441, 15922351, 15914222, 15906056, 15897851, 15889611, 15881331, 15873015,
  15864660, 15856271, 15847843, 15839378, 15830874, 15822335, 15813757, 15805143, 15796489, 15787802, 15779076, 15770314,
  15761513, 15752677, 15743802, 15734891, 15725941, 15716957, 15707934, 15698876, 15689778, 15680646, 15671475, 15662269,
  15653023, 15643745, 15634427, 15625074, 15615681, 15606255, 15596789, 15587288, 15577748, 15568175, 15558564, 15548917,
  15539231, 15529511, 15519753, 15509959, 15500126, 15490261, 15480358, 15470419, 15460442, 15450431, 15440381, 15430296,
  15420173, 15410017, 15399822, 15389593, 15379325, 15369024, 15358684, 15348309, 15337896, 15327451, 15316967, 15306449,
  15295892, 15285302, 15274674, 15264011, 15253310, 15242577, 15231805, 15220999, 15210155, 15199278, 15188362, 15177412,
  15166425, 15155405, 15144348, 15133256, 15122127, 15110965, 15099765, 15088530, 15077258, 15065954, 15054612, 15043236,
  15031823, 15020377, 15008893, 14997375, 14985819, 14974232, 14962607, 14950949, 14939253, 14927525, 14915759, 14903960,
  14892123, 14880255, 14868349, 14856410, 14844434, 14832426, 14820380, 14808301, 14796184, 14784037, 14771852, 14759634,
  14747380, 14735093, 14722770, 14710413, 14698019, 14685594, 14673132, 14660637, 14648106, 14635542, 14622942, 14610309,
  14597639, 14584938, 14572201, 14559431, 14546625, 14533787, 14520912, 14508005, 14495061, 14482087, 14469076, 14456033,
  14442953, 14429842, 14416695, 14403515, 14390299, 14377053, 14363771, 14350456, 14337106, 14323724, 14310307, 14296857,
  14283372, 14269856, 14256304, 14242720, 14229101, 14215450, 14201764, 14188046, 14174292, 14160508, 14146689, 14132838,
  14118952, 14105035, 14091082, 14077098, 14063078, 14049029, 14034944, 14020828, 14006676, 13992494, 13978277, 13964028,
  13949745, 13935432, 13921085, 13906706, 13892292, 13877848, 13863369, 13848859, 13834314, 13819740, 13805131, 13790491,
  13775816, 13761112, 13746373, 13731603, 13716798, 13701965, 13687097, 13672199, 13657266, 13642303, 13627306, 13612279,
  13597217, 13582127, 13567002, 13551847, 13536658, 13521439, 13506187, 13490904, 13475587, 13460242, 13444863, 13429454,
  13414011, 13398539, 13383034, 13367498, 13351929, 13336332, 13320701, 13305040, 13289346, 13273623, 13257866, 13242080,
  13226260, 13210413, 13194532, 13178621, 13162678, 13146706, 13130701, 13114666, 13098599, 13082504, 13066376, 13050218,
  13034028, 13017809, 13001558, 12985277, 12968964, 12952624, 12936251, 12919849, 12903415, 12886953, 12870458, 12853934,
  12837378, 12820795, 12804180, 12787536, 12770859, 12754155, 12737419, 12720654, 12703858, 12687034, 12670179, 12653295,
  12636380, 12619437, 12602463, 12585460, 12568425, 12551364, 12534271, 12517150, 12499998, 12482818, 12465607, 12448368,
  12431098, 12413802, 12396475, 12379119, 12361733, 12344320, 12326876, 12309404, 12291901, 12274372, 12256812, 12239225,
  12221607, 12203962, 12186287, 12168584, 12150851, 12133092, 12115303, 12097487, 12079640, 12061767, 12043863, 12025933,
  12007972, 11989986, 11971970, 11953926, 11935853, 11917754, 11899625, 11881469, 11863283, 11845072, 11826832, 11808565,
  11790269, 11771947, 11753596, 11735218, 11716810, 11698378, 11679916, 11661428, 11642911, 11624369, 11605797, 11587199,
  11568572, 11549920, 11531240, 11512534, 11493799, 11475039, 11456250, 11437435, 11418592, 11399724, 11380828, 11361906,
  11342956, 11323981, 11304977, 11285948, 11266891, 11247810, 11228701, 11209567, 11190404, 11171217, 11152003, 11132763,
  11113495, 11094203, 11074884, 11055540, 11036168, 11016772, 10997348, 10977900, 10958424, 10938925, 10919399, 10899848,
  10880269, 10860667, 10841038, 10821384, 10801703, 10781999, 10762268, 10742513, 10722731, 10702925, 10683093, 10663237,
  10643354, 10623449, 10603517, 10583561, 10563579, 10543574, 10523542, 10503486, 10483404, 10463300, 10443170, 10423016,
  10402836, 10382633, 10362405, 10342153, 10321875, 10301575, 10281250, 10260901, 10240526, 10220129, 10199707, 10179262,
  10158791, 10138299, 10117781, 10097240, 10076674, 10056086, 10035473, 10014838, 9994177, 9973495, 9952788, 9932059,
  9911305, 9890529, 9869729, 9848906, 9828059, 9807191, 9786298, 9765383, 9744444, 9723483, 9702498, 9681491,
  9660460, 9639409, 9618333, 9597236, 9576114, 9554971, 9533805, 9512617, 9491406, 9470174, 9448919, 9427642,
  9406342, 9385021, 9363677, 9342311, 9320922, 9299514, 9278082, 9256629, 9235153, 9213657, 9192138, 9170598,
  9149036, 9127454, 9105849, 9084223, 9062575, 9040907, 9019217, 8997506, 8975772, 8954020, 8932245, 8910450,
  8888632, 8866795, 8844936, 8823057, 8801156, 8779236, 8757295, 8735333, 8713350, 8691347, 8669323, 8647279,
  8625214, 8603130, 8581025, 8558901, 8536755, 8514591, 8492405, 8470200, 8447974, 8425730, 8403465, 8381180,
  8358875, 8336552, 8314208, 8291845, 8269461, 8247060, 8224638, 8202198, 8179737, 8157258, 8134759, 8112241,
  8089703, 8067148, 8044573, 8021980, 7999366, 7976735, 7954084, 7931415, 7908726, 7886020, 7863295, 7840552,
  7817790, 7795011, 7772212, 7749395, 7726559, 7703707, 7680835, 7657946, 7635038, 7612113, 7589169, 7566208,
  7543228, 7520232, 7497217, 7474185, 7451135, 7428068, 7404983, 7381881, 7358761, 7335625, 7312470, 7289299,
  7266110, 7242905, 7219682, 7196443, 7173185, 7149912, 7126622, 7103315, 7079991, 7056651, 7033294, 7009921,
  6986530, 6963124, 6939701, 6916262, 6892806, 6869335, 6845847, 6822343, 6798822, 6775287, 6751735, 6728167,
  6704583, 6680984, 6657369, 6633738, 6610091, 6586430, 6562752, 6539059, 6515350, 6491627, 6467887, 6444133,
  6420363, 6396580, 6372780, 6348966, 6325136, 6301292, 6277433, 6253559, 6229670, 6205767, 6181849, 6157917,
  6133970, 6110009, 6086033, 6062043, 6038038, 6014021, 5989988, 5965941, 5941880, 5917806, 5893717, 5869614,
  5845497, 5821368, 5797224, 5773067, 5748895, 5724711, 5700512, 5676301, 5652075, 5627838, 5603586, 5579322,
  5555044, 5530754, 5506450, 5482133, 5457803, 5433461, 5409106, 5384738, 5360357, 5335964, 5311558, 5287140,
  5262708, 5238266, 5213810, 5189342, 5164862, 5140370, 5115866, 5091350, 5066821, 5042281, 5017729, 4993165,
  4968589, 4944002, 4919403, 4894793, 4870170, 4845537, 4820892, 4796237, 4771569, 4746891, 4722201, 4697500,
  4672787, 4648064, 4623330, 4598585, 4573829, 4549063, 4524286, 4499498, 4474699, 4449891, 4425071, 4400242,
  4375401, 4350551, 4325690, 4300819, 4275938, 4251047, 4226146, 4201235, 4176314, 4151384, 4126443, 4101493,
  4076532, 4051563, 4026584, 4001596, 3976598, 3951591, 3926574, 3901548, 3876513, 3851469, 3826416, 3801354,
  3776283, 3751203, 3726114, 3701017, 3675910, 3650796, 3625672, 3600540, 3575399, 3550250, 3525093, 3499927,
  3474753, 3449571, 3424381, 3399183, 3373977, 3348763, 3323541, 3298311, 3273073, 3247828, 3222575, 3197315,
  3172046, 3146771, 3121488, 3096198, 3070900, 3045596, 3020284, 2994965, 2969639, 2944306, 2918966, 2893619,
  2868265, 2842905, 2817538, 2792164, 2766784, 2741397, 2716004, 2690604, 2665198, 2639786, 2614367, 2588943,
  2563512, 2538075, 2512632, 2487184, 2461729, 2436269, 2410803, 2385331, 2359854, 2334371, 2308883, 2283389,
  2257890, 2232386, 2206876, 2181361, 2155841, 2130316, 2104786, 2079251, 2053711, 2028167, 2002617, 1977062,
  1951503, 1925940, 1900372, 1874799, 1849222, 1823641, 1798056, 1772466, 1746872, 1721274, 1695672, 1670066,
  1644455, 1618842, 1593224, 1567602, 1541977, 1516348, 1490716, 1465080, 1439440, 1413798, 1388152, 1362503,
  1336850, 1311195, 1285536, 1259874, 1234209, 1208542, 1182871, 1157198, 1131522, 1105843, 1080162, 1054478,
  1028792, 1003103, 977412, 951719, 926023, 900325, 874625, 848923, 823219, 797513, 771806, 746096,
  720385, 694672, 668957, 643241, 617523, 591804, 566083, 540361, 514638, 488914, 463188, 437462,
  411734, 386005, 360276, 334545, 308814, 283082, 257350, 231617, 205883, 180149, 154414, 128679,
  102943, 77208, 51472, 25736, 0]
theorem cosL_len : cosL.length = 1025 := by decide +kernel
def cosN (i : Nat) : Int := cosL.getD i 0
def midOK (h a : Nat) : Bool :=
  let n := (cosN a + cosN (a + h)) * 8388608
  let d := cosN (h / 2)
  let q := n / d
  cosN (a + h / 2) == if 2 * (n % d) ≥ d then q + 1 else q
def rootOK (h : Nat) : Bool :=
  let n := (16777216 + cosN h) * 8388608
  let x := cosN (h / 2)
  decide (0 ≤ x) && decide (x * x ≤ n) && decide (n < (x + 1) * (x + 1))
def levelOK (h : Nat) : Bool := rootOK h && (List.range (1024 / h)).all fun k => k == 0 || midOK h (k * h)
theorem levels : [1024, 512, 256, 128, 64, 32, 16, 8, 4, 2].all levelOK = true := by decide +kernel
theorem cos_falls : (cosL.zip (cosL.drop 1)).all (fun p => decide (p.2 < p.1)) = true := by decide +kernel
theorem cos_bds : cosL.all (fun x => decide (0 ≤ x) && decide (x ≤ 16777216)) = true := by decide +kernel
end Go.Proofs.YtmgfkdmjgjlkjaaGreat

namespace Go.Proofs.YtmgfkdmjgjlkjaaGreat
open Go
set_option linter.unusedVariables false
theorem cosN_get {i : Nat} (h : i ≤ 1024) : cosL[i]? = some (cosN i) := by
  have hl : i < cosL.length := by rw [cosL_len]; omega
  unfold cosN
  simp [List.getD, List.getElem?_eq_getElem hl]
theorem cosN_bd {i : Nat} (h : i ≤ 1024) : 0 ≤ cosN i ∧ cosN i ≤ 16777216 := by
  have hm : cosN i ∈ cosL := List.mem_of_getElem? (cosN_get h)
  have := List.all_eq_true.1 cos_bds _ hm
  simpa using this
theorem cosN_falls {i : Nat} (h : i < 1024) : cosN (i + 1) < cosN i := by
  have hm : (cosN i, cosN (i + 1)) ∈ cosL.zip (cosL.drop 1) := by
    refine List.mem_of_getElem? (i := i) ?_
    rw [List.getElem?_zip_eq_some]
    refine ⟨cosN_get (by omega), ?_⟩
    rw [List.getElem?_drop, Nat.add_comm]
    exact cosN_get (by omega)
  have := List.all_eq_true.1 cos_falls _ hm
  simpa using this
theorem level_at {k : Nat} (h : k < 10) : levelOK (2 ^ (k + 1)) = true := by
  have := List.all_eq_true.1 levels (2 ^ (k + 1)) (by
    have : k = 0 ∨ k = 1 ∨ k = 2 ∨ k = 3 ∨ k = 4 ∨ k = 5 ∨ k = 6 ∨ k = 7 ∨ k = 8 ∨ k = 9 := by omega
    rcases this with rfl | rfl | rfl | rfl | rfl | rfl | rfl | rfl | rfl | rfl <;> decide)
  exact this
theorem half_pow (k : Nat) : 2 ^ (k + 1) / 2 = 2 ^ k := by rw [Nat.pow_succ]; omega
theorem cos_root {k : Nat} (h : k < 10) : IsRoot ((16777216 + cosN (2 ^ (k + 1))) * 8388608) (cosN (2 ^ k)) := by
  have := level_at h
  unfold levelOK at this
  rw [Bool.and_eq_true] at this
  have hr := this.1
  unfold rootOK at hr
  rw [half_pow] at hr
  simp only [Bool.and_eq_true, decide_eq_true_eq] at hr
  have hb := cosN_bd (i := 2 ^ k) (by have := Nat.pow_le_pow_right (n := 2) (by decide) (show k ≤ 10 by omega); omega)
  exact ⟨hr.1.1, by omega, hr.1.2, hr.2⟩
theorem cos_mid {k a : Nat} (h : k < 10) (ha0 : 0 < a) (ha : a % 2 ^ (k + 1) = 0) (hl : a < 1024) :
    cosN (a + 2 ^ k) = if 2 * (((cosN a + cosN (a + 2 ^ (k + 1))) * 8388608) % cosN (2 ^ k)) ≥ cosN (2 ^ k) then ((cosN a + cosN (a + 2 ^ (k + 1))) * 8388608) / cosN (2 ^ k) + 1 else ((cosN a + cosN (a + 2 ^ (k + 1))) * 8388608) / cosN (2 ^ k) := by
  have := level_at h
  unfold levelOK at this
  rw [Bool.and_eq_true] at this
  have hq : a / 2 ^ (k + 1) * 2 ^ (k + 1) = a := Nat.div_mul_cancel (Nat.dvd_of_mod_eq_zero ha)
  have hp : 0 < 2 ^ (k + 1) := Nat.two_pow_pos _
  have h1024 : 1024 % 2 ^ (k + 1) = 0 := by
    have : k = 0 ∨ k = 1 ∨ k = 2 ∨ k = 3 ∨ k = 4 ∨ k = 5 ∨ k = 6 ∨ k = 7 ∨ k = 8 ∨ k = 9 := by omega
    rcases this with rfl | rfl | rfl | rfl | rfl | rfl | rfl | rfl | rfl | rfl <;> decide
  have hm := List.all_eq_true.1 this.2 (a / 2 ^ (k + 1)) (List.mem_range.2 (by
    have e : 1024 / 2 ^ (k + 1) * 2 ^ (k + 1) = 1024 := Nat.div_mul_cancel (Nat.dvd_of_mod_eq_zero h1024)
    refine Nat.lt_of_mul_lt_mul_right (a := 2 ^ (k + 1)) ?_
    rw [hq, e]; exact hl))
  rw [Bool.or_eq_true] at hm
  rcases hm with hm | hm
  · have : a / 2 ^ (k + 1) = 0 := by simpa using hm
    rw [this] at hq; omega
  · rw [hq] at hm
    unfold midOK at hm
    rw [half_pow] at hm
    simpa using hm
def cosQ (i : Int) : Int :=
  let m := i % 4096
  let m' := if 2048 < m then 4096 - m else m
  if 1024 < m' then -(cosN (2048 - m').toNat) else cosN m'.toNat
noncomputable def cosP (i : Int) : Int := hideI (cosQ i)
theorem cosP_q (i : Int) : cosP i = cosQ i := hideI_eq _
theorem cosQ_in {i : Int} {n : Nat} (h : i % 4096 = n) (hn : n ≤ 1024) : cosQ i = cosN n := by
  unfold cosQ
  simp only [h]
  rw [if_neg (by omega), if_neg (by omega)]
  simp
theorem cosQ_2 {i : Int} {n : Nat} (h : i % 4096 = 2048 - n) (hn : n < 1024) : cosQ i = -(cosN n) := by
  unfold cosQ
  simp only [h]
  rw [if_neg (show ¬ (2048 : Int) < 2048 - n by omega), if_pos (by omega)]
  congr 2; omega
theorem cosQ_3 {i : Int} {n : Nat} (h : i % 4096 = 2048 + n) (hn0 : 0 < n) (hn : n < 1024) : cosQ i = -(cosN n) := by
  unfold cosQ
  simp only [h]
  rw [if_pos (show (2048 : Int) < 2048 + n by omega), if_pos (by omega)]
  congr 2; omega
theorem cosQ_4 {i : Int} {n : Nat} (h : i % 4096 = 4096 - n) (hn0 : 0 < n) (hn : n ≤ 1024) : cosQ i = cosN n := by
  unfold cosQ
  simp only [h]
  rw [if_pos (show (2048 : Int) < 4096 - n by omega), if_neg (by omega)]
  congr 1; omega
theorem circle_at (i : Int) : (∃ n : Nat, i % 4096 = n ∧ n ≤ 1024) ∨ (∃ n : Nat, i % 4096 = 2048 - n ∧ n < 1024) ∨ (∃ n : Nat, i % 4096 = 2048 + n ∧ 0 < n ∧ n < 1024) ∨ (∃ n : Nat, i % 4096 = 4096 - n ∧ 0 < n ∧ n ≤ 1024) := by
  have h0 := Int.emod_nonneg i (b := 4096) (by decide)
  have h1 := Int.emod_lt_of_pos i (b := 4096) (by decide)
  by_cases a : i % 4096 ≤ 1024
  · exact .inl ⟨(i % 4096).toNat, by omega, by omega⟩
  · by_cases b : i % 4096 ≤ 2048
    · exact .inr (.inl ⟨(2048 - i % 4096).toNat, by omega, by omega⟩)
    · by_cases c : i % 4096 < 3072
      · exact .inr (.inr (.inl ⟨(i % 4096 - 2048).toNat, by omega, by omega, by omega⟩))
      · exact .inr (.inr (.inr ⟨(4096 - i % 4096).toNat, by omega, by omega, by omega⟩))
theorem cosP_bd (i : Int) : -16777216 ≤ cosP i ∧ cosP i ≤ 16777216 := by
  rw [cosP_q]
  rcases circle_at i with ⟨n, h, l⟩ | ⟨n, h, l⟩ | ⟨n, h, l0, l⟩ | ⟨n, h, l0, l⟩
  · rw [cosQ_in h l]; have := cosN_bd l; omega
  · rw [cosQ_2 h l]; have := cosN_bd (i := n) (by omega); omega
  · rw [cosQ_3 h l0 l]; have := cosN_bd (i := n) (by omega); omega
  · rw [cosQ_4 h l0 l]; have := cosN_bd l; omega
theorem cosN_last : cosN 1024 = 0 := by decide +kernel
theorem cosN_first : cosN 0 = 16777216 := by decide +kernel
noncomputable def riseP (i : Int) : Int := if i < 0 then 0 else if 128 ≤ i then 16777216 else cosP (1024 - 4 * (2 * i + 1))
theorem riseP_neg {i : Int} (h : i < 0) : riseP i = 0 := if_pos h
theorem riseP_big {i : Int} (h : 128 ≤ i) : riseP i = 16777216 := by unfold riseP; rw [if_neg (by omega), if_pos h]
theorem riseP_in {i : Int} (h : 0 ≤ i) (h' : i < 128) : riseP i = cosP (1024 - 4 * (2 * i + 1)) := by unfold riseP; rw [if_neg (by omega), if_neg (by omega)]
end Go.Proofs.YtmgfkdmjgjlkjaaGreat

namespace Go.Proofs.YtmgfkdmjgjlkjaaGreat
open Go.RowKit
set_option linter.unusedVariables false
def tabF (n : Nat) (f : Nat → Int) : List Int := (List.range n).map f
theorem tabF_len (n : Nat) (f : Nat → Int) : (tabF n f).length = n := by simp [tabF]
theorem tabF_getD {n : Nat} (f : Nat → Int) {j : Nat} (h : j < n) : (tabF n f).getD j 0 = f j := by simp [tabF, List.getD, h]
theorem tabF_ext {n : Nat} {f g : Nat → Int} (h : ∀ j, j < n → f j = g j) : tabF n f = tabF n g := by
  unfold tabF
  exact List.map_congr_left fun j hj => h j (List.mem_range.1 hj)
theorem tabF_set {n : Nat} (f : Nat → Int) {j : Nat} (h : j < n) (x : Int) : (tabF n f).set j x = tabF n (fun i => if i = j then x else f i) := by
  apply List.ext_getElem?
  intro i
  unfold tabF
  rw [List.getElem?_set]
  by_cases hij : j = i
  · subst hij; simp [h]
  · rw [if_neg hij]
    by_cases hi : i < n
    · simp [hi, show ¬ i = j from fun e => hij e.symm]
    · simp [hi]
def IFun (w : World) (g : Nat) (t : TypeId) (k : IntKind) (n : Nat) (f : Nat → Int) : Prop := IRow w g t k (tabF n f)
section
variable {w w' : World} {g : Nat} {t : TypeId} {k : IntKind} {n : Nat} {f f' : Nat → Int}
theorem IFun.lt (h : IFun w g t k n f) : g < w.heap.size := IRow.lt h
theorem IFun.cell (h : IFun w g t k n f) {j : Nat} (hj : j < n) : w.cell? ⟨g, j, none⟩ = some (.int k (f j)) := by
  have := IRow.cell h (j := j) (by rw [tabF_len]; exact hj)
  rwa [tabF_getD f hj] at this
theorem IFun.frozen (h : IFun w g t k n f) (j : Nat) : w.frozen? ⟨g, j, none⟩ = false := IRow.frozen h j
theorem IFun.ext (h : IFun w g t k n f) (he : ∀ j, j < n → f j = f' j) : IFun w g t k n f' := by unfold IFun; rw [← tabF_ext he]; exact h
theorem IFun.set (h : IFun w g t k n f) {j : Nat} (hj : j < n) (x : Int) : IFun (w.setCell ⟨g, j, none⟩ (.int k x)) g t k n (fun i => if i = j then x else f i) := by
  have := IRow.set h j x
  rwa [tabF_set f hj] at this
theorem IFun.drewN (h : IFun w g t k n f) (i : Nat) : IFun (w.drewN i) g t k n f := h
theorem IFun.alloc (h : IFun w g t k n f) (o : Obj) : IFun (w.alloc o) g t k n f := IRow.alloc h o
theorem IFun.far (h : IFun w g t k n f) {p : Addr} (hp : g ≠ p.block) (u : Value) : IFun (w.setCell p u) g t k n f := IRow.far h hp u
theorem IFun.below {B : Nat} (h : IFun w g t k n f) (hb : Below B w w') (hg : g < B) : IFun w' g t k n f := IRow.below h hb hg
theorem IFun.zeros (w : World) (t : TypeId) (k : IntKind) (n : Nat) : IFun (w.alloc (.cells (madeCells #[.int k 0] n) t)) w.heap.size t k n (fun _ => 0) := by
  have := IRow.zeros w t k n
  have e : List.replicate n (0 : Int) = tabF n (fun _ => 0) := by
    apply List.ext_getElem?
    intro i
    unfold tabF
    by_cases hi : i < n
    · simp [hi]
    · simp [hi]
  rw [e] at this
  exact this
end
end Go.Proofs.YtmgfkdmjgjlkjaaGreat
