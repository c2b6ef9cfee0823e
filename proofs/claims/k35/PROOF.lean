import PyProof.Rows.All
import Wide.All
import OpenK.AllK
import Wide.FinOn
import Lean
import PyProof.EqAt
import PyProof.EqKinds
import PyProof.TupleCall
import PyProof.ExcAttrAll.ValueError
import PyProof.EnumMake
import PyProof.EnumStmt
import PyProof.Rows.EnumRows
import KE.KDictOf
import KE.KEqDict
import PyProof.Draws
import KE.KDictSum
import PyProof.Rows.SortStr
import PyProof.Rows.SetFrom
import PyProof.WalksMore
import PyProof.TupleIter
import PySem.Challenge.RW_runrows_k35_uses_are_refused
set_option Elab.async false
set_option linter.all false
set_option maxRecDepth 100000
namespace HK
open PySem PySem.W PyProof.Rows
def look1 (o : Obj) : Option Obj := match o with
  | ⟨_, _, .freed, _⟩ => none
  | o => some o
theorem get_look (h : Heap) (a : Addr) : h.get? a = (h.objs.toList[a]?).bind look1 := by
  unfold Heap.get?
  rw [Array.getElem?_toList]
  cases h.objs[a]? with
  | none => rfl
  | some o =>
    obtain ⟨c, d, x, s⟩ := o
    cases x <;> rfl
noncomputable def pick (os : List Obj) : Nat → List Addr → List (Option Obj) :=
  List.rec (motive := fun _ => Nat → List Addr → List (Option Obj)) (fun _ as => as.map fun _ => none)
    (fun o _ ih i as => List.casesOn (motive := fun _ => List (Option Obj)) as [] fun a r => cond (Nat.beq i a) (look1 o :: ih (Nat.succ i) r) (ih (Nat.succ i) (a :: r))) os
def upB : Nat → List Addr → Bool
  | _, [] => true
  | i, a :: r => Nat.ble i a && upB (Nat.succ a) r
theorem upB_mono : ∀ {as : List Addr} {i j : Nat}, i ≤ j → upB j as = true → upB i as = true
  | [], _, _, _, _ => rfl
  | a :: r, i, j, h, u => by
    unfold upB at u ⊢
    rw [Bool.and_eq_true] at u ⊢
    exact ⟨Nat.ble_eq_true_of_le (Nat.le_trans h (Nat.le_of_ble_eq_true u.1)), u.2⟩
theorem pick_of : ∀ (os : List Obj) (i : Nat) (as : List Addr), upB i as = true → pick os i as = as.map fun a => (os[a - i]?).bind look1
  | [], i, as, _ => by
    show as.map (fun _ => none) = _
    apply List.map_congr_left
    intro a _
    simp
  | o :: os, i, [], _ => rfl
  | o :: os, i, a :: r, u => by
    have u' := u
    unfold upB at u
    rw [Bool.and_eq_true] at u
    have hle := Nat.le_of_ble_eq_true u.1
    show cond (Nat.beq i a) (look1 o :: pick os (Nat.succ i) r) (pick os (Nat.succ i) (a :: r)) = _
    have step : ∀ l : List Addr, upB (Nat.succ i) l = true → (l.map fun a => (os[a - Nat.succ i]?).bind look1) = l.map fun a => ((o :: os)[a - i]?).bind look1 := by
      intro l hl
      apply List.map_congr_left
      intro b hb
      have hb' : i + 1 ≤ b := by
        clear u u' hle
        induction l generalizing i with
        | nil => cases hb
        | cons c l ih =>
          unfold upB at hl
          rw [Bool.and_eq_true] at hl
          have h1 := Nat.le_of_ble_eq_true hl.1
          rcases List.mem_cons.mp hb with rfl | hb
          · exact h1
          · exact Nat.le_trans (by omega) (ih (i := c) hl.2 hb)
      rw [show b - i = (b - (i + 1)) + 1 by omega]
      rfl
    cases e : Nat.beq i a with
    | true =>
      have : i = a := Nat.eq_of_beq_eq_true e
      subst this
      show look1 o :: pick os (Nat.succ i) r = _
      rw [pick_of os _ r u.2, step r u.2, List.map_cons, Nat.sub_self]
      rfl
    | false =>
      have ne : i ≠ a := Nat.ne_of_beq_eq_false e
      show pick os (Nat.succ i) (a :: r) = _
      have ua : upB (Nat.succ i) (a :: r) = true := by
        unfold upB
        rw [Bool.and_eq_true]
        exact ⟨Nat.ble_eq_true_of_le (by omega), u.2⟩
      rw [pick_of os _ (a :: r) ua, step _ ua]
noncomputable def fHook (K : Params → Frag) (as : List Addr) (e : ∀ P, as = (K P).map (·.1)) (u : upB 0 as = true) (_ : Unit) : Hook :=
  ⟨List (Option Obj), fun s => pick s.heap.objs.toList 0 as, fun w => (K w.params).map fun p => some p.2, InK K, fun w s x => InK.of e w s (by
    rw [← x, pick_of _ _ _ u]
    apply List.map_congr_left
    intro a _
    exact get_look _ _), InK.keeps⟩
theorem fIn_of {K : Params → Frag} {as : List Addr} {e : ∀ P, as = (K P).map (·.1)} {u : upB 0 as = true} {x : Unit} {w : World} {h : Heap} (Y : (fHook K as e u x).says w h) : (K w.params).In h := Y
end HK
namespace PySem.W.Fast
def tw10023262893692354947 := 0
def tw10026883549477146984 := 0
def tw10060359312174127303 := 0
def tw10100058629184254601 := 0
def tw10203774440390283192 := 0
def tw10302896641306957837 := 0
def tw10311032386755072780 := 0
def tw10368913397629839234 := 0
def tw1039533290836371738 := 0
def tw10444869978515203798 := 0
def tw10450617866842145369 := 0
def tw10492447417018040932 := 0
def tw10493164434791000859 := 0
def tw10498202564433424204 := 0
def tw10540755229201073264 := 0
def tw10550918694826680786 := 0
def tw10558335436158867722 := 0
def tw10580477089347628428 := 0
def tw10611172998604206030 := 0
def tw10653191795943810827 := 0
def tw10759581964760831524 := 0
def tw107896879777198866 := 0
def tw10852713069712707513 := 0
def tw10897811909217028239 := 0
def tw11017074130707429409 := 0
def tw11021307206385835000 := 0
def tw11028679368967544725 := 0
def tw11112828903830559793 := 0
def tw11186953487075431306 := 0
def tw11202836964208590127 := 0
def tw11210453040616223664 := 0
def tw1138751153312324828 := 0
def tw11444296365809630585 := 0
def tw11491940086867272029 := 0
def tw115479604208852781 := 0
def tw11551794987914307720 := 0
def tw11595938217821618230 := 0
def tw11636516593006600690 := 0
def tw11714993006482551711 := 0
def tw11751293648130127852 := 0
def tw11875727861567587376 := 0
def tw11876833016839743165 := 0
def tw11890797890986771610 := 0
def tw11935730225788234833 := 0
def tw11948090177027898835 := 0
def tw11977911175569513859 := 0
def tw12009039530689858950 := 0
def tw12038668550242957169 := 0
def tw12048909770746318016 := 0
def tw12162859919571626426 := 0
def tw12209202657693280363 := 0
def tw12235085723079521948 := 0
def tw12252437623061684016 := 0
def tw12299738739744620644 := 0
def tw12300808890995743603 := 0
def tw12334039538030350108 := 0
def tw12378086571797185183 := 0
def tw12451360411415212885 := 0
def tw12502831236423183983 := 0
def tw12559340704981075602 := 0
def tw126232943163939076 := 0
def tw12688747365796437283 := 0
def tw12701645907321708412 := 0
def tw12729689653503781064 := 0
def tw12731001929807655018 := 0
def tw12784981992789054605 := 0
def tw12835799946920037995 := 0
def tw12859536937552053027 := 0
def tw13105056375539927431 := 0
def tw13111847459797515834 := 0
def tw13162096007112732107 := 0
def tw1316234804246808844 := 0
def tw13183687784810363613 := 0
def tw13188977180949968622 := 0
def tw13236534319845289445 := 0
def tw13249153036635125902 := 0
def tw13328910800792583410 := 0
def tw13396665944645023229 := 0
def tw13437657517412116099 := 0
def tw13447736348028483460 := 0
def tw13466969019913891310 := 0
def tw13494443238127716482 := 0
def tw13553887817261553117 := 0
def tw13574312060681714349 := 0
def tw13611354647747179810 := 0
def tw13654262309545154383 := 0
def tw13729548203931491259 := 0
def tw13730511851236270344 := 0
def tw13794770848970378025 := 0
def tw13799694491377536183 := 0
def tw13850904301024844155 := 0
def tw13943116839744076380 := 0
def tw14011391104351694558 := 0
def tw14031623496888315451 := 0
def tw14066896670045391682 := 0
def tw14116335633173703099 := 0
def tw14342033072855888641 := 0
def tw14344228144536144537 := 0
def tw14401545173453770018 := 0
def tw14461500871335625177 := 0
def tw14504088928248699976 := 0
def tw14507415341453870084 := 0
def tw14531965079368816191 := 0
def tw14543056087756390004 := 0
def tw14572694666996857808 := 0
def tw14577140333701795974 := 0
def tw14600462471713845711 := 0
def tw14602889661061873550 := 0
def tw14652165292252510987 := 0
def tw14653081832601828770 := 0
def tw14675514110255472197 := 0
def tw14722368712745935501 := 0
def tw14797918348054449791 := 0
def tw14808749530901424809 := 0
def tw14852649825218683374 := 0
def tw14879008701816836761 := 0
def tw14928368827852311939 := 0
def tw14954586082252449696 := 0
def tw14985507949426761772 := 0
def tw15056527077320333192 := 0
def tw15060447859626721829 := 0
def tw15078527494596098602 := 0
def tw15087881585353167779 := 0
def tw15226245449146016274 := 0
def tw1531156213469727484 := 0
def tw15428470705852953288 := 0
def tw15437617066798145067 := 0
def tw15467612458089219950 := 0
def tw15485350329771283677 := 0
def tw15505144319340540686 := 0
def tw15549088072568171021 := 0
def tw15554477348516683138 := 0
def tw15591779143531454156 := 0
def tw15623566123684545862 := 0
def tw15645585252896821893 := 0
def tw15660316531407416708 := 0
def tw15689024543961353945 := 0
def tw15698814593571206377 := 0
def tw15736160040987835997 := 0
def tw15781351171571136165 := 0
def tw15887896548279014740 := 0
def tw15912326554098490758 := 0
def tw15953924372992769263 := 0
def tw15979192928810105352 := 0
def tw15989597172031655202 := 0
def tw1600701943223028627 := 0
def tw16091607839963330369 := 0
def tw16094858912731944949 := 0
def tw16101108068209847496 := 0
def tw16113792872167200069 := 0
def tw16115247186079278480 := 0
def tw1613666834425060735 := 0
def tw16187863561334881237 := 0
def tw16191636447272343862 := 0
def tw16322808281755406214 := 0
def tw16326110618884136131 := 0
def tw16381849357123423495 := 0
def tw16445685220971452083 := 0
def tw16470983403359722248 := 0
def tw16489199436958377768 := 0
def tw16507564504691074599 := 0
def tw16515367360450955364 := 0
def tw16535244254854505692 := 0
def tw16558558332523127164 := 0
def tw1657326038529687373 := 0
def tw16694857631246066523 := 0
def tw16791796274612117204 := 0
def tw16846310946147772395 := 0
def tw16911176654102400324 := 0
def tw17000338531488496944 := 0
def tw17030222518953752117 := 0
def tw17056392906935609851 := 0
def tw17099388880784209654 := 0
def tw17130692111895985110 := 0
def tw17135137040282987603 := 0
def tw17176375487640261990 := 0
def tw17196429090726235416 := 0
def tw17252189876995523007 := 0
def tw1729797326090889109 := 0
def tw17306339383085125433 := 0
def tw17352166430871893412 := 0
def tw17466845721441786675 := 0
def tw17564561433166725519 := 0
def tw17583528612355698120 := 0
def tw17626054097470793852 := 0
def tw17713397106269969898 := 0
def tw17726524949316529310 := 0
def tw1782301667299937997 := 0
def tw17920623895489585348 := 0
def tw17969175325472006073 := 0
def tw18008899011572397588 := 0
def tw18018066894772126789 := 0
def tw18019808426012175492 := 0
def tw18023851853693091276 := 0
def tw18093535901862177236 := 0
def tw18254066186158434040 := 0
def tw18284511809350680749 := 0
def tw18328991514613830756 := 0
def tw18335444261958586386 := 0
def tw18345242908294094105 := 0
def tw18409418157590752220 := 0
def tw18441902954483046878 := 0
def tw1866676229490214501 := 0
def tw1973435161889218783 := 0
def tw1975186199823866875 := 0
def tw1988535918006030992 := 0
def tw199389533557769569 := 0
def tw2009248272538238966 := 0
def tw2021703755593677561 := 0
def tw2054912944624027771 := 0
def tw2067545859860988265 := 0
def tw2148439350123035035 := 0
def tw2151062963860794841 := 0
def tw2168942693049913945 := 0
def tw2299387420324197310 := 0
def tw229990223995812498 := 0
def tw2311350353862669848 := 0
def tw2322106096982867177 := 0
def tw2403996037495686784 := 0
def tw2407472561029146228 := 0
def tw2441425684386182638 := 0
def tw2464051291529655711 := 0
def tw2483964808807974774 := 0
def tw251032796237730559 := 0
def tw2591025940663179108 := 0
def tw2646892977049358758 := 0
def tw2739044623550625638 := 0
def tw2748304199066017126 := 0
def tw2785707311187832728 := 0
def tw2804183594317335651 := 0
def tw2810178996028426276 := 0
def tw2825775973767589421 := 0
def tw2832268034179225922 := 0
def tw2840821366242259012 := 0
def tw2885668746025006273 := 0
def tw2980603950801281390 := 0
def tw2992591511630644571 := 0
def tw3027300897845685186 := 0
def tw3064641024964615567 := 0
def tw3138777918314167672 := 0
def tw3142670392776635659 := 0
def tw31728653599085803 := 0
def tw3237279140446699369 := 0
def tw3252498818671793010 := 0
def tw3354458516815402996 := 0
def tw3356872613416584371 := 0
def tw3404030572678996500 := 0
def tw3495606932933987544 := 0
def tw3510199712680911462 := 0
def tw3544398786600661130 := 0
def tw3586910066671466401 := 0
def tw3632807515820834366 := 0
def tw3641181025447210901 := 0
def tw3659455797353586617 := 0
def tw3716456984593091814 := 0
def tw3718562613629038402 := 0
def tw3745935754330643723 := 0
def tw3778381776600212745 := 0
def tw3846113507560102218 := 0
def tw3848762587218322773 := 0
def tw3853877021037966911 := 0
def tw3864760151501857197 := 0
def tw3895018293986644130 := 0
def tw3907482003745393179 := 0
def tw3949493749222937169 := 0
def tw3970085422835517409 := 0
def tw3977999758855054595 := 0
def tw3999873353806265776 := 0
def tw4029947661219612249 := 0
def tw4048380311786356257 := 0
def tw404869968803262046 := 0
def tw4085094468198530065 := 0
def tw4179701753653593427 := 0
def tw4204661209680635154 := 0
def tw444083976670667856 := 0
def tw4458024450829524204 := 0
def tw4459825449391204594 := 0
def tw4464263651715005392 := 0
def tw4535427735563848508 := 0
def tw4552419584215732240 := 0
def tw4622570774129650801 := 0
def tw4628060895195463499 := 0
def tw4726604301593653703 := 0
def tw4798468729179297665 := 0
def tw4811603531055461754 := 0
def tw4879932996126512308 := 0
def tw4919876832597339312 := 0
def tw502396313610259037 := 0
def tw5037363291858850861 := 0
def tw5059652125589815223 := 0
def tw5101750145232322437 := 0
def tw5239592086678549882 := 0
def tw528640861281434937 := 0
def tw5291072533613413854 := 0
def tw5367445675338087538 := 0
def tw5370829249225431565 := 0
def tw5383124675549155829 := 0
def tw5422289422015366304 := 0
def tw5497631338811076138 := 0
def tw552934853926752214 := 0
def tw5533548050329804902 := 0
def tw555931994089435069 := 0
def tw5691655815124059746 := 0
def tw5791393235734603808 := 0
def tw5798075635327780164 := 0
def tw5845282691760227405 := 0
def tw5868493098643034239 := 0
def tw5918343033989033925 := 0
def tw5950302231404010809 := 0
def tw6091643057010651260 := 0
def tw6127090029098636615 := 0
def tw6143724142860324237 := 0
def tw620628674583618262 := 0
def tw6211123886770717603 := 0
def tw6239404830339547354 := 0
def tw6248816935337737293 := 0
def tw6290278001762285551 := 0
def tw6295546266092609322 := 0
def tw6481888747563355910 := 0
def tw6508553250811624448 := 0
def tw6628367416823154516 := 0
def tw6646213412091364307 := 0
def tw6665363950815986159 := 0
def tw6814470460581796080 := 0
def tw6858914663260272536 := 0
def tw6885916472047764549 := 0
def tw6928831310693713394 := 0
def tw6935398514523024620 := 0
def tw693657343487213227 := 0
def tw6977941479267888564 := 0
def tw7009142572223859092 := 0
def tw7028285034972518837 := 0
def tw7039860270937523558 := 0
def tw7059940894469422187 := 0
def tw7062243838374122128 := 0
def tw7085545435141876512 := 0
def tw7088693715972972025 := 0
def tw7240957350488482721 := 0
def tw7321980220669440743 := 0
def tw7358069972002550622 := 0
def tw7393383422084879113 := 0
def tw7428390995301471059 := 0
def tw7449780366166163398 := 0
def tw7481470626449232986 := 0
def tw7568241829983965236 := 0
def tw759025311196064872 := 0
def tw759760784826828160 := 0
def tw7646057358400868887 := 0
def tw772002572374405380 := 0
def tw7760746792318288314 := 0
def tw7776890169973364847 := 0
def tw7913688872695729401 := 0
def tw7943204980228873006 := 0
def tw800597965054294346 := 0
def tw8168234087236201454 := 0
def tw8171463811706366748 := 0
def tw8174001147612046572 := 0
def tw8188992223712956548 := 0
def tw8191681987542174639 := 0
def tw8227308574867369943 := 0
def tw8269411585359457188 := 0
def tw8291910161940440065 := 0
def tw8414284572787003812 := 0
def tw8448197058889593862 := 0
def tw8459923825490575664 := 0
def tw8468808397929521641 := 0
def tw8484351519143102972 := 0
def tw8543952178962916249 := 0
def tw8559287128115651253 := 0
def tw8560417486815135466 := 0
def tw8582008592164586040 := 0
def tw8625108443210068434 := 0
def tw8671509690630135204 := 0
def tw8814128439837900042 := 0
def tw8816367224786064700 := 0
def tw8816377970837234647 := 0
def tw883548112545167524 := 0
def tw8948944301332901320 := 0
def tw9121997999134975531 := 0
def tw91891908336304895 := 0
def tw9278974338377823346 := 0
def tw9314112298708304828 := 0
def tw9324808939811915254 := 0
def tw9381775811910456141 := 0
def tw9429706949112129029 := 0
def tw944332150949621687 := 0
def tw9443825079073942834 := 0
def tw9470444957406608147 := 0
def tw9529999649121925924 := 0
def tw9628824684408203654 := 0
def tw9658949513438671391 := 0
def tw9663623256819479318 := 0
def tw9673111248656485420 := 0
def tw9747899739320665928 := 0
def tw9804565808278439595 := 0
def tw9849572349456269241 := 0
def tw9851209129343332392 := 0
def tw9852419962195163024 := 0
def tw9930850830001363466 := 0
def tw9934593733729081122 := 0
end PySem.W.Fast
namespace HK
open PySem PySem.W PyProof.Rows
local macro_rules
  | `(tactic| o_head ($_:ident $k $a $e)) => `(tactic| o_head (HK.fHook $k $a $e (by decide +kernel) ()))
  | `(tactic| o_head ($_:ident $k $a $e $_)) => `(tactic| o_head (HK.fHook $k $a $e (by decide +kernel) ()))
set_option maxHeartbeats 0 in
open_top hd for PySem.Challenge.rw_runrows_k35_uses_are_refused
end HK
namespace L2
open PySem PySem.Spec PyProof.Rows
abbrev Key := Sum Int Str
def keyIs : Key → Value → Bool
  | .inl k, v => Value.isInt k v
  | .inr x, v => Value.isStrOf x v
def keyH (w : World) : Key → Int
  | .inl k => hashInt k
  | .inr x => hashStr w x
theorem keyIs_shape : ∀ {k : Key} {v : Value}, keyIs k v = true → (∃ i t, k = Sum.inl i ∧ v = Value.int i t) ∨ (∃ x t, k = Sum.inr x ∧ v = Value.str x t)
  | .inl i, v, h => by
    obtain ⟨t, e⟩ := Value.isInt_shape (k := i) (v := v) h
    exact .inl ⟨i, t, rfl, e⟩
  | .inr x, v, h => by
    obtain ⟨t, e⟩ := Value.isStrOf_shape (x := x) (v := v) h
    exact .inr ⟨x, t, rfl, e⟩
theorem keyIs_int (i : Int) (t : Tok) : keyIs (.inl i) (.int i t) = true := by simp [keyIs, Value.isInt]
theorem keyIs_str (x : Str) (t : Tok) : keyIs (.inr x) (.str x t) = true := by simp [keyIs, Value.isStrOf]
theorem key_ll (a b : Int) : decide ((Sum.inl a : Key) = Sum.inl b) = (a == b) := by
  by_cases e : a = b
  · subst e; simp
  · have h : ¬ (Sum.inl a : Key) = Sum.inl b := fun q => e (Sum.inl.inj q)
    rw [decide_eq_false h]
    exact (beq_eq_false_iff_ne.mpr e).symm
theorem key_rr (a b : Str) : decide ((Sum.inr a : Key) = Sum.inr b) = decide (a = b) := by
  by_cases e : a = b
  · subst e; simp
  · have h : ¬ (Sum.inr a : Key) = Sum.inr b := fun q => e (Sum.inr.inj q)
    rw [decide_eq_false h, decide_eq_false e]
theorem key_lr (a : Int) (b : Str) : decide ((Sum.inl a : Key) = Sum.inr b) = false := decide_eq_false (fun q => nomatch q)
theorem key_rl (a : Str) (b : Int) : decide ((Sum.inr a : Key) = Sum.inl b) = false := decide_eq_false (fun q => nomatch q)
def mixKind (prog : Program) (w : World) : PySem.KeyKind prog w Key where
  is := keyIs
  hash := keyH w
  inj := fun v a b ha hb => by
    rcases keyIs_shape ha with ⟨i, t, rfl, rfl⟩ | ⟨x, t, rfl, rfl⟩
    · rcases keyIs_shape hb with ⟨j, u, rfl, e⟩ | ⟨y, u, rfl, e⟩
      · injection e with e1 _; rw [e1]
      · exact nomatch e
    · rcases keyIs_shape hb with ⟨j, u, rfl, e⟩ | ⟨y, u, rfl, e⟩
      · exact nomatch e
      · injection e with e1 _; rw [e1]
  byValue := fun k v h => by
    rcases keyIs_shape h with ⟨i, t, rfl, rfl⟩ | ⟨x, t, rfl, rfl⟩ <;> rfl
  pyHash := fun hv h => by
    rcases keyIs_shape hv with ⟨i, t, rfl, rfl⟩ | ⟨x, t, rfl, rfl⟩
    · exact wpAny_pyHash_int h
    · exact wpAny_pyHash_str h
  eqBool := fun hu hv h => by
    rcases keyIs_shape hu with ⟨i, t, rfl, rfl⟩ | ⟨x, t, rfl, rfl⟩
    · rcases keyIs_shape hv with ⟨j, u, rfl, rfl⟩ | ⟨y, u, rfl, rfl⟩
      · rw [key_ll] at h; exact wpAny_eqBool_int h
      · rw [key_lr] at h; exact SeqAt.EqAt.int_str i t y u _ _ _ _ h
    · rcases keyIs_shape hv with ⟨j, u, rfl, rfl⟩ | ⟨y, u, rfl, rfl⟩
      · rw [key_rl] at h; exact SeqAt.EqAt.str_int x t j u _ _ _ _ h
      · rw [key_rr] at h; exact wpAny_eqBool_str h
  «strs» := fun k x t v h => by
    rcases keyIs_shape h with ⟨i, u, rfl, e⟩ | ⟨y, u, rfl, e⟩
    · exact nomatch e
    · injection e with e1 _
      subst e1
      cases v <;> rfl
theorem mixKind_int (prog : Program) (w : World) (i : Int) (t : Tok) : (mixKind prog w).is (.inl i) (.int i t) = true := keyIs_int i t
theorem mixKind_str (prog : Program) (w : World) (x : Str) (t : Tok) : (mixKind prog w).is (.inr x) (.str x t) = true := keyIs_str x t
end L2
namespace L2
open PySem PySem.Spec PyProof.Rows
inductive V where
  | non | bl (b : Bool) | int (i : Int) | str (x : Str) | byt (b : Array UInt8) | flt (b : UInt64) | ref (a : Addr) | ty (n : String)
  deriving DecidableEq
def RelV : V → Value → Prop
  | .non, u => u = Value.none
  | .bl b, u => u = Value.bool b
  | .int i, u => ∃ t, u = Value.int i t
  | .str x, u => ∃ t, u = Value.str x t
  | .byt b, u => ∃ t, u = Value.bytes b t
  | .flt b, u => ∃ t, u = Value.float b t
  | .ref a, u => u = Value.ref a
  | .ty n, u => u = Value.type n
abbrev Vals : List V → List Value → Prop := Paired RelV
theorem Vals.length {xs : List V} {us : List Value} (r : Vals xs us) : xs.length = us.length := Paired.length r
theorem Vals.get : ∀ {xs : List V} {us : List Value} {i : Nat} {x : V}, Vals xs us → xs[i]? = some x → ∃ u, us[i]? = some u ∧ RelV x u
  | _, _, _, _, .nil, e => by simp at e
  | _, _, 0, _, .cons r _, e => by simp at e; subst e; exact ⟨_, rfl, r⟩
  | _, _, i + 1, x, .cons _ t, e => by
    obtain ⟨u, h1, h2⟩ := Vals.get (i := i) (x := x) t (by simpa using e)
    exact ⟨u, by simpa using h1, h2⟩
theorem Vals.append : ∀ {xs ys : List V} {us ws : List Value}, Vals xs us → Vals ys ws → Vals (xs ++ ys) (us ++ ws)
  | _, _, _, _, .nil, s => s
  | _, _, _, _, .cons r t, s => .cons r (Vals.append t s)
theorem Vals.take : ∀ {xs : List V} {us : List Value} (n : Nat), Vals xs us → Vals (xs.take n) (us.take n)
  | _, _, 0, _ => .nil
  | _, _, _ + 1, .nil => .nil
  | _, _, n + 1, .cons r t => .cons r (Vals.take n t)
theorem Vals.drop : ∀ {xs : List V} {us : List Value} (n : Nat), Vals xs us → Vals (xs.drop n) (us.drop n)
  | _, _, 0, r => r
  | _, _, _ + 1, .nil => .nil
  | _, _, n + 1, .cons _ t => Vals.drop n t
def RelO : Option V → Option Value → Prop
  | some v, some u => RelV v u
  | none, none => True
  | _, _ => False
def KV {κ : Type} : List (κ × V) → List (κ × Value) → Prop := Paired fun (p : κ × V) (q : κ × Value) => p.1 = q.1 ∧ RelV p.2 q.2
def kV : Key → V
  | .inl i => .int i
  | .inr x => .str x
inductive HO where
  /-- a list -/
  | lst (xs : List V)
  /-- a tuple (never changes) -/
  | tup (xs : List V)
  /-- a dict whose keys are ints and texts; one whose keys are tuples of ints and texts (the empty one is both) -/
  | dK (kvs : List (Key × V)) | dT (kvs : List (List Key × V))
  /-- a set of ints: its members, its size -/
  | set (S : Int → Bool) (n : Nat)
  /-- an instance of the class at C, its dict at dx, its attributes -/
  | ins (C dx : Addr) (fs : List (Str × V))
  /-- the dict of the instance at x -/
  | own (x : Addr)
  /-- the dict of an exception -/
  | xd (fs : List (Str × V))
  /-- a bound method, f of x -/
  | met (f x : Addr)
  /-- a range object lo, lo + 1, .. below hi -/
  | rng (lo hi : Int)
  /-- a thing that is known to the object (the script; a dict while a loop walks it): read, never written while it is so -/
  | frz (o : Obj) (u : HO)
  /-- a code object's table -/
  | tbl (ps : Array Value)
  /-- any other thing, by what is true of its one object (a def of one's own: SetO a S n := HO.ext fun h => ..) -/
  | ext (φ : Heap → Prop)
abbrev Hp := Addr → Option HO
def upd (H : Hp) (a : Addr) (o : HO) : Hp := fun b => if b = a then some o else H b
theorem upd_same {H : Hp} {a : Addr} {o : HO} : upd H a o a = some o := by unfold upd; rw [if_pos rfl]
theorem upd_ne {H : Hp} {a b : Addr} {o : HO} (h : b ≠ a) : upd H a o b = H b := by unfold upd; rw [if_neg h]
theorem upd_upd {H : Hp} {a : Addr} {o u : HO} : upd (upd H a o) a u = upd H a u := by
  funext b; unfold upd; split <;> rfl
theorem ne_of {H : Hp} {a b : Addr} {o u : HO} (h : H a = some o) (h' : H b = some u) (d : o ≠ u) : a ≠ b := by
  intro e; subst e; rw [h] at h'; exact d (Option.some.inj h')
theorem ne_of_none {H : Hp} {a b : Addr} {o : HO} (h : H a = some o) (h' : H b = none) : a ≠ b := by
  intro e; subst e; rw [h] at h'; cases h'
section
variable (P : Program) (w : World)
def ObjOk (H : Hp) (h : Heap) (a : Addr) : HO → Prop
  | .lst xs => xs.length ≤ sizeLine ∧ ∃ (its : List Value) (n : Nat), Vals xs its ∧ h.get? a = some { cls := .type "list", data := .seq its.toArray n }
  | .tup xs => xs.length ≤ sizeLine ∧ ∃ its : List Value, Vals xs its ∧ IsTup h a its.toArray
  | .dK kvs => kvs.length ≤ sizeLine ∧ (a == sysModules) = false ∧ ∃ vs, KV kvs vs ∧ h.DictOf (mixKind P w) a vs
  | .dT kvs => kvs.length ≤ sizeLine ∧ (a == sysModules) = false ∧ ∃ xs : List (List Key × Addr × Value),
      Paired (fun (p : List Key × V) (q : List Key × Addr × Value) => p.1 = q.1 ∧ H q.2.1 = some (.tup (p.1.map kV)) ∧ RelV p.2 q.2.2) kvs xs ∧
      ∃ o es ep, h.get? a = some o ∧ o.ExactDict ∧ o.data = .dict es ep ∧ es.toList = xs.map (entryOfKey (tupleKind (mixKind P w))) ∧ (xs.map (·.1)).Nodup
  | .set S n => h.SetOf (intKind P w) a S n
  | .ins C dx fs => H dx = some (.own a) ∧ fs.length ≤ 1000 ∧ dx ≠ a ∧ h.get? a = some (PySem.W.instObj C dx) ∧
      ∃ mA, h.Ns1 dx mA ∧ (∀ f, RelO (fs.lookup f) (mA f)) ∧ PySem.Within mA (fs.map (·.1))
  | .own _ => ∃ o, h.get? a = some o
  | .xd fs => ∃ mA, h.Ns1 a mA ∧ ∀ f, RelO (fs.lookup f) (mA f)
  | .rng lo hi => ∃ t u v, h.get? a = some { cls := .type "range", data := .fields #[.int lo t, .int hi u, .int 1 v] }
  | .frz o u => h.get? a = some o ∧ ObjOk H h a u
  | .tbl ps => h.get? a = some { cls := .none, data := .fields ps }
  | .met f x => h.get? a = some (PySem.W.methodObj (.ref f) (.ref x))
  | .ext φ => φ h ∧ (∃ o, h.get? a = some o) ∧ ∀ h1 h2 : Heap, φ h1 → (∀ o, h1.get? a = some o → h2.get? a = some o) → φ h2
def HOk (H : Hp) (h : Heap) : Prop := ∀ a o, H a = some o → ObjOk P w H h a o
end
section
variable {P : Program} {w : World} {H H' : Hp} {h h' : Heap} {a : Addr} {o : HO}
theorem ObjOk.lt (x : ObjOk P w H h a o) : a < h.objs.size := by
  cases o with
  | lst xs => obtain ⟨_, _, _, _, e⟩ := x; exact Heap.lt_size e
  | tup xs => obtain ⟨_, _, _, p⟩ := x; exact p.lt
  | dK kvs => obtain ⟨_, _, _, _, o, _, _, e, _⟩ := x; exact Heap.lt_size e
  | dT kvs => obtain ⟨_, _, _, _, o, _, _, e, _⟩ := x; exact Heap.lt_size e
  | set S n => obtain ⟨o, _, _, _, e, _⟩ := x; exact Heap.lt_size e
  | ins C dx fs => obtain ⟨_, _, _, e, _⟩ := x; exact Heap.lt_size e
  | own y => obtain ⟨_, e⟩ := x; exact Heap.lt_size e
  | xd fs => obtain ⟨_, ⟨_, _, _, e, _⟩, _⟩ := x; exact Heap.lt_size e
  | rng lo hi => obtain ⟨_, _, _, e⟩ := x; exact Heap.lt_size e
  | frz ob u => obtain ⟨e, _⟩ := x; exact Heap.lt_size e
  | tbl ps => exact Heap.lt_size (show h.get? a = some _ from x)
  | met f y => exact Heap.lt_size (show h.get? a = some _ from x)
  | ext φ => obtain ⟨_, ⟨_, e⟩, _⟩ := x; exact Heap.lt_size e
theorem Paired.mapP {α β : Type} {F G : α → β → Prop} : ∀ {l₁ : List α} {l₂ : List β}, Paired F l₁ l₂ → (∀ a b, F a b → G a b) → Paired G l₁ l₂
  | _, _, .nil, _ => .nil
  | _, _, .cons r t, f => .cons (f _ _ r) (Paired.mapP t f)
theorem ObjOk.stay (x : ObjOk P w H h a o) (k : ∀ b u, (b = a ∨ H b = some (.own a)) → h.get? b = some u → h'.get? b = some u)
    (ho : ∀ b, H b = some (.own a) → H' b = some (.own a)) (ht : ∀ b xs, H b = some (.tup xs) → H' b = some (.tup xs)) : ObjOk P w H' h' a o := by
  induction o with
  | lst xs => obtain ⟨z, its, n, r, e⟩ := x; exact ⟨z, its, n, r, k _ _ (.inl rfl) e⟩
  | tup xs => obtain ⟨z, its, r, ob, e, c⟩ := x; exact ⟨z, its, r, ob, k _ _ (.inl rfl) e, c⟩
  | dK kvs => obtain ⟨z, y, vs, r, ob, es, ep, e, c⟩ := x; exact ⟨z, y, vs, r, ob, es, ep, k _ _ (.inl rfl) e, c⟩
  | dT kvs =>
    obtain ⟨z, y, xs, r, ob, es, ep, e, c⟩ := x
    exact ⟨z, y, xs, Paired.mapP r fun p q z => ⟨z.1, ht _ _ z.2.1, z.2.2⟩, ob, es, ep, k _ _ (.inl rfl) e, c⟩
  | set S n => obtain ⟨ob, es, ep, t, e, c⟩ := x; exact ⟨ob, es, ep, t, k _ _ (.inl rfl) e, c⟩
  | ins C dx fs =>
    obtain ⟨d, z, ne, e, mA, ⟨od, es, ep, e2, c⟩, r⟩ := x
    exact ⟨ho _ d, z, ne, k _ _ (.inl rfl) e, mA, ⟨od, es, ep, k _ _ (.inr d) e2, c⟩, r⟩
  | own y => obtain ⟨ob, e⟩ := x; exact ⟨ob, k _ _ (.inl rfl) e⟩
  | xd fs => obtain ⟨mA, ⟨od, es, ep, e, c⟩, r⟩ := x; exact ⟨mA, ⟨od, es, ep, k _ _ (.inl rfl) e, c⟩, r⟩
  | rng lo hi => obtain ⟨t, u, v, e⟩ := x; exact ⟨t, u, v, k _ _ (.inl rfl) e⟩
  | frz ob u ih => obtain ⟨e, q⟩ := x; exact ⟨k _ _ (.inl rfl) e, ih q⟩
  | tbl ps =>
    have e : h.get? a = some { cls := .none, data := .fields ps } := x
    show h'.get? a = some { cls := .none, data := .fields ps }
    exact k a _ (.inl rfl) e
  | met f y =>
    have e : h.get? a = some (PySem.W.methodObj (.ref f) (.ref y)) := x
    show h'.get? a = some (PySem.W.methodObj (.ref f) (.ref y))
    exact k a _ (.inl rfl) e
  | ext φ => obtain ⟨p, ⟨o, e⟩, st⟩ := x; exact ⟨st _ _ p fun o q => k _ _ (.inl rfl) q, ⟨o, k _ _ (.inl rfl) e⟩, st⟩
theorem HOk.lt (x : HOk P w H h) (e : H a = some o) : a < h.objs.size := (x a o e).lt
theorem HOk.fresh (x : HOk P w H h) (e : h.objs.size ≤ a) : H a = none := by
  cases q : H a with
  | none => rfl
  | some u => exact absurd (Nat.lt_of_lt_of_le (x.lt q) e) (Nat.lt_irrefl _)
theorem HOk.kept (x : HOk P w H h) (k : ∀ b u, h.get? b = some u → h'.get? b = some u) : HOk P w H h' := fun a o e =>
  (x a o e).stay (fun b u _ q => k b u q) (fun _ q => q) fun _ _ q => q
theorem HOk.laid (x : HOk P w H h) (k : ∀ b u, h.get? b = some u → h'.get? b = some u) (hp : h.objs.size ≤ a) (new : ObjOk P w (upd H a o) h' a o) : HOk P w (upd H a o) h' := fun b u e => by
  have hn := x.fresh hp
  by_cases hb : b = a
  · subst hb; rw [upd_same] at e; cases e; exact new
  · rw [upd_ne hb] at e
    exact (x b u e).stay (fun c v _ q => k c v q) (fun c q => by rw [upd_ne (ne_of_none q hn)]; exact q) fun c xs q => by rw [upd_ne (ne_of_none q hn)]; exact q
end
def Rd (H : Hp) (a : Addr) (u : HO) : Prop := H a = some u ∨ ∃ o, H a = some (.frz o u)
theorem Rd.of {H : Hp} {a : Addr} {u : HO} (h : H a = some u) : Rd H a u := .inl h
theorem Rd.ok {P : Program} {w : World} {H : Hp} {h : Heap} {a : Addr} {u : HO} (r : Rd H a u) (x : HOk P w H h) : ObjOk P w H h a u := by
  rcases r with r | ⟨o, r⟩
  · exact x a u r
  · obtain ⟨_, q⟩ := x a _ r
    exact q
def Mut : Option HO → Prop
  | some (.lst _) => True
  | some (.dK _) => True
  | some (.dT _) => True
  | some (.set _ _) => True
  | some (.ins _ _ _) => True
  | some (.ext _) => True
  | _ => False
section
variable {P : Program} {w : World} {H : Hp} {h h' : Heap} {x e : Addr} {o' : HO}
theorem HOk.write (ok : HOk P w H h) (mu : Mut (H x)) (he : e = x ∨ H e = some (.own x)) (k : ∀ b u, b ≠ e → h.get? b = some u → h'.get? b = some u) (heo : ∃ u, h'.get? e = some u)
    (new : ObjOk P w (upd H x o') h' x o') : HOk P w (upd H x o') h' := fun b u q => by
  have nown : ∀ c y, H c = some (.own y) → c ≠ x := fun c y r z => by subst z; rw [r] at mu; exact mu
  have ntup : ∀ c xs, H c = some (.tup xs) → c ≠ x := fun c xs r z => by subst z; rw [r] at mu; exact mu
  by_cases hb : b = x
  · subst hb; rw [upd_same] at q; cases q; exact new
  · rw [upd_ne hb] at q
    by_cases hbe : b = e
    · have q' : H b = some (.own x) := by
        rcases he with z | z
        · exact absurd (hbe.trans z) hb
        · rw [hbe]; exact z
      rw [q] at q'; cases q'
      obtain ⟨v, hv⟩ := heo
      exact ⟨v, by rw [hbe]; exact hv⟩
    · refine (ok b u q).stay (fun c v hc r => k c v ?_ r) (fun c r => by rw [upd_ne (nown c b r)]; exact r) fun c xs r => by rw [upd_ne (ntup c xs r)]; exact r
      rcases hc with rfl | hc
      · exact hbe
      · rintro rfl
        rcases he with z | z
        · exact nown c b hc z
        · rw [hc] at z; cases z; exact hb rfl
end
structure Un (fs ex : List Addr) (H H' : Hp) (h h' : Heap) : Prop where
  keep : ∀ b o, h.get? b = some o → H b = none → b ∉ fs → b ∉ ex → h'.get? b = some o
  slot : ∀ b o, h.get? b = some o → H b = none → b ∈ fs → b ∉ ex → ∃ sl, h'.get? b = some { o with slots := sl }
  free : ∀ b o, h.get? b = some o → H b = none → b ∉ ex → H' b = none
  there : ∀ b o, h.get? b = some o → b ∉ ex → ∃ o', h'.get? b = some o'
  tups : ∀ b xs, H b = some (.tup xs) → H' b = some (.tup xs)
  frzs : ∀ b o u, H b = some (.frz o u) → H' b = some (.frz o u)
  tbls : ∀ b ps, H b = some (.tbl ps) → ∃ more, H' b = some (.tbl (ps ++ more))
section
variable {fs fs' ex ex' : List Addr} {H H1 H2 : Hp} {h h1 h2 h' : Heap} {a x e : Addr} {o : HO}
theorem Un.any (u : Un fs ex H H1 h h1) {b : Addr} {ob : Obj} (q : h.get? b = some ob) (n : H b = none) (hx : b ∉ ex) : ∃ sl, h1.get? b = some { ob with slots := sl } := by
  by_cases hb : b ∈ fs
  · exact u.slot b ob q n hb hx
  · exact ⟨ob.slots, u.keep b ob q n hb hx⟩
theorem Un.kept (k : ∀ b u, h.get? b = some u → h'.get? b = some u) : Un fs ex H H h h' :=
  ⟨fun b ob q _ _ _ => k b ob q, fun b ob q _ _ _ => ⟨ob.slots, k b ob q⟩, fun _ _ _ n _ => n, fun b ob q _ => ⟨ob, k b ob q⟩, fun _ _ q => q, fun _ _ _ q => q, fun _ ps q => ⟨#[], by rw [q]; simp⟩⟩
theorem Un.refl : Un fs ex H H h h := Un.kept fun _ _ q => q
theorem Un.laid (k : ∀ b u, h.get? b = some u → h'.get? b = some u) (hp : h.objs.size ≤ a) (hn : H a = none) : Un fs ex H (upd H a o) h h' where
  keep := fun b u q _ _ _ => k b u q
  slot := fun b u q _ _ _ => ⟨u.slots, k b u q⟩
  free := fun b u q n _ => by rw [upd_ne (Nat.ne_of_lt (Nat.lt_of_lt_of_le (Heap.lt_size q) hp))]; exact n
  there := fun b u q _ => ⟨u, k b u q⟩
  tups := fun b xs q => by rw [upd_ne (ne_of_none q hn)]; exact q
  frzs := fun b u xs q => by rw [upd_ne (ne_of_none q hn)]; exact q
  tbls := fun b ps q => ⟨#[], by rw [upd_ne (ne_of_none q hn), q]; simp⟩
theorem Un.write (mu : Mut (H x)) (he : e = x ∨ H e = some (.own x)) (k : ∀ b u, b ≠ e → h.get? b = some u → h'.get? b = some u) (heo : ∃ u, h'.get? e = some u) : Un fs ex H (upd H x o) h h' := by
  have hx : ∀ b, H b = none → b ≠ x := fun b n z => by subst z; rw [n] at mu; exact mu
  have hb : ∀ b, H b = none → b ≠ e := fun b n z => by
    subst z
    rcases he with r | r
    · exact hx b n r
    · rw [n] at r; cases r
  have hm : ∀ b u, H b = some u → ¬ Mut (some u) → b ≠ x := fun b u q nm z => by subst z; rw [q] at mu; exact nm mu
  refine ⟨fun b u q n _ _ => k b u (hb b n) q, fun b u q n _ _ => ⟨u.slots, k b u (hb b n) q⟩, fun b u q n _ => by rw [upd_ne (hx b n)]; exact n, fun b u q _ => ?_,
    fun b xs q => by rw [upd_ne (hm b _ q fun z => z)]; exact q, fun b u xs q => by rw [upd_ne (hm b _ q fun z => z)]; exact q, fun b ps q => ⟨#[], by rw [upd_ne (hm b _ q fun z => z), q]; simp⟩⟩
  by_cases hbe : b = e
  · subst hbe; exact heo
  · exact ⟨u, k b u hbe q⟩
end
def trk (h : Heap) (H : Hp) : List Addr := (List.range h.objs.size).filter fun a => (H a).isSome
def hidT (h : Heap) (H : Hp) : Heap := PySem.W.hideAll h (trk h H)
theorem hidT_size (h : Heap) (H : Hp) : (hidT h H).objs.size = h.objs.size := PySem.W.hideAll_size _ _
theorem hidT_get {h : Heap} {H : Hp} {b : Addr} {o : Obj} (e : h.get? b = some o) (n : H b = none) : (hidT h H).get? b = some o :=
  PySem.W.hideAll_get _ e fun hm => by
    have q : (H b).isSome = true := (List.mem_filter.mp hm).2
    rw [n] at q; simp at q
theorem of_hidT {h : Heap} {H : Hp} {b : Addr} {o : Obj} (e : (hidT h H).get? b = some o) : h.get? b = some o ∧ H b = none := by
  have e' : h.get? b = some o := PySem.W.of_hideAll (trk h H) e
  refine ⟨e', ?_⟩
  cases q : H b with
  | none => rfl
  | some x =>
    have hm : b ∈ trk h H := List.mem_filter.mpr ⟨List.mem_range.mpr (Heap.lt_size e'), by simp [q]⟩
    have z : (hidT h H).get? b = none := PySem.W.hideAll_none (trk h H) hm
    rw [z] at e; cases e
end L2
namespace L2
open PySem PySem.Spec PyProof.Rows
structure Mod (K : PySem.W.Frag) (mg : Str → Option Value) (base : Heap) : Prop where
  kin : K.In base
  glob : base.Ns mainGlobals mg
  blt : ∃ mb, base.Ns builtinsNs mb ∧ ∀ x : Str, x ≠ "__name__" → mb x = bootBuiltins x
  nolimit : base.NoLimit
structure Cx where
  prog : Program
  w : World
  K : PySem.W.Frag
  mg : Str → Option Value
  base : Heap
  A : Around
  N : List Str
  s₀ : Shared
  H₀ : Hp
  env : Env
  outer : List Env
  stack : List Env
  ex : List Addr
  fn : Str → Bool
  calm : Bool
  pn : List (Addr × Obj)
  xe : Value → Shared → Prop
def frs (l : List Env) : List Addr := l.filterMap (·.frame)
abbrev Cx.fs (X : Cx) : List Addr := frs X.outer
def Vis (sc : Scope) (x : Str) : Prop := sc.names.lookup x = some .local ∨ sc.names.lookup x = some .cell ∨ sc.names.lookup x = some .free
def Loc (sc : Scope) (x : Str) : Prop := sc.names.lookup x = some .local ∨ sc.names.lookup x = some .cell
def Look (env : Env) (h : Heap) (m : Str → Option Value) (x : Str) (u : Value) : Prop :=
  (env.kindOf x = some .local ∧ m x = some u) ∨ ((env.kindOf x = some .cell ∨ env.kindOf x = some .free) ∧ ∃ c, env.cells.lookup x = some c ∧ h.IsCell c (some u))
structure Cx.Ok (X : Cx) : Prop where
  mod : Mod X.K X.mg X.base
  kind : X.env.scope.kind = .function
  glob : X.env.globals = mainGlobals
  blt : X.env.builtins = builtinsNs
  above : X.s₀.heap.objs.size ≤ X.env.locals
  inj : ∀ x y c, X.env.cells.lookup x = some c → X.env.cells.lookup y = some c → x = y
  has : ∀ x, (X.env.kindOf x = some .cell ∨ X.env.kindOf x = some .free) → ∃ c, X.env.cells.lookup x = some c
  cab : ∀ x c, X.fn x = true → X.env.cells.lookup x = some c → X.s₀.heap.objs.size ≤ c
  hd : X.calm = true → X.A.handled = none
  frames : X.A.frames = some X.stack
  stk : X.stack = X.outer ∨ (X.stack = X.env :: X.outer ∧ X.env.frame = some X.env.locals)
  exf : ∀ b ∈ X.ex, b ≠ X.env.locals ∧ ∀ x c, X.env.cells.lookup x = some c → c ≠ b
  bs : ∀ b o, X.base.get? b = some o → X.s₀.heap.get? b = some o ∧ X.H₀ b = none
  bsz : X.base.objs.size ≤ X.s₀.heap.objs.size
  noex : ∀ b o, X.base.get? b = some o → b ∉ X.ex
  exfs : ∀ b ∈ X.ex, b ∉ X.fs
  funs : X.s₀.heap.FunFrames X.base X.outer
  frf : ∀ b ∈ X.fs, X.H₀ b = none
structure Inv (X : Cx) (pins : List (Addr × Obj)) (σ : List (Option V)) (H : Hp) (s : Shared) : Prop where
  ok : X.Ok
  os : s.os = X.s₀.os
  bare : AllBare s.gens
  base : Un X.fs X.ex X.H₀ H X.s₀.heap s.heap
  loc : ∃ m, s.heap.Ns X.env.locals m ∧ ∀ (i : Nat) (x : Str) (v : V), X.N[i]? = some x → σ[i]? = some (some v) → Vis X.env.scope x → ∃ u, RelV v u ∧ Look X.env s.heap m x u
  cell : ∀ x c, X.env.cells.lookup x = some c → ∃ v, s.heap.IsCell c v
  free : H X.env.locals = none
  freeC : ∀ x c, X.env.cells.lookup x = some c → H c = none
  pin : ∀ p ∈ X.pn ++ pins, s.heap.get? p.1 = some p.2 ∧ H p.1 = none ∧ p.1 ≠ X.env.locals ∧ p.1 ∉ X.fs ∧ ∀ v, p.2.data ≠ .cell v
  hok : HOk X.prog X.w H s.heap
  len : σ.length = X.N.length
section
variable {X : Cx} {pins : List (Addr × Obj)} {σ : List (Option V)} {H H' : Hp} {s : Shared} {h' : Heap}
theorem Cx.Ok.nofr (ok : X.Ok) {b : Addr} {o : Obj} (e : X.base.get? b = some o) : b ∉ X.fs := fun hb => by
  have := (ok.funs.mem hb).1
  rw [e] at this; cases this
theorem Inv.bs (I : Inv X pins σ H s) : ∀ b o, X.base.get? b = some o → s.heap.get? b = some o ∧ H b = none := fun b o e =>
  ⟨I.base.keep b o (I.ok.bs b o e).1 (I.ok.bs b o e).2 (I.ok.nofr e) (I.ok.noex b o e), I.base.free b o (I.ok.bs b o e).1 (I.ok.bs b o e).2 (I.ok.noex b o e)⟩
theorem Inv.bk (I : Inv X pins σ H s) : ∀ b o, X.base.get? b = some o → s.heap.get? b = some o := fun b o e => (I.bs b o e).1
theorem Inv.mod (I : Inv X pins σ H s) : Mod X.K X.mg X.base := I.ok.mod
theorem Inv.kIn (I : Inv X pins σ H s) : X.K.In s.heap := I.ok.mod.kin.keeps I.bk
theorem Inv.lt (I : Inv X pins σ H s) : X.env.locals < s.heap.objs.size := let ⟨_, hn, _⟩ := I.loc; hn.lt
theorem Inv.sz (I : Inv X pins σ H s) : X.s₀.heap.objs.size ≤ s.heap.objs.size := Nat.le_trans I.ok.above (Nat.le_of_lt I.lt)
theorem Inv.nofs (I : Inv X pins σ H s) {a : Addr} (h : s.heap.objs.size ≤ a) : a ∉ X.fs := fun hb => by
  obtain ⟨_, o, ho, _⟩ := I.ok.funs.mem hb
  exact absurd (Nat.lt_of_lt_of_le (Heap.lt_size ho) (Nat.le_trans I.sz h)) (Nat.lt_irrefl _)
theorem Inv.cne (I : Inv X pins σ H s) : ∀ x c, X.env.cells.lookup x = some c → c ≠ X.env.locals := fun x c e z => by
  obtain ⟨v, o, ho, hd⟩ := I.cell x c e
  obtain ⟨m, ⟨o', es, ep, ho', hd', _⟩, _⟩ := I.loc
  rw [z, ho'] at ho; cases ho; rw [hd'] at hd; cases hd
theorem Inv.funs (I : Inv X pins σ H s) : s.heap.FunFrames X.base X.outer := by
  have all : ∀ (l : List Env), (∀ b ∈ frs l, b ∈ X.fs) → X.s₀.heap.FunFrames X.base l → s.heap.FunFrames X.base l := by
    intro l
    induction l with
    | nil => intro _ _; trivial
    | cons env r ih =>
      intro hs hl
      obtain ⟨hk, ⟨L, o, hf, hn, ho, hd⟩, hr⟩ := hl
      have hL : L ∈ X.fs := hs L (by unfold frs; rw [List.filterMap_cons, hf]; exact List.mem_cons_self)
      obtain ⟨sl, e⟩ := I.base.slot L o ho (I.ok.frf L hL) hL fun z => I.ok.exfs L z hL
      exact ⟨hk, ⟨L, _, hf, hn, e, hd⟩, ih (fun b hb => hs b (by unfold frs; rw [List.filterMap_cons, hf]; exact List.mem_cons_of_mem _ hb)) hr⟩
  exact all X.outer (fun _ hb => hb) I.ok.funs
theorem Inv.stack (I : Inv X pins σ H s) : s.heap.FunFrames X.base X.stack := by
  rcases I.ok.stk with e | ⟨e, hf⟩
  · rw [e]; exact I.funs
  · rw [e]
    obtain ⟨m, hn, _⟩ := I.loc
    refine .cons (by rw [I.ok.kind]; decide) hf hn ?_ I.funs
    exact Heap.get?_none_of_le (Nat.le_trans I.ok.bsz I.ok.above)
theorem Inv.stkSub (I : Inv X pins σ H s) : ∀ b ∈ frs X.stack, b ∈ X.env.locals :: X.fs := fun b hb => by
  rcases I.ok.stk with e | ⟨e, hf⟩
  · rw [e] at hb; exact List.mem_cons_of_mem _ hb
  · rw [e] at hb
    unfold frs at hb
    rw [List.filterMap_cons, hf] at hb
    exact hb
theorem Inv.stkFree (I : Inv X pins σ H s) : ∀ b ∈ frs X.stack, H b = none := fun b hb => by
  rcases List.mem_cons.mp (I.stkSub b hb) with e | hb
  · rw [e]; exact I.free
  · obtain ⟨_, o, ho, _⟩ := I.ok.funs.mem hb
    exact I.base.free b o ho (I.ok.frf b hb) fun z => I.ok.exfs b z hb
theorem Inv.step {g' : Array GenState} {t' : Nat} {d' : Drawn} {ch : List Addr} (I : Inv X pins σ H s)
    (hch : ∀ b ∈ ch, (b ∈ X.ex ∨ X.s₀.heap.objs.size ≤ b) ∧ b ≠ X.env.locals ∧ (∀ x c, X.env.cells.lookup x = some c → c ≠ b) ∧ ∀ p ∈ X.pn ++ pins, p.1 ≠ b)
    (keep : ∀ b o, b ≠ X.env.locals → b ∉ X.fs → b ∉ ch → s.heap.get? b = some o → H b = none → h'.get? b = some o)
    (slot : ∀ b o, b ≠ X.env.locals → b ∈ X.fs → b ∉ ch → s.heap.get? b = some o → H b = none → ∃ sl, h'.get? b = some { o with slots := sl }) (free : ∀ b o, b ∉ ch → s.heap.get? b = some o → H b = none → H' b = none)
    (there : ∀ b o, b ∉ ch → s.heap.get? b = some o → ∃ o', h'.get? b = some o')
    (tups : ∀ b xs, H b = some (.tup xs) → H' b = some (.tup xs)) (frzs : ∀ b o u, H b = some (.frz o u) → H' b = some (.frz o u)) (tbls : ∀ b ps, H b = some (.tbl ps) → ∃ more, H' b = some (.tbl (ps ++ more)))
    (ns : ∀ m, s.heap.Ns X.env.locals m → h'.Ns X.env.locals m) (hok : HOk X.prog X.w H' h') (hg : AllBare g') :
    Inv X pins σ H' { s with heap := h', gens := g', drawn := d', toks := t' } := by
  have neL : ∀ b o, X.s₀.heap.get? b = some o → b ≠ X.env.locals := fun b o e => Nat.ne_of_lt (Nat.lt_of_lt_of_le (Heap.lt_size e) I.ok.above)
  have neC : ∀ b o, X.s₀.heap.get? b = some o → b ∉ X.ex → b ∉ ch := fun b o e hx hb => by
    rcases (hch b hb).1 with z | z
    · exact hx z
    · exact absurd (Nat.lt_of_lt_of_le (Heap.lt_size e) z) (Nat.lt_irrefl _)
  have cellK : ∀ x c, X.env.cells.lookup x = some c → ∀ v, s.heap.IsCell c v → h'.IsCell c v := fun x c e v ⟨o, ho, hd⟩ => by
    have nch : c ∉ ch := fun z => (hch c z).2.2.1 x c e rfl
    by_cases hc : c ∈ X.fs
    · obtain ⟨sl, q⟩ := slot c o (I.cne x c e) hc nch ho (I.freeC x c e)
      exact ⟨_, q, hd⟩
    · exact ⟨o, keep c o (I.cne x c e) hc nch ho (I.freeC x c e), hd⟩
  refine ⟨I.ok, I.os, hg, ⟨fun b o e n hb hx => ?_, fun b o e n hb hx => ?_, fun b o e n hx => ?_, fun b o e hx => ?_, fun b xs e => tups b xs (I.base.tups b xs e), fun b o xs e => frzs b o xs (I.base.frzs b o xs e), fun b ps e => ?_⟩, ?_, fun x c e => ?_, ?_, fun x c e => ?_, fun p hp => ?_, hok, I.len⟩
  · exact keep b o (neL b o e) hb (neC b o e hx) (I.base.keep b o e n hb hx) (I.base.free b o e n hx)
  · obtain ⟨sl, e1⟩ := I.base.slot b o e n hb hx
    obtain ⟨sl', e2⟩ := slot b _ (neL b o e) hb (neC b o e hx) e1 (I.base.free b o e n hx)
    exact ⟨sl', e2⟩
  · obtain ⟨o', e1⟩ := I.base.there b o e hx
    exact free b o' (neC b o e hx) e1 (I.base.free b o e n hx)
  · obtain ⟨o', e1⟩ := I.base.there b o e hx
    exact there b o' (neC b o e hx) e1
  · obtain ⟨m1, e1⟩ := I.base.tbls b ps e
    obtain ⟨m2, e2⟩ := tbls b _ e1
    exact ⟨m1 ++ m2, by rw [e2, Array.append_assoc]⟩
  · obtain ⟨m, hn, hl⟩ := I.loc
    refine ⟨m, ns m hn, fun i x v e1 e2 e3 => ?_⟩
    obtain ⟨u, r, l⟩ := hl i x v e1 e2 e3
    refine ⟨u, r, ?_⟩
    rcases l with l | ⟨k, c, e, z⟩
    · exact .inl l
    · exact .inr ⟨k, c, e, cellK x c e _ z⟩
  · obtain ⟨v, z⟩ := I.cell x c e
    exact ⟨v, cellK x c e v z⟩
  · obtain ⟨m, ⟨o, _, _, ho, _⟩, _⟩ := I.loc
    exact free _ o (fun z => (hch _ z).2.1 rfl) ho I.free
  · obtain ⟨v, o, ho, hd⟩ := I.cell x c e
    exact free c o (fun z => (hch c z).2.2.1 x c e rfl) ho (I.freeC x c e)
  · obtain ⟨e, n, ne, nf, d⟩ := I.pin p hp
    have nch : p.1 ∉ ch := fun z => (hch p.1 z).2.2.2 p hp rfl
    exact ⟨keep p.1 p.2 ne nf nch e n, free p.1 p.2 nch e n, ne, nf, d⟩
theorem Inv.un {t' : Nat} (I : Inv X pins σ H s) (u : Un X.fs [] H H' s.heap h') (hok : HOk X.prog X.w H' h') : Inv X pins σ H' { s with heap := h', toks := t' } := by
  obtain ⟨m, ⟨o, es, ep, ho, r⟩, _⟩ := id I.loc
  obtain ⟨sl, hL⟩ := u.any ho I.free (by simp)
  exact I.step (g' := s.gens) (d' := s.drawn) (ch := []) (fun _ z => nomatch z) (fun b o _ hb _ e n => u.keep b o e n hb (by simp)) (fun b o _ hb _ e n => u.slot b o e n hb (by simp)) (fun b o _ e n => u.free b o e n (by simp)) (fun b o _ e => u.there b o e (by simp)) u.tups u.frzs u.tbls (fun m' hm => by
    obtain ⟨o', es', ep', ho', r'⟩ := hm
    rw [ho] at ho'; cases ho'
    exact ⟨_, es', ep', hL, r'⟩) hok I.bare
theorem Inv.call {g' : Array GenState} {t' : Nat} {d' : Drawn} {ch : List Addr} (I : Inv X pins σ H s) (u : Un (frs X.stack) ch H H' s.heap h') (hok : HOk X.prog X.w H' h') (hg : AllBare g')
    (hch : ∀ b ∈ ch, (b ∈ X.ex ∨ X.s₀.heap.objs.size ≤ b) ∧ b ≠ X.env.locals ∧ (∀ x c, X.env.cells.lookup x = some c → c ≠ b) ∧ ∀ p ∈ X.pn ++ pins, p.1 ≠ b) :
    Inv X pins σ H' { s with heap := h', gens := g', drawn := d', toks := t' } := by
  obtain ⟨m, ⟨o, es, ep, ho, r⟩, _⟩ := id I.loc
  obtain ⟨sl, hL⟩ := u.any ho I.free fun z => (hch _ z).2.1 rfl
  exact I.step (ch := ch) hch (fun b o hL hb hc e n => u.keep b o e n (fun z => (List.mem_cons.mp (I.stkSub b z)).elim hL hb) hc) (fun b o _ _ hc e n => u.any e n hc) (fun b o hc e n => u.free b o e n hc) (fun b o hc e => u.there b o e hc) u.tups u.frzs u.tbls (fun m' hm => by
    obtain ⟨o', es', ep', ho', r'⟩ := hm
    rw [ho] at ho'; cases ho'
    exact ⟨_, es', ep', hL, r'⟩) hok hg
theorem Inv.turned {t' : Nat} {it : Addr} (I : Inv X pins σ H s) (k : ∀ b o, b ≠ it → s.heap.get? b = some o → h'.get? b = some o) (hn : H it = none) (hL : it ≠ X.env.locals)
    (h1 : it ∈ X.ex ∨ X.s₀.heap.objs.size ≤ it) (h2 : ∀ x c, X.env.cells.lookup x = some c → c ≠ it) (h3 : ∀ p ∈ X.pn ++ pins, p.1 ≠ it) : Inv X pins σ H { s with heap := h', toks := t' } := by
  have nit : ∀ b u, H b = some u → b ≠ it := fun b u e z => by rw [z, hn] at e; cases e
  refine I.step (g' := s.gens) (d' := s.drawn) (ch := [it]) (fun b hb => ?_) (fun b o _ _ hc e _ => k b o (fun z => hc (by simp [z])) e) (fun b o _ _ hc e _ => ⟨o.slots, k b o (fun z => hc (by simp [z])) e⟩) (fun _ _ _ _ n => n)
    (fun b o hc e => ⟨o, k b o (fun z => hc (by simp [z])) e⟩) (fun _ _ e => e) (fun _ _ _ e => e) (fun b ps e => ⟨#[], by rw [e]; simp⟩) (fun m hm => ?_) (fun b u e => ?_) I.bare
  · have e : b = it := by simpa using hb
    subst e
    exact ⟨h1, hL, h2, h3⟩
  · obtain ⟨o, es, ep, ho, r⟩ := hm
    exact ⟨o, es, ep, k _ o (Ne.symm hL) ho, r⟩
  · refine (I.hok b u e).stay (fun c v hc q => k c v ?_ q) (fun _ q => q) fun _ _ q => q
    rcases hc with z | z
    · rw [z]; exact nit b u e
    · exact nit c _ z
theorem Inv.tok (I : Inv X pins σ H s) (t : Nat) : Inv X pins σ H { s with toks := t } := I.un (h' := s.heap) (t' := t) Un.refl I.hok
theorem Inv.kept {t' : Nat} (I : Inv X pins σ H s) (k : ∀ b u, s.heap.get? b = some u → h'.get? b = some u) : Inv X pins σ H { s with heap := h', toks := t' } := I.un (Un.kept k) (I.hok.kept k)
theorem Inv.laid {a : Addr} {o : HO} {t' : Nat} (I : Inv X pins σ H s) (k : ∀ b u, s.heap.get? b = some u → h'.get? b = some u) (hp : s.heap.objs.size ≤ a) (new : ObjOk X.prog X.w (upd H a o) h' a o) :
    Inv X pins σ (upd H a o) { s with heap := h', toks := t' } := I.un (Un.laid k hp (I.hok.fresh hp)) (I.hok.laid k hp new)
theorem Inv.write {x e : Addr} {o : HO} {t' : Nat} (I : Inv X pins σ H s) (mu : Mut (H x)) (he : e = x ∨ H e = some (.own x)) (k : ∀ b u, b ≠ e → s.heap.get? b = some u → h'.get? b = some u) (heo : ∃ u, h'.get? e = some u)
    (new : ObjOk X.prog X.w (upd H x o) h' x o) : Inv X pins σ (upd H x o) { s with heap := h', toks := t' } := I.un (Un.write mu he k heo) (I.hok.write mu he k heo new)
theorem Inv.weak {σ' : List (Option V)} (I : Inv X pins σ H s) (hl : σ'.length = σ.length) (w : ∀ (i : Nat) v, σ'[i]? = some (some v) → σ[i]? = some (some v)) : Inv X pins σ' H s :=
  ⟨I.ok, I.os, I.bare, I.base, let ⟨m, hn, hl'⟩ := I.loc; ⟨m, hn, fun i x v e1 e2 e3 => hl' i x v e1 (w i v e2) e3⟩, I.cell, I.free, I.freeC, I.pin, I.hok, hl.trans I.len⟩
theorem Inv.pins_of {pins' : List (Addr × Obj)} (I : Inv X pins σ H s) (h : ∀ p ∈ pins', s.heap.get? p.1 = some p.2 ∧ H p.1 = none ∧ p.1 ≠ X.env.locals ∧ p.1 ∉ X.fs ∧ ∀ v, p.2.data ≠ .cell v) : Inv X pins' σ H s :=
  ⟨I.ok, I.os, I.bare, I.base, I.loc, I.cell, I.free, I.freeC, fun p hp => (List.mem_append.mp hp).elim (fun z => I.pin p (List.mem_append_left _ z)) (h p), I.hok, I.len⟩
theorem nodup_ix {N : List Str} (hN : N.Nodup) {i j : Nat} {x : Str} (a : N[i]? = some x) (b : N[j]? = some x) : i = j := by
  obtain ⟨h1, e1⟩ := List.getElem?_eq_some_iff.mp a
  obtain ⟨h2, e2⟩ := List.getElem?_eq_some_iff.mp b
  exact (List.getElem_inj hN).mp (e1.trans e2.symm)
theorem store_ok2 {M : Model} {A : Around} {E : Value → Shared → Prop} {i : Nat} {x : Str} {v : V} {u : Value} {Q : Unit → Shared → Prop} (I : Inv X pins σ H s) (hN : X.N.Nodup) (hi : X.N[i]? = some x) (hx : Loc X.env.scope x) (r : RelV v u)
    (h : ∀ s', Inv X pins (σ.set i (some v)) H s' → (∃ a, Heap.SameBut a s.heap s'.heap ∧ (a = X.env.locals ∨ X.env.cells.lookup x = some a)) → Q () s') (hf : X.fn x = true ∨ X.env.scope.names.lookup x = some .local := by first | exact .inl rfl | exact .inr rfl | assumption) : wpAny M A (storeName X.env x u) Q E s := by
  obtain ⟨m, hn, hl⟩ := id I.loc
  have hcls : (X.env.scope.kind == .class || (X.env.scope.kind == .module && X.env.locals != X.env.globals)) = false := by rw [I.ok.kind]; rfl
  have hiσ : i < σ.length := by rw [I.len]; exact (List.getElem?_eq_some_iff.mp hi).1
  have cne := I.cne
  have tracked : ∀ {a : Addr} {h' : Heap}, (∃ o, s.heap.get? a = some o ∧ H a = none) → Heap.SameBut a s.heap h' → HOk X.prog X.w H h' := fun {a h'} ha hs b ob e => by
    obtain ⟨_, _, hfree⟩ := ha
    refine (I.hok b ob e).stay (fun c w' hc q => (hs.2 c ?_).trans q) (fun _ q => q) fun _ _ q => q
    rintro rfl
    rcases hc with rfl | hc
    · rw [hfree] at e; cases e
    · rw [hfree] at hc; cases hc
  rcases hx with hk | hk
  · refine wpAny_storeName_local hk hn (fun h' hn' hs => ?_) hcls
    obtain ⟨oL, _, _, hoL, _⟩ := id hn
    refine h _ ⟨I.ok, I.os, I.bare, ⟨fun b o e n hb hx => ?_, fun b o e n hb hx => ?_, I.base.free, fun b o e hx => ?_, I.base.tups, I.base.frzs, I.base.tbls⟩, ⟨_, hn', fun j y v' e1 e2 e3 => ?_⟩, fun y c e => ?_, I.free, I.freeC, fun p hp => ?_, tracked ⟨oL, hoL, I.free⟩ hs, by simpa using I.len⟩ ⟨_, hs, .inl rfl⟩
    · exact (hs.2 b (Nat.ne_of_lt (Nat.lt_of_lt_of_le (Heap.lt_size e) I.ok.above))).trans (I.base.keep b o e n hb hx)
    · obtain ⟨sl, e1⟩ := I.base.slot b o e n hb hx
      exact ⟨sl, (hs.2 b (Nat.ne_of_lt (Nat.lt_of_lt_of_le (Heap.lt_size e) I.ok.above))).trans e1⟩
    · obtain ⟨o', e1⟩ := I.base.there b o e hx
      exact ⟨o', (hs.2 b (Nat.ne_of_lt (Nat.lt_of_lt_of_le (Heap.lt_size e) I.ok.above))).trans e1⟩
    · by_cases hj : j = i
      · subst hj
        rw [hi] at e1; cases e1
        rw [List.getElem?_set_self hiσ] at e2
        cases e2
        exact ⟨u, r, .inl ⟨hk, by simp⟩⟩
      · rw [List.getElem?_set_ne (Ne.symm hj)] at e2
        obtain ⟨u', r', q⟩ := hl j y v' e1 e2 e3
        refine ⟨u', r', ?_⟩
        rcases q with ⟨k, e⟩ | ⟨k, c, e, z⟩
        · refine .inl ⟨k, ?_⟩
          have : y ≠ x := fun e => hj (nodup_ix hN e1 (e ▸ hi))
          simp [this, e]
        · exact .inr ⟨k, c, e, z.sameBut hs (cne y c e)⟩
    · obtain ⟨w', z⟩ := I.cell y c e
      exact ⟨w', z.sameBut hs (cne y c e)⟩
    · obtain ⟨e, n, ne, nf, d⟩ := I.pin p hp
      exact ⟨(hs.2 p.1 ne).trans e, n, ne, nf, d⟩
  · have hfn : X.fn x = true := by
      rcases hf with z | z
      · exact z
      · rw [z] at hk; cases hk
    obtain ⟨c, hc⟩ := I.ok.has x (.inl hk)
    obtain ⟨w', z⟩ := I.cell x c hc
    refine wpAny_storeName_cell I.ok.kind hk hc z (fun h' hc' hs => ?_)
    obtain ⟨oc, hoc, hocd⟩ := id z
    refine h { s with heap := h' } ⟨I.ok, I.os, I.bare, ⟨fun b o e n hb hx => ?_, fun b o e n hb hx => ?_, I.base.free, fun b o e hx => ?_, I.base.tups, I.base.frzs, I.base.tbls⟩, ⟨m, hn.sameBut hs (Ne.symm (cne x c hc)), fun j y v' e1 e2 e3 => ?_⟩, fun y c' e => ?_, I.free, I.freeC, fun p hp => ?_, tracked ⟨oc, hoc, I.freeC x c hc⟩ hs, by simpa using I.len⟩ ⟨c, hs, .inr hc⟩
    · exact (hs.2 b (Nat.ne_of_lt (Nat.lt_of_lt_of_le (Heap.lt_size e) (I.ok.cab x c hfn hc)))).trans (I.base.keep b o e n hb hx)
    · obtain ⟨sl, e1⟩ := I.base.slot b o e n hb hx
      exact ⟨sl, (hs.2 b (Nat.ne_of_lt (Nat.lt_of_lt_of_le (Heap.lt_size e) (I.ok.cab x c hfn hc)))).trans e1⟩
    · obtain ⟨o', e1⟩ := I.base.there b o e hx
      exact ⟨o', (hs.2 b (Nat.ne_of_lt (Nat.lt_of_lt_of_le (Heap.lt_size e) (I.ok.cab x c hfn hc)))).trans e1⟩
    · by_cases hj : j = i
      · subst hj
        rw [hi] at e1; cases e1
        rw [List.getElem?_set_self hiσ] at e2
        cases e2
        exact ⟨u, r, .inr ⟨.inl hk, c, hc, hc'⟩⟩
      · rw [List.getElem?_set_ne (Ne.symm hj)] at e2
        obtain ⟨u', r', q⟩ := hl j y v' e1 e2 e3
        refine ⟨u', r', ?_⟩
        rcases q with q | ⟨k, c', e, z'⟩
        · exact .inl q
        · refine .inr ⟨k, c', e, z'.sameBut hs ?_⟩
          rintro rfl
          exact hj (nodup_ix hN e1 (I.ok.inj _ _ _ e hc ▸ hi))
    · by_cases hcc : c' = c
      · subst hcc; exact ⟨_, hc'⟩
      · obtain ⟨w2, z2⟩ := I.cell y c' e
        exact ⟨w2, z2.sameBut hs hcc⟩
    · obtain ⟨e, n, ne, nf, d⟩ := I.pin p hp
      refine ⟨(hs.2 p.1 ?_).trans e, n, ne, nf, d⟩
      intro q
      rw [q, hoc] at e
      have q' : oc = p.2 := Option.some.inj e
      exact d w' (by rw [← q']; exact hocd)
theorem store_ok {M : Model} {A : Around} {E : Value → Shared → Prop} {i : Nat} {x : Str} {v : V} {u : Value} {Q : Unit → Shared → Prop} (I : Inv X pins σ H s) (hN : X.N.Nodup) (hi : X.N[i]? = some x) (hx : Loc X.env.scope x) (r : RelV v u)
    (h : ∀ s', Inv X pins (σ.set i (some v)) H s' → Q () s') (hf : X.fn x = true ∨ X.env.scope.names.lookup x = some .local := by first | exact .inl rfl | exact .inr rfl | assumption) : wpAny M A (storeName X.env x u) Q E s :=
  store_ok2 I hN hi hx r (fun s' I' _ => h s' I') hf
theorem Inv.call' {s' : Shared} {ch : List Addr} (I : Inv X pins σ H s) (ho : s'.os = s.os) (u : Un (frs X.stack) ch H H' s.heap s'.heap) (hok : HOk X.prog X.w H' s'.heap) (hg : AllBare s'.gens)
    (hch : ∀ b ∈ ch, (b ∈ X.ex ∨ X.s₀.heap.objs.size ≤ b) ∧ b ≠ X.env.locals ∧ (∀ x c, X.env.cells.lookup x = some c → c ≠ b) ∧ ∀ p ∈ X.pn ++ pins, p.1 ≠ b) : Inv X pins σ H' s' := by
  obtain ⟨h', g', d', t', o'⟩ := s'
  have e : o' = s.os := ho
  subst e
  exact I.call (g' := g') (t' := t') (d' := d') u hok hg hch
end
abbrev XK := Value → Option Addr → Hp → Prop
abbrev St := List (Option V)
abbrev VK := V → Hp → Prop
abbrev TE := St → Hp → VK → Prop
abbrev TT := St → Hp → (Bool → Hp → Prop) → Prop
abbrev TA := St → Hp → (List V → Hp → Prop) → Prop
structure Ends where
  nx : St → Hp → Prop
  rt : VK
  bk : St → Hp → Prop := fun _ _ => False
  ct : St → Hp → Prop := fun _ _ => False
abbrev TS := Ends → St → Hp → Prop
def EP (X : Cx) (pins : List (Addr × Obj)) (σ : St) (Q : VK) (u : Value) (s' : Shared) : Prop := ∃ v H', Inv X pins σ H' s' ∧ RelV v u ∧ Q v H'
def TP (X : Cx) (pins : List (Addr × Obj)) (σ : St) (Q : Bool → Hp → Prop) (b : Bool) (s' : Shared) : Prop := ∃ H', Inv X pins σ H' s' ∧ Q b H'
def AP (X : Cx) (pins : List (Addr × Obj)) (σ : St) (Q : List V → Hp → Prop) (us : List Value) (s' : Shared) : Prop := ∃ vs H', Inv X pins σ H' s' ∧ Vals vs us ∧ Q vs H'
def SP (X : Cx) (pins : List (Addr × Obj)) (D : Ends) (f : Flow) (s' : Shared) : Prop :=
  match f with
  | .next => ∃ σ' H', Inv X pins σ' H' s' ∧ D.nx σ' H'
  | .brk => ∃ σ' H', Inv X pins σ' H' s' ∧ D.bk σ' H'
  | .cont => ∃ σ' H', Inv X pins σ' H' s' ∧ D.ct σ' H'
  | .ret u => ∃ v σ' H', Inv X pins σ' H' s' ∧ RelV v u ∧ D.rt v H'
def PE (X : Cx) (e : Expr) (t : TE) : Prop :=
  ∀ (pins : List (Addr × Obj)) (s : Shared) (σ : St) (H : Hp) (Q : VK), Inv X pins σ H s → t σ H Q → wpAny (model X.prog X.w) X.A (eval e X.env) (EP X pins σ Q) X.xe s
def PT (X : Cx) (e : Expr) (t : TT) : Prop :=
  ∀ (pins : List (Addr × Obj)) (s : Shared) (σ : St) (H : Hp) (Q : Bool → Hp → Prop), Inv X pins σ H s → t σ H Q → wpAny (model X.prog X.w) X.A (isTrue e X.env (eval e X.env)) (TP X pins σ Q) X.xe s
def PW (X : Cx) (e : Expr) (t : TT) : Prop :=
  ∀ (whole : Sem Value) (pins : List (Addr × Obj)) (s : Shared) (σ : St) (H : Hp) (Q : Bool → Hp → Prop), Inv X pins σ H s → t σ H Q → wpAny (model X.prog X.w) X.A (isTrue e X.env whole) (TP X pins σ Q) X.xe s
theorem PW.pt {X : Cx} {e : Expr} {t : TT} (h : PW X e t) : PT X e t := h _
def PA (X : Cx) (es : List Expr) (t : TA) : Prop :=
  ∀ (pos : Pos) (pins : List (Addr × Obj)) (s : Shared) (σ : St) (H : Hp) (Q : List V → Hp → Prop), Inv X pins σ H s → t σ H Q → wpAny (model X.prog X.w) X.A (spliced (backTo pos (starEach es X.env))) (AP X pins σ Q) X.xe s
def PS (X : Cx) (st : Stmt) (t : TS) : Prop :=
  ∀ (pins : List (Addr × Obj)) (s : Shared) (σ : St) (H : Hp) (D : Ends), Inv X pins σ H s → t D σ H → wpAny (model X.prog X.w) X.A (exec st X.env) (SP X pins D) X.xe s
def PSs (X : Cx) (st : List Stmt) (t : TS) : Prop :=
  ∀ (pins : List (Addr × Obj)) (s : Shared) (σ : St) (H : Hp) (D : Ends), Inv X pins σ H s → t D σ H → wpAny (model X.prog X.w) X.A (execs st X.env) (SP X pins D) X.xe s
theorem thn {α : Type} {t : Sem α} {Q Q' : α → Shared → Prop} {M : Model} {A : Around} {E : Value → Shared → Prop} {s : Shared} (h : wpAny M A t Q E s) (hQ : ∀ a s, Q a s → Q' a s) : wpAny M A t Q' E s := wpAny_mono h hQ fun _ _ x => x
end L2
namespace L2
open PySem PySem.Spec PyProof.Rows
section
variable {X : Cx}
def tVar (i : Nat) : TE := fun σ H Q => ∃ v, σ[i]? = some (some v) ∧ Q v H
def tC (v : V) : TE := fun _ H Q => Q v H
theorem pe_var {i : Nat} {x : Str} {pos : Pos} (hN : X.N[i]? = some x) (hv : Vis X.env.scope x) (hd : (x == ("__debug__" : Str)) = false := by decide) (hcd : (x == ("__classdict__" : Str)) = false := by decide) : PE X (.Name x pos) (tVar i) := by
  intro pins s σ H Q I h
  obtain ⟨v, e, h⟩ := h
  obtain ⟨m, hn, hl⟩ := I.loc
  obtain ⟨u, r, l⟩ := hl i x v hN e hv
  have fin : EP X pins σ Q u s := ⟨v, H, I, r, h⟩
  rcases l with ⟨hk, hm⟩ | ⟨hk, c, hc, hcell⟩
  · exact wpAny_Name (wpAny_loadName_local I.ok.kind hk hn hm fin) hd
  · rcases hk with hk | hk
    · exact wpAny_Name (wpAny_loadName_cell I.ok.kind hk hc hcell fin) hd
    · exact wpAny_Name (wpAny_loadName_free I.ok.kind hk hc hcell fin hcd) hd
theorem pe_int {i j pos} : PE X (.Constant (.int i) j pos) (tC (.int i)) := fun _ _ _ H _ I h => wpAny_Constant_int ⟨.int i, H, I.tok _, ⟨_, rfl⟩, h⟩
theorem pe_bl {b j pos} : PE X (.Constant (.bool b) j pos) (tC (.bl b)) := fun _ _ _ H _ I h => Constant_bool ⟨.bl b, H, I, rfl, h⟩
theorem pe_non {j pos} : PE X (.Constant .none j pos) (tC .non) := fun _ _ _ H _ I h => Constant_none ⟨.non, H, I, rfl, h⟩
theorem pe_str {x j pos} : PE X (.Constant (.str x) j pos) (tC (.str x)) := fun _ _ _ H _ I h => Calls.Constant_str ⟨.str x, H, I.tok _, ⟨_, rfl⟩, h⟩
def Gl (X : Cx) (x : Str) : Prop := X.env.kindOf x = some .globalImplicit
theorem ld_glob {E : Value → Shared → Prop} {pins : List (Addr × Obj)} {s : Shared} {σ : St} {H : Hp} {x : Str} {u : Value} {pos : Pos} {Q : Value → Shared → Prop} (I : Inv X pins σ H s) (hg : Gl X x) (hm : X.mg x = some u) (h : Q u s)
    (hd : (x == ("__debug__" : Str)) = false := by decide) : wpAny (model X.prog X.w) X.A (eval (.Name x pos) X.env) Q E s :=
  Calls.Name_function_global I.ok.kind hg (Calls.loadGlobal_global (by rw [I.ok.glob]; exact I.mod.glob.keeps I.bk) hm h) hd
theorem ld_blt {E : Value → Shared → Prop} {pins : List (Addr × Obj)} {s : Shared} {σ : St} {H : Hp} {x : Str} {u : Value} {pos : Pos} {Q : Value → Shared → Prop} (I : Inv X pins σ H s) (hg : Gl X x) (hm : X.mg x = none) (hv : bootBuiltins x = some u) (h : Q u s)
    (hn : x ≠ "__name__" := by decide) (hd : (x == ("__debug__" : Str)) = false := by decide) : wpAny (model X.prog X.w) X.A (eval (.Name x pos) X.env) Q E s := by
  obtain ⟨mb, h1, h2⟩ := I.mod.blt
  exact Calls.Name_function_global I.ok.kind hg (Calls.loadGlobal_builtin (by rw [I.ok.glob]; exact I.mod.glob.keeps I.bk) hm (by rw [I.ok.blt]; exact h1.keeps I.bk) ((h2 x hn).trans hv) h) hd
theorem pe_glob {x : Str} {v : V} {u : Value} {pos : Pos} (hg : Gl X x) (hm : X.mg x = some u) (r : RelV v u) (hd : (x == ("__debug__" : Str)) = false := by decide) : PE X (.Name x pos) (tC v) :=
  fun _ _ _ H _ I h => ld_glob I hg hm ⟨v, H, I, r, h⟩ hd
theorem pe_bltn {x : Str} {v : V} {u : Value} {pos : Pos} (hg : Gl X x) (hm : X.mg x = none) (hv : bootBuiltins x = some u) (r : RelV v u) (hn : x ≠ "__name__" := by decide) (hd : (x == ("__debug__" : Str)) = false := by decide) : PE X (.Name x pos) (tC v) :=
  fun _ _ _ H _ I h => ld_blt I hg hm hv ⟨v, H, I, r, h⟩ hn hd
variable {a b : Expr} {ta tb : TE} {pos : Pos}
def PC (X : Cx) (op : CmpOp) (a b : Expr) (t : TE) : Prop :=
  ∀ (pins : List (Addr × Obj)) (s : Shared) (σ : St) (H : Hp) (Q : VK), Inv X pins σ H s → t σ H Q →
    wpAny (model X.prog X.w) X.A (eval a X.env) (fun v s₁ => wpAny (model X.prog X.w) X.A (eval b X.env) (fun u s₂ => wpAny (model X.prog X.w) X.A (compareOp op v u) (EP X pins σ Q) X.xe s₂) X.xe s₁) X.xe s
theorem pe_cmp {op : CmpOp} {t : TE} (h : PC X op a b t) (h1 : behindInMarks op b = false := by first | exact nobehind _ (by decide) (by decide) | rfl) : PE X (.Compare a [op] [b] pos) t := fun pins s σ H Q I hw => wpAny_Compare1 (h pins s σ H Q I hw) h1
variable {tA tB' : TT} {rest : List Expr}
def tAnd (t u : TT) : TT := fun σ H Q => t σ H fun c H1 => if c = true then u σ H1 Q else Q false H1
def tOr (t u : TT) : TT := fun σ H Q => t σ H fun c H1 => if c = true then Q true H1 else u σ H1 Q
def tNot (t : TT) : TT := fun σ H Q => t σ H fun c H1 => Q (!c) H1
theorem pw_and1 (ha : PT X a tA) : PW X (.BoolOp .And [a] pos) tA := by
  intro wh pins s σ H Q I h
  refine isTrue_and (thn (ha pins s σ H Q I h) fun c s1 e => ?_)
  cases c with
  | true => exact isTrue_and_nil e
  | false => exact e
theorem pw_or1 (ha : PT X a tA) : PW X (.BoolOp .Or [a] pos) tA := by
  intro wh pins s σ H Q I h
  refine isTrue_or (thn (ha pins s σ H Q I h) fun c s1 e => ?_)
  cases c with
  | false => exact isTrue_or_nil e
  | true => exact e
theorem pw_and (ha : PT X a tA) (hb : PW X (.BoolOp .And (b :: rest) pos) tB') : PW X (.BoolOp .And (a :: b :: rest) pos) (tAnd tA tB') := by
  intro wh pins s σ H Q I h
  refine isTrue_and (thn (ha pins s σ H _ I h) fun c s1 ⟨H1, I1, q1⟩ => ?_)
  cases c with
  | true => exact hb wh pins s1 σ H1 Q I1 q1
  | false => exact ⟨H1, I1, q1⟩
theorem pw_or (ha : PT X a tA) (hb : PW X (.BoolOp .Or (b :: rest) pos) tB') : PW X (.BoolOp .Or (a :: b :: rest) pos) (tOr tA tB') := by
  intro wh pins s σ H Q I h
  refine isTrue_or (thn (ha pins s σ H _ I h) fun c s1 ⟨H1, I1, q1⟩ => ?_)
  cases c with
  | true => exact ⟨H1, I1, q1⟩
  | false => exact hb wh pins s1 σ H1 Q I1 q1
theorem pt_not (ha : PT X a tA) : PT X (.UnaryOp .Not a pos) (tNot tA) := by
  intro pins s σ H Q I h
  exact isTrue_not (ha pins s σ H (fun c H1 => Q (!c) H1) I h)
def tAndV (ta tb : TE) : TE := fun σ H Q => ta σ H fun x H1 => ∃ c, x = .bl c ∧ if c = true then tb σ H1 Q else Q (.bl false) H1
def tOrV (ta tb : TE) : TE := fun σ H Q => ta σ H fun x H1 => ∃ c, x = .bl c ∧ if c = true then Q (.bl true) H1 else tb σ H1 Q
def tNotV (ta : TE) : TE := fun σ H Q => ta σ H fun x H1 => ∃ c, x = .bl c ∧ Q (.bl (!c)) H1
theorem pe_one {op} {t : TE} (h : PE X a t) : PE X (.BoolOp op [a] pos) t := fun pins s σ H Q I hw => BoolOp_one (h pins s σ H Q I hw)
theorem pe_and (ha : PE X a ta) (hb : PE X (.BoolOp .And (b :: rest) pos) tb) : PE X (.BoolOp .And (a :: b :: rest) pos) (tAndV ta tb) := by
  intro pins s σ H Q I h
  refine BoolOp_and (thn (ha pins s σ H _ I h) fun v s1 ⟨x, H1, I1, r1, q1⟩ => ?_)
  obtain ⟨c, rfl, q1⟩ := q1
  cases r1
  refine wpAny_truthy_bool ?_
  cases c with
  | true => exact hb pins s1 σ H1 Q I1 q1
  | false => exact ⟨.bl false, H1, I1, rfl, q1⟩
theorem pe_or (ha : PE X a ta) (hb : PE X (.BoolOp .Or (b :: rest) pos) tb) : PE X (.BoolOp .Or (a :: b :: rest) pos) (tOrV ta tb) := by
  intro pins s σ H Q I h
  refine BoolOp_or (thn (ha pins s σ H _ I h) fun v s1 ⟨x, H1, I1, r1, q1⟩ => ?_)
  obtain ⟨c, rfl, q1⟩ := q1
  cases r1
  refine wpAny_truthy_bool ?_
  cases c with
  | false => exact hb pins s1 σ H1 Q I1 q1
  | true => exact ⟨.bl true, H1, I1, rfl, q1⟩
theorem pe_not (ha : PE X a ta) : PE X (.UnaryOp .Not a pos) (tNotV ta) := by
  intro pins s σ H Q I h
  refine UnaryOp_ (thn (ha pins s σ H _ I h) fun v s1 ⟨x, H1, I1, r1, q1⟩ => ?_)
  obtain ⟨c, rfl, q1⟩ := q1
  cases r1
  exact not_of (wpAny_truthy_bool ⟨.bl (!c), H1, I1, rfl, q1⟩)
def tIf (t : TT) (ta tb : TE) : TE := fun σ H Q => t σ H fun c H1 => if c = true then ta σ H1 Q else tb σ H1 Q
theorem pe_ifExp {c : Expr} (hc : PT X c tA) (ha : PE X a ta) (hb : PE X b tb) : PE X (.IfExp c a b pos) (tIf tA ta tb) := by
  intro pins s σ H Q I h
  refine wpAny_IfExp (thn (hc pins s σ H _ I h) fun d s1 ⟨H1, I1, q1⟩ => ?_)
  cases d with
  | true => exact ha pins s1 σ H1 Q I1 q1
  | false => exact hb pins s1 σ H1 Q I1 q1
end
end L2
namespace L2
open PySem PySem.Spec PyProof.Rows
def SqL (K : PySem.W.Frag) (H : Hp) (a : Addr) (xs : List V) : Prop :=
  Rd H a (.lst xs) ∨
    ∃ (o : Obj) (its : Array Value) (n : Nat), K.lookup a = some o ∧ o.cls = .type "list" ∧ o.dict = none ∧ o.data = .seq its n ∧ its.size ≤ sizeLine ∧ Vals xs its.toList
def SqT (K : PySem.W.Frag) (H : Hp) (a : Addr) (xs : List V) : Prop :=
  Rd H a (.tup xs) ∨
    ∃ (o : Obj) (its : Array Value) (n : Nat), K.lookup a = some o ∧ o.cls = .type "tuple" ∧ o.data = .seq its n ∧ its.size ≤ sizeLine ∧ Vals xs its.toList
def absV : Value → Option V
  | .none => some .non
  | .bool b => some (.bl b)
  | .int i _ => some (.int i)
  | .str x _ => some (.str x)
  | .bytes b _ => some (.byt b)
  | .float b _ => some (.flt b)
  | .ref a => some (.ref a)
  | .type n => some (.ty n)
  | _ => none
theorem RelV.abs {x : V} {u : Value} (r : RelV x u) : absV u = some x := by
  cases x with
  | non => cases r; rfl
  | bl _ => cases r; rfl
  | int _ => obtain ⟨t, rfl⟩ := r; rfl
  | str _ => obtain ⟨t, rfl⟩ := r; rfl
  | byt _ => obtain ⟨t, rfl⟩ := r; rfl
  | flt _ => obtain ⟨t, rfl⟩ := r; rfl
  | ref _ => cases r; rfl
  | ty _ => cases r; rfl
theorem RelV.inj {x y : V} {u : Value} (r : RelV x u) (q : RelV y u) : x = y := Option.some.inj (r.abs.symm.trans q.abs)
theorem Vals.inj : ∀ {xs ys : List V} {us : List Value}, Vals xs us → Vals ys us → xs = ys
  | _, _, _, .nil, .nil => rfl
  | _, _, _, .cons r t, .cons r' t' => by rw [r.inj r', Vals.inj t t']
section
variable {X : Cx} {pins : List (Addr × Obj)} {σ : St} {H : Hp} {s : Shared} {a : Addr} {xs ys : List V}
theorem SqL.of {K : PySem.W.Frag} (h : H a = some (.lst xs)) : SqL K H a xs := .inl (.inl h)
theorem SqT.of {K : PySem.W.Frag} (h : H a = some (.tup xs)) : SqT K H a xs := .inl (.inl h)
theorem Inv.list (I : Inv X pins σ H s) (h : SqL X.K H a xs) : ∃ its : List Value, Vals xs its ∧ PlainL s.heap a its.toArray ∧ xs.length ≤ sizeLine := by
  rcases h with h | ⟨o, its, n, hk, hc, hd, hs, hz, r⟩
  · obtain ⟨z, its, n, r, e⟩ := h.ok I.hok
    exact ⟨its, r, ⟨_, n, e, rfl, rfl, rfl⟩, z⟩
  · refine ⟨its.toList, r, ⟨o, n, I.kIn a o hk, hc, hd, by simpa using hs⟩, ?_⟩
    have e := r.length
    simp only [Array.length_toList] at e
    omega
theorem Inv.tuple (I : Inv X pins σ H s) (h : SqT X.K H a xs) : ∃ its : List Value, Vals xs its ∧ IsTup s.heap a its.toArray ∧ xs.length ≤ sizeLine := by
  rcases h with h | ⟨o, its, n, hk, hc, hs, hz, r⟩
  · obtain ⟨z, its, r, p⟩ := h.ok I.hok
    exact ⟨its, r, p, z⟩
  · refine ⟨its.toList, r, ⟨o, I.kIn a o hk, hc, n, by simpa using hs⟩, ?_⟩
    have e := r.length
    simp only [Array.length_toList] at e
    omega
theorem Inv.list_inj (I : Inv X pins σ H s) (h : SqL X.K H a xs) (h' : SqL X.K H a ys) : xs = ys := by
  obtain ⟨its, r, ⟨o, n, e, _, _, d⟩, _⟩ := I.list h
  obtain ⟨its', r', ⟨o', n', e', _, _, d'⟩, _⟩ := I.list h'
  rw [e] at e'; cases e'
  rw [d] at d'
  injection d' with d1 _
  have : its = its' := by simpa using congrArg Array.toList d1
  subst this
  exact r.inj r'
theorem Inv.tuple_inj (I : Inv X pins σ H s) (h : SqT X.K H a xs) (h' : SqT X.K H a ys) : xs = ys := by
  obtain ⟨its, r, ⟨o, e, _, n, d⟩, _⟩ := I.tuple h
  obtain ⟨its', r', ⟨o', e', _, n', d'⟩, _⟩ := I.tuple h'
  rw [e] at e'; cases e'
  rw [d] at d'
  injection d' with d1 _
  have : its = its' := by simpa using congrArg Array.toList d1
  subst this
  exact r.inj r'
end
abbrev Cx.wish (X : Cx) (E : Value → Shared → Prop) : Cx := { X with xe := E }
abbrev Cx.nox (X : Cx) : Cx := X.wish fun _ _ => False
theorem Cx.Ok.wish {X : Cx} (ok : X.Ok) (E : Value → Shared → Prop) : (X.wish E).Ok :=
  ⟨ok.mod, ok.kind, ok.glob, ok.blt, ok.above, ok.inj, ok.has, ok.cab, ok.hd, ok.frames, ok.stk, ok.exf, ok.bs, ok.bsz, ok.noex, ok.exfs, ok.funs, ok.frf⟩
theorem Cx.Ok.unwish {X : Cx} {E : Value → Shared → Prop} (ok : (X.wish E).Ok) : X.Ok :=
  ⟨ok.mod, ok.kind, ok.glob, ok.blt, ok.above, ok.inj, ok.has, ok.cab, ok.hd, ok.frames, ok.stk, ok.exf, ok.bs, ok.bsz, ok.noex, ok.exfs, ok.funs, ok.frf⟩
section
variable {X : Cx} {pins : List (Addr × Obj)} {σ : St} {H : Hp} {s : Shared} {E : Value → Shared → Prop}
theorem Inv.wish (I : Inv X pins σ H s) (E : Value → Shared → Prop) : Inv (X.wish E) pins σ H s := ⟨I.ok.wish E, I.os, I.bare, I.base, I.loc, I.cell, I.free, I.freeC, I.pin, I.hok, I.len⟩
theorem Inv.unwish (I : Inv (X.wish E) pins σ H s) : Inv X pins σ H s := ⟨I.ok.unwish, I.os, I.bare, I.base, I.loc, I.cell, I.free, I.freeC, I.pin, I.hok, I.len⟩
theorem SP.unwish {D : Ends} {f : Flow} {s' : Shared} (h : SP (X.wish E) pins D f s') : SP X pins D f s' := by
  cases f with
  | next => obtain ⟨σ', H', I, q⟩ := h; exact ⟨σ', H', I.unwish, q⟩
  | brk => obtain ⟨σ', H', I, q⟩ := h; exact ⟨σ', H', I.unwish, q⟩
  | cont => obtain ⟨σ', H', I, q⟩ := h; exact ⟨σ', H', I.unwish, q⟩
  | ret u => obtain ⟨v, σ', H', I, r, q⟩ := h; exact ⟨v, σ', H', I.unwish, r, q⟩
theorem PSs.nox {st : List Stmt} {t : TS} (h : PSs X.nox st t) : PSs X st t := fun pins s σ H D I hw =>
  wpAny_mono (h pins s σ H D (I.wish _) hw) (fun _ _ q => q.unwish) fun _ _ z => False.elim z
end
section
variable {X : Cx} {st : Stmt} {rest : List Stmt} {t u : TS} {e : Expr} {te : TE} {pos : Pos}
def tNext : TS := fun D σ H => D.nx σ H
def tSeq (t u : TS) : TS := fun D σ H => t { D with nx := u D } σ H
theorem pss_nil : PSs X [] tNext := fun _ _ σ H _ I h => wpAny_execs_nil ⟨σ, H, I, h⟩
theorem pss_cons (h1 : PS X st t) (h2 : PSs X rest u) : PSs X (st :: rest) (tSeq t u) := by
  intro pins s σ H D I h
  refine wpAny_execs_cons (thn (h1 pins s σ H { D with nx := u D } I h) fun f s1 q => ?_)
  cases f with
  | next =>
    obtain ⟨σ', H', I', q⟩ := q
    exact h2 pins s1 σ' H' D I' q
  | ret v => exact q
  | brk => exact q
  | cont => exact q
theorem pss_one (h1 : PS X st t) : PSs X [st] t := by
  intro pins s σ H D I h
  refine wpAny_execs_cons (thn (h1 pins s σ H D I h) fun f s1 q => ?_)
  cases f with
  | next => exact wpAny_execs_nil q
  | ret v => exact q
  | brk => exact q
  | cont => exact q
theorem Inv.quiet {pins : List (Addr × Obj)} {σ : St} {H : Hp} {s : Shared} (I : Inv X pins σ H s) : interactive X.env = false := by simp [interactive, I.ok.kind]
def tDrop (te : TE) : TS := fun D σ H => te σ H fun _ H1 => D.nx σ H1
theorem ps_expr (he : PE X e te) (hs : swapsWith e none pos.line X.env = pure false := by rfl) : PS X (.Expr e pos) (tDrop te) := by
  intro pins s σ H D I h
  exact wpAny_Expr_any (thn (he pins s σ H _ I h) fun v s1 ⟨x, H1, I1, r1, q1⟩ => ⟨σ, H1, I1, q1⟩) I.quiet hs
def tRet (te : TE) : TS := fun D σ H => te σ H D.rt
theorem ps_ret (he : PE X e te) : PS X (.Return (some e) pos) (tRet te) := by
  intro pins s σ H D I h
  exact wpAny_Return_some (thn (he pins s σ H _ I h) fun v s1 ⟨x, H1, I1, r1, q1⟩ => ⟨x, σ, H1, I1, r1, q1⟩)
def tIfS (c : TT) (t u : TS) : TS := fun D σ H => c σ H fun b H1 => if b = true then t D σ H1 else u D σ H1
theorem ps_if {c : Expr} {a b : List Stmt} {tc : TT} (hc : PT X c tc) (ha : PSs X a t) (hb : PSs X b u) : PS X (.If c a b pos) (tIfS tc t u) := by
  intro pins s σ H D I h
  refine wpAny_If (thn (hc pins s σ H _ I h) fun d s1 ⟨H1, I1, q1⟩ => ?_)
  cases d with
  | true => exact ha pins s1 σ H1 D I1 q1
  | false => exact hb pins s1 σ H1 D I1 q1
def tNever : TS := fun _ _ _ => False
theorem ps_never : PS X st tNever := fun _ _ _ _ _ _ h => h.elim
theorem pss_never {sts : List Stmt} : PSs X sts tNever := fun _ _ _ _ _ _ h => h.elim
end
abbrev TG := V → St → Hp → (St → Hp → Prop) → Prop
def PG (X : Cx) (target : Expr) (t : TG) : Prop :=
  ∀ (pins : List (Addr × Obj)) (s : Shared) (σ : St) (H : Hp) (v : V) (u : Value) (Q : St → Hp → Prop), Inv X pins σ H s → RelV v u → t v σ H Q →
    wpAny (model X.prog X.w) X.A (assign target X.env u) (fun _ s' => ∃ σ' H', Inv X pins σ' H' s' ∧ Q σ' H') X.xe s
section
variable {X : Cx} {pos : Pos}
def gName (i : Nat) : TG := fun v σ H Q => Q (σ.set i (some v)) H
theorem pg_name {i : Nat} {x : Str} (hN : X.N.Nodup) (hi : X.N[i]? = some x) (hx : Loc X.env.scope x) (hf : X.fn x = true ∨ X.env.scope.names.lookup x = some .local := by first | exact .inl rfl | exact .inr rfl | assumption) : PG X (.Name x pos) (gName i) := by
  intro pins s σ H v u Q I r h
  exact wpAny_assign_Name (store_ok I hN hi hx r (fun s' I' => ⟨_, H, I', h⟩) hf)
def tAsg (te : TE) (g : TG) : TS := fun D σ H => te σ H fun x H1 => g x σ H1 D.nx
theorem ps_set {i : Nat} {x : Str} {e : Expr} {te : TE} {pos' : Pos} (hN : X.N.Nodup) (hi : X.N[i]? = some x) (hx : Loc X.env.scope x) (he : PE X e te) (hs : swapsWith e (some (.Name x pos')) pos.line X.env = pure false := by rfl) (hf : X.fn x = true ∨ X.env.scope.names.lookup x = some .local := by first | exact .inl rfl | exact .inr rfl | assumption) :
    PS X (.Assign [.Name x pos'] e pos) (tAsg te (gName i)) := by
  intro pins s σ H D I h
  refine wpAny_Assign_Name (thn (he pins s σ H _ I h) fun v s1 ⟨y, H1, I1, r1, q1⟩ => ?_) hs
  exact store_ok I1 hN hi hx r1 (fun s2 I2 => ⟨_, H1, I2, q1⟩) hf
end
section
variable {X : Cx} {pos : Pos}
def tWhile (c : TT) (tb : TS) : TS := fun D σ H => ∃ W : Nat → St → Hp → Prop, (∃ m, W m σ H) ∧ ∀ m σ H, W m σ H →
  c σ H fun b H1 => if b = true then ∃ N : St → Hp → Prop, (∀ σ' H', N σ' H' → ∃ m', m' < m ∧ W m' σ' H') ∧ tb { D with nx := N, ct := N, bk := D.nx } σ H1 else D.nx σ H1
theorem ps_while {c : Expr} {body : List Stmt} {tc : TT} {tb : TS} (hp : PassesOwn (model X.prog X.w) X.A X.env X.xe) (hc : PT X c tc) (hb : PSs X body tb) : PS X (.While c body [] pos) (tWhile tc tb) := by
  intro pins s σ H D I h
  obtain ⟨W, ⟨m0, w0⟩, turn⟩ := h
  refine wpAny_While (codeAny_whileLoop (fun n s' => ∃ σ' H', Inv X pins σ' H' s' ∧ W n σ' H') ?_ m0 ⟨σ, H, I, w0⟩)
  rintro n s1 ⟨σ1, H1, I1, w1⟩
  refine wpAny_passesOwn hp (thn (hc pins s1 σ1 H1 _ I1 (turn n σ1 H1 w1)) fun b s2 ⟨H2, I2, q2⟩ => ?_)
  cases b with
  | true =>
    obtain ⟨N, hN, q2⟩ := q2
    rw [if_pos rfl]
    refine wpAny_passesOwn hp (thn (hb pins s2 σ1 H2 _ I2 q2) fun f s3 q3 => ?_)
    cases f with
    | next =>
      obtain ⟨σ3, H3, I3, n3⟩ := q3
      obtain ⟨m', hm, w3⟩ := hN σ3 H3 n3
      exact ⟨m', hm, σ3, H3, I3, w3⟩
    | cont =>
      obtain ⟨σ3, H3, I3, n3⟩ := q3
      obtain ⟨m', hm, w3⟩ := hN σ3 H3 n3
      exact ⟨m', hm, σ3, H3, I3, w3⟩
    | brk => exact q3
    | ret v => exact q3
  | false =>
    rw [if_neg Bool.false_ne_true]
    exact wpAny_execs_nil ⟨σ1, H2, I2, q2⟩
end
structure It where
  go : Nat → Hp → Prop
  yld : Nat → Hp → V → Hp → Prop
  stop : Nat → Hp → Prop
def FpOk (X : Cx) (pins : List (Addr × Obj)) (H : Hp) (b : Addr) : Prop :=
  H b = none ∧ b ≠ X.env.locals ∧ b ∉ X.fs ∧ (b ∈ X.ex ∨ X.s₀.heap.objs.size ≤ b) ∧ (∀ x c, X.env.cells.lookup x = some c → c ≠ b) ∧ ∀ p ∈ X.pn ++ pins, p.1 ≠ b
theorem Inv.fpOk {X : Cx} {pins : List (Addr × Obj)} {σ : St} {H H' : Hp} {s : Shared} {b : Addr} (I : Inv X pins σ H s) (hb : s.heap.objs.size ≤ b) (hn : H' b = none) : FpOk X pins H' b := by
  refine ⟨hn, Nat.ne_of_gt (Nat.lt_of_lt_of_le I.lt hb), I.nofs hb, .inr (Nat.le_trans I.sz hb), fun x c e z => ?_, fun p hp z => ?_⟩
  · obtain ⟨v, q⟩ := I.cell x c e
    exact absurd (Nat.lt_of_lt_of_le q.lt (by rw [z]; exact hb)) (Nat.lt_irrefl _)
  · exact absurd (Nat.lt_of_lt_of_le (Heap.lt_size (I.pin p hp).1) (by rw [z]; exact hb)) (Nat.lt_irrefl _)
structure Turn (P : Program) (w : World) (K : PySem.W.Frag) (tg : Expr) (J : It) (fp : List Addr) (it : Addr) (tn : Nat → Heap → Prop) : Prop where
  mem : it ∈ fp
  obj : ∀ i h, tn i h → ∀ b ∈ fp, ∃ o, h.get? b = some o ∧ ∀ v, o.data ≠ .cell v
  keep : ∀ i h h', tn i h → (∀ b ∈ fp, ∀ o, h.get? b = some o → h'.get? b = some o) → tn i h'
  item : ∀ (X : Cx), X.prog = P → X.w = w → X.K = K → X.calm = true → ∀ (i : Nat) (pins : List (Addr × Obj)) (s : Shared) (σ : St) (H : Hp) (E : Value → Shared → Prop), Inv X pins σ H s → (∀ b ∈ fp, FpOk X pins H b) → tn i s.heap → J.go i H →
    wpAny (model P w) X.A (pyNext (.ref it)) (fun r s1 => ∃ u, r = some u ∧
      wpAny (model P w) X.A (letOwnedTupleGo tg (.ref it) u) (fun _ s2 => ∃ x H', Inv X pins σ H' s2 ∧ RelV x u ∧ J.yld i H x H' ∧ tn (i + 1) s2.heap ∧ ∀ b ∈ fp, H' b = none) E s1) E s
  done : ∀ (X : Cx), X.prog = P → X.w = w → X.K = K → X.calm = true → ∀ (i : Nat) (pins : List (Addr × Obj)) (s : Shared) (σ : St) (H : Hp) (E : Value → Shared → Prop), Inv X pins σ H s → (∀ b ∈ fp, FpOk X pins H b) → tn i s.heap → J.stop i H →
    wpAny (model P w) X.A (pyNext (.ref it)) (fun r s1 => r = none ∧ Inv X pins σ H s1) E s
  self : ∀ (A : Around) (i : Nat) (s : Shared) (Q : Value → Shared → Prop) (E : Value → Shared → Prop), tn i s.heap → Q (.ref it) s → wpAny (model P w) A (pyIter (.ref it)) Q E s
abbrev TI := St → Hp → (It → Hp → Prop) → Prop
def PIE (X : Cx) (pins : List (Addr × Obj)) (σ : St) (tg : Expr) (R : It → Hp → Prop) (itv : Value) (s2 : Shared) : Prop :=
  ∃ (it : Addr) (fp : List Addr) (tn : Nat → Heap → Prop) (J : It) (H' : Hp), itv = .ref it ∧ Inv X pins σ H' s2 ∧ Turn X.prog X.w X.K tg J fp it tn ∧ tn 0 s2.heap ∧ (∀ b ∈ fp, FpOk X pins H' b) ∧ R J H'
def PI (X : Cx) (tg iter : Expr) (wi : TI) : Prop :=
  ∀ (pins : List (Addr × Obj)) (s : Shared) (σ : St) (H : Hp) (R : It → Hp → Prop), Inv X pins σ H s → wi σ H R →
    wpAny (model X.prog X.w) X.A (eval iter X.env) (fun v s1 => wpAny (model X.prog X.w) X.A (pyIter v) (PIE X pins σ tg R) X.xe s1) X.xe s
theorem go_of {M : Model} {A : Around} {E : Value → Shared → Prop} {s : Shared} {tg : Expr} {it : Addr} {u : Value} {o : Obj} {n : String} {vs : Array Value} {Q : Unit → Shared → Prop} (ho : s.heap.get? it = some o) (hc : o.cls = .type n) (hd : o.data = .fields vs)
    (hn : ["enumerate", "zip", "dict_itemiterator", "dict_reverseitemiterator", "odict_iterator", "itertools.zip_longest", "itertools.pairwise"].contains n = false) (hQ : Q () s) : wpAny M A (letOwnedTupleGo tg (.ref it) u) Q E s := by
  unfold letOwnedTupleGo
  cases tg <;> first
    | exact wpAny_pure hQ
    | (cases u <;> first
        | exact wpAny_pure hQ
        | (refine wpAny_bind (wpAny_load ho ?_)
           rw [hc, hd]
           show wpAny M A (if (["enumerate", "zip", "dict_itemiterator", "dict_reverseitemiterator", "odict_iterator", "itertools.zip_longest", "itertools.pairwise"].contains n && vs[0]? == some (rawInt _)) = true then _ else _) Q E s
           rw [if_neg (by intro h; rw [hn, Bool.false_and] at h; cases h)]
           exact wpAny_pure hQ))
def Itl (K : PySem.W.Frag) (a : Addr) : It :=
  ⟨fun i H => ∃ xs x, SqL K H a xs ∧ xs[i]? = some x, fun i H x H' => H' = H ∧ ∀ xs, SqL K H a xs → xs[i]? = some x, fun i H => ∃ xs, SqL K H a xs ∧ xs.length ≤ i⟩
def Itt (K : PySem.W.Frag) (a : Addr) : It :=
  ⟨fun i H => ∃ xs x, SqT K H a xs ∧ xs[i]? = some x, fun i H x H' => H' = H ∧ ∀ xs, SqT K H a xs → xs[i]? = some x, fun i H => ∃ xs, SqT K H a xs ∧ xs.length ≤ i⟩
def Itr (lo : Int) (n : Nat) : It := ⟨fun i _ => i < n, fun i H x H' => H' = H ∧ x = .int (lo + i), fun i _ => n ≤ i⟩
theorem turn_list {P : Program} {w : World} {K : PySem.W.Frag} {tg : Expr} (a it : Addr) : Turn P w K tg (Itl K a) [it] it (fun i h => h.IsListIter it a i) where
  mem := by simp
  obj := fun i h st b hb => by
    have e : b = it := by simpa using hb
    subst e
    obtain ⟨o, e, c, d⟩ := st
    exact ⟨o, e, fun v z => by rw [d] at z; cases z⟩
  keep := fun i h h' st k => st.at fun o e => k it (by simp) o e
  item := by
    intro X hP hw hK hc i pins s σ H E I hf st hg
    subst hP hw hK
    obtain ⟨xs, x, hq, hx⟩ := hg
    obtain ⟨its, rv, p, hz⟩ := I.list hq
    obtain ⟨u, hu, ru⟩ := rv.get hx
    obtain ⟨f0, f1, f2, f3, f4, f5⟩ := hf it (by simp)
    refine wpAny_pyNext_list_item st p.isList (x := u) (by simpa using hu) fun h' st' sb => ?_
    have I1 : Inv X pins σ H { s with heap := h' } := I.turned (t' := s.toks) (fun b o hb e => (sb.2 b hb).trans e) f0 f1 f3 f4 f5
    obtain ⟨o, e, c, d⟩ := id st'
    exact ⟨u, rfl, go_of (s := { s with heap := h' }) e c d (by decide) ⟨x, H, I1, ru, ⟨rfl, fun ys hy => by rw [I.list_inj hy hq]; exact hx⟩, st', fun b hb => (hf b hb).1⟩⟩
  done := by
    intro X hP hw hK hc i pins s σ H E I hf st hg
    subst hP hw hK
    obtain ⟨xs, hq, hx⟩ := hg
    obtain ⟨its, rv, p, hz⟩ := I.list hq
    obtain ⟨f0, f1, f2, f3, f4, f5⟩ := hf it (by simp)
    have hl := rv.length
    exact wpAny_pyNext_list_end (I.ok.hd hc) st p.isList (by simp; omega) fun h' eb => ⟨rfl, I.turned (t' := s.toks) (fun b o hb e => eb b o hb e) f0 f1 f3 f4 f5⟩
  self := fun _ _ _ _ _ st h => wpAny_pyIter_listiter st h
theorem turn_tuple {P : Program} {w : World} {K : PySem.W.Frag} {tg : Expr} (a it : Addr) : Turn P w K tg (Itt K a) [it] it (fun i h => h.IsTupleIter it a i) where
  mem := by simp
  obj := fun i h st b hb => by
    have e : b = it := by simpa using hb
    subst e
    obtain ⟨o, e, c, d⟩ := st
    exact ⟨o, e, fun v z => by rw [d] at z; cases z⟩
  keep := fun i h h' st k => st.at fun o e => k it (by simp) o e
  item := by
    intro X hP hw hK hc i pins s σ H E I hf st hg
    subst hP hw hK
    obtain ⟨xs, x, hq, hx⟩ := hg
    obtain ⟨its, rv, p, hz⟩ := I.tuple hq
    obtain ⟨u, hu, ru⟩ := rv.get hx
    obtain ⟨f0, f1, f2, f3, f4, f5⟩ := hf it (by simp)
    refine wpAny_pyNext_tuple_item st (show s.heap.IsTuple a its.toArray from p) (x := u) (by simpa using hu) fun h' st' sb => ?_
    have I1 : Inv X pins σ H { s with heap := h' } := I.turned (t' := s.toks) (fun b o hb e => (sb.2 b hb).trans e) f0 f1 f3 f4 f5
    obtain ⟨o, e, c, d⟩ := id st'
    exact ⟨u, rfl, go_of (s := { s with heap := h' }) e c d (by decide) ⟨x, H, I1, ru, ⟨rfl, fun ys hy => by rw [I.tuple_inj hy hq]; exact hx⟩, st', fun b hb => (hf b hb).1⟩⟩
  done := by
    intro X hP hw hK hc i pins s σ H E I hf st hg
    subst hP hw hK
    obtain ⟨xs, hq, hx⟩ := hg
    obtain ⟨its, rv, p, hz⟩ := I.tuple hq
    obtain ⟨f0, f1, f2, f3, f4, f5⟩ := hf it (by simp)
    have hl := rv.length
    exact wpAny_pyNext_tuple_end (I.ok.hd hc) st (show s.heap.IsTuple a its.toArray from p) (by simp; omega) fun h' eb => ⟨rfl, I.turned (t' := s.toks) (fun b o hb e => eb b o hb e) f0 f1 f3 f4 f5⟩
  self := fun _ _ _ _ _ st h => wpAny_pyIter_tupleiter st h
theorem turn_range {P : Program} {w : World} {K : PySem.W.Frag} {tg : Expr} (it : Addr) (lo : Int) (n : Nat) : Turn P w K tg (Itr lo n) [it] it (fun i h => IsRangeIter h it (lo + (i : Nat) * 1) ((n : Int) - (i : Nat)) 1) where
  mem := by simp
  obj := fun i h st b hb => by
    have e : b = it := by simpa using hb
    subst e
    exact ⟨_, st, fun v z => by
      have z' : Data.fields _ = Data.cell v := z
      cases z'⟩
  keep := fun i h h' st k => k it (by simp) _ st
  item := by
    intro X hP hw hK hc i pins s σ H E I hf st hg
    subst hP hw hK
    obtain ⟨f0, f1, f2, f3, f4, f5⟩ := hf it (by simp)
    have W := Walks.range (prog := X.prog) (w := X.w) (I.ok.hd hc) it lo 1 n
    refine W.item i s _ _ hg st fun v h' tk hv st' kk => ?_
    obtain ⟨t, rfl⟩ := hv
    have I1 : Inv X pins σ H { s with heap := h', toks := tk } := I.turned (fun b o hb e => kk b o (by simpa using hb) e) f0 f1 f3 f4 f5
    refine ⟨_, rfl, go_of (s := { s with heap := h', toks := tk }) (n := "range_iterator") st' rfl rfl (by decide) ⟨.int (lo + i), H, I1, ⟨t, ?_⟩, ⟨rfl, rfl⟩, st', fun b hb => (hf b hb).1⟩⟩
    rw [Int.mul_one]
  done := by
    intro X hP hw hK hc i pins s σ H E I hf st hg
    subst hP hw hK
    obtain ⟨f0, f1, f2, f3, f4, f5⟩ := hf it (by simp)
    exact wpAny_pyNext_range_end (I.ok.hd hc) st (by have : n ≤ i := hg; omega) fun h' eb => ⟨rfl, I.turned (t' := s.toks) (fun b o hb e => eb b o hb e) f0 f1 f3 f4 f5⟩
  self := fun _ _ _ _ _ st h => wpAny_pyIter_rangeiter st h
end L2
namespace L2
open PySem PySem.Spec PyProof.Rows
section
variable {X : Cx} {tg : Expr}
theorem range_it {pins : List (Addr × Obj)} {σ : St} {H : Hp} {s : Shared} {R : It → Hp → Prop} {E : Value → Shared → Prop} {lo hi : Int} {t u v : Tok} {tk : Nat} (I : Inv X pins σ H s) (h1 : -(2 ^ 62) ≤ lo) (h2 : lo < 2 ^ 62) (h3 : -(2 ^ 62) ≤ hi) (h4 : hi < 2 ^ 62)
    (q : R (Itr lo (hi - lo).toNat) H) : wpAny (model X.prog X.w) X.A (pyIter (.ref s.heap.objs.size)) (PIE X pins σ tg R) E { s with heap := s.heap.push { cls := .type "range", data := .fields #[.int lo t, .int hi u, .int 1 v] }, toks := tk } := by
  refine wpAny_pyIter_range (IsRange.new ..) (small_one h1 h2 h3 h4) ?_
  have I1 : Inv X pins σ H { s with heap := s.heap.push { cls := .type "range", data := .fields #[.int lo t, .int hi u, .int 1 v] }, toks := tk } := I.kept fun b o e => Heap.get?_push_of_some _ e
  refine ⟨(s.heap.push { cls := .type "range", data := .fields #[.int lo t, .int hi u, .int 1 v] }).objs.size, [(s.heap.push { cls := .type "range", data := .fields #[.int lo t, .int hi u, .int 1 v] }).objs.size], _, _, H, rfl,
    I1.kept (t' := tk) fun b o e => Heap.get?_push_of_some _ e, turn_range _ lo (hi - lo).toNat, ?_, fun b hb => ?_, q⟩
  · have e1 : lo + ((0 : Nat) : Int) * 1 = lo := by simp
    have e2 : (((hi - lo).toNat : Nat) : Int) - ((0 : Nat) : Int) = Builtin.Range.rangeSize lo hi 1 := by rw [rangeSize_one]; split <;> omega
    show IsRangeIter _ _ (lo + ((0 : Nat) : Int) * 1) ((((hi - lo).toNat : Nat) : Int) - ((0 : Nat) : Int)) 1
    rw [e1, e2]
    exact Heap.get?_push_size _ rfl
  · have e : b = (s.heap.push { cls := .type "range", data := .fields #[.int lo t, .int hi u, .int 1 v] }).objs.size := by simpa using hb
    subst e
    exact I1.fpOk (Nat.le_refl _) (I1.hok.fresh (Nat.le_refl _))
def iRng1 (ta : TA) : TI := fun σ H R => ta σ H fun vs H1 => ∃ j : Int, vs = [.int j] ∧ -(2 ^ 62) ≤ j ∧ j < 2 ^ 62 ∧ R (Itr 0 j.toNat) H1
theorem pi_range1 {a : Expr} {ta : TA} {p pos : Pos} (hg : Gl X "range") (hm : X.mg "range" = none) (ha : PA X [a] ta) (hs : starEach [a] X.env = [(false, eval a X.env)] := by rfl) : PI X tg (.Call (.Name "range" p) [a] [] pos) (iRng1 ta) := by
  intro pins s σ H R I h
  refine Call_ (ld_blt I hg hm boot_range (PyProof.Rows.callWith_type1 (thn (ha pos pins s σ H _ I h) fun us s1 ⟨vs, H1, I1, r1, q1⟩ => ?_) hs rfl))
  obtain ⟨j, e, q1, q2, q⟩ := q1
  subst e
  cases r1 with
  | cons r rr =>
    cases rr
    obtain ⟨t, rfl⟩ := r
    exact call_range_1 (range_it I1 (by omega) (by omega) q1 q2 (by simpa using q))
def tFor (wi : TI) (g : TG) (tb : TS) : TS := fun D σ H => wi σ H fun J H1 => ∃ W : Nat → Nat → St → Hp → Prop, (∃ m, W 0 m σ H1) ∧ ∀ i m σ H, W i m σ H →
  (J.stop i H ∧ D.nx σ H) ∨ (J.go i H ∧ ∃ N : St → Hp → Prop, (∀ σ' H', N σ' H' → ∃ m', m' < m ∧ W (i + 1) m' σ' H') ∧ ∀ x H', J.yld i H x H' → g x σ H' fun σ2 H2 => tb { D with nx := N, ct := N, bk := D.nx } σ2 H2)
def pinsAt (fp : List Addr) (h : Heap) : List (Addr × Obj) := fp.filterMap fun b => (h.get? b).map fun o => (b, o)
theorem mem_pinsAt {fp : List Addr} {h : Heap} {b : Addr} {o : Obj} (hb : b ∈ fp) (e : h.get? b = some o) : (b, o) ∈ pinsAt fp h := List.mem_filterMap.mpr ⟨b, hb, by rw [e]; rfl⟩
theorem of_pinsAt {fp : List Addr} {h : Heap} {p : Addr × Obj} (hp : p ∈ pinsAt fp h) : p.1 ∈ fp ∧ h.get? p.1 = some p.2 := by
  obtain ⟨b, hb, e⟩ := List.mem_filterMap.mp hp
  cases q : h.get? b with
  | none => rw [q] at e; cases e
  | some o =>
    rw [q] at e
    have e' : (b, o) = p := Option.some.inj e
    subst e'
    exact ⟨hb, q⟩
theorem Inv.pinned {pins : List (Addr × Obj)} {σ : St} {H : Hp} {s : Shared} {fp : List Addr} (I : Inv X pins σ H s) (hf : ∀ b ∈ fp, FpOk X pins H b) (ho : ∀ b ∈ fp, ∃ o, s.heap.get? b = some o ∧ ∀ v, o.data ≠ .cell v) : Inv X (pins ++ pinsAt fp s.heap) σ H s :=
  I.pins_of fun p hp => (List.mem_append.mp hp).elim (fun z => I.pin p (List.mem_append_right _ z)) fun z => by
    obtain ⟨hb, e⟩ := of_pinsAt z
    obtain ⟨f0, f1, f2, _⟩ := hf p.1 hb
    obtain ⟨o, e', d⟩ := ho p.1 hb
    rw [e] at e'; cases e'
    exact ⟨e, f0, f1, f2, d⟩
theorem Inv.unpinned {pins pl : List (Addr × Obj)} {σ : St} {H : Hp} {s : Shared} (I : Inv X (pins ++ pl) σ H s) : Inv X pins σ H s := I.pins_of fun p hp => I.pin p (List.mem_append_right _ (List.mem_append_left _ hp))
theorem ps_for {iter : Expr} {body : List Stmt} {wi : TI} {g : TG} {tb : TS} {pos : Pos} (hp : PassesOwn (model X.prog X.w) X.A X.env X.xe) (hc : X.calm = true) (hi : PI X tg iter wi) (hg : PG X tg g) (hb : PSs X body tb)
    (hs : ∀ x, foldedSetIterable iter X.env x = pure x := by intro _; rfl) : PS X (.For tg iter body [] pos) (tFor wi g tb) := by
  intro pins s σ H D I h
  refine wpAny_For (thn (hi pins s σ H _ I h) fun v s1 h1 => thn h1 fun itv s2 h2 => ?_) hs
  obtain ⟨it, fp, tn, J, H2, e, I2, T, st2, f2, W, ⟨m0, w0⟩, turn⟩ := h2
  subst e
  -- what stays true of the iterator's objects through the loop
  have stat : ∀ {H' : Hp}, (∀ b ∈ fp, H' b = none) → ∀ b ∈ fp, FpOk X pins H' b := fun hn b hb => ⟨hn b hb, (f2 b hb).2⟩
  refine codeAny_forLoop_any (fun n s' => ∃ i σ' H', Inv X pins σ' H' s' ∧ tn i s'.heap ∧ (∀ b ∈ fp, H' b = none) ∧ W i n σ' H') ?_ m0 ⟨0, σ, H2, I2, st2, fun b hb => (f2 b hb).1, w0⟩
  rintro n s3 ⟨i, σ3, H3, I3, st3, fr3, w3⟩
  rcases turn i n σ3 H3 w3 with ⟨stop, qn⟩ | ⟨go, N, hN, step⟩
  · refine wpAny_passesOwn hp (thn (T.done X rfl rfl rfl hc i pins s3 σ3 H3 X.xe I3 (stat fr3) st3 stop) fun r s4 ⟨hr, I4⟩ => ?_)
    subst hr
    exact wpAny_execs_nil ⟨σ3, H3, I4, qn⟩
  · refine wpAny_passesOwn hp (thn (T.item X rfl rfl rfl hc i pins s3 σ3 H3 X.xe I3 (stat fr3) st3 go) fun r s4 ⟨u, hr, h4⟩ => ?_)
    subst hr
    refine wpAny_passesOwn hp (thn h4 fun _ s5 ⟨x, H5, I5, r5, y5, st5, fr5⟩ => ?_)
    have I5' := I5.pinned (stat fr5) (T.obj _ _ st5)
    refine wpAny_passesOwn hp (thn (hg _ s5 σ3 H5 x u _ I5' r5 (step x H5 y5)) fun _ s6 ⟨σ6, H6, I6, q6⟩ => ?_)
    refine wpAny_passesOwn hp (thn (hb _ s6 σ6 H6 _ I6 q6) fun f s7 q7 => ?_)
    have again : ∀ {σ7 : St} {H7 : Hp}, Inv X (pins ++ pinsAt fp s5.heap) σ7 H7 s7 → N σ7 H7 → ∃ m, m < n ∧ ∃ i σ' H', Inv X pins σ' H' s7 ∧ tn i s7.heap ∧ (∀ b ∈ fp, H' b = none) ∧ W i m σ' H' := fun {σ7 H7} I7 n7 => by
      obtain ⟨m', hm, w7⟩ := hN σ7 H7 n7
      refine ⟨m', hm, i + 1, σ7, H7, I7.unpinned, T.keep _ _ _ st5 fun b hb o e => (I7.pin (b, o) (List.mem_append_right _ (List.mem_append_right _ (mem_pinsAt hb e)))).1, fun b hb => ?_, w7⟩
      obtain ⟨o, e, d⟩ := T.obj _ _ st5 b hb
      exact (I7.pin (b, o) (List.mem_append_right _ (List.mem_append_right _ (mem_pinsAt hb e)))).2.1
    cases f with
    | next => obtain ⟨σ7, H7, I7, n7⟩ := q7; exact again I7 n7
    | cont => obtain ⟨σ7, H7, I7, n7⟩ := q7; exact again I7 n7
    | brk => obtain ⟨σ7, H7, I7, q7⟩ := q7; exact ⟨σ7, H7, I7.unpinned, q7⟩
    | ret v => obtain ⟨x7, σ7, H7, I7, r7, q7⟩ := q7; exact ⟨x7, σ7, H7, I7.unpinned, r7, q7⟩
end
end L2
namespace L2
open PySem PySem.Spec PyProof.Rows
abbrev R2 := V → V → Hp → VK → Prop
def OpR (X : Cx) (f : Value → Value → Sem Value) (r : R2) : Prop :=
  ∀ (pins : List (Addr × Obj)) (s : Shared) (σ : St) (H : Hp) (x y : V) (v u : Value) (Q : VK), Inv X pins σ H s → RelV x v → RelV y u → r x y H Q →
    wpAny (model X.prog X.w) X.A (f v u) (EP X pins σ Q) X.xe s
def UnR (X : Cx) (f : Value → Sem Value) (r : V → Hp → VK → Prop) : Prop :=
  ∀ (pins : List (Addr × Obj)) (s : Shared) (σ : St) (H : Hp) (x : V) (v : Value) (Q : VK), Inv X pins σ H s → RelV x v → r x H Q →
    wpAny (model X.prog X.w) X.A (f v) (EP X pins σ Q) X.xe s
def CallR (X : Cx) (f : Value) (r : List V → Hp → VK → Prop) : Prop :=
  ∀ (pins : List (Addr × Obj)) (s : Shared) (σ : St) (H : Hp) (xs : List V) (us : List Value) (Q : VK), Inv X pins σ H s → Vals xs us → r xs H Q →
    wpAny (model X.prog X.w) X.A (call f us) (EP X pins σ Q) X.xe s
def TruR (X : Cx) (r : V → Hp → (Bool → Hp → Prop) → Prop) : Prop :=
  ∀ (pins : List (Addr × Obj)) (s : Shared) (σ : St) (H : Hp) (x : V) (v : Value) (Q : Bool → Hp → Prop), Inv X pins σ H s → RelV x v → r x H Q →
    wpAny (model X.prog X.w) X.A (truthy v) (TP X pins σ Q) X.xe s
def tOp (r : R2) (ta tb : TE) : TE := fun σ H Q => ta σ H fun x H1 => tb σ H1 fun y H2 => r x y H2 Q
def tUn (r : V → Hp → VK → Prop) (ta : TE) : TE := fun σ H Q => ta σ H fun x H1 => r x H1 Q
def rI (C : Int → Int → Prop) (g : Int → Int → V) : R2 := fun x y H Q => ∃ i j, x = .int i ∧ y = .int j ∧ C i j ∧ Q (g i j) H
def rI0 (g : Int → Int → V) : R2 := fun x y H Q => ∃ i j, x = .int i ∧ y = .int j ∧ Q (g i j) H
def rU (g : Int → V) : V → Hp → VK → Prop := fun x H Q => ∃ i, x = .int i ∧ Q (g i) H
section
variable {X : Cx} {a b c : Expr} {ta tb tc : TE} {pos : Pos}
theorem binT (ha : PE X a ta) (hb : PE X b tb) {pins : List (Addr × Obj)} {s : Shared} {σ : St} {H : Hp} {R : V → V → Hp → Prop} (I : Inv X pins σ H s)
    (h : ta σ H fun x H1 => tb σ H1 fun y H2 => R x y H2) {Q : Value → Shared → Prop} {f : Value → Value → Sem Value}
    (hf : ∀ v u s2 x y H2, Inv X pins σ H2 s2 → RelV x v → RelV y u → R x y H2 → wpAny (model X.prog X.w) X.A (f v u) Q X.xe s2) :
    wpAny (model X.prog X.w) X.A (eval a X.env) (fun v s₁ => wpAny (model X.prog X.w) X.A (eval b X.env) (fun u s₂ => wpAny (model X.prog X.w) X.A (f v u) Q X.xe s₂) X.xe s₁) X.xe s := by
  refine thn (ha pins s σ H _ I h) fun v s1 ⟨x, H1, I1, r1, q1⟩ => ?_
  refine thn (hb pins s1 σ H1 _ I1 q1) fun u s2 ⟨y, H2, I2, r2, q2⟩ => ?_
  exact hf v u s2 x y H2 I2 r1 r2 q2
theorem pe_op {op : Operator} {r : R2} (ho : OpR X (binaryOp op) r) (ha : PE X a ta) (hb : PE X b tb) : PE X (.BinOp a op b pos) (tOp r ta tb) := by
  intro pins s σ H Q I h
  exact wpAny_BinOp (binT ha hb I h fun v u s2 x y H2 I2 rx ry q => ho pins s2 σ H2 x y v u Q I2 rx ry q)
theorem pe_un {op : UnaryOp} {r : V → Hp → VK → Prop} (ho : UnR X (unaryOp op) r) (ha : PE X a ta) : PE X (.UnaryOp op a pos) (tUn r ta) := by
  intro pins s σ H Q I h
  exact UnaryOp_ (thn (ha pins s σ H _ I h) fun v s1 ⟨x, H1, I1, r1, q1⟩ => ho pins s1 σ H1 x v Q I1 r1 q1)
theorem opI {f : Value → Value → Sem Value} {C : Int → Int → Prop} {g : Int → Int → Int}
    (rule : ∀ (i j : Int) (t u : Tok) (s : Shared) (Q : Value → Shared → Prop) (E : Value → Shared → Prop), C i j → Q (.int (g i j) s.toks) { s with toks := s.toks + 1 } → wpAny (model X.prog X.w) X.A (f (.int i t) (.int j u)) Q E s) :
    OpR X f (rI C fun i j => .int (g i j)) := by
  intro pins s σ H x y v u Q I rx ry h
  obtain ⟨i, j, rfl, rfl, hc, q⟩ := h
  obtain ⟨t, rfl⟩ := rx
  obtain ⟨t', rfl⟩ := ry
  exact rule i j t t' s _ _ hc ⟨.int (g i j), H, I.tok _, ⟨_, rfl⟩, q⟩
theorem opI0 {f : Value → Value → Sem Value} {g : Int → Int → Int}
    (rule : ∀ (i j : Int) (t u : Tok) (s : Shared) (Q : Value → Shared → Prop) (E : Value → Shared → Prop), Q (.int (g i j) s.toks) { s with toks := s.toks + 1 } → wpAny (model X.prog X.w) X.A (f (.int i t) (.int j u)) Q E s) :
    OpR X f (rI0 fun i j => .int (g i j)) := by
  intro pins s σ H x y v u Q I rx ry h
  obtain ⟨i, j, rfl, rfl, q⟩ := h
  obtain ⟨t, rfl⟩ := rx
  obtain ⟨t', rfl⟩ := ry
  exact rule i j t t' s _ _ ⟨.int (g i j), H, I.tok _, ⟨_, rfl⟩, q⟩
theorem opB0 {f : Value → Value → Sem Value} {g : Int → Int → Bool}
    (rule : ∀ (i j : Int) (t u : Tok) (s : Shared) (Q : Value → Shared → Prop) (E : Value → Shared → Prop), Q (.bool (g i j)) s → wpAny (model X.prog X.w) X.A (f (.int i t) (.int j u)) Q E s) :
    OpR X f (rI0 fun i j => .bl (g i j)) := by
  intro pins s σ H x y v u Q I rx ry h
  obtain ⟨i, j, rfl, rfl, q⟩ := h
  obtain ⟨t, rfl⟩ := rx
  obtain ⟨t', rfl⟩ := ry
  exact rule i j t t' s _ _ ⟨.bl (g i j), H, I, rfl, q⟩
def CDiv (i j : Int) : Prop := 0 < j ∧ j < 1073741824
def CMul (i j : Int) : Prop := (-(2 ^ 64) < i ∧ i < 2 ^ 64) ∨ (-(2 ^ 64) < j ∧ j < 2 ^ 64)
theorem CMul.ok {i j : Int} (h : CMul i j) : IntMulOk i j := by
  rcases h with ⟨h1, h2⟩ | ⟨h1, h2⟩
  · exact .of_left (intBits_le_64 h1 h2)
  · exact .of_right (intBits_le_64 h1 h2)
theorem op_add : OpR X (binaryOp .Add) (rI0 fun i j => .int (i + j)) := opI0 fun _ _ _ _ _ _ _ q => add_int q
theorem op_fdiv : OpR X (binaryOp .FloorDiv) (rI CDiv fun i j => .int (i / j)) := opI fun i j _ _ _ _ _ hc q => by
  have h1 : (0 : Int) < j := hc.1
  have h2 : j < 1073741824 := hc.2
  exact floordiv_int (by omega) (by rw [Int.fdiv_eq_ediv_of_nonneg i (by omega)]; exact q) (.inl (PyProof.noPylong_small (by omega)))
theorem op_mod : OpR X (binaryOp .Mod) (rI (fun _ j => 0 < j) fun i j => .int (i % j)) := opI fun i j _ _ _ _ _ hc q => by
  have h1 : (0 : Int) < j := hc
  exact mod_int' (by omega) (by rw [Int.fmod_eq_emod_of_nonneg i (by omega)]; exact q)
theorem unI {f : Value → Sem Value} {g : Int → Int}
    (rule : ∀ (i : Int) (t : Tok) (s : Shared) (Q : Value → Shared → Prop) (E : Value → Shared → Prop), Q (.int (g i) s.toks) { s with toks := s.toks + 1 } → wpAny (model X.prog X.w) X.A (f (.int i t)) Q E s) :
    UnR X f (rU fun i => .int (g i)) := by
  intro pins s σ H x v Q I rx h
  obtain ⟨i, rfl, q⟩ := h
  obtain ⟨t, rfl⟩ := rx
  exact rule i t s _ _ ⟨.int (g i), H, I.tok _, ⟨_, rfl⟩, q⟩
theorem un_neg : UnR X (unaryOp .USub) (rU fun i => .int (-i)) := unI fun _ _ _ _ _ q => neg_int q
end
def scal : V → V → Bool
  | .non, .non => true | .non, .int _ => true | .int _, .non => true | .non, .bl _ => true | .bl _, .non => true | .non, .str _ => true | .str _, .non => true
  | .int _, .int _ => true | .bl _, .bl _ => true | .str _, .str _ => true | .byt _, .byt _ => true
  | .int _, .str _ => true | .str _, .int _ => true | .bl _, .str _ => true | .str _, .bl _ => true
  | _, _ => false
def rEq : R2 := fun x y H Q => scal x y = true ∧ Q (.bl (decide (x = y))) H
theorem dec_int {i j : Int} : decide (V.int i = V.int j) = (i == j) := by
  rw [Bool.eq_iff_iff]
  simp
theorem dec_bl {i j : Bool} : decide (V.bl i = V.bl j) = (i == j) := by
  rw [Bool.eq_iff_iff]
  simp
theorem dec_str {i j : Str} : decide (V.str i = V.str j) = (i == j) := by
  rw [Bool.eq_iff_iff]
  simp
theorem dec_byt {i j : Array UInt8} : decide (V.byt i = V.byt j) = (i.toList == j.toList) := by
  rw [Bool.eq_iff_iff]
  cases i
  cases j
  simp
section
variable {X : Cx} {a b c : Expr} {ta tb tc : TE} {pos : Pos}
theorem fin_bl {pins : List (Addr × Obj)} {σ : St} {H : Hp} {s : Shared} {Q : VK} {k k' : Bool} (I : Inv X pins σ H s) (q : Q (.bl k) H) (e : k = k') : EP X pins σ Q (.bool k') s := by
  subst e
  exact ⟨.bl k, H, I, rfl, q⟩
theorem op_eq : OpR X (compareOp .Eq) rEq := by
  intro pins s σ H x y v u Q I rx ry h
  obtain ⟨hs, q⟩ := h
  cases x with
  | non =>
    cases rx
    cases y with
    | non => cases ry; exact PySem.EqNone.eq_none_none (fin_bl I q (by simp))
    | bl j => cases ry; exact PySem.EqNone.eq_none_bool (fin_bl I q (by simp))
    | int j => obtain ⟨t', rfl⟩ := ry; exact PySem.EqNone.eq_none_int (fin_bl I q (by simp))
    | str j => obtain ⟨t', rfl⟩ := ry; exact PySem.EqNone.eq_none_str (fin_bl I q (by simp))
    | _ => exact absurd (show false = true from hs) Bool.false_ne_true
  | bl i =>
    cases rx
    cases y with
    | non => cases ry; exact PySem.EqNone.eq_bool_none (fin_bl I q (by simp))
    | bl j => cases ry; exact eq_bool (fin_bl I q dec_bl)
    | str j => obtain ⟨t', rfl⟩ := ry; exact PySem.EqMixed.eq_bool_str (fin_bl I q (by simp))
    | _ => exact absurd (show false = true from hs) Bool.false_ne_true
  | int i =>
    obtain ⟨t, rfl⟩ := rx
    cases y with
    | non => cases ry; exact PySem.EqNone.eq_int_none (fin_bl I q (by simp))
    | int j => obtain ⟨t', rfl⟩ := ry; exact eq_int (fin_bl I q dec_int)
    | str j => obtain ⟨t', rfl⟩ := ry; exact PySem.EqMixed.eq_int_str (fin_bl I q (by simp))
    | _ => exact absurd (show false = true from hs) Bool.false_ne_true
  | str i =>
    obtain ⟨t, rfl⟩ := rx
    cases y with
    | non => cases ry; exact PySem.EqNone.eq_str_none (fin_bl I q (by simp))
    | bl j => cases ry; exact PySem.EqMixed.eq_str_bool (fin_bl I q (by simp))
    | int j => obtain ⟨t', rfl⟩ := ry; exact PySem.EqMixed.eq_str_int (fin_bl I q (by simp))
    | str j => obtain ⟨t', rfl⟩ := ry; exact eq_str (fin_bl I q dec_str)
    | _ => exact absurd (show false = true from hs) Bool.false_ne_true
  | byt i =>
    obtain ⟨t, rfl⟩ := rx
    cases y with
    | byt j => obtain ⟨t', rfl⟩ := ry; exact PySem.W.eq_bytes (fin_bl I q dec_byt)
    | _ => exact absurd (show false = true from hs) Bool.false_ne_true
  | _ => cases y <;> exact absurd (show false = true from hs) Bool.false_ne_true
theorem op_lt : OpR X (compareOp .Lt) (rI0 fun i j => .bl (decide (i < j))) := opB0 fun _ _ _ _ _ _ _ q => lt_int q
theorem op_le : OpR X (compareOp .LtE) (rI0 fun i j => .bl (decide (i ≤ j))) := opB0 fun _ _ _ _ _ _ _ q => le_int q
theorem op_gt : OpR X (compareOp .Gt) (rI0 fun i j => .bl (decide (j < i))) := opB0 fun _ _ _ _ _ _ _ q => gt_int q
theorem op_in_str : OpR X (compareOp .In) (fun x y H Q => ∃ i j, x = .str i ∧ y = .str j ∧ Q (.bl (!(Builtin.Str.occurrences j i 0 j.length 1).isEmpty)) H) := by
  intro pins s σ H x y v u Q I rx ry h
  obtain ⟨i, j, rfl, rfl, q⟩ := h
  obtain ⟨t, rfl⟩ := rx
  obtain ⟨t', rfl⟩ := ry
  exact in_str (fin_bl I q rfl)
theorem op_isN : OpR X (compareOp .Is) (fun x y H Q => y = .non ∧ Q (.bl (decide (x = .non))) H) := by
  intro pins s σ H x y v u Q I rx ry h
  obtain ⟨rfl, q⟩ := h
  cases ry
  refine is_none_gen (fin_bl I q ?_)
  cases x <;> first
    | (cases rx; rfl)
    | (obtain ⟨t, rfl⟩ := rx; rfl)
theorem op_notN : OpR X (compareOp .IsNot) (fun x y H Q => y = .non ∧ Q (.bl (!decide (x = .non))) H) := by
  intro pins s σ H x y v u Q I rx ry h
  obtain ⟨rfl, q⟩ := h
  cases ry
  refine isnot_none_gen (fin_bl I q ?_)
  cases x <;> first
    | (cases rx; rfl)
    | (obtain ⟨t, rfl⟩ := rx; rfl)
theorem op_notin_str : OpR X (compareOp .NotIn) (fun x y H Q => ∃ i j, x = .str i ∧ y = .str j ∧ Q (.bl (!(!(Builtin.Str.occurrences j i 0 j.length 1).isEmpty))) H) := by
  intro pins s σ H x y v u Q I rx ry h
  obtain ⟨i, j, rfl, rfl, q⟩ := h
  obtain ⟨t, rfl⟩ := rx
  obtain ⟨t', rfl⟩ := ry
  exact notIn_str (fin_bl I q rfl)
theorem OpR.or {f : Value → Value → Sem Value} {r r' : R2} (h : OpR X f r) (h' : OpR X f r') : OpR X f (fun x y H Q => r x y H Q ∨ r' x y H Q) := by
  intro pins s σ H x y v u Q I rx ry q
  rcases q with q | q
  · exact h pins s σ H x y v u Q I rx ry q
  · exact h' pins s σ H x y v u Q I rx ry q
theorem nomark (b : Expr) {op : CmpOp} (h : op ≠ .In := by decide) (h2 : op ≠ .NotIn := by decide) : behindInMarks op b = false := by
  have e1 : (op == CmpOp.In) = false := by cases op <;> first | rfl | exact absurd rfl h
  have e2 : (op == CmpOp.NotIn) = false := by cases op <;> first | rfl | exact absurd rfl h2
  cases b <;> simp [behindInMarks, e1, e2]
theorem pe_cmpR {op : CmpOp} {r : R2} (ho : OpR X (compareOp op) r) (ha : PE X a ta) (hb : PE X b tb) (hm : behindInMarks op b = false) : PE X (.Compare a [op] [b] pos) (tOp r ta tb) := by
  intro pins s σ H Q I h
  exact wpAny_Compare1 (binT ha hb I h fun v u s2 x y H2 I2 rx ry q => ho pins s2 σ H2 x y v u Q I2 rx ry q) hm
def tTest (t : TE) : TT := fun σ H Q => t σ H fun x H' => ∃ k, x = .bl k ∧ Q k H'
theorem pt_cmpR {op : CmpOp} {r : R2} (ho : OpR X (compareOp op) r) (ha : PE X a ta) (hb : PE X b tb) (hm : behindInMarks op b = false) : PT X (.Compare a [op] [b] pos) (tTest (tOp r ta tb)) := by
  intro pins s σ H Q I h
  refine wpAny_isTrue_Compare1 (thn (ha pins s σ H _ I h) fun v s1 ⟨x, H1, I1, r1, q1⟩ => thn (hb pins s1 σ H1 _ I1 q1) fun u s2 ⟨y, H2, I2, r2, q2⟩ =>
    thn (ho pins s2 σ H2 x y v u _ I2 r1 r2 q2) fun c s3 ⟨z, H3, I3, r3, k, e, q3⟩ => ?_) hm
  subst e
  cases r3
  exact wpAny_truthy_bool ⟨H3, I3, q3⟩
def tChain (r r' : R2) (ta tb tc : TE) : TE := fun σ H Q => ta σ H fun x H1 => tb σ H1 fun y H2 => r x y H2 fun z H3 => ∃ k, z = .bl k ∧
  (if k = true then tc σ H3 fun w' H4 => r' y w' H4 Q else Q (.bl false) H3)
theorem pe_chain {op op' : CmpOp} {r r' : R2} (ho : OpR X (compareOp op) r) (ho' : OpR X (compareOp op') r') (ha : PE X a ta) (hb : PE X b tb) (hc : PE X c tc)
    (hm : lastMarks [op, op'] [b, c] = false := by with_unfolding_all rfl) : PE X (.Compare a [op, op'] [b, c] pos) (tChain r r' ta tb tc) := by
  intro pins s σ H Q I h
  refine Compare_chain (thn (ha pins s σ H _ I h) fun v s1 ⟨x, H1, I1, r1, q1⟩ => chain_link (thn (hb pins s1 σ H1 _ I1 q1) fun u s2 ⟨y, H2, I2, r2, q2⟩ =>
    thn (ho pins s2 σ H2 x y v u _ I2 r1 r2 q2) fun d s3 ⟨z, H3, I3, r3, k, e, q3⟩ => ?_)) hm
  subst e
  cases r3
  refine wpAny_truthy_bool ?_
  cases k with
  | false => exact ite_ff ⟨.bl false, H3, I3, rfl, q3⟩
  | true => exact ite_tt (chain_last (thn (hc pins s3 σ H3 _ I3 q3) fun w' s4 ⟨z', H4, I4, r4, q4⟩ => ho' pins s4 σ H4 y z' u w' Q I4 r2 r4 q4))
def TruV (K : PySem.W.Frag) (x : V) (H : Hp) (k : Bool) : Prop :=
  match x with
  | .non => k = false
  | .bl b => k = b
  | .int i => k = (i != 0)
  | .str y => y.length ≤ sizeLine ∧ k = ((y.length : Int) != 0)
  | .byt y => y.size ≤ sizeLine ∧ k = ((y.size : Int) != 0)
  | .ref p => (∃ xs, SqL K H p xs ∧ k = !xs.isEmpty) ∨ (∃ xs, SqT K H p xs ∧ k = !xs.isEmpty) ∨ ∃ kvs, H p = some (.dK kvs) ∧ k = !kvs.isEmpty
  | _ => False
theorem isEmpty_kv {κ : Type} {kvs : List (κ × V)} {vs : List (κ × Value)} (r : KV kvs vs) : (!vs.isEmpty) = !kvs.isEmpty := by
  cases r <;> rfl
theorem isEmpty_of {xs : List V} {its : List Value} (r : Vals xs its) : (!its.toArray.isEmpty) = !xs.isEmpty := by
  cases r <;> simp
theorem line63 : (sizeLine : Nat) < 2 ^ 63 := by rw [sizeLine_eq]; decide
theorem tru_ok : TruR X (fun x H Q => ∃ k, TruV X.K x H k ∧ Q k H) := by
  intro pins s σ H x v Q I rx h
  obtain ⟨k, e, q⟩ := h
  have hl := line63
  have hs : sizeLine = 16777216 := sizeLine_eq
  cases x with
  | non =>
    cases rx
    have e' : k = false := e
    subst e'
    exact truthy_none ⟨H, I, q⟩
  | bl b =>
    cases rx
    have e' : k = b := e
    subst e'
    exact wpAny_truthy_bool ⟨H, I, q⟩
  | int i =>
    obtain ⟨t, rfl⟩ := rx
    have e' : k = (i != 0) := e
    subst e'
    exact PySem.P.truthy_int ⟨H, I, q⟩
  | str y =>
    obtain ⟨t, rfl⟩ := rx
    obtain ⟨hy, e'⟩ : y.length ≤ sizeLine ∧ k = ((y.length : Int) != 0) := e
    subst e'
    exact PySem.P.truthy_str (by omega) ⟨H, I.tok _, q⟩
  | byt y =>
    obtain ⟨t, rfl⟩ := rx
    obtain ⟨hy, e'⟩ : y.size ≤ sizeLine ∧ k = ((y.size : Int) != 0) := e
    subst e'
    exact PySem.W.truthy_bytes (by omega) ⟨H, I.tok _, q⟩
  | ref p =>
    cases rx
    have e' : (∃ xs, SqL X.K H p xs ∧ k = !xs.isEmpty) ∨ (∃ xs, SqT X.K H p xs ∧ k = !xs.isEmpty) ∨ ∃ kvs, H p = some (.dK kvs) ∧ k = !kvs.isEmpty := e
    rcases e' with ⟨xs, hx, e'⟩ | ⟨xs, hx, e'⟩ | ⟨kvs, hx, e'⟩
    · subst e'
      obtain ⟨its, r, pl, hz⟩ := I.list hx
      have hlen := r.length
      exact wpAny_truthy_list pl.isList (by simp only [List.size_toArray]; omega) ⟨H, I.tok _, by rw [isEmpty_of r]; exact q⟩
    · subst e'
      obtain ⟨its, r, pl, hz⟩ := I.tuple hx
      have hlen := r.length
      exact truthy_tuple pl (by simp only [List.size_toArray]; omega) ⟨H, I.tok _, by rw [isEmpty_of r]; exact q⟩
    · subst e'
      obtain ⟨hz, hS, vs, r, m⟩ : kvs.length ≤ sizeLine ∧ (p == sysModules) = false ∧ ∃ vs, KV kvs vs ∧ s.heap.DictOf (mixKind X.prog X.w) p vs := I.hok p _ hx
      have hlen : kvs.length = vs.length := Paired.length r
      exact wpAny_truthy_dict hS m (by omega) ⟨H, I.tok _, by rw [isEmpty_kv r]; exact q⟩
  | _ => exact (show False from e).elim
theorem pt_truth (ha : PE X a ta) (he : ∀ whole, isTrue a X.env whole = (do let v ← whole; standAt a.pos; holding [v] (truthy v))) :
    PT X a (fun σ H Q => ta σ H fun x H' => ∃ k, TruV X.K x H' k ∧ Q k H') := by
  intro pins s σ H Q I h
  exact isTrue_plain (thn (ha pins s σ H _ I h) fun v s1 ⟨x, H1, I1, r1, q1⟩ => tru_ok pins s1 σ H1 x v Q I1 r1 q1) (he _)
theorem op_add_str : OpR X (binaryOp .Add) (fun x y H Q => ∃ i j, x = .str i ∧ y = .str j ∧ i.length + j.length ≤ sizeLine ∧ Q (.str (i ++ j)) H) := by
  intro pins s σ H x y v u Q I rx ry h
  obtain ⟨i, j, rfl, rfl, hz, q⟩ := h
  obtain ⟨t, rfl⟩ := rx
  obtain ⟨t', rfl⟩ := ry
  exact add_str (fun t' tk => ⟨.str (i ++ j), H, I.tok _, ⟨_, rfl⟩, q⟩) hz
theorem vals1 {x : V} {us : List Value} (r : Vals [x] us) : ∃ u, us = [u] ∧ RelV x u := by
  cases r with
  | cons r1 r2 => cases r2; exact ⟨_, rfl, r1⟩
theorem vals2 {x y : V} {us : List Value} (r : Vals [x, y] us) : ∃ u w', us = [u, w'] ∧ RelV x u ∧ RelV y w' := by
  cases r with
  | cons r1 r2 =>
    cases r2 with
    | cons r3 r4 => cases r4; exact ⟨_, _, rfl, r1, r3⟩
def LenV (K : PySem.W.Frag) (x : V) (H : Hp) (n : Nat) : Prop :=
  match x with
  | .str y => y.length ≤ sizeLine ∧ n = y.length
  | .byt y => y.size ≤ sizeLine ∧ n = y.size
  | .ref p => (∃ xs, SqL K H p xs ∧ n = xs.length) ∨ ∃ xs, SqT K H p xs ∧ n = xs.length
  | _ => False
theorem call_len : CallR X (.builtin "len") (fun xs H Q => ∃ x n, xs = [x] ∧ LenV X.K x H n ∧ Q (.int n) H) := by
  intro pins s σ H xs us Q I r h
  obtain ⟨x, n, rfl, e, q⟩ := h
  obtain ⟨u, rfl, rx⟩ := vals1 r
  have hl := line63
  have hs : sizeLine = 16777216 := sizeLine_eq
  cases x with
  | str y =>
    obtain ⟨t, rfl⟩ := rx
    obtain ⟨hy, e'⟩ : y.length ≤ sizeLine ∧ n = y.length := e
    subst e'
    exact len_str (by omega) ⟨.int _, H, I.tok _, ⟨_, rfl⟩, q⟩
  | byt y =>
    obtain ⟨t, rfl⟩ := rx
    obtain ⟨hy, e'⟩ : y.size ≤ sizeLine ∧ n = y.size := e
    subst e'
    exact PySem.W.len_bytes (by omega) ⟨.int _, H, I.tok _, ⟨_, rfl⟩, q⟩
  | ref p =>
    cases rx
    have e' : (∃ xs, SqL X.K H p xs ∧ n = xs.length) ∨ ∃ xs, SqT X.K H p xs ∧ n = xs.length := e
    rcases e' with ⟨xs, hx, e'⟩ | ⟨xs, hx, e'⟩
    · subst e'
      obtain ⟨its, r', pl, hz⟩ := I.list hx
      have hlen := r'.length
      exact Calls.call_len_list pl.isList (by simp only [List.size_toArray]; omega) ⟨.int xs.length, H, I.tok _, ⟨_, by simp only [List.size_toArray]; rw [hlen]⟩, q⟩
    · subst e'
      obtain ⟨its, r', pl, hz⟩ := I.tuple hx
      have hlen := r'.length
      exact len_tuple pl (by simp only [List.size_toArray]; omega) ⟨.int xs.length, H, I.tok _, ⟨_, by simp only [List.size_toArray]; rw [hlen]⟩, q⟩
  | _ => exact (show False from e).elim
end
end L2
namespace L2
open PySem PySem.Spec PyProof.Rows
structure ObjM (h : Heap) (x dx C : Addr) (mA : Str → Option Value) : Prop where
  obj : h.get? x = some (PySem.W.instObj C dx)
  ns : h.Ns1 dx mA
  ne : dx ≠ x
theorem lookIn_ns {h : Heap} {dx : Addr} {mA : Str → Option Value} (n : h.Ns1 dx mA) : ∃ od, h.get? dx = some od ∧ ∀ name, PySem.W.lookIn name od = some (mA name) := by
  obtain ⟨o, es, ep, ho, hd, hk, _, hm⟩ := n
  refine ⟨o, ho, fun name => ?_⟩
  have e := hm name
  unfold nsFind findBy at e
  rw [← Array.find?_toList] at e
  unfold PySem.W.lookIn
  rw [hd]
  dsimp only
  split
  · rename_i y q
    rw [q] at e
    exact congrArg some e
  · rename_i q
    rw [q] at e
    have a : es.toList.any (·.refKey) = false := by
      rw [List.any_eq_false]
      intro y hy
      obtain ⟨z, t, hkey⟩ := hk y (Array.mem_toList_iff.mp hy)
      simp [DictEntry.refKey, hkey]
    have a' : ¬ es.toList.any (·.refKey) = true := by rw [a]; exact Bool.false_ne_true
    rw [if_neg a']
    exact congrArg some e
theorem ObjM.look {h : Heap} {x dx C : Addr} {mA : Str → Option Value} (I : ObjM h x dx C mA) : ∃ od, PySem.W.InstAt h x (PySem.W.instObj C dx) C (some od) ∧ ∀ name, PySem.W.lookIn name od = some (mA name) :=
  let ⟨od, ho, hl⟩ := lookIn_ns I.ns
  ⟨od, ⟨I.obj, rfl, rfl, ho⟩, hl⟩
section
variable {prog : Program} {w : World} {A : Around} {E : Value → Shared → Prop} {s : Shared} {K : PySem.W.Frag} {x dx C f : Addr} {mA : Str → Option Value} {name : Str} {v : Value}
theorem get_map {expr : Bool} {Q : Value → Shared → Prop} (X : K.In s.heap) (I : ObjM s.heap x dx C mA) (hg : PySem.W.plainGet K C name = true) (hh : PySem.W.hasDictIn K C = true)
    (ha : PySem.W.findIn K (.ref C) name = some none) (hv : mA name = some v) (hv' : PySem.W.handedIn v = true) (h : Q v { s with toks := s.toks + 1 }) :
    wpAny (model prog w) A (getAttr (.ref x) name expr) Q E s := by
  obtain ⟨od, J, hl⟩ := I.look
  exact PySem.W.get_value X J (PySem.W.plainGet_of hg).1 (PySem.W.findObj_own hh ha rfl (by rw [hl, hv])) hv' h
theorem get_meth {pl : Sem Bool} {Q : Value × List Value → Shared → Prop} (X : K.In s.heap) (I : ObjM s.heap x dx C mA) (hg : PySem.W.plainGet K C name = true)
    (hf : PySem.W.findIn K (.ref C) name = some (some (.ref f))) (ht : PySem.W.isFn K (.ref f) = true) (hv : mA name = none) (h : Q (.ref f, [.ref x]) s) :
    wpAny (model prog w) A (getMethod (.ref x) name pl) Q E s := by
  obtain ⟨od, J, hl⟩ := I.look
  exact PySem.W.method_fn X J (PySem.W.plainGet_of hg).1 (PySem.W.plainGet_of hg).2 hf (beq_iff_eq.mp ht) (by show (PySem.W.lookIn name od).map (·.isSome) = some false; rw [hl, hv]; rfl) h
theorem set_map {ns : List Str} {Q : Unit → Shared → Prop} (X : K.In s.heap) (I : ObjM s.heap x dx C mA)
    (hs : PySem.W.findIn K (.ref C) "__setattr__" = some (some (.builtin "object.__setattr__"))) (hp : PySem.W.plainOver K C = true) (ht : PySem.W.takerIn K C name = some none) (hh : PySem.W.hasDictIn K C = true)
    (hw : PySem.Within mA ns) (hsz : ns.length ≤ sizeLine)
    (h : ∀ h', ObjM h' x dx C (fun y => if y = name then some v else mA y) → Heap.SameBut dx s.heap h' → Q () { s with heap := h', toks := s.toks + 2 }) :
    wpAny (model prog w) A (setAttr (.ref x) name v) Q E s := by
  obtain ⟨od, J, hl⟩ := I.look
  refine PySem.W.set_plain X J hs (PySem.W.osa_open (s := { s with toks := s.toks + 1 }) (r := none) X J hp ht fun b => ?_)
  obtain ⟨cd, hc, hd'⟩ := PySem.W.any_some hh
  have hx : s.heap.get? x = some ⟨.ref C, some dx, .plain, #[]⟩ := I.obj
  refine wpAny_bind (wpAny_pure (wpAny_bind (wpAny_bind (wpAny_loadPart hx (wpAny_bind (PySem.W.Looks.here (s := { s with toks := s.toks + 1 }) (PySem.W.looks_clsIn X hc) ?_))))))
  rw [hd']
  refine wpAny_pure (a := some dx) (wpAny_bind (wpAny_pure (wpAny_bind ?_)))
  refine wpAny_nsSet1 (s := { s with toks := s.toks + 1 }) I.ns fun h' hn2 hs2 => ?_
  obtain ⟨oD, esD, epD, hoD, hdD, hcD⟩ := hn2.count (PySem.Within.cons name v hw)
  refine wpAny_bind (wpAny_lookBehind hoD (by rw [hdD]; exact pastItsLine_dict (Nat.le_trans hcD (by rw [List.length_cons]; omega))) ?_)
  exact wpAny_pure (h _ ⟨(hs2.2 _ (Ne.symm I.ne)).trans I.obj, hn2, I.ne⟩ hs2)
theorem make_map {R : Result → Shared → Prop} {vs : List Value} {kw : List (Str × Value)} (X : K.In s.heap) (hm : PySem.W.makesIn K C = true)
    (hi : PySem.W.findIn K (.ref C) "__init__" = some (some (.ref f))) (hf : PySem.W.typeIn K (.ref f) = some (.type "function"))
    (h : codeAny (model prog w) (A.under (.builtin "type.__call__" ⟨.ref C :: vs, kw⟩)) (.call (.ref f) ⟨.ref (s.heap.objs.size + 1) :: vs, kw⟩) (PySem.W.InitBack (s.heap.objs.size + 1) R)
      { s with heap := (s.heap.push PySem.W.emptyDict).push (PySem.W.instObj C s.heap.objs.size) }) :
    codeAny (model prog w) A (.call (.ref C) ⟨vs, kw⟩) R s := by
  obtain ⟨hh, g, d, t, os⟩ := s
  exact PySem.W.make_core (PySem.W.makes_of X hm) (PySem.W.looks_findIn X hi) (fun self => PySem.W.bind_fn X self hf) (.inl rfl) h
end
def putF (f : Str) (v : V) : List (Str × V) → List (Str × V)
  | [] => [(f, v)]
  | (g, x) :: r => if g = f then (g, v) :: r else (g, x) :: putF f v r
theorem lookup_putF (f g : Str) (v : V) : ∀ fs : List (Str × V), (putF f v fs).lookup g = if g = f then some v else fs.lookup g
  | [] => by
    show List.lookup g [(f, v)] = _
    by_cases h : g = f
    · have hb : (g == f) = true := beq_iff_eq.mpr h
      simp only [List.lookup, hb, if_pos h]
    · have hb : (g == f) = false := beq_eq_false_iff_ne.mpr h
      simp only [List.lookup, hb, if_neg h]
  | (k, x) :: r => by
    have ih := lookup_putF f g v r
    rw [show putF f v ((k, x) :: r) = (if k = f then (k, v) :: r else (k, x) :: putF f v r) from rfl]
    by_cases hk : k = f
    · rw [if_pos hk]
      by_cases h : g = k
      · have hb : (g == k) = true := beq_iff_eq.mpr h
        simp only [List.lookup, hb, if_pos (h.trans hk)]
      · have hb : (g == k) = false := beq_eq_false_iff_ne.mpr h
        simp only [List.lookup, hb, if_neg (fun e : g = f => h (e.trans hk.symm))]
    · rw [if_neg hk]
      by_cases h : g = k
      · have hb : (g == k) = true := beq_iff_eq.mpr h
        simp only [List.lookup, hb, if_neg (fun e : g = f => hk (h.symm.trans e))]
      · have hb : (g == k) = false := beq_eq_false_iff_ne.mpr h
        simp only [List.lookup, hb]
        exact ih
theorem keys_putF (f : Str) (v : V) : ∀ fs : List (Str × V), f ∈ (putF f v fs).map (·.1) ∧ ∀ g, g ∈ fs.map (·.1) → g ∈ (putF f v fs).map (·.1)
  | [] => ⟨by simp [putF], fun g h => by simp at h⟩
  | (k, x) :: r => by
    obtain ⟨i1, i2⟩ := keys_putF f v r
    rw [show putF f v ((k, x) :: r) = (if k = f then (k, v) :: r else (k, x) :: putF f v r) from rfl]
    by_cases hk : k = f
    · rw [if_pos hk]
      subst hk
      exact ⟨by simp, fun g h => by simpa using h⟩
    · rw [if_neg hk]
      refine ⟨?_, fun g h => ?_⟩
      · rw [List.map_cons]
        exact List.mem_cons_of_mem _ i1
      · rw [List.map_cons] at h ⊢
        rcases List.mem_cons.mp h with e | e
        · exact List.mem_cons.mpr (.inl e)
        · exact List.mem_cons_of_mem _ (i2 g e)
theorem length_putF (f : Str) (v : V) : ∀ fs : List (Str × V), (putF f v fs).length ≤ fs.length + 1
  | [] => by simp [putF]
  | (k, x) :: r => by
    have ih := length_putF f v r
    rw [show putF f v ((k, x) :: r) = (if k = f then (k, v) :: r else (k, x) :: putF f v r) from rfl]
    by_cases hk : k = f
    · rw [if_pos hk, List.length_cons, List.length_cons]; omega
    · rw [if_neg hk, List.length_cons, List.length_cons]; omega
theorem RelO.some_of {v : V} {o : Option Value} (r : RelO (some v) o) : ∃ u, o = some u ∧ RelV v u := by
  cases o with
  | none => exact (show False from r).elim
  | some u => exact ⟨u, rfl, r⟩
theorem RelO.none_of {o : Option Value} (r : RelO none o) : o = none := by
  cases o with
  | none => rfl
  | some u => exact (show False from r).elim
theorem handed_of {v : V} {u : Value} (r : RelV v u) : PySem.W.handedIn u = true := by
  cases v with
  | non => cases (show u = Value.none from r); rfl
  | bl b => cases (show u = Value.bool b from r); rfl
  | int i => obtain ⟨t, e⟩ := (show ∃ t, u = Value.int i t from r); cases e; rfl
  | str x => obtain ⟨t, e⟩ := (show ∃ t, u = Value.str x t from r); cases e; rfl
  | byt b => obtain ⟨t, e⟩ := (show ∃ t, u = Value.bytes b t from r); cases e; rfl
  | flt b => obtain ⟨t, e⟩ := (show ∃ t, u = Value.float b t from r); cases e; rfl
  | ref a => cases (show u = Value.ref a from r); rfl
  | ty n => cases (show u = Value.type n from r); rfl
section
variable {P : Program} {w : World} {H H' : Hp} {h h' : Heap} {a C dx : Addr} {fs fs' : List (Str × V)}
theorem ins_get (hok : HOk P w H h) (e : H a = some (.ins C dx fs)) : ∃ mA, ObjM h a dx C mA ∧ (∀ f, RelO (fs.lookup f) (mA f)) ∧ PySem.Within mA (fs.map (·.1)) ∧ fs.length ≤ 1000 ∧ H dx = some (.own a) := by
  obtain ⟨d, z, ne, ob, mA, n, r, q⟩ := (show ObjOk P w H h a (.ins C dx fs) from hok a _ e)
  exact ⟨mA, ⟨ob, n, ne⟩, r, q, z, d⟩
end
structure Cls (K : PySem.W.Frag) (C : Addr) : Prop where
  pg : PySem.W.plainGet K C Str.empty = true
  hd : PySem.W.hasDictIn K C = true
  po : PySem.W.plainOver K C = true
  sa : PySem.W.findIn K (.ref C) "__setattr__" = some (some (.builtin "object.__setattr__"))
theorem Cls.get {K : PySem.W.Frag} {C : Addr} (c : Cls K C) (f : Str) : PySem.W.plainGet K C f = true := c.pg
def NoAttr (K : PySem.W.Frag) (C : Addr) (f : Str) : Prop := PySem.W.findIn K (.ref C) f = some none
theorem NoAttr.taker {K : PySem.W.Frag} {C : Addr} {f : Str} (n : NoAttr K C f) : PySem.W.takerIn K C f = some none := by
  unfold PySem.W.takerIn
  rw [show PySem.W.findIn K (.ref C) f = some none from n]
  rfl
structure Meth (K : PySem.W.Frag) (C : Addr) (m : Str) (f : Addr) : Prop where
  at_ : PySem.W.findIn K (.ref C) m = some (some (.ref f))
  fn : PySem.W.isFn K (.ref f) = true
  kp : PySem.W.keepIn K (.ref f) = true
section
variable {X : Cx} {pins : List (Addr × Obj)} {σ : St} {H : Hp} {s : Shared} {a C dx : Addr} {fs : List (Str × V)} {f : Str} {v : V} {A : Around} {E : Value → Shared → Prop}
theorem setattr_ok {y : V} {u : Value} {Q : Unit → Shared → Prop} (I : Inv X pins σ H s) (e : H a = some (.ins C dx fs)) (c : Cls X.K C) (n : NoAttr X.K C f) (hl : fs.length < 1000) (ry : RelV y u)
    (h : ∀ s', Inv X pins σ (upd H a (.ins C dx (putF f y fs))) s' → Q () s') : wpAny (model X.prog X.w) A (setAttr (.ref a) f u) Q E s := by
  obtain ⟨mA, O, r, wi, _, ho⟩ := ins_get I.hok e
  have hz : (fs.map (·.1)).length ≤ sizeLine := by rw [List.length_map, sizeLine_eq]; omega
  refine set_map I.kIn O c.sa c.po n.taker c.hd wi hz fun h' O' sb => h _ ?_
  have hd : ∃ o, h'.get? dx = some o := let ⟨o, _, _, e', _⟩ := O'.ns; ⟨o, e'⟩
  refine I.write (x := a) (e := dx) (by rw [e]; exact True.intro) (.inr ho) (fun b q hb z => (sb.2 b hb).trans z) hd ?_
  refine ⟨by rw [upd_ne O.ne]; exact ho, ?_, O.ne, O'.obj, _, O'.ns, fun g => ?_, fun g hg => ?_⟩
  · have := length_putF f y fs; omega
  · show RelO ((putF f y fs).lookup g) (if g = f then some u else mA g)
    rw [lookup_putF]
    by_cases q : g = f
    · rw [if_pos q, if_pos q]; exact ry
    · rw [if_neg q, if_neg q]; exact r g
  · by_cases q : g = f
    · rw [q]; exact (keys_putF f y fs).1
    · refine (keys_putF f y fs).2 g (wi g fun z => hg ?_)
      show (if g = f then some u else mA g) = none
      rw [if_neg q]; exact z
theorem Inv.made (I : Inv X pins σ H s) : Inv X pins σ (upd (upd H s.heap.objs.size (.own (s.heap.objs.size + 1))) (s.heap.objs.size + 1) (.ins C s.heap.objs.size []))
    { s with heap := (s.heap.push PySem.W.emptyDict).push (PySem.W.instObj C s.heap.objs.size) } := by
  have e1 : (s.heap.push PySem.W.emptyDict).get? s.heap.objs.size = some PySem.W.emptyDict := Heap.get?_push_size s.heap rfl
  have e2 : ((s.heap.push PySem.W.emptyDict).push (PySem.W.instObj C s.heap.objs.size)).get? (s.heap.objs.size + 1) = some (PySem.W.instObj C s.heap.objs.size) := by
    have := Heap.get?_push_size (s.heap.push PySem.W.emptyDict) (o := PySem.W.instObj C s.heap.objs.size) rfl
    rwa [Heap.size_push] at this
  have e3 : (s.heap.push PySem.W.emptyDict).Ns s.heap.objs.size (fun _ => none) := ⟨PySem.W.emptyDict, #[], _, e1, rfl, (fun e he => absurd he (by simp)), fun _ => rfl⟩
  have I1 := I.laid (a := s.heap.objs.size) (o := .own (s.heap.objs.size + 1)) (h' := s.heap.push PySem.W.emptyDict) (t' := s.toks) (fun b u q => Heap.get?_push_of_some _ q) (Nat.le_refl _) ⟨_, e1⟩
  refine I1.laid (a := s.heap.objs.size + 1) (o := .ins C s.heap.objs.size []) (t' := s.toks) (fun b u q => Heap.get?_push_of_some _ q) (Nat.le_of_eq (Heap.size_push _ _)) ?_
  have ne : s.heap.objs.size ≠ s.heap.objs.size + 1 := Nat.ne_of_lt (Nat.lt_succ_self _)
  refine ⟨by rw [upd_ne ne, upd_same], Nat.zero_le _, ne, e2, fun _ => none, (Heap.Ns1.of_empty e3).at fun o q => Heap.get?_push_of_some _ q, fun _ => True.intro, fun y hy => absurd rfl hy⟩
theorem attr_of {prog : Program} {w : World} {env : Env} {e : Expr} {f : Str} {pos : Pos} {s : Shared} {Q : Value → Shared → Prop} (hb : attributeBase e f env (eval e env) = eval e env)
    (h : wpAny (model prog w) A (eval e env) (fun o s₁ => wpAny (model prog w) A (getAttr o f true) Q E s₁) E s) : wpAny (model prog w) A (eval (.Attribute e f pos) env) Q E s :=
  Attribute_any_ h (by rw [arm_eval_Attribute, hb])
end
def sFld (K : PySem.W.Frag) (ta tv : TE) (f : Str) : TS := fun D σ H => tv σ H fun y H1 => ta σ H1 fun x H2 => ∃ a C dx fs, x = .ref a ∧ H2 a = some (.ins C dx fs) ∧ Cls K C ∧ NoAttr K C f ∧ fs.length < 1000 ∧
  D.nx σ (upd H2 a (.ins C dx (putF f y fs)))
section
variable {X : Cx} {o e value : Expr} {f : Str} {pos pos' tpos : Pos} {ta tv : TE}
theorem ps_fld (ha : PE X o ta) (hv : PE X value tv) (hs : swapsWith value (some (.Attribute o f pos')) pos.line X.env = pure false) : PS X (.Assign [.Attribute o f pos'] value pos) (sFld X.K ta tv f) := by
  intro pins s σ H D I h
  refine plainObj_wpAny_Assign_Attribute (thn (hv pins s σ H _ I h) fun u s1 ⟨y, H1, I1, ry, q⟩ => thn (ha pins s1 σ H1 _ I1 q) fun ov s2 ⟨x, H2, I2, rx, a, C, dx, fs, ex, ea, c, n, l, q2⟩ => ?_) hs
  subst ex
  obtain rfl : ov = Value.ref a := rx
  exact setattr_ok I2 ea c n l ry fun s3 I3 => ⟨σ, _, I3, q2⟩
end
section
variable {X : Cx} {pins : List (Addr × Obj)} {σ : St} {H : Hp} {s : Shared} {A : Around} {E : Value → Shared → Prop} {Q : Value → Shared → Prop} {c : Value} {b : Bool}
end
end L2
namespace L2
open PySem PySem.Spec PyProof.Rows
structure Room (k : Nat) (A : Around) : Prop where
  hd : A.handled = none
  dp : A.depth + 3 * k + 5 < recursionLimit
  un : A.units + 16 * k + 200 < cLine
theorem Room.mono {j k : Nat} {A : Around} (r : Room k A) (h : j ≤ k) : Room j A := ⟨r.hd, by have := r.dp; omega, by have := r.un; omega⟩
theorem Room.deeper {k : Nat} {A : Around} (r : Room (k + 1) A) (env : Env) : Room k (A.deeper env) :=
  ⟨r.hd, by have := r.dp; show A.depth + 1 + 3 * k + 5 < _; omega, by have := r.un; show A.units + 3 + 16 * k + 200 < _; omega⟩
theorem make_depth {A : Around} {C : Addr} {us : List Value} {kw : List (Str × Value)} : (A.under (.builtin "type.__call__" ⟨.ref C :: us, kw⟩)).depth = A.depth + 1 := by
  first | rfl | simp [Around.under, Code.weight, Code.isCreation, Code.isGuard, Code.isCaller, Code.frames, Code.isFrame, guardIds]
theorem make_units {A : Around} {C : Addr} {us : List Value} {kw : List (Str × Value)} : (A.under (.builtin "type.__call__" ⟨.ref C :: us, kw⟩)).units = A.units + 1 := by
  first | rfl | simp [Around.under, Code.cUnits, Code.frames, Code.isFrame]
theorem Room.make {k : Nat} {A : Around} (r : Room (k + 1) A) (C : Addr) (us : List Value) (kw : List (Str × Value)) : Room k (A.under (.builtin "type.__call__" ⟨.ref C :: us, kw⟩)) :=
  ⟨r.hd, by have := r.dp; rw [make_depth]; omega, by have := r.un; rw [make_units]; omega⟩
theorem Room.depth {k : Nat} {A : Around} (r : Room k A) : A.depth < recursionLimit := by have := r.dp; omega
theorem Room.units {k : Nat} {A : Around} (r : Room k A) : A.units + 64 < cLine := by have := r.un; omega
def tNil : TA := fun _ H Q => Q [] H
def tCons (ta : TE) (tr : TA) : TA := fun σ H Q => ta σ H fun x H1 => tr σ H1 fun xs H2 => Q (x :: xs) H2
section
variable {X : Cx} {e : Expr} {es : List Expr} {te : TE} {t : TA} {pos : Pos}
theorem pa_nil : PA X [] tNil := fun _ _ _ _ H Q I h => Calls.spliced_nil ⟨[], H, I, .nil, h⟩
theorem pa_cons (ha : PE X e te) (hr : PA X es t) (hs : starEach (e :: es) X.env = (false, eval e X.env) :: starEach es X.env := by rfl) : PA X (e :: es) (tCons te t) := by
  intro pos pins s σ H Q I h
  rw [hs]
  show wpAny _ _ (spliced ((false, eval e X.env) :: backTo pos (starEach es X.env))) _ _ s
  refine Calls.spliced_cons (thn (ha pins s σ H _ I h) fun u s1 ⟨x, H1, I1, r1, q1⟩ => ?_)
  exact thn (hr pos pins s1 σ H1 _ I1 q1) fun us s2 ⟨xs, H2, I2, r2, q2⟩ => ⟨x :: xs, H2, I2, .cons r1 r2, q2⟩
def tTup (t : TA) : TE := fun σ H Q => t σ H fun xs H1 => xs.length ≤ sizeLine ∧ ∀ p, H1 p = none → Q (.ref p) (upd H1 p (.tup xs))
def tLst (t : TA) : TE := fun σ H Q => t σ H fun xs H1 => xs.length ≤ sizeLine ∧ ∀ p, H1 p = none → Q (.ref p) (upd H1 p (.lst xs))
theorem pe_tup {x1} (h : PA X es t) : PE X (.Tuple es x1 pos) (tTup t) := by
  intro pins s σ H Q I hq
  refine wpAny_Tuple_spliced (thn (h pos pins s σ H _ I hq) fun us s1 ⟨xs, H1, I1, r, z, q⟩ => ⟨by rw [← r.length]; exact z, ?_⟩)
  have hf : H1 s1.heap.objs.size = none := I1.hok.fresh (Nat.le_refl _)
  refine ⟨.ref s1.heap.objs.size, upd H1 s1.heap.objs.size (.tup xs), I1.laid (t' := s1.toks) (fun b u e => Heap.get?_push_of_some _ e) (Nat.le_refl _) ?_, rfl, q _ hf⟩
  exact ⟨z, us, r, ⟨_, Heap.get?_push_size _ rfl, rfl, _, rfl⟩⟩
theorem pe_lst (h : PA X es t) : PE X (.List es pos) (tLst t) := by
  intro pins s σ H Q I hq
  refine wpAny_List_spliced (thn (h pos pins s σ H _ I hq) fun us s1 ⟨xs, H1, I1, r, z, q⟩ => ⟨by rw [← r.length]; exact z, ?_⟩)
  have hf : H1 s1.heap.objs.size = none := I1.hok.fresh (Nat.le_refl _)
  refine ⟨.ref s1.heap.objs.size, upd H1 s1.heap.objs.size (.lst xs), I1.laid (t' := s1.toks) (fun b u e => Heap.get?_push_of_some _ e) (Nat.le_refl _) ?_, rfl, q _ hf⟩
  exact ⟨z, us, 0, r, Heap.get?_push_size _ rfl⟩
end
abbrev Sp := List V → Hp → VK → XK → Prop
abbrev CXT := List Env → Hp → Shared → XK → Value → Shared → Prop
structure Env0 (P : Program) (w : World) (K : PySem.W.Frag) (mg : Str → Option Value) (base : Heap) (A : Around) (outer : List Env) (s : Shared) (H : Hp) : Prop where
  frames : A.frames = some outer
  mod : Mod K mg base
  bs : ∀ b o, base.get? b = some o → s.heap.get? b = some o ∧ H b = none
  bsz : base.objs.size ≤ s.heap.objs.size
  funs : s.heap.FunFrames base outer
  frf : ∀ b ∈ frs outer, H b = none
  hok : HOk P w H s.heap
  bare : AllBare s.gens
def CE (outer : List Env) (P : Program) (w : World) (H : Hp) (s : Shared) (Q : VK) (u : Value) (s' : Shared) : Prop :=
  ∃ v H', s'.os = s.os ∧ AllBare s'.gens ∧ Un (frs outer) [] H H' s.heap s'.heap ∧ HOk P w H' s'.heap ∧ RelV v u ∧ Q v H'
def CR (CX : CXT) (outer : List Env) (P : Program) (w : World) (H : Hp) (s : Shared) (Q : VK) (E : XK) (r : Result) (s' : Shared) : Prop :=
  match r with
  | .ok (.ret u) => CE outer P w H s Q u s'
  | .ok _ => False
  | .error e => CX outer H s E e s'
structure FnOk (P : Program) (w : World) (K : PySem.W.Frag) (mg : Str → Option Value) (base : Heap) (CX : CXT) (k : Nat) (f : Addr) (fd : FuncData) (ps : List Str) (sp : Sp) : Prop where
  len : ∀ vs H Q E, sp vs H Q E → vs.length = ps.length
  run : ∀ (A : Around) (outer : List Env) (s : Shared) (H : Hp) (args : Args) (us : List Value) (vs : List V) (Q : VK) (E : XK), Room k A → Env0 P w K mg base A outer s H → BindsTo s fd args (ps.zip us) → Vals vs us → sp vs H Q E →
    codeAny (model P w) A (.call (.ref f) args) (CR CX outer P w H s Q E) s
theorem FnOk.mono {P : Program} {w : World} {K : PySem.W.Frag} {mg : Str → Option Value} {base : Heap} {CX : CXT} {j k : Nat} {f : Addr} {fd : FuncData} {ps : List Str} {sp : Sp} (F : FnOk P w K mg base CX j f fd ps sp) (h : j ≤ k) :
    FnOk P w K mg base CX k f fd ps sp := ⟨F.len, fun A outer s H args us vs Q E hr => F.run A outer s H args us vs Q E (hr.mono h)⟩
theorem FnOk.imp {P : Program} {w : World} {K : PySem.W.Frag} {mg : Str → Option Value} {base : Heap} {CX : CXT} {k : Nat} {f : Addr} {fd : FuncData} {ps : List Str} {sp sp' : Sp} (F : FnOk P w K mg base CX k f fd ps sp)
    (h : ∀ vs H Q E, sp' vs H Q E → sp vs H Q E) : FnOk P w K mg base CX k f fd ps sp' :=
  ⟨fun vs H Q E q => F.len vs H Q E (h _ _ _ _ q), fun A outer s H args us vs Q E hr he hb hv hs => F.run A outer s H args us vs Q E hr he hb hv (h _ _ _ _ hs)⟩
theorem Env0.make {P : Program} {w : World} {K : PySem.W.Frag} {mg : Str → Option Value} {base : Heap} {A : Around} {outer : List Env} {s : Shared} {H : Hp} (e : Env0 P w K mg base A outer s H) (C : Addr) (us : List Value) (kw : List (Str × Value)) :
    Env0 P w K mg base (A.under (.builtin "type.__call__" ⟨.ref C :: us, kw⟩)) outer s H := ⟨by first | exact e.frames | (simpa [Around.under, Code.envs, Code.isFrame, pushEnvs] using e.frames), e.mod, e.bs, e.bsz, e.funs, e.frf, e.hok, e.bare⟩
section
variable {X : Cx} {pins : List (Addr × Obj)} {σ : St} {H : Hp} {s s' : Shared}
theorem Inv.env0 (I : Inv X pins σ H s) : Env0 X.prog X.w X.K X.mg X.base X.A X.stack s H :=
  ⟨I.ok.frames, I.ok.mod, I.bs, Nat.le_trans I.ok.bsz I.sz, I.stack, I.stkFree, I.hok, I.bare⟩
theorem Inv.after {Q : VK} {u : Value} (I : Inv X pins σ H s) (h : CE X.stack X.prog X.w H s Q u s') : EP X pins σ Q u s' := by
  obtain ⟨v, H', os, bare, un, hok, r, q⟩ := h
  obtain ⟨hh, g, d, t, os'⟩ := s'
  obtain rfl : os' = s.os := os
  exact ⟨v, H', I.call (h' := hh) (g' := g) (d' := d) (t' := t) (ch := []) un hok bare (fun b z => absurd z (by simp)), r, q⟩
end
def tCall (sp : Sp) (dvs : List V) (E : XK) (t : TA) : TE := fun σ H Q => t σ H fun vs H1 => sp (vs ++ dvs) H1 Q E
def tMake (C : Addr) (sp : Sp) (dvs : List V) (E : XK) (t : TA) : TE := fun σ H Q => t σ H fun vs H1 => ∀ x dx, H1 x = none → H1 dx = none → dx ≠ x →
  sp (.ref x :: (vs ++ dvs)) (upd (upd H1 dx (.own x)) x (.ins C dx [])) (fun v H2 => v = .non ∧ Q (.ref x) H2) E
def Binds (K : PySem.W.Frag) (fd : FuncData) (ps : List Str) (ds : List Value) : Prop :=
  ∀ (s : Shared) (us : List Value), K.In s.heap → (us ++ ds).length = ps.length → BindsTo s fd ⟨us, []⟩ (ps.zip (us ++ ds))
theorem Binds.all {K : PySem.W.Frag} {fd : FuncData} {ps : List Str} (h : ∀ us : List Value, us.length = ps.length → bindArgs fd ⟨us, []⟩ = pure (ps.zip us)) : Binds K fd ps [] := fun s us _ hl => by
  rw [List.append_nil] at hl ⊢
  exact .of_eq (h us hl)
def Passes (CX : CXT) (X : Cx) (E : XK) : Prop := ∀ (pins : List (Addr × Obj)) (σ : St) (H : Hp) (s : Shared) (e : Value) (s' : Shared), Inv X pins σ H s → CX X.stack H s E e s' → X.xe e s'
section
variable {X : Cx} {CX : CXT} {k : Nat} {f C : Addr} {fd : FuncData} {ps : List Str} {sp : Sp} {dvs : List V} {ds : List Value} {E : XK} {x m : Str} {p pos apos : Pos} {e o : Expr} {es : List Expr} {ta : TE} {t : TA}
theorem run_fn {pins : List (Addr × Obj)} {σ : St} {H : Hp} {s : Shared} {Q : VK} {us : List Value} {vs : List V} (F : FnOk X.prog X.w X.K X.mg X.base CX k f fd ps sp) (hr : Room k X.A) (hb : Binds X.K fd ps ds) (hd : Vals dvs ds) (hx : Passes CX X E)
    (I : Inv X pins σ H s) (r : Vals vs us) (h : sp (vs ++ dvs) H Q E) : wpAny (model X.prog X.w) X.A (call (.ref f) us) (EP X pins σ Q) X.xe s := by
  have r2 : Vals (vs ++ dvs) (us ++ ds) := r.append hd
  have hl : (us ++ ds).length = ps.length := by rw [← r2.length]; exact F.len _ _ _ _ h
  refine wpAny_call (codeAny_mono (F.run X.A X.stack s H ⟨us, []⟩ (us ++ ds) (vs ++ dvs) Q E hr I.env0 (hb s us I.kIn hl) r2 h) fun r s' hq => ?_)
  cases r with
  | error e => exact hx pins σ H s e s' I hq
  | ok fl =>
    cases fl with
    | ret u => exact I.after hq
    | next => exact False.elim hq
    | brk => exact False.elim hq
    | cont => exact False.elim hq
theorem pe_call (F : FnOk X.prog X.w X.K X.mg X.base CX k f fd ps sp) (hr : Room k X.A) (hg : Gl X x) (hm : X.mg x = some (.ref f)) (hk : PySem.W.keepIn X.K (.ref f) = true) (hb : Binds X.K fd ps ds) (hd : Vals dvs ds) (hx : Passes CX X E)
    (ha : PA X (e :: es) t) (hdb : (x == ("__debug__" : Str)) = false := by decide) (he : starEach (e :: es) X.env = (false, eval e X.env) :: starEach es X.env := by rfl) (hpl : (backTo pos (starEach es X.env)).any (·.1) = false := by rfl) :
    PE X (.Call (.Name x p) (e :: es) [] pos) (tCall sp dvs E t) := by
  intro pins s σ H Q I h
  refine wpAny_Call_Name_kw (ld_glob I hg hm ?_ hdb)
  refine PySem.W.callWith_K (h₀ := X.base) I.ok.mod.kin hk (thn (ha pos pins s σ H _ I h) fun us s1 ⟨vs, H1, I1, r, q⟩ => ⟨I1.kIn, ?_⟩) he hpl
  exact run_fn F hr hb hd hx I1 r q
structure Mk (K : PySem.W.Frag) (C f : Addr) : Prop where
  makes : PySem.W.makesIn K C = true
  init : PySem.W.findIn K (.ref C) "__init__" = some (some (.ref f))
  fn : PySem.W.isFn K (.ref f) = true
  kp : PySem.W.keepIn K (.ref C) = true
theorem run_make {pins : List (Addr × Obj)} {σ : St} {H : Hp} {s : Shared} {Q : VK} {us : List Value} {vs : List V} (M : Mk X.K C f) (F : FnOk X.prog X.w X.K X.mg X.base CX k f fd ps sp) (hr : Room (k + 1) X.A) (hb : Binds X.K fd ps ds) (hd : Vals dvs ds)
    (hx : Passes CX X E) (I : Inv X pins σ H s) (r : Vals vs us)
    (h : ∀ x dx, H x = none → H dx = none → dx ≠ x → sp (.ref x :: (vs ++ dvs)) (upd (upd H dx (.own x)) x (.ins C dx [])) (fun v H2 => v = .non ∧ Q (.ref x) H2) E) :
    wpAny (model X.prog X.w) X.A (call (.ref C) us) (EP X pins σ Q) X.xe s := by
  have hq := h (s.heap.objs.size + 1) s.heap.objs.size (I.hok.fresh (Nat.le_succ _)) (I.hok.fresh (Nat.le_refl _)) (Nat.ne_of_lt (Nat.lt_succ_self _))
  have I2 := Inv.made (C := C) I
  have r2 : Vals (V.ref (s.heap.objs.size + 1) :: (vs ++ dvs)) (Value.ref (s.heap.objs.size + 1) :: (us ++ ds)) := .cons rfl (r.append hd)
  have hl : (Value.ref (s.heap.objs.size + 1) :: us ++ ds).length = ps.length := by
    have e := r2.length
    rw [F.len _ _ _ _ hq] at e
    exact e.symm
  refine wpAny_call (make_map (f := f) I.kIn M.makes M.init (beq_iff_eq.mp M.fn) (codeAny_mono (F.run _ X.stack _ _ ⟨Value.ref (s.heap.objs.size + 1) :: us, []⟩ (Value.ref (s.heap.objs.size + 1) :: (us ++ ds)) _ _ E (hr.make C us [])
    (I2.env0.make C us []) (hb _ (Value.ref (s.heap.objs.size + 1) :: us) I2.kIn hl) r2 hq) fun r s' hq' => ?_))
  cases r with
  | error e => exact hx pins σ _ _ e s' I2 hq'
  | ok fl =>
    cases fl with
    | ret u =>
      obtain ⟨v, H', I3, rv, ev, q3⟩ := I2.after hq'
      subst ev
      exact ⟨rv, ⟨V.ref (s.heap.objs.size + 1), H', I3, rfl, q3⟩⟩
    | next => exact False.elim hq'
    | brk => exact False.elim hq'
    | cont => exact False.elim hq'
theorem pe_make (M : Mk X.K C f) (F : FnOk X.prog X.w X.K X.mg X.base CX k f fd ps sp) (hr : Room (k + 1) X.A) (hg : Gl X x) (hm : X.mg x = some (.ref C)) (hb : Binds X.K fd ps ds) (hd : Vals dvs ds) (hx : Passes CX X E)
    (ha : PA X (e :: es) t) (hdb : (x == ("__debug__" : Str)) = false := by decide) (he : starEach (e :: es) X.env = (false, eval e X.env) :: starEach es X.env := by rfl) (hpl : (backTo pos (starEach es X.env)).any (·.1) = false := by rfl) :
    PE X (.Call (.Name x p) (e :: es) [] pos) (tMake C sp dvs E t) := by
  intro pins s σ H Q I h
  refine wpAny_Call_Name_kw (ld_glob I hg hm ?_ hdb)
  refine PySem.W.callWith_K (h₀ := X.base) I.ok.mod.kin M.kp (thn (ha pos pins s σ H _ I h) fun us s1 ⟨vs, H1, I1, r, q⟩ => ⟨I1.kIn, ?_⟩) he hpl
  exact run_make M F hr hb hd hx I1 r q
end
def PK (X : Cx) (kws : List Keyword) (t : TA) : Prop :=
  ∀ (pos : Pos) (pins : List (Addr × Obj)) (s : Shared) (σ : St) (H : Hp) (Q : List V → Hp → Prop), Inv X pins σ H s → t σ H Q → wpAny (model X.prog X.w) X.A (evalAll ((backToKw pos (keywordEach kws X.env)).map (·.2))) (AP X pins σ Q) X.xe s
section
variable {X : Cx} {CX : CXT} {k : Nat} {f C : Addr} {fd : FuncData} {ps ks : List Str} {sp : Sp} {E : XK} {x m : Str} {p pos apos kpos : Pos} {e o : Expr} {es : List Expr} {kws : List Keyword} {te ta : TE} {t tk : TA} {nm : Option Str}
theorem pk_nil : PK X [] tNil := fun _ _ _ _ H Q I h => wpAny_evalAll_nil ⟨[], H, I, .nil, h⟩
theorem pk_cons (ha : PE X e te) (hr : PK X kws t) : PK X (⟨nm, e, kpos⟩ :: kws) (tCons te t) := by
  intro pos pins s σ H Q I h
  show wpAny _ _ (evalAll ((do let v ← eval e X.env; standAt pos; pure v) :: (backToKw pos (keywordEach kws X.env)).map (·.2))) _ _ s
  refine wpAny_evalAll_cons (wpAny_bind (thn (ha pins s σ H _ I h) fun u s1 ⟨x, H1, I1, r1, q1⟩ => wpAny_bind (wpAny_standAt (wpAny_pure ?_))))
  exact thn (hr pos pins s1 σ H1 _ I1 q1) fun us s2 ⟨xs, H2, I2, r2, q2⟩ => ⟨x :: xs, H2, I2, .cons r1 r2, q2⟩
variable {g : List Value → List Value → List Value} {gV : List V → List V → List V}
end
structure FnScope (N P : List Str) (sc : Scope) : Prop where
  kind : sc.kind = .function
  co : sc.isCoroutine = false
  gen : sc.isGenerator = false
  nd : N.Nodup
  pre : N.take P.length = P
  par : ∀ x ∈ P, sc.names.lookup x = some .local ∨ sc.names.lookup x = some .cell
  nofree : ∀ y ∈ sc.names, y.2 ≠ .free
theorem bindL_out {kindOf : Str → Option NameKind} {x : Str} : ∀ {binds : List (Str × Value)} {m : Str → Option Value}, (∀ v, (x, v) ∉ binds) → bindL kindOf binds m x = m x
  | [], _, _ => rfl
  | (n, v) :: r, m, h => by
    unfold bindL
    rw [bindL_out fun w hw => h w (List.mem_cons_of_mem _ hw)]
    split
    · have : x ≠ n := by rintro rfl; exact h v List.mem_cons_self
      simp [this]
    · rfl
theorem bindC_out {kindOf : Str → Option NameKind} {x : Str} : ∀ {binds : List (Str × Value)} {m : Str → Option Value}, (∀ v, (x, v) ∉ binds) → bindC kindOf binds m x = m x
  | [], _, _ => rfl
  | (n, v) :: r, m, h => by
    unfold bindC
    rw [bindC_out fun w hw => h w (List.mem_cons_of_mem _ hw)]
    split
    · rfl
    · have : x ≠ n := by rintro rfl; exact h v List.mem_cons_self
      simp [this]
theorem bindL_get {kindOf : Str → Option NameKind} {x : Str} {v : Value} : ∀ {P : List Str} {vs : List Value} {i : Nat} {m : Str → Option Value}, P.Nodup → P[i]? = some x → vs[i]? = some v → kindOf x = some .local →
    bindL kindOf (P.zip vs) m x = some v
  | [], _, _, _, _, h, _, _ => by simp at h
  | _ :: _, [], _, _, _, _, h, _ => by simp at h
  | p :: P, w :: vs, 0, m, nd, h1, h2, hk => by
    simp at h1 h2; subst h1; subst h2
    show bindL kindOf ((p, w) :: P.zip vs) m p = _
    unfold bindL
    rw [bindL_out fun v hv => (List.nodup_cons.mp nd).1 (List.of_mem_zip hv).1, if_pos hk]
    simp
  | p :: P, w :: vs, i + 1, m, nd, h1, h2, hk => by
    show bindL kindOf ((p, w) :: P.zip vs) m x = _
    unfold bindL
    exact bindL_get (i := i) (List.nodup_cons.mp nd).2 (by simpa using h1) (by simpa using h2) hk
theorem bindC_get {kindOf : Str → Option NameKind} {x : Str} {v : Value} : ∀ {P : List Str} {vs : List Value} {i : Nat} {m : Str → Option Value}, P.Nodup → P[i]? = some x → vs[i]? = some v → kindOf x ≠ some .local →
    bindC kindOf (P.zip vs) m x = some v
  | [], _, _, _, _, h, _, _ => by simp at h
  | _ :: _, [], _, _, _, _, h, _ => by simp at h
  | p :: P, w :: vs, 0, m, nd, h1, h2, hk => by
    simp at h1 h2; subst h1; subst h2
    show bindC kindOf ((p, w) :: P.zip vs) m p = _
    unfold bindC
    rw [bindC_out fun v hv => (List.nodup_cons.mp nd).1 (List.of_mem_zip hv).1, if_neg hk]
    simp
  | p :: P, w :: vs, i + 1, m, nd, h1, h2, hk => by
    show bindC kindOf ((p, w) :: P.zip vs) m x = _
    unfold bindC
    exact bindC_get (i := i) (List.nodup_cons.mp nd).2 (by simpa using h1) (by simpa using h2) hk
def start (N : List Str) (vs : List V) : St := vs.map some ++ List.replicate (N.length - vs.length) none
def cxOf (CX : CXT) (P : Program) (w : World) (K : PySem.W.Frag) (mg : Str → Option Value) (base : Heap) (N : List Str) (qual : Str) (scope : Scope) (f : Addr) (cd : Value) (A : Around) (outer : List Env) (s : Shared) (H : Hp) (E : XK) : Cx where
  prog := P
  w := w
  K := K
  mg := mg
  base := base
  A := A.deeper (envOfC qual scope s.heap.objs.size f cd)
  N := N
  s₀ := s
  H₀ := H
  env := envOfC qual scope s.heap.objs.size f cd
  outer := outer
  stack := envOfC qual scope s.heap.objs.size f cd :: outer
  ex := []
  calm := true
  fn := fun _ => true
  pn := []
  xe := fun e s' => wpAny (model P w) (A.deeper (envOfC qual scope s.heap.objs.size f cd)) (leaving (envOfC qual scope s.heap.objs.size f cd) e) (fun _ s'' => CX outer H s E e s'') (fun e' s'' => CX outer H s E e' s'') s'
theorem cell_has {sc : Scope} {n : Nat} {x : Str} (h : sc.names.lookup x = some .cell) : ∃ c, (cellsFrom n sc.names []).lookup x = some c := by
  have q := PySem.W.cellsFrom_some sc.names n [] (.inl h)
  exact Option.isSome_iff_exists.mp q
theorem inv_start {CX : CXT} {P : Program} {w : World} {K : PySem.W.Frag} {mg : Str → Option Value} {base : Heap} {N ps : List Str} {qual : Str} {scope : Scope} {f : Addr} {cd : Value} {A : Around} {outer : List Env} {s s1 : Shared} {H : Hp} {E : XK} {us : List Value} {vs : List V}
    (S : FnScope N ps scope) (hd : A.handled = none) (e0 : Env0 P w K mg base A outer s H) (hl : vs.length = ps.length) (r : Vals vs us)
    (x : InCallC s s.heap.objs.size (bindL (envOfC qual scope s.heap.objs.size f cd).kindOf (ps.zip us) fun _ => none) (cellsFrom (s.heap.objs.size + 1) scope.names []) (bindC (envOfC qual scope s.heap.objs.size f cd).kindOf (ps.zip us) fun _ => none) s1) :
    Inv (cxOf CX P w K mg base N qual scope f cd A outer s H E) [] (start N vs) H s1 := by
  have hpl : ps.length ≤ N.length := by have := congrArg List.length S.pre; rw [List.length_take] at this; omega
  obtain ⟨h1, tk, rfl, hk⟩ := x.done
  have noA : ∀ b : Addr, b ∉ (cxOf CX P w K mg base N qual scope f cd A outer s H E).ex := fun b z => absurd (show b ∈ ([] : List Addr) from z) (by simp)
  refine ⟨⟨e0.mod, S.kind, rfl, rfl, Nat.le_refl _, fun y z c h1 h2 => ?_, fun y hy => ?_, fun y c _ h => ?_, fun _ => hd, Around.frames_deeper e0.frames, .inr ⟨rfl, rfl⟩, fun b z => absurd z (noA b), e0.bs, e0.bsz, fun b _ _ => noA b, fun b z => absurd z (noA b), e0.funs, e0.frf⟩,
    rfl, e0.bare, Un.kept hk, ⟨_, x.toInCall.ns, fun i y v h1 h2 h3 => ?_⟩, fun y c h => ⟨_, x.cell y c h⟩, e0.hok.fresh (Nat.le_refl _), fun y c h => ?_, fun p hp => absurd (show p ∈ ([] : List (Addr × Obj)) from hp) (by simp), e0.hok.kept hk, ?_⟩
  · exact name_of_addr x.apart (PySem.mem_of_lookup h1) (PySem.mem_of_lookup h2)
  · have hy : scope.names.lookup y = some .cell ∨ scope.names.lookup y = some .free := hy
    rcases hy with hy | hy
    · exact cell_has hy
    · exact absurd rfl (S.nofree _ (PySem.mem_of_lookup hy))
  · exact Nat.le_of_lt (x.above y c (PySem.mem_of_lookup h))
  · have hi : i < vs.length := by
      unfold start at h2
      by_cases hi : i < vs.length
      · exact hi
      · rw [List.getElem?_append_right (by simpa using hi)] at h2
        rw [List.getElem?_replicate] at h2
        split at h2 <;> cases h2
    have ha : vs[i]? = some v := by
      unfold start at h2
      rw [List.getElem?_append_left (by simpa using hi), List.getElem?_map] at h2
      cases e : vs[i]? with
      | none => rw [e] at h2; cases h2
      | some a => rw [e] at h2; cases h2; rfl
    obtain ⟨u, hu, rv⟩ := r.get ha
    have hp : ps[i]? = some y := by
      rw [← S.pre, List.getElem?_take_of_lt (by omega)]; exact h1
    have ndP : ps.Nodup := by rw [← S.pre]; exact S.nd.sublist (List.take_sublist _ _)
    refine ⟨u, rv, ?_⟩
    rcases S.par y (List.mem_of_getElem? hp) with k | k
    · exact .inl ⟨k, bindL_get ndP hp hu k⟩
    · obtain ⟨c, e⟩ := cell_has (n := s.heap.objs.size + 1) k
      refine .inr ⟨.inl k, c, e, ?_⟩
      have q := x.cell y c e
      rw [bindC_get ndP hp hu (by show scope.names.lookup y ≠ _; rw [k]; decide)] at q
      exact q
  · exact e0.hok.fresh (Nat.le_of_lt (x.above y c (PySem.mem_of_lookup h)))
  · unfold start
    show _ = N.length
    rw [List.length_append, List.length_map, List.length_replicate]
    omega
theorem fn_of {CX : CXT} {P : Program} {w : World} {K : PySem.W.Frag} {mg : Str → Option Value} {base : Heap} {k : Nat} {f : Addr} {name qual : Str} {params : Arguments} {body : List Stmt} {scope : Scope} {dV kV doc pm cdv ct oc : Value} {an od : Option Addr}
    {osl : Array (Option Value)} {N ps : List Str} {sp : Sp} (lk : K.lookup f = some ⟨oc, od, .func (PySem.W.fnOf name qual params body scope dV kV doc pm an cdv ct), osl⟩) (hcd : PySem.W.codeIn K cdv qual = true) (S : FnScope N ps scope)
    (len : ∀ vs H Q E, sp vs H Q E → vs.length = ps.length)
    (hbody : ∀ (A : Around) (outer : List Env) (s : Shared) (H : Hp) (vs : List V) (Q : VK) (E : XK), Room k (A.deeper (envOfC qual scope s.heap.objs.size f cdv)) → sp vs H Q E →
      ∃ t, PSs (cxOf CX P w K mg base N qual scope f cdv A outer s H E) body t ∧ t { nx := fun _ H' => Q .non H', rt := Q } (start N vs) H) :
    FnOk P w K mg base CX (k + 1) f (PySem.W.fnOf name qual params body scope dV kV doc pm an cdv ct) ps sp := by
  refine ⟨len, fun A outer s H args us vs Q E hr e0 hb r hsp => ?_⟩
  have hl := len _ _ _ _ hsp
  have KX : K.In s.heap := e0.mod.kin.keeps fun b o e => (e0.bs b o e).1
  have lim : s.heap.NoLimit := e0.mod.nolimit.keeps fun b o e => (e0.bs b o e).1
  have hkind : ∀ y ∈ ps.zip us, scope.names.lookup y.1 = some .local ∨ (scope.names.lookup y.1 = some .cell ∧ ((cellsFrom (s.heap.objs.size + 1) scope.names []).lookup y.1).isSome = true) := fun ⟨n, v⟩ hy => by
    rcases S.par n (List.of_mem_zip hy).1 with q | q
    · exact .inl q
    · exact .inr ⟨q, PySem.W.cellsFrom_some _ _ _ (.inl q)⟩
  refine codeAny_call_function hr.depth (KX _ _ lk) rfl S.co S.gen rfl (PySem.W.codeRec_of KX hcd) (hb _ _ _ _ ?_)
  refine wpAny_newFunctionEnv_cells S.kind hkind fun env he s1 x => ?_
  subst he
  refine ⟨lim.keeps x.toInCall.keep, codeAny_func ?_⟩
  obtain ⟨t, ht, hq⟩ := hbody A outer s H vs Q E (hr.deeper _) hsp
  have I : Inv (cxOf CX P w K mg base N qual scope f cdv A outer s H E) [] (start N vs) H s1 := inv_start S hr.hd e0 hl r x
  refine wpAny_mono (ht [] s1 (start N vs) H _ I hq) (fun fl s' hs => ?_) fun e s' hs => hs
  have fin : ∀ {σ' : St} {H' : Hp} {v : V} {u : Value}, Inv (cxOf CX P w K mg base N qual scope f cdv A outer s H E) [] σ' H' s' → RelV v u → Q v H' → CE outer P w H s Q u s' :=
    fun {σ' H' v u} J rv q => ⟨v, H', J.os, J.bare, J.base, J.hok, rv, q⟩
  cases fl with
  | ret u =>
    obtain ⟨v, σ', H', J, rv, q⟩ := hs
    exact fin J rv q
  | next =>
    obtain ⟨σ', H', J, q⟩ := hs
    exact fin (v := V.non) (u := Value.none) J rfl q
  | brk =>
    obtain ⟨_, _, _, q⟩ := hs
    exact False.elim q
  | cont =>
    obtain ⟨_, _, _, q⟩ := hs
    exact False.elim q
end L2
namespace L2
open PySem PySem.Spec PyProof.Rows
section
variable {X : Cx} {x : Str} {p pos : Pos} {e : Expr} {es : List Expr} {t : TA} {id T : String} {r : List V → Hp → VK → Prop}
def tCB (r : List V → Hp → VK → Prop) (t : TA) : TE := fun σ H Q => t σ H fun vs H1 => r vs H1 Q
theorem pe_callB (hc : CallR X (.builtin id) r) (hg : Gl X x) (hm : X.mg x = none) (hv : bootBuiltins x = some (.builtin id)) (ha : PA X (e :: es) t) (hn : x ≠ "__name__" := by decide) (hdb : (x == ("__debug__" : Str)) = false := by decide)
    (he : starEach (e :: es) X.env = (false, eval e X.env) :: starEach es X.env := by rfl) (hpl : (backTo pos (starEach es X.env)).any (·.1) = false := by rfl) : PE X (.Call (.Name x p) (e :: es) [] pos) (tCB r t) := by
  intro pins s σ H Q I h
  refine wpAny_Call_Name_kw (ld_blt I hg hm hv ?_ hn hdb)
  exact PyProof.Rows.callWith_builtin1 (thn (ha pos pins s σ H _ I h) fun us s1 ⟨vs, H1, I1, r1, q1⟩ => hc pins s1 σ H1 vs us Q I1 r1 q1) he hpl
theorem pe_callTy (hc : CallR X (.type T) r) (hg : Gl X x) (hm : X.mg x = none) (hv : bootBuiltins x = some (.type T)) (ha : PA X (e :: es) t) (hn : x ≠ "__name__" := by decide) (hdb : (x == ("__debug__" : Str)) = false := by decide)
    (he : starEach (e :: es) X.env = (false, eval e X.env) :: starEach es X.env := by rfl) (hpl : (backTo pos (starEach es X.env)).any (·.1) = false := by rfl) : PE X (.Call (.Name x p) (e :: es) [] pos) (tCB r t) := by
  intro pins s σ H Q I h
  refine wpAny_Call_Name_kw (ld_blt I hg hm hv ?_ hn hdb)
  exact PyProof.Rows.callWith_type1 (thn (ha pos pins s σ H _ I h) fun us s1 ⟨vs, H1, I1, r1, q1⟩ => hc pins s1 σ H1 vs us Q I1 r1 q1) he hpl
end
end L2
namespace HT
open PySem PyProof.Rows
section
open PySem.SeqAt
open PySem.AutoSeq1 (wpAny_loadPart')
open PySem.MeetsSeq PySem.MeetsSeq2 PySem.MeetsSeq3
end
section
variable {prog : Program} {w : World} {A : Around} {E : Value → Shared → Prop} {s : Shared}
theorem cat_tup {t b : Addr} {vs ws : List Value} {Q : Value → Shared → Prop} (ht : IsTup s.heap t vs.toArray) (hb : IsTup s.heap b ws.toArray) (hv : vs ≠ [])
    (h1 : ws = [] → Q (.ref t) s) (h2 : ws ≠ [] → Q (.ref s.heap.objs.size) { s with heap := s.heap.push { cls := .type "tuple", data := .seq (vs ++ ws).toArray } })
    (hsz : vs.length + ws.length ≤ sizeLine) : wpAny (model prog w) A (binaryOp .Add (.ref t) (.ref b)) Q E s := by
  obtain ⟨⟨cls, dd, data, sl⟩, ho, hc, n, hd⟩ := id ht
  obtain ⟨⟨cls2, dd2, data2, sl2⟩, ho2, hc2, n2, hd2⟩ := id hb
  simp only at hc hd hc2 hd2
  subst hc hd hc2 hd2
  have e : vs.toArray ++ ws.toArray = (vs ++ ws).toArray := by simp
  by_cases hw : ws = []
  · exact concat_meets ⟨_, ho, rfl⟩ ⟨_, ho2, rfl⟩ noFill_tuple_add seq_tuple_add PySem.F.slot_tuple_add PySem.F.entry_tuple_add (PySem.F.args_tuple_add_2 _ _)
      (tuple_addW1 t b vs.toArray ws.toArray n n2 dd dd2 sl sl2 (by simpa using hv) (by simp [hw])) ⟨ho, ho2, h1 hw⟩
  · refine concat_meets ⟨_, ho, rfl⟩ ⟨_, ho2, rfl⟩ noFill_tuple_add seq_tuple_add PySem.F.slot_tuple_add PySem.F.entry_tuple_add (PySem.F.args_tuple_add_2 _ _)
      (tuple_addW2 t b vs.toArray ws.toArray n n2 dd dd2 sl sl2 (by simpa using hv) (by simpa using hw) (by rw [List.size_toArray, List.size_toArray]; exact hsz)) ⟨ho, ho2, ?_⟩
    rw [e]
    exact h2 hw
def sIx (n d : Nat) : Option Int → Nat
  | none => d
  | some v => if v < 0 then (v + (n : Int)).toNat else min v.toNat n
theorem sIx_nat (n d k : Nat) : sIx n d (some (k : Int)) = min k n := by
  show (if (k : Int) < 0 then ((k : Int) + (n : Int)).toNat else min (k : Int).toNat n) = min k n
  rw [if_neg (by omega), Int.toNat_natCast]
theorem sIx_le (n d : Nat) (hd : d ≤ n) (o : Option Int) : sIx n d o ≤ n := by
  cases o with
  | none => exact hd
  | some v =>
    show (if v < 0 then (v + (n : Int)).toNat else min v.toNat n) ≤ n
    by_cases hv : v < 0
    · rw [if_pos hv]; omega
    · rw [if_neg hv]; exact Nat.min_le_right _ _
theorem clip_eq (v : Int) (n d : Nat) : (if v < 0 then max (v + (n : Int)) 0 else min v (n : Int)) = ((sIx n d (some v) : Nat) : Int) := by
  show (if v < 0 then max (v + (n : Int)) 0 else min v (n : Int)) = (((if v < 0 then (v + (n : Int)).toNat else min v.toNat n) : Nat) : Int)
  by_cases hv : v < 0
  · simp only [if_pos hv]; omega
  · simp only [if_neg hv]; omega
theorem adjust_gen (lo hi : Option Int) (n : Nat) : Builtin.Slice.sliceAdjust lo hi 1 (n : Int) = (((sIx n 0 lo : Nat) : Int), ((sIx n n hi : Nat) : Int)) := by
  have h1 : ¬ ((1 : Int) < 0) := by omega
  unfold Builtin.Slice.sliceAdjust
  simp only [h1, if_false]
  refine Prod.ext ?_ ?_
  · cases lo with
    | none => rfl
    | some v => exact clip_eq v n 0
  · cases hi with
    | none => rfl
    | some v => exact clip_eq v n n
theorem places_gen (i j : Nat) : Builtin.Slice.slicePlaces (i : Int) (j : Int) 1 = j - i := by
  unfold Builtin.Slice.slicePlaces
  have h1 : (1 : Int) > 0 := by omega
  simp only [h1, if_true, Int.ediv_one]
  split <;> omega
theorem slicePart_ {v : Value} {o : Option Int} {Q : Option Int → Shared → Prop} (p : IsPart v o) (h : Q o s) : wpAny (model prog w) A (Builtin.Slice.slicePartIndex v) Q E s := by
  cases p with
  | none => exact slicePart_none h
  | int i t => exact slicePart_int h
theorem sliceApplied_gen {sl : Addr} {vl vu : Value} {lo hi : Option Int} {n : Nat} {Q : Int × Int × Nat → Shared → Prop} (hs : s.heap.IsSliceOf sl vl vu .none) (pl : IsPart vl lo) (pu : IsPart vu hi)
    (h : Q (((sIx n 0 lo : Nat) : Int), 1, sIx n n hi - sIx n 0 lo) s) : wpAny (model prog w) A (Builtin.Slice.sliceApplied (.ref sl) (pure (n : Int))) Q E s := by
  obtain ⟨os, hos, hcs, hds⟩ := id hs
  unfold Builtin.Slice.sliceApplied Builtin.Slice.sliceFields
  refine wpAny_bind (wpAny_bind (wpAny_field hos hds (x := vl) rfl (wpAny_bind (wpAny_field hos hds (x := vu) rfl (wpAny_bind (wpAny_field hos hds (x := .none) rfl (wpAny_pure ?_)))))))
  refine wpAny_bind (slicePart_none ?_)
  show wpAny _ _ (if ((1 : Int) == 0) = true then _ else _) _ _ s
  rw [if_neg (by decide)]
  refine wpAny_bind (slicePart_ pl (wpAny_bind (slicePart_ pu (wpAny_bind (wpAny_pure ?_)))))
  show wpAny _ _ (match Builtin.Slice.sliceAdjust lo hi 1 (n : Int) with | (lo, hi) => pure (lo, (1 : Int), Builtin.Slice.slicePlaces lo hi 1)) _ _ s
  rw [adjust_gen lo hi n]
  show wpAny _ _ (pure (((sIx n 0 lo : Nat) : Int), (1 : Int), Builtin.Slice.slicePlaces ((sIx n 0 lo : Nat) : Int) ((sIx n n hi : Nat) : Int) 1)) _ _ s
  rw [places_gen]
  exact wpAny_pure h
theorem pick_gen (xs : Array Value) (i k : Nat) : ((List.range k).filterMap fun (m : Nat) => xs[((i : Int) + (m : Int) * 1).toNat]?).toArray = ((xs.toList.drop i).take k).toArray := by
  have e : (fun (m : Nat) => xs[((i : Int) + (m : Int) * 1).toNat]?) = fun m => xs[i + m]? := by
    funext m
    have : ((i : Int) + (m : Int) * 1).toNat = i + m := by omega
    rw [this]
  rw [e]
  have := pick_run xs i k
  rw [List.filterMap_map] at this
  have e2 : ((fun x => xs[x]?) ∘ fun x => i + x) = fun m => xs[i + m]? := rfl
  rw [e2] at this
  rw [this]
theorem getItem_tuple_cut {t sl : Addr} {items : Array Value} {vl vu : Value} {lo hi : Option Int} {Q : Value → Shared → Prop} (ht : IsTup s.heap t items) (hs : s.heap.IsSliceOf sl vl vu .none) (pl : IsPart vl lo) (pu : IsPart vu hi)
    (hw : ¬ (sIx items.size 0 lo = 0 ∧ sIx items.size items.size hi = items.size))
    (h : Q (.ref s.heap.objs.size) { s with heap := s.heap.push { cls := .type "tuple", data := .seq ((items.toList.drop (sIx items.size 0 lo)).take (sIx items.size items.size hi - sIx items.size 0 lo)).toArray } })
    (hsz : items.size ≤ sizeLine) : wpAny (model prog w) A (getItem (.ref t) (.ref sl)) Q E s := by
  have htake : sizeOk (.seq ((items.toList.drop (sIx items.size 0 lo)).take (sIx items.size items.size hi - sIx items.size 0 lo)).toArray) := by
    show ((items.toList.drop (sIx items.size 0 lo)).take (sIx items.size items.size hi - sIx items.size 0 lo)).toArray.size ≤ sizeLine
    rw [List.size_toArray, List.length_take, List.length_drop, Array.length_toList]
    omega
  have hj : sIx items.size items.size hi ≤ items.size := sIx_le _ _ (Nat.le_refl _) hi
  obtain ⟨os, hos, hcs, hds⟩ := id hs
  have hTs : s.TypeIs (.ref sl) "slice" := ⟨os, hos, hcs⟩
  unfold getItem
  try with_reducible refine wpAny_holding ?_
  first | refine wpAny_bind (wpAny_pure ?_) | skip
  refine wpAny_bind (wpAny_sequenceKey ht.typeIs (by decide) ?_)
  refine wpAny_bind (wpAny_callSpecial?_slot (name := Str.ofString "__getitem__") ht.typeIs PyProof.Rows.slot_tuple_getitem
    (wpAny_call_entry PyProof.Rows.slot_tuple_getitem ht.typeIs entry_tuple_getitem ?_ (args_tuple_getitem _ _)))
  show wpAny _ _ (Builtin.Tuple.tupleItemsOf (.ref t) >>= _) _ _ s
  refine wpAny_bind (tupleItemsOf_ ht ?_)
  refine wpAny_bind (wpAny_typeOf hTs ?_)
  rw [if_pos (by decide)]
  refine wpAny_bind (sliceApplied_gen hs pl pu ?_)
  have hno : ¬ ((((sIx items.size 0 lo : Nat) : Int) == 0 && (1 : Int) == 1 && (sIx items.size items.size hi - sIx items.size 0 lo) == items.size) = true) := by
    intro q
    rw [Bool.and_eq_true, Bool.and_eq_true] at q
    have q1 : ((sIx items.size 0 lo : Nat) : Int) = 0 := eq_of_beq q.1.1
    have q2 : sIx items.size items.size hi - sIx items.size 0 lo = items.size := eq_of_beq q.2
    exact hw ⟨by omega, by omega⟩
  show wpAny _ _ (if (((sIx items.size 0 lo : Nat) : Int) == 0 && (1 : Int) == 1 && (sIx items.size items.size hi - sIx items.size 0 lo) == items.size) = true then _ else _) _ _ s
  rw [if_neg hno, pick_gen]
  first
    | exact wpAny_bind (m := Builtin.Tuple.tupleExact _) (wpAny_newObj_type (wpAny_pure ⟨_, rfl, wpAny_pure h⟩) htake)
    | exact wpAny_bind (m := Builtin.Tuple.tupleExact _) (wpAny_newObj_type (wpAny_bind (wpAny_pure (wpAny_pure ⟨_, rfl, wpAny_pure h⟩))) htake)
    | exact wpAny_bind (wpAny_bind (m := Builtin.Tuple.tupleExact _) (wpAny_newObj_type (wpAny_pure (wpAny_pure ⟨_, rfl, wpAny_pure h⟩)) htake))
    | exact wpAny_bind (wpAny_bind (m := Builtin.Tuple.tupleExact _) (wpAny_newObj_type (wpAny_pure ⟨_, rfl, wpAny_pure h⟩) htake))
end
end HT
namespace L2
open PySem PySem.Spec PyProof.Rows
abbrev TO := St → Hp → (Option Int → Hp → Prop) → Prop
def PO (X : Cx) (e : Option Expr) (t : TO) : Prop :=
  ∀ (pins : List (Addr × Obj)) (s : Shared) (σ : St) (H : Hp) (Q : Option Int → Hp → Prop), Inv X pins σ H s → t σ H Q →
    wpAny (model X.prog X.w) X.A (evalPart e X.env) (fun u s' => ∃ o H', Inv X pins σ H' s' ∧ IsPart u o ∧ Q o H') X.xe s
def tNoPart : TO := fun _ H Q => Q none H
def tPart (t : TE) : TO := fun σ H Q => t σ H fun x H1 => ∃ i, x = .int i ∧ Q (some i) H1
section
variable {X : Cx} {e : Expr} {te : TE} {lo hi : Option Expr} {tl th : TO} {pos p2 : Pos}
theorem po_none : PO X none tNoPart := by
  intro pins s σ H Q I h
  rw [evalPart_none]
  exact wpAny_pure ⟨none, H, I, .none, h⟩
theorem po_some (h : PE X e te) : PO X (some e) (tPart te) := by
  intro pins s σ H Q I hw
  rw [evalPart_some]
  refine thn (h pins s σ H _ I hw) fun u s1 ⟨x, H1, I1, r1, q1⟩ => ?_
  obtain ⟨i, rfl, q⟩ := q1
  obtain ⟨t, rfl⟩ := r1
  exact ⟨some i, H1, I1, .int i t, q⟩
def SlR (X : Cx) (r : V → Option Int → Option Int → Hp → VK → Prop) : Prop :=
  ∀ (pins : List (Addr × Obj)) (s : Shared) (σ : St) (H : Hp) (x : V) (v vl vu : Value) (lo hi : Option Int) (sl : Addr) (Q : VK), Inv X pins σ H s → RelV x v → s.heap.IsSliceOf sl vl vu .none → IsPart vl lo → IsPart vu hi → r x lo hi H Q →
    ∃ T id, typeLookup (.type T) "__getitem__" = pure (some (.builtin id)) ∧ s.TypeIs v T ∧ wpAny (model X.prog X.w) X.A (getItem v (.ref sl)) (EP X pins σ Q) X.xe s
theorem SlR.or {r r' : V → Option Int → Option Int → Hp → VK → Prop} (h : SlR X r) (h' : SlR X r') : SlR X (fun x lo hi H Q => r x lo hi H Q ∨ r' x lo hi H Q) := by
  intro pins s σ H x v vl vu lo hi sl Q I rx hs pl pu q
  rcases q with q | q
  · exact h pins s σ H x v vl vu lo hi sl Q I rx hs pl pu q
  · exact h' pins s σ H x v vl vu lo hi sl Q I rx hs pl pu q
def tSl (r : V → Option Int → Option Int → Hp → VK → Prop) (te : TE) (tl th : TO) : TE := fun σ H Q => te σ H fun x H1 => tl σ H1 fun l H2 => th σ H2 fun u H3 => r x l u H3 Q
theorem pe_slice {r : V → Option Int → Option Int → Hp → VK → Prop} (hr : SlR X r) (he : PE X e te) (hl : PO X lo tl) (hu : PO X hi th) : PE X (.Subscript e (.Slice lo hi none p2) pos) (tSl r te tl th) := by
  intro pins s σ H Q I h
  refine Subscript_ (thn (he pins s σ H _ I h) fun v s1 ⟨x, H1, I1, r1, q1⟩ => ?_)
  refine wpAny_Slice (thn (hl pins s1 σ H1 _ I1 q1) fun vl s2 ⟨l, H2, I2, pl, q2⟩ => thn (hu pins s2 σ H2 _ I2 q2) fun vu s3 ⟨u, H3, I3, pu, q3⟩ => ?_)
  rw [evalPart_none]
  refine wpAny_pure ?_
  have I4 : Inv X pins σ H3 { s3 with heap := s3.heap.push { cls := .type "slice", data := .fields #[vl, vu, .none] } } := I3.kept (t' := s3.toks) fun b ob q => Heap.get?_push_of_some _ q
  obtain ⟨T, id, hT, ht, hg⟩ := hr pins { s3 with heap := s3.heap.push { cls := .type "slice", data := .fields #[vl, vu, .none] } } σ H3 x v vl vu l u s3.heap.objs.size Q I4 r1 (Heap.IsSliceOf.new ..) pl pu q3
  show wpAny (model X.prog X.w) X.A (subscriptTail e (.Slice lo hi none p2) v (.ref s3.heap.objs.size)) (EP X pins σ Q) X.xe { s3 with heap := s3.heap.push { cls := .type "slice", data := .fields #[vl, vu, .none] } }
  exact tail_any (ops := [.ref s3.heap.objs.size, v]) ht hT hg (by with_unfolding_all rfl)
def cutV (xs : List V) (lo hi : Option Int) : List V := (xs.drop (HT.sIx xs.length 0 lo)).take (HT.sIx xs.length xs.length hi - HT.sIx xs.length 0 lo)
theorem cutV_length (xs : List V) (lo hi : Option Int) : (cutV xs lo hi).length ≤ xs.length := by
  unfold cutV
  rw [List.length_take, List.length_drop]
  omega
def rSlT (K : PySem.W.Frag) : V → Option Int → Option Int → Hp → VK → Prop := fun x lo hi H Q => ∃ a xs, x = .ref a ∧ SqT K H a xs ∧
  ¬ (HT.sIx xs.length 0 lo = 0 ∧ HT.sIx xs.length xs.length hi = xs.length) ∧ ∀ p, H p = none → Q (.ref p) (upd H p (.tup (cutV xs lo hi)))
theorem sl_tup : SlR X (rSlT X.K) := by
  intro pins s σ H x v vl vu lo hi sl Q I rx hs pl pu h
  obtain ⟨a, xs, rfl, hx, hw, q⟩ := h
  cases rx
  obtain ⟨its, r, ht, hz⟩ := I.tuple hx
  have hlen : its.toArray.size = xs.length := by rw [List.size_toArray]; exact r.length.symm
  refine ⟨"tuple", _, PyProof.Rows.slot_tuple_getitem.lookup, ht.typeIs, ?_⟩
  refine HT.getItem_tuple_cut ht hs pl pu (by rw [hlen]; exact hw) ?_ (by rw [hlen]; exact hz)
  rw [hlen]
  refine ⟨.ref s.heap.objs.size, _, I.laid (t' := s.toks) (o := .tup (cutV xs lo hi)) (fun b ob q => Heap.get?_push_of_some _ q) (Nat.le_refl _) ?_, rfl, q _ (I.hok.fresh (Nat.le_refl _))⟩
  exact ⟨Nat.le_trans (cutV_length xs lo hi) hz, _, (r.drop (HT.sIx xs.length 0 lo)).take (HT.sIx xs.length xs.length hi - HT.sIx xs.length 0 lo), IsTup.new _ _⟩
def rCatT (K : PySem.W.Frag) : R2 := fun x y H Q => ∃ a b xs ys, x = .ref a ∧ y = .ref b ∧ SqT K H a xs ∧ SqT K H b ys ∧ xs ≠ [] ∧ xs.length + ys.length ≤ sizeLine ∧
  (ys = [] → Q (.ref a) H) ∧ (ys ≠ [] → ∀ p, H p = none → Q (.ref p) (upd H p (.tup (xs ++ ys))))
theorem Vals.nil_iff {xs : List V} {us : List Value} (r : Vals xs us) : us = [] ↔ xs = [] := by
  cases r with
  | nil => simp
  | cons _ _ => simp
theorem op_catT : OpR X (binaryOp .Add) (rCatT X.K) := by
  intro pins s σ H x y v u Q I rx ry h
  obtain ⟨a, b, xs, ys, rfl, rfl, ha, hb, hx, hz, q1, q2⟩ := h
  cases rx
  cases ry
  obtain ⟨its, r1, p1, _⟩ := I.tuple ha
  obtain ⟨its2, r2, p2, _⟩ := I.tuple hb
  refine HT.cat_tup p1 p2 (fun z => hx (r1.nil_iff.mp z)) (fun z => ⟨.ref a, H, I, rfl, q1 (r2.nil_iff.mp z)⟩) (fun z => ?_) (by rw [← r1.length, ← r2.length]; exact hz)
  refine ⟨.ref s.heap.objs.size, _, I.laid (t' := s.toks) (o := .tup (xs ++ ys)) (fun b ob q => Heap.get?_push_of_some _ q) (Nat.le_refl _) ?_, rfl, q2 (fun w => z (r2.nil_iff.mpr w)) _ (I.hok.fresh (Nat.le_refl _))⟩
  exact ⟨by rw [List.length_append]; exact hz, _, r1.append r2, IsTup.new _ _⟩
end
end L2
namespace L2
open PySem PySem.Spec PyProof.Rows
def ixN (n : Nat) (i : Int) : Option Nat := if 0 ≤ i then (if i < n then some i.toNat else none) else if -(n : Int) ≤ i then some (i + n).toNat else none
def atI {α : Type} (xs : List α) (i : Int) : Option α := (ixN xs.length i).bind fun j => xs[j]?
theorem ixN_seq {n : Nat} {i : Int} {j : Nat} (h : ixN n i = some j) : seqIndex? i n = some j ∧ j < n ∧ -(n : Int) ≤ i ∧ i < n := by
  unfold ixN at h
  by_cases h0 : 0 ≤ i
  · rw [if_pos h0] at h
    by_cases h1 : i < n
    · rw [if_pos h1] at h
      have e : i.toNat = j := Option.some.inj h
      exact ⟨by rw [seqIndex_of h0 h1, e], by omega, by omega, h1⟩
    · rw [if_neg h1] at h; cases h
  · rw [if_neg h0] at h
    by_cases h1 : -(n : Int) ≤ i
    · rw [if_pos h1] at h
      have e : (i + n).toNat = j := Option.some.inj h
      exact ⟨by rw [seqIndex_neg (by omega) h1, e], by omega, h1, by omega⟩
    · rw [if_neg h1] at h; cases h
theorem atI_get {α : Type} {xs : List α} {i : Int} {v : α} (h : atI xs i = some v) : ∃ j, seqIndex? i xs.length = some j ∧ xs[j]? = some v ∧ j < xs.length ∧ -(xs.length : Int) ≤ i ∧ i < xs.length := by
  unfold atI at h
  cases e : ixN xs.length i with
  | none => rw [e] at h; cases h
  | some j =>
    rw [e] at h
    obtain ⟨h1, h2, h3, h4⟩ := ixN_seq e
    exact ⟨j, h1, h, h2, h3, h4⟩
def PlainIx (b : Expr) : Prop := ∀ o i, subscripted b false o i = operate [o, i] (getItem o i)
def IxR (X : Cx) (r : R2) : Prop :=
  ∀ (value slice : Expr) (pins : List (Addr × Obj)) (s : Shared) (σ : St) (H : Hp) (x y : V) (v u : Value) (Q : VK), Inv X pins σ H s → RelV x v → RelV y u → r x y H Q →
    subscripted slice false v u = operate [v, u] (getItem v u) → wpAny (model X.prog X.w) X.A (subscriptTail value slice v u) (EP X pins σ Q) X.xe s
def MtR (X : Cx) (id : String) (r : V → List V → Hp → VK → Prop) : Prop :=
  ∀ (pins : List (Addr × Obj)) (s : Shared) (σ : St) (H : Hp) (x : V) (xs : List V) (v : Value) (us : List Value) (Q : VK), Inv X pins σ H s → RelV x v → Vals xs us → r x xs H Q →
    wpAny (model X.prog X.w) X.A (call (.builtin id) (v :: us)) (EP X pins σ Q) X.xe s
section
variable {X : Cx} {a b : Expr} {ta tb : TE} {pos : Pos}
theorem IxR.or {r r' : R2} (h : IxR X r) (h' : IxR X r') : IxR X (fun x y H Q => r x y H Q ∨ r' x y H Q) := by
  intro value slice pins s σ H x y v u Q I rx ry q hs
  rcases q with q | q
  · exact h value slice pins s σ H x y v u Q I rx ry q hs
  · exact h' value slice pins s σ H x y v u Q I rx ry q hs
theorem pe_ix {r : R2} (hr : IxR X r) (ha : PE X a ta) (hb : PE X b tb) (hs : PlainIx b) : PE X (.Subscript a b pos) (tOp r ta tb) := by
  intro pins s σ H Q I h
  exact Subscript_ (binT ha hb I h fun v u s2 x y H2 I2 rx ry q => hr a b pins s2 σ H2 x y v u Q I2 rx ry q (hs _ _))
def rIxL (K : PySem.W.Frag) : R2 := fun x y H Q => ∃ p xs i v, x = .ref p ∧ y = .int i ∧ SqL K H p xs ∧ atI xs i = some v ∧ Q v H
def rIxT (K : PySem.W.Frag) : R2 := fun x y H Q => ∃ p xs i v, x = .ref p ∧ y = .int i ∧ SqT K H p xs ∧ atI xs i = some v ∧ Q v H
def rIxS : R2 := fun x y H Q => ∃ z i c, x = .str z ∧ y = .int i ∧ z.length ≤ sizeLine ∧ atI z.cps.toList i = some c ∧ Q (.str ⟨#[c]⟩) H
theorem ix_list : IxR X (rIxL X.K) := by
  intro value slice pins s σ H x y v u Q I rx ry h hs
  obtain ⟨p, xs, i, z, rfl, rfl, hq, he, q⟩ := h
  cases rx
  obtain ⟨t, rfl⟩ := ry
  obtain ⟨its, r, pl, hz⟩ := I.list hq
  obtain ⟨j, h1, h2, h3, h4, h5⟩ := atI_get he
  obtain ⟨w, ew, rw'⟩ := r.get h2
  have hl := r.length
  have hn := line63
  have fin : EP X pins σ Q w s := ⟨z, H, I, rw', q⟩
  by_cases h0 : 0 ≤ i
  · have hj : i.toNat = j := by
      rw [seqIndex_of h0 h5] at h1
      exact Option.some.inj h1
    exact item_listR pl.isList h0 (by omega) (by rw [hj]; simpa using ew) fin hs
  · have hj : (i + (its.toArray.size : Int)).toNat = j := by
      rw [seqIndex_neg (by omega) h4] at h1
      rw [List.size_toArray, ← hl]
      exact Option.some.inj h1
    exact subscriptTail_builtinR (x := w) pl.isList.typeIs slot_list_getitem.lookup
      (wpAny_getItem_list_neg (Q := fun r s' => r = w ∧ EP X pins σ Q r s') pl.isList (by omega) (by rw [List.size_toArray] <;> omega) (by omega) (by rw [hj]; simpa using ew) ⟨rfl, fin⟩) hs
theorem ix_tup : IxR X (rIxT X.K) := by
  intro value slice pins s σ H x y v u Q I rx ry h hs
  obtain ⟨p, xs, i, z, rfl, rfl, hq, he, q⟩ := h
  cases rx
  obtain ⟨t, rfl⟩ := ry
  obtain ⟨its, r, pl, hz⟩ := I.tuple hq
  obtain ⟨j, h1, h2, h3, h4, h5⟩ := atI_get he
  obtain ⟨w, ew, rw'⟩ := r.get h2
  have hl := r.length
  have hn := line63
  have fin : EP X pins σ Q w s := ⟨z, H, I, rw', q⟩
  exact subscriptTail_builtinR (x := w) pl.typeIs slot_tuple_getitem.lookup
    (getItem_tuple (j := j) (Q := fun r s' => r = w ∧ EP X pins σ Q r s') pl (by omega) (by omega) (by rw [List.size_toArray, ← hl]; exact h1) (by simpa using ew) ⟨rfl, fin⟩) hs
theorem ix_str : IxR X rIxS := by
  intro value slice pins s σ H x y v u Q I rx ry h hs
  obtain ⟨z, i, c, rfl, rfl, hz, he, q⟩ := h
  obtain ⟨t, rfl⟩ := rx
  obtain ⟨t', rfl⟩ := ry
  obtain ⟨j, h1, h2, h3, h4, h5⟩ := atI_get he
  have hl : z.cps.toList.length = z.length := by simp [Str.length]
  rw [hl] at h1 h4 h5
  have hn := line63
  exact tail_any (typeIs_str s z t) slot_str_getitem.lookup (getItem_str (c := c) (by
    have e1 : decide (i < -(2 ^ 63 : Int)) = false := decide_eq_false (by omega)
    have e2 : decide (i ≥ 2 ^ 63) = false := decide_eq_false (by omega)
    rw [e1, e2, Bool.or_false]) (by rw [h1]; simpa using h2) ⟨.str ⟨#[c]⟩, H, I.tok _, ⟨_, rfl⟩, q⟩) hs
def rIx (K : PySem.W.Frag) : R2 := fun x y H Q => rIxL K x y H Q ∨ rIxT K x y H Q ∨ rIxS x y H Q
theorem ix_seq : IxR X (rIx X.K) := ix_list.or (ix_tup.or ix_str)
theorem slice_bounds (lo hi : Option Int) (n : Nat) : (sliceBounds lo hi none n).1 = ((HT.sIx n 0 lo : Nat) : Int) ∧ (sliceBounds lo hi none n).2.1 = ((HT.sIx n n hi : Nat) : Int) ∧ (sliceBounds lo hi none n).2.2 = 1 := by
  refine ⟨?_, ?_, rfl⟩
  · cases lo with
    | none => simp [sliceBounds, HT.sIx]
    | some i =>
      simp only [sliceBounds, HT.sIx, Option.getD_none, show (1 : Int) > 0 by decide, if_true]
      by_cases h : i < 0
      · simp only [h, if_true] <;> omega
      · simp only [h, if_false] <;> omega
  · cases hi with
    | none => simp [sliceBounds, HT.sIx]
    | some i =>
      simp only [sliceBounds, HT.sIx, Option.getD_none, show (1 : Int) > 0 by decide, if_true]
      by_cases h : i < 0
      · simp only [h, if_true] <;> omega
      · simp only [h, if_false] <;> omega
theorem slicePick_cut (its : List Value) (lo hi : Option Int) : slicePick its.toArray lo hi none = ((its.drop (HT.sIx its.length 0 lo)).take (HT.sIx its.length its.length hi - HT.sIx its.length 0 lo)).toArray := by
  obtain ⟨h1, h2, h3⟩ := slice_bounds lo hi its.toArray.size
  unfold slicePick
  rw [h1, h2, h3]
  simp only [sliceRange_one, pick_run, List.size_toArray] <;> rfl
def rSlL (K : PySem.W.Frag) : V → Option Int → Option Int → Hp → VK → Prop := fun x lo hi H Q => ∃ a xs, x = .ref a ∧ SqL K H a xs ∧ ∀ p, H p = none → Q (.ref p) (upd H p (.lst (cutV xs lo hi)))
theorem sl_list : SlR X (rSlL X.K) := by
  intro pins s σ H x v vl vu lo hi sl Q I rx hs pl pu h
  obtain ⟨a, xs, rfl, hx, q⟩ := h
  cases rx
  obtain ⟨its, r, ht, hz⟩ := I.list hx
  have hlen := r.length
  refine ⟨"list", _, slot_list_getitem.lookup, ht.isList.typeIs, ?_⟩
  refine wpAny_getItem_list_slice ht.isList hs pl pu .none (by simp) ?_ (by rw [List.size_toArray] <;> omega)
  rw [slicePick_cut, ← hlen]
  refine ⟨.ref s.heap.objs.size, _, I.laid (t' := s.toks) (o := .lst (cutV xs lo hi)) (fun b ob q => Heap.get?_push_of_some _ q) (Nat.le_refl _) ?_, rfl, q _ (I.hok.fresh (Nat.le_refl _))⟩
  exact ⟨Nat.le_trans (cutV_length xs lo hi) hz, _, 0, (r.drop (HT.sIx xs.length 0 lo)).take (HT.sIx xs.length xs.length hi - HT.sIx xs.length 0 lo), Heap.get?_push_size _ rfl⟩
def flatV : V → Bool
  | .non => true
  | .bl _ => true
  | .int _ => true
  | .str _ => true
  | _ => false
def eqV : V → V → Bool
  | .non, .non => true
  | .bl a, .bl b => a == b
  | .bl a, .int b => (if a then 1 else 0) == b
  | .int a, .bl b => a == (if b then 1 else 0)
  | .int a, .int b => a == b
  | .str a, .str b => a == b
  | _, _ => false
theorem eqAt_V {A : Around} {s : Shared} {y x : V} {u v : Value} (ry : RelV y u) (rx : RelV x v) (fy : flatV y = true) (fx : flatV x = true) : SeqAt.EqAt A s u v (eqV y x) := by
  cases y with
  | non =>
    cases ry
    cases x with
    | non => cases rx; exact SeqAt.EqAt.same _
    | bl b => cases rx; exact SeqAt.EqAt.none_bool b
    | int b => obtain ⟨t, rfl⟩ := rx; exact SeqAt.EqAt.none_int b t
    | str b => obtain ⟨t, rfl⟩ := rx; exact SeqAt.EqAt.none_str b t
    | _ => exact absurd (show false = true from fx) Bool.false_ne_true
  | bl a =>
    cases ry
    cases x with
    | non => cases rx; exact SeqAt.EqAt.bool_none a
    | bl b => cases rx; exact SeqAt.EqAt.bool_bool a b
    | int b => obtain ⟨t, rfl⟩ := rx; exact SeqAt.EqAt.bool_int a b t
    | str b => obtain ⟨t, rfl⟩ := rx; exact SeqAt.EqAt.bool_str a b t
    | _ => exact absurd (show false = true from fx) Bool.false_ne_true
  | int a =>
    obtain ⟨t', rfl⟩ := ry
    cases x with
    | non => cases rx; exact SeqAt.EqAt.int_none a t'
    | bl b => cases rx; exact SeqAt.EqAt.int_bool a t' b
    | int b => obtain ⟨t, rfl⟩ := rx; exact SeqAt.EqAt.int_int a t' b t
    | str b => obtain ⟨t, rfl⟩ := rx; exact SeqAt.EqAt.int_str a t' b t
    | _ => exact absurd (show false = true from fx) Bool.false_ne_true
  | str a =>
    obtain ⟨t', rfl⟩ := ry
    cases x with
    | non => cases rx; exact SeqAt.EqAt.str_none a t'
    | bl b => cases rx; exact SeqAt.EqAt.str_bool a t' b
    | int b => obtain ⟨t, rfl⟩ := rx; exact SeqAt.EqAt.str_int a t' b t
    | str b => obtain ⟨t, rfl⟩ := rx; exact SeqAt.EqAt.str_str a t' b t
    | _ => exact absurd (show false = true from fx) Bool.false_ne_true
  | _ => exact absurd (show false = true from fy) Bool.false_ne_true
def eqU (x : V) (u : Value) : Bool := match u with
  | .none => eqV .non x
  | .bool b => eqV (.bl b) x
  | .int i _ => eqV (.int i) x
  | .str z _ => eqV (.str z) x
  | _ => false
theorem eqU_of {x y : V} {u : Value} (r : RelV y u) (f : flatV y = true) : eqU x u = eqV y x := by
  cases y with
  | non => cases r; rfl
  | bl b => cases r; rfl
  | int i => obtain ⟨t, rfl⟩ := r; rfl
  | str z => obtain ⟨t, rfl⟩ := r; rfl
  | _ => exact absurd (show false = true from f) Bool.false_ne_true
theorem any_eqU {x : V} : ∀ {xs : List V} {us : List Value}, Vals xs us → xs.all flatV = true → us.any (eqU x) = xs.any fun y => eqV y x
  | _, _, .nil, _ => rfl
  | y :: xs, u :: us, .cons r t, f => by
    rw [List.all_cons, Bool.and_eq_true] at f
    rw [List.any_cons, List.any_cons, eqU_of r f.1, any_eqU t f.2]
theorem mem_eqAt {A : Around} {s : Shared} {x : V} {v : Value} (rx : RelV x v) (fx : flatV x = true) : ∀ {xs : List V} {us : List Value}, Vals xs us → xs.all flatV = true → ∀ u ∈ us, SeqAt.EqAt A s u v (eqU x u)
  | _, _, .nil, _ => fun u hu => by cases hu
  | y :: xs, u :: us, .cons r t, f => fun u' hu => by
    rw [List.all_cons, Bool.and_eq_true] at f
    rcases List.mem_cons.mp hu with rfl | hu
    · rw [eqU_of r f.1]; exact eqAt_V r rx f.1 fx
    · exact mem_eqAt rx fx t f.2 u' hu
def inV (x : V) (xs : List V) : Bool := xs.any fun y => eqV y x
def rIn (K : PySem.W.Frag) (neg : Bool) : R2 := fun x y H Q => ∃ p xs, y = .ref p ∧ (SqL K H p xs ∨ SqT K H p xs) ∧ flatV x = true ∧ xs.all flatV = true ∧ Q (.bl (if neg then !inV x xs else inV x xs)) H
theorem op_in_seq : OpR X (compareOp .In) (rIn X.K false) := by
  intro pins s σ H x y v u Q I rx ry h
  obtain ⟨p, xs, rfl, hq, fx, fs, q⟩ := h
  cases ry
  rcases hq with hq | hq
  · obtain ⟨its, r, pl, hz⟩ := I.list hq
    refine SeqAt.in_listAt (eqU x) pl.isList (fun w hw => mem_eqAt rx fx r fs w (by simpa using hw)) ⟨.bl _, H, I, rfl, ?_⟩
    rw [show its.toArray.any (eqU x) = its.any (eqU x) by simp, any_eqU r fs]
    exact q
  · obtain ⟨its, r, pl, hz⟩ := I.tuple hq
    refine SeqAt.in_tupleAt (eqU x) pl (fun w hw => mem_eqAt rx fx r fs w (by simpa using hw)) ⟨.bl _, H, I, rfl, ?_⟩
    rw [show its.toArray.any (eqU x) = its.any (eqU x) by simp, any_eqU r fs]
    exact q
theorem op_notIn_seq : OpR X (compareOp .NotIn) (rIn X.K true) := by
  intro pins s σ H x y v u Q I rx ry h
  obtain ⟨p, xs, rfl, hq, fx, fs, q⟩ := h
  cases ry
  rcases hq with hq | hq
  · obtain ⟨its, r, pl, hz⟩ := I.list hq
    refine SeqAt.notIn_listAt (eqU x) pl.isList (fun w hw => mem_eqAt rx fx r fs w (by simpa using hw)) ⟨.bl _, H, I, rfl, ?_⟩
    rw [show its.toArray.any (eqU x) = its.any (eqU x) by simp, any_eqU r fs]
    exact q
  · obtain ⟨its, r, pl, hz⟩ := I.tuple hq
    refine SeqAt.notIn_tupleAt (eqU x) pl (fun w hw => mem_eqAt rx fx r fs w (by simpa using hw)) ⟨.bl _, H, I, rfl, ?_⟩
    rw [show its.toArray.any (eqU x) = its.any (eqU x) by simp, any_eqU r fs]
    exact q
theorem call_list_of : CallR X (.type "list") (fun xs H Q => ∃ p ys, xs = [.ref p] ∧ (SqL X.K H p ys ∨ SqT X.K H p ys) ∧ ∀ l, H l = none → Q (.ref l) (upd H l (.lst ys))) := by
  intro pins s σ H xs us Q I r h
  obtain ⟨p, ys, rfl, hq, q⟩ := h
  obtain ⟨u, rfl, rx⟩ := vals1 r
  cases rx
  have fin : ∀ (its : List Value), Vals ys its → ys.length ≤ sizeLine → ∀ (h' : Heap) (c' : Nat), (∀ b o', s.heap.get? b = some o' → h'.get? b = some o') →
      h'.get? s.heap.objs.size = some { cls := .type "list", dict := none, data := .seq its.toArray c', slots := #[] } → EP X pins σ Q (.ref s.heap.objs.size) { s with heap := h' } := fun its r' hz h' c' kp e =>
    ⟨.ref s.heap.objs.size, _, I.laid (t' := s.toks) kp (Nat.le_refl _) (show ObjOk X.prog X.w _ h' _ (.lst ys) from ⟨hz, its, c', r', e⟩), rfl, q _ (I.hok.fresh (Nat.le_refl _))⟩
  rcases hq with hq | hq
  · obtain ⟨its, r', pl, hz⟩ := I.list hq
    have hlen := r'.length
    obtain ⟨o, ho, hc, n, hd⟩ := pl.isList
    exact call_list_seq p (.inl rfl) ho hc hd (fun h' c' kp e => fin its r' hz h' c' kp e) (by simp only [List.size_toArray] <;> omega)
  · obtain ⟨its, r', pl, hz⟩ := I.tuple hq
    have hlen := r'.length
    obtain ⟨o, ho, hc, n, hd⟩ := pl
    exact call_list_seq p (.inr rfl) ho hc hd (fun h' c' kp e => fin its r' hz h' c' kp e) (by simp only [List.size_toArray] <;> omega)
theorem call_tuple_of : CallR X (.type "tuple") (fun xs H Q => ∃ p ys, xs = [.ref p] ∧ ((SqL X.K H p ys ∧ ∀ l, H l = none → Q (.ref l) (upd H l (.tup ys))) ∨ (SqT X.K H p ys ∧ Q (.ref p) H))) := by
  intro pins s σ H xs us Q I r h
  obtain ⟨p, ys, rfl, h⟩ := h
  obtain ⟨u, rfl, rx⟩ := vals1 r
  cases rx
  rcases h with ⟨hq, q⟩ | ⟨hq, q⟩
  · obtain ⟨its, r', pl, hz⟩ := I.list hq
    have hlen := r'.length
    refine call_tuple_list pl.isList (fun h' kp => ?_) (by simp only [List.size_toArray] <;> omega)
    have I1 : Inv X pins σ H { s with heap := h' } := I.kept (t' := s.toks) kp
    have I2 : Inv X pins σ (upd H h'.objs.size (.tup ys)) { s with heap := h'.push { cls := .type "tuple", data := .seq its.toArray } } :=
      I1.laid (t' := s.toks) (fun b o e => Heap.get?_push_of_some _ e) (Nat.le_refl _) (show ObjOk X.prog X.w _ _ _ (.tup ys) from ⟨hz, its, r', IsTup.new _ _⟩)
    exact ⟨.ref h'.objs.size, _, I2, rfl, q _ (I1.hok.fresh (Nat.le_refl _))⟩
  · obtain ⟨its, r', pl, hz⟩ := I.tuple hq
    exact call_tuple_same pl ⟨.ref p, H, I, rfl, q⟩
def tyV (K : PySem.W.Frag) (T : String) (x : V) (H : Hp) : Prop := match x with
  | .str _ => T = "str"
  | .int _ => T = "int"
  | .ref p => (T = "list" ∧ ∃ xs, SqL K H p xs) ∨ (T = "tuple" ∧ ∃ o, K.lookup p = some o ∧ o.cls = .type "tuple" ∧ o.dict = none) ∨
      (T = "dict" ∧ ((∃ kvs, H p = some (.dK kvs)) ∨ ∃ kvs, H p = some (.dT kvs))) ∨ (T = "set" ∧ ∃ S n, H p = some (.set S n))
  | _ => False
theorem tyV_is {pins : List (Addr × Obj)} {σ : St} {H : Hp} {s : Shared} {T : String} {x : V} {v : Value} (I : Inv X pins σ H s) (r : RelV x v) (ty : tyV X.K T x H) :
    s.TypeIs v T ∧ ∀ a, v = .ref a → ∃ ob, s.heap.get? a = some ob ∧ ob.dict = none := by
  cases x with
  | str z =>
    obtain ⟨t, rfl⟩ := r
    cases (show T = "str" from ty)
    exact ⟨typeIs_str s z t, fun _ e => nomatch e⟩
  | int i =>
    obtain ⟨t, rfl⟩ := r
    cases (show T = "int" from ty)
    exact ⟨typeIs_int s i t, fun _ e => nomatch e⟩
  | ref p =>
    cases r
    rcases ty with ⟨rfl, xs, hq⟩ | ⟨rfl, o, hk, hc, hd⟩ | ⟨rfl, hk⟩ | ⟨rfl, S, n, hk⟩
    · obtain ⟨its, _, pl, _⟩ := I.list hq
      refine ⟨pl.isList.typeIs, fun a e => ?_⟩
      cases e
      obtain ⟨o, n, e, c, hd, _⟩ := pl
      exact ⟨o, e, hd⟩
    · refine ⟨⟨o, I.kIn p o hk, hc⟩, fun a e => ?_⟩
      cases e
      exact ⟨o, I.kIn _ o hk, hd⟩
    · have z : ∃ o, s.heap.get? p = some o ∧ o.ExactDict := by
        rcases hk with ⟨kvs, hk⟩ | ⟨kvs, hk⟩
        · obtain ⟨_, _, _, _, o, _, _, e, ex, _⟩ := I.hok p _ hk
          exact ⟨o, e, ex⟩
        · obtain ⟨_, _, _, _, o, _, _, e, ex, _⟩ := I.hok p _ hk
          exact ⟨o, e, ex⟩
      obtain ⟨o, e, ex⟩ := z
      refine ⟨⟨o, e, ex.1⟩, fun a e2 => ?_⟩
      cases e2
      exact ⟨o, e, ex.2.1⟩
    · obtain ⟨o, _, _, _, e, ex, _⟩ := I.hok p _ hk
      refine ⟨⟨o, e, ex.1⟩, fun a e2 => ?_⟩
      cases e2
      exact ⟨o, e, ex.2.1⟩
  | _ => exact False.elim ty
def tBM (K : PySem.W.Frag) (T : String) (r : V → List V → Hp → VK → Prop) (to : TE) (t : TA) : TE := fun σ H Q => to σ H fun x H1 => tyV K T x H1 ∧ t σ H1 fun xs H2 => r x xs H2 Q
variable {o e : Expr} {es : List Expr} {to : TE} {t : TA} {name : Str} {apos cpos : Pos} {T id : String} {r : V → List V → Hp → VK → Prop}
theorem pe_bm (pa : PlainAttrs T) (slot : Slot T name id) (hty : typeOf (.builtin id) = pure (.type "method_descriptor")) (hm : MtR X id r) (ho : PE X o to) (ha : PA X (e :: es) t)
    (hbase : attributeBase o name X.env (eval o X.env) = eval o X.env := by rfl)
    (hfew : ((backTo cpos (starEach (e :: es) X.env)).all (fun x => !x.1) && (backToKw cpos (keywordEach [] X.env)).all (fun x => x.1.isSome)
      && decide ((e :: es).length + ([] : List Keyword).length + (if ([] : List Keyword).isEmpty then 0 else 1) < 30)) = true := by rfl)
    (hline : (apos.endLine == cpos.line) = true := by rfl) (hs : starEach (e :: es) X.env = (false, eval e X.env) :: starEach es X.env := by rfl) (hplain : (backTo cpos (starEach es X.env)).any (·.1) = false := by rfl) :
    PE X (.Call (.Attribute o name apos) (e :: es) [] cpos) (tBM X.K T r to t) := by
  intro pins s σ H Q I h
  refine wpAny_Call_method_late hbase hfew hline rfl (thn (ho pins s σ H _ I h) fun v s1 ⟨x, H1, I1, r1, ty, q1⟩ => ?_)
  obtain ⟨h1, h2⟩ := tyV_is I1 r1 ty
  refine ⟨T, id, pa, slot, hty, h1, h2, ?_⟩
  have hA := ha cpos pins s1 σ H1 _ I1 q1
  rw [hs] at hA ⊢
  refine Calls.callWith_builtin (by show (false || (backTo cpos (starEach es X.env)).any (·.1)) = false; rw [hplain] <;> rfl) (Calls.evalArgs_plain ?_)
  exact thn hA fun us s2 ⟨vs, H2, I2, r2, q2⟩ => hm pins s2 σ H2 x vs v us Q I2 r1 r2 q2
end
end L2
namespace L2
open PySem PySem.Spec PyProof.Rows
def MtM (X : Cx) (id : String) (r : V → List V → Hp → VK → Prop) : Prop :=
  ∀ (pins : List (Addr × Obj)) (s : Shared) (σ : St) (H : Hp) (x : V) (xs : List V) (v : Value) (us : List Value) (Q : VK), Inv X pins σ H s → RelV x v → Vals xs us → r x xs H Q →
    wpAny (model X.prog X.w) X.A (call (.builtin id) (v :: us)) (EP X pins σ Q) X.xe s
theorem Vals.one : ∀ {x : V} {us : List Value}, Vals [x] us → ∃ u, us = [u] ∧ RelV x u
  | _, _, .cons r .nil => ⟨_, rfl, r⟩
theorem Vals.zero : ∀ {us : List Value}, Vals [] us → us = []
  | _, .nil => rfl
theorem Vals.rep {xs : List V} {us : List Value} (h : Vals xs us) : ∀ k : Nat, Vals (List.replicate k xs).flatten (List.replicate k us).flatten
  | 0 => .nil
  | k + 1 => by
    rw [List.replicate_succ, List.replicate_succ, List.flatten_cons, List.flatten_cons]
    exact Vals.append h (Vals.rep h k)
theorem foldl_rep (its : List Value) : ∀ (k : Nat) (acc : List Value),
    List.foldl (fun x1 x2 => x1 ++ x2) acc.toArray (List.replicate k its.toArray) = (acc ++ (List.replicate k its).flatten).toArray
  | 0, acc => by simp
  | k + 1, acc => by
    have e : acc.toArray ++ its.toArray = (acc ++ its).toArray := by simp
    have e2 : (acc ++ its) ++ (List.replicate k its).flatten = acc ++ (List.replicate (k + 1) its).flatten := by
      rw [List.replicate_succ, List.flatten_cons, List.append_assoc]
    rw [← e2, ← foldl_rep its k (acc ++ its), ← e, List.replicate_succ, List.foldl_cons]
section
variable {X : Cx} {pins : List (Addr × Obj)} {σ : St} {H : Hp} {s : Shared} {l b : Addr} {xs ys zs : List V}
theorem Inv.lset {its its' : List Value} {n : Nat} {f : Array Value → Array Value} {t' : Nat} (I : Inv X pins σ H s) (hH : H l = some (.lst xs))
    (e : s.heap.get? l = some { cls := .type "list", data := .seq its.toArray n }) (hf : f its.toArray = its'.toArray) (hv : Vals ys its') (hz : ys.length ≤ sizeLine) :
    Inv X pins σ (upd H l (.lst ys)) { s with heap := s.heap.update l (Obj.mapSeq f), toks := t' } := by
  have q := PySem.IsL.update e f
  rw [hf] at q
  refine I.write (x := l) (e := l) (by rw [hH]; exact trivial) (.inl rfl) (fun b' u hb hu => (Heap.get?_update_other s.heap (Obj.mapSeq f) (Ne.symm hb)).trans hu) ⟨_, q⟩ ?_
  exact ⟨hz, its', _, hv, q⟩
theorem Inv.lnew {its : List Value} {t' : Nat} (I : Inv X pins σ H s) (hv : Vals ys its) (hz : ys.length ≤ sizeLine) :
    Inv X pins σ (upd H s.heap.objs.size (.lst ys)) { s with heap := s.heap.push { cls := .type "list", data := .seq its.toArray }, toks := t' } :=
  I.laid (fun _ _ q => Heap.get?_push_of_some _ q) (Nat.le_refl _) ⟨hz, its, 0, hv, Heap.get?_push_size _ rfl⟩
theorem Inv.fresh (I : Inv X pins σ H s) : H s.heap.objs.size = none := I.hok.fresh (Nat.le_refl _)
theorem Inv.lstM (I : Inv X pins σ H s) (hH : H l = some (.lst xs)) : xs.length ≤ sizeLine ∧ ∃ (its : List Value) (n : Nat), Vals xs its ∧ xs.length = its.length ∧ s.heap.get? l = some { cls := .type "list", data := .seq its.toArray n } := by
  obtain ⟨z, its, n, r, e⟩ := I.hok l _ hH
  exact ⟨z, its, n, r, r.length, e⟩
theorem notLongL {n : Nat} (h : n ≤ sizeLine) : Builtin.List.listTooLong n = false := by
  unfold Builtin.List.listTooLong
  exact decide_eq_false (by omega)
end
section
variable {X : Cx}
def rAppend : V → List V → Hp → VK → Prop := fun x vs H Q => ∃ l xs y, x = .ref l ∧ vs = [y] ∧ H l = some (.lst xs) ∧ xs.length < sizeLine ∧ Q .non (upd H l (.lst (xs ++ [y])))
theorem mt_append : MtM X "list.append" rAppend := by
  intro pins s σ H x vs v us Q I rx rv h
  obtain ⟨l, xs, y, rfl, rfl, hH, hz, q⟩ := h
  cases rx
  obtain ⟨u, rfl, ru⟩ := rv.one
  obtain ⟨z, its, n, r, hl, e⟩ := I.lstM hH
  refine call_meets F.slot_list_append ⟨_, e, rfl⟩ F.entry_list_append (F.args_list_append_2 _ _) (PySem.list_append l its.toArray n u (by rw [List.size_toArray]; omega)) ⟨e, ?_⟩
  refine ⟨.non, _, I.lset (its' := its ++ [u]) hH e (by simp) (r.append (.cons ru .nil)) ?_, rfl, q⟩
  rw [List.length_append, List.length_singleton]
  omega
def rExtend : V → List V → Hp → VK → Prop := fun x vs H Q => ∃ l b xs zs, x = .ref l ∧ vs = [.ref b] ∧ H l = some (.lst xs) ∧ H b = some (.lst zs) ∧ xs.length + zs.length ≤ sizeLine ∧ Q .non (upd H l (.lst (xs ++ zs)))
theorem mt_extend : MtM X "list.extend" rExtend := by
  intro pins s σ H x vs v us Q I rx rv h
  obtain ⟨l, b, xs, zs, rfl, rfl, hH, hB, hz, q⟩ := h
  cases rx
  obtain ⟨u, rfl, ru⟩ := rv.one
  cases ru
  obtain ⟨z, its, n, r, hl, e⟩ := I.lstM hH
  obtain ⟨z2, its2, n2, r2, hl2, e2⟩ := I.lstM hB
  have hsz : its.toArray.size + its2.toArray.size ≤ sizeLine := by rw [List.size_toArray, List.size_toArray]; omega
  have hlong : ¬ (!its.toArray.isEmpty && Builtin.List.listTooLong (its.toArray.size + its2.toArray.size)) = true := by
    rw [notLongL hsz, Bool.and_false]
    exact Bool.false_ne_true
  refine call_meets F.slot_list_extend ⟨_, e, rfl⟩ F.entry_list_extend (F.args_list_extend_2 _ _)
    (AutoSeq1.list_extend_list_list_0 l its.toArray n b its2.toArray n2 hlong (by rw [List.size_toArray]; omega) (by omega)) ⟨e, e2, ?_⟩
  refine ⟨.non, _, I.lset (its' := its ++ its2) hH e (by simp) (r.append r2) ?_, rfl, q⟩
  rw [List.length_append]
  omega
def rRep : R2 := fun x y H Q => ∃ l k xs, x = .ref l ∧ y = .int k ∧ H l = some (.lst xs) ∧ -(2 ^ 63) ≤ k ∧ k < 2 ^ 63 ∧ xs.length * k.toNat ≤ sizeLine ∧
  ∀ p, H p = none → Q (.ref p) (upd H p (.lst (List.replicate k.toNat xs).flatten))
theorem len_rep {α : Type} (xs : List α) (k : Nat) : (List.replicate k xs).flatten.length = k * xs.length := by
  induction k with
  | zero => simp
  | succ k ih => rw [List.replicate_succ, List.flatten_cons, List.length_append, ih, Nat.succ_mul, Nat.add_comm]
theorem op_rep : OpR X (binaryOp .Mult) rRep := by
  intro pins s σ H x y v u Q I rx ry h
  obtain ⟨l, k, xs, rfl, rfl, hH, h1, h2, hz, q⟩ := h
  cases rx
  obtain ⟨t, rfl⟩ := ry
  obtain ⟨z, its, n, r, hl, e⟩ := I.lstM hH
  have hlen : its.toArray.size * k.toNat ≤ sizeLine := by rw [List.size_toArray, ← hl]; exact hz
  have hcap : ¬ its.toArray.size * k.toNat > (2 ^ 63 - 1) / 8 := by
    have : (sizeLine : Nat) ≤ (2 ^ 63 - 1) / 8 := by decide
    omega
  have hfit : ¬ (!Builtin.List.listFitsIndex k) = true := by
    rw [fitsIndex_both h1 h2]
    exact Bool.false_ne_true
  have hlong : ¬ Builtin.List.listTooLong (its.toArray.size * k.toNat) = true := by
    rw [notLongL hlen]
    exact Bool.false_ne_true
  have hnew : List.foldl (fun x1 x2 => x1 ++ x2) #[] (List.replicate (if its.toArray.isEmpty = true then 0 else k.toNat) its.toArray) = (List.replicate k.toNat its).flatten.toArray := by
    have f0 : ∀ m : Nat, List.foldl (fun x1 x2 => x1 ++ x2) #[] (List.replicate m its.toArray) = (List.replicate m its).flatten.toArray := fun m => by
      have := foldl_rep its m []
      rw [List.nil_append] at this
      exact this
    rw [f0]
    cases its with
    | nil => simp
    | cons a r' => rw [if_neg (by simp)]
  refine wpAny_binaryOp_repeat_ref (T := "list") (U := "int") (by decide) ⟨_, e, rfl⟩ (fun s' => typeIs_int s' k t) noFill_list_mul F.fills_int_mul F.slot_int_rmul repeat_list F.slot_int_index.lookup
    (call_meets F.slot_int_rmul (typeIs_int s k t) F.entry_int_rmul (F.args_int_rmul_2 _ _) (int___rmul___int_list k t l its.toArray n)
      ⟨e, rfl, ⟨_, e, rfl⟩, call_meets F.slot_list_mul ⟨_, e, rfl⟩ F.entry_list_mul (F.args_list_mul_2 _ _) (AutoListH.list___mul___list_int_3 l its.toArray n k t hfit hcap hlong) ⟨e, ?_⟩⟩)
  rw [hnew]
  exact ⟨.ref _, _, I.lnew (t' := s.toks) (r.rep k.toNat) (by rw [len_rep, Nat.mul_comm]; exact hz), rfl, q _ I.fresh⟩
end
section
variable {prog : Program} {w : World} {A : Around} {E : Value → Shared → Prop} {s : Shared}
end
section
variable {X : Cx}
end
end L2
namespace Att
open PySem PySem.W PySem.Calls PyProof.Rows
theorem ints_of_wellAll {P : Params} {h : Heap} : ∀ (ns : List Int) (vs : List Value), WellAll P h vs (ns.map WData.int) → IntsAre vs ns := by
  intro ns
  induction ns with
  | nil =>
    intro vs w
    rw [List.map_nil] at w
    cases w
    exact .nil
  | cons n ns ih =>
    intro vs w
    rw [List.map_cons] at w
    cases w with
    | cons a b =>
      cases a
      exact .cons _ _ (ih _ b)
theorem script_of {l : OpenLaw} {n : Nat} (hn : l.most = some n) {P : Params} {h : Heap} {args : List WData} {vals : List Value}
    (hpre : l.row.toRowW.claim.pre args = true) (hwl : WellAll P h vals args) :
    ∃ a vs ns, vals = [Value.ref a] ∧ args = [WData.list (ns.map WData.int)] ∧ h.get? a = some { cls := .type "list", data := .seq vs.toArray } ∧ IntsAre vs ns ∧ ns.length ≤ n := by
  have hsh : WShape.hasAll [] args [.list .int] = true := (pre_splitW hpre).1
  have hc : l.pre.holds [] { args := args } = true := (pre_splitW hpre).2
  obtain ⟨d, r, rfl, h1, h2⟩ := hasAllW_cons hsh
  obtain rfl := hasAllW_nil h2
  obtain ⟨xs, rfl, h3⟩ := hasW_list h1
  obtain ⟨ns, rfl⟩ := items_int h3
  have hlen : ns.length ≤ n := by
    unfold OpenLaw.pre at hc
    have h4 : (WTm.not (.lt (.lit (.int (n : Int))) (.len (.arg 0)))).holds [] { args := [.list (ns.map .int)] } = true := by
      have h4 := (holds_andW hc).1
      rw [hn] at h4
      exact h4
    have h5 := condW_of h4 (w_not (w_lt w_lit (w_len_list (w_arg rfl))))
    rw [List.length_map] at h5
    refine Nat.le_of_not_lt fun q => ?_
    have q' : (n : Int) < ((ns.length : Nat) : Int) := by omega
    first
      | (rw [decide_eq_true q'] at h5; exact absurd h5 (by decide))
      | (simp at h5; omega)
  cases hwl with
  | cons w1 w2 =>
    cases w2
    cases w1 with
    | list ho hall => exact ⟨_, _, ns, rfl, rfl, ho, ints_of_wellAll ns _ hall, hlen⟩
theorem post_true (l : OpenLaw) (args : List WData) : l.row.toRowW.claim.post args (.bool true) args = true :=
  postW_of (r := l.row.toRowW) (X := (true == true))
    (show WShape.has [] (.bool true) .bool = true by first | rfl | decide | simp [WShape.has, WShape.arms, WShape.armsAll])
    (show (WTm.eq .res (.lit (.bool true))).value [] { args := args, res := some (.bool true), after := args } = some (.bool (true == true)) from w_eq_bool (w_res rfl) w_lit) rfl
theorem attach_call {l : OpenLaw} {n : Nat} {q : Program} {loose : List Str} {XP : (Str → Option Value) → Heap → Prop} {YP : World → Heap → Prop} {d : DefRec}
    (hn : l.most = some n) (hdf : d.params.defaults = [])
    (call : ∀ (w : World) (s₀ s₁ : Shared) (mg mb : Str → Option Value) (fa : Addr) (o : Obj) (pm cd doc : Value) (a : Addr) (vs : List Value) (ns : List Int),
      Ground q loose [] XP w s₀ mg mb s₁.heap → YP w s₁.heap →
      s₁.heap.get? fa = some o → o.data = .func (docDef d.name d.params d.body d.scope pm cd doc) → s₁.heap.CodeRec cd d.name → mg d.name = some (.ref fa) →
      s₁.heap.get? a = some { cls := .type "list", data := .seq vs.toArray } → IntsAre vs ns → ns.length ≤ n → s₁.gens = #[] →
      codeAny (model l.prog w) callerA (.call (.ref fa) ⟨[.ref a], []⟩) (fun r s' => r = .ok (.ret (.bool true)) ∧ OldK s₁.heap s'.heap ∧ s'.os = s₁.os ∧ AllBare s'.gens) s₁) :
    WalkO q loose XP YP l.row.toRowW d [] (fun f vs => PySem.call f vs) := by
  intro w s₀ s₁ mg mb G Y fa o pm cd doc dV kV ho hd hcd hD hmg hg args vals as hpre hlay hrd hwl hlo
  obtain rfl : dV = .none := Dflts.none hD hdf
  obtain rfl : kV = .none := Dflts.noKw hD
  obtain ⟨a, vs, ns, rfl, rfl, hobj, hints, hlen⟩ := script_of hn hpre hwl
  refine enter_call (codeAny_mono (call w s₀ s₁ mg mb fa o pm cd doc a vs ns G Y ho (fd_plain hd) hcd hmg hobj hints hlen hg) fun r s' hq => ?_)
  obtain ⟨rfl, h2, h3, h4⟩ := hq
  exact ⟨.inl ⟨.bool true, .bool true, [], rfl, fun _ => rfl, .bool true, post_true l _, fun _ => ⟨List.Pairwise.nil, fun _ hm => (nomatch hm)⟩⟩, h2, h3, h4⟩
section
variable {prog : Program} {w : World} {A : Around} {E : Value → Shared → Prop} {s : Shared} {K : Frag}
end
end Att
namespace L2
open PySem PySem.Spec PyProof.Rows
theorem vals_ints : ∀ {vs : List Value} {ns : List Int}, IntsAre vs ns → Vals (ns.map V.int) vs
  | _, _, .nil => .nil
  | _, _, .cons n t h => .cons ⟨t, rfl⟩ (vals_ints h)
def Only (H : Hp) : Prop := ∀ b, H b = none ∨ ∃ o xs, H b = some (.frz o (.lst xs))
theorem law_call {P : Program} {w : World} {K : PySem.W.Frag} {mg mb : Str → Option Value} {CX : CXT} {k : Nat} {fa a : Addr} {fd : FuncData} {x : Str} {sp : Sp} {s₁ : Shared} {vs : List Value} {ns : List Int}
    (KX : K.In s₁.heap) (hns : s₁.heap.Ns mainGlobals mg) (hb : s₁.heap.Ns builtinsNs mb) (hbb : ∀ x : Str, x ≠ "__name__" → mb x = bootBuiltins x) (hlim : s₁.heap.NoLimit) (hg : s₁.gens = #[])
    (ha : s₁.heap.get? a = some { cls := .type "list", data := .seq vs.toArray }) (hi : IntsAre vs ns) (hl : ns.length ≤ sizeLine) (hr : Room k callerA)
    (F : ∀ base : Heap, K.In base → base.Ns mainGlobals mg → FnOk P w K mg base CX k fa fd [x] sp) (hbind : ∀ (s : Shared) (u : Value), BindsTo s fd ⟨[u], []⟩ [(x, u)])
    (hsp : ∀ H : Hp, Only H → SqL K H a (ns.map V.int) → sp [.ref a] H (fun v _ => v = .bl true) fun _ _ _ => False)
    (hCX : ∀ H e s', CX [] H s₁ (fun _ _ _ => False) e s' → False) :
    codeAny (model P w) callerA (.call (.ref fa) ⟨[.ref a], []⟩) (fun r s' => r = .ok (.ret (.bool true)) ∧ OldK s₁.heap s'.heap ∧ s'.os = s₁.os ∧ AllBare s'.gens) s₁ := by
  have rv := vals_ints hi
  have lenV := hi.length
  -- from an abstract heap in which nothing but the script may be tracked
  have core : ∀ H : Hp, Only H → SqL K H a (ns.map V.int) → HOk P w H s₁.heap → (∀ b, H b ≠ none → b = a) → (H a ≠ none → K.lookup a = none) →
      codeAny (model P w) callerA (.call (.ref fa) ⟨[.ref a], []⟩) (fun r s' => r = .ok (.ret (.bool true)) ∧ OldK s₁.heap s'.heap ∧ s'.os = s₁.os ∧ AllBare s'.gens) s₁ := by
    intro H hO hS hok hA hK
    have base_of : ∀ {b : Addr} {o : Obj}, s₁.heap.get? b = some o → H b = none → (hidT s₁.heap H).get? b = some o := fun e n => hidT_get e n
    have noA : ∀ {b : Addr} {o : Obj} {es : Array DictEntry} {ep : Nat}, s₁.heap.get? b = some o → o.data = .dict es ep → H b = none := fun {b o es ep} e d => by
      cases q : H b with
      | none => rfl
      | some u =>
        have e' : b = a := hA b (by rw [q]; simp)
        subst e'
        rw [ha] at e; cases e
        have d' : Data.seq vs.toArray _ = Data.dict es ep := d
        cases d'
    have nsK : ∀ {b : Addr} {m : Str → Option Value}, s₁.heap.Ns b m → (hidT s₁.heap H).Ns b m := fun {b m} ⟨o, es, ep, e, d, r⟩ => ⟨o, es, ep, base_of e (noA e d), d, r⟩
    have hKb : K.In (hidT s₁.heap H) := fun b o e => base_of (KX b o e) (by
      cases q : H b with
      | none => rfl
      | some u =>
        have e' : b = a := hA b (by rw [q]; simp)
        subst e'
        rw [hK (by rw [q]; simp)] at e; cases e)
    have hM : Mod K mg (hidT s₁.heap H) := ⟨hKb, nsK hns, ⟨mb, nsK hb, hbb⟩, let ⟨mc, h1, h2⟩ := hlim; ⟨mc, nsK h1, h2⟩⟩
    have e0 : Env0 P w K mg (hidT s₁.heap H) callerA [] s₁ H := ⟨rfl, hM, fun b o e => of_hidT e, Nat.le_of_eq (hidT_size _ _), trivial, fun b hb => absurd (show b ∈ ([] : List Addr) from hb) (by simp), hok, .of_eq hg⟩
    refine codeAny_mono ((F _ hKb (nsK hns)).run callerA [] s₁ H ⟨[.ref a], []⟩ [.ref a] [.ref a] _ _ hr e0 (hbind s₁ (.ref a)) (.cons rfl .nil) (hsp H hO hS)) fun r s' h => ?_
    cases r with
    | error e => exact (hCX H e s' h).elim
    | ok fl =>
      cases fl with
      | next => exact False.elim h
      | brk => exact False.elim h
      | cont => exact False.elim h
      | ret u =>
        obtain ⟨v, H', os, bare, un, hok', r', q⟩ := h
        have q' : v = .bl true := q
        subst q'
        obtain rfl : u = Value.bool true := r'
        refine ⟨rfl, OldK.of_keep fun b o e => ?_, os, bare⟩
        cases q : H b with
        | none => exact un.keep b o e q (by intro z; exact absurd (show b ∈ ([] : List Addr) from z) (by simp)) (by simp)
        | some u =>
          rcases hO b with z | ⟨ob, xs, z⟩
          · rw [q] at z; cases z
          · have z2 := un.frzs b ob _ z
            obtain ⟨e1, _⟩ := hok b _ z
            obtain ⟨e2, _⟩ := hok' b _ z2
            rw [e] at e1; cases e1
            exact e2
  cases hk : K.lookup a with
  | some o =>
    -- the script is one of the module's own objects
    have e := KX a o hk
    rw [ha] at e
    cases e
    refine core (fun _ => none) (fun _ => .inl rfl) (.inr ⟨_, vs.toArray, _, hk, rfl, rfl, rfl, by rw [List.size_toArray, lenV]; exact hl, by simpa using rv⟩) (fun b u z => by have z' : (none : Option HO) = some u := z; cases z') (fun b z => absurd rfl z) fun z => absurd rfl z
  | none =>
    refine core (fun b => if b = a then some (.frz { cls := .type "list", data := .seq vs.toArray } (.lst (ns.map V.int))) else none) (fun b => ?_) (.inl (.inr ⟨{ cls := .type "list", data := .seq vs.toArray }, if_pos rfl⟩)) (fun b u z => ?_) (fun b z => ?_) fun _ => hk
    · by_cases hb : b = a
      · exact .inr ⟨_, _, if_pos hb⟩
      · exact .inl (if_neg hb)
    · by_cases hb : b = a
      · have z' := (if_pos hb).symm.trans z
        cases z'
        subst hb
        exact ⟨ha, by rw [List.length_map]; exact hl, vs, _, rv, ha⟩
      · have z' := (if_neg hb).symm.trans z
        cases z'
    · by_cases hb : b = a
      · exact hb
      · exact absurd (if_neg hb) z
end L2
namespace L2
open PySem PySem.Spec PyProof.Rows
theorem walk_of {l : PySem.W.OpenLaw} {n k : Nat} {q : Program} {loose : List Str} {XP : (Str → Option Value) → Heap → Prop} {YP : World → Heap → Prop} {d : DefRec} {K : Params → PySem.W.Frag} {CX : World → CXT} {sp : World → Sp} {x : Str}
    (hn : l.most = some n) (hn2 : n ≤ sizeLine) (hdf : d.params.defaults = []) (hr : Room k callerA)
    (hY : ∀ (w : World) (h : Heap), YP w h → (K w.params).In h)
    (F : ∀ (w : World) (mg : Str → Option Value) (fa : Addr) (h : Heap), (K w.params).In h → h.Ns mainGlobals mg → mg d.name = some (.ref fa) →
      ∃ fd : FuncData, (∀ (s : Shared) (u : Value), BindsTo s fd ⟨[u], []⟩ [(x, u)]) ∧
        ∀ base : Heap, (K w.params).In base → base.Ns mainGlobals mg → FnOk l.prog w (K w.params) mg base (CX w) k fa fd [x] (sp w))
    (hsp : ∀ (w : World) (H : Hp) (a : Addr) (ns : List Int), ns.length ≤ n → Only H → SqL (K w.params) H a (ns.map V.int) → sp w [.ref a] H (fun v _ => v = .bl true) fun _ _ _ => False)
    (hCX : ∀ (w : World) (H : Hp) (s : Shared) (e : Value) (s' : Shared), CX w [] H s (fun _ _ _ => False) e s' → False) :
    PySem.W.WalkO q loose XP YP l.row.toRowW d [] (fun f vs => PySem.call f vs) := by
  refine Att.attach_call hn hdf fun w s₀ s₁ mg mb fa o pm cd doc a vs ns G Y ho hd hcd hmg hobj hints hlen hg => ?_
  have KX := hY w _ Y
  obtain ⟨fd, hb, hF⟩ := F w mg fa _ KX G.T.g hmg
  exact law_call KX G.T.g G.T.b G.T.builtins G.T.nolimit hg hobj hints (Nat.le_trans hlen hn2) hr hF hb (fun H hO hS => hsp w H a ns hlen hO hS) fun H e s' => hCX w H s₁ e s'
end L2
namespace L2
open PySem PySem.Spec PyProof.Rows
def defArgs (s : Stmt) : Arguments := match s with
  | .FunctionDef _ a _ _ _ _ _ _ _ _ => a
  | _ => { posonlyargs := [], args := [], vararg := none, kwonlyargs := [], kw_defaults := [], kwarg := none, defaults := [] }
def defBody (s : Stmt) : List Stmt := match s with
  | .FunctionDef _ _ b _ _ _ _ _ _ _ => b
  | _ => []
def defScope (s : Stmt) : Scope := match s with
  | .FunctionDef _ _ _ _ _ _ sc _ _ _ => sc
  | _ => { kind := .function, names := [], isGenerator := false, isCoroutine := false }
abbrev CX0 : CXT := fun _ _ _ _ _ _ => False
abbrev E0 : XK := fun _ _ _ => False
theorem pass0 {X : Cx} : Passes CX0 X E0 := fun _ _ _ _ _ _ _ h => h.elim
structure Fun (K : PySem.W.Frag) (x qual : Str) (st : Stmt) (f : Addr) (fd : FuncData) : Prop where
  ex : ∃ (oc : Value) (od : Option Addr) (kV doc pm : Value) (an : Option Addr) (cdv ct : Value) (osl : Array (Option Value)),
    fd = PySem.W.fnOf x qual (defArgs st) (defBody st) (defScope st) .none kV doc pm an cdv ct ∧ K.lookup f = some ⟨oc, od, .func fd, osl⟩ ∧ PySem.W.codeIn K cdv qual = true
  kp : PySem.W.keepIn K (.ref f) = true
section
variable {P : Program} {w : World} {K : PySem.W.Frag} {mg : Str → Option Value} {base : Heap}
theorem Fun.ok {x qual : Str} {st : Stmt} {f : Addr} {fd : FuncData} {N ps : List Str} {k : Nat} {sp : Sp} (F : Fun K x qual st f fd) (S : FnScope N ps (defScope st)) (len : ∀ vs H Q E, sp vs H Q E → vs.length = ps.length)
    (hbody : ∀ (cdv : Value) (A : Around) (outer : List Env) (s : Shared) (H : Hp) (vs : List V) (Q : VK) (E : XK), Room k (A.deeper (envOfC qual (defScope st) s.heap.objs.size f cdv)) → sp vs H Q E →
      ∃ t, PSs (cxOf CX0 P w K mg base N qual (defScope st) f cdv A outer s H E).nox (defBody st) t ∧ t { nx := fun _ H' => Q .non H', rt := Q } (start N vs) H) : FnOk P w K mg base CX0 (k + 1) f fd ps sp := by
  obtain ⟨oc, od, kV, doc, pm, an, cdv, ct, osl, rfl, lk, hcd⟩ := F.ex
  refine fn_of lk hcd S len fun A outer s H vs Q E hr hsp => ?_
  obtain ⟨t, h, q⟩ := hbody cdv A outer s H vs Q E hr hsp
  exact ⟨t, h.nox, q⟩
theorem Fun.binds {x qual : Str} {st : Stmt} {f : Addr} {fd : FuncData} {ps : List Str} (F : Fun K x qual st f fd)
    (h : ∀ (kV doc pm : Value) (an : Option Addr) (cdv ct : Value) (us : List Value), us.length = ps.length → bindArgs (PySem.W.fnOf x qual (defArgs st) (defBody st) (defScope st) .none kV doc pm an cdv ct) ⟨us, []⟩ = pure (ps.zip us)) : Binds K fd ps [] := by
  obtain ⟨oc, od, kV, doc, pm, an, cdv, ct, osl, rfl, lk, hcd⟩ := F.ex
  exact .all (h kV doc pm an cdv ct)
theorem fun_mk {x qual : Str} {st : Stmt} {f : Addr} {oc : Value} {od an : Option Addr} {osl : Array (Option Value)} {kV doc pm cdv ct : Value} (l : K.lookup f = some ⟨oc, od, .func (PySem.W.fnOf x qual (defArgs st) (defBody st) (defScope st) .none kV doc pm an cdv ct), osl⟩)
    (c : PySem.W.codeIn K cdv qual = true) (k : PySem.W.keepIn K (.ref f) = true) : Fun K x qual st f (PySem.W.fnOf x qual (defArgs st) (defBody st) (defScope st) .none kV doc pm an cdv ct) := ⟨⟨oc, od, kV, doc, pm, an, cdv, ct, osl, rfl, l, c⟩, k⟩
end
theorem small1000 {n : Nat} (h : n ≤ 1000) : n < sizeLine := Nat.lt_of_le_of_lt h (by decide)
section
variable {X : Cx}
theorem pv (i : Nat) {x : Str} {pos : Pos} (hN : X.N[i]? = some x := by rfl) (hv : Vis X.env.scope x := by first | exact Or.inl rfl | exact Or.inr (Or.inl rfl) | exact Or.inr (Or.inr rfl)) (hd : (x == ("__debug__" : Str)) = false := by decide)
    (hcd : (x == ("__classdict__" : Str)) = false := by decide) : PE X (.Name x pos) (tVar i) := pe_var hN hv hd hcd
end
theorem iteF {A B : Prop} (h : B) : if false = true then A else B := by
  rw [if_neg Bool.false_ne_true]
  exact h
theorem iteT {A B : Prop} (h : A) : if true = true then A else B := by
  rw [if_pos rfl]
  exact h
def Same (H H' : Hp) : Prop := ∀ b o, H b = some o → H' b = some o
theorem Same.refl (H : Hp) : Same H H := fun _ _ h => h
theorem Same.trans {H H1 H2 : Hp} (a : Same H H1) (b : Same H1 H2) : Same H H2 := fun c o h => b c o (a c o h)
theorem Same.seq {K : PySem.W.Frag} {H H' : Hp} {a : Addr} {xs : List V} (e : Same H H') (h : SqL K H a xs) : SqL K H' a xs := by
  rcases h with (h | ⟨o, h⟩) | h
  · exact .inl (.inl (e _ _ h))
  · exact .inl (.inr ⟨o, e _ _ h⟩)
  · exact .inr h
end L2

set_option maxHeartbeats 4000000
namespace L2
open PySem PySem.Spec PyProof.Rows
section
variable {κ : Type} [DecidableEq κ]
def valV (kvs : List (κ × V)) (k : κ) : Option V := (kvs.find? fun kv => decide (kv.1 = k)).map (·.2)
def putK (kvs : List (κ × V)) (k : κ) (v : V) : List (κ × V) :=
  if (kvs.any fun kv => decide (kv.1 = k)) = true then kvs.map (fun kv => if kv.1 = k then (kv.1, v) else kv) else kvs ++ [(k, v)]
theorem valV_pos {p : κ × V} {r : List (κ × V)} {k : κ} (e : p.1 = k) : valV (p :: r) k = some p.2 := by simp [valV, List.find?_cons, e]
theorem valV_neg {p : κ × V} {r : List (κ × V)} {k : κ} (e : ¬ p.1 = k) : valV (p :: r) k = valV r k := by simp [valV, List.find?_cons, e]
theorem valV_any (k : κ) : ∀ kvs : List (κ × V), (kvs.any fun kv => decide (kv.1 = k)) = (valV kvs k).isSome
  | [] => rfl
  | p :: r => by
    rw [List.any_cons]
    by_cases e : p.1 = k
    · simp only [valV_pos e, decide_eq_true e, Bool.true_or, Option.isSome_some]
    · rw [valV_neg e, decide_eq_false e, Bool.false_or]; exact valV_any k r
theorem length_putK (kvs : List (κ × V)) (k : κ) (v : V) : (putK kvs k v).length ≤ kvs.length + 1 := by
  unfold putK
  split
  · rw [List.length_map]; omega
  · rw [List.length_append, List.length_cons, List.length_nil]; omega
theorem RelO.isSome_eq {o : Option V} {u : Option Value} (r : RelO o u) : o.isSome = u.isSome := by
  cases o with
  | none => cases u with
    | none => rfl
    | some _ => exact (show False from r).elim
  | some _ => cases u with
    | none => exact (show False from r).elim
    | some _ => rfl
theorem KV.val {kvs : List (κ × V)} {vs : List (κ × Value)} (r : KV kvs vs) (k : κ) : RelO (valV kvs k) (valueAt vs k) := by
  unfold KV at r
  induction r with
  | nil => exact True.intro
  | @cons p q ps qs h t ih =>
    obtain ⟨h1, h2⟩ := h
    by_cases e : p.1 = k
    · have e' : q.1 = k := h1.symm.trans e
      have b : valueAt (q :: qs) k = some q.2 := by simp [valueAt, List.find?_cons, e']
      rw [valV_pos e, b]; exact h2
    · have e' : ¬ q.1 = k := fun z => e (h1.trans z)
      have b : valueAt (q :: qs) k = valueAt qs k := by simp [valueAt, List.find?_cons, e']
      rw [valV_neg e, b]; exact ih
theorem KV.any {kvs : List (κ × V)} {vs : List (κ × Value)} (r : KV kvs vs) (k : κ) : (kvs.any fun kv => decide (kv.1 = k)) = vs.any fun kv => decide (kv.1 = k) := by
  unfold KV at r
  induction r with
  | nil => rfl
  | cons h t ih => rw [List.any_cons, List.any_cons, ih, h.1]
theorem KV.repl {kvs : List (κ × V)} {vs : List (κ × Value)} (r : KV kvs vs) (k : κ) {y : V} {u : Value} (ry : RelV y u) :
    KV (kvs.map fun kv => if kv.1 = k then (kv.1, y) else kv) (vs.map fun kv => if kv.1 = k then (kv.1, u) else kv) := by
  unfold KV at r ⊢
  induction r with
  | nil => exact .nil
  | @cons p q ps qs h t ih =>
    rw [List.map_cons, List.map_cons]
    refine .cons ?_ ih
    obtain ⟨h1, h2⟩ := h
    by_cases e : p.1 = k
    · rw [if_pos e, if_pos (h1.symm.trans e)]; exact ⟨h1, ry⟩
    · rw [if_neg e, if_neg (fun z => e (h1.trans z))]; exact ⟨h1, h2⟩
theorem KV.put {kvs : List (κ × V)} {vs : List (κ × Value)} (r : KV kvs vs) (k : κ) {y : V} {u : Value} (ry : RelV y u) : KV (putK kvs k y) (stored vs k u) := by
  unfold putK stored
  rw [r.any k]
  by_cases e : (vs.any fun kv => decide (kv.1 = k)) = true
  · rw [if_pos e, if_pos e]; exact r.repl k ry
  · rw [if_neg e, if_neg e]; exact Paired.snoc r ⟨rfl, ry⟩
theorem KV.length {kvs : List (κ × V)} {vs : List (κ × Value)} (r : KV kvs vs) : kvs.length = vs.length := Paired.length r
end
theorem kV_is {P : Program} {w : World} {k : Key} {u : Value} (r : RelV (kV k) u) : (mixKind P w).is k u = true := by
  cases k with
  | inl i => obtain ⟨t, e⟩ := (show ∃ t, u = Value.int i t from r); subst e; exact mixKind_int P w i t
  | inr x => obtain ⟨t, e⟩ := (show ∃ t, u = Value.str x t from r); subst e; exact mixKind_str P w x t
theorem items_are {P : Program} {w : World} : ∀ {ks : List Key} {us : List Value}, Vals (ks.map kV) us → ItemsAre (mixKind P w) ks us
  | [], _, r => by rw [List.map_nil] at r; cases r; exact .nil
  | k :: ks, _, r => by
    rw [List.map_cons] at r
    cases r with
    | cons h t => exact .cons (kV_is h) (items_are t)
abbrev KT (H : Hp) : List (List Key × V) → List (List Key × Addr × Value) → Prop := Paired fun p q => p.1 = q.1 ∧ H q.2.1 = some (.tup (p.1.map kV)) ∧ RelV p.2 q.2.2
theorem KT.val {H : Hp} {kvs : List (List Key × V)} {xs : List (List Key × Addr × Value)} (r : KT H kvs xs) (k : List Key) : RelO (valV kvs k) ((atKey xs k).map (·.2)) := by
  induction r with
  | nil => exact True.intro
  | @cons p q ps qs h t ih =>
    obtain ⟨h1, _, h2⟩ := h
    by_cases e : p.1 = k
    · have e' : q.1 = k := h1.symm.trans e
      have b : atKey (q :: qs) k = some q.2 := by simp [atKey, List.find?_cons, e']
      rw [valV_pos e, b]; exact h2
    · have e' : ¬ q.1 = k := fun z => e (h1.trans z)
      have b : atKey (q :: qs) k = atKey qs k := by simp [atKey, List.find?_cons, e']
      rw [valV_neg e, b]; exact ih
theorem KT.repl {H : Hp} {kvs : List (List Key × V)} {xs : List (List Key × Addr × Value)} (r : KT H kvs xs) (k : List Key) {y : V} {u : Value} (ry : RelV y u) :
    KT H (kvs.map fun kv => if kv.1 = k then (kv.1, y) else kv) (xs.map (putAt k u)) := by
  induction r with
  | nil => exact .nil
  | @cons p q ps qs h t ih =>
    rw [List.map_cons, List.map_cons]
    refine .cons ?_ ih
    obtain ⟨h1, h2, h3⟩ := h
    unfold putAt
    by_cases e : p.1 = k
    · rw [if_pos e, if_pos (h1.symm.trans e)]; exact ⟨h1, h2, ry⟩
    · rw [if_neg e, if_neg (fun z => e (h1.trans z))]; exact ⟨h1, h2, h3⟩
theorem KT.put {H : Hp} {kvs : List (List Key × V)} {xs : List (List Key × Addr × Value)} (r : KT H kvs xs) (k : List Key) {b : Addr} {y : V} {u : Value} (hb : H b = some (.tup (k.map kV))) (ry : RelV y u) :
    KT H (putK kvs k y) (storedH xs k b u) := by
  have e : (kvs.any fun kv => decide (kv.1 = k)) = (atKey xs k).isSome := by
    rw [valV_any, (r.val k).isSome_eq, Option.isSome_map]
  unfold putK storedH
  rw [e]
  by_cases q : (atKey xs k).isSome = true
  · rw [if_pos q, if_pos q]; exact r.repl k ry
  · rw [if_neg q, if_neg q]; exact Paired.snoc r ⟨rfl, hb, ry⟩
theorem KT.keeps {H H' : Hp} {kvs : List (List Key × V)} {xs : List (List Key × Addr × Value)} (r : KT H kvs xs) (ht : ∀ b ys, H b = some (.tup ys) → H' b = some (.tup ys)) : KT H' kvs xs :=
  Paired.mapP r fun _ _ z => ⟨z.1, ht _ _ z.2.1, z.2.2⟩
section
variable {P : Program} {w : World} {H : Hp} {h : Heap} {a : Addr}
theorem rd_of {u : HO} (ok : HOk P w H h) (e : Rd H a u) : ObjOk P w H h a u := e.ok ok
theorem dk_rd {kvs : List (Key × V)} (ok : HOk P w H h) (e : Rd H a (.dK kvs)) : kvs.length ≤ sizeLine ∧ (a == sysModules) = false ∧ ∃ vs, KV kvs vs ∧ h.DictOf (mixKind P w) a vs :=
  show ObjOk P w H h a (.dK kvs) from rd_of ok e
theorem dk_of {kvs : List (Key × V)} (ok : HOk P w H h) (e : H a = some (.dK kvs)) : kvs.length ≤ sizeLine ∧ (a == sysModules) = false ∧ ∃ vs, KV kvs vs ∧ h.DictOf (mixKind P w) a vs := dk_rd ok (.inl e)
theorem key_of {ks : List Key} (ok : HOk P w H h) (e : H a = some (.tup (ks.map kV))) : (tupleKind (mixKind P w)).is h ks a := by
  obtain ⟨_, its, r, o, h1, h2, n, h3⟩ := (show ObjOk P w H h a (.tup (ks.map kV)) from ok a _ e)
  exact ⟨o, its.toArray, n, h1, h2, h3, by simpa using items_are r⟩
theorem dt_rd {kvs : List (List Key × V)} (ok : HOk P w H h) (e : Rd H a (.dT kvs)) : kvs.length ≤ sizeLine ∧ (a == sysModules) = false ∧
    ∃ xs, KT H kvs xs ∧ h.DictOfH (tupleKind (mixKind P w)) a xs := by
  obtain ⟨z, y, xs, r, o, es, ep, h1, h2, h3, h4, h5⟩ := (show ObjOk P w H h a (.dT kvs) from rd_of ok e)
  refine ⟨z, y, xs, r, o, es, ep, h1, h2, h3, h4, fun x hx => ?_, h5⟩
  have all : ∀ {l : List (List Key × V)} {m : List (List Key × Addr × Value)}, KT H l m → ∀ x ∈ m, (tupleKind (mixKind P w)).is h x.1 x.2.1 := by
    intro l m q
    induction q with
    | nil => intro x hx; exact nomatch hx
    | @cons p q ps qs hq t ih =>
      intro x hx
      rcases List.mem_cons.mp hx with e | hx
      · subst e
        exact key_of ok (by rw [← hq.1]; exact hq.2.1)
      · exact ih x hx
  exact all r x hx
theorem dt_of {kvs : List (List Key × V)} (ok : HOk P w H h) (e : H a = some (.dT kvs)) : kvs.length ≤ sizeLine ∧ (a == sysModules) = false ∧
    ∃ xs, KT H kvs xs ∧ h.DictOfH (tupleKind (mixKind P w)) a xs := dt_rd ok (.inl e)
end
def DGet (H : Hp) (a : Addr) (y : V) (r : Option V) : Prop :=
  (∃ kvs k, Rd H a (.dK kvs) ∧ y = kV k ∧ r = valV kvs k) ∨ ∃ kvs k b, Rd H a (.dT kvs) ∧ y = .ref b ∧ H b = some (.tup (k.map kV)) ∧ r = valV kvs k
def DPut (H : Hp) (a : Addr) (y v : V) (H' : Hp) : Prop :=
  (∃ kvs k, H a = some (.dK kvs) ∧ y = kV k ∧ kvs.length < sizeLine ∧ H' = upd H a (.dK (putK kvs k v))) ∨
  ∃ kvs k b, H a = some (.dT kvs) ∧ y = .ref b ∧ H b = some (.tup (k.map kV)) ∧ kvs.length < sizeLine ∧ H' = upd H a (.dT (putK kvs k v))
theorem DPut.k {H : Hp} {a : Addr} {kvs : List (Key × V)} {k : Key} {v : V} (e : H a = some (.dK kvs)) (hl : kvs.length < sizeLine) : DPut H a (kV k) v (upd H a (.dK (putK kvs k v))) := .inl ⟨kvs, k, e, rfl, hl, rfl⟩
section
variable {X : Cx} {pins : List (Addr × Obj)} {σ : St} {H : Hp} {s : Shared} {a : Addr} {y v : V} {u r : Value} {o : Option V} {A : Around} {E : Value → Shared → Prop}
theorem Inv.big (I : Inv X pins σ H s) : sysModules < s.heap.objs.size := by
  have h : mainGlobals < s.heap.objs.size := (I.mod.glob.keeps I.bk).lt
  exact Nat.lt_trans (by decide) h
theorem d_getItem {Q : Value → Shared → Prop} (hu : A.units + 1 < cLine) (I : Inv X pins σ H s) (g : DGet H a y (some v)) (ry : RelV y u) (h : ∀ w' s', Inv X pins σ H s' → RelV v w' → Q w' s') :
    wpAny (model X.prog X.w) A (getItem (.ref a) u) Q E s := by
  rcases g with ⟨kvs, k, e, ey, l⟩ | ⟨kvs, k, b, e, ey, eb, l⟩
  · subst ey
    obtain ⟨z, hd, vs, rel, dd⟩ := dk_rd I.hok e
    obtain ⟨w', hw, rw'⟩ := RelO.some_of (v := v) (o := valueAt vs k) (by rw [l]; exact rel.val k)
    exact wpAny_getItem_of (kV_is ry) dd.mapOf hw (h w' _ (I.tok _) rw')
  · subst ey
    cases (show u = Value.ref b from ry)
    obtain ⟨z, hd, xs, rel, dd⟩ := dt_rd I.hok e
    obtain ⟨w', hw, rw'⟩ := RelO.some_of (v := v) (o := (atKey xs k).map (·.2)) (by rw [l]; exact rel.val k)
    obtain ⟨p, hp, hp2⟩ := Option.map_eq_some_iff.mp hw
    refine wpAny_getItem_heap (tupleKind_room_in1 hu) (key_of I.hok eb) dd hp ?_
    rw [hp2]
    exact h w' _ (I.tok _) rw'
theorem d_in {Q : Value → Shared → Prop} (hu : A.units + 1 < cLine) (I : Inv X pins σ H s) (g : DGet H a y o) (ry : RelV y u) (h : ∀ s', Inv X pins σ H s' → Q (.bool o.isSome) s') :
    wpAny (model X.prog X.w) A (compareOp .In u (.ref a)) Q E s := by
  rcases g with ⟨kvs, k, e, ey, l⟩ | ⟨kvs, k, b, e, ey, eb, l⟩
  · subst ey
    obtain ⟨z, hd, vs, rel, dd⟩ := dk_rd I.hok e
    refine wpAny_in_of (kV_is ry) hd dd.mapOf ?_
    rw [← (rel.val k).isSome_eq, ← l]
    exact h _ (I.tok _)
  · subst ey
    cases (show u = Value.ref b from ry)
    obtain ⟨z, hd, xs, rel, dd⟩ := dt_rd I.hok e
    refine wpAny_in_heap (tupleKind_room_in1 hu) (key_of I.hok eb) hd dd ?_
    have q := (rel.val k).isSome_eq
    rw [Option.isSome_map] at q
    rw [← q, ← l]
    exact h _ (I.tok _)
theorem d_notIn {Q : Value → Shared → Prop} (hu : A.units + 1 < cLine) (I : Inv X pins σ H s) (g : DGet H a y o) (ry : RelV y u) (h : ∀ s', Inv X pins σ H s' → Q (.bool (!o.isSome)) s') :
    wpAny (model X.prog X.w) A (compareOp .NotIn u (.ref a)) Q E s := by
  rcases g with ⟨kvs, k, e, ey, l⟩ | ⟨kvs, k, b, e, ey, eb, l⟩
  · subst ey
    obtain ⟨z, hd, vs, rel, dd⟩ := dk_rd I.hok e
    refine wpAny_notIn_of (kV_is ry) hd dd.mapOf ?_
    rw [← (rel.val k).isSome_eq, ← l]
    exact h _ (I.tok _)
  · subst ey
    cases (show u = Value.ref b from ry)
    obtain ⟨z, hd, xs, rel, dd⟩ := dt_rd I.hok e
    refine wpAny_notIn_heap (tupleKind_room_in1 hu) (key_of I.hok eb) hd dd ?_
    have q := (rel.val k).isSome_eq
    rw [Option.isSome_map] at q
    rw [← q, ← l]
    exact h _ (I.tok _)
theorem d_write {h' : Heap} {t' : Nat} {ob : HO} (I : Inv X pins σ H s) (mu : Mut (H a)) (hs : Heap.SameBut a s.heap h') (he : ∃ q, h'.get? a = some q) (new : ObjOk X.prog X.w (upd H a ob) h' a ob) :
    Inv X pins σ (upd H a ob) { s with heap := h', toks := t' } :=
  I.write (x := a) (e := a) mu (.inl rfl) (fun b q hb z => (hs.2 b hb).trans z) he new
theorem dk_new {P : Program} {w : World} {H' : Hp} {h' : Heap} {kvs : List (Key × V)} {vs : List (Key × Value)} (z : kvs.length ≤ sizeLine) (hd : (a == sysModules) = false) (rel : KV kvs vs) (dd : h'.DictOf (mixKind P w) a vs) :
    ObjOk P w H' h' a (.dK kvs) := ⟨z, hd, vs, rel, dd⟩
theorem d_setItem {H' : Hp} {Q : Unit → Shared → Prop} (hu : A.units + 1 < cLine) (I : Inv X pins σ H s) (g : DPut H a y v H') (ry : RelV y u) (rv : RelV v r) (h : ∀ s', Inv X pins σ H' s' → Q () s') :
    wpAny (model X.prog X.w) A (setItem (.ref a) u r) Q E s := by
  rcases g with ⟨kvs, k, e, ey, l, eH⟩ | ⟨kvs, k, b, e, ey, eb, l, eH⟩
  · subst ey eH
    obtain ⟨z, hd, vs, rel, dd⟩ := dk_of I.hok e
    have hz : vs.length ≤ sizeLine := by rw [← rel.length]; exact z
    have hl : (putK kvs k v).length ≤ sizeLine := by have := length_putK kvs k v; omega
    refine wpAny_setItem_pairs (hsz := hz) (kV_is ry) dd fun h' dd' hs => h _ ?_
    have he : ∃ q, h'.get? a = some q := let ⟨q, _, _, hq, _⟩ := dd'; ⟨q, hq⟩
    exact d_write I (by rw [e]; exact True.intro) hs he (dk_new hl hd (rel.put k rv) dd')
  · subst ey eH
    cases (show u = Value.ref b from ry)
    obtain ⟨z, hd, xs, rel, dd⟩ := dt_of I.hok e
    have hz : xs.length ≤ sizeLine := by rw [← Paired.length rel]; exact z
    have hl : (putK kvs k v).length ≤ sizeLine := by have := length_putK kvs k v; omega
    refine wpAny_setItem_heap (hsz := hz) (tupleKind_room_in1 hu) (key_of I.hok eb) dd fun h' dd' hs => h _ ?_
    obtain ⟨q, es, ep, hq, h2, h3, h4, _, h5⟩ := dd'
    refine d_write I (by rw [e]; exact True.intro) hs ⟨q, hq⟩ ⟨hl, hd, _, (rel.put k eb rv).keeps fun c ys ec => ?_, q, es, ep, hq, h2, h3, h4, h5⟩
    rw [upd_ne (ne_of ec e (fun z => nomatch z))]
    exact ec
end
section
variable {X : Cx} {pins : List (Addr × Obj)} {σ : St} {H : Hp} {s : Shared} {a : Addr} {kvs : List (Key × V)} {k : Key} {u : Value} {A : Around} {E : Value → Shared → Prop}
end
def NoSl (i : Expr) : Prop := ∀ ov iv, subscripted i false ov iv = operate [ov, iv] (getItem ov iv)
theorem subD_of {prog : Program} {w : World} {A : Around} {E : Value → Shared → Prop} {s : Shared} {env : Env} {value slice : Expr} {pos : Pos} {T id : String} {Q : Value → Shared → Prop}
    (hl : typeLookup (.type T) "__getitem__" = pure (some (.builtin id))) (hs : NoSl slice)
    (h : wpAny (model prog w) A (eval value env) (fun o s₁ => wpAny (model prog w) A (eval slice env) (fun i s₂ => s₂.TypeIs o T ∧ wpAny (model prog w) A (getItem o i) Q E s₂) E s₁) E s) :
    wpAny (model prog w) A (eval (.Subscript value slice pos) env) Q E s := by
  refine Subscript_ (wpAny_mono h (fun o s₁ h₁ => wpAny_mono h₁ (fun i s₂ h₂ => ?_) fun _ _ x => x) fun _ _ x => x)
  obtain ⟨hT, h₂⟩ := h₂
  unfold subscriptTail
  refine wpAny_bind ?_
  rw [getitemInPython_of_ne hT.not_modules]
  refine wpAny_bind (wpAny_specialOf hT hl ?_)
  have fin : wpAny (model prog w) A (subscripted slice false o i) (fun r s₃ => wpAny (model prog w) A (letTemporaryGo value o r >>= fun _ => pure r) Q E s₃) E s₂ := by
    rw [hs o i]
    exact wpAny_operating (wpAny_mono h₂ (fun r s₃ h₃ => wpAny_bind (wpAny_letTemporaryGo (wpAny_pure h₃))) fun _ _ x => x)
  first
    | exact wpAny_pure (wpAny_bind fin)
    | exact wpAny_bind (wpAny_pure (wpAny_bind fin))
    | exact wpAny_bind fin
theorem dict_typeIs {X : Cx} {pins : List (Addr × Obj)} {σ : St} {H : Hp} {s : Shared} {a : Addr} {y : V} {o : Option V} (I : Inv X pins σ H s) (g : DGet H a y o) : s.TypeIs (.ref a) "dict" := by
  rcases g with ⟨kvs, k, e, _, _⟩ | ⟨kvs, k, b, e, _, _, _⟩
  · obtain ⟨_, _, vs, _, dd⟩ := dk_rd I.hok e
    exact dd.typeIs
  · obtain ⟨_, _, xs, _, dd⟩ := dt_rd I.hok e
    exact dd.typeIs
def tDGet (td ty : TE) : TE := fun σ H Q => td σ H fun x H1 => ty σ H1 fun y H2 => ∃ a v, x = .ref a ∧ DGet H2 a y (some v) ∧ Q v H2
def tDIn (ty td : TE) : TE := fun σ H Q => ty σ H fun y H1 => td σ H1 fun x H2 => ∃ a o, x = .ref a ∧ DGet H2 a y o ∧ Q (.bl o.isSome) H2
def tDNotIn (ty td : TE) : TE := fun σ H Q => ty σ H fun y H1 => td σ H1 fun x H2 => ∃ a o, x = .ref a ∧ DGet H2 a y o ∧ Q (.bl (!o.isSome)) H2
def sDPut (td ty tv : TE) : TS := fun D σ H => tv σ H fun v H1 => td σ H1 fun x H2 => ty σ H2 fun y H3 => ∃ a H4, x = .ref a ∧ DPut H3 a y v H4 ∧ D.nx σ H4
section
variable {X : Cx} {o i e value : Expr} {pos pos' tpos : Pos} {td ty tv : TE}
theorem pe_dget (hu : X.A.units + 1 < cLine) (ho : PE X o td) (hi : PE X i ty) (hs : NoSl i) : PE X (.Subscript o i pos) (tDGet td ty) := by
  intro pins s σ H Q I h
  refine subD_of PySem.F.slot_dict_getitem.lookup hs (thn (ho pins s σ H _ I h) fun u s1 ⟨x, H1, I1, rx, q1⟩ => thn (hi pins s1 σ H1 _ I1 q1) fun iv s2 ⟨y, H2, I2, ry, a, v, ex, g, q2⟩ => ?_)
  subst ex
  obtain rfl : u = Value.ref a := rx
  exact ⟨dict_typeIs I2 g, d_getItem hu I2 g ry fun w' s3 I3 rw' => ⟨v, H2, I3, rw', q2⟩⟩
theorem pc_din (hu : X.A.units + 1 < cLine) (hi : PE X i ty) (ho : PE X o td) : PC X .In i o (tDIn ty td) := by
  intro pins s σ H Q I h
  refine thn (hi pins s σ H _ I h) fun iv s1 ⟨y, H1, I1, ry, q1⟩ => thn (ho pins s1 σ H1 _ I1 q1) fun u s2 ⟨x, H2, I2, rx, a, ov, ex, g, q2⟩ => ?_
  subst ex
  obtain rfl : u = Value.ref a := rx
  exact d_in hu I2 g ry fun s3 I3 => ⟨.bl ov.isSome, H2, I3, rfl, q2⟩
theorem pc_dnotin (hu : X.A.units + 1 < cLine) (hi : PE X i ty) (ho : PE X o td) : PC X .NotIn i o (tDNotIn ty td) := by
  intro pins s σ H Q I h
  refine thn (hi pins s σ H _ I h) fun iv s1 ⟨y, H1, I1, ry, q1⟩ => thn (ho pins s1 σ H1 _ I1 q1) fun u s2 ⟨x, H2, I2, rx, a, ov, ex, g, q2⟩ => ?_
  subst ex
  obtain rfl : u = Value.ref a := rx
  exact d_notIn hu I2 g ry fun s3 I3 => ⟨.bl (!ov.isSome), H2, I3, rfl, q2⟩
theorem ps_dput (hu : X.A.units + 1 < cLine) (ho : PE X o td) (hi : PE X i ty) (hv : PE X value tv) (hs : swapsWith value (some (.Subscript o i pos')) pos.line X.env = pure false) :
    PS X (.Assign [.Subscript o i pos'] value pos) (sDPut td ty tv) := by
  intro pins s σ H D I h
  refine wpAny_Assign_Subscript (thn (hv pins s σ H _ I h) fun r s1 ⟨v, H1, I1, rv, q1⟩ => thn (ho pins s1 σ H1 _ I1 q1) fun u s2 ⟨x, H2, I2, rx, q2⟩ => thn (hi pins s2 σ H2 _ I2 q2) fun iv s3 ⟨y, H3, I3, ry, a, H4, ex, g, q3⟩ => ?_) hs
  subst ex
  obtain rfl : u = Value.ref a := rx
  exact d_setItem hu I3 g ry rv fun s4 I4 => ⟨σ, H4, I4, q3⟩
end
theorem dk_empty {P : Program} {w : World} {H : Hp} (h : Heap) (hb : sysModules < h.objs.size) : ObjOk P w H (h.push { cls := .type "dict", data := .dict #[] }) h.objs.size (.dK []) :=
  ⟨Nat.zero_le _, beq_eq_false_iff_ne.mpr (Ne.symm (Nat.ne_of_lt hb)), [], .nil, Heap.DictOf.new h⟩
def tDNewK : TE := fun _ H Q => ∀ p, H p = none → Q (.ref p) (upd H p (.dK []))
section
variable {X : Cx} {pos : Pos}
theorem pe_dnewK : PE X (.Dict [] [] pos) tDNewK := fun pins s σ H Q I h =>
  wpAny_Dict_empty ⟨.ref s.heap.objs.size, _, I.laid (a := s.heap.objs.size) (o := .dK []) (t' := s.toks) (fun _ _ q => Heap.get?_push_of_some _ q) (Nat.le_refl _) (dk_empty s.heap I.big), rfl, h _ (I.hok.fresh (Nat.le_refl _))⟩
end
section
variable {X : Cx} {pins : List (Addr × Obj)} {σ : St} {H : Hp} {s : Shared} {a : Addr} {y d : V} {u r : Value} {o : Option V} {A : Around} {E : Value → Shared → Prop}
end
section
variable {X : Cx} {o e f : Expr} {apos cpos : Pos} {td ty tx : TE}
end
section
variable {X : Cx} {pins : List (Addr × Obj)} {σ : St} {H : Hp} {s : Shared} {a : Addr} {kvs : List (Key × V)} {A : Around} {E : Value → Shared → Prop}
end
section
variable {X : Cx} {pins : List (Addr × Obj)} {σ : St} {H : Hp} {s : Shared} {a : Addr} {y : V} {u : Value} {A : Around} {E : Value → Shared → Prop}
end
end L2
namespace L2
open PySem PySem.Spec PyProof.Rows
section
variable {X : Cx}
end
section
variable {κ : Type} [DecidableEq κ]
end
end L2

set_option maxHeartbeats 4000000
namespace L2
open PySem PySem.Spec PyProof.Rows
def cxComp (X : Cx) (scope : Scope) (cl : List (Str × Addr)) (C : Addr) (N : List Str) (fp : List Addr) (s₂ : Shared) (H₂ : Hp) : Cx where
  prog := X.prog
  w := X.w
  K := X.K
  mg := X.mg
  base := X.base
  A := X.A
  N := N
  s₀ := s₂
  H₀ := H₂
  env := compEnvC scope cl C X.env
  outer := X.stack
  stack := X.stack
  ex := fp
  fn := fun _ => false
  calm := X.calm
  pn := []
  xe := fun _ _ => False
theorem relabel_free {scope : Scope} {env : Env} {y : Str} (nc : ∀ z ∈ scope.names, z.2 ≠ .cell) (h : (relabel scope env).names.lookup y = some .cell ∨ (relabel scope env).names.lookup y = some .free) : scope.names.lookup y = some .free := by
  have key : ∀ (l : List (Str × NameKind)), (∀ z ∈ l, z.2 ≠ .cell) → ((l.map fun (n, k) => if (k == NameKind.free && env.scope.kind == .function && env.kindOf n == some .cell) then (n, NameKind.cell) else (n, k)).lookup y = some .cell ∨
      (l.map fun (n, k) => if (k == NameKind.free && env.scope.kind == .function && env.kindOf n == some .cell) then (n, NameKind.cell) else (n, k)).lookup y = some .free) → l.lookup y = some .free := by
    intro l
    induction l with
    | nil => intro _ h; rcases h with h | h <;> simp at h
    | cons p r ih =>
      obtain ⟨n, k⟩ := p
      intro hn h
      have hr := ih (fun z hz => hn z (List.mem_cons_of_mem _ hz))
      have hk : k ≠ .cell := hn (n, k) List.mem_cons_self
      by_cases hc : (k == NameKind.free && env.scope.kind == .function && env.kindOf n == some .cell) = true
      · have kf : k = .free := by
          rw [Bool.and_eq_true, Bool.and_eq_true] at hc
          exact eq_of_beq hc.1.1
        subst kf
        simp only [List.map_cons, if_pos hc] at h
        cases hx : y == n with
        | true => simp only [List.lookup_cons, hx]
        | false =>
          simp only [List.lookup_cons, hx] at h ⊢
          exact hr h
      · simp only [List.map_cons, if_neg hc] at h
        cases hx : y == n with
        | true =>
          simp only [List.lookup_cons, hx] at h ⊢
          rcases h with h | h
          · cases h; exact absurd rfl hk
          · exact h
        | false =>
          simp only [List.lookup_cons, hx] at h ⊢
          exact hr h
  exact key scope.names nc h
theorem free_relabel {scope : Scope} {env : Env} {y : Str} (h : scope.names.lookup y = some .free) : (relabel scope env).names.lookup y = some .cell ∨ (relabel scope env).names.lookup y = some .free := by
  have key : ∀ (l : List (Str × NameKind)), l.lookup y = some .free → ((l.map fun (n, k) => if (k == NameKind.free && env.scope.kind == .function && env.kindOf n == some .cell) then (n, NameKind.cell) else (n, k)).lookup y = some .cell ∨
      (l.map fun (n, k) => if (k == NameKind.free && env.scope.kind == .function && env.kindOf n == some .cell) then (n, NameKind.cell) else (n, k)).lookup y = some .free) := by
    intro l
    induction l with
    | nil => intro h; simp at h
    | cons p r ih =>
      obtain ⟨n, k⟩ := p
      intro h
      by_cases hc : (k == NameKind.free && env.scope.kind == .function && env.kindOf n == some .cell) = true
      · simp only [List.map_cons, if_pos hc]
        cases hx : y == n with
        | true => simp only [List.lookup_cons, hx]; exact .inl trivial
        | false =>
          simp only [List.lookup_cons, hx] at h ⊢
          exact ih h
      · simp only [List.map_cons, if_neg hc]
        cases hx : y == n with
        | true => simp only [List.lookup_cons, hx] at h ⊢; exact .inr h
        | false =>
          simp only [List.lookup_cons, hx] at h ⊢
          exact ih h
  exact key scope.names h
structure CompScope (X : Cx) (scope : Scope) (cl : List (Str × Addr)) (T : List Str) (caps : List Nat) (cn : List Str) : Prop where
  kind : scope.kind = .function
  clos : closureFor scope X.env = pure cl
  ncell : ∀ y ∈ scope.names, y.2 ≠ .cell
  names : ∀ y ∈ scope.names, y.2 = .local → scope.names.lookup y.1 = some .local
  sub : ∀ y c, cl.lookup y = some c → X.env.cells.lookup y = some c
  has : ∀ y, scope.names.lookup y = some .free → ∃ c, cl.lookup y = some c
  cap : Paired (fun (j : Nat) (y : Str) => X.N[j]? = some y ∧ (X.env.kindOf y = some .cell ∨ X.env.kindOf y = some .free) ∧ scope.names.lookup y = some .free) caps cn
def st0 (n : Nat) (caps : List Nat) (σ : St) : St := List.replicate n none ++ caps.map fun j => (σ[j]?).getD none
def Le (σ σ' : St) : Prop := σ.length = σ'.length ∧ ∀ (i : Nat) v, σ[i]? = some (some v) → σ'[i]? = some (some v)
theorem Le.one {r : St} {x : Option V} : Le (none :: r) (x :: r) := ⟨rfl, fun i v h => by
  cases i with
  | zero => simp at h
  | succ i => simpa using h⟩
def PTs (X : Cx) (ifs : List Expr) (t : TT) : Prop :=
  ∀ (pins : List (Addr × Obj)) (s : Shared) (σ : St) (H : Hp) (Q : Bool → Hp → Prop), Inv X pins σ H s → t σ H Q →
    wpAny (model X.prog X.w) X.A (forIn ifs true fun c r => if r = true then do let ok ← isTrue c X.env (eval c X.env); pure (ForInStep.yield ok) else pure (ForInStep.yield r)) (TP X pins σ Q) X.xe s
def tYes : TT := fun _ H Q => Q true H
theorem pts_nil {X : Cx} : PTs X [] tYes := fun pins s σ H Q I h => wpAny_tests_nil ⟨H, I, h⟩
theorem compLoop_all {prog : Program} {w : World} {A : Around} {R : Result → Shared → Prop} {s : Shared} {elt target iter : Expr} {ifs : List Expr} {scope : Scope} {pos : Pos} {it acc : Value} {env : Env} (I : Nat → Shared → Prop)
    (turn : ∀ n s, I n s → wpAny (model prog w) A (pyNext it) (fun r s₁ => match r with
      | none => R (.ok .next) s₁
      | some v => wpAny (model prog w) A (letOwnedTupleGo target it v) (fun _ s₀ => wpAny (model prog w) A (assign target env v) (fun _ s₂ =>
          wpAny (model prog w) A (forIn ifs true fun c r => if r = true then do let ok ← isTrue c env (eval c env); pure (ForInStep.yield ok) else pure (ForInStep.yield r)) (fun ok s₃ =>
            if ok = true then wpAny (model prog w) A (eval elt env) (fun x s₄ =>
              wpAny (model prog w) A (call (.builtin "list.append") [acc, x]) (fun _ s₅ => ∃ m, m < n ∧ I m s₅) (fun _ _ => False) s₄) (fun _ _ => False) s₃
            else ∃ m, m < n ∧ I m s₃) (fun _ _ => False) s₂) (fun _ _ => False) s₀) (fun _ _ => False) s₁) (fun _ _ => False) s)
    (n : Nat) (h : I n s) :
    codeAny (model prog w) A (.compLoop (.ListComp elt [⟨target, iter, ifs, 0⟩] scope pos) 0 it acc env) R s := by
  refine codeAny_loop rfl I (fun n s hI => ?_) n h
  show wpAny _ A ((compTurn (.ListComp elt [⟨target, iter, ifs, 0⟩] scope pos) 0 it acc env).onRaise (fun x => do noteFrame x env; theTreesLotGoes x)) _ _ s
  refine wpAny_noted ?_
  rw [compTurn_list]
  refine wpAny_bind (wpAny_standAt (wpAny_bind (wpAny_mono (turn n s hI) (fun r s₁ h₁ => ?_) fun _ _ h' => h'.elim)))
  cases r with
  | none => exact wpAny_pure h₁
  | some v =>
    refine wpAny_bind (wpAny_mono h₁ (fun _ s₀ h₀ => ?_) fun _ _ h' => h'.elim)
    refine wpAny_bind (wpAny_mono h₀ (fun _ s₂ h₂ => wpAny_bind (wpAny_mono h₂ (fun ok s₃ h₃ => ?_) fun _ _ h' => h'.elim)) fun _ _ h' => h'.elim)
    cases ok with
    | false => exact wpAny_pure ⟨rfl, h₃⟩
    | true =>
      exact wpAny_bind (wpAny_bind (wpAny_mono h₃ (fun x s₄ h₄ => wpAny_bind (wpAny_mono h₄ (fun _ s₅ h₅ => wpAny_pure (wpAny_pure ⟨rfl, h₅⟩)) fun _ _ h' => h'.elim)) fun _ _ h' => h'.elim))
section
variable {X : Cx} {scope : Scope} {cl : List (Str × Addr)} {T cn : List Str} {caps : List Nat} {pins : List (Addr × Obj)} {σ : St} {H2 : Hp} {s2 : Shared} {C : Addr} {h₁ : Heap} {tk : Nat} {fp : List Addr} {ix : Addr}
theorem comp_start (S : CompScope X scope cl T caps cn) (I2 : Inv X pins σ H2 s2) (f2 : ∀ b ∈ fp, FpOk X pins H2 b) (fo : ∀ b ∈ fp, b < s2.heap.objs.size)
    (hC : C = s2.heap.objs.size + 1) (old : ∀ b o, s2.heap.get? b = some o → h₁.get? b = some o) (hacc : ∃ n, h₁.get? s2.heap.objs.size = some { cls := .type "list", data := .seq #[] n }) (hns : h₁.Ns C fun _ => none) :
    Inv (cxComp X scope cl C (T ++ cn) fp s2 H2) [] (st0 T.length caps σ) (upd H2 s2.heap.objs.size (.lst [])) { s2 with heap := h₁, toks := tk } := by
  have hfr : H2 s2.heap.objs.size = none := I2.fresh
  have lt_of : ∀ y c, cl.lookup y = some c → c < s2.heap.objs.size := fun y c e => by
    obtain ⟨v, o, ho, _⟩ := I2.cell y c (S.sub y c e)
    exact Heap.lt_size ho
  refine ⟨⟨I2.ok.mod, S.kind, I2.ok.glob, I2.ok.blt, by show s2.heap.objs.size ≤ C; rw [hC]; exact Nat.le_succ _, fun y z c h1 h2 => I2.ok.inj y z c (S.sub y c h1) (S.sub z c h2), fun y hy => S.has y (relabel_free S.ncell hy), fun y c hf _ => (Bool.false_ne_true hf).elim,
    I2.ok.hd, I2.ok.frames, .inl rfl, fun b hb => ⟨?_, fun y c e => ?_⟩, I2.bs, Nat.le_trans I2.ok.bsz I2.sz, fun b o e hb => ?_, fun b hb hs => ?_, I2.stack, I2.stkFree⟩, rfl, I2.bare, Un.laid old (Nat.le_refl _) hfr, ⟨_, hns, fun i y v e1 e2 e3 => ?_⟩, fun y c e => ?_, ?_, fun y c e => ?_, fun p hp => ?_, I2.hok.laid old (Nat.le_refl _) ?_, ?_⟩
  · show b ≠ C
    rw [hC]
    exact Nat.ne_of_lt (Nat.lt_succ_of_lt (fo b hb))
  · exact (f2 b hb).2.2.2.2.1 y c (S.sub y c e)
  · have h0 := I2.ok.bs b o e
    rcases (f2 b hb).2.2.2.1 with z | z
    · exact I2.ok.noex b o e z
    · exact absurd (Nat.lt_of_lt_of_le (Heap.lt_size h0.1) z) (Nat.lt_irrefl _)
  · rcases List.mem_cons.mp (I2.stkSub b hs) with z | z
    · exact (f2 b hb).2.1 z
    · exact (f2 b hb).2.2.1 z
  · -- the slots
    have hT : T.length ≤ i := by
      by_cases hi : i < T.length
      · unfold st0 at e2
        rw [List.getElem?_append_left (by simpa using hi), List.getElem?_replicate] at e2
        split at e2 <;> cases e2
      · omega
    obtain ⟨k, rfl⟩ : ∃ k, i = T.length + k := ⟨i - T.length, by omega⟩
    have e1' : cn[k]? = some y := by
      have q : (T ++ cn)[T.length + k]? = some y := e1
      rw [List.getElem?_append_right (by omega)] at q
      simpa using q
    have e2' : (caps.map fun j => (σ[j]?).getD none)[k]? = some (some v) := by
      unfold st0 at e2
      rw [List.getElem?_append_right (by simp)] at e2
      simpa using e2
    have pr : ∀ {cs : List Nat} {ns : List Str} {k : Nat}, Paired (fun (j : Nat) (y : Str) => X.N[j]? = some y ∧ (X.env.kindOf y = some .cell ∨ X.env.kindOf y = some .free) ∧ scope.names.lookup y = some .free) cs ns →
        ns[k]? = some y → (cs.map fun j => (σ[j]?).getD none)[k]? = some (some v) → ∃ (j : Nat), X.N[j]? = some y ∧ (X.env.kindOf y = some .cell ∨ X.env.kindOf y = some .free) ∧ scope.names.lookup y = some .free ∧ σ[j]? = some (some v) := by
      intro cs ns k p
      induction p generalizing k with
      | nil => intro q; simp at q
      | cons a t ih =>
        rename_i j0 y0 l1 l2
        cases k with
        | zero =>
          intro q1 q2
          simp at q1 q2
          subst q1
          refine ⟨j0, a.1, a.2.1, a.2.2, ?_⟩
          cases e : σ[j0]? with
          | none => rw [e] at q2; simp at q2
          | some z => rw [e] at q2; simp at q2; rw [q2]
        | succ k => intro q1 q2; exact ih (by simpa using q1) (by simpa using q2)
    obtain ⟨j, n1, kd, fr, sv⟩ := pr S.cap e1' e2'
    obtain ⟨m, hn, hl⟩ := I2.loc
    obtain ⟨u, r, lk⟩ := hl j y v n1 sv (by rcases kd with z | z; exact .inr (.inl z); exact .inr (.inr z))
    refine ⟨u, r, .inr ⟨free_relabel fr, ?_⟩⟩
    obtain ⟨c, hc⟩ := S.has y fr
    rcases lk with ⟨z, _⟩ | ⟨_, c', hc', hcell⟩
    · rcases kd with q | q <;> (rw [z] at q; cases q)
    · have : c = c' := by
        have := S.sub y c hc
        rw [hc'] at this
        exact (Option.some.inj this).symm
      subst this
      obtain ⟨o, ho, hd⟩ := hcell
      exact ⟨c, hc, o, old c o ho, hd⟩
  · obtain ⟨v, o, ho, hd⟩ := I2.cell y c (S.sub y c e)
    exact ⟨v, o, old c o ho, hd⟩
  · show upd H2 s2.heap.objs.size (.lst []) C = none
    rw [upd_ne (by rw [hC]; exact Nat.succ_ne_self _)]
    exact I2.hok.fresh (by rw [hC]; exact Nat.le_succ _)
  · rw [upd_ne (Nat.ne_of_lt (lt_of y c e))]
    exact I2.freeC y c (S.sub y c e)
  · exact absurd (show p ∈ ([] : List (Addr × Obj)) from hp) (by simp)
  · obtain ⟨n, e⟩ := hacc
    exact ⟨Nat.zero_le _, [], n, .nil, e⟩
  · have hp : ∀ {cs : List Nat} {ns : List Str} {F : Nat → Str → Prop}, Paired F cs ns → cs.length = ns.length := fun p => Paired.length p
    show (st0 T.length caps σ).length = (T ++ cn).length
    unfold st0
    rw [List.length_append, List.length_replicate, List.length_map, List.length_append, hp S.cap]
theorem comp_end (I2 : Inv X pins σ H2 s2) (f2 : ∀ b ∈ fp, FpOk X pins H2 b) (hC : s2.heap.objs.size ≤ C) {N : List Str} {σ' : St} {H' : Hp} {s' : Shared} (J : Inv (cxComp X scope cl C N fp s2 H2) [] σ' H' s') :
    ∃ oC m, s'.heap.get? C = some oC ∧ s'.heap.Ns C m ∧ Inv X (pins ++ [(C, oC)]) σ H' s' ∧ FpOk X pins H' C := by
  obtain ⟨m, hn, _⟩ := J.loc
  obtain ⟨oC, es, ep, ho, hd, hrest⟩ := id hn
  have I3 : Inv X pins σ H' s' := I2.call' (ch := fp) J.os J.base J.hok J.bare fun b hb => ⟨(f2 b hb).2.2.2.1, (f2 b hb).2.1, (f2 b hb).2.2.2.2.1, (f2 b hb).2.2.2.2.2⟩
  have fC : FpOk X pins H' C := I2.fpOk hC J.free
  refine ⟨oC, m, ho, hn, I3.pins_of fun p hp => ?_, fC⟩
  rcases List.mem_append.mp hp with z | z
  · exact I3.pin p (List.mem_append_right _ z)
  · have e : p = (C, oC) := by simpa using z
    subst e
    exact ⟨ho, fC.1, fC.2.1, fC.2.2.1, fun v q => by rw [hd] at q; cases q⟩
end
def CompW (J : It) (D : Addr) (H1 : Hp) (σ0 : St) (g : TG) (tt : TT) (te : TE) (Q : VK) : Prop := ∃ W : Nat → Nat → List V → Hp → Prop, (∃ m, W 0 m [] (upd H1 D (.lst []))) ∧
  ∀ i m ys H, W i m ys H → H D = some (.lst ys) ∧ ((J.stop i H ∧ Q (.ref D) H) ∨ (J.go i H ∧ ∀ x H', J.yld i H x H' → g x σ0 H' fun σ2 H2 => Le σ0 σ2 ∧ tt σ2 H2 fun b H3 =>
    if b = true then te σ2 H3 fun y H4 => H4 D = some (.lst ys) ∧ ys.length < sizeLine ∧ ∃ m', m' < m ∧ W (i + 1) m' (ys ++ [y]) (upd H4 D (.lst (ys ++ [y]))) else ∃ m', m' < m ∧ W (i + 1) m' ys H3))
def rComp (n : Nat) (caps : List Nat) (wi : TI) (g : TG) (tt : TT) (te : TE) : TE := fun σ H Q => wi σ H fun J H1 => ∀ D, H1 D = none → CompW J D H1 (st0 n caps σ) g tt te Q
section
variable {X : Cx} {scope : Scope} {cl : List (Str × Addr)} {T cn : List Str} {caps : List Nat} {elt tg iter : Expr} {ifs : List Expr} {wi : TI} {g : TG} {tt : TT} {te : TE} {pos : Pos}
theorem comp_block (S : CompScope X scope cl T caps cn) (hc : X.calm = true) (hg : ∀ C fp s₂ H₂, PG (cxComp X scope cl C (T ++ cn) fp s₂ H₂) tg g) (ht : ∀ C fp s₂ H₂, PTs (cxComp X scope cl C (T ++ cn) fp s₂ H₂) ifs tt)
    (he : ∀ C fp s₂ H₂, PE (cxComp X scope cl C (T ++ cn) fp s₂ H₂) elt te) {pins : List (Addr × Obj)} {σ : St} {H2 : Hp} {s2 : Shared} {it : Addr} {fp : List Addr} {tn : Nat → Heap → Prop} {J : It} {E : Value → Shared → Prop} {Q : VK}
    {RR : Value → Addr → Result → Shared → Prop} (I2 : Inv X pins σ H2 s2) (Tn : Turn X.prog X.w X.K tg J fp it tn) (st2 : tn 0 s2.heap) (f2 : ∀ b ∈ fp, FpOk X pins H2 b)
    (q : ∀ D, H2 D = none → CompW J D H2 (st0 T.length caps σ) g tt te Q)
    (fin : ∀ D C oC m H' s', Inv X (pins ++ [(C, oC)]) σ H' s' → s'.heap.get? C = some oC → s'.heap.Ns C m → FpOk X pins H' C → Q (.ref D) H' → RR (.ref D) C (.ok .next) s') :
    wpAny (model X.prog X.w) X.A (newList []) (fun acc s₃ => wpAny (model X.prog X.w) X.A (newFunctionEnv scope X.env.globals cl [] X.env.qual none .none (some X.env)) (fun cenv s₄ =>
      codeAny (model X.prog X.w) X.A (.compStart (.ListComp elt [⟨tg, iter, ifs, 0⟩] scope pos) 0 (.ref it) acc { cenv with scope := relabel scope X.env }) (RR acc cenv.locals) s₄) E s₃) E s2 := by
  refine wpAny_newObj_type (wpAny_newFunctionEnv S.ncell (by intro y hy; simp at hy) (fun h₁ hns₁ hsb₁ => ?_) S.kind)
  dsimp only at hns₁ hsb₁ ⊢
  generalize hH2 : s2.heap.push { cls := .type "list", dict := none, data := .seq ([] : List Value).toArray } = G2 at hns₁ hsb₁ ⊢
  have hC : G2.objs.size = s2.heap.objs.size + 1 := by rw [← hH2, Heap.size_push]
  have hDC : s2.heap.objs.size ≠ G2.objs.size := by omega
  have old : ∀ b o, s2.heap.get? b = some o → h₁.get? b = some o := fun b o e => hsb₁.extBut b o (by rw [hC]; exact Nat.ne_of_lt (Nat.lt_succ_of_lt (Heap.lt_size e))) (Heap.get?_push_of_some _ (hH2 ▸ Heap.get?_push_of_some _ e))
  have hacc : ∃ n, h₁.get? s2.heap.objs.size = some { cls := .type "list", data := .seq #[] n } := ⟨_, hsb₁.extBut _ _ hDC (Heap.get?_push_of_some _ (hH2 ▸ Heap.get?_push_size _ rfl))⟩
  have fo : ∀ b ∈ fp, b < s2.heap.objs.size := fun b hb => by
    obtain ⟨o, e, _⟩ := Tn.obj 0 _ st2 b hb
    exact Heap.lt_size e
  obtain ⟨W, ⟨m0, w0⟩, turn⟩ := q s2.heap.objs.size I2.fresh
  have st1 : tn 0 h₁ := Tn.keep 0 _ _ st2 fun b hb o e => old b o e
  have fr0 : ∀ b ∈ fp, upd H2 s2.heap.objs.size (.lst []) b = none := fun b hb => by rw [upd_ne (Nat.ne_of_lt (fo b hb))]; exact (f2 b hb).1
  have loop : ∀ s₃ : Shared, s₃ = { s2 with heap := h₁, toks := s2.toks + ([] : List (Str × Value)).length } →
      codeAny (model X.prog X.w) X.A (.compLoop (.ListComp elt [⟨tg, iter, ifs, 0⟩] scope pos) 0 (.ref it) (.ref s2.heap.objs.size) (compEnvC scope cl G2.objs.size X.env)) (RR (.ref s2.heap.objs.size) G2.objs.size) s₃ := by
    intro s₃ hs3
    have I0 : Inv (cxComp X scope cl G2.objs.size (T ++ cn) fp s2 H2) [] (st0 T.length caps σ) (upd H2 s2.heap.objs.size (.lst [])) s₃ := by
      rw [hs3]
      exact comp_start S I2 f2 fo hC old hacc (by simpa using hns₁)
    have st3 : tn 0 s₃.heap := by rw [hs3]; exact st1
    have stat : ∀ {H' : Hp}, (∀ b ∈ fp, H' b = none) → ∀ b ∈ fp, FpOk (cxComp X scope cl G2.objs.size (T ++ cn) fp s2 H2) [] H' b := fun {H'} hn b hb => by
      refine ⟨hn b hb, ?_, fun hs => ?_, .inl hb, fun y c e => (f2 b hb).2.2.2.2.1 y c (S.sub y c e), fun p hp => absurd (show p ∈ ([] : List (Addr × Obj)) from hp) (by simp)⟩
      · show b ≠ G2.objs.size
        rw [hC]
        exact Nat.ne_of_lt (Nat.lt_succ_of_lt (fo b hb))
      · rcases List.mem_cons.mp (I2.stkSub b hs) with z | z
        · exact (f2 b hb).2.1 z
        · exact (f2 b hb).2.2.1 z
    refine compLoop_all (fun n s' => ∃ i ys H', Inv (cxComp X scope cl G2.objs.size (T ++ cn) fp s2 H2) [] (st0 T.length caps σ) H' s' ∧ tn i s'.heap ∧ (∀ b ∈ fp, H' b = none) ∧ W i n ys H') ?_ m0 ⟨0, [], _, I0, st3, fr0, w0⟩
    rintro n s4 ⟨i, ys, H4, I4, st4, fr4, w4⟩
    obtain ⟨hD, tr⟩ := turn i n ys H4 w4
    rcases tr with ⟨stop, qn⟩ | ⟨go, step⟩
    · refine thn (Tn.done (cxComp X scope cl G2.objs.size (T ++ cn) fp s2 H2) rfl rfl rfl hc i [] s4 (st0 T.length caps σ) H4 (fun _ _ => False) I4 (stat fr4) st4 stop) fun r s5 ⟨hr, I5⟩ => ?_
      subst hr
      obtain ⟨oC, m, a1, a2, a3, a4⟩ := comp_end I2 f2 (by omega) I5
      exact fin _ _ oC m H4 s5 a3 a1 a2 a4 qn
    · refine thn (Tn.item (cxComp X scope cl G2.objs.size (T ++ cn) fp s2 H2) rfl rfl rfl hc i [] s4 (st0 T.length caps σ) H4 (fun _ _ => False) I4 (stat fr4) st4 go) fun r s5 ⟨u, hr, h5⟩ => ?_
      subst hr
      refine thn h5 fun _ s6 ⟨x, H6, I6, r6, y6, st6, fr6⟩ => ?_
      have I6' := I6.pinned (stat fr6) (Tn.obj _ _ st6)
      refine thn (hg _ fp s2 H2 _ s6 _ H6 x u _ I6' r6 (step x H6 y6)) fun _ s7 ⟨σ7, H7, I7, le7, q7⟩ => ?_
      have again : ∀ {σ8 : St} {H8 : Hp} {s8 : Shared} {zs : List V} {m' : Nat}, Le (st0 T.length caps σ) σ8 → Inv (cxComp X scope cl G2.objs.size (T ++ cn) fp s2 H2) ([] ++ pinsAt fp s6.heap) σ8 H8 s8 → m' < n → W (i + 1) m' zs H8 →
          ∃ m, m < n ∧ ∃ i ys H', Inv (cxComp X scope cl G2.objs.size (T ++ cn) fp s2 H2) [] (st0 T.length caps σ) H' s8 ∧ tn i s8.heap ∧ (∀ b ∈ fp, H' b = none) ∧ W i m ys H' := fun {σ8 H8 s8 zs m'} le I8 hm w8 => by
        refine ⟨m', hm, i + 1, zs, H8, I8.unpinned.weak le.1 le.2, Tn.keep _ _ _ st6 fun b hb o e => (I8.pin (b, o) (List.mem_append_right _ (List.mem_append_right _ (mem_pinsAt hb e)))).1, fun b hb => ?_, w8⟩
        obtain ⟨o, e, d⟩ := Tn.obj _ _ st6 b hb
        exact (I8.pin (b, o) (List.mem_append_right _ (List.mem_append_right _ (mem_pinsAt hb e)))).2.1
      refine thn (ht _ fp s2 H2 _ s7 σ7 H7 _ I7 q7) fun ok s8 ⟨H8, I8, q8⟩ => ?_
      cases ok with
      | false =>
        rw [if_neg Bool.false_ne_true] at q8 ⊢
        obtain ⟨m', hm, w8⟩ := q8
        exact again le7 I8 hm w8
      | true =>
        rw [if_pos rfl] at q8 ⊢
        refine thn (he _ fp s2 H2 _ s8 σ7 H8 _ I8 q8) fun v9 s9 ⟨y, H9, I9, r9, hD9, hz9, m', hm, w9⟩ => ?_
        refine thn (mt_append _ s9 σ7 H9 (.ref s2.heap.objs.size) [y] (.ref s2.heap.objs.size) [v9] (fun _ H => H = upd H9 s2.heap.objs.size (.lst (ys ++ [y]))) I9 rfl (.cons r9 .nil) ⟨_, ys, y, rfl, rfl, hD9, hz9, rfl⟩) fun _ s10 ⟨_, H10, I10, _, e10⟩ => ?_
        subst e10
        exact again le7 I10 hm w9
  exact codeAny_compStart_list (loop _ rfl) (Tn.self X.A 0 _ _ _ st1 (loop _ rfl))
theorem pe_comp (S : CompScope X scope cl T caps cn) (hc : X.calm = true) (hi : PI X tg iter wi) (hg : ∀ C fp s₂ H₂, PG (cxComp X scope cl C (T ++ cn) fp s₂ H₂) tg g) (ht : ∀ C fp s₂ H₂, PTs (cxComp X scope cl C (T ++ cn) fp s₂ H₂) ifs tt)
    (he : ∀ C fp s₂ H₂, PE (cxComp X scope cl C (T ++ cn) fp s₂ H₂) elt te) (hs : ∀ x, foldedSetIterable iter X.env x = pure x := by intro _; rfl) :
    PE X (.ListComp elt [⟨tg, iter, ifs, 0⟩] scope pos) (rComp T.length caps wi g tt te) := by
  intro pins s σ H Q I h
  rw [eval_ListComp]
  refine wpAny_comprehension_free (use := none) rfl hs S.clos S.kind S.names (thn (hi pins s σ H _ I h) fun v s1 h1 => thn h1 fun itv s2 h2 => ?_)
  obtain ⟨it, fp, tn, J, H2, e, I2, Tn, st2, f2, q⟩ := h2
  subst e
  refine comp_block (RR := fun acc C => compPost (model X.prog X.w) X.A X.xe none (EP X pins σ Q) acc C) S hc hg ht he I2 Tn st2 f2 q fun D C oC m H' s' I' ho hn fC qD => ?_
  refine ⟨m, hn, fun h' hs' => ⟨.ref D, H', ?_, rfl, qD⟩⟩
  obtain ⟨hp, g, d, t, os⟩ := s'
  exact I'.unpinned.turned (fun b o hb e => (hs'.2 b hb).trans e) fC.1 fC.2.1 fC.2.2.2.1 fC.2.2.2.2.1 fC.2.2.2.2.2
def sComp (i : Nat) (t : TE) : TS := fun D σ H => t σ H fun x H1 => D.nx (σ.set i (some x)) H1
theorem ps_comp {i : Nat} {y : Str} {py spos : Pos} (hN : X.N.Nodup) (hi' : X.N[i]? = some y) (hy : Loc X.env.scope y) (S : CompScope X scope cl T caps cn) (hc : X.calm = true) (hi : PI X tg iter wi)
    (hg : ∀ C fp s₂ H₂, PG (cxComp X scope cl C (T ++ cn) fp s₂ H₂) tg g) (ht : ∀ C fp s₂ H₂, PTs (cxComp X scope cl C (T ++ cn) fp s₂ H₂) ifs tt)
    (he : ∀ C fp s₂ H₂, PE (cxComp X scope cl C (T ++ cn) fp s₂ H₂) elt te) (hsw : swapsWith (.ListComp elt [⟨tg, iter, ifs, 0⟩] scope pos) (some (.Name y py)) spos.line X.env = pure true := by rfl)
    (hf : X.fn y = true ∨ X.env.scope.names.lookup y = some .local := by first | exact .inl rfl | exact .inr rfl | assumption)
    (hs : ∀ x, foldedSetIterable iter X.env x = pure x := by intro _; rfl) :
    PS X (.Assign [.Name y py] (.ListComp elt [⟨tg, iter, ifs, 0⟩] scope pos) spos) (sComp i (rComp T.length caps wi g tt te)) := by
  intro pins s σ H D I h
  rw [exec_Assign_Name_used _ _ _ _ hsw]
  refine wpAny_bind (wpAny_standAt (wpAny_bind ?_))
  show wpAny _ X.A (do let _ ← comprehension (.ListComp elt [⟨tg, iter, ifs, 0⟩] scope pos) scope X.env _ (newList []) false (eval iter X.env) (some (assign (.Name y py) X.env))) _ _ s
  refine wpAny_bind (wpAny_mono (wpAny_comprehension_free (use := some (assign (.Name y py) X.env)) (Q := fun _ s' => SP X pins D .next s') rfl hs S.clos S.kind S.names
    (thn (hi pins s σ H _ I h) fun v s1 h1 => thn h1 fun itv s2 h2 => ?_)) (fun _ s' hq => wpAny_pure (wpAny_pure hq)) fun _ _ e => e)
  obtain ⟨it, fp, tn, J, H2, e, I2, Tn, st2, f2, q⟩ := h2
  subst e
  refine comp_block (Q := fun x H1 => D.nx (σ.set i (some x)) H1) (RR := fun acc C => compPost (model X.prog X.w) X.A X.xe (some (assign (.Name y py) X.env)) (fun _ s' => SP X pins D .next s') acc C) S hc hg ht he I2 Tn st2 f2 q fun Dd C oC m H' s' I' ho hn fC qD => ?_
  show wpAny _ X.A (assign (.Name y py) X.env (.ref Dd)) _ _ s'
  refine thn (pg_name (i := i) hN hi' hy hf (pins ++ [(C, oC)]) s' σ H' (.ref Dd) (.ref Dd) (fun σ' H1 => σ' = σ.set i (some (.ref Dd)) ∧ H1 = H') I' rfl ⟨rfl, rfl⟩) fun _ s'' ⟨σ'', H'', I'', e1, e2⟩ => ?_
  subst e1 e2
  have hoC : s''.heap.get? C = some oC := (I''.pin (C, oC) (List.mem_append_right _ (List.mem_append_right _ (List.mem_singleton.mpr rfl)))).1
  obtain ⟨oC', es, ep, ho', r⟩ := hn
  rw [ho] at ho'
  cases ho'
  refine ⟨m, ⟨oC, es, ep, hoC, r⟩, fun h' hs' => ⟨σ.set i (some (.ref Dd)), H'', ?_, qD⟩⟩
  obtain ⟨hp, g, d, t, os⟩ := s''
  exact I''.unpinned.turned (fun b o hb e => (hs'.2 b hb).trans e) fC.1 fC.2.1 fC.2.2.2.1 fC.2.2.2.2.1 fC.2.2.2.2.2
end
end L2

set_option maxHeartbeats 4000000
namespace L2
open PySem PySem.Spec PyProof.Rows
section
variable {X : Cx}
theorem op_is_bl : OpR X (compareOp .Is) (fun x y H Q => ∃ a b, x = .bl a ∧ y = .bl b ∧ Q (.bl (a == b)) H) := by
  intro pins s σ H x y v u Q I rx ry h
  obtain ⟨a, b, rfl, rfl, q⟩ := h
  cases rx
  cases ry
  exact is_bool (fin_bl I q rfl)
theorem op_isnot_bl : OpR X (compareOp .IsNot) (fun x y H Q => ∃ a b, x = .bl a ∧ y = .bl b ∧ Q (.bl (a != b)) H) := by
  intro pins s σ H x y v u Q I rx ry h
  obtain ⟨a, b, rfl, rfl, q⟩ := h
  cases rx
  cases ry
  exact isnot_bool (fin_bl I q rfl)
theorem op_mulB : OpR X (binaryOp .Mult) (rI IntMulOk fun i j => .int (i * j)) := opI fun _ _ _ _ _ _ _ hc q => mul_int q hc
end
mutual
inductive DatV (K : PySem.W.Frag) (H : Hp) : V → PyData → Prop
  | non : DatV K H .non .none
  | bl (b : Bool) : DatV K H (.bl b) (.bool b)
  | int (i : Int) : DatV K H (.int i) (.int i)
  | str (x : Str) : DatV K H (.str x) (.str x)
  | lst {a : Addr} {xs : List V} {ds : List PyData} : SqL K H a xs → DatVs K H xs ds → DatV K H (.ref a) (.list ds)
  | tup {a : Addr} {xs : List V} {ds : List PyData} : SqT K H a xs → DatVs K H xs ds → DatV K H (.ref a) (.tuple ds)
inductive DatVs (K : PySem.W.Frag) (H : Hp) : List V → List PyData → Prop
  | nil : DatVs K H [] []
  | cons {x : V} {d : PyData} {xs : List V} {ds : List PyData} : DatV K H x d → DatVs K H xs ds → DatVs K H (x :: xs) (d :: ds)
end
theorem IsTup.of_get {h : Heap} {a : Addr} {its : Array Value} (p : IsTup h a its) : ∃ o n, h.get? a = some o ∧ o.cls = .type "tuple" ∧ o.data = .seq its n := by
  obtain ⟨o, h1, h2, n, h3⟩ := p
  exact ⟨o, n, h1, h2, h3⟩
mutual
theorem DatV.reads {X : Cx} {pins : List (Addr × Obj)} {σ : St} {H : Hp} {s : Shared} (I : Inv X pins σ H s) : ∀ {v : V} {d : PyData} {u : Value}, DatV X.K H v d → RelV v u → ∃ as, Reads s.heap u d as
  | _, _, u, .non, r => by cases (show u = Value.none from r); exact ⟨_, .none⟩
  | _, _, u, .bl b, r => by cases (show u = Value.bool b from r); exact ⟨_, .bool b⟩
  | _, _, u, .int i, r => by obtain ⟨t, q⟩ := (show ∃ t, u = Value.int i t from r); cases q; exact ⟨_, .int i t⟩
  | _, _, u, .str x, r => by obtain ⟨t, q⟩ := (show ∃ t, u = Value.str x t from r); cases q; exact ⟨_, .str x t⟩
  | _, _, u, @DatV.lst _ _ a xs ds h1 h2, r => by
    cases (show u = Value.ref a from r)
    obtain ⟨its, rv, pl, _⟩ := I.list h1
    obtain ⟨as, q⟩ := DatVs.reads I h2 rv
    obtain ⟨o, n, e1, e2, _, e3⟩ := pl
    exact ⟨_, reads_list_at e1 e2 e3 (by simpa using q)⟩
  | _, _, u, @DatV.tup _ _ a xs ds h1 h2, r => by
    cases (show u = Value.ref a from r)
    obtain ⟨its, rv, pl, _⟩ := I.tuple h1
    obtain ⟨as, q⟩ := DatVs.reads I h2 rv
    obtain ⟨o, n, e1, e2, e3⟩ := IsTup.of_get pl
    exact ⟨_, reads_tuple_at e1 e2 e3 (by simpa using q)⟩
theorem DatVs.reads {X : Cx} {pins : List (Addr × Obj)} {σ : St} {H : Hp} {s : Shared} (I : Inv X pins σ H s) : ∀ {vs : List V} {ds : List PyData} {us : List Value}, DatVs X.K H vs ds → Vals vs us → ∃ as, ReadsAll s.heap us ds as
  | _, _, us, .nil, r => by cases r; exact ⟨_, .nil⟩
  | _, _, us, .cons h1 h2, r => by
    cases r with
    | cons r1 r2 =>
      obtain ⟨as, q⟩ := DatV.reads I h1 r1
      obtain ⟨bs, p⟩ := DatVs.reads I h2 r2
      exact ⟨_, .cons q p⟩
end
def rEqD (K : PySem.W.Frag) (neg : Bool) : R2 := fun x y H Q => ∃ d e, DatV K H x d ∧ DatV K H y e ∧ SeqAt.shaped d = true ∧ SeqAt.shaped e = true ∧ Q (.bl (if neg then !PyData.eqv d e else PyData.eqv d e)) H
section
variable {X : Cx}
theorem op_eqD (hu : X.A.units + 64 < cLine) : OpR X (compareOp .Eq) (rEqD X.K false) := by
  intro pins s σ H x y v u Q I rx ry h
  obtain ⟨d, e, hx, hy, sx, sy, q⟩ := h
  obtain ⟨as, p1⟩ := hx.reads I rx
  obtain ⟨bs, p2⟩ := hy.reads I ry
  exact eq_dataH p1 p2 sx sy hu ⟨.bl _, H, I, rfl, q⟩
theorem bools_get {bs : List Bool} : ∀ {us : List Value}, Vals (bs.map V.bl) us → ∀ (i : Nat) (v : Value), us[i]? = some v → ∃ b, bs[i]? = some b ∧ v = .bool b := by
  intro us r i v e
  have hl := r.length
  rw [List.length_map] at hl
  have hi : i < us.length := (List.getElem?_eq_some_iff.mp e).1
  have hb : bs[i]? = some bs[i] := List.getElem?_eq_getElem (by omega)
  obtain ⟨u, h1, h2⟩ := r.get (i := i) (x := V.bl bs[i]) (by rw [List.getElem?_map, hb]; rfl)
  rw [e] at h1
  cases h1
  exact ⟨_, hb, h2⟩
theorem range_allB (bs : List Bool) : ((List.range bs.length).all fun i => (bs[i]?).getD true) = bs.all id := PyProof.Rows.LSm.range_all bs
theorem call_all : CallR X (.builtin "all") (fun xs H Q => ∃ (p : Addr) (bs : List Bool), xs = [.ref p] ∧ X.A.handled = none ∧ SqL X.K H p (bs.map V.bl) ∧ Q (.bl (bs.all id)) H) := by
  intro pins s σ H xs us Q I r h
  obtain ⟨p, bs, rfl, hh, hS, q⟩ := h
  obtain ⟨u, rfl, ru⟩ := vals1 r
  cases (show u = Value.ref p from ru)
  obtain ⟨its, rv, pl, _⟩ := I.list hS
  have hl := pl.isList
  have hlt : p < s.heap.objs.size := pl.lt
  have hb := bools_get rv
  have hlen : its.length = bs.length := by have := rv.length; rw [List.length_map] at this; exact this.symm
  refine call_all_walk (wpAny_pyIter_list hl ?_)
  refine ⟨s.heap.objs.size, [s.heap.objs.size, p], [s.heap.objs.size], its.toArray.size, _, _, fun i => (bs[i]?).getD true, rfl, Walks.list (A := X.A.in1) hh _ p (Nat.ne_of_lt hlt) its.toArray,
    ⟨⟨_, Heap.get?_push_size _ rfl, rfl, rfl⟩, hl.push _⟩, fun i v s' Q' E' hP hQ => ?_, fun h' tk hk => ?_⟩
  · obtain ⟨b, e, rfl⟩ := hb i v (by simpa using hP)
    simp only [e, Option.getD_some] at hQ
    exact wpAny_truthy_bool hQ
  · have e : ((List.range its.toArray.size).all fun i => (bs[i]?).getD true) = bs.all id := by
      rw [List.size_toArray, hlen]; exact range_allB bs
    rw [e]
    exact ⟨.bl (bs.all id), H, I.kept (PyProof.Rows.LSm.kept_iter hk), rfl, q⟩
end
end L2
namespace L2
open PySem PySem.Spec PyProof.Rows
section
variable {X : Cx} {a b c : Expr} {ta tb : TE} {pos : Pos} {k : Int} {op op' : CmpOp} {p p' : Int → Int → Bool}
end
theorem same_upd {H : Hp} {p : Addr} {o : HO} (h : H p = none) : Same H (upd H p o) := fun b u e => by
  rw [upd_ne (ne_of_none e h)]
  exact e
theorem PE.imp {X : Cx} {e : Expr} {t t' : TE} (h : PE X e t) (f : ∀ σ H Q, t' σ H Q → t σ H Q) : PE X e t' := fun pins s σ H Q I q => h pins s σ H Q I (f σ H Q q)
end L2

set_option maxHeartbeats 4000000
namespace L2
open PySem PySem.Spec PyProof.Rows
def Its (x : Str) : It := ⟨fun i _ => i < x.cps.size, fun i H v H' => H' = H ∧ ∃ c, x.cps[i]? = some c ∧ v = .str ⟨#[c]⟩, fun i _ => x.cps.size ≤ i⟩
theorem turn_strA {P : Program} {w : World} {K : PySem.W.Frag} {tg : Expr} (x : Str) (t : Tok) (it : Addr) : Turn P w K tg (Its x) [it] it (fun i h => h.IsStrIter it "str_ascii_iterator" x t i) where
  mem := by simp
  obj := fun i h st b hb => by
    have e : b = it := by simpa using hb
    subst e
    obtain ⟨o, e, c, d⟩ := st
    exact ⟨o, e, fun v z => by rw [d] at z; cases z⟩
  keep := fun i h h' st k => by
    obtain ⟨o, e, r⟩ := st
    exact ⟨o, k it (by simp) o e, r⟩
  item := by
    intro X hP hw hK hc i pins s σ H E I hf st hg
    subst hP hw hK
    obtain ⟨f0, f1, f2, f3, f4, f5⟩ := hf it (by simp)
    have hi : i < x.cps.size := hg
    refine wpAny_pyNext_ascii_item st (c := x.cps[i]) (by simp [hi]) fun h' st' sb => ?_
    have I1 : Inv X pins σ H { s with heap := h', toks := s.toks + 1 } := I.turned (fun b o hb e => (sb.2 b hb).trans e) f0 f1 f3 f4 f5
    obtain ⟨o, e, c, d⟩ := id st'
    exact ⟨_, rfl, go_of (s := { s with heap := h', toks := s.toks + 1 }) e c d (by decide) ⟨.str ⟨#[x.cps[i]]⟩, H, I1, ⟨_, rfl⟩, ⟨rfl, _, by simp [hi], rfl⟩, st', fun b hb => (hf b hb).1⟩⟩
  done := by
    intro X hP hw hK hc i pins s σ H E I hf st hg
    subst hP hw hK
    obtain ⟨f0, f1, f2, f3, f4, f5⟩ := hf it (by simp)
    have hi : x.cps.size ≤ i := hg
    exact wpAny_pyNext_ascii_end (I.ok.hd hc) st (by simp [hi]) fun h' eb => ⟨rfl, I.turned (t' := s.toks) (fun b o hb e => eb b o hb e) f0 f1 f3 f4 f5⟩
  self := fun _ _ _ _ _ st h => wpAny_pyIter_striter_ascii st h
theorem turn_strW {P : Program} {w : World} {K : PySem.W.Frag} {tg : Expr} (x : Str) (t : Tok) (it : Addr) : Turn P w K tg (Its x) [it] it (fun i h => h.IsStrIter it "str_iterator" x t i) where
  mem := by simp
  obj := fun i h st b hb => by
    have e : b = it := by simpa using hb
    subst e
    obtain ⟨o, e, c, d⟩ := st
    exact ⟨o, e, fun v z => by rw [d] at z; cases z⟩
  keep := fun i h h' st k => by
    obtain ⟨o, e, r⟩ := st
    exact ⟨o, k it (by simp) o e, r⟩
  item := by
    intro X hP hw hK hc i pins s σ H E I hf st hg
    subst hP hw hK
    obtain ⟨f0, f1, f2, f3, f4, f5⟩ := hf it (by simp)
    have hi : i < x.cps.size := hg
    refine wpAny_pyNext_wide_item st (c := x.cps[i]) (by simp [hi]) fun h' st' sb => ?_
    have I1 : Inv X pins σ H { s with heap := h', toks := s.toks + 1 } := I.turned (fun b o hb e => (sb.2 b hb).trans e) f0 f1 f3 f4 f5
    obtain ⟨o, e, c, d⟩ := id st'
    exact ⟨_, rfl, go_of (s := { s with heap := h', toks := s.toks + 1 }) e c d (by decide) ⟨.str ⟨#[x.cps[i]]⟩, H, I1, ⟨_, rfl⟩, ⟨rfl, _, by simp [hi], rfl⟩, st', fun b hb => (hf b hb).1⟩⟩
  done := by
    intro X hP hw hK hc i pins s σ H E I hf st hg
    subst hP hw hK
    obtain ⟨f0, f1, f2, f3, f4, f5⟩ := hf it (by simp)
    have hi : x.cps.size ≤ i := hg
    exact wpAny_pyNext_wide_end (I.ok.hd hc) st (by simp [hi]) fun h' eb => ⟨rfl, I.turned (t' := s.toks) (fun b o hb e => eb b o hb e) f0 f1 f3 f4 f5⟩
  self := fun _ _ _ _ _ st h => wpAny_pyIter_striter_wide st h
section
variable {X : Cx} {tg : Expr}
end
theorem vals_strs : ∀ l : List (Str × Tok), Vals ((l.map (·.1)).map V.str) (strValues l)
  | [] => .nil
  | (x, t) :: r => .cons ⟨t, rfl⟩ (vals_strs r)
theorem vals_from (tk : Nat) (ws : List Str) : Vals (ws.map V.str) (strsFrom tk ws) := by
  have h := vals_strs (numbered tk ws)
  rw [numbered_texts, ← strsFrom_eq] at h
  exact h
section
variable {X : Cx}
open Builtin Builtin.Str in
theorem mt_split : MtM X "str.split" (fun x vs H Q => ∃ z y, x = .str z ∧ vs = [.str y] ∧ (y.length == 0) = false ∧ z.length + 2 ≤ sizeLine ∧ ∀ p, H p = none → Q (.ref p) (upd H p (.lst ((Txt.split z y).map V.str)))) := by
  intro pins s σ H x vs v us Q I rx rv h
  obtain ⟨z, y, rfl, rfl, hy, hz, q⟩ := h
  obtain ⟨t, rfl⟩ := rx
  obtain ⟨w', rfl, u, rfl⟩ := rv.one
  have hle : (Txt.split z y).length ≤ sizeLine := Nat.le_trans (split_le z y) hz
  have hz0 : z.length ≤ sizeLine := by omega
  have q := q s.heap.objs.size I.fresh
  cases h1 : (decide (z.length < y.length) || decide (strKind z < strKind y)) with
  | true =>
    have e : Txt.split z y = [z] := if_pos h1
    rw [e] at q
    refine call_meets F.slot_str_split (typeIs_str _ _ _) F.entry_str_split (F.args_str_split_2 _ _) (meets_str_split_cannot_occur z y t u h1) ?_
    exact ⟨.ref s.heap.objs.size, _, I.laid (t' := s.toks) (o := .lst [.str z]) (fun b ob q => Heap.get?_push_of_some _ q) (Nat.le_refl _) ⟨by show 1 ≤ sizeLine; decide, _, 0, .cons ⟨t, rfl⟩ .nil, Heap.get?_push_size _ rfl⟩, rfl, q⟩
  | false =>
    cases hf : (occurrences z y 0 z.length (z.length + 1)).isEmpty with
    | true =>
      have e : Txt.split z y = [z] := (if_neg (ne_true_of_eq_false h1)).trans (if_pos hf)
      rw [e] at q
      refine call_meets F.slot_str_split (typeIs_str _ _ _) F.entry_str_split (F.args_str_split_2 _ _) (meets_str_split_not_found z y t u h1 hy hf) ?_
      exact ⟨.ref s.heap.objs.size, _, I.laid (t' := s.toks) (o := .lst [.str z]) (fun b ob q => Heap.get?_push_of_some _ q) (Nat.le_refl _) ⟨by show 1 ≤ sizeLine; decide, _, 0, .cons ⟨t, rfl⟩ .nil, Heap.get?_push_size _ rfl⟩, rfl, q⟩
    | false =>
      have e : Txt.split z y = partsBetween z (occurrences z y 0 z.length (z.length + 1)) y.length := (if_neg (ne_true_of_eq_false h1)).trans (if_neg (ne_true_of_eq_false hf))
      rw [e] at q hle
      refine call_meets F.slot_str_split (typeIs_str _ _ _) F.entry_str_split (F.args_str_split_2 _ _) (meets_str_split_sep z y t u h1 hy hf hz0 hle) ?_
      exact ⟨.ref s.heap.objs.size, _, I.laid (o := .lst ((partsBetween z (occurrences z y 0 z.length (z.length + 1)) y.length).map V.str)) (fun b ob q => Heap.get?_push_of_some _ q) (Nat.le_refl _)
        ⟨by rw [List.length_map]; exact hle, _, 0, vals_from _ _, Heap.get?_push_size _ rfl⟩, rfl, q⟩
theorem isPart_opt {v : Value} {o : Option Int} (p : IsPart v o) : ∃ l : Option (Int × Tok), v = partValue l ∧ o = l.map (·.1) := by
  cases p with
  | none => exact ⟨none, rfl, rfl⟩
  | int i t => exact ⟨some (i, t), rfl, rfl⟩
theorem sl_str : SlR X (fun x lo hi H Q => ∃ z, x = .str z ∧ z.length ≤ sizeLine ∧ Q (.str (Txt.slice z lo hi)) H) := by
  intro pins s σ H x v vl vu lo hi sl Q I rx hs pl pu h
  obtain ⟨z, rfl, hz, q⟩ := h
  obtain ⟨t, rfl⟩ := rx
  obtain ⟨l, rfl, rfl⟩ := isPart_opt pl
  obtain ⟨u, rfl, rfl⟩ := isPart_opt pu
  refine ⟨"str", _, F.slot_str_getitem.lookup, typeIs_str _ _ _, wpAny_getItem_str_slice (l := l) (u := u) (st := none) hs rfl ?_⟩
  exact post_val_or_str ⟨Nat.le_trans (Txt.slice_le z _ _) hz, fun t' k => ⟨.str (Txt.slice z _ _), H, I.tok _, ⟨t', rfl⟩, q⟩⟩
end
theorem mem_of_lookup {β : Type} {y : Str} {v : β} : ∀ {l : List (Str × β)}, l.lookup y = some v → (y, v) ∈ l
  | [], h => by simp at h
  | (x, u) :: r, h => by
    rw [List.lookup_cons] at h
    cases e : y == x with
    | true =>
      rw [e] at h
      have h1 := Option.some.inj h
      have h2 := eq_of_beq e
      subst h1 h2
      exact List.mem_cons_self
    | false =>
      rw [e] at h
      exact List.mem_cons_of_mem _ (mem_of_lookup h)
theorem comp0 {X : Cx} {scope : Scope} {T : List Str} (hk : scope.kind = .function) (hc : closureFor scope X.env = pure []) (h1 : ∀ y ∈ scope.names, y.2 ≠ .cell) (h2 : ∀ y ∈ scope.names, y.2 ≠ .free)
    (h3 : ∀ y ∈ scope.names, y.2 = .local → scope.names.lookup y.1 = some .local) : CompScope X scope [] T [] [] :=
  ⟨hk, hc, h1, h3, fun y c h => by simp at h, fun y h => absurd rfl (h2 _ (mem_of_lookup h)), .nil⟩
theorem compN {X : Cx} {scope : Scope} {T cn : List Str} {caps : List Nat} {cl : List (Str × Addr)} (hk : scope.kind = .function) (hc : closureFor scope X.env = pure cl) (h1 : ∀ y ∈ scope.names, y.2 ≠ .cell)
    (h2 : ∀ y ∈ scope.names, y.2 = .free → (cl.lookup y.1).isSome = true) (h3 : ∀ y ∈ scope.names, y.2 = .local → scope.names.lookup y.1 = some .local) (hs : ∀ p ∈ cl, X.env.cells.lookup p.1 = some p.2)
    (hp : Paired (fun (j : Nat) (y : Str) => X.N[j]? = some y ∧ (X.env.kindOf y = some .cell ∨ X.env.kindOf y = some .free) ∧ scope.names.lookup y = some .free) caps cn) : CompScope X scope cl T caps cn :=
  ⟨hk, hc, h1, h3, fun y c h => hs (y, c) (mem_of_lookup h), fun y h => Option.isSome_iff_exists.mp (h2 _ (mem_of_lookup h) rfl), hp⟩
end L2

set_option maxHeartbeats 4000000
namespace L2
open PySem PySem.Spec PyProof.Rows
def del (H : Hp) (a : Addr) : Hp := fun b => if b = a then none else H b
theorem del_same {H : Hp} {a : Addr} : del H a a = none := if_pos rfl
theorem del_ne {H : Hp} {a b : Addr} (h : b ≠ a) : del H a b = H b := if_neg h
section
variable {X : Cx} {pins : List (Addr × Obj)} {σ : St} {H : Hp} {s : Shared} {a : Addr} {ys : List V}
end
section
variable {X : Cx} {e : Expr} {te : TE} {tt : TT}
def tFrame (te : TE) : TE := fun σ H Q => ∃ D ys, H D = some (.lst ys) ∧ te σ (del H D) fun y H4 => H4 D = none → Q y (upd H4 D (.lst ys))
def uFrame (tt : TT) : TT := fun σ H Q => ∃ D ys, H D = some (.lst ys) ∧ tt σ (del H D) fun b H4 => H4 D = none → Q b (upd H4 D (.lst ys))
end
theorem del_upd {H : Hp} {a : Addr} {o : HO} (h : H a = none) : del (upd H a o) a = H := by
  funext b
  unfold del upd
  by_cases hb : b = a
  · rw [if_pos hb, hb, h]
  · rw [if_neg hb, if_neg hb]
end L2

set_option maxHeartbeats 4000000
namespace L2
open PySem PySem.Spec PyProof.Rows
def hid (H : Hp) (a dx : Addr) : Hp := fun b => if b = a ∨ b = dx then none else H b
def shown (H : Hp) (a dx C : Addr) (fs : List (Str × V)) : Hp := upd (upd H dx (.own a)) a (.ins C dx fs)
section
variable {X : Cx} {pins : List (Addr × Obj)} {σ : St} {H : Hp} {s : Shared} {a dx C : Addr} {fs : List (Str × V)}
theorem Inv.notfs {o : HO} (I : Inv X pins σ H s) (e : H a = some o) : a ∉ X.fs ∧ (∀ b o, X.s₀.heap.get? b = some o → X.H₀ b = none → b ∉ X.ex → b ≠ a) ∧ (∀ p ∈ X.pn ++ pins, p.1 ≠ a) ∧ ∀ x c, X.env.cells.lookup x = some c → c ≠ a := by
  refine ⟨fun hb => ?_, fun b o q n hx z => ?_, fun p hp z => ?_, fun x c q z => ?_⟩
  · have h1 := I.ok.frf a hb
    obtain ⟨_, o, ho, _⟩ := I.ok.funs.mem hb
    have hx : a ∉ X.ex := fun hx => I.ok.exfs a hx hb
    have := I.base.free a o ho h1 hx
    rw [e] at this
    cases this
  · have := I.base.free b o q n hx
    rw [z, e] at this
    cases this
  · have := (I.pin p hp).2.1
    rw [z, e] at this
    cases this
  · have := I.freeC x c q
    rw [z, e] at this
    cases this
end
section
variable {X : Cx} {e : Expr} {te : TE} {st : Stmt} {ts : TS}
def tFrameO (te : TE) : TE := fun σ H Q => ∃ a dx C fs, H a = some (.ins C dx fs) ∧ te σ (hid H a dx) fun y H4 => H4 a = none → H4 dx = none → dx ≠ a → Q y (shown H4 a dx C fs)
def sFrameO (ts : TS) : TS := fun D σ H => ∃ a dx C fs, H a = some (.ins C dx fs) ∧
  ts ⟨fun σ' H4 => H4 a = none → H4 dx = none → dx ≠ a → D.nx σ' (shown H4 a dx C fs), fun v H4 => H4 a = none → H4 dx = none → dx ≠ a → D.rt v (shown H4 a dx C fs),
    fun σ' H4 => H4 a = none → H4 dx = none → dx ≠ a → D.bk σ' (shown H4 a dx C fs), fun σ' H4 => H4 a = none → H4 dx = none → dx ≠ a → D.ct σ' (shown H4 a dx C fs)⟩ σ (hid H a dx)
theorem hid_shown {H : Hp} {a dx C : Addr} {fs : List (Str × V)} (h1 : H a = none) (h2 : H dx = none) : hid (shown H a dx C fs) a dx = H := by
  funext b
  unfold hid shown upd
  by_cases hb : b = a
  · rw [if_pos (.inl hb), hb, h1]
  · by_cases hb2 : b = dx
    · rw [if_pos (.inr hb2), hb2, h2]
    · rw [if_neg (fun z => z.elim hb hb2), if_neg hb, if_neg hb2]
theorem upd_shown {H : Hp} {a dx C : Addr} {fs fs' : List (Str × V)} : upd (shown H a dx C fs) a (.ins C dx fs') = shown H a dx C fs' := upd_upd
theorem shown_a {H : Hp} {a dx C : Addr} {fs : List (Str × V)} : shown H a dx C fs a = some (.ins C dx fs) := upd_same
end
end L2

set_option maxHeartbeats 4000000
namespace L2
open PySem PySem.Spec PyProof.Rows
def hidL (H : Hp) (L : List Addr) : Hp := fun b => if b ∈ L then none else H b
def showL (H' H : Hp) (L : List Addr) : Hp := fun b => if b ∈ L then H b else H' b
theorem hidL_in {H : Hp} {L : List Addr} {b : Addr} (h : b ∈ L) : hidL H L b = none := if_pos h
theorem hidL_out {H : Hp} {L : List Addr} {b : Addr} (h : b ∉ L) : hidL H L b = H b := if_neg h
theorem hidL_none {H : Hp} {L : List Addr} {b : Addr} (h : H b = none) : hidL H L b = none := by unfold hidL; split <;> first | rfl | exact h
theorem hidL_some {H : Hp} {L : List Addr} {b : Addr} {o : HO} (h : hidL H L b = some o) : b ∉ L ∧ H b = some o := by
  unfold hidL at h
  split at h
  · cases h
  · rename_i z; exact ⟨z, h⟩
theorem hidL_same {H : Hp} {L : List Addr} : Same (hidL H L) H := fun b o h => (hidL_some h).2
theorem hidL_nil {H : Hp} : hidL H [] = H := by funext b; exact if_neg (fun h => nomatch h)
theorem showL_in {H H' : Hp} {L : List Addr} {b : Addr} (h : b ∈ L) : showL H' H L b = H b := if_pos h
theorem showL_out {H H' : Hp} {L : List Addr} {b : Addr} (h : b ∉ L) : showL H' H L b = H' b := if_neg h
theorem hidL_showL {H H' : Hp} {L : List Addr} (h : ∀ b ∈ L, H' b = none) : hidL (showL H' H L) L = H' := by
  funext b
  by_cases hb : b ∈ L
  · rw [hidL_in hb, h b hb]
  · rw [hidL_out hb, showL_out hb]
inductive HidOk (H : Hp) (L : List Addr) (a : Addr) : Prop
  | lst (xs : List V) (h : H a = some (.lst xs))
  | dK (kvs : List (Key × V)) (h : H a = some (.dK kvs))
  | ins (C dx : Addr) (fs : List (Str × V)) (h : H a = some (.ins C dx fs)) (hd : dx ∈ L)
  | own (C b : Addr) (fs : List (Str × V)) (h : H a = some (.own b)) (hb : b ∈ L) (hi : H b = some (.ins C a fs))
section
variable {X : Cx} {pins : List (Addr × Obj)} {σ : St} {H : Hp} {s : Shared} {L : List Addr}
theorem HidOk.there {a : Addr} (h : HidOk H L a) : ∃ o, H a = some o := by cases h <;> exact ⟨_, by assumption⟩
theorem HidOk.notup {a : Addr} (h : HidOk H L a) : (∀ xs, H a ≠ some (.tup xs)) ∧ (∀ o u, H a ≠ some (.frz o u)) ∧ (∀ ps, H a ≠ some (.tbl ps)) ∧ ∀ b, H a = some (.own b) → b ∈ L := by
  cases h with
  | lst xs h => rw [h]; exact ⟨fun _ q => (nomatch q), fun _ _ q => (nomatch q), fun _ q => (nomatch q), fun _ q => (nomatch q)⟩
  | dK xs h => rw [h]; exact ⟨fun _ q => (nomatch q), fun _ _ q => (nomatch q), fun _ q => (nomatch q), fun _ q => (nomatch q)⟩
  | ins C dx fs h hd => rw [h]; exact ⟨fun _ q => (nomatch q), fun _ _ q => (nomatch q), fun _ q => (nomatch q), fun _ q => (nomatch q)⟩
  | own C b fs h hb hi => rw [h]; exact ⟨fun _ q => (nomatch q), fun _ _ q => (nomatch q), fun _ q => (nomatch q), fun c q => by cases q; exact hb⟩
theorem HidOk.obj {a : Addr} (h : HidOk H L a) (I : Inv X pins σ H s) : ∃ o, s.heap.get? a = some o ∧ ∀ v, o.data ≠ .cell v := by
  cases h with
  | lst xs h =>
    obtain ⟨_, its, n, _, ho⟩ := (show ObjOk X.prog X.w H s.heap a (.lst xs) from I.hok a _ h)
    exact ⟨_, ho, fun v q => by cases q⟩
  | dK kvs h =>
    obtain ⟨_, _, vs, _, ob, es, ep, e, c⟩ := (show ObjOk X.prog X.w H s.heap a (.dK kvs) from I.hok a _ h)
    exact ⟨_, e, fun v q => by rw [c.2.1] at q; cases q⟩
  | ins C dx fs h hd =>
    obtain ⟨_, _, _, e, _⟩ := (show ObjOk X.prog X.w H s.heap a (.ins C dx fs) from I.hok a _ h)
    exact ⟨_, e, fun v q => by cases q⟩
  | own C b fs h hb hi =>
    obtain ⟨_, _, _, _, mA, ⟨od, es, ep, e2, c⟩, r⟩ := (show ObjOk X.prog X.w H s.heap b (.ins C a fs) from I.hok b _ hi)
    exact ⟨_, e2, fun v q => by rw [c.1] at q; cases q⟩
theorem frameM {G : Prop} (I : Inv X pins σ H s) (hL : ∀ a ∈ L, HidOk H L a)
    (h : ∀ pl : List (Addr × Obj), Inv X (pins ++ pl) σ (hidL H L) s → (∀ b ∈ L, ∃ o, (b, o) ∈ pl) → (∀ (σ' : St) (H' : Hp) (s' : Shared), Inv X (pins ++ pl) σ' H' s' → (∀ b ∈ L, H' b = none) ∧ Inv X pins σ' (showL H' H L) s') → G) : G := by
  have memL : ∀ {b : Addr} {o : Obj}, (b, o) ∈ pinsAt L s.heap ↔ b ∈ L ∧ s.heap.get? b = some o := fun {b o} => ⟨fun q => of_pinsAt q, fun q => mem_pinsAt q.1 q.2⟩
  refine h (pinsAt L s.heap) ?_ (fun b hb => let ⟨o, e, _⟩ := (hL b hb).obj I; ⟨o, memL.mpr ⟨hb, e⟩⟩) fun σ' H' s' J => ?_
  · refine ⟨I.ok, I.os, I.bare, ⟨I.base.keep, I.base.slot, fun b o q n hx => hidL_none (I.base.free b o q n hx), I.base.there, fun b xs q => ?_, fun b o u q => ?_, fun b ps q => ?_⟩, I.loc, I.cell, hidL_none I.free, fun x c q => hidL_none (I.freeC x c q), fun p hp => ?_, fun b o q => ?_, I.len⟩
    · have z := I.base.tups b xs q
      rw [hidL_out (fun w => (hL b w).notup.1 _ z)]; exact z
    · have z := I.base.frzs b o u q
      rw [hidL_out (fun w => (hL b w).notup.2.1 _ _ z)]; exact z
    · obtain ⟨more, z⟩ := I.base.tbls b ps q
      exact ⟨more, by rw [hidL_out (fun w => (hL b w).notup.2.2.1 _ z)]; exact z⟩
    · rw [← List.append_assoc] at hp
      rcases List.mem_append.mp hp with z | z
      · obtain ⟨p1, p2, p3, p4, p5⟩ := I.pin p z
        exact ⟨p1, hidL_none p2, p3, p4, p5⟩
      · obtain ⟨z1, z2⟩ := of_pinsAt z
        obtain ⟨o, e⟩ := (hL p.1 z1).there
        refine ⟨z2, hidL_in z1, fun w => ?_, (I.notfs e).1, fun v q => ?_⟩
        · have f := I.free
          rw [← w, e] at f
          cases f
        · obtain ⟨ob, e2, nc⟩ := (hL p.1 z1).obj I
          rw [z2] at e2
          cases e2
          exact nc v q
    · obtain ⟨hb, q⟩ := hidL_some q
      refine (I.hok b o q).stay (fun _ _ _ z => z) (fun c hc => ?_) (fun c xs hc => ?_)
      · rw [hidL_out (fun w => hb ((hL c w).notup.2.2.2 _ hc))]; exact hc
      · rw [hidL_out (fun w => (hL c w).notup.1 _ hc)]; exact hc
  · have pin : ∀ b ∈ L, H' b = none ∧ ∀ o, s.heap.get? b = some o → s'.heap.get? b = some o := fun b hb => by
      obtain ⟨o, e, _⟩ := (hL b hb).obj I
      obtain ⟨g1, g2, _⟩ := J.pin (b, o) (List.mem_append_right _ (List.mem_append_right _ (memL.mpr ⟨hb, e⟩)))
      exact ⟨g2, fun o' e' => by rw [e] at e'; cases e'; exact g1⟩
    refine ⟨fun b hb => (pin b hb).1, ⟨J.ok, J.os, J.bare, ⟨J.base.keep, J.base.slot, fun b o q n hx => ?_, J.base.there, fun b xs q => ?_, fun b o u q => ?_, fun b ps q => ?_⟩, J.loc, J.cell, ?_, fun x c q => ?_, fun p hp => ?_, fun b o q => ?_, J.len⟩⟩
    · rw [showL_out (fun w => let ⟨o', e⟩ := (hL b w).there; (I.notfs e).2.1 b o q n hx rfl)]
      exact J.base.free b o q n hx
    · have z := J.base.tups b xs q
      rw [showL_out (fun w => by rw [(pin b w).1] at z; cases z)]; exact z
    · have z := J.base.frzs b o u q
      rw [showL_out (fun w => by rw [(pin b w).1] at z; cases z)]; exact z
    · obtain ⟨more, z⟩ := J.base.tbls b ps q
      exact ⟨more, by rw [showL_out (fun w => by rw [(pin b w).1] at z; cases z)]; exact z⟩
    · rw [showL_out (fun w => let ⟨o', e⟩ := (hL _ w).there; by rw [I.free] at e; cases e)]
      exact J.free
    · rw [showL_out (fun w => let ⟨o', e⟩ := (hL _ w).there; by rw [I.freeC x c q] at e; cases e)]
      exact J.freeC x c q
    · obtain ⟨p1, p2, p3, p4, p5⟩ := J.pin p (by rw [← List.append_assoc]; exact List.mem_append_left _ hp)
      refine ⟨p1, ?_, p3, p4, p5⟩
      rw [showL_out (fun w => let ⟨o', e⟩ := (hL _ w).there; (I.notfs e).2.2.1 p hp rfl)]
      exact p2
    · by_cases hb : b ∈ L
      · rw [showL_in hb] at q
        have k := (pin b hb).2
        have w := hL b hb
        cases w with
        | lst xs h =>
          rw [h] at q; cases q
          obtain ⟨hz, its, n, hv, ho⟩ := (show ObjOk X.prog X.w H s.heap b (.lst xs) from I.hok b _ h)
          exact ⟨hz, its, n, hv, k _ ho⟩
        | dK kvs h =>
          rw [h] at q; cases q
          obtain ⟨z1, z2, vs, hv, ob, es, ep, e, c⟩ := (show ObjOk X.prog X.w H s.heap b (.dK kvs) from I.hok b _ h)
          exact ⟨z1, z2, vs, hv, ob, es, ep, k _ e, c⟩
        | ins C dx fs h hd =>
          rw [h] at q; cases q
          obtain ⟨d, z, ne, ea, mA, ⟨od, es, ep, e2, c⟩, r⟩ := (show ObjOk X.prog X.w H s.heap b (.ins C dx fs) from I.hok b _ h)
          exact ⟨by rw [showL_in hd]; exact d, z, ne, k _ ea, mA, ⟨od, es, ep, (pin dx hd).2 _ e2, c⟩, r⟩
        | own C a fs h ha hi =>
          rw [h] at q; cases q
          obtain ⟨o, e⟩ := (show ObjOk X.prog X.w H s.heap b (.own a) from I.hok b _ h)
          exact ⟨o, k _ e⟩
      · rw [showL_out hb] at q
        refine (J.hok b o q).stay (fun _ _ _ z => z) (fun c hc => ?_) (fun c xs hc => ?_)
        · rw [showL_out (fun w => by rw [(pin c w).1] at hc; cases hc)]; exact hc
        · rw [showL_out (fun w => by rw [(pin c w).1] at hc; cases hc)]; exact hc
end
section
variable {X : Cx} {e : Expr} {te : TE} {tt : TT} {st : Stmt} {ts : TS} {tg iter : Expr} {wi : TI}
def frE (te : TE) : TE := fun σ H Q => ∃ L, (∀ a ∈ L, HidOk H L a) ∧ te σ (hidL H L) fun y H4 => (∀ b ∈ L, H4 b = none) → Q y (showL H4 H L)
theorem pe_frM (he : PE X e te) : PE X e (frE te) := by
  intro pins s σ H Q I ⟨L, hL, q⟩
  refine frameM I hL fun pl I' _ back => ?_
  refine thn (he (pins ++ pl) s σ _ _ I' q) fun v s1 ⟨y, H4, I4, r, k⟩ => ?_
  obtain ⟨z, J⟩ := back _ _ _ I4
  exact ⟨y, _, J, r, k z⟩
def frT (tt : TT) : TT := fun σ H Q => ∃ L, (∀ a ∈ L, HidOk H L a) ∧ tt σ (hidL H L) fun y H4 => (∀ b ∈ L, H4 b = none) → Q y (showL H4 H L)
def frEnds (D : Ends) (H : Hp) (L : List Addr) : Ends := ⟨fun σ' H4 => (∀ b ∈ L, H4 b = none) → D.nx σ' (showL H4 H L), fun v H4 => (∀ b ∈ L, H4 b = none) → D.rt v (showL H4 H L),
  fun σ' H4 => (∀ b ∈ L, H4 b = none) → D.bk σ' (showL H4 H L), fun σ' H4 => (∀ b ∈ L, H4 b = none) → D.ct σ' (showL H4 H L)⟩
def frS (ts : TS) : TS := fun D σ H => ∃ L, (∀ a ∈ L, HidOk H L a) ∧ ts (frEnds D H L) σ (hidL H L)
theorem sp_back {pins pl : List (Addr × Obj)} {D : Ends} {H : Hp} {L : List Addr} {f : Flow} {s1 : Shared} (back : ∀ (σ' : St) (H' : Hp) (s' : Shared), Inv X (pins ++ pl) σ' H' s' → (∀ b ∈ L, H' b = none) ∧ Inv X pins σ' (showL H' H L) s')
    (hq : SP X (pins ++ pl) (frEnds D H L) f s1) : SP X pins D f s1 := by
  cases f with
  | next => obtain ⟨σ', H', J, k⟩ := hq; obtain ⟨z, J'⟩ := back _ _ _ J; exact ⟨σ', _, J', k z⟩
  | brk => obtain ⟨σ', H', J, k⟩ := hq; obtain ⟨z, J'⟩ := back _ _ _ J; exact ⟨σ', _, J', k z⟩
  | cont => obtain ⟨σ', H', J, k⟩ := hq; obtain ⟨z, J'⟩ := back _ _ _ J; exact ⟨σ', _, J', k z⟩
  | ret u => obtain ⟨v, σ', H', J, r, k⟩ := hq; obtain ⟨z, J'⟩ := back _ _ _ J; exact ⟨v, σ', _, J', r, k z⟩
theorem ps_frM (he : PS X st ts) : PS X st (frS ts) := by
  intro pins s σ H D I ⟨L, hL, q⟩
  refine frameM I hL fun pl I' _ back => ?_
  exact thn (he (pins ++ pl) s σ _ _ I' q) fun f s1 hq => sp_back back hq
theorem pss_frM {rest : List Stmt} (he : PSs X rest ts) : PSs X rest (frS ts) := by
  intro pins s σ H D I ⟨L, hL, q⟩
  refine frameM I hL fun pl I' _ back => ?_
  exact thn (he (pins ++ pl) s σ _ _ I' q) fun f s1 hq => sp_back back hq
def frI (wi : TI) : TI := fun σ H R => ∃ L, (∀ a ∈ L, HidOk H L a) ∧ wi σ (hidL H L) fun J H4 => (∀ b ∈ L, H4 b = none) → R J (showL H4 H L)
theorem pi_frM (he : PI X tg iter wi) : PI X tg iter (frI wi) := by
  intro pins s σ H R I ⟨L, hL, q⟩
  refine frameM I hL fun pl I' hpl back => ?_
  refine thn (he (pins ++ pl) s σ _ _ I' q) fun v s1 h1 => thn h1 fun itv s2 ⟨it, fp, tn, J, H', e1, I2, T, t0, hf, k⟩ => ?_
  obtain ⟨z, J2⟩ := back _ _ _ I2
  have hn : ∀ b ∈ fp, b ∉ L := fun b hb hl => let ⟨o, ho⟩ := hpl b hl; (hf b hb).2.2.2.2.2 (b, o) (List.mem_append_right _ (List.mem_append_right _ ho)) rfl
  refine ⟨it, fp, tn, J, _, e1, J2, T, t0, fun b hb => ?_, k z⟩
  obtain ⟨f1, f2, f3, f4, f5, f6⟩ := hf b hb
  exact ⟨by rw [showL_out (hn b hb)]; exact f1, f2, f3, f4, f5, fun p hp => f6 p (by rw [← List.append_assoc]; exact List.mem_append_left _ hp)⟩
end
theorem hidL_one {H : Hp} {a : Addr} : hidL H [a] = del H a := by
  funext b
  by_cases h : b = a
  · rw [h, hidL_in List.mem_cons_self, del_same]
  · rw [hidL_out (fun z => h (List.mem_singleton.mp z)), del_ne h]
theorem showL_one {H H' : Hp} {a : Addr} {o : HO} (e : H a = some o) : showL H' H [a] = upd H' a o := by
  funext b
  by_cases h : b = a
  · rw [h, showL_in List.mem_cons_self, upd_same, e]
  · rw [showL_out (fun z => h (List.mem_singleton.mp z)), upd_ne h]
theorem hidL_two {H : Hp} {a dx : Addr} : hidL H [a, dx] = hid H a dx := by
  funext b
  unfold hidL hid
  simp
theorem showL_two {H H' : Hp} {a dx C : Addr} {fs : List (Str × V)} (ea : H a = some (.ins C dx fs)) (ed : H dx = some (.own a)) : showL H' H [a, dx] = shown H' a dx C fs := by
  funext b
  unfold shown
  by_cases h : b = a
  · rw [h, showL_in List.mem_cons_self, upd_same, ea]
  · rw [upd_ne h]
    by_cases h2 : b = dx
    · rw [h2, showL_in (List.mem_cons_of_mem _ List.mem_cons_self), upd_same, ed]
    · rw [showL_out (fun z => by simp at z; exact z.elim h h2), upd_ne h2]
section
variable {X : Cx} {e : Expr} {te : TE} {tt : TT} {st : Stmt} {ts : TS}
theorem pe_frameN (he : PE X e te) : PE X e (tFrame te) := fun pins s σ H Q I ⟨D, ys, hD, q⟩ =>
  pe_frM he pins s σ H Q I ⟨[D], fun a ha => by rw [List.mem_singleton.mp ha]; exact .lst ys hD, by rw [hidL_one]; simpa only [showL_one hD, List.mem_singleton, forall_eq] using q⟩
theorem pts_frM {ifs : List Expr} (he : PTs X ifs tt) : PTs X ifs (frT tt) := by
  intro pins s σ H Q I ⟨L, hL, q⟩
  refine frameM I hL fun pl I' _ back => ?_
  refine thn (he (pins ++ pl) s σ _ _ I' q) fun v s1 ⟨H4, I4, k⟩ => ?_
  obtain ⟨z, J⟩ := back _ _ _ I4
  exact ⟨_, J, k z⟩
theorem pts_frameN {ifs : List Expr} (he : PTs X ifs tt) : PTs X ifs (uFrame tt) := fun pins s σ H Q I ⟨D, ys, hD, q⟩ =>
  pts_frM he pins s σ H Q I ⟨[D], fun a ha => by rw [List.mem_singleton.mp ha]; exact .lst ys hD, by rw [hidL_one]; simpa only [showL_one hD, List.mem_singleton, forall_eq] using q⟩
theorem two_ok {pins : List (Addr × Obj)} {σ : St} {H : Hp} {s : Shared} {a dx C : Addr} {fs : List (Str × V)} (I : Inv X pins σ H s) (ha : H a = some (.ins C dx fs)) : H dx = some (.own a) ∧ dx ≠ a ∧ ∀ b ∈ [a, dx], HidOk H [a, dx] b := by
  obtain ⟨d, _, ne, _⟩ := (show ObjOk X.prog X.w H s.heap a (.ins C dx fs) from I.hok a _ ha)
  refine ⟨d, ne, fun b hb => ?_⟩
  rcases List.mem_cons.mp hb with rfl | hb
  · exact .ins C dx fs ha (by simp)
  · rw [List.mem_singleton.mp hb]; exact .own C a fs d (by simp) ha
theorem pe_frameNO (he : PE X e te) : PE X e (tFrameO te) := fun pins s σ H Q I ⟨a, dx, C, fs, ha, q⟩ => by
  obtain ⟨d, ne, ok⟩ := two_ok I ha
  refine pe_frM he pins s σ H Q I ⟨[a, dx], ok, ?_⟩
  rw [hidL_two]
  simp only [showL_two ha d, List.mem_cons, List.not_mem_nil, or_false, forall_eq_or_imp, forall_eq]
  exact (show (fun y H4 => H4 a = none → H4 dx = none → dx ≠ a → Q y (shown H4 a dx C fs)) = fun y H4 => H4 a = none ∧ H4 dx = none → Q y (shown H4 a dx C fs) by funext y H4; simp [ne]) ▸ q
theorem ps_frameNO (he : PS X st ts) : PS X st (sFrameO ts) := fun pins s σ H D I ⟨a, dx, C, fs, ha, q⟩ => by
  obtain ⟨d, ne, ok⟩ := two_ok I ha
  refine ps_frM he pins s σ H D I ⟨[a, dx], ok, ?_⟩
  rw [hidL_two]
  have e : frEnds D H [a, dx] = ⟨fun σ' H4 => H4 a = none → H4 dx = none → dx ≠ a → D.nx σ' (shown H4 a dx C fs), fun v H4 => H4 a = none → H4 dx = none → dx ≠ a → D.rt v (shown H4 a dx C fs),
    fun σ' H4 => H4 a = none → H4 dx = none → dx ≠ a → D.bk σ' (shown H4 a dx C fs), fun σ' H4 => H4 a = none → H4 dx = none → dx ≠ a → D.ct σ' (shown H4 a dx C fs)⟩ := by
    unfold frEnds
    simp [showL_two ha d, ne]
  rw [e]
  exact q
end
end L2

set_option maxHeartbeats 4000000
namespace DC
open PySem PySem.Spec PyProof.Rows L2
inductive D where
  | non | bl (b : Bool) | int (i : Int) | str (x : Str)
  | lst (xs : List D) | tup (xs : List D)
  | obj (C : Addr) (fs : List (Str × D))
  | dK (kvs : List (Key × D)) | dT (kvs : List (List Key × D))
  | adr (a : Addr)
  | exc (a C : Addr) (fs : List (Str × D))
def ExcO (a C : Addr) (dx : Option Addr) : HO := .ext fun h => ∃ oe vs, h.get? a = some oe ∧ oe.cls = .ref C ∧ oe.dict = dx ∧ oe.data = .fields vs ∧ vs[2]? = some .none
def XdO (d : Addr) (fs : List (Str × V)) : HO := .ext fun h => ∃ mA, h.Ns1 d mA ∧ (∀ f, RelO (fs.lookup f) (mA f)) ∧ PySem.Within mA (fs.map (·.1))
def XDict (H : Hp) (dx : Option Addr) (fs : List (Str × V)) : Prop := match dx with
  | none => fs = []
  | some d => Rd H d (XdO d fs)
theorem rd_same {H H' : Hp} {a : Addr} {u : HO} (s : Same H H') (r : Rd H a u) : Rd H' a u := by
  rcases r with r | ⟨o, r⟩
  · exact .inl (s _ _ r)
  · exact .inr ⟨o, s _ _ r⟩
theorem XDict.same {H H' : Hp} {dx : Option Addr} {fs : List (Str × V)} (s : Same H H') (h : XDict H dx fs) : XDict H' dx fs := by
  cases dx with
  | none => exact h
  | some d => exact rd_same s h
mutual
inductive Dv (K : PySem.W.Frag) (H : Hp) : V → D → Prop
  | non : Dv K H .non .non
  | bl (b : Bool) : Dv K H (.bl b) (.bl b)
  | int (i : Int) : Dv K H (.int i) (.int i)
  | str (x : Str) : Dv K H (.str x) (.str x)
  | lst {a : Addr} {xs : List V} {ds : List D} : SqL K H a xs → Dvs K H xs ds → Dv K H (.ref a) (.lst ds)
  | tup {a : Addr} {xs : List V} {ds : List D} : SqT K H a xs → Dvs K H xs ds → Dv K H (.ref a) (.tup ds)
  | obj {a C dx : Addr} {fs : List (Str × V)} {gs : List (Str × D)} : Rd H a (.ins C dx fs) → Dvf K H fs gs → Dv K H (.ref a) (.obj C gs)
  | dK {a : Addr} {kvs : List (Key × V)} {gs : List (Key × D)} : Rd H a (.dK kvs) → Dvk K H kvs gs → Dv K H (.ref a) (.dK gs)
  | dT {a : Addr} {kvs : List (List Key × V)} {gs : List (List Key × D)} : Rd H a (.dT kvs) → Dvt K H kvs gs → Dv K H (.ref a) (.dT gs)
  | adr (a : Addr) : Dv K H (.ref a) (.adr a)
  | exc {a C : Addr} {dx : Option Addr} {fs : List (Str × V)} {gs : List (Str × D)} : Rd H a (ExcO a C dx) → XDict H dx fs → Dvf K H fs gs → Dv K H (.ref a) (.exc a C gs)
inductive Dvs (K : PySem.W.Frag) (H : Hp) : List V → List D → Prop
  | nil : Dvs K H [] []
  | cons {x : V} {d : D} {xs : List V} {ds : List D} : Dv K H x d → Dvs K H xs ds → Dvs K H (x :: xs) (d :: ds)
inductive Dvf (K : PySem.W.Frag) (H : Hp) : List (Str × V) → List (Str × D) → Prop
  | nil : Dvf K H [] []
  | cons {k : Str} {x : V} {d : D} {xs : List (Str × V)} {ds : List (Str × D)} : Dv K H x d → Dvf K H xs ds → Dvf K H ((k, x) :: xs) ((k, d) :: ds)
inductive Dvk (K : PySem.W.Frag) (H : Hp) : List (Key × V) → List (Key × D) → Prop
  | nil : Dvk K H [] []
  | cons {k : Key} {x : V} {d : D} {xs : List (Key × V)} {ds : List (Key × D)} : Dv K H x d → Dvk K H xs ds → Dvk K H ((k, x) :: xs) ((k, d) :: ds)
inductive Dvt (K : PySem.W.Frag) (H : Hp) : List (List Key × V) → List (List Key × D) → Prop
  | nil : Dvt K H [] []
  | cons {k : List Key} {x : V} {d : D} {xs : List (List Key × V)} {ds : List (List Key × D)} : Dv K H x d → Dvt K H xs ds → Dvt K H ((k, x) :: xs) ((k, d) :: ds)
end
theorem sameT {K : PySem.W.Frag} {H H' : Hp} {a : Addr} {xs : List V} (e : Same H H') (h : SqT K H a xs) : SqT K H' a xs := by
  rcases h with (h | ⟨o, h⟩) | h
  · exact .inl (.inl (e _ _ h))
  · exact .inl (.inr ⟨o, e _ _ h⟩)
  · exact .inr h
section
variable {K : PySem.W.Frag} {H H' : Hp}
mutual
theorem Dv.same (s : Same H H') : ∀ {v : V} {d : D}, Dv K H v d → Dv K H' v d
  | _, _, .non => .non
  | _, _, .bl b => .bl b
  | _, _, .int i => .int i
  | _, _, .str x => .str x
  | _, _, .lst h1 h2 => .lst (s.seq h1) (Dvs.same s h2)
  | _, _, .tup h1 h2 => .tup (sameT s h1) (Dvs.same s h2)
  | _, _, .obj h1 h2 => .obj (rd_same s h1) (Dvf.same s h2)
  | _, _, .dK h1 h2 => .dK (rd_same s h1) (Dvk.same s h2)
  | _, _, .dT h1 h2 => .dT (rd_same s h1) (Dvt.same s h2)
  | _, _, .adr a => .adr a
  | _, _, .exc h1 h2 h3 => .exc (rd_same s h1) (h2.same s) (Dvf.same s h3)
theorem Dvs.same (s : Same H H') : ∀ {vs : List V} {ds : List D}, Dvs K H vs ds → Dvs K H' vs ds
  | _, _, .nil => .nil
  | _, _, .cons h1 h2 => .cons (Dv.same s h1) (Dvs.same s h2)
theorem Dvf.same (s : Same H H') : ∀ {vs : List (Str × V)} {ds : List (Str × D)}, Dvf K H vs ds → Dvf K H' vs ds
  | _, _, .nil => .nil
  | _, _, .cons h1 h2 => .cons (Dv.same s h1) (Dvf.same s h2)
theorem Dvk.same (s : Same H H') : ∀ {vs : List (Key × V)} {ds : List (Key × D)}, Dvk K H vs ds → Dvk K H' vs ds
  | _, _, .nil => .nil
  | _, _, .cons h1 h2 => .cons (Dv.same s h1) (Dvk.same s h2)
theorem Dvt.same (s : Same H H') : ∀ {vs : List (List Key × V)} {ds : List (List Key × D)}, Dvt K H vs ds → Dvt K H' vs ds
  | _, _, .nil => .nil
  | _, _, .cons h1 h2 => .cons (Dv.same s h1) (Dvt.same s h2)
end
theorem Dvs.length : ∀ {vs : List V} {ds : List D}, Dvs K H vs ds → vs.length = ds.length
  | _, _, .nil => rfl
  | _, _, .cons _ h => congrArg (· + 1) (Dvs.length h)
theorem Dvs.get : ∀ {vs : List V} {ds : List D} {i : Nat} {d : D}, Dvs K H vs ds → ds[i]? = some d → ∃ v, vs[i]? = some v ∧ Dv K H v d
  | _, _, _, _, .nil, e => by simp at e
  | _, _, 0, _, .cons h _, e => by simp at e; subst e; exact ⟨_, rfl, h⟩
  | _, _, i + 1, d, .cons _ h, e => by
    obtain ⟨v, h1, h2⟩ := Dvs.get (i := i) (d := d) h (by simpa using e)
    exact ⟨v, by simpa using h1, h2⟩
theorem Dvs.getV : ∀ {vs : List V} {ds : List D} {i : Nat} {v : V}, Dvs K H vs ds → vs[i]? = some v → ∃ d, ds[i]? = some d ∧ Dv K H v d
  | _, _, _, _, .nil, e => by simp at e
  | _, _, 0, _, .cons h _, e => by simp at e; subst e; exact ⟨_, rfl, h⟩
  | _, _, i + 1, v, .cons _ h, e => by
    obtain ⟨d, h1, h2⟩ := Dvs.getV (i := i) (v := v) h (by simpa using e)
    exact ⟨d, by simpa using h1, h2⟩
theorem Dvs.append : ∀ {vs ws : List V} {ds es : List D}, Dvs K H vs ds → Dvs K H ws es → Dvs K H (vs ++ ws) (ds ++ es)
  | _, _, _, _, .nil, h => h
  | _, _, _, _, .cons a r, h => .cons a (Dvs.append r h)
theorem Dvs.take : ∀ {vs : List V} {ds : List D} (n : Nat), Dvs K H vs ds → Dvs K H (vs.take n) (ds.take n)
  | _, _, 0, _ => .nil
  | _, _, _ + 1, .nil => .nil
  | _, _, n + 1, .cons r t => .cons r (Dvs.take n t)
theorem Dvs.drop : ∀ {vs : List V} {ds : List D} (n : Nat), Dvs K H vs ds → Dvs K H (vs.drop n) (ds.drop n)
  | _, _, 0, r => r
  | _, _, _ + 1, .nil => .nil
  | _, _, n + 1, .cons _ t => Dvs.drop n t
theorem Dvf.look : ∀ {fs : List (Str × V)} {gs : List (Str × D)} {f : Str} {d : D}, Dvf K H fs gs → gs.lookup f = some d → ∃ v, fs.lookup f = some v ∧ Dv K H v d
  | _, _, _, _, .nil, e => by simp at e
  | _, _, f, d, .cons (k := k) h r, e => by
    rw [List.lookup_cons] at e ⊢
    cases q : f == k with
    | true =>
      rw [q] at e
      cases e
      exact ⟨_, rfl, h⟩
    | false =>
      rw [q] at e
      exact Dvf.look r e
theorem Dvf.none : ∀ {fs : List (Str × V)} {gs : List (Str × D)} {f : Str}, Dvf K H fs gs → gs.lookup f = Option.none → fs.lookup f = Option.none
  | _, _, _, .nil, _ => rfl
  | _, _, f, .cons (k := k) h r, e => by
    rw [List.lookup_cons] at e ⊢
    cases q : f == k with
    | true => rw [q] at e; cases e
    | false =>
      rw [q] at e
      exact Dvf.none r e
end
section
variable {X : Cx} {pins : List (Addr × Obj)} {σ : L2.St} {H : Hp} {s : Shared} {a C dx : Addr} {fs : List (Str × V)} {f : Str} {v : V} {A : Around} {E : Value → Shared → Prop}
theorem ins_getR {P : Program} {w : World} {h : Heap} (hok : HOk P w H h) (e : Rd H a (.ins C dx fs)) : ∃ mA, ObjM h a dx C mA ∧ (∀ f, RelO (fs.lookup f) (mA f)) ∧ PySem.Within mA (fs.map (·.1)) ∧ fs.length ≤ 1000 ∧ H dx = some (.own a) := by
  obtain ⟨d, z, ne, ob, mA, n, r, q⟩ := (show ObjOk P w H h a (.ins C dx fs) from e.ok hok)
  exact ⟨mA, ⟨ob, n, ne⟩, r, q, z, d⟩
theorem getattr_okR {b : Bool} {Q : Value → Shared → Prop} (I : Inv X pins σ H s) (e : Rd H a (.ins C dx fs)) (c : Cls X.K C) (n : NoAttr X.K C f) (l : fs.lookup f = some v)
    (h : ∀ u s', Inv X pins σ H s' → RelV v u → Q u s') : wpAny (model X.prog X.w) A (getAttr (.ref a) f b) Q E s := by
  obtain ⟨mA, O, r, _, _, _⟩ := ins_getR I.hok e
  obtain ⟨u, hu, ru⟩ := RelO.some_of (v := v) (o := mA f) (by rw [← l]; exact r f)
  exact get_map I.kIn O (c.get f) c.hd n hu (handed_of ru) (h u _ (I.tok _) ru)
theorem getmeth_okR {m : Str} {g : Addr} {pl : Sem Bool} {Q : Value × List Value → Shared → Prop} (I : Inv X pins σ H s) (e : Rd H a (.ins C dx fs)) (c : Cls X.K C) (k : Meth X.K C m g) (l : fs.lookup m = none)
    (h : Q (.ref g, [.ref a]) s) : wpAny (model X.prog X.w) A (getMethod (.ref a) m pl) Q E s := by
  obtain ⟨mA, O, r, _, _, _⟩ := ins_getR I.hok e
  have hn : mA m = none := RelO.none_of (by rw [← l]; exact r m)
  exact get_meth I.kIn O (c.get m) k.at_ k.fn hn h
def tFldR (K : PySem.W.Frag) (ta : TE) (f : Str) : TE := fun σ H Q => ta σ H fun x H1 => ∃ a C dx fs v, x = .ref a ∧ Rd H1 a (.ins C dx fs) ∧ Cls K C ∧ NoAttr K C f ∧ fs.lookup f = some v ∧ Q v H1
theorem pe_fldR {e : Expr} {ta : TE} {pos : Pos} (he : PE X e ta) (hb : attributeBase e f X.env (eval e X.env) = eval e X.env) : PE X (.Attribute e f pos) (tFldR X.K ta f) := by
  intro pins s σ H Q I h
  refine attr_of hb (thn (he pins s σ H _ I h) fun u s1 ⟨x, H1, I1, rx, a, C, dx, fs, v, ex, ea, c, n, l, q⟩ => ?_)
  subst ex
  obtain rfl : u = Value.ref a := rx
  exact getattr_okR I1 ea c n l fun u' s2 I2 ru => ⟨v, H1, I2, ru, q⟩
end
abbrev SD := List (Option D)
abbrev ED := SD → (D → Prop) → Prop
abbrev TD := SD → (Bool → Prop) → Prop
abbrev AD := SD → (List D → Prop) → Prop
structure RelS (K : PySem.W.Frag) (H : Hp) (σ : L2.St) (δ : SD) : Prop where
  len : σ.length = δ.length
  get : ∀ (i : Nat) (d : D), δ[i]? = some (some d) → ∃ v, σ[i]? = some (some v) ∧ Dv K H v d
theorem RelS.same {K : PySem.W.Frag} {H H' : Hp} {σ : L2.St} {δ : SD} (r : RelS K H σ δ) (s : Same H H') : RelS K H' σ δ :=
  ⟨r.len, fun i d h => let ⟨v, h1, h2⟩ := r.get i d h; ⟨v, h1, h2.same s⟩⟩
theorem RelS.set {K : PySem.W.Frag} {H : Hp} {σ : L2.St} {δ : SD} (r : RelS K H σ δ) {v : V} {d : D} (i : Nat) (h : Dv K H v d) : RelS K H (σ.set i (some v)) (δ.set i (some d)) := by
  refine ⟨by rw [List.length_set, List.length_set]; exact r.len, fun j e hj => ?_⟩
  rw [List.getElem?_set] at hj ⊢
  split at hj
  · rename_i q
    subst q
    have hl := r.len
    split at hj
    · rename_i q2
      cases hj
      exact ⟨v, by rw [if_pos rfl, if_pos (by omega)], h⟩
    · cases hj
  · rename_i q
    rw [if_neg q]
    exact r.get j e hj
def kD (K : PySem.W.Frag) (H : Hp) (Q : VK) : D → Prop := fun d => ∀ v H', Same H H' → Dv K H' v d → Q v H'
def kB (H : Hp) (Q : Bool → Hp → Prop) : Bool → Prop := fun b => ∀ H', Same H H' → Q b H'
def kA (K : PySem.W.Frag) (H : Hp) (Q : List V → Hp → Prop) : List D → Prop := fun ds => ∀ vs H', Same H H' → Dvs K H' vs ds → Q vs H'
theorem kD.on {K : PySem.W.Frag} {H H1 : Hp} {Q : VK} {d : D} (s : Same H H1) (h : kD K H Q d) : kD K H1 Q d := fun v H' s' dv => h v H' (s.trans s') dv
theorem kB.on {H H1 : Hp} {Q : Bool → Hp → Prop} {b : Bool} (s : Same H H1) (h : kB H Q b) : kB H1 Q b := fun H' s' => h H' (s.trans s')
def oE (K : PySem.W.Frag) (t : ED) : TE := fun σ H Q => ∃ δ, RelS K H σ δ ∧ t δ (kD K H Q)
def oT (K : PySem.W.Frag) (t : TD) : TT := fun σ H Q => ∃ δ, RelS K H σ δ ∧ t δ (kB H Q)
def oA (K : PySem.W.Frag) (t : AD) : TA := fun σ H Q => ∃ δ, RelS K H σ δ ∧ t δ (kA K H Q)
abbrev MonoE (t : ED) : Prop := ∀ δ (P P' : D → Prop), (∀ d, P d → P' d) → t δ P → t δ P'
structure PD (X : Cx) (e : Expr) (t : ED) : Prop where
  pe : PE X e (oE X.K t)
  mono : MonoE t
structure PTd (X : Cx) (e : Expr) (t : TD) : Prop where
  pt : PT X e (oT X.K t)
  mono : ∀ δ (P P' : Bool → Prop), (∀ d, P d → P' d) → t δ P → t δ P'
structure PWd (X : Cx) (e : Expr) (t : TD) : Prop where
  pw : PW X e (oT X.K t)
  mono : ∀ δ (P P' : Bool → Prop), (∀ d, P d → P' d) → t δ P → t δ P'
structure PAd (X : Cx) (es : List Expr) (t : AD) : Prop where
  pa : PA X es (oA X.K t)
  mono : ∀ δ (P P' : List D → Prop), (∀ d, P d → P' d) → t δ P → t δ P'
theorem PT.imp {X : Cx} {e : Expr} {t t' : TT} (h : PT X e t) (f : ∀ σ H Q, t' σ H Q → t σ H Q) : PT X e t' := fun pins s σ H Q I q => h pins s σ H Q I (f σ H Q q)
theorem PW.imp {X : Cx} {e : Expr} {t t' : TT} (h : PW X e t) (f : ∀ σ H Q, t' σ H Q → t σ H Q) : PW X e t' := fun wh pins s σ H Q I q => h wh pins s σ H Q I (f σ H Q q)
theorem PA.imp {X : Cx} {es : List Expr} {t t' : TA} (h : PA X es t) (f : ∀ σ H Q, t' σ H Q → t σ H Q) : PA X es t' := fun p pins s σ H Q I q => h p pins s σ H Q I (f σ H Q q)
section
variable {X : Cx} {e a b c : Expr} {es rest : List Expr} {pos : Pos} {ta tb tc : ED}
def vVar (i : Nat) : ED := fun δ Q => ∃ d, δ[i]? = some (some d) ∧ Q d
def vC (d : D) : ED := fun _ Q => Q d
theorem d_pe {i : Nat} (h : PE X e (tVar i)) : PD X e (vVar i) :=
  ⟨h.imp fun σ H Q ⟨δ, r, d, hd, k⟩ => let ⟨v, hv, dv⟩ := r.get i d hd; ⟨v, hv, k v H (Same.refl _) dv⟩, fun δ P P' f ⟨d, hd, k⟩ => ⟨d, hd, f d k⟩⟩
theorem dv (i : Nat) {x : Str} {pos : Pos} (hN : X.N[i]? = some x := by rfl) (hv : Vis X.env.scope x := by first | exact Or.inl rfl | exact Or.inr (Or.inl rfl) | exact Or.inr (Or.inr rfl)) (hd : (x == ("__debug__" : Str)) = false := by decide)
    (hcd : (x == ("__classdict__" : Str)) = false := by decide) : PD X (.Name x pos) (vVar i) := d_pe (pv i hN hv hd hcd)
theorem d_c {v : V} {d : D} (h : PE X e (tC v)) (hv : ∀ H, Dv X.K H v d) : PD X e (vC d) :=
  ⟨h.imp fun σ H Q ⟨δ, r, k⟩ => k v H (Same.refl _) (hv H), fun δ P P' f k => f d k⟩
theorem d_int {i j pos} : PD X (.Constant (.int i) j pos) (vC (.int i)) := d_c pe_int fun _ => .int i
theorem d_bl {i j pos} : PD X (.Constant (.bool i) j pos) (vC (.bl i)) := d_c pe_bl fun _ => .bl i
theorem d_str {i j pos} : PD X (.Constant (.str i) j pos) (vC (.str i)) := d_c pe_str fun _ => .str i
theorem d_non {j pos} : PD X (.Constant .none j pos) (vC .non) := d_c pe_non fun _ => .non
theorem d_glob {x : Str} {v : V} {u : Value} {d : D} {pos : Pos} (hg : Gl X x) (hm : X.mg x = some u) (r : RelV v u) (hv : ∀ H, Dv X.K H v d) (hd : (x == ("__debug__" : Str)) = false := by decide) : PD X (.Name x pos) (vC d) := d_c (pe_glob hg hm r hd) hv
abbrev F2 := D → D → (D → Prop) → Prop
abbrev MonoF (f : F2) : Prop := ∀ d e (P P' : D → Prop), (∀ r, P r → P' r) → f d e P → f d e P'
def vOp (f : F2) (ta tb : ED) : ED := fun δ Q => ta δ fun d => tb δ fun e => f d e Q
def Does (K : PySem.W.Frag) (r : R2) (f : F2) : Prop := ∀ H x y d e Q, Dv K H x d → Dv K H y e → f d e (kD K H Q) → r x y H Q
theorem d_bin {t : TE} {r : R2} {f : F2} (hp : PE X e (tOp r (oE X.K ta) (oE X.K tb))) (ma : MonoE ta) (mb : MonoE tb) (hd : Does X.K r f) (hf : MonoF f) : PD X e (vOp f ta tb) := by
  refine ⟨hp.imp fun σ H Q ⟨δ, r, h⟩ => ⟨δ, r, ma _ _ _ (fun d hd' v H1 s1 dv => ⟨δ, r.same s1, mb _ _ _ (fun e he w H2 s2 ew => hd H2 v w d e Q (dv.same s2) ew (hf d e _ _ (fun z hz => hz.on (s1.trans s2)) he)) hd'⟩) h⟩, ?_⟩
  exact fun δ P P' g h => ma _ _ _ (fun d h' => mb _ _ _ (fun e h'' => hf d e _ _ g h'') h') h
theorem d_op {op : Operator} {r : R2} {f : F2} (ho : OpR X (binaryOp op) r) (hd : Does X.K r f) (hf : MonoF f) (ha : PD X a ta) (hb : PD X b tb) : PD X (.BinOp a op b pos) (vOp f ta tb) :=
  d_bin (t := oE X.K ta) (pe_op ho ha.pe hb.pe) ha.mono hb.mono hd hf
theorem d_cmp {op : CmpOp} {r : R2} {f : F2} (ho : OpR X (compareOp op) r) (hd : Does X.K r f) (hf : MonoF f) (ha : PD X a ta) (hb : PD X b tb) (hm : behindInMarks op b = false) : PD X (.Compare a [op] [b] pos) (vOp f ta tb) :=
  d_bin (t := oE X.K ta) (pe_cmpR ho ha.pe hb.pe hm) ha.mono hb.mono hd hf
end
end DC

set_option maxHeartbeats 4000000
namespace DC
open PySem PySem.Spec PyProof.Rows L2
section
variable {X : Cx}
theorem op_catL : OpR X (binaryOp .Add) (fun x y H Q => ∃ a b xs ys, x = .ref a ∧ y = .ref b ∧ SqL X.K H a xs ∧ SqL X.K H b ys ∧ xs.length + ys.length ≤ sizeLine ∧ ∀ p, H p = none → Q (.ref p) (upd H p (.lst (xs ++ ys)))) := by
  intro pins s σ H x y v u Q I rx ry h
  obtain ⟨a, b, xs, ys, rfl, rfl, ha, hb, hz, q⟩ := h
  cases (show v = Value.ref a from rx)
  cases (show u = Value.ref b from ry)
  obtain ⟨its, r1, p1, _⟩ := I.list ha
  obtain ⟨its2, r2, p2, _⟩ := I.list hb
  have hl1 := r1.length
  have hl2 := r2.length
  obtain ⟨⟨cls, dd, data, sl⟩, ho, hc, n, hd⟩ := id p1.isList
  obtain ⟨⟨cls2, dd2, data2, sl2⟩, ho2, hc2, n2, hd2⟩ := id p2.isList
  simp only at hc hd hc2 hd2
  subst hc hd hc2 hd2
  have e : its.toArray ++ its2.toArray = (its ++ its2).toArray := by simp
  refine concat_meets ⟨_, ho, rfl⟩ ⟨_, ho2, rfl⟩ noFill_list_add seq_list_add PySem.F.slot_list_add PySem.F.entry_list_add (PySem.F.args_list_add_2 _ _)
    (list_addW a b its.toArray its2.toArray n n2 dd dd2 sl sl2 (by rw [List.size_toArray, List.size_toArray]; omega)) ⟨ho, ho2, ?_⟩
  rw [e]
  exact ⟨.ref _, _, I.lnew (t' := s.toks) (r1.append r2) (by rw [List.length_append]; omega), rfl, q _ I.fresh⟩
theorem op_catN : OpR X (binaryOp .Add) (fun x y H Q => ∃ a b ys, x = .ref a ∧ y = .ref b ∧ SqT X.K H a [] ∧ SqT X.K H b ys ∧ Q (.ref b) H) := by
  intro pins s σ H x y v u Q I rx ry h
  obtain ⟨a, b, ys, rfl, rfl, ha, hb, q⟩ := h
  cases (show v = Value.ref a from rx)
  cases (show u = Value.ref b from ry)
  obtain ⟨its, r1, p1, _⟩ := I.tuple ha
  obtain ⟨its2, r2, p2, _⟩ := I.tuple hb
  have e1 : its = [] := r1.zero
  subst e1
  obtain ⟨⟨cls, dd, data, sl⟩, ho, hc, n, hd⟩ := id p1
  obtain ⟨⟨cls2, dd2, data2, sl2⟩, ho2, hc2, n2, hd2⟩ := id p2
  simp only at hc hd hc2 hd2
  subst hc hd hc2 hd2
  exact concat_meets ⟨_, ho, rfl⟩ ⟨_, ho2, rfl⟩ noFill_tuple_add seq_tuple_add PySem.F.slot_tuple_add PySem.F.entry_tuple_add (PySem.F.args_tuple_add_2 _ _)
    (tuple_addW0 a b #[] its2.toArray n n2 dd dd2 sl sl2 rfl) ⟨ho, ho2, ⟨.ref b, H, I, rfl, q⟩⟩
end
section
variable {K : PySem.W.Frag}
def fAdd : F2 := fun d e Q => match d, e with
  | .int i, .int j => Q (.int (i + j))
  | .str x, .str y => x.length + y.length ≤ sizeLine ∧ Q (.str (x ++ y))
  | .lst xs, .lst ys => xs.length + ys.length ≤ sizeLine ∧ Q (.lst (xs ++ ys))
  | .tup xs, .tup ys => xs.length + ys.length ≤ sizeLine ∧ Q (.tup (xs ++ ys))
  | _, _ => False
theorem m_add : MonoF fAdd := by
  intro d e P P' g h
  unfold fAdd at h ⊢
  split at h
  · exact g _ h
  · exact ⟨h.1, g _ h.2⟩
  · exact ⟨h.1, g _ h.2⟩
  · exact ⟨h.1, g _ h.2⟩
  · exact h.elim
def rAddU (K : PySem.W.Frag) : R2 := fun x y H Q => (∃ i j, x = .int i ∧ y = .int j ∧ Q (.int (i + j)) H) ∨ (∃ i j, x = .str i ∧ y = .str j ∧ i.length + j.length ≤ sizeLine ∧ Q (.str (i ++ j)) H) ∨
  (∃ a b xs ys, x = .ref a ∧ y = .ref b ∧ SqL K H a xs ∧ SqL K H b ys ∧ xs.length + ys.length ≤ sizeLine ∧ ∀ p, H p = none → Q (.ref p) (upd H p (.lst (xs ++ ys)))) ∨
  rCatT K x y H Q ∨ (∃ a b ys, x = .ref a ∧ y = .ref b ∧ SqT K H a [] ∧ SqT K H b ys ∧ Q (.ref b) H)
theorem op_addU {X : Cx} : OpR X (binaryOp .Add) (rAddU X.K) := op_add.or (op_add_str.or (op_catL.or (op_catT.or op_catN)))
theorem does_add : Does K (rAddU K) fAdd := by
  intro H x y d e Q hx hy h
  cases hx with
  | int i => cases hy with
    | int j => exact .inl ⟨i, j, rfl, rfl, h _ H (Same.refl _) (.int _)⟩
    | _ => exact h.elim
  | str i => cases hy with
    | str j => exact .inr (.inl ⟨i, j, rfl, rfl, h.1, h.2 _ H (Same.refl _) (.str _)⟩)
    | _ => exact h.elim
  | lst h1 h2 => cases hy with
    | lst g1 g2 =>
      refine .inr (.inr (.inl ⟨_, _, _, _, rfl, rfl, h1, g1, ?_, fun p hp => ?_⟩))
      · rw [h2.length, g2.length]; exact h.1
      · exact h.2 _ _ (same_upd hp) (.lst (SqL.of upd_same) ((h2.append g2).same (same_upd hp)))
    | _ => exact h.elim
  | tup h1 h2 => cases hy with
    | tup g1 g2 =>
      have z := h.1
      rw [← h2.length, ← g2.length] at z
      cases h2 with
      | nil => exact .inr (.inr (.inr (.inr ⟨_, _, _, rfl, rfl, h1, g1, h.2 _ H (Same.refl _) (.tup g1 g2)⟩)))
      | cons a r =>
        refine .inr (.inr (.inr (.inl ⟨_, _, _, _, rfl, rfl, h1, g1, (fun q => nomatch q), z, fun e => ?_, fun e p hp => ?_⟩)))
        · subst e
          cases g2
          have q := h.2
          rw [List.append_nil] at q
          exact q _ H (Same.refl _) (.tup h1 (.cons a r))
        · exact h.2 _ _ (same_upd hp) (.tup (SqT.of upd_same) (((Dvs.cons a r).append g2).same (same_upd hp)))
    | _ => exact h.elim
  | _ => exact h.elim
def fI (C : Int → Int → Prop) (g : Int → Int → D) : F2 := fun d e Q => match d, e with
  | .int i, .int j => C i j ∧ Q (g i j)
  | _, _ => False
theorem m_I {C : Int → Int → Prop} {g : Int → Int → D} : MonoF (fI C g) := by
  intro d e P P' f h
  unfold fI at h ⊢
  split at h
  · exact ⟨h.1, f _ h.2⟩
  · exact h.elim
theorem does_I {C : Int → Int → Prop} {g : Int → Int → V} {g' : Int → Int → D} (hg : ∀ H i j, Dv K H (g i j) (g' i j)) : Does K (rI C g) (fI C g') := by
  intro H x y d e Q hx hy h
  cases hx with
  | int i => cases hy with
    | int j => exact ⟨i, j, rfl, rfl, h.1, h.2 _ H (Same.refl _) (hg H i j)⟩
    | _ => exact h.elim
  | _ => exact h.elim
def fI0 (g : Int → Int → D) : F2 := fun d e Q => match d, e with
  | .int i, .int j => Q (g i j)
  | _, _ => False
theorem m_I0 {g : Int → Int → D} : MonoF (fI0 g) := by
  intro d e P P' f h
  unfold fI0 at h ⊢
  split at h
  · exact f _ h
  · exact h.elim
theorem does_I0 {g : Int → Int → V} {g' : Int → Int → D} (hg : ∀ H i j, Dv K H (g i j) (g' i j)) : Does K (rI0 g) (fI0 g') := by
  intro H x y d e Q hx hy h
  cases hx with
  | int i => cases hy with
    | int j => exact ⟨i, j, rfl, rfl, h _ H (Same.refl _) (hg H i j)⟩
    | _ => exact h.elim
  | _ => exact h.elim
end
section
variable {X : Cx} {a b c : Expr} {es rest : List Expr} {pos : Pos} {ta tb tc : ED}
def vAdd : ED → ED → ED := vOp fAdd
def vMul : ED → ED → ED := vOp (fI IntMulOk fun i j => .int (i * j))
def vMod : ED → ED → ED := vOp (fI (fun _ j => 0 < j) fun i j => .int (i % j))
def vDiv : ED → ED → ED := vOp (fI CDiv fun i j => .int (i / j))
theorem d_add (ha : PD X a ta) (hb : PD X b tb) : PD X (.BinOp a .Add b pos) (vAdd ta tb) := d_op op_addU does_add m_add ha hb
theorem d_mul (ha : PD X a ta) (hb : PD X b tb) : PD X (.BinOp a .Mult b pos) (vMul ta tb) := d_op op_mulB (does_I fun _ _ _ => .int _) m_I ha hb
theorem d_mod (ha : PD X a ta) (hb : PD X b tb) : PD X (.BinOp a .Mod b pos) (vMod ta tb) := d_op op_mod (does_I fun _ _ _ => .int _) m_I ha hb
theorem d_div (ha : PD X a ta) (hb : PD X b tb) : PD X (.BinOp a .FloorDiv b pos) (vDiv ta tb) := d_op op_fdiv (does_I fun _ _ _ => .int _) m_I ha hb
def vNeg (ta : ED) : ED := fun δ Q => ta δ fun d => ∃ i, d = .int i ∧ Q (.int (-i))
theorem d_neg (ha : PD X a ta) : PD X (.UnaryOp .USub a pos) (vNeg ta) :=
  ⟨(pe_un un_neg ha.pe).imp fun σ H Q ⟨δ, r, h⟩ => ⟨δ, r, ha.mono _ _ _ (fun d ⟨i, e, k⟩ v H1 s1 dv => by subst e; cases dv; exact ⟨i, rfl, k _ H1 s1 (.int _)⟩) h⟩,
   fun δ P P' g h => ha.mono _ _ _ (fun d ⟨i, e, k⟩ => ⟨i, e, g _ k⟩) h⟩
def vLt : ED → ED → ED := vOp (fI0 fun i j => .bl (decide (i < j)))
def vLe : ED → ED → ED := vOp (fI0 fun i j => .bl (decide (i ≤ j)))
def vGt : ED → ED → ED := vOp (fI0 fun i j => .bl (decide (j < i)))
theorem d_le (ha : PD X a ta) (hb : PD X b tb) : PD X (.Compare a [.LtE] [b] pos) (vLe ta tb) := d_cmp op_le (does_I0 fun _ _ _ => .bl _) m_I0 ha hb (nomark _)
theorem d_gt (ha : PD X a ta) (hb : PD X b tb) : PD X (.Compare a [.Gt] [b] pos) (vGt ta tb) := d_cmp op_gt (does_I0 fun _ _ _ => .bl _) m_I0 ha hb (nomark _)
end
end DC

set_option maxHeartbeats 4000000
namespace DC
open PySem PySem.Spec PyProof.Rows L2
mutual
def toP : D → PyData
  | .non => .none
  | .bl b => .bool b
  | .int i => .int i
  | .str x => .str x
  | .lst xs => .list (toPs xs)
  | .tup xs => .tuple (toPs xs)
  | .obj _ _ => .none
  | .dK _ => .none
  | .dT _ => .none
  | .adr _ => .none
  | .exc _ _ _ => .none
def toPs : List D → List PyData
  | [] => []
  | d :: ds => toP d :: toPs ds
end
mutual
def plain : D → Bool
  | .lst xs => plains xs
  | .tup xs => plains xs
  | .obj _ _ => false
  | .dK _ => false
  | .dT _ => false
  | .adr _ => false
  | .exc _ _ _ => false
  | _ => true
def plains : List D → Bool
  | [] => true
  | d :: ds => plain d && plains ds
end
section
variable {K : PySem.W.Frag} {H : Hp}
mutual
theorem Dv.dat : ∀ {v : V} {d : D}, plain d = true → Dv K H v d → DatV K H v (toP d)
  | _, _, _, .non => by rw [toP]; exact .non
  | _, _, _, .bl b => by rw [toP]; exact .bl b
  | _, _, _, .int i => by rw [toP]; exact .int i
  | _, _, _, .str x => by rw [toP]; exact .str x
  | _, _, p, .lst h1 h2 => by rw [toP]; rw [plain] at p; exact .lst h1 (Dvs.dat p h2)
  | _, _, p, .tup h1 h2 => by rw [toP]; rw [plain] at p; exact .tup h1 (Dvs.dat p h2)
  | _, _, p, .obj _ _ => by rw [plain] at p; cases p
  | _, _, p, .dK _ _ => by rw [plain] at p; cases p
  | _, _, p, .dT _ _ => by rw [plain] at p; cases p
  | _, _, p, .adr _ => by rw [plain] at p; cases p
  | _, _, p, .exc _ _ _ => by rw [plain] at p; cases p
theorem Dvs.dat : ∀ {vs : List V} {ds : List D}, plains ds = true → Dvs K H vs ds → DatVs K H vs (toPs ds)
  | _, _, _, .nil => by rw [toPs]; exact .nil
  | _, _, p, .cons h1 h2 => by
    rw [toPs]
    rw [plains, Bool.and_eq_true] at p
    exact .cons (Dv.dat p.1 h1) (Dvs.dat p.2 h2)
end
end
def eqScal : D → D → Option Bool
  | .non, .non => some true
  | .bl a, .bl b => some (decide (a = b))
  | .int i, .int j => some (decide (i = j))
  | .str x, .str y => some (decide (x = y))
  | .non, .bl _ => some false
  | .non, .int _ => some false
  | .non, .str _ => some false
  | .bl _, .non => some false
  | .bl _, .str _ => some false
  | .int _, .non => some false
  | .int _, .str _ => some false
  | .str _, .non => some false
  | .str _, .bl _ => some false
  | .str _, .int _ => some false
  | _, _ => none
def fEq (neg : Bool) : F2 := fun d e Q => match eqScal d e with
  | some b => Q (.bl (if neg then !b else b))
  | none => plain d = true ∧ plain e = true ∧ SeqAt.shaped (toP d) = true ∧ SeqAt.shaped (toP e) = true ∧ Q (.bl (if neg then !PyData.eqv (toP d) (toP e) else PyData.eqv (toP d) (toP e)))
theorem m_eq {neg : Bool} : MonoF (fEq neg) := by
  intro d e P P' f h
  unfold fEq at h ⊢
  split at h
  · exact f _ h
  · exact ⟨h.1, h.2.1, h.2.2.1, h.2.2.2.1, f _ h.2.2.2.2⟩
theorem does_eq {K : PySem.W.Frag} : Does K (fun x y H Q => rEq x y H Q ∨ rEqD K false x y H Q) (fEq false) := by
  intro H x y d e Q hx hy h
  unfold fEq at h
  split at h
  · rename_i b hb
    left
    have q := h _ H (Same.refl _) (.bl _)
    cases hx <;> cases hy <;> simp only [eqScal, Option.some.injEq, reduceCtorEq] at hb <;> subst hb <;> refine ⟨rfl, ?_⟩ <;> simpa using q
  · obtain ⟨p1, p2, s1, s2, q⟩ := h
    exact .inr ⟨_, _, hx.dat p1, hy.dat p2, s1, s2, q _ H (Same.refl _) (.bl _)⟩
def fIs (neg : Bool) : F2 := fun d e Q => match e with
  | .non => Q (.bl (match d with | .non => !neg | _ => neg))
  | .bl b => ∃ a, d = .bl a ∧ Q (.bl (if neg then a != b else a == b))
  | _ => False
theorem m_is {neg : Bool} : MonoF (fIs neg) := by
  intro d e P P' f h
  unfold fIs at h ⊢
  split at h
  · exact f _ h
  · obtain ⟨a, ha, q⟩ := h; exact ⟨a, ha, f _ q⟩
  · exact h.elim
theorem does_is {K : PySem.W.Frag} : Does K (fun x y H Q => (y = .non ∧ Q (.bl (decide (x = .non))) H) ∨ ∃ a b, x = .bl a ∧ y = .bl b ∧ Q (.bl (a == b)) H) (fIs false) := by
  intro H x y d e Q hx hy h
  cases hy with
  | non =>
    refine .inl ⟨rfl, ?_⟩
    have q := h _ H (Same.refl _) (.bl _)
    cases hx <;> exact q
  | bl b =>
    obtain ⟨a, rfl, q⟩ := h
    cases hx
    exact .inr ⟨a, b, rfl, rfl, q _ H (Same.refl _) (.bl _)⟩
  | _ => exact h.elim
theorem does_isnot {K : PySem.W.Frag} : Does K (fun x y H Q => (y = .non ∧ Q (.bl (!decide (x = .non))) H) ∨ ∃ a b, x = .bl a ∧ y = .bl b ∧ Q (.bl (a != b)) H) (fIs true) := by
  intro H x y d e Q hx hy h
  cases hy with
  | non =>
    refine .inl ⟨rfl, ?_⟩
    have q := h _ H (Same.refl _) (.bl _)
    cases hx <;> exact q
  | bl b =>
    obtain ⟨a, rfl, q⟩ := h
    cases hx
    exact .inr ⟨a, b, rfl, rfl, q _ H (Same.refl _) (.bl _)⟩
  | _ => exact h.elim
def flatD : D → Bool
  | .non => true
  | .bl _ => true
  | .int _ => true
  | .str _ => true
  | _ => false
def eqFlat : D → D → Bool
  | .non, .non => true
  | .bl a, .bl b => a == b
  | .bl a, .int j => (if a then 1 else 0) == j
  | .int i, .bl b => i == (if b then 1 else 0)
  | .int i, .int j => i == j
  | .str x, .str y => x == y
  | _, _ => false
def inD (x : D) (xs : List D) : Bool := xs.any fun y => eqFlat y x
def subStr (x y : Str) : Bool := !(Builtin.Str.occurrences y x 0 y.length 1).isEmpty
def fIn (neg : Bool) : F2 := fun d e Q => match e with
  | .lst xs => flatD d = true ∧ xs.all flatD = true ∧ Q (.bl (if neg then !inD d xs else inD d xs))
  | .tup xs => flatD d = true ∧ xs.all flatD = true ∧ Q (.bl (if neg then !inD d xs else inD d xs))
  | .str y => ∃ x, d = .str x ∧ Q (.bl (if neg then !subStr x y else subStr x y))
  | _ => False
theorem m_in {neg : Bool} : MonoF (fIn neg) := by
  intro d e P P' f h
  unfold fIn at h ⊢
  split at h
  · exact ⟨h.1, h.2.1, f _ h.2.2⟩
  · exact ⟨h.1, h.2.1, f _ h.2.2⟩
  · obtain ⟨a, ha, q⟩ := h; exact ⟨a, ha, f _ q⟩
  · exact h.elim
section
variable {K : PySem.W.Frag} {H : Hp}
theorem Dv.flat {v : V} {d : D} (h : Dv K H v d) (f : flatD d = true) : flatV v = true := by
  cases h <;> first | rfl | cases f
theorem Dv.eqFlat {v w : V} {d e : D} (h : Dv K H v d) (g : Dv K H w e) (f : flatD d = true) (f' : flatD e = true) : eqV v w = DC.eqFlat d e := by
  cases h <;> cases g <;> first | rfl | cases f | cases f'
theorem Dvs.flat : ∀ {vs : List V} {ds : List D}, Dvs K H vs ds → ds.all flatD = true → vs.all flatV = true
  | _, _, .nil, _ => rfl
  | _, _, .cons h r, f => by
    rw [List.all_cons, Bool.and_eq_true] at f ⊢
    exact ⟨h.flat f.1, Dvs.flat r f.2⟩
theorem Dvs.inV {w : V} {e : D} (g : Dv K H w e) (f' : flatD e = true) : ∀ {vs : List V} {ds : List D}, Dvs K H vs ds → ds.all flatD = true → L2.inV w vs = inD e ds
  | _, _, .nil, _ => rfl
  | _, _, .cons h r, f => by
    rw [List.all_cons, Bool.and_eq_true] at f
    have q := Dvs.inV g f' r f.2
    unfold L2.inV inD at q ⊢
    rw [List.any_cons, List.any_cons, q, h.eqFlat g f.1 f']
end
theorem does_in {K : PySem.W.Frag} : Does K (fun x y H Q => rIn K false x y H Q ∨ ∃ i j, x = .str i ∧ y = .str j ∧ Q (.bl (!(Builtin.Str.occurrences j i 0 j.length 1).isEmpty)) H) (fIn false) := by
  intro H x y d e Q hx hy h
  cases hy with
  | lst g1 g2 => exact .inl ⟨_, _, rfl, .inl g1, hx.flat h.1, g2.flat h.2.1, by rw [Dvs.inV hx h.1 g2 h.2.1]; exact h.2.2 _ H (Same.refl _) (.bl _)⟩
  | tup g1 g2 => exact .inl ⟨_, _, rfl, .inr g1, hx.flat h.1, g2.flat h.2.1, by rw [Dvs.inV hx h.1 g2 h.2.1]; exact h.2.2 _ H (Same.refl _) (.bl _)⟩
  | str j =>
    obtain ⟨i, rfl, q⟩ := h
    cases hx
    exact .inr ⟨i, j, rfl, rfl, q _ H (Same.refl _) (.bl _)⟩
  | _ => exact h.elim
theorem does_notIn {K : PySem.W.Frag} : Does K (fun x y H Q => rIn K true x y H Q ∨ ∃ i j, x = .str i ∧ y = .str j ∧ Q (.bl (!(!(Builtin.Str.occurrences j i 0 j.length 1).isEmpty))) H) (fIn true) := by
  intro H x y d e Q hx hy h
  cases hy with
  | lst g1 g2 => exact .inl ⟨_, _, rfl, .inl g1, hx.flat h.1, g2.flat h.2.1, by rw [Dvs.inV hx h.1 g2 h.2.1]; exact h.2.2 _ H (Same.refl _) (.bl _)⟩
  | tup g1 g2 => exact .inl ⟨_, _, rfl, .inr g1, hx.flat h.1, g2.flat h.2.1, by rw [Dvs.inV hx h.1 g2 h.2.1]; exact h.2.2 _ H (Same.refl _) (.bl _)⟩
  | str j =>
    obtain ⟨i, rfl, q⟩ := h
    cases hx
    exact .inr ⟨i, j, rfl, rfl, q _ H (Same.refl _) (.bl _)⟩
  | _ => exact h.elim
section
variable {X : Cx} {a b c : Expr} {es rest : List Expr} {pos : Pos} {ta tb tc : ED}
def vEq : ED → ED → ED := vOp (fEq false)
def vIs : ED → ED → ED := vOp (fIs false)
def vIsNot : ED → ED → ED := vOp (fIs true)
def vIn : ED → ED → ED := vOp (fIn false)
def vNotIn : ED → ED → ED := vOp (fIn true)
theorem d_eq (hu : X.A.units + 64 < cLine) (ha : PD X a ta) (hb : PD X b tb) : PD X (.Compare a [.Eq] [b] pos) (vEq ta tb) := d_cmp (op_eq.or (op_eqD hu)) does_eq m_eq ha hb (nomark _)
theorem d_in (ha : PD X a ta) (hb : PD X b tb) (hm : behindInMarks .In b = false) : PD X (.Compare a [.In] [b] pos) (vIn ta tb) := d_cmp (op_in_seq.or op_in_str) does_in m_in ha hb hm
theorem d_notin (ha : PD X a ta) (hb : PD X b tb) (hm : behindInMarks .NotIn b = false) : PD X (.Compare a [.NotIn] [b] pos) (vNotIn ta tb) := d_cmp (op_notIn_seq.or op_notin_str) does_notIn m_in ha hb hm
end
end DC

set_option maxHeartbeats 4000000
namespace DC
open PySem PySem.Spec PyProof.Rows L2
abbrev MonoT (t : TD) : Prop := ∀ δ (P P' : Bool → Prop), (∀ d, P d → P' d) → t δ P → t δ P'
abbrev MonoA (t : AD) : Prop := ∀ δ (P P' : List D → Prop), (∀ d, P d → P' d) → t δ P → t δ P'
def vTest (t : ED) : TD := fun δ Q => t δ fun d => ∃ b, d = .bl b ∧ Q b
theorem m_test {t : ED} (m : MonoE t) : MonoT (vTest t) := fun δ P P' g h => m _ _ _ (fun d ⟨b, e, q⟩ => ⟨b, e, g b q⟩) h
theorem test_of {K : PySem.W.Frag} {t : ED} (m : MonoE t) {δ : SD} {H : Hp} {Q : Bool → Hp → Prop} (h : vTest t δ (kB H Q)) : t δ (kD K H fun x H' => ∃ k, x = .bl k ∧ Q k H') :=
  m _ _ _ (fun d ⟨b, e, q⟩ v H' s dv => by subst e; cases dv; exact ⟨b, rfl, q H' s⟩) h
section
variable {X : Cx} {a b c e : Expr} {es rest : List Expr} {pos : Pos} {ta tb tc : ED} {ua ub : TD}
theorem PTd.of {t : TE} {v : ED} (h : PT X e (tTest t)) (p : ∀ σ H Q, oE X.K v σ H Q → t σ H Q) (m : MonoE v) : PTd X e (vTest v) :=
  ⟨PT.imp h fun σ H Q ⟨δ, r, q⟩ => p σ H _ ⟨δ, r, test_of m q⟩, m_test m⟩
theorem bin_of {r : R2} {f : F2} (ma : MonoE ta) (mb : MonoE tb) (hd : Does X.K r f) (hf : MonoF f) : (∀ σ H Q, oE X.K (vOp f ta tb) σ H Q → tOp r (oE X.K ta) (oE X.K tb) σ H Q) ∧ MonoE (vOp f ta tb) := by
  refine ⟨fun σ H Q ⟨δ, r, h⟩ => ⟨δ, r, ma _ _ _ (fun d hd' v H1 s1 dv => ⟨δ, r.same s1, mb _ _ _ (fun e he w H2 s2 ew => hd H2 v w d e Q (dv.same s2) ew (hf d e _ _ (fun z hz => hz.on (s1.trans s2)) he)) hd'⟩) h⟩, ?_⟩
  exact fun δ P P' g h => ma _ _ _ (fun d h' => mb _ _ _ (fun e h'' => hf d e _ _ g h'') h') h
theorem t_cmp {op : CmpOp} {r : R2} {f : F2} (ho : OpR X (compareOp op) r) (hd : Does X.K r f) (hf : MonoF f) (ha : PD X a ta) (hb : PD X b tb) (hm : behindInMarks op b = false) : PTd X (.Compare a [op] [b] pos) (vTest (vOp f ta tb)) :=
  let q := bin_of ha.mono hb.mono hd hf
  PTd.of (pt_cmpR ho ha.pe hb.pe hm) q.1 q.2
theorem t_lt (ha : PD X a ta) (hb : PD X b tb) : PTd X (.Compare a [.Lt] [b] pos) (vTest (vLt ta tb)) := t_cmp op_lt (does_I0 fun _ _ _ => .bl _) m_I0 ha hb (nomark _)
theorem t_gt (ha : PD X a ta) (hb : PD X b tb) : PTd X (.Compare a [.Gt] [b] pos) (vTest (vGt ta tb)) := t_cmp op_gt (does_I0 fun _ _ _ => .bl _) m_I0 ha hb (nomark _)
theorem t_eq (hu : X.A.units + 64 < cLine) (ha : PD X a ta) (hb : PD X b tb) : PTd X (.Compare a [.Eq] [b] pos) (vTest (vEq ta tb)) := t_cmp (op_eq.or (op_eqD hu)) does_eq m_eq ha hb (nomark _)
theorem t_is (ha : PD X a ta) (hb : PD X b tb) : PTd X (.Compare a [.Is] [b] pos) (vTest (vIs ta tb)) := t_cmp (op_isN.or op_is_bl) does_is m_is ha hb (nomark _)
theorem t_isnot (ha : PD X a ta) (hb : PD X b tb) : PTd X (.Compare a [.IsNot] [b] pos) (vTest (vIsNot ta tb)) := t_cmp (op_notN.or op_isnot_bl) does_isnot m_is ha hb (nomark _)
theorem t_in (ha : PD X a ta) (hb : PD X b tb) (hm : behindInMarks .In b = false) : PTd X (.Compare a [.In] [b] pos) (vTest (vIn ta tb)) := t_cmp (op_in_seq.or op_in_str) does_in m_in ha hb hm
theorem t_notin (ha : PD X a ta) (hb : PD X b tb) (hm : behindInMarks .NotIn b = false) : PTd X (.Compare a [.NotIn] [b] pos) (vTest (vNotIn ta tb)) := t_cmp (op_notIn_seq.or op_notin_str) does_notIn m_in ha hb hm
def truD : D → Option Bool
  | .non => some false
  | .bl b => some b
  | .int i => some (i != 0)
  | .str y => if y.length ≤ sizeLine then some ((y.length : Int) != 0) else none
  | .lst xs => some (!xs.isEmpty)
  | .tup xs => some (!xs.isEmpty)
  | _ => none
def vTru (t : ED) : TD := fun δ Q => t δ fun d => ∃ b, truD d = some b ∧ Q b
theorem Dvs.isEmpty {K : PySem.W.Frag} {H : Hp} {vs : List V} {ds : List D} (h : Dvs K H vs ds) : vs.isEmpty = ds.isEmpty := by cases h <;> rfl
theorem Dv.tru {K : PySem.W.Frag} {H : Hp} {v : V} {d : D} {b : Bool} (h : Dv K H v d) (e : truD d = some b) : TruV K v H b := by
  cases h with
  | non => cases e; rfl
  | bl x => cases e; rfl
  | int i => cases e; rfl
  | str x =>
    have e' : (if x.length ≤ sizeLine then some ((x.length : Int) != 0) else none) = some b := e
    by_cases hz : x.length ≤ sizeLine
    · rw [if_pos hz] at e'
      exact ⟨hz, (Option.some.inj e').symm⟩
    · rw [if_neg hz] at e'
      cases e'
  | lst h1 h2 => cases e; exact .inl ⟨_, h1, by rw [h2.isEmpty]⟩
  | tup h1 h2 => cases e; exact .inr (.inl ⟨_, h1, by rw [h2.isEmpty]⟩)
  | dK _ _ => cases e
  | exc _ _ _ => cases e
  | obj _ _ => cases e
  | dT _ _ => cases e
  | adr _ => cases e
theorem t_tru (ha : PD X a ta) (he : ∀ whole, isTrue a X.env whole = (do let v ← whole; standAt a.pos; holding [v] (truthy v)) := by intro _; rfl) : PTd X a (vTru ta) :=
  ⟨PT.imp (pt_truth ha.pe he) fun σ H Q ⟨δ, r, h⟩ => ⟨δ, r, ha.mono _ _ _ (fun d ⟨b, e, q⟩ v H1 s1 dv => ⟨b, dv.tru e, q H1 s1⟩) h⟩, fun δ P P' g h => ha.mono _ _ _ (fun d ⟨b, e, q⟩ => ⟨b, e, g b q⟩) h⟩
def uNot (t : TD) : TD := fun δ Q => t δ fun b => Q (!b)
def uAnd (t u : TD) : TD := fun δ Q => t δ fun b => if b = true then u δ Q else Q false
def uOr (t u : TD) : TD := fun δ Q => t δ fun b => if b = true then Q true else u δ Q
theorem t_not (ha : PTd X a ua) : PTd X (.UnaryOp .Not a pos) (uNot ua) :=
  ⟨PT.imp (pt_not ha.pt) fun σ H Q ⟨δ, r, h⟩ => ⟨δ, r, ha.mono _ _ _ (fun b q H' s => q H' s) h⟩, fun δ P P' g h => ha.mono _ _ _ (fun b q => g _ q) h⟩
theorem m_and (ma : MonoT ua) (mb : MonoT ub) : MonoT (uAnd ua ub) := fun δ P P' g h => ma _ _ _ (fun b q => by
  cases b with
  | true => rw [if_pos rfl] at q ⊢; exact mb _ _ _ g q
  | false => rw [if_neg Bool.false_ne_true] at q ⊢; exact g _ q) h
theorem m_or (ma : MonoT ua) (mb : MonoT ub) : MonoT (uOr ua ub) := fun δ P P' g h => ma _ _ _ (fun b q => by
  cases b with
  | true => rw [if_pos rfl] at q ⊢; exact g _ q
  | false => rw [if_neg Bool.false_ne_true] at q ⊢; exact mb _ _ _ g q) h
theorem PWd.td (h : PWd X e ua) : PTd X e ua := ⟨h.pw.pt, h.mono⟩
theorem w_and1 (ha : PTd X a ua) : PWd X (.BoolOp .And [a] pos) ua := ⟨pw_and1 ha.pt, ha.mono⟩
theorem w_or1 (ha : PTd X a ua) : PWd X (.BoolOp .Or [a] pos) ua := ⟨pw_or1 ha.pt, ha.mono⟩
theorem w_and (ha : PTd X a ua) (hb : PWd X (.BoolOp .And (b :: rest) pos) ub) : PWd X (.BoolOp .And (a :: b :: rest) pos) (uAnd ua ub) := by
  refine ⟨PW.imp (pw_and ha.pt hb.pw) fun σ H Q ⟨δ, r, h⟩ => ⟨δ, r, ha.mono _ _ _ (fun b q H' s => ?_) h⟩, m_and ha.mono hb.mono⟩
  cases b with
  | true => rw [if_pos rfl] at q ⊢; exact ⟨δ, r.same s, hb.mono _ _ _ (fun b k => k.on s) q⟩
  | false => rw [if_neg Bool.false_ne_true] at q ⊢; exact q H' s
theorem w_or (ha : PTd X a ua) (hb : PWd X (.BoolOp .Or (b :: rest) pos) ub) : PWd X (.BoolOp .Or (a :: b :: rest) pos) (uOr ua ub) := by
  refine ⟨PW.imp (pw_or ha.pt hb.pw) fun σ H Q ⟨δ, r, h⟩ => ⟨δ, r, ha.mono _ _ _ (fun b q H' s => ?_) h⟩, m_or ha.mono hb.mono⟩
  cases b with
  | true => rw [if_pos rfl] at q ⊢; exact q H' s
  | false => rw [if_neg Bool.false_ne_true] at q ⊢; exact ⟨δ, r.same s, hb.mono _ _ _ (fun b k => k.on s) q⟩
def vAnd (ta tb : ED) : ED := fun δ Q => ta δ fun d => ∃ b, d = .bl b ∧ if b = true then tb δ Q else Q (.bl false)
def vOr (ta tb : ED) : ED := fun δ Q => ta δ fun d => ∃ b, d = .bl b ∧ if b = true then Q (.bl true) else tb δ Q
def vNot (ta : ED) : ED := fun δ Q => ta δ fun d => ∃ b, d = .bl b ∧ Q (.bl (!b))
theorem d_one {op} (h : PD X a ta) : PD X (.BoolOp op [a] pos) ta := ⟨pe_one h.pe, h.mono⟩
theorem d_and (ha : PD X a ta) (hb : PD X (.BoolOp .And (b :: rest) pos) tb) : PD X (.BoolOp .And (a :: b :: rest) pos) (vAnd ta tb) := by
  refine ⟨(pe_and ha.pe hb.pe).imp fun σ H Q ⟨δ, r, h⟩ => ⟨δ, r, ha.mono _ _ _ (fun d ⟨b, e, q⟩ v H1 s1 dv => ?_) h⟩, fun δ P P' g h => ha.mono _ _ _ (fun d ⟨b, e, q⟩ => ⟨b, e, ?_⟩) h⟩
  · subst e
    cases dv
    refine ⟨b, rfl, ?_⟩
    cases b with
    | true => rw [if_pos rfl] at q ⊢; exact ⟨δ, r.same s1, hb.mono _ _ _ (fun b k => k.on s1) q⟩
    | false => rw [if_neg Bool.false_ne_true] at q ⊢; exact q _ H1 s1 (.bl _)
  · cases b with
    | true => rw [if_pos rfl] at q ⊢; exact hb.mono _ _ _ g q
    | false => rw [if_neg Bool.false_ne_true] at q ⊢; exact g _ q
theorem d_or (ha : PD X a ta) (hb : PD X (.BoolOp .Or (b :: rest) pos) tb) : PD X (.BoolOp .Or (a :: b :: rest) pos) (vOr ta tb) := by
  refine ⟨(pe_or ha.pe hb.pe).imp fun σ H Q ⟨δ, r, h⟩ => ⟨δ, r, ha.mono _ _ _ (fun d ⟨b, e, q⟩ v H1 s1 dv => ?_) h⟩, fun δ P P' g h => ha.mono _ _ _ (fun d ⟨b, e, q⟩ => ⟨b, e, ?_⟩) h⟩
  · subst e
    cases dv
    refine ⟨b, rfl, ?_⟩
    cases b with
    | true => rw [if_pos rfl] at q ⊢; exact q _ H1 s1 (.bl _)
    | false => rw [if_neg Bool.false_ne_true] at q ⊢; exact ⟨δ, r.same s1, hb.mono _ _ _ (fun b k => k.on s1) q⟩
  · cases b with
    | true => rw [if_pos rfl] at q ⊢; exact g _ q
    | false => rw [if_neg Bool.false_ne_true] at q ⊢; exact hb.mono _ _ _ g q
theorem d_not (ha : PD X a ta) : PD X (.UnaryOp .Not a pos) (vNot ta) :=
  ⟨(pe_not ha.pe).imp fun σ H Q ⟨δ, r, h⟩ => ⟨δ, r, ha.mono _ _ _ (fun d ⟨b, e, q⟩ v H1 s1 dv => by subst e; cases dv; exact ⟨b, rfl, q _ H1 s1 (.bl _)⟩) h⟩,
   fun δ P P' g h => ha.mono _ _ _ (fun d ⟨b, e, q⟩ => ⟨b, e, g _ q⟩) h⟩
def vIf (u : TD) (ta tb : ED) : ED := fun δ Q => u δ fun b => if b = true then ta δ Q else tb δ Q
theorem d_if (hc : PTd X c ua) (ha : PD X a ta) (hb : PD X b tb) : PD X (.IfExp c a b pos) (vIf ua ta tb) := by
  refine ⟨(pe_ifExp hc.pt ha.pe hb.pe).imp fun σ H Q ⟨δ, r, h⟩ => ⟨δ, r, hc.mono _ _ _ (fun k q H1 s1 => ?_) h⟩, fun δ P P' g h => hc.mono _ _ _ (fun k q => ?_) h⟩
  · cases k with
    | true => rw [if_pos rfl] at q ⊢; exact ⟨δ, r.same s1, ha.mono _ _ _ (fun b k => k.on s1) q⟩
    | false => rw [if_neg Bool.false_ne_true] at q ⊢; exact ⟨δ, r.same s1, hb.mono _ _ _ (fun b k => k.on s1) q⟩
  · cases k with
    | true => rw [if_pos rfl] at q ⊢; exact ha.mono _ _ _ g q
    | false => rw [if_neg Bool.false_ne_true] at q ⊢; exact hb.mono _ _ _ g q
def vChain (f f' : F2) (ta tb tc : ED) : ED := fun δ Q => ta δ fun x => tb δ fun y => f x y fun z => ∃ k, z = .bl k ∧ if k = true then tc δ fun w => f' y w Q else Q (.bl false)
theorem chain_of {r r' : R2} {f f' : F2} (ma : MonoE ta) (mb : MonoE tb) (mc : MonoE tc) (hd : Does X.K r f) (hf : MonoF f) (hd' : Does X.K r' f') (hf' : MonoF f') :
    (∀ σ H Q, oE X.K (vChain f f' ta tb tc) σ H Q → tChain r r' (oE X.K ta) (oE X.K tb) (oE X.K tc) σ H Q) ∧ MonoE (vChain f f' ta tb tc) := by
  refine ⟨fun σ H Q ⟨δ, r, h⟩ => ⟨δ, r, ma _ _ _ (fun d h1 v H1 s1 dv => ⟨δ, r.same s1, mb _ _ _ (fun e h2 w H2 s2 ew => hd H2 v w d e _ (dv.same s2) ew (hf d e _ _ (fun z hz u H3 s3 du => ?_) h2)) h1⟩) h⟩, ?_⟩
  · obtain ⟨k, rfl, q⟩ := hz
    cases du
    refine ⟨k, rfl, ?_⟩
    have s := s1.trans (s2.trans s3)
    cases k with
    | true =>
      rw [if_pos rfl] at q ⊢
      exact ⟨δ, r.same s, mc _ _ _ (fun d h3 u H4 s4 du => hd' H4 w u e d Q (ew.same (s3.trans s4)) du (hf' _ _ _ _ (fun z hz => hz.on (s.trans s4)) h3)) q⟩
    | false =>
      rw [if_neg Bool.false_ne_true] at q ⊢
      exact q _ H3 s (.bl _)
  · intro δ P P' g h
    refine ma _ _ _ (fun d h1 => mb _ _ _ (fun e h2 => hf _ _ _ _ (fun z ⟨k, ez, q⟩ => ⟨k, ez, ?_⟩) h2) h1) h
    cases k with
    | true => rw [if_pos rfl] at q ⊢; exact mc _ _ _ (fun d h3 => hf' _ _ _ _ g h3) q
    | false => rw [if_neg Bool.false_ne_true] at q ⊢; exact g _ q
def fLe : F2 := fI0 fun i j => .bl (decide (i ≤ j))
theorem d_lele (ha : PD X a ta) (hb : PD X b tb) (hc : PD X c tc) (hm : lastMarks [.LtE, .LtE] [b, c] = false := by with_unfolding_all rfl) : PD X (.Compare a [.LtE, .LtE] [b, c] pos) (vChain fLe fLe ta tb tc) :=
  let q := chain_of (X := X) ha.mono hb.mono hc.mono (r := rI0 fun i j => .bl (decide (i ≤ j))) (r' := rI0 fun i j => .bl (decide (i ≤ j))) (f := fLe) (f' := fLe) (does_I0 fun _ _ _ => .bl _) m_I0 (does_I0 fun _ _ _ => .bl _) m_I0
  ⟨(pe_chain op_le op_le ha.pe hb.pe hc.pe hm).imp q.1, q.2⟩
end
end DC

set_option maxHeartbeats 4000000
namespace DC
open PySem PySem.Spec PyProof.Rows L2
section
variable {X : Cx} {a b c e : Expr} {es rest : List Expr} {pos : Pos} {ta tb tc : ED} {ua ub : TD} {t : AD}
def aNil : AD := fun _ Q => Q []
def aCons (ta : ED) (t : AD) : AD := fun δ Q => ta δ fun d => t δ fun ds => Q (d :: ds)
theorem a_nil : PAd X [] aNil := ⟨PA.imp pa_nil fun σ H Q ⟨δ, r, h⟩ => h [] H (Same.refl _) .nil, fun δ P P' g h => g _ h⟩
theorem a_cons (ha : PD X e ta) (hr : PAd X es t) (hs : starEach (e :: es) X.env = (false, eval e X.env) :: starEach es X.env := by rfl) : PAd X (e :: es) (aCons ta t) :=
  ⟨PA.imp (pa_cons ha.pe hr.pa hs) fun σ H Q ⟨δ, r, h⟩ => ⟨δ, r, ha.mono _ _ _ (fun d h1 v H1 s1 dv => ⟨δ, r.same s1, hr.mono _ _ _ (fun ds h2 vs H2 s2 dvs => h2 (v :: vs) H2 (s1.trans s2) (.cons (dv.same s2) dvs)) h1⟩) h⟩,
   fun δ P P' g h => ha.mono _ _ _ (fun d h1 => hr.mono _ _ _ (fun ds h2 => g _ h2) h1) h⟩
def vTup (t : AD) : ED := fun δ Q => t δ fun ds => ds.length ≤ sizeLine ∧ Q (.tup ds)
def vLst (t : AD) : ED := fun δ Q => t δ fun ds => ds.length ≤ sizeLine ∧ Q (.lst ds)
theorem d_tup {x1} (h : PAd X es t) : PD X (.Tuple es x1 pos) (vTup t) :=
  ⟨(pe_tup h.pa).imp fun σ H Q ⟨δ, r, q⟩ => ⟨δ, r, h.mono _ _ _ (fun ds ⟨hl, k⟩ vs H1 s1 dvs => ⟨by rw [dvs.length]; exact hl, fun p hp => k _ _ (s1.trans (same_upd hp)) (.tup (SqT.of upd_same) (dvs.same (same_upd hp)))⟩) q⟩,
   fun δ P P' g q => h.mono _ _ _ (fun ds ⟨hl, k⟩ => ⟨hl, g _ k⟩) q⟩
theorem d_lst (h : PAd X es t) : PD X (.List es pos) (vLst t) :=
  ⟨(pe_lst h.pa).imp fun σ H Q ⟨δ, r, q⟩ => ⟨δ, r, h.mono _ _ _ (fun ds ⟨hl, k⟩ vs H1 s1 dvs => ⟨by rw [dvs.length]; exact hl, fun p hp => k _ _ (s1.trans (same_upd hp)) (.lst (SqL.of upd_same) (dvs.same (same_upd hp)))⟩) q⟩,
   fun δ P P' g q => h.mono _ _ _ (fun ds ⟨hl, k⟩ => ⟨hl, g _ k⟩) q⟩
def constD : Expr → Option D
  | .Constant (.str x) _ _ => some (.str x)
  | .Constant (.int i) _ _ => some (.int i)
  | .Constant (.bool b) _ _ => some (.bl b)
  | .Constant .none _ _ => some .non
  | .UnaryOp .USub (.Constant (.int i) _ _) _ => some (.int (-i))
  | _ => none
def constDs : List Expr → List D
  | [] => []
  | e :: es => (constD e).getD .non :: constDs es
def aVals (ds : List D) : AD := fun _ Q => Q ds
theorem a_ck : ∀ {es : List Expr} (_ : es.all (fun e => (constD e).isSome) = true), PAd X es (aVals (constDs es))
  | [], _ => ⟨a_nil.pa, fun δ P P' g h => g _ h⟩
  | e :: es, h => by
    rw [List.all_cons, Bool.and_eq_true] at h
    have ih := a_ck h.2
    obtain ⟨v, hv⟩ := Option.isSome_iff_exists.mp h.1
    have e1 : constDs (e :: es) = v :: constDs es := by
      show (constD e).getD .non :: constDs es = _
      rw [hv]
      rfl
    rw [e1]
    refine ⟨?_, fun δ P P' g h => g _ h⟩
    have one : PAd X (e :: es) (aCons (vC v) (aVals (constDs es))) := by
      unfold constD at hv
      split at hv
      · cases hv; exact a_cons d_str ih rfl
      · cases hv; exact a_cons d_int ih rfl
      · cases hv; exact a_cons d_bl ih rfl
      · cases hv; exact a_cons d_non ih rfl
      · cases hv
        refine a_cons ⟨(d_neg d_int).pe.imp ?_, fun δ P P' g h => g _ h⟩ ih rfl
        exact fun σ H Q ⟨δ, r, q⟩ => ⟨δ, r, _, rfl, q⟩
      · cases hv
    exact one.pa
def fIx : F2 := fun d e Q => match d, e with
  | .lst xs, .int i => ∃ r, atI xs i = some r ∧ Q r
  | .tup xs, .int i => ∃ r, atI xs i = some r ∧ Q r
  | .str z, .int i => z.length ≤ sizeLine ∧ ∃ c, atI z.cps.toList i = some c ∧ Q (.str ⟨#[c]⟩)
  | _, _ => False
theorem m_ix : MonoF fIx := by
  intro d e P P' f h
  unfold fIx at h ⊢
  split at h
  · obtain ⟨r, hr, q⟩ := h; exact ⟨r, hr, f _ q⟩
  · obtain ⟨r, hr, q⟩ := h; exact ⟨r, hr, f _ q⟩
  · obtain ⟨hz, r, hr, q⟩ := h; exact ⟨hz, r, hr, f _ q⟩
  · exact h.elim
theorem Dvs.atI {K : PySem.W.Frag} {H : Hp} {vs : List V} {ds : List D} {i : Int} {d : D} (h : Dvs K H vs ds) (e : L2.atI ds i = some d) : ∃ v, L2.atI vs i = some v ∧ Dv K H v d := by
  unfold L2.atI at e ⊢
  rw [h.length]
  cases q : ixN ds.length i with
  | none => rw [q] at e; cases e
  | some j =>
    rw [q] at e
    exact h.get e
theorem does_ix {K : PySem.W.Frag} : Does K (rIx K) fIx := by
  intro H x y d e Q hx hy h
  cases hy with
  | int i => cases hx with
    | lst h1 h2 =>
      obtain ⟨r, hr, q⟩ := h
      obtain ⟨v, hv, dv⟩ := h2.atI hr
      exact .inl ⟨_, _, i, v, rfl, rfl, h1, hv, q _ H (Same.refl _) dv⟩
    | tup h1 h2 =>
      obtain ⟨r, hr, q⟩ := h
      obtain ⟨v, hv, dv⟩ := h2.atI hr
      exact .inr (.inl ⟨_, _, i, v, rfl, rfl, h1, hv, q _ H (Same.refl _) dv⟩)
    | str z =>
      obtain ⟨hz, c, hc, q⟩ := h
      exact .inr (.inr ⟨z, i, c, rfl, rfl, hz, hc, q _ H (Same.refl _) (.str _)⟩)
    | _ => exact h.elim
  | _ => cases hx <;> exact h.elim
def vIx : ED → ED → ED := vOp fIx
theorem d_ix (ha : PD X a ta) (hb : PD X b tb) (hs : PlainIx b) : PD X (.Subscript a b pos) (vIx ta tb) := d_bin (t := oE X.K ta) (pe_ix ix_seq ha.pe hb.pe hs) ha.mono hb.mono does_ix m_ix
def cutD (xs : List D) (lo hi : Option Int) : List D := (xs.drop (HT.sIx xs.length 0 lo)).take (HT.sIx xs.length xs.length hi - HT.sIx xs.length 0 lo)
theorem Dvs.cut {K : PySem.W.Frag} {H : Hp} {vs : List V} {ds : List D} (h : Dvs K H vs ds) (lo hi : Option Int) : Dvs K H (cutV vs lo hi) (cutD ds lo hi) := by
  unfold cutV cutD
  rw [h.length]
  exact (h.drop _).take _
def fSl (d : D) (lo hi : Option Int) (Q : D → Prop) : Prop := match d with
  | .lst xs => Q (.lst (cutD xs lo hi))
  | .tup xs => ¬ (HT.sIx xs.length 0 lo = 0 ∧ HT.sIx xs.length xs.length hi = xs.length) ∧ Q (.tup (cutD xs lo hi))
  | .str z => z.length ≤ sizeLine ∧ Q (.str (Txt.slice z lo hi))
  | _ => False
theorem m_sl {d : D} {lo hi : Option Int} {P P' : D → Prop} (f : ∀ r, P r → P' r) (h : fSl d lo hi P) : fSl d lo hi P' := by
  unfold fSl at h ⊢
  split at h
  · exact f _ h
  · exact ⟨h.1, f _ h.2⟩
  · exact ⟨h.1, f _ h.2⟩
  · exact h.elim
theorem sl_U : SlR X (fun x lo hi H Q => rSlL X.K x lo hi H Q ∨ rSlT X.K x lo hi H Q ∨ ∃ z, x = .str z ∧ z.length ≤ sizeLine ∧ Q (.str (Txt.slice z lo hi)) H) := sl_list.or (sl_tup.or sl_str)
abbrev OD := SD → (Option Int → Prop) → Prop
structure POd (X : Cx) (e : Option Expr) (t : OD) : Prop where
  po : PO X e (fun σ H Q => ∃ δ, RelS X.K H σ δ ∧ t δ fun o => ∀ H', Same H H' → Q o H')
  mono : ∀ δ (P P' : Option Int → Prop), (∀ d, P d → P' d) → t δ P → t δ P'
def oNone : OD := fun _ Q => Q none
def oSome (t : ED) : OD := fun δ Q => t δ fun d => ∃ i, d = .int i ∧ Q (some i)
theorem PO.imp {e : Option Expr} {t t' : TO} (h : PO X e t) (f : ∀ σ H Q, t' σ H Q → t σ H Q) : PO X e t' := fun pins s σ H Q I q => h pins s σ H Q I (f σ H Q q)
theorem o_none : POd X none oNone := ⟨PO.imp po_none fun σ H Q ⟨δ, r, h⟩ => h H (Same.refl _), fun δ P P' g h => g _ h⟩
theorem o_some (h : PD X e ta) : POd X (some e) (oSome ta) :=
  ⟨PO.imp (po_some h.pe) fun σ H Q ⟨δ, r, q⟩ => ⟨δ, r, h.mono _ _ _ (fun d ⟨i, ed, k⟩ v H1 s1 dv => by subst ed; cases dv; exact ⟨i, rfl, k H1 s1⟩) q⟩, fun δ P P' g q => h.mono _ _ _ (fun d ⟨i, ed, k⟩ => ⟨i, ed, g _ k⟩) q⟩
def vSl (ta : ED) (tl th : OD) : ED := fun δ Q => ta δ fun d => tl δ fun lo => th δ fun hi => fSl d lo hi Q
theorem d_slice {lo hi : Option Expr} {tl th : OD} {p2 : Pos} (he : PD X e ta) (hl : POd X lo tl) (hh : POd X hi th) : PD X (.Subscript e (.Slice lo hi none p2) pos) (vSl ta tl th) := by
  refine ⟨(pe_slice sl_U he.pe hl.po hh.po).imp fun σ H Q ⟨δ, r, h⟩ => ⟨δ, r, he.mono _ _ _ (fun d h1 v H1 s1 dv => ⟨δ, r.same s1, hl.mono _ _ _ (fun lo h2 H2 s2 => ⟨δ, r.same (s1.trans s2), hh.mono _ _ _ (fun hi h3 H3 s3 => ?_) h2⟩) h1⟩) h⟩,
    fun δ P P' g h => he.mono _ _ _ (fun d h1 => hl.mono _ _ _ (fun lo h2 => hh.mono _ _ _ (fun hi h3 => m_sl g h3) h2) h1) h⟩
  have s := s1.trans (s2.trans s3)
  have dv3 := dv.same (s2.trans s3)
  clear h1 h2 dv
  cases dv3 with
  | lst h1 h2 => exact .inl ⟨_, _, rfl, h1, fun p hp => h3 _ _ (s.trans (same_upd hp)) (.lst (SqL.of upd_same) ((h2.cut lo hi).same (same_upd hp)))⟩
  | tup h1 h2 => exact .inr (.inl ⟨_, _, rfl, h1, by rw [h2.length]; exact h3.1, fun p hp => h3.2 _ _ (s.trans (same_upd hp)) (.tup (SqT.of upd_same) ((h2.cut lo hi).same (same_upd hp)))⟩)
  | str z => exact .inr (.inr ⟨z, rfl, h3.1, h3.2 _ H3 s (.str _)⟩)
  | _ => exact h3.elim
def vFld (K : PySem.W.Frag) (ta : ED) (f : Str) : ED := fun δ Q => ta δ fun d => ∃ C gs r, d = .obj C gs ∧ Cls K C ∧ NoAttr K C f ∧ gs.lookup f = some r ∧ Q r
theorem d_fld {f : Str} (he : PD X e ta) (hb : attributeBase e f X.env (eval e X.env) = eval e X.env) : PD X (.Attribute e f pos) (vFld X.K ta f) :=
  ⟨(pe_fldR he.pe hb).imp fun σ H Q ⟨δ, r, h⟩ => ⟨δ, r, he.mono _ _ _ (fun d ⟨C, gs, r, ed, hc, hn, hl, k⟩ v H1 s1 dv => by
      subst ed
      cases dv with
      | obj h1 h2 =>
        obtain ⟨w, hw, dw⟩ := h2.look hl
        exact ⟨_, _, _, _, w, rfl, h1, hc, hn, hw, k _ H1 s1 dw⟩) h⟩,
   fun δ P P' g h => he.mono _ _ _ (fun d ⟨C, gs, r, ed, hc, hn, hl, k⟩ => ⟨C, gs, r, ed, hc, hn, hl, g _ k⟩) h⟩
abbrev SpD := List D → (D → Prop) → Prop
abbrev MonoS (sd : SpD) : Prop := ∀ ds (P P' : D → Prop), (∀ d, P d → P' d) → sd ds P → sd ds P'
def spOf (K : PySem.W.Frag) (sd : SpD) : Sp := fun vs H Q _ => ∃ ds, Dvs K H vs ds ∧ sd ds (kD K H Q)
def vCall (sd : SpD) (t : AD) : ED := fun δ Q => t δ fun ds => sd ds Q
theorem d_call {k : Nat} {f : Addr} {fd : FuncData} {ps : List Str} {x : Str} {p : Pos} {sd : SpD} (F : FnOk X.prog X.w X.K X.mg X.base CX0 k f fd ps (spOf X.K sd)) (ms : MonoS sd) (hr : Room k X.A) (hg : Gl X x) (hm : X.mg x = some (.ref f))
    (hk : PySem.W.keepIn X.K (.ref f) = true) (hb : Binds X.K fd ps []) (ha : PAd X (e :: es) t) (hdb : (x == ("__debug__" : Str)) = false := by decide)
    (hp : PE X (.Call (.Name x p) (e :: es) [] pos) (tCall (spOf X.K sd) [] E0 (oA X.K t)) := by exact pe_call F hr hg hm hk hb .nil pass0 ha.pa) : PD X (.Call (.Name x p) (e :: es) [] pos) (vCall sd t) :=
  ⟨hp.imp fun σ H Q ⟨δ, r, h⟩ => ⟨δ, r, ha.mono _ _ _ (fun ds h1 vs H1 s1 dvs => ⟨ds, by rw [List.append_nil]; exact dvs, ms _ _ _ (fun d k => k.on s1) h1⟩) h⟩, fun δ P P' g h => ha.mono _ _ _ (fun ds h1 => ms _ _ _ g h1) h⟩
def vB (sd : SpD) (t : AD) : ED := fun δ Q => t δ fun ds => sd ds Q
def DoesB (K : PySem.W.Frag) (r : List V → Hp → VK → Prop) (sd : SpD) : Prop := ∀ H vs ds Q, Dvs K H vs ds → sd ds (kD K H Q) → r vs H Q
theorem d_cb {r : List V → Hp → VK → Prop} {sd : SpD} (hp : PE X e (tCB r (oA X.K t))) (ha : MonoA t) (hd : DoesB X.K r sd) (ms : MonoS sd) : PD X e (vB sd t) :=
  ⟨hp.imp fun σ H Q ⟨δ, r, h⟩ => ⟨δ, r, ha _ _ _ (fun ds h1 vs H1 s1 dvs => hd H1 vs ds Q dvs (ms _ _ _ (fun d k => k.on s1) h1)) h⟩, fun δ P P' g h => ha _ _ _ (fun ds h1 => ms _ _ _ g h1) h⟩
end
end DC

set_option maxHeartbeats 4000000
namespace DC
open PySem PySem.Spec PyProof.Rows L2
structure EndsD where
  nx : SD → Prop
  rt : D → Prop
  bk : SD → Prop := fun _ => False
  ct : SD → Prop := fun _ => False
abbrev TSD := EndsD → SD → Prop
structure EndsD.Le (E E' : EndsD) : Prop where
  nx : ∀ δ, E.nx δ → E'.nx δ
  rt : ∀ d, E.rt d → E'.rt d
  bk : ∀ δ, E.bk δ → E'.bk δ
  ct : ∀ δ, E.ct δ → E'.ct δ
abbrev MonoQ (t : TSD) : Prop := ∀ E E' δ, EndsD.Le E E' → t E δ → t E' δ
def kS (K : PySem.W.Frag) (H : Hp) (Q : L2.St → Hp → Prop) : SD → Prop := fun δ => ∀ σ H', Same H H' → RelS K H' σ δ → Q σ H'
def endsOf (K : PySem.W.Frag) (H : Hp) (D : Ends) : EndsD := ⟨kS K H D.nx, kD K H D.rt, kS K H D.bk, kS K H D.ct⟩
theorem kS.on {K : PySem.W.Frag} {H H1 : Hp} {Q : L2.St → Hp → Prop} {δ : SD} (s : Same H H1) (h : kS K H Q δ) : kS K H1 Q δ := fun σ H' s' r => h σ H' (s.trans s') r
theorem ends_on {K : PySem.W.Frag} {H H1 : Hp} {D : Ends} (s : Same H H1) : EndsD.Le (endsOf K H D) (endsOf K H1 D) := ⟨fun _ h => h.on s, fun _ h => h.on s, fun _ h => h.on s, fun _ h => h.on s⟩
def oS (K : PySem.W.Frag) (t : TSD) : TS := fun D σ H => ∃ δ, RelS K H σ δ ∧ t (endsOf K H D) δ
structure PSd (X : Cx) (st : Stmt) (t : TSD) : Prop where
  ps : PS X st (oS X.K t)
  mono : MonoQ t
structure PSsd (X : Cx) (st : List Stmt) (t : TSD) : Prop where
  ps : PSs X st (oS X.K t)
  mono : MonoQ t
section
variable {X : Cx} {st : Stmt} {rest body els : List Stmt} {t u : TSD} {e c : Expr} {te : ED} {uc : TD} {pos : Pos}
theorem PS.imp {t t' : TS} (h : PS X st t) (f : ∀ D σ H, t' D σ H → t D σ H) : PS X st t' := fun pins s σ H D I q => h pins s σ H D I (f D σ H q)
theorem PSs.imp {t t' : TS} (h : PSs X rest t) (f : ∀ D σ H, t' D σ H → t D σ H) : PSs X rest t' := fun pins s σ H D I q => h pins s σ H D I (f D σ H q)
def qNext : TSD := fun E δ => E.nx δ
def qSeq (t u : TSD) : TSD := fun E δ => t { E with nx := u E } δ
theorem ss_nil : PSsd X [] qNext := ⟨PSs.imp pss_nil fun D σ H ⟨δ, r, h⟩ => h σ H (Same.refl _) r, fun E E' δ l h => l.nx _ h⟩
theorem ss_cons (h1 : PSd X st t) (h2 : PSsd X rest u) : PSsd X (st :: rest) (qSeq t u) :=
  ⟨PSs.imp (pss_cons h1.ps h2.ps) fun D σ H ⟨δ, r, h⟩ => ⟨δ, r, h1.mono { endsOf X.K H D with nx := u (endsOf X.K H D) } _ _ ⟨fun δ' q σ' H' s' r' => ⟨δ', r', h2.mono _ _ _ (ends_on s') q⟩, fun _ q => q, fun _ q => q, fun _ q => q⟩ h⟩,
   fun E E' δ l h => h1.mono { E with nx := u E } _ _ ⟨fun δ' q => h2.mono _ _ _ l q, l.rt, l.bk, l.ct⟩ h⟩
theorem ss_one (h1 : PSd X st t) : PSsd X [st] t := ⟨pss_one h1.ps, h1.mono⟩
def qRet (te : ED) : TSD := fun E δ => te δ E.rt
theorem s_ret (he : PD X e te) : PSd X (.Return (some e) pos) (qRet te) := ⟨PS.imp (ps_ret he.pe) fun D σ H ⟨δ, r, h⟩ => ⟨δ, r, h⟩, fun E E' δ l h => he.mono _ _ _ l.rt h⟩
def qDrop (te : ED) : TSD := fun E δ => te δ fun _ => E.nx δ
theorem s_expr (he : PD X e te) (hs : swapsWith e none pos.line X.env = pure false := by rfl) : PSd X (.Expr e pos) (qDrop te) :=
  ⟨PS.imp (ps_expr he.pe hs) fun D σ H ⟨δ, r, h⟩ => ⟨δ, r, he.mono _ _ _ (fun d q v H1 s1 dv => q σ H1 s1 (r.same s1)) h⟩, fun E E' δ l h => he.mono _ _ _ (fun d q => l.nx _ q) h⟩
def qSet (i : Nat) (te : ED) : TSD := fun E δ => te δ fun d => E.nx (δ.set i (some d))
theorem s_set {i : Nat} {x : Str} {pos' : Pos} (hN : X.N.Nodup) (hi : X.N[i]? = some x) (hx : Loc X.env.scope x) (he : PD X e te) (hs : swapsWith e (some (.Name x pos')) pos.line X.env = pure false := by rfl)
    (hf : X.fn x = true ∨ X.env.scope.names.lookup x = some .local := by first | exact .inl rfl | exact .inr rfl | assumption) : PSd X (.Assign [.Name x pos'] e pos) (qSet i te) :=
  ⟨PS.imp (ps_set hN hi hx he.pe hs hf) fun D σ H ⟨δ, r, h⟩ => ⟨δ, r, he.mono _ _ _ (fun d q v H1 s1 dv => q _ H1 s1 ((r.same s1).set i dv)) h⟩, fun E E' δ l h => he.mono _ _ _ (fun d q => l.nx _ q) h⟩
def qIf (uc : TD) (t u : TSD) : TSD := fun E δ => uc δ fun b => if b = true then t E δ else u E δ
theorem s_if (hc : PTd X c uc) (ha : PSsd X body t) (hb : PSsd X els u) : PSd X (.If c body els pos) (qIf uc t u) := by
  refine ⟨PS.imp (ps_if hc.pt ha.ps hb.ps) fun D σ H ⟨δ, r, h⟩ => ⟨δ, r, hc.mono _ _ _ (fun k q H1 s1 => ?_) h⟩, fun E E' δ l h => hc.mono _ _ _ (fun k q => ?_) h⟩
  · cases k with
    | true => rw [if_pos rfl] at q ⊢; exact ⟨δ, r.same s1, ha.mono _ _ _ (ends_on s1) q⟩
    | false => rw [if_neg Bool.false_ne_true] at q ⊢; exact ⟨δ, r.same s1, hb.mono _ _ _ (ends_on s1) q⟩
  · cases k with
    | true => rw [if_pos rfl] at q ⊢; exact ha.mono _ _ _ l q
    | false => rw [if_neg Bool.false_ne_true] at q ⊢; exact hb.mono _ _ _ l q
def qNever : TSD := fun _ _ => False
theorem s_never : PSd X st qNever := ⟨PS.imp ps_never fun D σ H ⟨δ, r, h⟩ => h, fun E E' δ l h => h⟩
theorem ss_never : PSsd X rest qNever := ⟨PSs.imp pss_never fun D σ H ⟨δ, r, h⟩ => h, fun E E' δ l h => h⟩
end
def startD (N : List Str) (ds : List D) : SD := ds.map some ++ List.replicate (N.length - ds.length) none
theorem start_rel {K : PySem.W.Frag} {H : Hp} {N : List Str} {vs : List V} {ds : List D} (h : Dvs K H vs ds) : RelS K H (L2.start N vs) (startD N ds) := by
  unfold L2.start startD
  have hl := h.length
  refine ⟨by rw [List.length_append, List.length_append, List.length_map, List.length_map, List.length_replicate, List.length_replicate, hl], fun i d e => ?_⟩
  by_cases hi : i < ds.length
  · rw [List.getElem?_append_left (by rw [List.length_map]; exact hi), List.getElem?_map] at e
    cases q : ds[i]? with
    | none => rw [q] at e; cases e
    | some d' =>
      rw [q] at e
      cases e
      obtain ⟨v, hv, dv⟩ := h.get q
      exact ⟨v, by rw [List.getElem?_append_left (by rw [List.length_map]; omega), List.getElem?_map, hv]; rfl, dv⟩
  · rw [List.getElem?_append_right (by rw [List.length_map]; omega), List.getElem?_replicate] at e
    split at e <;> cases e
section
variable {P : Program} {w : World} {K : PySem.W.Frag} {mg : Str → Option Value} {base : Heap}
abbrev Bx (P : Program) (w : World) (K : PySem.W.Frag) (mg : Str → Option Value) (base : Heap) (N : List Str) (qual : Str) (st : Stmt) (f : Addr) (cdv : Value) (A : Around) (outer : List Env) (s : Shared) (H : Hp) (E : XK) : Cx := (cxOf CX0 P w K mg base N qual (defScope st) f cdv A outer s H E).nox
theorem okD {x qual : Str} {st : Stmt} {f : Addr} {fd : FuncData} {N ps : List Str} {k : Nat} {sd : SpD} {t : TSD} (F : Fun K x qual st f fd) (S : FnScope N ps (defScope st)) (len : ∀ ds Q, sd ds Q → ds.length = ps.length)
    (hb : ∀ (cdv : Value) (A : Around) (outer : List Env) (s : Shared) (H : Hp) (E : XK), Room k (A.deeper (envOfC qual (defScope st) s.heap.objs.size f cdv)) → PSsd (Bx P w K mg base N qual st f cdv A outer s H E) (defBody st) t)
    (hr : ∀ ds Q, sd ds Q → t { nx := fun _ => Q .non, rt := Q } (startD N ds)) : FnOk P w K mg base CX0 (k + 1) f fd ps (spOf K sd) := by
  refine F.ok S (fun vs H Q E ⟨ds, dvs, h⟩ => by rw [dvs.length]; exact len ds _ h) (fun cdv A outer s H vs Q E hroom ⟨ds, dvs, h⟩ => ?_)
  have B := hb cdv A outer s H E hroom
  refine ⟨_, B.ps, startD N ds, start_rel dvs, ?_⟩
  refine B.mono { nx := fun _ => kD K H Q .non, rt := kD K H Q } _ _ ⟨fun δ q σ H' s' r => q _ H' s' .non, fun d q => q, fun _ q => q.elim, fun _ q => q.elim⟩ (hr ds _ h)
end
end DC

set_option maxHeartbeats 4000000
namespace DC
open PySem PySem.Spec PyProof.Rows L2
structure ItD (K : PySem.W.Frag) (J : It) (H1 : Hp) (ds : List D) : Prop where
  go : ∀ i H', Same H1 H' → i < ds.length → J.go i H'
  stop : ∀ H', Same H1 H' → J.stop ds.length H'
  yld : ∀ i H' x H'', Same H1 H' → i < ds.length → J.yld i H' x H'' → Same H' H'' ∧ ∃ d, ds[i]? = some d ∧ ∃ Hx, Same H1 Hx ∧ Dv K Hx x d ∧ (∀ a o, Hx a = some o → H1 a = some o ∨ H' a = none) ∧ Same Hx H''
structure PId (X : Cx) (tg iter : Expr) (ti : AD) : Prop where
  pi : PI X tg iter (fun σ H R => ∃ δ, RelS X.K H σ δ ∧ ti δ fun ds => ∀ J H1, Same H H1 → ItD X.K J H1 ds → R J H1)
  mono : MonoA ti
def itemsD : D → Option (List D)
  | .lst xs => some xs
  | .tup xs => some xs
  | .str y => some (y.cps.toList.map fun c => .str ⟨#[c]⟩)
  | _ => none
def aItems (te : ED) : AD := fun δ Q => te δ fun d => ∃ ds, itemsD d = some ds ∧ Q ds
section
variable {X : Cx} {tg : Expr} {l : Expr} {te : ED}
theorem PI.imp {wi wi' : TI} (h : PI X tg l wi) (f : ∀ σ H R, wi' σ H R → wi σ H R) : PI X tg l wi' := fun pins s σ H R I q => h pins s σ H R I (f σ H R q)
theorem pi_any {tl : TE} (hl : PE X l tl) : PI X tg l (fun σ H R => tl σ H fun x H1 => (∃ a, x = .ref a ∧ (∃ xs, SqL X.K H1 a xs) ∧ R (Itl X.K a) H1) ∨ (∃ a, x = .ref a ∧ (∃ xs, SqT X.K H1 a xs) ∧ R (Itt X.K a) H1) ∨ ∃ y, x = .str y ∧ R (Its y) H1) := by
  intro pins s σ H R I h
  refine thn (hl pins s σ H _ I h) fun v s1 ⟨x, H1, I1, r1, q1⟩ => ?_
  have hf : ∀ b ∈ [s1.heap.objs.size], FpOk X pins H1 b := fun b hb => by
    have e : b = s1.heap.objs.size := by simpa using hb
    subst e
    exact I1.fpOk (Nat.le_refl _) (I1.hok.fresh (Nat.le_refl _))
  rcases q1 with ⟨a, e, ⟨xs, hq⟩, q⟩ | ⟨a, e, ⟨xs, hq⟩, q⟩ | ⟨y, e, q⟩
  · subst e
    cases (show v = Value.ref a from r1)
    obtain ⟨its, rv, p, hz⟩ := I1.list hq
    exact wpAny_pyIter_list p.isList ⟨s1.heap.objs.size, [s1.heap.objs.size], _, _, H1, rfl, I1.kept (t' := s1.toks) fun b o e => Heap.get?_push_of_some _ e, turn_list a _, ⟨_, Heap.get?_push_size _ rfl, rfl, rfl⟩, hf, q⟩
  · subst e
    cases (show v = Value.ref a from r1)
    obtain ⟨its, rv, p, hz⟩ := I1.tuple hq
    exact wpAny_pyIter_tuple (show s1.heap.IsTuple a its.toArray from p) ⟨s1.heap.objs.size, [s1.heap.objs.size], _, _, H1, rfl, I1.kept (t' := s1.toks) fun b o e => Heap.get?_push_of_some _ e, turn_tuple a _, ⟨_, Heap.get?_push_size _ rfl, rfl, rfl⟩, hf, q⟩
  · subst e
    obtain ⟨t, rfl⟩ := r1
    cases ha : y.cps.all (· < 128)
    · exact wpAny_pyIter_wide ha ⟨s1.heap.objs.size, [s1.heap.objs.size], _, _, H1, rfl, I1.kept (t' := s1.toks) fun b o e => Heap.get?_push_of_some _ e, turn_strW y t _, ⟨_, Heap.get?_push_size _ rfl, rfl, rfl⟩, hf, q⟩
    · exact wpAny_pyIter_ascii ha ⟨s1.heap.objs.size, [s1.heap.objs.size], _, _, H1, rfl, I1.kept (t' := s1.toks) fun b o e => Heap.get?_push_of_some _ e, turn_strA y t _, ⟨_, Heap.get?_push_size _ rfl, rfl, rfl⟩, hf, q⟩
theorem i_any (he : PD X l te) : PId X tg l (aItems te) := by
  refine ⟨PI.imp (pi_any he.pe) fun σ H R ⟨δ, r, h⟩ => ⟨δ, r, he.mono _ _ _ (fun d ⟨ds, e, q⟩ v H1 s1 dv => ?_) h⟩, fun δ P P' g h => he.mono _ _ _ (fun d ⟨ds, e, q⟩ => ⟨ds, e, g _ q⟩) h⟩
  cases dv with
  | lst h1 h2 =>
    cases e
    refine .inl ⟨_, rfl, ⟨_, h1⟩, q _ H1 s1 ⟨fun i H' s' hi => ?_, fun H' s' => ⟨_, s'.seq h1, by rw [h2.length]; exact Nat.le_refl _⟩, fun i H' x H'' s' hi y => ?_⟩⟩
    · obtain ⟨v, hv, _⟩ := h2.get (List.getElem?_eq_getElem hi)
      exact ⟨_, v, s'.seq h1, hv⟩
    · obtain ⟨rfl, y2⟩ := y
      obtain ⟨d, hd, dv⟩ := h2.getV (y2 _ (s'.seq h1))
      exact ⟨Same.refl _, d, hd, H1, Same.refl _, dv, fun _ _ z => .inl z, s'⟩
  | tup h1 h2 =>
    cases e
    refine .inr (.inl ⟨_, rfl, ⟨_, h1⟩, q _ H1 s1 ⟨fun i H' s' hi => ?_, fun H' s' => ⟨_, sameT s' h1, by rw [h2.length]; exact Nat.le_refl _⟩, fun i H' x H'' s' hi y => ?_⟩⟩)
    · obtain ⟨v, hv, _⟩ := h2.get (List.getElem?_eq_getElem hi)
      exact ⟨_, v, sameT s' h1, hv⟩
    · obtain ⟨rfl, y2⟩ := y
      obtain ⟨d, hd, dv⟩ := h2.getV (y2 _ (sameT s' h1))
      exact ⟨Same.refl _, d, hd, H1, Same.refl _, dv, fun _ _ z => .inl z, s'⟩
  | str y =>
    cases e
    refine .inr (.inr ⟨_, rfl, q _ H1 s1 ⟨fun i H' s' hi => ?_, fun H' s' => ?_, fun i H' x H'' s' hi y => ?_⟩⟩)
    · have hi' : i < y.cps.size := by simpa using hi
      exact hi'
    · show y.cps.size ≤ _
      simp
    · obtain ⟨rfl, c, hc, rfl⟩ := y
      refine ⟨Same.refl _, .str ⟨#[c]⟩, ?_, H1, Same.refl _, .str _, fun _ _ z => .inl z, s'⟩
      rw [List.getElem?_map, Array.getElem?_toList, hc]
      rfl
  | _ => cases e
def aRange1 (t : AD) : AD := fun δ Q => t δ fun ds => ∃ n : Int, ds = [.int n] ∧ -(2 ^ 62) ≤ n ∧ n < 2 ^ 62 ∧ Q ((List.range n.toNat).map fun i : Nat => .int (0 + (i : Int)))
theorem it_range {K : PySem.W.Frag} {H : Hp} (lo : Int) (n : Nat) : ItD K (Itr lo n) H ((List.range n).map fun i : Nat => .int (lo + (i : Int))) := by
  refine ⟨fun i H' s' hi => ?_, fun H' s' => ?_, fun i H' x H'' s' hi y => ?_⟩
  · have hi' : i < n := by simpa using hi
    exact hi'
  · show n ≤ _
    simp
  · obtain ⟨rfl, rfl⟩ := y
    have hi' : i < n := by simpa using hi
    exact ⟨Same.refl _, .int (lo + i), by rw [List.getElem?_map, List.getElem?_range hi']; rfl, H, Same.refl _, .int _, fun _ _ z => .inl z, s'⟩
theorem i_range1 {a : Expr} {ta : AD} {p pos : Pos} (hg : Gl X "range") (hm : X.mg "range" = none) (ha : PAd X [a] ta) (hs : starEach [a] X.env = [(false, eval a X.env)] := by rfl) : PId X tg (.Call (.Name "range" p) [a] [] pos) (aRange1 ta) := by
  refine ⟨PI.imp (pi_range1 hg hm ha.pa hs) fun σ H R ⟨δ, r, h⟩ => ⟨δ, r, ha.mono _ _ _ (fun ds ⟨n, e, h1, h2, q⟩ vs H1 s1 dvs => ?_) h⟩, fun δ P P' g h => ha.mono _ _ _ (fun ds ⟨n, e, h1, h2, q⟩ => ⟨n, e, h1, h2, g _ q⟩) h⟩
  subst e
  cases dvs with
  | cons a b =>
    cases a
    cases b
    exact ⟨n, rfl, h1, h2, q _ H1 s1 (it_range 0 n.toNat)⟩
end
abbrev TGD := D → SD → (SD → Prop) → Prop
structure PGd (X : Cx) (tg : Expr) (g : TGD) : Prop where
  pg : PG X tg (fun v σ H Q => ∃ d δ, Dv X.K H v d ∧ RelS X.K H σ δ ∧ g d δ (kS X.K H Q))
  mono : ∀ d δ (P P' : SD → Prop), (∀ δ, P δ → P' δ) → g d δ P → g d δ P'
def hName (i : Nat) : TGD := fun d δ Q => Q (δ.set i (some d))
section
variable {X : Cx} {tg iter : Expr} {body : List Stmt} {ti : AD} {g : TGD} {tb : TSD} {pos : Pos}
theorem PG.imp {t t' : TG} (h : PG X tg t) (f : ∀ v σ H Q, t' v σ H Q → t v σ H Q) : PG X tg t' := fun pins s σ H v u Q I r q => h pins s σ H v u Q I r (f v σ H Q q)
theorem g_name {i : Nat} {x : Str} (hN : X.N.Nodup) (hi : X.N[i]? = some x) (hx : Loc X.env.scope x) (hf : X.fn x = true ∨ X.env.scope.names.lookup x = some .local := by first | exact .inl rfl | exact .inr rfl | assumption) : PGd X (.Name x pos) (hName i) :=
  ⟨PG.imp (pg_name hN hi hx hf) fun v σ H Q ⟨d, δ, dv, r, q⟩ => q _ H (Same.refl _) (r.set i dv), fun d δ P P' f q => f _ q⟩
def qFor (ti : AD) (g : TGD) (tb : TSD) : TSD := fun E δ => ti δ fun ds => ∃ inv : Nat → SD → Prop, inv 0 δ ∧
  (∀ i d δ', ds[i]? = some d → inv i δ' → g d δ' fun δ2 => tb { E with nx := inv (i + 1), ct := inv (i + 1), bk := E.nx } δ2) ∧ ∀ δ', inv ds.length δ' → E.nx δ'
theorem s_for (hp : PassesOwn (model X.prog X.w) X.A X.env X.xe) (hc : X.calm = true) (hi : PId X tg iter ti) (hg : PGd X tg g) (hb : PSsd X body tb) (hs : ∀ x, foldedSetIterable iter X.env x = pure x := by intro _; rfl) :
    PSd X (.For tg iter body [] pos) (qFor ti g tb) := by
  refine ⟨PS.imp (ps_for hp hc hi.pi hg.pg hb.ps hs) fun D σ H ⟨δ, r, h⟩ => ⟨δ, r, hi.mono _ _ _ (fun ds ⟨inv, i0, step, fin⟩ J H1 s1 it => ?_) h⟩, fun E E' δ l h => hi.mono _ _ _ (fun ds ⟨inv, i0, step, fin⟩ => ⟨inv, i0, fun i d δ' hd hin => hg.mono _ _ _ _ (fun δ2 q => hb.mono { E with nx := inv (i + 1), ct := inv (i + 1), bk := E.nx } _ _ ⟨fun _ q => q, l.rt, l.nx, fun _ q => q⟩ q) (step i d δ' hd hin), fun δ' q => l.nx _ (fin δ' q)⟩) h⟩
  refine ⟨fun i m σ' H' => m = ds.length - i ∧ i ≤ ds.length ∧ Same H1 H' ∧ ∃ δ', RelS X.K H' σ' δ' ∧ inv i δ', ⟨ds.length, rfl, Nat.zero_le _, Same.refl _, δ, r.same s1, i0⟩, ?_⟩
  rintro i m σ' H' ⟨rfl, hle, s', δ', r', hin⟩
  by_cases hlt : i < ds.length
  · refine .inr ⟨it.go i H' s' hlt, fun σ2 H2 => Same H1 H2 ∧ ∃ δ2, RelS X.K H2 σ2 δ2 ∧ inv (i + 1) δ2, fun σ2 H2 ⟨s2, δ2, r2, h2⟩ => ⟨ds.length - (i + 1), by omega, rfl, hlt, s2, δ2, r2, h2⟩, fun x H'' y => ?_⟩
    obtain ⟨s2, d, hd, Hx, _, dvx, _, sx⟩ := it.yld i H' x H'' s' hlt y
    have dv := dvx.same sx
    have sA := s'.trans s2
    refine ⟨d, δ', dv, r'.same s2, hg.mono _ _ _ _ (fun δ2 q σ3 H3 s3 r3 => ⟨δ2, r3, hb.mono { endsOf X.K H D with nx := inv (i + 1), ct := inv (i + 1), bk := (endsOf X.K H D).nx } _ _ ?_ q⟩) (step i d δ' hd hin)⟩
    have sB := s1.trans (sA.trans s3)
    exact ⟨fun δ3 q3 σ4 H4 s4 r4 => ⟨sA.trans (s3.trans s4), δ3, r4, q3⟩, fun _ q3 => q3.on sB, fun _ q3 => q3.on sB, fun δ3 q3 σ4 H4 s4 r4 => ⟨sA.trans (s3.trans s4), δ3, r4, q3⟩⟩
  · have e : i = ds.length := by omega
    subst e
    exact .inl ⟨it.stop H' s', fin δ' hin σ' H' (s1.trans s') r'⟩
end
end DC

set_option maxHeartbeats 4000000
namespace DC
open PySem PySem.Spec PyProof.Rows L2
structure PTsd (X : Cx) (ifs : List Expr) (t : TD) : Prop where
  pts : PTs X ifs (oT X.K t)
  mono : MonoT t
def uYes : TD := fun _ Q => Q true
section
variable {X : Cx} {c : Expr} {ut : TD}
theorem PTs.imp {ifs : List Expr} {t t' : TT} (h : PTs X ifs t) (f : ∀ σ H Q, t' σ H Q → t σ H Q) : PTs X ifs t' := fun pins s σ H Q I q => h pins s σ H Q I (f σ H Q q)
theorem ts_nil : PTsd X [] uYes := ⟨PTs.imp pts_nil fun σ H Q ⟨δ, r, h⟩ => h H (Same.refl _), fun δ P P' g h => g _ h⟩
end
def capD (caps : List Nat) (δ : SD) : SD := caps.map fun j => (δ[j]?).getD none
def vComp (caps : List Nat) (ti : AD) (tt : TD) (te : ED) : ED := fun δ Q => ti δ fun ds => ∃ outs : List (Option D), outs.length = ds.length ∧
  (∀ (i : Nat) (d : D) (o : Option D), ds[i]? = some d → outs[i]? = some o → tt (some d :: capD caps δ) fun b => b = o.isSome ∧ (b = true → te (some d :: capD caps δ) fun y => o = some y)) ∧ ds.length < sizeLine ∧ Q (.lst (outs.filterMap id))
theorem cap_rel {K : PySem.W.Frag} {H : Hp} {σ : L2.St} {δ : SD} (r : RelS K H σ δ) {x : V} {d : D} (dv : Dv K H x d) (caps : List Nat) : RelS K H (some x :: caps.map fun j => (σ[j]?).getD none) (some d :: capD caps δ) := by
  refine ⟨by unfold capD; simp, fun i e h => ?_⟩
  cases i with
  | zero => simp at h; subst h; exact ⟨x, rfl, dv⟩
  | succ i =>
    unfold capD at h
    simp only [List.getElem?_cons_succ, List.getElem?_map] at h ⊢
    cases q : caps[i]? with
    | none => rw [q] at h; cases h
    | some j =>
      rw [q] at h
      have h' : (δ[j]?).getD none = some e := by simpa using h
      have h2 : δ[j]? = some (some e) := by
        cases z : δ[j]? with
        | none => rw [z] at h'; cases h'
        | some o => rw [z] at h'; exact congrArg some h'
      obtain ⟨v, hv, dv⟩ := r.get j e h2
      exact ⟨v, by simp [hv], dv⟩
theorem comp_imp {K : PySem.W.Frag} {caps : List Nat} {ti : AD} {tt : TD} {te : ED} (mi : MonoA ti) (mt : MonoT tt) (me : MonoE te) {σ : L2.St} {H : Hp} {Q : VK} (h : oE K (vComp caps ti tt te) σ H Q) :
    rComp 1 caps (fun σ H R => ∃ δ, RelS K H σ δ ∧ ti δ fun ds => ∀ J H1, Same H H1 → ItD K J H1 ds → R J H1) (gName 0) (uFrame (oT K tt)) (tFrame (oE K te)) σ H Q := by
  obtain ⟨δ, r, h⟩ := h
  refine ⟨δ, r, mi _ _ _ (fun ds ⟨outs, hol, each, hlen, q⟩ J H1 s1 it D hD => ?_) h⟩
  refine ⟨fun i m ys H' => m = ds.length - i ∧ i ≤ ds.length ∧ ∃ H0, H0 D = none ∧ Same H1 H0 ∧ Dvs K H0 ys ((outs.take i).filterMap id) ∧ H' = upd H0 D (.lst ys), ⟨ds.length, rfl, Nat.zero_le _, H1, hD, Same.refl _, .nil, rfl⟩, ?_⟩
  rintro i m ys H' ⟨rfl, hle, H0, h0, s0, dys, rfl⟩
  refine ⟨upd_same, ?_⟩
  have sU : Same H1 (upd H0 D (.lst ys)) := s0.trans (same_upd h0)
  by_cases hlt : i < ds.length
  · refine .inr ⟨it.go i _ sU hlt, fun x H'' y => ?_⟩
    obtain ⟨s2, d, hd, Hx, sx1, dvx, only, sx⟩ := it.yld i _ x H'' sU hlt y
    have hD2 : H'' D = some (.lst ys) := s2 _ _ upd_same
    have ne1 : ∀ a o, H1 a = some o → a ≠ D := fun a o z => ne_of_none z hD
    have nex : ∀ a o, Hx a = some o → a ≠ D := fun a o z w => by
      rcases only a o z with z1 | z1
      · exact ne1 a o z1 w
      · rw [w, upd_same] at z1; cases z1
    have sd1 : Same H0 (del H'' D) := fun a o z => by
      rw [del_ne (ne_of_none z h0)]
      exact s2 a o (same_upd h0 a o z)
    have sdx : Same Hx (del H'' D) := fun a o z => by
      rw [del_ne (nex a o z)]
      exact sx a o z
    obtain ⟨o, ho⟩ : ∃ o, outs[i]? = some o := ⟨_, List.getElem?_eq_getElem (show i < outs.length by omega)⟩
    have rel : RelS K (del H'' D) (some x :: caps.map fun j => (σ[j]?).getD none) (some d :: capD caps δ) := cap_rel (r.same (s1.trans (s0.trans sd1))) (dvx.same sdx) caps
    refine ⟨Le.one, D, ys, hD2, _, rel, mt _ _ _ (fun b ⟨eb, hb⟩ H3 s3 h3 => ?_) (each i d o hd ho)⟩
    have ht : outs.take (i + 1) = outs.take i ++ [o] := by rw [List.take_succ, ho]; rfl
    have s03 : Same H0 H3 := sd1.trans s3
    cases b with
    | false =>
      refine iteF ?_
      refine ⟨ds.length - (i + 1), by omega, rfl, hlt, H3, h3, s0.trans s03, ?_, rfl⟩
      have on : o = none := by cases o with | none => rfl | some z => cases eb
      rw [ht, on, List.filterMap_append]
      simpa using dys.same s03
    | true =>
      refine iteT ?_
      refine ⟨D, ys, upd_same, ?_⟩
      rw [del_upd h3]
      refine ⟨_, rel.same s3, me _ _ _ (fun y ey v H4 s4 dv h4 => ⟨upd_same, ?_, ds.length - (i + 1), by omega, rfl, hlt, H4, h4, s0.trans (s03.trans s4), ?_, upd_upd⟩) (hb rfl)⟩
      · rw [dys.length]
        exact Nat.lt_of_le_of_lt (Nat.le_trans (List.length_filterMap_le _ _) (List.length_take_le' _ _)) (by rw [hol]; exact hlen)
      · rw [ht, ey, List.filterMap_append]
        exact (dys.same (s03.trans s4)).append (.cons dv .nil)
  · have e : i = ds.length := by omega
    subst e
    refine .inl ⟨it.stop _ sU, ?_⟩
    rw [← hol, List.take_length] at dys
    exact q _ _ (s1.trans sU) (.lst (SqL.of upd_same) (dys.same (same_upd h0)))
section
variable {X : Cx} {scope : Scope} {cl : List (Str × Addr)} {x : Str} {cn : List Str} {caps : List Nat} {elt tg iter : Expr} {ifs : List Expr} {ti : AD} {tt : TD} {te : ED} {pos : Pos}
theorem m_comp (mi : MonoA ti) : MonoE (vComp caps ti tt te) := fun δ P P' g h => mi _ _ _ (fun ds ⟨outs, hol, each, hlen, q⟩ => ⟨outs, hol, each, hlen, g _ q⟩) h
theorem d_comp (S : CompScope X scope cl [x] caps cn) (hc : X.calm = true) (hi : PId X tg iter ti) (hg : ∀ C fp s₂ H₂, PG (cxComp X scope cl C ([x] ++ cn) fp s₂ H₂) tg (gName 0)) (ht : ∀ C fp s₂ H₂, PTsd (cxComp X scope cl C ([x] ++ cn) fp s₂ H₂) ifs tt)
    (he : ∀ C fp s₂ H₂, PD (cxComp X scope cl C ([x] ++ cn) fp s₂ H₂) elt te) (mt : MonoT tt) (me : MonoE te) (hs : ∀ x, foldedSetIterable iter X.env x = pure x := by intro _; rfl) : PD X (.ListComp elt [⟨tg, iter, ifs, 0⟩] scope pos) (vComp caps ti tt te) :=
  ⟨(pe_comp S hc hi.pi hg (fun C fp s₂ H₂ => pts_frameN (ht C fp s₂ H₂).pts) (fun C fp s₂ H₂ => pe_frameN (he C fp s₂ H₂).pe) hs).imp fun σ H Q h => comp_imp hi.mono mt me h, m_comp hi.mono⟩
theorem s_comp {i : Nat} {y : Str} {py spos : Pos} (hN : X.N.Nodup) (hi' : X.N[i]? = some y) (hy : Loc X.env.scope y) (S : CompScope X scope cl [x] caps cn) (hc : X.calm = true) (hi : PId X tg iter ti)
    (hg : ∀ C fp s₂ H₂, PG (cxComp X scope cl C ([x] ++ cn) fp s₂ H₂) tg (gName 0)) (ht : ∀ C fp s₂ H₂, PTsd (cxComp X scope cl C ([x] ++ cn) fp s₂ H₂) ifs tt) (he : ∀ C fp s₂ H₂, PD (cxComp X scope cl C ([x] ++ cn) fp s₂ H₂) elt te) (mt : MonoT tt) (me : MonoE te)
    (hsw : swapsWith (.ListComp elt [⟨tg, iter, ifs, 0⟩] scope pos) (some (.Name y py)) spos.line X.env = pure true := by rfl) (hf : X.fn y = true ∨ X.env.scope.names.lookup y = some .local := by first | exact .inl rfl | exact .inr rfl | assumption)
    (hs : ∀ x, foldedSetIterable iter X.env x = pure x := by intro _; rfl) : PSd X (.Assign [.Name y py] (.ListComp elt [⟨tg, iter, ifs, 0⟩] scope pos) spos) (qSet i (vComp caps ti tt te)) :=
  ⟨PS.imp (ps_comp hN hi' hy S hc hi.pi hg (fun C fp s₂ H₂ => pts_frameN (ht C fp s₂ H₂).pts) (fun C fp s₂ H₂ => pe_frameN (he C fp s₂ H₂).pe) hsw hf hs) fun D σ H ⟨δ, r, h⟩ =>
     comp_imp hi.mono mt me ⟨δ, r, m_comp hi.mono _ _ _ (fun d q v H1 s1 dv => q _ H1 s1 ((r.same s1).set i dv)) h⟩,
   fun E E' δ l h => m_comp hi.mono _ _ _ (fun d q => l.nx _ q) h⟩
end
end DC

set_option maxHeartbeats 4000000
namespace DC
open PySem PySem.Spec PyProof.Rows L2
def kindD : D → Option String
  | .non => some "NoneType"
  | .bl _ => some "bool"
  | .int _ => some "int"
  | .str _ => some "str"
  | .lst _ => some "list"
  | .tup _ => some "tuple"
  | .dK _ => some "dict"
  | .dT _ => some "dict"
  | .obj _ _ => none
  | .adr _ => none
  | .exc _ _ _ => none
structure OwnTy (K : PySem.W.Frag) (C : Addr) : Prop where
  cl : Cls K C
  ha : PySem.W.findIn K (.ref C) "__class__" = some (some (.builtin "object.__class__"))
  hn : PySem.W.specialIn K (.builtin "object.__class__") "__get__" = some (some (.builtin "getset_descriptor.__get__"))
  htk : PySem.W.takesIn K (.builtin "object.__class__") = some true
  hm : PySem.W.mroIn K C (.type "object") = some true
inductive TyD (K : PySem.W.Frag) : D → Value → Prop
  | k {d : D} {T : String} (h : kindD d = some T) : TyD K d (.type T)
  | o {C : Addr} {gs : List (Str × D)} (h : OwnTy K C) : TyD K (.obj C gs) (.ref C)
section
variable {X : Cx} {pins : List (Addr × Obj)} {σ : L2.St} {H : Hp} {s : Shared}
theorem isi_run {x : V} {u t : Value} {d : D} (I : Inv X pins σ H s) (rx : RelV x u) (dv : Dv X.K H x d) (ty : TyD X.K d t) : ∃ Hh, PySem.W.KitX X.K u t Hh ∧ Hh s.heap ∧ u ≠ .builtin "__main__.__loader__#opaque" := by
  cases ty with
  | k h =>
    cases dv with
    | non => cases h; cases (show u = Value.none from rx); exact ⟨_, PySem.W.kitx_none, True.intro, fun z => nomatch z⟩
    | bl y => cases h; cases (show u = Value.bool y from rx); exact ⟨_, PySem.W.kitx_bool, True.intro, fun z => nomatch z⟩
    | int i => cases h; obtain ⟨t, q⟩ := (show ∃ t, u = Value.int i t from rx); cases q; exact ⟨_, PySem.W.kitx_int, True.intro, fun z => nomatch z⟩
    | str y => cases h; obtain ⟨t, q⟩ := (show ∃ t, u = Value.str y t from rx); cases q; exact ⟨_, PySem.W.kitx_str, True.intro, fun z => nomatch z⟩
    | @lst a xs ds h1 h2 =>
      cases h
      cases (show u = Value.ref a from rx)
      obtain ⟨its, _, pl, _⟩ := I.list h1
      obtain ⟨o, n, e1, e2, _⟩ := pl
      exact ⟨_, PySem.W.kitx_list, ⟨o, e1, e2⟩, fun z => nomatch z⟩
    | @tup a xs ds h1 h2 =>
      cases h
      cases (show u = Value.ref a from rx)
      obtain ⟨its, _, pl, _⟩ := I.tuple h1
      obtain ⟨o, n, e1, e2, _⟩ := IsTup.of_get pl
      exact ⟨_, PySem.W.kitx_tuple, ⟨o, e1, e2⟩, fun z => nomatch z⟩
    | @dK a kvs gs h1 h2 =>
      cases h
      cases (show u = Value.ref a from rx)
      obtain ⟨_, _, vs, _, p⟩ := (show ObjOk X.prog X.w H s.heap a (.dK kvs) from h1.ok I.hok)
      obtain ⟨o, es, ep, g1, g2, _⟩ := p
      exact ⟨_, PySem.W.kitx_dict, ⟨o, g1, g2.1⟩, fun z => nomatch z⟩
    | @dT a kvs gs h1 h2 =>
      cases h
      cases (show u = Value.ref a from rx)
      obtain ⟨_, _, xs, _, o, es, ep, g1, g2, _⟩ := (show ObjOk X.prog X.w H s.heap a (.dT kvs) from h1.ok I.hok)
      exact ⟨_, PySem.W.kitx_dict, ⟨o, g1, g2.1⟩, fun z => nomatch z⟩
    | obj h1 h2 => cases h
    | adr _ => cases h
    | exc _ _ _ => cases h
  | o h =>
    cases dv with
    | @obj a C dx fs gs h1 h2 =>
      cases (show u = Value.ref a from rx)
      obtain ⟨mA, O, _⟩ := ins_getR I.hok h1
      obtain ⟨od, J, _⟩ := O.look
      exact ⟨_, PySem.W.kitx_own (h.cl.get _) h.cl.hd h.ha h.hn h.htk h.hm, J, fun z => nomatch z⟩
end
section
variable {X : Cx} {e : Expr} {te : ED} {pos p p2 : Pos}
theorem call_isiD {c : Value} {vc : V} (rc : ∀ u, RelV vc u → u = c) : CallR X (.builtin "isinstance") (fun xs H Q => ∃ x d t b, xs = [x, vc] ∧ Dv X.K H x d ∧ TyD X.K d t ∧ PySem.W.kitOne X.K t c = some b ∧ Q (.bl b) H) := by
  intro pins s σ H xs us Q I r h
  obtain ⟨x, d, t, b, rfl, dv, ty, e, q⟩ := h
  obtain ⟨u, w', rfl, r1, r2⟩ := vals2 r
  obtain rfl := rc w' r2
  obtain ⟨Hh, Z, hh, hx⟩ := isi_run I r1 dv ty
  exact PySem.W.kia_one Z I.kIn hh e hx fun tk => ⟨.bl b, H, I.tok _, rfl, q⟩
def vIsi (K : PySem.W.Frag) (c : Value) (te : ED) : ED := fun δ Q => te δ fun d => ∃ t b, TyD K d t ∧ PySem.W.kitOne K t c = some b ∧ Q (.bl b)
theorem d_isi_of {c : Value} {vc : V} (he : PD X e te) {ec : Expr} (hp : PE X (.Call (.Name "isinstance" p) [e, ec] [] pos) (tCB (fun xs H Q => ∃ x d t b, xs = [x, vc] ∧ Dv X.K H x d ∧ TyD X.K d t ∧ PySem.W.kitOne X.K t c = some b ∧ Q (.bl b) H) (tCons (oE X.K te) (tCons (tC vc) tNil)))) :
    PD X (.Call (.Name "isinstance" p) [e, ec] [] pos) (vIsi X.K c te) :=
  ⟨hp.imp fun σ H Q ⟨δ, r, h⟩ => ⟨δ, r, he.mono _ _ _ (fun d ⟨t, b, ty, ek, k⟩ v H1 s1 dv => ⟨v, d, t, b, rfl, dv, ty, ek, k _ H1 s1 (.bl _)⟩) h⟩, fun δ P P' g h => he.mono _ _ _ (fun d ⟨t, b, ty, ek, k⟩ => ⟨t, b, ty, ek, g _ k⟩) h⟩
theorem d_isiT {T : String} {x : Str} (he : PD X e te) (hg : Gl X "isinstance") (hm : X.mg "isinstance" = none) (hg2 : Gl X x) (hm2 : X.mg x = none) (hv2 : bootBuiltins x = some (.type T)) (hn : x ≠ "__name__" := by decide) (hd : (x == ("__debug__" : Str)) = false := by decide)
    (hs : starEach [e, .Name x p2] X.env = (false, eval e X.env) :: starEach [.Name x p2] X.env := by rfl) : PD X (.Call (.Name "isinstance" p) [e, .Name x p2] [] pos) (vIsi X.K (.type T) te) :=
  d_isi_of (vc := .ty T) he (pe_callB (call_isiD fun u z => z) hg hm boot_isinstance (pa_cons he.pe (pa_cons (pe_bltn (v := .ty T) hg2 hm2 hv2 rfl hn hd) pa_nil) hs) (he := hs))
theorem d_isiC {C : Addr} {x : Str} (he : PD X e te) (hg : Gl X "isinstance") (hm : X.mg "isinstance" = none) (hg2 : Gl X x) (hm2 : X.mg x = some (.ref C)) (hd : (x == ("__debug__" : Str)) = false := by decide)
    (hs : starEach [e, .Name x p2] X.env = (false, eval e X.env) :: starEach [.Name x p2] X.env := by rfl) : PD X (.Call (.Name "isinstance" p) [e, .Name x p2] [] pos) (vIsi X.K (.ref C) te) :=
  d_isi_of (vc := .ref C) he (pe_callB (call_isiD fun u z => z) hg hm boot_isinstance (pa_cons he.pe (pa_cons (pe_glob (v := .ref C) hg2 hm2 rfl hd) pa_nil) hs) (he := hs))
end
def isiT (T : String) (d : D) : Option Bool := (kindD d).map fun k => k == T || (k == "bool" && T == "int")
theorem kit_tbl {K : PySem.W.Frag} {d : D} {k T : String} (hk : kindD d = some k) (hT : T ∈ ["bool", "int", "str", "list", "tuple", "dict"]) : PySem.W.kitOne K (.type k) (.type T) = some (k == T || (k == "bool" && T == "int")) := by
  have hk' : k ∈ ["NoneType", "bool", "int", "str", "list", "tuple", "dict"] := by cases d <;> cases hk <;> simp
  simp only [List.mem_cons, List.not_mem_nil, or_false] at hk' hT
  rcases hk' with rfl | rfl | rfl | rfl | rfl | rfl | rfl <;> rcases hT with rfl | rfl | rfl | rfl | rfl | rfl <;> kernel_rfl
def vIsiT (T : String) (te : ED) : ED := fun δ Q => te δ fun d => ∃ b, isiT T d = some b ∧ Q (.bl b)
theorem PD.isiT {X : Cx} {e : Expr} {te : ED} {T : String} (h : PD X e (vIsi X.K (.type T) te)) (m : MonoE te) (hT : T ∈ ["bool", "int", "str", "list", "tuple", "dict"]) : PD X e (vIsiT T te) :=
  ⟨h.pe.imp fun σ H Q ⟨δ, r, q⟩ => ⟨δ, r, m _ _ _ (fun d ⟨b, eb, k⟩ => by
      unfold DC.isiT at eb
      cases hk : kindD d with
      | none => rw [hk] at eb; cases eb
      | some kk =>
        rw [hk] at eb
        have e1 : (kk == T || (kk == "bool" && T == "int")) = b := by simpa using eb
        exact ⟨_, b, .k hk, by rw [kit_tbl hk hT, e1], k⟩) q⟩, fun δ P P' g q => m _ _ _ (fun d ⟨b, eb, k⟩ => ⟨b, eb, g _ k⟩) q⟩
def lenD : D → Option Int
  | .str x => if x.length ≤ sizeLine then some x.length else none
  | .lst xs => some xs.length
  | .tup xs => some xs.length
  | _ => none
def sdLen : SpD := fun ds Q => ∃ d n, ds = [d] ∧ lenD d = some n ∧ Q (.int n)
theorem m_len : MonoS sdLen := fun ds P P' g ⟨d, n, e, h, q⟩ => ⟨d, n, e, h, g _ q⟩
theorem does_len {K : PySem.W.Frag} : DoesB K (fun xs H Q => ∃ x n, xs = [x] ∧ LenV K x H n ∧ Q (.int n) H) sdLen := by
  intro H vs ds Q dvs ⟨d, n, e, h, q⟩
  subst e
  cases dvs with
  | cons dv r =>
    cases r
    cases dv with
    | str x =>
      have h' : (if x.length ≤ sizeLine then some (x.length : Int) else none) = some n := h
      by_cases hz : x.length ≤ sizeLine
      · rw [if_pos hz] at h'
        cases h'
        exact ⟨_, x.length, rfl, ⟨hz, rfl⟩, q _ H (Same.refl _) (.int _)⟩
      · rw [if_neg hz] at h'
        cases h'
    | lst h1 h2 => cases h; exact ⟨_, _, rfl, .inl ⟨_, h1, rfl⟩, by rw [h2.length]; exact q _ H (Same.refl _) (.int _)⟩
    | tup h1 h2 => cases h; exact ⟨_, _, rfl, .inr ⟨_, h1, rfl⟩, by rw [h2.length]; exact q _ H (Same.refl _) (.int _)⟩
    | _ => cases h
section
variable {X : Cx} {e : Expr} {es : List Expr} {t : AD} {pos p : Pos}
theorem d_len (hg : Gl X "len") (hm : X.mg "len" = none) (ha : PAd X (e :: es) t) (h1 : starEach (e :: es) X.env = (false, eval e X.env) :: starEach es X.env := by rfl) (h2 : (backTo pos (starEach es X.env)).any (·.1) = false := by rfl) :
    PD X (.Call (.Name "len" p) (e :: es) [] pos) (vB sdLen t) := d_cb (pe_callB call_len hg hm PySem.boot_len ha.pa (he := h1) (hpl := h2)) ha.mono does_len m_len
theorem boot_intT : bootBuiltins "int" = some (.type "int") := by decide +kernel
theorem boot_boolT : bootBuiltins "bool" = some (.type "bool") := by decide +kernel
theorem boot_tuple : bootBuiltins "tuple" = some (.type "tuple") := by decide +kernel
theorem boot_list : bootBuiltins "list" = some (.type "list") := by decide +kernel
theorem boot_allB : bootBuiltins "all" = some (.builtin "all") := by decide +kernel
def sdAll : SpD := fun ds Q => ∃ (bs : List Bool), ds = [.lst (bs.map D.bl)] ∧ Q (.bl (bs.all id))
theorem m_all : MonoS sdAll := fun ds P P' g ⟨bs, e, q⟩ => ⟨bs, e, g _ q⟩
theorem vals_bl {K : PySem.W.Frag} {H : Hp} : ∀ {vs : List V} {bs : List Bool}, Dvs K H vs (bs.map D.bl) → vs = bs.map V.bl
  | [], [], _ => rfl
  | _, _ :: _, .cons (.bl _) r => by rw [vals_bl r]; rfl
theorem does_all {K : PySem.W.Frag} {A : Around} (hh : A.handled = none) : DoesB K (fun xs H Q => ∃ (p : Addr) (bs : List Bool), xs = [.ref p] ∧ A.handled = none ∧ SqL K H p (bs.map V.bl) ∧ Q (.bl (bs.all id)) H) sdAll := by
  intro H vs ds Q dvs ⟨bs, e, q⟩
  subst e
  cases dvs with
  | cons dv r =>
    cases r
    cases dv with
    | lst h1 h2 =>
      rw [vals_bl h2] at h1
      exact ⟨_, bs, rfl, hh, h1, q _ H (Same.refl _) (.bl _)⟩
theorem d_all (hh : X.A.handled = none) (hg : Gl X "all") (hm : X.mg "all" = none) (ha : PAd X (e :: es) t) (h1 : starEach (e :: es) X.env = (false, eval e X.env) :: starEach es X.env := by rfl) (h2 : (backTo pos (starEach es X.env)).any (·.1) = false := by rfl) : PD X (.Call (.Name "all" p) (e :: es) [] pos) (vB sdAll t) := d_cb (pe_callB call_all hg hm boot_allB ha.pa (he := h1) (hpl := h2)) ha.mono (does_all hh) m_all
end
end DC

set_option maxHeartbeats 4000000
namespace DC
open PySem PySem.Spec PyProof.Rows L2
structure MOk (X : Cx) (C : Addr) (m : Str) (sd : SpD) (dd : List D) (k : Nat) (f : Addr) (fd : FuncData) (ps : List Str) (dvs : List V) (ds : List Value) : Prop where
  cls : Cls X.K C
  meth : Meth X.K C m f
  fn : FnOk X.prog X.w X.K X.mg X.base CX0 k f fd ps (spOf X.K sd)
  mono : MonoS sd
  room : Room k X.A
  binds : Binds X.K fd ps ds
  vals : Vals dvs ds
  dflt : ∀ H, Dvs X.K H dvs dd
structure MH (X : Cx) (C : Addr) (m : Str) (sd : SpD) (dd : List D) : Prop where
  ex : ∃ k f fd ps dvs ds, MOk X C m sd dd k f fd ps dvs ds
def vMeth (ok : Addr → Prop) (m : Str) (sd : Addr → SpD) (dd : List D) (ta : ED) (t : AD) : ED := fun δ Q => ta δ fun d => ∃ C gs, d = .obj C gs ∧ gs.lookup m = none ∧ ok C ∧ t δ fun ds => sd C (d :: (ds ++ dd)) Q
section
variable {X : Cx} {ok : Addr → Prop} {o e : Expr} {es : List Expr} {m : Str} {sd : Addr → SpD} {dd : List D} {ta : ED} {t : AD} {pos apos : Pos}
def tMethD (X : Cx) (m : Str) (sd : Addr → SpD) (dd : List D) (ta : TE) (t : TA) : TE := fun σ H Q => ta σ H fun x H1 => ∃ a C dx fs, x = .ref a ∧ Rd H1 a (.ins C dx fs) ∧ fs.lookup m = none ∧ MH X C m (sd C) dd ∧
  ∀ dvs, (∀ H, Dvs X.K H dvs dd) → t σ H1 fun vs H2 => spOf X.K (sd C) (x :: (vs ++ dvs)) H2 Q E0
theorem pe_methD0 {ta : TE} {pl : Sem Bool} (he : PE X o ta)
    (ht : eval (.Call (.Attribute o m apos) [] [] pos) X.env = (do
      let ov ← eval o X.env
      standAt apos.atName
      let (f, first) ← holding [ov] (getMethod ov m pl)
      callWith pos f first (backTo pos (starEach [] X.env)) (backToKw pos (keywordEach [] X.env))) := by rfl) :
    PE X (.Call (.Attribute o m apos) [] [] pos) (tMethD X m sd dd ta tNil) := by
  intro pins s σ H Q I h
  refine PySem.W.methodCall_KW (pl := pl) (thn (he pins s σ H _ I h) fun u s1 ⟨x, H1, I1, rx, a, C, dx, fs, ex, ea, l, ⟨k, f, fd, ps, dvs, ds, M⟩, q⟩ => ?_) ht
  subst ex
  obtain rfl : u = Value.ref a := rx
  refine getmeth_okR I1 ea M.cls M.meth l ?_
  exact PySem.W.callWith_K0 (first := [.ref a]) I1.kIn M.meth.kp (run_fn (us := [.ref a]) (vs := [.ref a]) M.fn M.room M.binds M.vals pass0 I1 (.cons rfl .nil) (q dvs M.dflt))
theorem m_meth (hM : ∀ C, ok C → MH X C m (sd C) dd) (ma : MonoE ta) (mt : MonoA t) : MonoE (vMeth ok m sd dd ta t) := fun δ P P' g h => ma _ _ _ (fun d ⟨C, gs, e, l, M, q⟩ => ⟨C, gs, e, l, M, mt _ _ _ (fun ds k => by
  obtain ⟨_, _, _, _, _, _, M'⟩ := hM C M
  exact M'.mono _ _ _ g k) q⟩) h
theorem meth_of (hM : ∀ C, ok C → MH X C m (sd C) dd) (ma : MonoE ta) (mt : MonoA t) {σ : L2.St} {H : Hp} {Q : VK} (h : oE X.K (vMeth ok m sd dd ta t) σ H Q) : tMethD X m sd dd (oE X.K ta) (oA X.K t) σ H Q := by
  obtain ⟨δ, r, h⟩ := h
  refine ⟨δ, r, ma _ _ _ (fun d ⟨C, gs, ed, l, M, q⟩ v H1 s1 dv => ?_) h⟩
  subst ed
  cases dv with
  | @obj a C dx fs gs h1 h2 =>
    refine ⟨_, C, dx, fs, rfl, h1, h2.none l, hM C M, fun dvs hd => ⟨δ, r.same s1, mt _ _ _ (fun ds k vs H2 s2 dvs' => ?_) q⟩⟩
    obtain ⟨_, _, _, _, _, _, M'⟩ := hM C M
    exact ⟨_, .cons (Dv.same s2 (.obj h1 h2)) (dvs'.append (hd H2)), M'.mono _ _ _ (fun d k => k.on (s1.trans s2)) k⟩
theorem d_meth0 {pl : Sem Bool} (hM : ∀ C, ok C → MH X C m (sd C) dd) (he : PD X o ta)
    (ht : eval (.Call (.Attribute o m apos) [] [] pos) X.env = (do
      let ov ← eval o X.env
      standAt apos.atName
      let (f, first) ← holding [ov] (getMethod ov m pl)
      callWith pos f first (backTo pos (starEach [] X.env)) (backToKw pos (keywordEach [] X.env))) := by rfl) :
    PD X (.Call (.Attribute o m apos) [] [] pos) (vMeth ok m sd dd ta aNil) :=
  ⟨(pe_methD0 he.pe ht).imp fun σ H Q h => by
      have q := meth_of (t := aNil) hM he.mono (fun δ P P' g h => g _ h) h
      obtain ⟨δ, r, h'⟩ := q
      refine ⟨δ, r, he.mono _ _ _ (fun d k v H1 s1 dv => ?_) h'⟩
      obtain ⟨a, C, dx, fs, e1, e2, l, M, z⟩ := k v H1 s1 dv
      refine ⟨a, C, dx, fs, e1, e2, l, M, fun dvs hd => ?_⟩
      obtain ⟨δ', r', z'⟩ := z dvs hd
      exact z' [] H1 (Same.refl _) .nil, m_meth hM he.mono fun δ P P' g h => g _ h⟩
end
end DC

set_option maxHeartbeats 4000000
namespace DC
open PySem PySem.Spec PyProof.Rows L2
abbrev FD := List (Str × D)
structure EndsI where
  nx : SD → FD → Prop
  rt : FD → Prop
  fin : FD → Prop
abbrev TID := EndsI → SD → FD → Prop
structure EndsI.Le (E E' : EndsI) : Prop where
  nx : ∀ δ gs, E.nx δ gs → E'.nx δ gs
  rt : ∀ gs, E.rt gs → E'.rt gs
  fin : ∀ gs, E.fin gs → E'.fin gs
abbrev MonoI (t : TID) : Prop := ∀ E E' δ gs, EndsI.Le E E' → t E δ gs → t E' δ gs
def putD (f : Str) (d : D) : FD → FD
  | [] => [(f, d)]
  | (g, e) :: r => if g = f then (g, d) :: r else (g, e) :: putD f d r
structure AtI (K : PySem.W.Frag) (C a dx : Addr) (H : Hp) (gs : FD) : Prop where
  ex : ∃ fs, H a = some (.ins C dx fs) ∧ Dvf K (hid H a dx) fs gs
  ne : dx ≠ a
def endI (K : PySem.W.Frag) (C a dx : Addr) (H : Hp) (D : Ends) : EndsI :=
  ⟨fun δ gs => ∀ σ H', Same (hid H a dx) (hid H' a dx) → RelS K (hid H' a dx) σ δ → AtI K C a dx H' gs → D.nx σ H', fun gs => ∀ H', Same (hid H a dx) (hid H' a dx) → AtI K C a dx H' gs → D.rt .non H', fun gs => ∀ σ H', Same (hid H a dx) (hid H' a dx) → AtI K C a dx H' gs → D.nx σ H'⟩
def oI (K : PySem.W.Frag) (C : Addr) (t : Addr → TID) : TS := fun D σ H => ∃ a dx δ gs, RelS K (hid H a dx) σ δ ∧ AtI K C a dx H gs ∧ t a (endI K C a dx H D) δ gs
structure PIs (X : Cx) (C : Addr) (st : List Stmt) (t : Addr → TID) : Prop where
  ps : PSs X st (oI X.K C t)
  mono : ∀ a, MonoI (t a)
structure PIn (X : Cx) (C : Addr) (st : Stmt) (t : Addr → TID) : Prop where
  ps : PS X st (oI X.K C t)
  mono : ∀ a, MonoI (t a)
section
variable {X : Cx} {C : Addr} {st : Stmt} {rest : List Stmt} {t u : Addr → TID} {e : Expr} {te : ED} {pos pos' p : Pos} {f : Str}
theorem endI_on {K : PySem.W.Frag} {a dx : Addr} {H H1 : Hp} {D : Ends} (s : Same (hid H a dx) (hid H1 a dx)) : EndsI.Le (endI K C a dx H D) (endI K C a dx H1 D) :=
  ⟨fun _ _ h σ H' s' r g => h σ H' (s.trans s') r g, fun _ h H' s' g => h H' (s.trans s') g, fun _ h σ H' s' g => h σ H' (s.trans s') g⟩
def iSeq (t u : Addr → TID) : Addr → TID := fun a E δ gs => t a { nx := u a E, rt := E.rt, fin := fun _ => False } δ gs
theorem i_cons (h1 : PIn X C st t) (h2 : PIs X C rest u) : PIs X C (st :: rest) (iSeq t u) :=
  ⟨PSs.imp (pss_cons h1.ps h2.ps) fun D σ H ⟨a, dx, δ, gs, r, g, h⟩ => ⟨a, dx, δ, gs, r, g, h1.mono a { nx := u a (endI X.K C a dx H D), rt := (endI X.K C a dx H D).rt, fin := fun _ => False } _ _ _
     ⟨fun δ' gs' q σ' H' s' r' g' => ⟨a, dx, δ', gs', r', g', h2.mono a _ _ _ _ (endI_on s') q⟩, fun gs' q => q, fun gs' q => q.elim⟩ h⟩,
   fun a E E' δ gs l h => h1.mono a { nx := u a E, rt := E.rt, fin := fun _ => False } _ _ _ ⟨fun δ' gs' q => h2.mono a _ _ _ _ l q, l.rt, fun _ q => q.elim⟩ h⟩
def iRest (C : Addr) (t : TSD) : Addr → TID := fun a E δ gs => t { nx := fun _ => E.fin gs, rt := fun d => d = .non ∧ E.rt gs } (δ.set 0 (some (.obj C gs)))
def iEnd : Addr → TID := fun a E δ gs => E.fin gs
theorem i_nil : PIs X C [] iEnd := ⟨PSs.imp pss_nil fun D σ H ⟨a, dx, δ, gs, r, g, h⟩ => h σ H (Same.refl _) g, fun a E E' δ gs l h => l.fin _ h⟩
def iFree (t : TSD) : Addr → TID := fun a E δ gs => t { nx := fun δ' => E.nx δ' gs, rt := fun d => d = .non ∧ E.rt gs } δ
theorem i_free {t : TSD} (h : PSd X st t) : PIn X C st (iFree t) := by
  refine ⟨PS.imp (ps_frameNO h.ps) fun D σ H ⟨a, dx, δ, gs, r, ⟨⟨fs, ha, hf⟩, ne⟩, q⟩ => ⟨a, dx, C, fs, ha, δ, r, ?_⟩, fun a E E' δ gs l q => h.mono { nx := fun δ' => E.nx δ' gs, rt := fun d => d = .non ∧ E.rt gs } _ _ ⟨fun δ' k => l.nx _ _ k, fun d k => ⟨k.1, l.rt _ k.2⟩, fun _ k => k, fun _ k => k⟩ q⟩
  refine h.mono { nx := fun δ' => (endI X.K C a dx H D).nx δ' gs, rt := fun d => d = .non ∧ (endI X.K C a dx H D).rt gs } _ _ ⟨fun δ' k σ' H' s' r' z1 z2 _ => ?_, fun d k v H' s' dv z1 z2 _ => ?_, fun _ k => k.elim, fun _ k => k.elim⟩ q
  · have hs : hid (shown H' a dx C fs) a dx = H' := hid_shown z1 z2
    exact k σ' _ (by rw [hs]; exact s') (by rw [hs]; exact r') ⟨⟨fs, shown_a, by rw [hs]; exact Dvf.same s' hf⟩, ne⟩
  · have hs : hid (shown H' a dx C fs) a dx = H' := hid_shown z1 z2
    obtain ⟨e, k⟩ := k
    subst e
    cases dv
    exact k _ (by rw [hs]; exact s') ⟨⟨fs, shown_a, by rw [hs]; exact Dvf.same s' hf⟩, ne⟩
theorem Dvf.put {K : PySem.W.Frag} {H : Hp} {v : V} {d : D} (dv : Dv K H v d) : ∀ {fs : List (Str × V)} {gs : FD}, Dvf K H fs gs → Dvf K H (putF f v fs) (putD f d gs)
  | _, _, .nil => .cons dv .nil
  | _, _, .cons (k := k) h r => by
    unfold putF putD
    by_cases q : k = f
    · rw [if_pos q, if_pos q]; exact .cons dv r
    · rw [if_neg q, if_neg q]; exact .cons h (Dvf.put dv r)
theorem Dvf.length {K : PySem.W.Frag} {H : Hp} : ∀ {fs : List (Str × V)} {gs : FD}, Dvf K H fs gs → fs.length = gs.length
  | _, _, .nil => rfl
  | _, _, .cons _ r => congrArg (· + 1) (Dvf.length r)
def iSet (K : PySem.W.Frag) (C : Addr) (f : Str) (te : ED) : Addr → TID := fun a E δ gs => te δ fun d => δ[0]? = some (some (.adr a)) ∧ Cls K C ∧ NoAttr K C f ∧ gs.length < 1000 ∧ E.nx δ (putD f d gs)
theorem i_set {x : Str} (hN : X.N[0]? = some x) (hv : Vis X.env.scope x) (he : PD X e te) (hs : swapsWith e (some (.Attribute (.Name x p) f pos')) pos.line X.env = pure false := by rfl) (hd : (x == ("__debug__" : Str)) = false := by decide)
    (hcd : (x == ("__classdict__" : Str)) = false := by decide) : PIn X C (.Assign [.Attribute (.Name x p) f pos'] e pos) (iSet X.K C f te) := by
  refine ⟨PS.imp (ps_fld (pe_var hN hv hd hcd) (pe_frameNO he.pe) hs) fun D σ H ⟨a, dx, δ, gs, r, ⟨⟨fs, ha, hf⟩, ne⟩, q⟩ => ⟨a, dx, C, fs, ha, δ, r, ?_⟩, fun a E E' δ gs l q => he.mono _ _ _ (fun d ⟨k0, k1, k2, k3, k⟩ => ⟨k0, k1, k2, k3, l.nx _ _ k⟩) q⟩
  refine he.mono _ _ _ (fun d ⟨k0, k1, k2, k3, k⟩ v H' s' dv z1 z2 _ => ?_) q
  obtain ⟨w, hw, dw⟩ := r.get 0 _ k0
  cases dw
  refine ⟨_, hw, a, C, dx, fs, rfl, shown_a, k1, k2, by rw [hf.length]; exact k3, ?_⟩
  rw [upd_shown]
  have hs : hid (shown H' a dx C (putF f v fs)) a dx = H' := hid_shown z1 z2
  exact k σ _ (by rw [hs]; exact s') (by rw [hs]; exact r.same s') ⟨⟨_, shown_a, by rw [hs]; exact (Dvf.same s' hf).put dv⟩, ne⟩
theorem hid_same {H : Hp} {a dx : Addr} : Same (hid H a dx) H := fun b o h => by
  unfold hid at h
  split at h
  · cases h
  · exact h
theorem AtI.dv {K : PySem.W.Frag} {a dx : Addr} {H : Hp} {gs : FD} (g : AtI K C a dx H gs) : Dv K H (.ref a) (.obj C gs) := by
  obtain ⟨⟨fs, h, hf⟩, _⟩ := g
  exact .obj (.of h) (Dvf.same hid_same hf)
theorem AtI.on {K : PySem.W.Frag} {a dx : Addr} {H H' : Hp} {gs : FD} (g : AtI K C a dx H gs) (s : Same H H') : AtI K C a dx H' gs := by
  obtain ⟨⟨fs, h, hf⟩, ne⟩ := g
  refine ⟨⟨fs, s _ _ h, Dvf.same (fun b o q => ?_) hf⟩, ne⟩
  unfold hid at q ⊢
  split at q
  · cases q
  · rename_i z; rw [if_neg z]; exact s _ _ q
theorem same_hid {H H' : Hp} {a dx : Addr} (s : Same H H') : Same (hid H a dx) (hid H' a dx) := fun b o q => by
  unfold hid at q ⊢
  split at q
  · cases q
  · rename_i z; rw [if_neg z]; exact s _ _ q
theorem i_rest {t : TSD} (h : PSsd X rest t) : PIs X C rest (fun a E δ gs => δ[0]? = some (some (.adr a)) ∧ iRest C t a E δ gs) := by
  refine ⟨PSs.imp h.ps fun D σ H ⟨a, dx, δ, gs, r, g, k0, q⟩ => ⟨δ.set 0 (some (.obj C gs)), ?_, ?_⟩, fun a E E' δ gs l ⟨k0, q⟩ => ⟨k0, h.mono { nx := fun _ => E.fin gs, rt := fun d => d = .non ∧ E.rt gs } _ _ ⟨fun δ' k => l.fin _ k, fun d k => ⟨k.1, l.rt _ k.2⟩, fun _ k => k, fun _ k => k⟩ q⟩⟩
  · obtain ⟨w, hw, dw⟩ := r.get 0 _ k0
    cases dw
    have z := (r.same hid_same).set 0 g.dv
    rw [show σ.set 0 (some (.ref a)) = σ from by
      refine List.ext_getElem? fun i => ?_
      rw [List.getElem?_set]
      split
      · rename_i q2
        subst q2
        split
        · exact hw.symm
        · rename_i q3
          rw [List.getElem?_eq_none (by omega)] at hw
          cases hw
      · rfl] at z
    exact z
  · refine h.mono { nx := fun _ => (endI X.K C a dx H D).fin gs, rt := fun d => d = .non ∧ (endI X.K C a dx H D).rt gs } _ _ ⟨fun δ' k σ' H' s' r' => k σ' H' (same_hid s') (g.on s'), fun d k v H' s' dv => ?_, fun _ k => k.elim, fun _ k => k.elim⟩ q
    obtain ⟨e, k⟩ := k
    subst e
    cases dv
    exact k H' (same_hid s') (g.on s')
end
abbrev SpI := List D → (FD → Prop) → Prop
abbrev MonoSI (sd : SpI) : Prop := ∀ ds (P P' : FD → Prop), (∀ d, P d → P' d) → sd ds P → sd ds P'
def spI (K : PySem.W.Frag) (C : Addr) (sd : SpI) : Sp := fun vs H Q _ => ∃ a dx vs' ds, vs = .ref a :: vs' ∧ AtI K C a dx H [] ∧ Dvs K (hid H a dx) vs' ds ∧ sd ds fun gs => ∀ H', Same (hid H a dx) (hid H' a dx) → AtI K C a dx H' gs → Q .non H'
section
variable {P : Program} {w : World} {K : PySem.W.Frag} {mg : Str → Option Value} {base : Heap}
structure FunV (K : PySem.W.Frag) (x qual : Str) (st : Stmt) (f : Addr) (fd : FuncData) : Prop where
  ex : ∃ (oc : Value) (od : Option Addr) (dV kV doc pm : Value) (an : Option Addr) (cdv ct : Value) (osl : Array (Option Value)),
    fd = PySem.W.fnOf x qual (defArgs st) (defBody st) (defScope st) dV kV doc pm an cdv ct ∧ K.lookup f = some ⟨oc, od, .func fd, osl⟩ ∧ PySem.W.codeIn K cdv qual = true
  kp : PySem.W.keepIn K (.ref f) = true
theorem FunV.ok {P : Program} {w : World} {K : PySem.W.Frag} {mg : Str → Option Value} {base : Heap} {x qual : Str} {st : Stmt} {f : Addr} {fd : FuncData} {N ps : List Str} {k : Nat} {sp : Sp} (F : FunV K x qual st f fd) (S : FnScope N ps (defScope st)) (len : ∀ vs H Q E, sp vs H Q E → vs.length = ps.length)
    (hbody : ∀ (cdv : Value) (A : Around) (outer : List Env) (s : Shared) (H : Hp) (vs : List V) (Q : VK) (E : XK), Room k (A.deeper (envOfC qual (defScope st) s.heap.objs.size f cdv)) → sp vs H Q E →
      ∃ t, PSs (cxOf CX0 P w K mg base N qual (defScope st) f cdv A outer s H E).nox (defBody st) t ∧ t { nx := fun _ H' => Q .non H', rt := Q } (L2.start N vs) H) : FnOk P w K mg base CX0 (k + 1) f fd ps sp := by
  obtain ⟨oc, od, dV, kV, doc, pm, an, cdv, ct, osl, rfl, lk, hcd⟩ := F.ex
  refine fn_of lk hcd S len fun A outer s H vs Q E hr hsp => ?_
  obtain ⟨t, h, q⟩ := hbody cdv A outer s H vs Q E hr hsp
  exact ⟨t, h.nox, q⟩
theorem okI {x qual : Str} {st : Stmt} {f C : Addr} {fd : FuncData} {N ps : List Str} {k : Nat} {sd : SpI} {t : Addr → TID} (F : FunV K x qual st f fd) (S : FnScope N ps (defScope st)) (len : ∀ ds Q, sd ds Q → ds.length + 1 = ps.length)
    (hb : ∀ (cdv : Value) (A : Around) (outer : List Env) (s : Shared) (H : Hp) (E : XK), Room k (A.deeper (envOfC qual (defScope st) s.heap.objs.size f cdv)) → PIs (Bx P w K mg base N qual st f cdv A outer s H E) C (defBody st) t)
    (hr : ∀ a ds Q, sd ds Q → t a { nx := fun _ => Q, rt := Q, fin := Q } (startD N (.adr a :: ds)) []) : FnOk P w K mg base CX0 (k + 1) f fd ps (spI K C sd) := by
  refine F.ok S (fun vs H Q E ⟨a, dx, vs', ds, e, g, dvs, h⟩ => by rw [e, List.length_cons, dvs.length]; exact len ds _ h) (fun cdv A outer s H vs Q E hroom ⟨a, dx, vs', ds, e, g, dvs, h⟩ => ?_)
  have B := hb cdv A outer s H E hroom
  subst e
  refine ⟨_, B.ps, a, dx, startD N (.adr a :: ds), [], start_rel (.cons (.adr a) dvs), g, ?_⟩
  let Q' : FD → Prop := fun gs => ∀ H', Same (hid H a dx) (hid H' a dx) → AtI K C a dx H' gs → Q .non H'
  exact B.mono a { nx := fun _ => Q', rt := Q', fin := Q' } _ _ _ ⟨fun δ gs q σ H' s' r' g' => q H' s' g', fun gs q H' s' g' => q H' s' g', fun gs q σ H' s' g' => q H' s' g'⟩ (hr a ds _ h)
end
section
variable {X : Cx} {C f : Addr} {fd : FuncData} {ps : List Str} {sd : SpI} {dd : List D} {dvs : List V} {dls : List Value} {k : Nat} {x : Str} {e : Expr} {es : List Expr} {t : AD} {p pos : Pos}
def vMake (C : Addr) (sd : SpI) (dd : List D) (t : AD) : ED := fun δ Q => t δ fun ds => sd (ds ++ dd) fun gs => Q (.obj C gs)
theorem d_make (M : Mk X.K C f) (F : FnOk X.prog X.w X.K X.mg X.base CX0 k f fd ps (spI X.K C sd)) (ms : MonoSI sd) (hr : Room (k + 1) X.A) (hg : Gl X x) (hm : X.mg x = some (.ref C)) (hb : Binds X.K fd ps dls) (hv : Vals dvs dls) (hd : ∀ H, Dvs X.K H dvs dd)
    (ha : PAd X (e :: es) t) (hdb : (x == ("__debug__" : Str)) = false := by decide) (he : starEach (e :: es) X.env = (false, eval e X.env) :: starEach es X.env := by rfl) (hpl : (backTo pos (starEach es X.env)).any (·.1) = false := by rfl) :
    PD X (.Call (.Name x p) (e :: es) [] pos) (vMake C sd dd t) := by
  refine ⟨(pe_make M F hr hg hm hb hv pass0 ha.pa hdb he hpl).imp fun σ H Q ⟨δ, r, h⟩ => ⟨δ, r, ha.mono _ _ _ (fun ds q vs H1 s1 dvs' y dx hy hdx ne => ?_) h⟩, fun δ P P' g h => ha.mono _ _ _ (fun ds q => ms _ _ _ (fun gs z => g _ z) q) h⟩
  have hs : hid (shown H1 y dx C []) y dx = H1 := hid_shown hy hdx
  refine ⟨y, dx, _, _, rfl, ⟨⟨[], shown_a, .nil⟩, ne⟩, ?_, ms _ _ _ (fun gs z H' s' g' => ⟨rfl, z _ H' ?_ g'.dv⟩) q⟩
  · show Dvs X.K (hid (shown H1 y dx C []) y dx) _ _
    rw [hs]
    exact dvs'.append (hd H1)
  · have s2 : Same (hid (shown H1 y dx C []) y dx) (hid H' y dx) := s'
    rw [hs] at s2
    exact s1.trans (s2.trans hid_same)
end
end DC

set_option maxHeartbeats 4000000
namespace L2
open PySem PySem.Spec PyProof.Rows
section
variable {X : Cx}
theorem ints_are {ns : List Int} : ∀ {us : List Value}, Vals (ns.map V.int) us → IntsAre us ns := by
  induction ns with
  | nil => intro us r; cases r; exact .nil
  | cons n ns ih =>
    intro us r
    cases r with
    | cons a r =>
      obtain ⟨t, e⟩ := a
      subst e
      exact .cons _ _ (ih r)
theorem call_sum : CallR X (.builtin "sum") (fun xs H Q => ∃ (p : Addr) (ns : List Int), xs = [.ref p] ∧ X.A.handled = none ∧ SqL X.K H p (ns.map V.int) ∧ Q (.int ns.sum) H) := by
  intro pins s σ H xs us Q I r h
  obtain ⟨p, ns, rfl, hh, hS, q⟩ := h
  obtain ⟨u, rfl, ru⟩ := vals1 r
  cases (show u = Value.ref p from ru)
  obtain ⟨its, rv, pl, _⟩ := I.list hS
  have hl := pl.isList
  have hi := ints_are rv
  obtain ⟨xs, hx⟩ := hi.allInts.items
  have hl' : s.heap.IsList p (intItems xs) := hx ▸ hl
  refine sum_intListG hh hl' fun h' tk t' hk => ?_
  have e1 : ns = xs.toList.map (·.1) := by
    rw [← nums_intItems, ← hx]
    exact (show numsOf its.toArray.toList = ns from hi.numsOf).symm
  have e2 : preSum (numAt xs) xs.size = ns.sum := by
    rw [preSum_eq, List.take_of_length_le (by simp), e1]
  rw [e2]
  exact ⟨.int ns.sum, H, I.kept hk, ⟨_, rfl⟩, q⟩
end
section
variable {prog : Program} {w : World} {A : Around} {R : Result → Shared → Prop} {I : Addr} {fp wr : List Addr} {n : Nat} {P : Nat → Value → Prop} {St : Nat → Heap → Prop} {E : Value → Shared → Prop} {s : Shared} {Q : Value → Shared → Prop}
abbrev bestAt (S : Addr) (items : Array Value) (h : Heap) : Prop := ∃ c, h.get? S = some { cls := .type "list", dict := none, data := .seq items c, slots := #[] }
theorem maxLoopK {kw : List (Str × Value)} (W : Walks prog w A.in1 I fp wr n P St) (bt : Nat → Nat → Bool) (hcmp : CmpOf prog w A.in1 .Gt P bt) (S : Addr) (hSf : S ∉ fp) :
    ∀ (k j : Nat) (s : Shared) (vb : Value), j + 1 + k = n → St (j + 1) s.heap → P (argBest bt j) vb → bestAt S #[vb, vb] s.heap →
    (∀ v h' tk, P (argBest bt (n - 1)) v → (∀ b o, b ∉ wr → b ≠ S → s.heap.get? b = some o → h'.get? b = some o) → R (.ok (.ret v)) { s with heap := h', toks := tk }) →
    codeAny (model prog w) A (.builtin "max.loop" ⟨[.ref I, .none, .ref S], kw⟩) R s := by
  have hSw : S ∉ wr := fun h => hSf (W.sub _ h)
  have hname : (toString "max" ++ toString ".loop" : String) = "max.loop" := by decide
  intro k
  induction k with
  | zero =>
    intro j s vb hj hst hP ⟨c, hS⟩ hR
    refine codeAny_builtin F.entry_max_loop ?_
    rw [Around.under_plainId F.plain_max_loop _]
    show wpAny _ A.in1 (seqItems? (.ref S) >>= _) _ _ s
    refine wpAny_bind (wpAny_seqItems hS rfl ?_)
    show wpAny _ A.in1 (tryCatch (pyNext (.ref I)) _ >>= _) _ _ s
    refine wpAny_bind (wpAny_tryCatch (W.done s _ _ ((show j + 1 = n by omega) ▸ hst) fun h' tk hk => ?_))
    show wpAny _ A.in1 (updateSeq S (fun _ => #[]) >>= _) _ _ _
    refine wpAny_bind (wpAny_updateSeq (hk S _ hSw hS) rfl (wpAny_bind (wpAny_letGo (wpAny_pure ?_))))
    exact hR vb _ tk (by rw [show n - 1 = j by omega]; exact hP) fun b o h1 h2 e => (Heap.get?_update_other _ _ (Ne.symm h2)).trans (hk b o h1 e)
  | succ k ih =>
    intro j s vb hj hst hP ⟨c, hS⟩ hR
    refine codeAny_builtin F.entry_max_loop ?_
    rw [Around.under_plainId F.plain_max_loop _]
    show wpAny _ A.in1 (seqItems? (.ref S) >>= _) _ _ s
    refine wpAny_bind (wpAny_seqItems hS rfl ?_)
    show wpAny _ A.in1 (tryCatch (pyNext (.ref I)) _ >>= _) _ _ s
    refine wpAny_bind (wpAny_tryCatch (W.item (j + 1) s _ _ (by omega) hst fun v h' tk hv hst' hk => ?_))
    have hS' := hk S _ hSw hS
    show wpAny _ A.in1 (tryCatch (holding [v, v] (richCompare .Gt v vb >>= _)) _ >>= _) _ _ _
    refine wpAny_bind (wpAny_tryCatch (wpAny_holding (wpAny_bind (hcmp (j + 1) (argBest bt j) v vb _ _ _ hv hP ?_))))
    refine wpAny_bind (wpAny_holding (wpAny_truthy_bool (wpAny_bind (wpAny_letGo (wpAny_pure ?_)))))
    cases hb : bt (j + 1) (argBest bt j) with
    | true =>
      simp only [if_true]
      refine wpAny_bind (wpAny_updateSeq hS' rfl (wpAny_bind (wpAny_letGo ?_)))
      rw [hname]
      refine wpAny_pure ⟨plainId_quiet F.plain_max_loop _, ih (j + 1) _ v (by omega) (W.frame _ _ _ hst' fun b hbf o e => ?_) (by simp only [argBest, hb, if_true]; exact hv) ⟨_, Heap.get?_update_self _ hS' rfl⟩ fun v' h2 tk2 hp2 hk2 => ?_⟩
      · exact (Heap.get?_update_other _ _ (fun h : S = b => hSf (by rw [h]; exact hbf))).trans e
      · exact hR v' h2 tk2 hp2 fun b o h1 h3 e => hk2 b o h1 h3 ((Heap.get?_update_other _ _ (Ne.symm h3)).trans (hk b o h1 e))
    | false =>
      simp only [Bool.false_eq_true, if_false]
      refine wpAny_bind (wpAny_letGo ?_)
      rw [hname]
      refine wpAny_pure ⟨plainId_quiet F.plain_max_loop _, ih (j + 1) _ vb (by omega) hst' (by simp only [argBest, hb, Bool.false_eq_true, if_false]; exact hP) ⟨c, hS'⟩ fun v' h2 tk2 hp2 hk2 => ?_⟩
      exact hR v' h2 tk2 hp2 fun b o h1 h3 e => hk2 b o h1 h3 (hk b o h1 e)
theorem maxLoop0 {d : Value} (W : Walks prog w A.in1 I fp wr n P St) (bt : Nat → Nat → Bool) (hcmp : CmpOf prog w A.in1 .Gt P bt) (S : Addr) (hSf : S ∉ fp) {s : Shared} (hst : St 0 s.heap) (hS : bestAt S #[] s.heap)
    (hR : ∀ v h' tk, (if n = 0 then v = d else P (argBest bt (n - 1)) v) → (∀ b o, b ∉ wr → b ≠ S → s.heap.get? b = some o → h'.get? b = some o) → R (.ok (.ret v)) { s with heap := h', toks := tk }) :
    codeAny (model prog w) A (.builtin "max.loop" ⟨[.ref I, .none, .ref S], [("default", d)]⟩) R s := by
  have hSw : S ∉ wr := fun h => hSf (W.sub _ h)
  have hname : (toString "max" ++ toString ".loop" : String) = "max.loop" := by decide
  obtain ⟨c, hS⟩ := hS
  refine codeAny_builtin F.entry_max_loop ?_
  rw [Around.under_plainId F.plain_max_loop _]
  show wpAny _ A.in1 (seqItems? (.ref S) >>= _) _ _ s
  refine wpAny_bind (wpAny_seqItems hS rfl ?_)
  show wpAny _ A.in1 (tryCatch (pyNext (.ref I)) _ >>= _) _ _ s
  by_cases hn : n = 0
  · refine wpAny_bind (wpAny_tryCatch (W.done s _ _ (hn ▸ hst) fun h' tk hk => ?_))
    refine wpAny_bind (wpAny_rule (wpAny_pure ?_))
    exact hR d h' tk (by rw [if_pos hn]) fun b o h1 _ e => hk b o h1 e
  · refine wpAny_bind (wpAny_tryCatch (W.item 0 s _ _ (by omega) hst fun v h' tk hv hst' hk => ?_))
    have hS' := hk S _ hSw hS
    show wpAny _ A.in1 (updateSeq S (fun _ => #[v, v]) >>= _) _ _ _
    refine wpAny_bind (wpAny_updateSeq hS' rfl ?_)
    rw [hname]
    refine wpAny_pure ⟨plainId_quiet F.plain_max_loop _, maxLoopK W bt hcmp S hSf (n - 1) 0 _ v (by omega) (W.frame _ _ _ hst' fun b hbf o e => ?_) hv ⟨_, Heap.get?_update_self _ hS' rfl⟩ fun v' h2 tk2 hp2 hk2 => ?_⟩
    · exact (Heap.get?_update_other _ _ (fun h : S = b => hSf (by rw [h]; exact hbf))).trans e
    · exact hR v' h2 tk2 (by rw [if_neg hn]; exact hp2) fun b o h1 h3 e => hk2 b o h1 h3 ((Heap.get?_update_other _ _ (Ne.symm h3)).trans (hk b o h1 e))
end
end L2

set_option maxHeartbeats 4000000
namespace L2
open PySem PySem.Spec PyProof.Rows
def maxI (d : Int) : List Int → Int
  | [] => d
  | x :: xs => xs.foldl max x
theorem foldl_max_ge : ∀ (xs : List Int) (a : Int), a ≤ xs.foldl max a ∧ ∀ x ∈ xs, x ≤ xs.foldl max a
  | [], a => ⟨Int.le_refl _, fun x h => nomatch h⟩
  | y :: ys, a => by
    obtain ⟨h1, h2⟩ := foldl_max_ge ys (max a y)
    refine ⟨Int.le_trans (Int.le_max_left _ _) h1, fun x h => ?_⟩
    rcases List.mem_cons.mp h with rfl | h
    · exact Int.le_trans (Int.le_max_right _ _) h1
    · exact h2 x h
theorem foldl_max_mem : ∀ (xs : List Int) (a : Int), xs.foldl max a = a ∨ xs.foldl max a ∈ xs
  | [], a => .inl rfl
  | y :: ys, a => by
    rcases foldl_max_mem ys (max a y) with h | h
    · rw [List.foldl_cons, h]
      rcases Int.le_total a y with q | q
      · rw [Int.max_eq_right q]; exact .inr (List.mem_cons_self)
      · rw [Int.max_eq_left q]; exact .inl rfl
    · exact .inr (List.mem_cons_of_mem _ h)
theorem maxI_is {d m : Int} {ns : List Int} (h : m ∈ ns) (g : ∀ x ∈ ns, x ≤ m) : maxI d ns = m := by
  cases ns with
  | nil => cases h
  | cons x xs =>
    obtain ⟨h1, h2⟩ := foldl_max_ge xs x
    have a1 : m ≤ maxI d (x :: xs) := by
      rcases List.mem_cons.mp h with rfl | h
      · exact h1
      · exact h2 m h
    have a2 : maxI d (x :: xs) ≤ m := by
      rcases foldl_max_mem xs x with q | q
      · show xs.foldl max x ≤ m
        rw [q]; exact g x List.mem_cons_self
      · exact g _ (List.mem_cons_of_mem _ q)
    exact Int.le_antisymm a2 a1
theorem argBest_max (val : Nat → Int) : ∀ k, argBest (fun i j => decide (val i > val j)) k ≤ k ∧ ∀ i, i ≤ k → val i ≤ val (argBest (fun i j => decide (val i > val j)) k)
  | 0 => ⟨Nat.le_refl _, fun i h => by cases Nat.le_zero.mp h; exact Int.le_refl _⟩
  | k + 1 => by
    obtain ⟨h1, h2⟩ := argBest_max val k
    rw [argBest]
    by_cases q : val (k + 1) > val (argBest (fun i j => decide (val i > val j)) k)
    · rw [if_pos (decide_eq_true q)]
      refine ⟨Nat.le_refl _, fun i h => ?_⟩
      rcases Nat.lt_or_ge i (k + 1) with z | z
      · exact Int.le_trans (h2 i (by omega)) (Int.le_of_lt q)
      · rw [show i = k + 1 by omega]; exact Int.le_refl _
    · rw [if_neg (by simpa using q)]
      refine ⟨Nat.le_succ_of_le h1, fun i h => ?_⟩
      rcases Nat.lt_or_ge i (k + 1) with z | z
      · exact h2 i (by omega)
      · rw [show i = k + 1 by omega]; exact Int.not_lt.mp q
section
variable {X : Cx}
theorem args_maxD (a d : Value) : argsOk "max" ⟨[a], [("default", d)]⟩ := by unfold argsOk; kernel_rfl
theorem max_of {pins : List (Addr × Obj)} {s : Shared} {σ : St} {H : Hp} {Q : VK} {p : Addr} {ns : List Int} {d : Int} {t : Tok} (I : Inv X pins σ H s) (hh : X.A.handled = none) (hS : SqL X.K H p (ns.map V.int)) (q : Q (.int (maxI d ns)) H) :
    wpAny (model X.prog X.w) X.A (call (.builtin "max") [.ref p] [("default", .int d t)]) (EP X pins σ Q) X.xe s := by
  obtain ⟨its, rv, pl, _⟩ := I.list hS
  have hl := pl.isList
  have hi := ints_are rv
  have hlt : p < s.heap.objs.size := pl.lt
  have hlen : its.length = ns.length := by have := rv.length; rw [List.length_map] at this; exact this.symm
  have hname : (toString "max" ++ toString ".loop" : String) = "max.loop" := by decide
  have hval : ∀ (i : Nat) (v : Value), its.toArray[i]? = some v → ∃ t, v = .int (ns.getD i 0) t := fun i v e => by
    have e' : its[i]? = some v := by simpa using e
    have hb : i < ns.length := by have := (List.getElem?_eq_some_iff.mp e').1; omega
    obtain ⟨u, h1, h2⟩ := rv.get (i := i) (x := V.int ns[i]) (by rw [List.getElem?_map, List.getElem?_eq_getElem hb]; rfl)
    rw [e'] at h1
    cases h1
    obtain ⟨t, ht⟩ := (show ∃ t, v = Value.int ns[i] t from h2)
    exact ⟨t, by rw [ht, List.getD_eq_getElem?_getD, List.getElem?_eq_getElem hb]; rfl⟩
  refine wpAny_call (codeAny_call_builtin F.plain_max F.entry_max ?_)
  simp only [checkBuiltinCall, F.kind_max]
  have ha : argsOk "max" ⟨[.ref p], [("default", .int d t)]⟩ := args_maxD _ _
  have body : wpAny (model X.prog X.w) X.A.in1 (Builtin.«max» ⟨[.ref p], [("default", .int d t)]⟩) (fun fin s' => match fin with
      | .done f => (match (Except.ok f : Result) with | .ok (.ret v) => EP X pins σ Q v s' | .ok _ => False | .error e => X.xe e s')
      | .again c' => c'.quiet = true ∧ codeAny (model X.prog X.w) X.A c' (fun r s' => match r with | .ok (.ret v) => EP X pins σ Q v s' | .ok _ => False | .error e => X.xe e s') s') X.xe s := by
    show wpAny _ X.A.in1 (Builtin.Builtins.bindParams "max" ["key", "default"] 0 ⟨[], [("default", .int d t)]⟩ >>= _) _ _ s
    refine wpAny_bind (wpAny_of_eq (show Builtin.Builtins.bindParams "max" ["key", "default"] 0 ⟨[], [("default", .int d t)]⟩ = pure [none, some (.int d t)] from rfl) ?_)
    refine wpAny_bind (wpAny_pure ?_)
    refine wpAny_bind (wpAny_pyIter_list hl ?_)
    refine wpAny_bind (wpAny_newObj_type ?_)
    rw [hname]
    have W := Walks.list (prog := X.prog) (w := X.w) (A := X.A.in1) hh s.heap.objs.size p (Nat.ne_of_lt hlt) its.toArray
    refine wpAny_pure ⟨plainId_quiet F.plain_max_loop _, maxLoop0 W _ (CmpOf.ints_gt (fun i => ns.getD i 0) hval) ((s.heap.push _).objs.size) (fun hm => ?_) (W.frame _ _ _ ⟨⟨_, Heap.get?_push_size _ rfl, rfl, rfl⟩, hl.push _⟩ fun b _ o e => Heap.get?_push_of_some _ e) ⟨_, Heap.get?_push_size _ rfl⟩ fun v h' tk hv hk => ?_⟩
    · have hsz : (s.heap.push { cls := .type "list_iterator", data := .fields #[.ref p, .int 0 0] }).objs.size = s.heap.objs.size + 1 := Heap.size_push ..
      rcases List.mem_cons.mp hm with z | z
      · exact absurd (hsz.symm.trans z) (Nat.succ_ne_self _)
      · exact absurd (hsz.symm.trans (List.mem_singleton.mp z)) (Nat.ne_of_gt (Nat.lt_succ_of_lt hlt))
    · have hkept : ∀ b o, s.heap.get? b = some o → h'.get? b = some o := fun b o e => hk b o (fun hm => by
        exact absurd (List.mem_singleton.mp hm) (Nat.ne_of_lt (Heap.lt_size e))) (fun hm => by
        rw [Heap.size_push] at hm
        exact absurd hm (Nat.ne_of_lt (Nat.lt_succ_of_lt (Heap.lt_size e)))) (Heap.get?_push_of_some _ (Heap.get?_push_of_some _ e))
      have ev : ∃ t, v = .int (maxI d ns) t := by
        by_cases hn : its.toArray.size = 0
        · rw [if_pos hn] at hv
          have hz : ns = [] := List.length_eq_zero_iff.mp (by rw [← hlen]; simpa using hn)
          rw [hz]
          exact ⟨_, hv⟩
        · rw [if_neg hn] at hv
          obtain ⟨b1, b2⟩ := argBest_max (fun i => ns.getD i 0) (its.toArray.size - 1)
          have hsz : its.toArray.size = ns.length := by rw [List.size_toArray, hlen]
          obtain ⟨t', e⟩ := hval _ v hv
          refine ⟨t', ?_⟩
          rw [e, maxI_is (m := ns.getD (argBest (fun i j => decide (ns.getD i 0 > ns.getD j 0)) (its.toArray.size - 1)) 0) ?_ fun x hx => ?_]
          · rw [List.getD_eq_getElem?_getD, List.getElem?_eq_getElem (by omega)]
            exact List.getElem_mem _
          · obtain ⟨i, hi', rfl⟩ := List.getElem_of_mem hx
            have z := b2 i (by omega)
            simp only [List.getD_eq_getElem?_getD, List.getElem?_eq_getElem hi', Option.getD_some] at z
            simpa only [List.getD_eq_getElem?_getD] using z
      obtain ⟨t', rfl⟩ := ev
      exact ⟨.int (maxI d ns), H, I.kept hkept, ⟨_, rfl⟩, q⟩
  cases hsig : Manifest.signature? "max" with
  | none => exact wpAny_pure body
  | some sig =>
    simp only [argsOk, hsig] at ha
    have h2 : Bind.checkArgs "max" sig ⟨[.ref p], [("default", .int d t)]⟩ = pure () := ha
    show wpAny _ X.A.in1 (Bind.checkArgs "max" sig ⟨[.ref p], [("default", .int d t)]⟩) _ _ s
    rw [h2]; exact wpAny_pure body
end
end L2

set_option maxHeartbeats 4000000
namespace L2
open PySem PySem.Spec PyProof.Rows
section
variable {X : Cx} {e c : Expr} {te tc : TE} {p pos kp : Pos}
def rMaxD (X : Cx) (x y : V) (H : Hp) (Q : VK) : Prop := ∃ (l : Addr) (ns : List Int) (d : Int), x = .ref l ∧ y = .int d ∧ X.A.handled = none ∧ SqL X.K H l (ns.map V.int) ∧ Q (.int (maxI d ns)) H
def one (F : V → Hp → Prop) (vs : List V) (H : Hp) : Prop := match vs with
  | [x] => F x H
  | _ => False
theorem pe_maxD (hg : Gl X "max") (hm : X.mg "max" = none) (he : PE X e te) (hc : PE X c tc) (h1 : starEach [e] X.env = (false, eval e X.env) :: starEach [] X.env := by rfl) (hv : bootBuiltins "max" = some (.builtin "max") := by decide +kernel) :
    PE X (.Call (.Name "max" p) [e] [⟨some "default", c, kp⟩] pos) (tOp (rMaxD X) te tc) := by
  intro pins s σ H Q I h
  refine wpAny_Call_Name_kw (ld_blt I hg hm hv ?_)
  refine callWith_kw (env := X.env) ?_ (by rw [h1]; rfl) (by rw [h1]; rfl) rfl rfl
  refine thn ((pa_cons he pa_nil h1) pos pins s σ H (one fun x H1 => tc σ H1 fun y H2 => rMaxD X x y H2 Q) I h) fun us s1 ⟨vs, H1, I1, r1, q⟩ => ?_
  match vs, r1, q with
  | [x], r1, q =>
    obtain ⟨u, rfl, ru⟩ := vals1 r1
    refine thn ((pk_cons (nm := some "default") (kpos := kp) hc pk_nil) pos pins s1 σ H1 (one fun y H2 => rMaxD X x y H2 Q) I1 q) fun ws s2 ⟨zs, H2, I2, r2, k⟩ => ?_
    match zs, r2, k with
    | [y], r2, k =>
      obtain ⟨l, ns, d, e1, e2, hh, hS, kk⟩ := k
      subst e1 e2
      obtain ⟨w, rfl, rw'⟩ := vals1 r2
      obtain ⟨t, rfl⟩ := (show ∃ t, w = Value.int d t from rw')
      cases (show u = Value.ref l from ru)
      exact max_of I2 hh hS kk
end
end L2
namespace DC
open PySem PySem.Spec PyProof.Rows L2
section
variable {X : Cx} {e c : Expr} {te tc : ED} {p pos kp : Pos} {es : List Expr} {t : AD}
theorem boot_sum : bootBuiltins "sum" = some (.builtin "sum") := by decide +kernel
def sdSum : SpD := fun ds Q => ∃ (ns : List Int), ds = [.lst (ns.map D.int)] ∧ Q (.int ns.sum)
theorem m_sum : MonoS sdSum := fun ds P P' g ⟨bs, e, q⟩ => ⟨bs, e, g _ q⟩
theorem vals_int {K : PySem.W.Frag} {H : Hp} : ∀ {vs : List V} {bs : List Int}, Dvs K H vs (bs.map D.int) → vs = bs.map V.int
  | [], [], _ => rfl
  | _, _ :: _, .cons (.int _) r => by rw [vals_int r]; rfl
theorem does_sum {K : PySem.W.Frag} {A : Around} (hh : A.handled = none) : DoesB K (fun xs H Q => ∃ (p : Addr) (ns : List Int), xs = [.ref p] ∧ A.handled = none ∧ SqL K H p (ns.map V.int) ∧ Q (.int ns.sum) H) sdSum := by
  intro H vs ds Q dvs ⟨bs, e, q⟩
  subst e
  cases dvs with
  | cons dv r =>
    cases r
    cases dv with
    | lst h1 h2 =>
      rw [vals_int h2] at h1
      exact ⟨_, bs, rfl, hh, h1, q _ H (Same.refl _) (.int _)⟩
theorem d_sum (hh : X.A.handled = none) (hg : Gl X "sum") (hm : X.mg "sum" = none) (ha : PAd X (e :: es) t) (h1 : starEach (e :: es) X.env = (false, eval e X.env) :: starEach es X.env := by rfl) (h2 : (backTo pos (starEach es X.env)).any (·.1) = false := by rfl) : PD X (.Call (.Name "sum" p) (e :: es) [] pos) (vB sdSum t) := d_cb (pe_callB call_sum hg hm boot_sum ha.pa (he := h1) (hpl := h2)) ha.mono (does_sum hh) m_sum
def fMaxD : F2 := fun d e Q => ∃ (ns : List Int) (i : Int), d = .lst (ns.map D.int) ∧ e = .int i ∧ Q (.int (maxI i ns))
theorem m_maxD : MonoF fMaxD := fun d e P P' g ⟨ns, i, e1, e2, q⟩ => ⟨ns, i, e1, e2, g _ q⟩
def vMaxD : ED → ED → ED := vOp fMaxD
theorem d_maxD (hh : X.A.handled = none) (hg : Gl X "max") (hm : X.mg "max" = none) (he : PD X e te) (hc : PD X c tc) (h1 : starEach [e] X.env = (false, eval e X.env) :: starEach [] X.env := by rfl) : PD X (.Call (.Name "max" p) [e] [⟨some "default", c, kp⟩] pos) (vMaxD te tc) := by
  refine d_bin (t := oE X.K te) (pe_maxD hg hm he.pe hc.pe h1) he.mono hc.mono ?_ m_maxD
  intro H x y d e Q hx hy ⟨ns, i, e1, e2, q⟩
  subst e1 e2
  cases hy
  cases hx with
  | lst g1 g2 =>
    rw [vals_int g2] at g1
    exact ⟨_, ns, i, rfl, rfl, hh, g1, q _ H (Same.refl _) (.int _)⟩
end
end DC

set_option maxHeartbeats 4000000
namespace DC
open PySem PySem.Spec PyProof.Rows L2
inductive MD where
  | lst (ds : List D) | ins (C : Addr) (gs : FD) | dK (kvs : List (Key × D))
abbrev Mu := List (Addr × MD)
def AtM (K : PySem.W.Frag) (H : Hp) (L : List Addr) (a : Addr) : MD → Prop
  | .lst ds => ∃ vs, H a = some (.lst vs) ∧ Dvs K (hidL H L) vs ds
  | .ins C gs => ∃ dx fs, H a = some (.ins C dx fs) ∧ H dx = some (.own a) ∧ dx ∈ L ∧ Dvf K (hidL H L) fs gs
  | .dK kvs => ∃ ws, H a = some (.dK ws) ∧ Dvk K (hidL H L) ws kvs
structure StM (K : PySem.W.Frag) (H : Hp) (μ : Mu) (L : List Addr) : Prop where
  at_ : ∀ p ∈ μ, p.1 ∈ L ∧ AtM K H L p.1 p.2
  nod : (μ.map (·.1)).Nodup
  hid : ∀ b ∈ L, HidOk H L b
  cov : ∀ b ∈ L, (∃ m, (b, m) ∈ μ) ∨ ∃ a, H b = some (.own a)
section
variable {K : PySem.W.Frag} {H H1 H4 : Hp} {μ : Mu} {L : List Addr}
theorem hidL_on (s : Same H H1) : Same (hidL H L) (hidL H1 L) := fun b o h => by
  obtain ⟨h1, h2⟩ := hidL_some h
  rw [hidL_out h1]
  exact s _ _ h2
theorem AtM.on {a : Addr} (s : Same H H1) : ∀ {m : MD}, AtM K H L a m → AtM K H1 L a m
  | .lst _, ⟨vs, h, d⟩ => ⟨vs, s _ _ h, Dvs.same (hidL_on s) d⟩
  | .ins _ _, ⟨dx, fs, h, h2, h3, d⟩ => ⟨dx, fs, s _ _ h, s _ _ h2, h3, Dvf.same (hidL_on s) d⟩
  | .dK _, ⟨ws, h, d⟩ => ⟨ws, s _ _ h, Dvk.same (hidL_on s) d⟩
theorem hok_on {a : Addr} (s : Same H H1) (h : HidOk H L a) : HidOk H1 L a := by
  cases h with
  | lst xs h => exact .lst xs (s _ _ h)
  | dK xs h => exact .dK xs (s _ _ h)
  | ins C dx fs h hd => exact .ins C dx fs (s _ _ h) hd
  | own C b fs h hb hi => exact .own C b fs (s _ _ h) hb (s _ _ hi)
theorem StM.on (g : StM K H μ L) (s : Same H H1) : StM K H1 μ L :=
  ⟨fun p hp => ⟨(g.at_ p hp).1, (g.at_ p hp).2.on s⟩, g.nod, fun b hb => hok_on s (g.hid b hb), fun b hb => (g.cov b hb).imp id fun ⟨a, q⟩ => ⟨a, s _ _ q⟩⟩
theorem StM.show (g : StM K H μ L) (z : ∀ b ∈ L, H4 b = none) (s : Same (hidL H L) H4) : StM K (showL H4 H L) μ L := by
  have e : hidL (showL H4 H L) L = H4 := hidL_showL z
  refine ⟨fun p hp => ⟨(g.at_ p hp).1, ?_⟩, g.nod, fun b hb => ?_, fun b hb => (g.cov b hb).imp id fun ⟨a, q⟩ => ⟨a, by rw [showL_in hb]; exact q⟩⟩
  · obtain ⟨hp1, ha⟩ := g.at_ p hp
    obtain ⟨a, m⟩ := p
    cases m with
    | lst ds => obtain ⟨vs, h, d⟩ := ha; exact ⟨vs, by rw [showL_in hp1]; exact h, by rw [e]; exact Dvs.same s d⟩
    | ins C gs => obtain ⟨dx, fs, h, h2, h3, d⟩ := ha; exact ⟨dx, fs, by rw [showL_in hp1]; exact h, by rw [showL_in h3]; exact h2, h3, by rw [e]; exact Dvf.same s d⟩
    | dK kvs => obtain ⟨ws, h, d⟩ := ha; exact ⟨ws, by rw [showL_in hp1]; exact h, by rw [e]; exact Dvk.same s d⟩
  · have w := g.hid b hb
    cases w with
    | lst xs h => exact .lst xs (by rw [showL_in hb]; exact h)
    | dK xs h => exact .dK xs (by rw [showL_in hb]; exact h)
    | ins C dx fs h hd => exact .ins C dx fs (by rw [showL_in hb]; exact h) hd
    | own C c fs h hc hi => exact .own C c fs (by rw [showL_in hb]; exact h) hc (by rw [showL_in hc]; exact hi)
theorem StM.nil : StM K H [] [] := ⟨fun p hp => (nomatch hp), List.nodup_nil, fun b hb => (nomatch hb), fun b hb => (nomatch hb)⟩
def MD.d : MD → D
  | .lst ds => .lst ds
  | .ins C gs => .obj C gs
  | .dK kvs => .dK kvs
def viewD (μ : Mu) : D → D
  | .adr a => ((μ.lookup a).map MD.d).getD (.adr a)
  | d => d
def viewS (μ : Mu) (δ : SD) : SD := δ.map (Option.map (viewD μ))
theorem mem_of_lookup {a : Addr} {m : MD} : ∀ {μ : Mu}, μ.lookup a = some m → (a, m) ∈ μ
  | [], h => by cases h
  | (b, n) :: r, h => by
    rw [List.lookup_cons] at h
    cases q : a == b with
    | true => rw [q] at h; cases h; rw [beq_iff_eq.mp q]; exact List.mem_cons_self
    | false => rw [q] at h; exact List.mem_cons_of_mem _ (mem_of_lookup h)
theorem StM.view (g : StM K H μ L) {v : V} {d : D} (h : Dv K (hidL H L) v d) : Dv K H v (viewD μ d) := by
  cases h with
  | adr a =>
    show Dv K H (.ref a) (((μ.lookup a).map MD.d).getD (.adr a))
    cases q : μ.lookup a with
    | none => exact .adr a
    | some m =>
      show Dv K H (.ref a) m.d
      obtain ⟨_, ha⟩ := g.at_ _ (mem_of_lookup q)
      cases m with
      | lst ds => obtain ⟨vs, h, d⟩ := ha; exact .lst (SqL.of h) (Dvs.same hidL_same d)
      | ins C gs => obtain ⟨dx, fs, h, h2, h3, d⟩ := ha; exact .obj (.of h) (Dvf.same hidL_same d)
      | dK kvs => obtain ⟨ws, h, d⟩ := ha; exact .dK (.of h) (Dvk.same hidL_same d)
  | non => exact .non
  | bl b => exact .bl b
  | int i => exact .int i
  | str x => exact .str x
  | lst h1 h2 => exact Dv.same hidL_same (.lst h1 h2)
  | tup h1 h2 => exact Dv.same hidL_same (.tup h1 h2)
  | obj h1 h2 => exact Dv.same hidL_same (.obj h1 h2)
  | dK h1 h2 => exact Dv.same hidL_same (.dK h1 h2)
  | dT h1 h2 => exact Dv.same hidL_same (.dT h1 h2)
  | exc h1 h2 h3 => exact Dv.same hidL_same (.exc h1 h2 h3)
theorem StM.viewS (g : StM K H μ L) {σ : L2.St} {δ : SD} (r : RelS K (hidL H L) σ δ) : RelS K H σ (viewS μ δ) := by
  refine ⟨by unfold DC.viewS; rw [List.length_map]; exact r.len, fun i d h => ?_⟩
  unfold DC.viewS at h
  rw [List.getElem?_map] at h
  cases q : δ[i]? with
  | none => rw [q] at h; cases h
  | some o =>
    rw [q] at h
    cases o with
    | none => cases h
    | some d' =>
      cases h
      obtain ⟨v, hv, dv⟩ := r.get i d' q
      exact ⟨v, hv, g.view dv⟩
end
structure EndsM where
  nx : SD → Mu → Prop
  rt : D → Mu → Prop
  bk : SD → Mu → Prop := fun _ _ => False
  ct : SD → Mu → Prop := fun _ _ => False
abbrev TMD := EndsM → SD → Mu → Prop
structure EndsM.Le (E E' : EndsM) : Prop where
  nx : ∀ δ μ, E.nx δ μ → E'.nx δ μ
  rt : ∀ d μ, E.rt d μ → E'.rt d μ
  bk : ∀ δ μ, E.bk δ μ → E'.bk δ μ
  ct : ∀ δ μ, E.ct δ μ → E'.ct δ μ
abbrev MonoM (t : TMD) : Prop := ∀ E E' δ μ, EndsM.Le E E' → t E δ μ → t E' δ μ
def kM (K : PySem.W.Frag) (H : Hp) (L : List Addr) (Q : L2.St → Hp → Prop) : SD → Mu → Prop := fun δ μ => ∀ σ H' L', Same (hidL H L) (hidL H' L') → RelS K (hidL H' L') σ δ → StM K H' μ L' → Q σ H'
def kR (K : PySem.W.Frag) (H : Hp) (L : List Addr) (Q : VK) : D → Mu → Prop := fun d μ => ∀ v H' L', Same (hidL H L) (hidL H' L') → StM K H' μ L' → Dv K (hidL H' L') v d → Q v H'
def endM (K : PySem.W.Frag) (H : Hp) (L : List Addr) (D : Ends) : EndsM := ⟨kM K H L D.nx, kR K H L D.rt, kM K H L D.bk, kM K H L D.ct⟩
theorem endM_on {K : PySem.W.Frag} {H H1 : Hp} {L L1 : List Addr} {D : Ends} (s : Same (hidL H L) (hidL H1 L1)) : EndsM.Le (endM K H L D) (endM K H1 L1 D) :=
  ⟨fun _ _ h σ H' L' s' r g => h σ H' L' (s.trans s') r g, fun _ _ h v H' L' s' g d => h v H' L' (s.trans s') g d, fun _ _ h σ H' L' s' r g => h σ H' L' (s.trans s') r g, fun _ _ h σ H' L' s' r g => h σ H' L' (s.trans s') r g⟩
def oM (K : PySem.W.Frag) (t : TMD) : TS := fun D σ H => ∃ δ μ L, RelS K (hidL H L) σ δ ∧ StM K H μ L ∧ t (endM K H L D) δ μ
structure PMd (X : Cx) (st : Stmt) (t : TMD) : Prop where
  ps : PS X st (oM X.K t)
  mono : MonoM t
structure PMs (X : Cx) (st : List Stmt) (t : TMD) : Prop where
  ps : PSs X st (oM X.K t)
  mono : MonoM t
section
variable {X : Cx} {st : Stmt} {rest body els : List Stmt} {t u : TMD} {e c : Expr} {te : ED} {uc : TD} {pos : Pos}
def mNext : TMD := fun E δ μ => E.nx δ μ
def mSeq (t u : TMD) : TMD := fun E δ μ => t { E with nx := u E } δ μ
theorem ms_nil : PMs X [] mNext := ⟨PSs.imp pss_nil fun D σ H ⟨δ, μ, L, r, g, h⟩ => h σ H L (Same.refl _) r g, fun E E' δ μ l h => l.nx _ _ h⟩
theorem ms_cons (h1 : PMd X st t) (h2 : PMs X rest u) : PMs X (st :: rest) (mSeq t u) :=
  ⟨PSs.imp (pss_cons h1.ps h2.ps) fun D σ H ⟨δ, μ, L, r, g, h⟩ => ⟨δ, μ, L, r, g, h1.mono { endM X.K H L D with nx := u (endM X.K H L D) } _ _ _ ⟨fun δ' μ' q σ' H' L' s' r' g' => ⟨δ', μ', L', r', g', h2.mono _ _ _ _ (endM_on s') q⟩, fun _ _ q => q, fun _ _ q => q, fun _ _ q => q⟩ h⟩,
   fun E E' δ μ l h => h1.mono { E with nx := u E } _ _ _ ⟨fun δ' μ' q => h2.mono _ _ _ _ l q, l.rt, l.bk, l.ct⟩ h⟩
theorem ms_one (h1 : PMd X st t) : PMs X [st] t := ⟨pss_one h1.ps, h1.mono⟩
def mLift (t : TSD) : TMD := fun E δ μ => t { nx := fun δ' => E.nx δ' μ, rt := fun d => E.rt d μ, bk := fun δ' => E.bk δ' μ, ct := fun δ' => E.ct δ' μ } δ
theorem lift_of {t : TSD} (m : MonoQ t) {D : Ends} {σ : L2.St} {H : Hp} (h : oM X.K (mLift t) D σ H) : frS (oS X.K t) D σ H := by
  obtain ⟨δ, μ, L, r, g, h⟩ := h
  refine ⟨L, g.hid, δ, r, ?_⟩
  refine m { nx := fun δ' => (endM X.K H L D).nx δ' μ, rt := fun d => (endM X.K H L D).rt d μ, bk := fun δ' => (endM X.K H L D).bk δ' μ, ct := fun δ' => (endM X.K H L D).ct δ' μ } _ _ ⟨fun δ' q σ' H' s' r' z => ?_, fun d q v H' s' dv z => ?_, fun δ' q σ' H' s' r' z => ?_, fun δ' q σ' H' s' r' z => ?_⟩ h
  · have e : hidL (showL H' H L) L = H' := hidL_showL z
    exact q σ' _ L (by rw [e]; exact s') (by rw [e]; exact r') (g.show z s')
  · have e : hidL (showL H' H L) L = H' := hidL_showL z
    exact q v _ L (by rw [e]; exact s') (g.show z s') (by rw [e]; exact dv)
  · have e : hidL (showL H' H L) L = H' := hidL_showL z
    exact q σ' _ L (by rw [e]; exact s') (by rw [e]; exact r') (g.show z s')
  · have e : hidL (showL H' H L) L = H' := hidL_showL z
    exact q σ' _ L (by rw [e]; exact s') (by rw [e]; exact r') (g.show z s')
theorem m_lift {t : TSD} (m : MonoQ t) : MonoM (mLift t) := fun E E' δ μ l h => m { nx := fun δ' => E.nx δ' μ, rt := fun d => E.rt d μ, bk := fun δ' => E.bk δ' μ, ct := fun δ' => E.ct δ' μ } _ _ ⟨fun _ q => l.nx _ _ q, fun _ q => l.rt _ _ q, fun _ q => l.bk _ _ q, fun _ q => l.ct _ _ q⟩ h
theorem ms_lift {t : TSD} (h : PSd X st t) : PMd X st (mLift t) := ⟨PS.imp (ps_frM h.ps) fun D σ H q => lift_of h.mono q, m_lift h.mono⟩
theorem mss_lift {t : TSD} (h : PSsd X rest t) : PMs X rest (mLift t) := ⟨PSs.imp (pss_frM h.ps) fun D σ H q => lift_of h.mono q, m_lift h.mono⟩
def mIf (uc : TD) (t u : TMD) : TMD := fun E δ μ => uc (viewS μ δ) fun b => if b = true then t E δ μ else u E δ μ
theorem ms_if (hc : PTd X c uc) (ha : PMs X body t) (hb : PMs X els u) : PMd X (.If c body els pos) (mIf uc t u) := by
  refine ⟨PS.imp (ps_if hc.pt ha.ps hb.ps) fun D σ H ⟨δ, μ, L, r, g, h⟩ => ⟨_, g.viewS r, hc.mono _ _ _ (fun k q H1 s1 => ?_) h⟩, fun E E' δ μ l h => hc.mono _ _ _ (fun k q => ?_) h⟩
  · have s2 : Same (hidL H L) (hidL H1 L) := hidL_on s1
    cases k with
    | true =>
      show if true = true then _ else _
      rw [if_pos rfl] at q ⊢; exact ⟨δ, μ, L, r.same s2, g.on s1, ha.mono _ _ _ _ (endM_on s2) q⟩
    | false =>
      show if false = true then _ else _
      rw [if_neg Bool.false_ne_true] at q ⊢; exact ⟨δ, μ, L, r.same s2, g.on s1, hb.mono _ _ _ _ (endM_on s2) q⟩
  · cases k with
    | true => rw [if_pos rfl] at q ⊢; exact ha.mono _ _ _ _ l q
    | false => rw [if_neg Bool.false_ne_true] at q ⊢; exact hb.mono _ _ _ _ l q
def mRet (te : ED) : TMD := fun E δ μ => te (viewS μ δ) fun d => E.rt d []
theorem ms_ret (he : PD X e te) : PMd X (.Return (some e) pos) (mRet te) :=
  ⟨PS.imp (ps_ret he.pe) fun D σ H ⟨δ, μ, L, r, g, h⟩ => ⟨_, g.viewS r, he.mono _ _ _ (fun d q v H1 s1 dv => q v H1 [] (by rw [hidL_nil]; exact hidL_same.trans s1) StM.nil (by rw [hidL_nil]; exact dv)) h⟩,
   fun E E' δ μ l h => he.mono _ _ _ (fun d q => l.rt _ _ q) h⟩
end
end DC

set_option maxHeartbeats 4000000
namespace DC
open PySem PySem.Spec PyProof.Rows L2
def putM (a : Addr) (m : MD) (μ : Mu) : Mu := μ.map fun p => if p.1 = a then (a, m) else p
theorem putM_keys (a : Addr) (m : MD) (μ : Mu) : (putM a m μ).map (·.1) = μ.map (·.1) := by
  unfold putM
  rw [List.map_map]
  refine List.map_congr_left fun p _ => ?_
  show (if p.1 = a then (a, m) else p).1 = p.1
  split
  · rename_i h; exact h.symm
  · rfl
section
variable {K : PySem.W.Frag} {H : Hp} {μ : Mu} {L : List Addr} {a : Addr} {vs ys : List V} {ds : List D}
theorem hidL_upd {o : HO} (h : a ∈ L) : hidL (upd H a o) L = hidL H L := by
  funext b
  by_cases hb : b ∈ L
  · rw [hidL_in hb, hidL_in hb]
  · rw [hidL_out hb, hidL_out hb, upd_ne (fun z => hb (by rw [z]; exact h))]
theorem StM.putL (g : StM K H μ L) (ha : a ∈ L) (hv : H a = some (.lst vs)) (d : Dvs K (hidL H L) ys ds) : StM K (upd H a (.lst ys)) (putM a (.lst ds) μ) L := by
  have e : hidL (upd H a (.lst ys)) L = hidL H L := hidL_upd ha
  refine ⟨fun p hp => ?_, by rw [putM_keys]; exact g.nod, fun b hb => ?_, fun b hb => ?_⟩
  · obtain ⟨q, hq, rfl⟩ := List.mem_map.mp hp
    by_cases hqa : q.1 = a
    · rw [if_pos hqa]
      exact ⟨ha, ys, upd_same, by rw [e]; exact d⟩
    · rw [if_neg hqa]
      obtain ⟨h1, h2⟩ := g.at_ q hq
      refine ⟨h1, ?_⟩
      obtain ⟨b, m⟩ := q
      cases m with
      | lst ds => obtain ⟨ws, h, d⟩ := h2; exact ⟨ws, by rw [upd_ne hqa]; exact h, by rw [e]; exact d⟩
      | ins C gs => obtain ⟨dx, fs, h, h2, h3, d⟩ := h2; exact ⟨dx, fs, by rw [upd_ne hqa]; exact h, by rw [upd_ne (fun z => by rw [z, hv] at h2; cases h2)]; exact h2, h3, by rw [e]; exact d⟩
      | dK kvs => obtain ⟨ws, h, d⟩ := h2; exact ⟨ws, by rw [upd_ne hqa]; exact h, by rw [e]; exact d⟩
  · by_cases hba : b = a
    · rw [hba]; exact .lst ys upd_same
    · have w := g.hid b hb
      cases w with
      | lst xs h => exact .lst xs (by rw [upd_ne hba]; exact h)
      | dK xs h => exact .dK xs (by rw [upd_ne hba]; exact h)
      | ins C dx fs h hd => exact .ins C dx fs (by rw [upd_ne hba]; exact h) hd
      | own C c fs h hc hi => exact .own C c fs (by rw [upd_ne hba]; exact h) hc (by rw [upd_ne (fun z => by rw [z, hv] at hi; cases hi)]; exact hi)
  · rcases g.cov b hb with ⟨m, h⟩ | ⟨c, h⟩
    · by_cases hba : b = a
      · exact .inl ⟨.lst ds, List.mem_map.mpr ⟨_, h, by rw [if_pos hba, hba]⟩⟩
      · exact .inl ⟨m, List.mem_map.mpr ⟨_, h, if_neg hba⟩⟩
    · exact .inr ⟨c, by rw [upd_ne (fun z => by rw [z, hv] at h; cases h)]; exact h⟩
theorem StM.newL (g : StM K H μ L) (hn : H a = none) (d : Dvs K (hidL H L) ys ds) : StM K (upd H a (.lst ys)) ((a, .lst ds) :: μ) (a :: L) ∧ hidL (upd H a (.lst ys)) (a :: L) = hidL H L := by
  have haL : a ∉ L := fun h => by obtain ⟨o, q⟩ := (g.hid a h).there; rw [hn] at q; cases q
  have e : hidL (upd H a (.lst ys)) (a :: L) = hidL H L := by
    funext b
    by_cases hb : b = a
    · rw [hb, hidL_in List.mem_cons_self, hidL_none hn]
    · by_cases hb2 : b ∈ L
      · rw [hidL_in (List.mem_cons_of_mem _ hb2), hidL_in hb2]
      · rw [hidL_out (fun z => (List.mem_cons.mp z).elim hb hb2), hidL_out hb2, upd_ne hb]
  have ne : ∀ {b : Addr} {o : HO}, H b = some o → b ≠ a := fun h => ne_of_none h hn
  refine ⟨⟨fun p hp => ?_, ?_, fun b hb => ?_, fun b hb => ?_⟩, e⟩
  · rcases List.mem_cons.mp hp with rfl | hp
    · exact ⟨List.mem_cons_self, ys, upd_same, by rw [e]; exact d⟩
    · obtain ⟨h1, h2⟩ := g.at_ p hp
      refine ⟨List.mem_cons_of_mem _ h1, ?_⟩
      obtain ⟨b, m⟩ := p
      cases m with
      | lst ds => obtain ⟨ws, h, d⟩ := h2; exact ⟨ws, by rw [upd_ne (ne h)]; exact h, by rw [e]; exact d⟩
      | ins C gs => obtain ⟨dx, fs, h, h2, h3, d⟩ := h2; exact ⟨dx, fs, by rw [upd_ne (ne h)]; exact h, by rw [upd_ne (ne h2)]; exact h2, List.mem_cons_of_mem _ h3, by rw [e]; exact d⟩
      | dK kvs => obtain ⟨ws, h, d⟩ := h2; exact ⟨ws, by rw [upd_ne (ne h)]; exact h, by rw [e]; exact d⟩
  · rw [List.map_cons, List.nodup_cons]
    refine ⟨fun h => ?_, g.nod⟩
    obtain ⟨p, hp, hpa⟩ := List.mem_map.mp h
    have : p.1 = a := hpa
    exact haL (this ▸ (g.at_ p hp).1)
  · rcases List.mem_cons.mp hb with rfl | hb
    · exact .lst ys upd_same
    · have w := g.hid b hb
      cases w with
      | lst xs h => exact .lst xs (by rw [upd_ne (ne h)]; exact h)
      | dK xs h => exact .dK xs (by rw [upd_ne (ne h)]; exact h)
      | ins C dx fs h hd => exact .ins C dx fs (by rw [upd_ne (ne h)]; exact h) (List.mem_cons_of_mem _ hd)
      | own C c fs h hc hi => exact .own C c fs (by rw [upd_ne (ne h)]; exact h) (List.mem_cons_of_mem _ hc) (by rw [upd_ne (ne hi)]; exact hi)
  · rcases List.mem_cons.mp hb with rfl | hb
    · exact .inl ⟨_, List.mem_cons_self⟩
    · rcases g.cov b hb with ⟨m, h⟩ | ⟨c, h⟩
      · exact .inl ⟨m, List.mem_cons_of_mem _ h⟩
      · exact .inr ⟨c, by rw [upd_ne (ne h)]; exact h⟩
end
section
variable {X : Cx} {e : Expr} {te : ED} {es : List Expr} {t : AD} {i : Nat} {x : Str} {p pos pos' apos cpos : Pos}
def mNewL (i : Nat) (t : AD) : TMD := fun E δ μ => t δ fun ds => ds.length ≤ sizeLine ∧ ∀ a, (∀ m, (a, m) ∉ μ) → E.nx (δ.set i (some (.adr a))) ((a, .lst ds) :: μ)
theorem ms_newL (hN : X.N.Nodup) (hi : X.N[i]? = some x) (hx : Loc X.env.scope x) (h : PAd X es t) (hs : swapsWith (.List es p) (some (.Name x pos')) pos.line X.env = pure false := by rfl)
    (hf : X.fn x = true ∨ X.env.scope.names.lookup x = some .local := by first | exact .inl rfl | exact .inr rfl | assumption) : PMd X (.Assign [.Name x pos'] (.List es p) pos) (mNewL i t) := by
  refine ⟨PS.imp (ps_set hN hi hx (pe_frM (pe_lst h.pa)) hs hf) fun D σ H ⟨δ, μ, L, r, g, q⟩ => ⟨L, g.hid, δ, r, h.mono _ _ _ (fun ds ⟨hz, k⟩ vs H1 s1 dvs => ⟨by rw [dvs.length]; exact hz, fun a ha z => ?_⟩) q⟩,
    fun E E' δ μ l q => h.mono _ _ _ (fun ds ⟨hz, k⟩ => ⟨hz, fun a ha => l.nx _ _ (k a ha)⟩) q⟩
  have haL : a ∉ L := fun hl => by have := z a hl; rw [upd_same] at this; cases this
  have nb : ∀ {b : Addr}, b ∈ L → b ≠ a := fun hb w => haL (by rw [← w]; exact hb)
  have z1 : ∀ b ∈ L, H1 b = none := fun b hb => by have := z b hb; rwa [upd_ne (nb hb)] at this
  have eS : showL (upd H1 a (.lst vs)) H L = upd (showL H1 H L) a (.lst vs) := by
    funext b
    by_cases hb : b ∈ L
    · rw [showL_in hb, upd_ne (nb hb), showL_in hb]
    · rw [showL_out hb]
      by_cases hba : b = a
      · rw [hba, upd_same, upd_same]
      · rw [upd_ne hba, upd_ne hba, showL_out hb]
  have e1 : hidL (showL H1 H L) L = H1 := hidL_showL z1
  have g1 : StM X.K (showL H1 H L) μ L := g.show z1 s1
  have hn : showL H1 H L a = none := by rw [showL_out haL]; exact ha
  obtain ⟨g2, e2⟩ := g1.newL hn (ys := vs) (ds := ds) (by rw [e1]; exact dvs)
  rw [eS]
  refine k a (fun m hm => haL (g.at_ _ hm).1) _ _ (a :: L) (by rw [e2, e1]; exact s1) ?_ g2
  rw [e2, e1]
  exact (r.same s1).set i (.adr a)
def mAppend (i : Nat) (te : ED) : TMD := fun E δ μ => ∃ a ds, δ[i]? = some (some (.adr a)) ∧ μ.lookup a = some (.lst ds) ∧ ds.length < sizeLine ∧ te δ fun d => E.nx δ (putM a (.lst (ds ++ [d])) μ)
theorem ms_append (hi : X.N[i]? = some x) (hv : Vis X.env.scope x) (he : PD X e te) (hd : (x == ("__debug__" : Str)) = false := by decide) (hcd : (x == ("__classdict__" : Str)) = false := by decide)
    (hst : starEach [e] X.env = (false, eval e X.env) :: starEach [] X.env := by rfl) (hline : (apos.endLine == cpos.line) = true := by rfl)
    (hfew : ((backTo cpos (starEach [e] X.env)).all (fun x => !x.1) && (backToKw cpos (keywordEach [] X.env)).all (fun x => x.1.isSome) && decide ([e].length + ([] : List Keyword).length + (if ([] : List Keyword).isEmpty then 0 else 1) < 30)) = true := by rfl)
    (hs : swapsWith (.Call (.Attribute (.Name x p) "append" apos) [e] [] cpos) none pos.line X.env = pure false := by rfl)
    (hb : attributeBase (.Name x p) "append" X.env (eval (.Name x p) X.env) = eval (.Name x p) X.env := by rfl) :
    PMd X (.Expr (.Call (.Attribute (.Name x p) "append" apos) [e] [] cpos) pos) (mAppend i te) := by
  refine ⟨PS.imp (ps_expr (pe_bm PySem.F.plainAttrs_list PySem.F.slot_list_append PySem.F.type_list_append mt_append (pe_var hi hv hd hcd) (pa_cons (pe_frM he.pe) pa_nil hst) hb hfew hline hst) hs) fun D σ H ⟨δ, μ, L, r, g, q⟩ => ?_,
    fun E E' δ μ l ⟨a, ds, k1, k2, k3, q⟩ => ⟨a, ds, k1, k2, k3, he.mono _ _ _ (fun d k => l.nx _ _ k) q⟩⟩
  obtain ⟨a, ds, k1, k2, k3, q⟩ := q
  obtain ⟨v, hv1, dv⟩ := r.get i _ k1
  cases dv
  have hm := mem_of_lookup k2
  obtain ⟨haL, vs, hH, dvs⟩ := g.at_ _ hm
  refine ⟨_, hv1, .inl ⟨rfl, _, SqL.of hH⟩, L, g.hid, δ, r, he.mono _ _ _ (fun d k w H1 s1 dw z => ?_) q⟩
  have e1 : hidL (showL H1 H L) L = H1 := hidL_showL z
  have g1 : StM X.K (showL H1 H L) μ L := g.show z s1
  have hH1 : showL H1 H L a = some (.lst vs) := by rw [showL_in haL]; exact hH
  refine ⟨a, vs, w, rfl, rfl, hH1, by rw [dvs.length]; exact k3, ?_⟩
  have g2 := g1.putL haL hH1 (ys := vs ++ [w]) (ds := ds ++ [d]) (by rw [e1]; exact (Dvs.same s1 dvs).append (.cons dw .nil))
  have e2 : hidL (upd (showL H1 H L) a (.lst (vs ++ [w]))) L = H1 := by rw [hidL_upd haL, e1]
  exact k σ _ L (by rw [e2]; exact s1) (by rw [e2]; exact r.same s1) g2
end
end DC

set_option maxHeartbeats 4000000
namespace L2
open PySem PySem.Spec PyProof.Rows
section
variable {X : Cx} {tg : Expr} {g : TG}
def frG (g : TG) : TG := fun v σ H Q => ∃ L, (∀ a ∈ L, HidOk H L a) ∧ g v σ (hidL H L) fun σ' H4 => (∀ b ∈ L, H4 b = none) → Q σ' (showL H4 H L)
theorem pg_frM (h : PG X tg g) : PG X tg (frG g) := by
  intro pins s σ H v u Q I r ⟨L, hL, q⟩
  refine frameM I hL fun pl I' _ back => ?_
  refine thn (h (pins ++ pl) s σ _ v u _ I' r q) fun _ s1 ⟨σ', H4, I4, k⟩ => ?_
  obtain ⟨z, J⟩ := back _ _ _ I4
  exact ⟨σ', _, J, k z⟩
end
end L2
namespace DC
open PySem PySem.Spec PyProof.Rows L2
section
variable {X : Cx} {tg iter : Expr} {body : List Stmt} {ti : AD} {g : TGD} {tb : TMD} {pos : Pos}
def mFor (ti : AD) (g : TGD) (tb : TMD) : TMD := fun E δ μ => ti δ fun ds => ∃ inv : Nat → SD → Mu → Prop, inv 0 δ μ ∧
  (∀ i d δ' μ', ds[i]? = some d → inv i δ' μ' → g d δ' fun δ2 => tb { E with nx := inv (i + 1), ct := inv (i + 1), bk := E.nx } δ2 μ') ∧ ∀ δ' μ', inv ds.length δ' μ' → E.nx δ' μ'
theorem ms_for (hp : PassesOwn (model X.prog X.w) X.A X.env X.xe) (hc : X.calm = true) (hi : PId X tg iter ti) (hg : PGd X tg g) (hb : PMs X body tb) (hs : ∀ x, foldedSetIterable iter X.env x = pure x := by intro _; rfl) :
    PMd X (.For tg iter body [] pos) (mFor ti g tb) := by
  refine ⟨PS.imp (ps_for hp hc (pi_frM hi.pi) (pg_frM hg.pg) hb.ps hs) fun D σ H ⟨δ, μ, L, r, st, h⟩ => ⟨L, st.hid, δ, r, hi.mono _ _ _ (fun ds ⟨inv, i0, step, fin⟩ J H1 s1 it z => ?_) h⟩, fun E E' δ μ l h => hi.mono _ _ _ (fun ds ⟨inv, i0, step, fin⟩ => ⟨inv, i0, fun i d δ' μ' hd hin => hg.mono _ _ _ _ (fun δ2 q => hb.mono { E with nx := inv (i + 1), ct := inv (i + 1), bk := E.nx } _ _ _ ⟨fun _ _ q => q, l.rt, l.nx, fun _ _ q => q⟩ q) (step i d δ' μ' hd hin), fun δ' μ' q => l.nx _ _ (fin δ' μ' q)⟩) h⟩
  have e1 : hidL (showL H1 H L) L = H1 := hidL_showL z
  refine ⟨fun i m σ' H' => m = ds.length - i ∧ i ≤ ds.length ∧ ∃ δ' μ' L', Same H1 (hidL H' L') ∧ RelS X.K (hidL H' L') σ' δ' ∧ StM X.K H' μ' L' ∧ inv i δ' μ', ⟨ds.length, rfl, Nat.zero_le _, δ, μ, L, by rw [e1]; exact Same.refl _, by rw [e1]; exact r.same s1, st.show z s1, i0⟩, ?_⟩
  rintro i m σ' H' ⟨rfl, hle, δ', μ', L', s', r', st', hin⟩
  have sf : Same H1 H' := s'.trans hidL_same
  by_cases hlt : i < ds.length
  · refine .inr ⟨it.go i H' sf hlt, fun σ2 H2 => ∃ δ2 μ2 L2, Same H1 (hidL H2 L2) ∧ RelS X.K (hidL H2 L2) σ2 δ2 ∧ StM X.K H2 μ2 L2 ∧ inv (i + 1) δ2 μ2, fun σ2 H2 ⟨δ2, μ2, L2, q⟩ => ⟨ds.length - (i + 1), by omega, rfl, hlt, δ2, μ2, L2, q⟩, fun x H'' y => ?_⟩
    obtain ⟨s2, d, hd, Hx, _, dvx, hx, sx⟩ := it.yld i H' x H'' sf hlt y
    have sA : Same (hidL H' L') (hidL H'' L') := hidL_on s2
    have sX : Same Hx (hidL H'' L') := fun b o hb => by
      have nb : b ∉ L' := by
        intro hbL
        rcases hx b o hb with q | q
        · have := s' _ _ q
          rw [hidL_in hbL] at this
          cases this
        · obtain ⟨o', q'⟩ := (st'.hid b hbL).there
          rw [q] at q'
          cases q'
      rw [hidL_out nb]
      exact sx _ _ hb
    have st2 : StM X.K H'' μ' L' := st'.on s2
    refine ⟨L', st2.hid, d, δ', dvx.same sX, r'.same sA, hg.mono _ _ _ _ (fun δ2 q σ3 H3 s3 r3 z3 => ?_) (step i d δ' μ' hd hin)⟩
    have e3 : hidL (showL H3 H'' L') L' = H3 := hidL_showL z3
    have st3 : StM X.K (showL H3 H'' L') μ' L' := st2.show z3 s3
    have sB : Same H1 H3 := s'.trans (sA.trans s3)
    refine ⟨δ2, μ', L', by rw [e3]; exact r3, st3, hb.mono { endM X.K H L D with nx := inv (i + 1), ct := inv (i + 1), bk := (endM X.K H L D).nx } _ _ _ ?_ q⟩
    have sC : Same (hidL H L) (hidL (showL H3 H'' L') L') := by rw [e3]; exact s1.trans sB
    have l := endM_on (K := X.K) (D := D) sC
    refine ⟨fun δ4 μ4 q4 σ4 H4 L4 s4 r4 st4 => ⟨δ4, μ4, L4, ?_, r4, st4, q4⟩, fun _ _ q4 => l.rt _ _ q4, fun _ _ q4 => l.nx _ _ q4, fun δ4 μ4 q4 σ4 H4 L4 s4 r4 st4 => ⟨δ4, μ4, L4, ?_, r4, st4, q4⟩⟩
    · rw [e3] at s4; exact sB.trans s4
    · rw [e3] at s4; exact sB.trans s4
  · have e : i = ds.length := by omega
    subst e
    exact .inl ⟨it.stop H' sf, fin δ' μ' hin σ' H' L' (s1.trans s') r' st'⟩
end
section
variable {P : Program} {w : World} {K : PySem.W.Frag} {mg : Str → Option Value} {base : Heap}
theorem okM {x qual : Str} {st : Stmt} {f : Addr} {fd : FuncData} {N ps : List Str} {k : Nat} {sd : SpD} {t : TMD} (F : Fun K x qual st f fd) (S : FnScope N ps (defScope st)) (len : ∀ ds Q, sd ds Q → ds.length = ps.length)
    (hb : ∀ (cdv : Value) (A : Around) (outer : List Env) (s : Shared) (H : Hp) (E : XK), Room k (A.deeper (envOfC qual (defScope st) s.heap.objs.size f cdv)) → PMs (Bx P w K mg base N qual st f cdv A outer s H E) (defBody st) t)
    (hr : ∀ ds Q, sd ds Q → t { nx := fun _ _ => Q .non, rt := fun d μ => Q (viewD μ d) } (startD N ds) []) : FnOk P w K mg base CX0 (k + 1) f fd ps (spOf K sd) := by
  refine F.ok S (fun vs H Q E ⟨ds, dvs, h⟩ => by rw [dvs.length]; exact len ds _ h) (fun cdv A outer s H vs Q E hroom ⟨ds, dvs, h⟩ => ?_)
  have B := hb cdv A outer s H E hroom
  refine ⟨_, B.ps, startD N ds, [], [], by rw [hidL_nil]; exact start_rel dvs, StM.nil, ?_⟩
  refine B.mono { nx := fun _ _ => kD K H Q .non, rt := fun d μ => kD K H Q (viewD μ d) } _ _ _ ⟨fun δ μ q σ H' L' s' r g => ?_, fun d μ q v H' L' s' g dv => ?_, fun _ _ q => q.elim, fun _ _ q => q.elim⟩ (hr ds _ h)
  · rw [hidL_nil] at s'
    exact q _ H' (s'.trans hidL_same) .non
  · rw [hidL_nil] at s'
    exact q _ H' (s'.trans hidL_same) (g.view dv)
end
end DC

set_option maxHeartbeats 4000000
namespace DC
open PySem PySem.Spec PyProof.Rows L2
structure Cal (P : Program) (w : World) (K : PySem.W.Frag) (mg : Str → Option Value) (base : Heap) (k : Nat) (x : Str) (ps : List Str) (sd : SpD) : Prop where
  ex : ∃ f fd, FnOk P w K mg base CX0 k f fd ps (spOf K sd) ∧ mg x = some (.ref f) ∧ PySem.W.keepIn K (.ref f) = true ∧ Binds K fd ps []
  ms : MonoS sd
section
variable {P : Program} {w : World} {K : PySem.W.Frag} {mg : Str → Option Value} {base : Heap}
theorem Cal.up {j k : Nat} {x : Str} {ps : List Str} {sd : SpD} (c : Cal P w K mg base j x ps sd) (h : j ≤ k) : Cal P w K mg base k x ps sd :=
  ⟨let ⟨f, fd, F, r⟩ := c.ex; ⟨f, fd, F.mono h, r⟩, c.ms⟩
structure Df (K : PySem.W.Frag) (mg : Str → Option Value) (x : Str) (st : Stmt) (ps : List Str) : Prop where
  ex : ∃ f fd, Fun K x x st f fd ∧ mg x = some (.ref f) ∧ Binds K fd ps []
theorem Df.cal {k : Nat} {x : Str} {st : Stmt} {ps N : List Str} {sd : SpD} {t : TSD} (d : Df K mg x st ps) (S : FnScope N ps (defScope st)) (ms : MonoS sd) (len : ∀ ds Q, sd ds Q → ds.length = ps.length)
    (hb : ∀ (f : Addr) (cdv : Value) (A : Around) (outer : List Env) (s : Shared) (H : Hp) (E : XK), Room k (A.deeper (envOfC x (defScope st) s.heap.objs.size f cdv)) → PSsd (Bx P w K mg base N x st f cdv A outer s H E) (defBody st) t)
    (hr : ∀ ds Q, sd ds Q → t { nx := fun _ => Q .non, rt := Q } (startD N ds)) : Cal P w K mg base (k + 1) x ps sd := by
  obtain ⟨f, fd, F, m, b⟩ := d.ex
  exact ⟨⟨f, fd, okD F S len (hb f) hr, m, F.kp, b⟩, ms⟩
theorem Df.calM {k : Nat} {x : Str} {st : Stmt} {ps N : List Str} {sd : SpD} {t : TMD} (d : Df K mg x st ps) (S : FnScope N ps (defScope st)) (ms : MonoS sd) (len : ∀ ds Q, sd ds Q → ds.length = ps.length)
    (hb : ∀ (f : Addr) (cdv : Value) (A : Around) (outer : List Env) (s : Shared) (H : Hp) (E : XK), Room k (A.deeper (envOfC x (defScope st) s.heap.objs.size f cdv)) → PMs (Bx P w K mg base N x st f cdv A outer s H E) (defBody st) t)
    (hr : ∀ ds Q, sd ds Q → t { nx := fun _ _ => Q .non, rt := fun d μ => Q (viewD μ d) } (startD N ds) []) : Cal P w K mg base (k + 1) x ps sd := by
  obtain ⟨f, fd, F, m, b⟩ := d.ex
  exact ⟨⟨f, fd, okM F S len (hb f) hr, m, F.kp, b⟩, ms⟩
end
section
variable {X : Cx} {e : Expr} {es : List Expr} {t : AD} {j k : Nat} {x : Str} {ps : List Str} {sd : SpD} {p pos : Pos}
theorem d_cal (c : Cal X.prog X.w X.K X.mg X.base j x ps sd) (hr : Room k X.A) (hj : j ≤ k) (hg : Gl X x) (ha : PAd X (e :: es) t) (hdb : (x == ("__debug__" : Str)) = false := by decide)
    (h1 : starEach (e :: es) X.env = (false, eval e X.env) :: starEach es X.env := by rfl) (h2 : (backTo pos (starEach es X.env)).any (·.1) = false := by rfl) : PD X (.Call (.Name x p) (e :: es) [] pos) (vCall sd t) := by
  obtain ⟨f, fd, F, m, kp, b⟩ := c.ex
  exact d_call F c.ms (hr.mono hj) hg m kp b ha hdb (pe_call F (hr.mono hj) hg m kp b .nil pass0 ha.pa hdb h1 h2)
end
end DC

set_option maxHeartbeats 4000000
namespace DC
open PySem PySem.Spec PyProof.Rows L2
section
variable {X : Cx} {scope : Scope} {cl : List (Str × Addr)} {x : Str} {caps : List Nat} {cn : List Str} {tg iter elt : Expr} {ifs : List Expr} {ti : AD} {tt : TD} {te : ED} {pos : Pos}
theorem d_lc (S : CompScope X scope cl [x] caps cn) (hc : X.calm = true) (hi : PId X tg iter ti) (hg : ∀ C fp s₂ H₂, PG (cxComp X scope cl C ([x] ++ cn) fp s₂ H₂) tg (gName 0)) (ht : ∀ C fp s₂ H₂, PTsd (cxComp X scope cl C ([x] ++ cn) fp s₂ H₂) ifs tt)
    (he : ∀ C fp s₂ H₂, PD (cxComp X scope cl C ([x] ++ cn) fp s₂ H₂) elt te) (hs : ∀ x, foldedSetIterable iter X.env x = pure x := by intro _; rfl) : PD X (.ListComp elt [⟨tg, iter, ifs, 0⟩] scope pos) (vComp caps ti tt te) :=
  d_comp S hc hi hg ht he (ht 0 [] X.s₀ X.H₀).mono (he 0 [] X.s₀ X.H₀).mono hs
theorem s_lc {i : Nat} {y : Str} {py spos : Pos} (hN : X.N.Nodup) (hi' : X.N[i]? = some y) (hy : Loc X.env.scope y) (S : CompScope X scope cl [x] caps cn) (hc : X.calm = true) (hi : PId X tg iter ti)
    (hg : ∀ C fp s₂ H₂, PG (cxComp X scope cl C ([x] ++ cn) fp s₂ H₂) tg (gName 0)) (ht : ∀ C fp s₂ H₂, PTsd (cxComp X scope cl C ([x] ++ cn) fp s₂ H₂) ifs tt) (he : ∀ C fp s₂ H₂, PD (cxComp X scope cl C ([x] ++ cn) fp s₂ H₂) elt te)
    (hsw : swapsWith (.ListComp elt [⟨tg, iter, ifs, 0⟩] scope pos) (some (.Name y py)) spos.line X.env = pure true := by rfl) (hf : X.fn y = true ∨ X.env.scope.names.lookup y = some .local := by first | exact .inl rfl | exact .inr rfl | assumption)
    (hs : ∀ x, foldedSetIterable iter X.env x = pure x := by intro _; rfl) : PSd X (.Assign [.Name y py] (.ListComp elt [⟨tg, iter, ifs, 0⟩] scope pos) spos) (qSet i (vComp caps ti tt te)) :=
  s_comp hN hi' hy S hc hi hg ht he (ht 0 [] X.s₀ X.H₀).mono (he 0 [] X.s₀ X.H₀).mono hsw hf hs
theorem isSome_of {cl : List (Str × Addr)} {y : Str} : y ∈ cl.map (·.1) → (cl.lookup y).isSome = true := by
  induction cl with
  | nil => intro h; cases h
  | cons p r ih =>
    intro h
    rw [List.lookup_cons]
    cases q : y == p.1 with
    | true => rfl
    | false =>
      rw [List.map_cons, List.mem_cons] at h
      rcases h with h | h
      · rw [h] at q; simp at q
      · exact ih h
theorem free_of {cl : List (Str × Addr)} (ks : List Str) (hk : cl.map (·.1) = ks) (h : ∀ y ∈ scope.names, y.2 = .free → y.1 ∈ ks) : ∀ y ∈ scope.names, y.2 = .free → (cl.lookup y.1).isSome = true := fun y hy e => isSome_of (by rw [hk]; exact h y hy e)
theorem cells_nil {f : Str × Addr → Prop} : ∀ p ∈ ([] : List (Str × Addr)), f p := fun p h => nomatch h
theorem cells_cons {f : Str × Addr → Prop} {a : Str × Addr} {r : List (Str × Addr)} (h : f a) (hr : ∀ p ∈ r, f p) : ∀ p ∈ a :: r, f p := List.forall_mem_cons.mpr ⟨h, hr⟩
end
section
variable {X : Cx} {e : Expr} {te : ED} {p p2 pos : Pos}
theorem isi_bool (hg : Gl X "isinstance") (hm : X.mg "isinstance" = none) (hg2 : Gl X "bool") (hm2 : X.mg "bool" = none) (he : PD X e te) (hs : starEach [e, .Name "bool" p2] X.env = (false, eval e X.env) :: starEach [.Name "bool" p2] X.env := by rfl) : PD X (.Call (.Name "isinstance" p) [e, .Name "bool" p2] [] pos) (vIsiT "bool" te) := (d_isiT he hg hm hg2 hm2 boot_boolT (by decide) (by decide) hs).isiT he.mono (by decide)
theorem isi_int (hg : Gl X "isinstance") (hm : X.mg "isinstance" = none) (hg2 : Gl X "int") (hm2 : X.mg "int" = none) (he : PD X e te) (hs : starEach [e, .Name "int" p2] X.env = (false, eval e X.env) :: starEach [.Name "int" p2] X.env := by rfl) : PD X (.Call (.Name "isinstance" p) [e, .Name "int" p2] [] pos) (vIsiT "int" te) := (d_isiT he hg hm hg2 hm2 boot_intT (by decide) (by decide) hs).isiT he.mono (by decide)
end
end DC

set_option maxHeartbeats 4000000
namespace DC
open PySem PySem.Spec PyProof.Rows L2
structure Mcal (P : Program) (w : World) (K : PySem.W.Frag) (mg : Str → Option Value) (base : Heap) (j : Nat) (C : Addr) (m : Str) (sd : SpD) (dd : List D) : Prop where
  ex : ∃ f fd ps dvs ds, Cls K C ∧ Meth K C m f ∧ FnOk P w K mg base CX0 j f fd ps (spOf K sd) ∧ Binds K fd ps ds ∧ Vals dvs ds ∧ ∀ H, Dvs K H dvs dd
  ms : MonoS sd
theorem Mcal.mh {X : Cx} {j k : Nat} {C : Addr} {m : Str} {sd : SpD} {dd : List D} (c : Mcal X.prog X.w X.K X.mg X.base j C m sd dd) (hr : Room k X.A) (hj : j ≤ k) : MH X C m sd dd :=
  let ⟨f, fd, ps, dvs, ds, h1, h2, h3, h4, h5, h6⟩ := c.ex
  ⟨j, f, fd, ps, dvs, ds, h1, h2, h3, c.ms, hr.mono hj, h4, h5, h6⟩
theorem Mcal.up {P : Program} {w : World} {K : PySem.W.Frag} {mg : Str → Option Value} {base : Heap} {i j : Nat} {C : Addr} {m : Str} {sd : SpD} {dd : List D} (c : Mcal P w K mg base i C m sd dd) (h : i ≤ j) : Mcal P w K mg base j C m sd dd :=
  ⟨let ⟨f, fd, ps, dvs, ds, h1, h2, h3, r⟩ := c.ex; ⟨f, fd, ps, dvs, ds, h1, h2, h3.mono h, r⟩, c.ms⟩
structure Dm (K : PySem.W.Frag) (C : Addr) (m qual : Str) (st : Stmt) (ps : List Str) : Prop where
  ex : ∃ f fd, Fun K m qual st f fd ∧ Meth K C m f ∧ Cls K C ∧ Binds K fd ps []
section
variable {P : Program} {w : World} {K : PySem.W.Frag} {mg : Str → Option Value} {base : Heap}
theorem Dm.cal {k : Nat} {C : Addr} {m qual : Str} {st : Stmt} {ps N : List Str} {sd : SpD} {t : TSD} (d : Dm K C m qual st ps) (S : FnScope N ps (defScope st)) (ms : MonoS sd) (len : ∀ ds Q, sd ds Q → ds.length = ps.length)
    (hb : ∀ (f : Addr) (cdv : Value) (A : Around) (outer : List Env) (s : Shared) (H : Hp) (E : XK), Room k (A.deeper (envOfC qual (defScope st) s.heap.objs.size f cdv)) → PSsd (Bx P w K mg base N qual st f cdv A outer s H E) (defBody st) t)
    (hr : ∀ ds Q, sd ds Q → t { nx := fun _ => Q .non, rt := Q } (startD N ds)) : Mcal P w K mg base (k + 1) C m sd [] := by
  obtain ⟨f, fd, F, M, c, b⟩ := d.ex
  exact ⟨⟨f, fd, ps, [], [], c, M, okD F S len (hb f) hr, b, .nil, fun _ => .nil⟩, ms⟩
structure Mkr (P : Program) (w : World) (K : PySem.W.Frag) (mg : Str → Option Value) (base : Heap) (j : Nat) (x : Str) (C : Addr) (sd : SpI) (dd : List D) : Prop where
  ex : ∃ f fd ps dvs ds, Mk K C f ∧ FnOk P w K mg base CX0 j f fd ps (spI K C sd) ∧ mg x = some (.ref C) ∧ Binds K fd ps ds ∧ Vals dvs ds ∧ ∀ H, Dvs K H dvs dd
  ms : MonoSI sd
structure Di (K : PySem.W.Frag) (mg : Str → Option Value) (x : Str) (C : Addr) (qual : Str) (st : Stmt) (ps : List Str) (dd : List D) : Prop where
  ex : ∃ f fd dvs ds, FunV K "__init__" qual st f fd ∧ Mk K C f ∧ mg x = some (.ref C) ∧ Binds K fd ps ds ∧ Vals dvs ds ∧ ∀ H, Dvs K H dvs dd
theorem Di.mkr {k : Nat} {x : Str} {C : Addr} {qual : Str} {st : Stmt} {ps N : List Str} {dd : List D} {sd : SpI} {t : Addr → TID} (d : Di K mg x C qual st ps dd) (S : FnScope N ps (defScope st)) (ms : MonoSI sd) (len : ∀ ds Q, sd ds Q → ds.length + 1 = ps.length)
    (hb : ∀ (f : Addr) (cdv : Value) (A : Around) (outer : List Env) (s : Shared) (H : Hp) (E : XK), Room k (A.deeper (envOfC qual (defScope st) s.heap.objs.size f cdv)) → PIs (Bx P w K mg base N qual st f cdv A outer s H E) C (defBody st) t)
    (hr : ∀ a ds Q, sd ds Q → t a { nx := fun _ => Q, rt := Q, fin := Q } (startD N (.adr a :: ds)) []) : Mkr P w K mg base (k + 1) x C sd dd := by
  obtain ⟨f, fd, dvs, ds, F, M, m, b, v, h⟩ := d.ex
  exact ⟨⟨f, fd, ps, dvs, ds, M, okI F S len (hb f) hr, m, b, v, h⟩, ms⟩
end
section
variable {X : Cx} {ok : Addr → Prop} {o e : Expr} {es : List Expr} {m x : Str} {sd : Addr → SpD} {dd : List D} {ta : ED} {t : AD} {pos apos p : Pos} {j k : Nat} {C : Addr} {si : SpI}
theorem d_m0 {pl : Sem Bool} (hM : ∀ C, ok C → Mcal X.prog X.w X.K X.mg X.base j C m (sd C) dd) (hr : Room k X.A) (hj : j ≤ k) (he : PD X o ta)
    (ht : eval (.Call (.Attribute o m apos) [] [] pos) X.env = (do
      let ov ← eval o X.env
      standAt apos.atName
      let (f, first) ← holding [ov] (getMethod ov m pl)
      callWith pos f first (backTo pos (starEach [] X.env)) (backToKw pos (keywordEach [] X.env))) := by rfl) :
    PD X (.Call (.Attribute o m apos) [] [] pos) (vMeth ok m sd dd ta aNil) := d_meth0 (fun C h => (hM C h).mh hr hj) he ht
theorem d_mk (c : Mkr X.prog X.w X.K X.mg X.base j x C si dd) (hr : Room k X.A) (hj : j + 1 ≤ k) (hg : Gl X x) (ha : PAd X (e :: es) t) (hdb : (x == ("__debug__" : Str)) = false := by decide)
    (h1 : starEach (e :: es) X.env = (false, eval e X.env) :: starEach es X.env := by rfl) (h2 : (backTo pos (starEach es X.env)).any (·.1) = false := by rfl) : PD X (.Call (.Name x p) (e :: es) [] pos) (vMake C si dd t) := by
  obtain ⟨f, fd, ps, dvs, ds, M, F, m, b, v, h⟩ := c.ex
  exact d_make M F c.ms (hr.mono hj) hg m b v h ha hdb h1 h2
end
section
variable {X : Cx} {e : Expr} {te : ED} {p p2 pos pos' : Pos} {f x : Str} {C : Addr}
theorem d_fldK (K : PySem.W.Frag) (hK : X.K = K) (he : PD X e te) (hb : attributeBase e f X.env (eval e X.env) = eval e X.env) : PD X (.Attribute e f pos) (vFld K te f) := by subst hK; exact d_fld he hb
theorem d_isiK (K : PySem.W.Frag) (hK : X.K = K) (he : PD X e te) (hg : Gl X "isinstance") (hm : X.mg "isinstance" = none) (hg2 : Gl X x) (hm2 : X.mg x = some (.ref C)) (hd : (x == ("__debug__" : Str)) = false := by decide)
    (hs : starEach [e, .Name x p2] X.env = (false, eval e X.env) :: starEach [.Name x p2] X.env := by rfl) : PD X (.Call (.Name "isinstance" p) [e, .Name x p2] [] pos) (vIsi K (.ref C) te) := by subst hK; exact d_isiC he hg hm hg2 hm2 hd hs
theorem i_setK (K : PySem.W.Frag) (hK : X.K = K) (hN : X.N[0]? = some x) (hv : Vis X.env.scope x) (he : PD X e te) (hs : swapsWith e (some (.Attribute (.Name x p) f pos')) pos.line X.env = pure false := by rfl) (hd : (x == ("__debug__" : Str)) = false := by decide)
    (hcd : (x == ("__classdict__" : Str)) = false := by decide) : PIn X C (.Assign [.Attribute (.Name x p) f pos'] e pos) (iSet K C f te) := by subst hK; exact i_set hN hv he hs hd hcd
end
end DC

set_option maxHeartbeats 4000000
namespace DC
open PySem PySem.Spec PyProof.Rows L2
section
variable {X : Cx} {o e : Expr} {es : List Expr} {to te : ED} {t : AD} {p p1 p2 tp pos apos cpos : Pos}
def sdSplit (z : D) : SpD := fun ds Q => ∃ x y, z = .str x ∧ ds = [.str y] ∧ (y.length == 0) = false ∧ x.length + 2 ≤ sizeLine ∧ Q (.lst ((Txt.split x y).map D.str))
theorem dvs_strs {K : PySem.W.Frag} {H : Hp} : ∀ (ws : List Str), Dvs K H (ws.map V.str) (ws.map D.str)
  | [] => .nil
  | w :: ws => .cons (.str w) (dvs_strs ws)
def isStr : D → Prop := fun d => ∃ x, d = .str x
def vBmS (sd : D → SpD) (to : ED) (t : AD) : ED := fun δ Q => to δ fun z => isStr z ∧ t δ fun ds => sd z ds Q
theorem d_split (ho : PD X o to) (ha : PAd X (e :: es) t) (hbase : attributeBase o "split" X.env (eval o X.env) = eval o X.env := by rfl)
    (hfew : ((backTo cpos (starEach (e :: es) X.env)).all (fun x => !x.1) && (backToKw cpos (keywordEach [] X.env)).all (fun x => x.1.isSome) && decide ((e :: es).length + ([] : List Keyword).length + (if ([] : List Keyword).isEmpty then 0 else 1) < 30)) = true := by rfl)
    (hline : (apos.endLine == cpos.line) = true := by rfl) (hs : starEach (e :: es) X.env = (false, eval e X.env) :: starEach es X.env := by rfl) (hplain : (backTo cpos (starEach es X.env)).any (·.1) = false := by rfl) :
    PD X (.Call (.Attribute o "split" apos) (e :: es) [] cpos) (vBmS sdSplit to t) := by
  refine ⟨(pe_bm PySem.F.plainAttrs_str PySem.F.slot_str_split PySem.F.type_str_split mt_split ho.pe ha.pa hbase hfew hline hs hplain).imp fun σ H Q ⟨δ, r, h⟩ => ⟨δ, r, ho.mono _ _ _ (fun z ⟨⟨x, ez⟩, q⟩ v H1 s1 dv => ?_) h⟩,
    fun δ P P' g h => ho.mono _ _ _ (fun z ⟨i, q⟩ => ⟨i, ha.mono _ _ _ (fun ds ⟨x, y, e1, e2, c1, c2, k⟩ => ⟨x, y, e1, e2, c1, c2, g _ k⟩) q⟩) h⟩
  subst ez
  cases dv
  refine ⟨rfl, δ, r.same s1, ha.mono _ _ _ (fun ds ⟨x', y, e1, e2, c1, c2, k⟩ vs H2 s2 dvs => ?_) q⟩
  cases e1
  subst e2
  cases dvs with
  | cons a b =>
    cases a
    cases b
    exact ⟨_, y, rfl, rfl, c1, c2, fun p hp => k _ _ ((s1.trans s2).trans (same_upd hp)) (.lst (SqL.of upd_same) (dvs_strs _))⟩
end
end DC

set_option maxHeartbeats 4000000
namespace L2
open PySem PySem.Spec PyProof.Rows
section
variable {X : Cx}
end
end L2
namespace DC
open PySem PySem.Spec PyProof.Rows L2
section
variable {X : Cx} {e : Expr} {es : List Expr} {t : AD} {p pos : Pos}
end
end DC

set_option maxHeartbeats 4000000
namespace L2
open PySem PySem.Spec PyProof.Rows
section
variable {prog : Program} {w : World} {A : Around} {E : Value → Shared → Prop} {s : Shared}
end
section
variable {prog : Program} {w : World} {A : Around}
end
section
variable {prog : Program} {w : World} {A : Around} {E : Value → Shared → Prop} {s : Shared} {z TI TO i1 i2 l1 l2 : Addr} {k1 k2 : Nat} {xs ys : Array Value} {x y a b : Value} {S1 S2 : Nat → Heap → Prop}
end
end L2

set_option maxHeartbeats 4000000
namespace L2
open PySem PySem.Spec PyProof.Rows
section
variable {prog : Program} {w : World} {A : Around} {E : Value → Shared → Prop} {s : Shared} {z TI TO i1 i2 l1 l2 : Addr} {k1 k2 : Nat} {xs ys : Array Value} {x y a b : Value} {S1 S2 : Nat → Heap → Prop}
end
end L2

set_option maxHeartbeats 4000000
namespace L2
open PySem PySem.Spec PyProof.Rows
section
variable {X : Cx} {pins : List (Addr × Obj)} {σ : St} {H : Hp} {s : Shared} {a : Addr} {xs ys : List V}
end
end L2

set_option maxHeartbeats 4000000
namespace L2
open PySem PySem.Spec PyProof.Rows
section
variable {X : Cx} {e1 e2 : Expr} {ta : TA} {p pos tp : Pos} {elts : List Expr} {c : Nat}
end
end L2
namespace DC
open PySem PySem.Spec PyProof.Rows L2
section
variable {X : Cx} {e1 e2 : Expr} {ta : AD} {p pos tp : Pos} {elts : List Expr} {c : Nat}
end
end DC

set_option maxHeartbeats 4000000
namespace DC
open PySem PySem.Spec PyProof.Rows L2
section
variable {X : Cx} {scope : Scope} {cl : List (Str × Addr)} {x y : Str} {cn : List Str} {caps : List Nat} {elt tg iter : Expr} {ifs : List Expr} {ti : AD} {tt : TD} {te : ED} {pos px py tp : Pos} {c : Nat}
end
end DC

set_option maxHeartbeats 4000000
namespace DC
open PySem PySem.Spec PyProof.Rows L2
section
variable {K : PySem.W.Frag} {H H' : Hp} {μ μ' : Mu} {L L' : List Addr}
theorem StM.join (g : StM K H μ L) (g' : StM K H' μ' L') (z : ∀ b ∈ L, H' b = none) (s : Same (hidL H L) (hidL H' L')) : StM K (showL H' H L) (μ' ++ μ) (L' ++ L) ∧ hidL (showL H' H L) (L' ++ L) = hidL H' L' := by
  have nL : ∀ {b : Addr} {o : HO}, H' b = some o → b ∉ L := fun e hb => by rw [z _ hb] at e; cases e
  have e : hidL (showL H' H L) (L' ++ L) = hidL H' L' := by
    funext b
    by_cases h1 : b ∈ L'
    · rw [hidL_in (List.mem_append_left _ h1), hidL_in h1]
    · by_cases h2 : b ∈ L
      · rw [hidL_in (List.mem_append_right _ h2), hidL_out h1, z b h2]
      · rw [hidL_out (fun q => (List.mem_append.mp q).elim h1 h2), hidL_out h1, showL_out h2]
  refine ⟨⟨fun p hp => ?_, ?_, fun b hb => ?_, fun b hb => ?_⟩, e⟩
  · rcases List.mem_append.mp hp with hp | hp
    · obtain ⟨h1, h2⟩ := g'.at_ p hp
      refine ⟨List.mem_append_left _ h1, ?_⟩
      obtain ⟨b, m⟩ := p
      cases m with
      | lst ds => obtain ⟨ws, h, d⟩ := h2; exact ⟨ws, by rw [showL_out (nL h)]; exact h, by rw [e]; exact d⟩
      | ins C gs => obtain ⟨dx, fs, h, h2, h3, d⟩ := h2; exact ⟨dx, fs, by rw [showL_out (nL h)]; exact h, by rw [showL_out (nL h2)]; exact h2, List.mem_append_left _ h3, by rw [e]; exact d⟩
      | dK kvs => obtain ⟨ws, h, d⟩ := h2; exact ⟨ws, by rw [showL_out (nL h)]; exact h, by rw [e]; exact d⟩
    · obtain ⟨h1, h2⟩ := g.at_ p hp
      refine ⟨List.mem_append_right _ h1, ?_⟩
      obtain ⟨b, m⟩ := p
      cases m with
      | lst ds => obtain ⟨ws, h, d⟩ := h2; exact ⟨ws, by rw [showL_in h1]; exact h, by rw [e]; exact Dvs.same s d⟩
      | ins C gs => obtain ⟨dx, fs, h, h2, h3, d⟩ := h2; exact ⟨dx, fs, by rw [showL_in h1]; exact h, by rw [showL_in h3]; exact h2, List.mem_append_right _ h3, by rw [e]; exact Dvf.same s d⟩
      | dK kvs => obtain ⟨ws, h, d⟩ := h2; exact ⟨ws, by rw [showL_in h1]; exact h, by rw [e]; exact Dvk.same s d⟩
  · rw [List.map_append, List.nodup_append]
    refine ⟨g'.nod, g.nod, fun a ha b hb hab => ?_⟩
    obtain ⟨p, hp, rfl⟩ := List.mem_map.mp ha
    obtain ⟨q, hq, rfl⟩ := List.mem_map.mp hb
    obtain ⟨o, ho⟩ := (g'.hid _ (g'.at_ p hp).1).there
    rw [show p.1 = q.1 from hab, z _ (g.at_ q hq).1] at ho
    cases ho
  · rcases List.mem_append.mp hb with hb | hb
    · have w := g'.hid b hb
      cases w with
      | lst xs h => exact .lst xs (by rw [showL_out (nL h)]; exact h)
      | dK xs h => exact .dK xs (by rw [showL_out (nL h)]; exact h)
      | ins C dx fs h hd => exact .ins C dx fs (by rw [showL_out (nL h)]; exact h) (List.mem_append_left _ hd)
      | own C c fs h hc hi => exact .own C c fs (by rw [showL_out (nL h)]; exact h) (List.mem_append_left _ hc) (by rw [showL_out (nL hi)]; exact hi)
    · have w := g.hid b hb
      cases w with
      | lst xs h => exact .lst xs (by rw [showL_in hb]; exact h)
      | dK xs h => exact .dK xs (by rw [showL_in hb]; exact h)
      | ins C dx fs h hd => exact .ins C dx fs (by rw [showL_in hb]; exact h) (List.mem_append_right _ hd)
      | own C c fs h hc hi => exact .own C c fs (by rw [showL_in hb]; exact h) (List.mem_append_right _ hc) (by rw [showL_in hc]; exact hi)
  · rcases List.mem_append.mp hb with hb | hb
    · rcases g'.cov b hb with ⟨m, h⟩ | ⟨c, h⟩
      · exact .inl ⟨m, List.mem_append_left _ h⟩
      · exact .inr ⟨c, by rw [showL_out (nL h)]; exact h⟩
    · rcases g.cov b hb with ⟨m, h⟩ | ⟨c, h⟩
      · exact .inl ⟨m, List.mem_append_right _ h⟩
      · exact .inr ⟨c, by rw [showL_in hb]; exact h⟩
end
abbrev EF := SD → (D → Mu → Prop) → Prop
def kF (K : PySem.W.Frag) (H : Hp) (Q : VK) : D → Mu → Prop := fun d μ => ∀ v H' L', Same H (hidL H' L') → StM K H' μ L' → Dv K (hidL H' L') v d → Q v H'
theorem kF.on {K : PySem.W.Frag} {H H1 : Hp} {Q : VK} {d : D} {μ : Mu} (s : Same H H1) (h : kF K H Q d μ) : kF K H1 Q d μ := fun v H' L' s' g dv => h v H' L' (s.trans s') g dv
structure PF (X : Cx) (e : Expr) (t : EF) : Prop where
  pe : PE X e (fun σ H Q => ∃ δ, RelS X.K H σ δ ∧ t δ (kF X.K H Q))
  mono : ∀ δ (P P' : D → Mu → Prop), (∀ d μ, P d μ → P' d μ) → t δ P → t δ P'
abbrev SpF := List D → (D → Mu → Prop) → Prop
abbrev MonoSF (sd : SpF) : Prop := ∀ ds (P P' : D → Mu → Prop), (∀ d μ, P d μ → P' d μ) → sd ds P → sd ds P'
def spF (K : PySem.W.Frag) (sd : SpF) : Sp := fun vs H Q _ => ∃ ds, Dvs K H vs ds ∧ sd ds (kF K H Q)
section
variable {P : Program} {w : World} {K : PySem.W.Frag} {mg : Str → Option Value} {base : Heap}
theorem okF {x qual : Str} {st : Stmt} {f : Addr} {fd : FuncData} {N ps : List Str} {k : Nat} {sd : SpF} {t : TMD} (F : Fun K x qual st f fd) (S : FnScope N ps (defScope st)) (len : ∀ ds Q, sd ds Q → ds.length = ps.length)
    (hb : ∀ (cdv : Value) (A : Around) (outer : List Env) (s : Shared) (H : Hp) (E : XK), Room k (A.deeper (envOfC qual (defScope st) s.heap.objs.size f cdv)) → PMs (Bx P w K mg base N qual st f cdv A outer s H E) (defBody st) t)
    (hr : ∀ ds Q, sd ds Q → t { nx := fun _ μ => Q .non μ, rt := Q } (startD N ds) []) : FnOk P w K mg base CX0 (k + 1) f fd ps (spF K sd) := by
  refine F.ok S (fun vs H Q E ⟨ds, dvs, h⟩ => by rw [dvs.length]; exact len ds _ h) (fun cdv A outer s H vs Q E hroom ⟨ds, dvs, h⟩ => ?_)
  have B := hb cdv A outer s H E hroom
  refine ⟨_, B.ps, startD N ds, [], [], by rw [hidL_nil]; exact start_rel dvs, StM.nil, ?_⟩
  refine B.mono { nx := fun _ μ => kF K H Q .non μ, rt := kF K H Q } _ _ _ ⟨fun δ μ q σ H' L' s' r g => ?_, fun d μ q v H' L' s' g dv => ?_, fun _ _ q => q.elim, fun _ _ q => q.elim⟩ (hr ds _ h)
  · rw [hidL_nil] at s'
    exact q _ H' L' s' g .non
  · rw [hidL_nil] at s'
    exact q v H' L' s' g dv
theorem spF_of {sd : SpF} {se : SpD} (ms : MonoSF sd) (h : ∀ ds Q, se ds Q → sd ds fun d μ => Q (viewD μ d)) : ∀ vs H Q E, spOf K se vs H Q E → spF K sd vs H Q E := fun vs H Q E ⟨ds, dvs, q⟩ =>
  ⟨ds, dvs, ms _ _ _ (fun d μ k v H' L' s g dv => k v H' (s.trans hidL_same) (g.view dv)) (h ds _ q)⟩
end
structure CalF (P : Program) (w : World) (K : PySem.W.Frag) (mg : Str → Option Value) (base : Heap) (k : Nat) (x : Str) (ps : List Str) (sd : SpF) : Prop where
  ex : ∃ f fd, FnOk P w K mg base CX0 k f fd ps (spF K sd) ∧ mg x = some (.ref f) ∧ PySem.W.keepIn K (.ref f) = true ∧ Binds K fd ps []
  ms : MonoSF sd
structure McalF (P : Program) (w : World) (K : PySem.W.Frag) (mg : Str → Option Value) (base : Heap) (j : Nat) (C : Addr) (m : Str) (sd : SpF) : Prop where
  ex : ∃ f fd ps, Cls K C ∧ Meth K C m f ∧ FnOk P w K mg base CX0 j f fd ps (spF K sd) ∧ Binds K fd ps []
  ms : MonoSF sd
section
variable {X : Cx} {o e : Expr} {es : List Expr} {ta : ED} {t : AD} {tf : EF} {j k : Nat} {x m : Str} {ps : List Str} {sd : SpF} {sm : Addr → SpF} {ok : Addr → Prop} {p pos pos' apos : Pos} {i : Nat}
def fCall (sd : SpF) (t : AD) : EF := fun δ Q => t δ fun ds => sd ds Q
theorem f_cal (c : CalF X.prog X.w X.K X.mg X.base j x ps sd) (hr : Room k X.A) (hj : j ≤ k) (hg : Gl X x) (ha : PAd X (e :: es) t) (hdb : (x == ("__debug__" : Str)) = false := by decide)
    (h1 : starEach (e :: es) X.env = (false, eval e X.env) :: starEach es X.env := by rfl) (h2 : (backTo pos (starEach es X.env)).any (·.1) = false := by rfl) : PF X (.Call (.Name x p) (e :: es) [] pos) (fCall sd t) := by
  obtain ⟨f, fd, F, m, kp, b⟩ := c.ex
  refine ⟨(pe_call F (hr.mono hj) hg m kp b .nil pass0 ha.pa hdb h1 h2).imp fun σ H Q ⟨δ, r, h⟩ => ⟨δ, r, ha.mono _ _ _ (fun ds q vs H1 s1 dvs => ⟨ds, by rw [List.append_nil]; exact dvs, c.ms _ _ _ (fun d μ k => k.on s1) q⟩) h⟩, fun δ P P' g h => ha.mono _ _ _ (fun ds q => c.ms _ _ _ g q) h⟩
def fMeth (ok : Addr → Prop) (m : Str) (sm : Addr → SpF) (ta : ED) : EF := fun δ Q => ta δ fun d => ∃ C gs, d = .obj C gs ∧ gs.lookup m = none ∧ ok C ∧ sm C [d] Q
theorem f_m0 {pl : Sem Bool} (hM : ∀ C, ok C → McalF X.prog X.w X.K X.mg X.base j C m (sm C)) (hr : Room k X.A) (hj : j ≤ k) (he : PD X o ta)
    (ht : eval (.Call (.Attribute o m apos) [] [] pos) X.env = (do
      let ov ← eval o X.env
      standAt apos.atName
      let (f, first) ← holding [ov] (getMethod ov m pl)
      callWith pos f first (backTo pos (starEach [] X.env)) (backToKw pos (keywordEach [] X.env))) := by rfl) :
    PF X (.Call (.Attribute o m apos) [] [] pos) (fMeth ok m sm ta) := by
  refine ⟨fun pins s σ H Q I ⟨δ, r, h⟩ => ?_, fun δ P P' g h => he.mono _ _ _ (fun d ⟨C, gs, e, l, M, q⟩ => ⟨C, gs, e, l, M, (hM C M).ms _ _ _ g q⟩) h⟩
  refine PySem.W.methodCall_KW (pl := pl) (thn (he.pe pins s σ H _ I ⟨δ, r, he.mono _ _ _ (fun d k v H1 s1 dv => (show ∃ C gs dx fs a, v = .ref a ∧ Rd H1 a (.ins C dx fs) ∧ Dvf X.K H1 fs gs ∧ gs.lookup m = none ∧ ok C ∧ sm C [.obj C gs] (kF X.K H1 Q) from ?_)) h⟩) fun u s1 ⟨v, H1, I1, rx, C, gs, dx, fs, a, ev, ha, hf, l, M, q⟩ => ?_) ht
  · obtain ⟨C, gs, ed, l, M, q⟩ := k
    subst ed
    cases dv with
    | obj h1 h2 => exact ⟨_, _, _, _, _, rfl, h1, h2, l, M, (hM _ M).ms _ _ _ (fun d μ z => z.on s1) q⟩
  · subst ev
    obtain rfl : u = Value.ref a := rx
    obtain ⟨f, fd, ps, c, mt, F, b⟩ := (hM C M).ex
    refine getmeth_okR I1 ha c mt (hf.none l) ?_
    exact PySem.W.callWith_K0 (first := [.ref a]) I1.kIn mt.kp (run_fn (us := [.ref a]) (vs := [.ref a]) F (hr.mono hj) b .nil pass0 I1 (.cons rfl .nil) ⟨[.obj C gs], .cons (.obj ha hf) .nil, q⟩)
def mRetP (tf : EF) : TMD := fun E δ μ => tf δ fun d μ' => E.rt d (μ' ++ μ)
theorem ms_retP (he : PF X e tf) : PMd X (.Return (some e) pos) (mRetP tf) := by
  refine ⟨PS.imp (ps_ret (pe_frM he.pe)) fun D σ H ⟨δ, μ, L, r, g, h⟩ => ⟨L, g.hid, δ, r, he.mono _ _ _ (fun d μ' k v H' L' s' g' dv z => ?_) h⟩, fun E E' δ μ l h => he.mono _ _ _ (fun d μ' q => l.rt _ _ q) h⟩
  obtain ⟨g2, e2⟩ := g.join g' z s'
  exact k v _ (L' ++ L) (by rw [e2]; exact s') g2 (by rw [e2]; exact dv)
end
end DC

set_option maxHeartbeats 4000000
namespace DC
open PySem PySem.Spec PyProof.Rows L2
inductive Ents : List (Str × V) → List DictEntry → Prop
  | nil : Ents [] []
  | cons {x : Str} {t : Tok} {v : V} {e : DictEntry} {kvs : List (Str × V)} {es : List DictEntry} : e.key = .str x t → RelV v e.val → Ents kvs es → Ents ((x, v) :: kvs) (e :: es)
structure KTab (w : World) (K : PySem.W.Frag) (a : Addr) (kvs : List (Str × V)) : Prop where
  ex : ∃ (es : Array DictEntry) (n : Nat), K.lookup a = some ⟨.type "dict", none, .dict es n, #[]⟩ ∧ PySem.W.KeysLit w.params es.toList ∧ Ents kvs es.toList
  sys : (a == sysModules) = false
theorem Ents.has {x : Str} : ∀ {kvs : List (Str × V)} {es : List DictEntry}, Ents kvs es → ((es.find? fun d => Value.isStrOf x d.key).map (·.val)).isSome = kvs.any fun p => p.1 == x
  | _, _, .nil => rfl
  | _, _, .cons (x := y) (e := e) hk hv r => by
    have ih := Ents.has (x := x) r
    rw [List.find?_cons, hk, List.any_cons]
    show (Option.map (·.val) (match (y == x) with | true => some e | false => _)).isSome = (y == x || _)
    cases h : (y == x) with
    | true => rfl
    | false => exact ih
theorem Ents.get {x : Str} {v : V} : ∀ {kvs : List (Str × V)} {es : List DictEntry}, Ents kvs es → kvs.lookup x = some v → ∃ u, (es.find? fun d => Value.isStrOf x d.key).map (·.val) = some u ∧ RelV v u
  | _, _, .nil, h => by cases h
  | _, _, .cons (x := y) (e := e) hk hv r, h => by
    rw [List.lookup_cons] at h
    rw [List.find?_cons, hk]
    show ∃ u, Option.map (·.val) (match (y == x) with | true => some e | false => _) = some u ∧ RelV v u
    rw [show (y == x) = (x == y) from Bool.beq_comm]
    cases q : (x == y) with
    | true => rw [q] at h; cases h; exact ⟨_, rfl, hv⟩
    | false => rw [q] at h; exact Ents.get r h
section
variable {X : Cx} {a : Addr} {kvs : List (Str × V)}
theorem op_inK (T : KTab X.w X.K a kvs) : OpR X (compareOp .In) (fun x y H Q => ∃ z, x = .str z ∧ y = .ref a ∧ Q (.bl (kvs.any fun p => p.1 == z)) H) := by
  intro pins s σ H x y v u Q I rx ry h
  obtain ⟨z, rfl, rfl, q⟩ := h
  obtain ⟨t, rfl⟩ := (show ∃ t, v = Value.str z t from rx)
  cases (show u = Value.ref a from ry)
  obtain ⟨es, n, hl, hk, he⟩ := T.ex
  refine wpAny_in_of (strKind_is X.prog X.w z t) T.sys (PySem.W.mapOf_K (prog := X.prog) I.kIn hl hk) ?_
  have e : (findBy Value.isStrOf es z).isSome = kvs.any fun p => p.1 == z := by
    unfold findBy
    obtain ⟨l⟩ := es
    rw [List.find?_toArray]
    exact he.has
  rw [e]
  exact ⟨.bl _, H, I.tok _, rfl, q⟩
theorem op_notInK (T : KTab X.w X.K a kvs) : OpR X (compareOp .NotIn) (fun x y H Q => ∃ z, x = .str z ∧ y = .ref a ∧ Q (.bl (!kvs.any fun p => p.1 == z)) H) := by
  intro pins s σ H x y v u Q I rx ry h
  obtain ⟨z, rfl, rfl, q⟩ := h
  obtain ⟨t, rfl⟩ := (show ∃ t, v = Value.str z t from rx)
  cases (show u = Value.ref a from ry)
  obtain ⟨es, n, hl, hk, he⟩ := T.ex
  refine wpAny_notIn_of (strKind_is X.prog X.w z t) T.sys (PySem.W.mapOf_K (prog := X.prog) I.kIn hl hk) ?_
  have e : (findBy Value.isStrOf es z).isSome = kvs.any fun p => p.1 == z := by
    unfold findBy
    obtain ⟨l⟩ := es
    rw [List.find?_toArray]
    exact he.has
  rw [e]
  exact ⟨.bl _, H, I.tok _, rfl, q⟩
theorem ix_getK (T : KTab X.w X.K a kvs) : IxR X (fun x y H Q => ∃ z r, x = .ref a ∧ y = .str z ∧ kvs.lookup z = some r ∧ Q r H) := by
  intro value slice pins s σ H x y v u Q I rx ry h hs
  obtain ⟨z, r, rfl, rfl, hr, q⟩ := h
  obtain ⟨t, rfl⟩ := (show ∃ t, u = Value.str z t from ry)
  cases (show v = Value.ref a from rx)
  obtain ⟨es, n, hl, hk, he⟩ := T.ex
  have hm := PySem.W.mapOf_K (prog := X.prog) (w := X.w) I.kIn hl hk
  obtain ⟨b, hb, rb⟩ := he.get hr
  have e : findBy Value.isStrOf es z = some b := by
    unfold findBy
    obtain ⟨l⟩ := es
    rw [List.find?_toArray]
    exact hb
  exact tail_any hm.typeIs slot_dict_getitem.lookup (wpAny_getItem_of (strKind_is X.prog X.w z t) hm e ⟨r, H, I.tok _, rb, q⟩) hs
end
inductive Tb (K : PySem.W.Frag) : List (Str × V) → List (Str × D) → Prop
  | nil : Tb K [] []
  | cons {x : Str} {v : V} {d : D} {kvs : List (Str × V)} {tab : List (Str × D)} : (∀ H, Dv K H v d) → Tb K kvs tab → Tb K ((x, v) :: kvs) ((x, d) :: tab)
structure KTd (w : World) (K : PySem.W.Frag) (mg : Str → Option Value) (x : Str) (a : Addr) (tab : List (Str × D)) : Prop where
  at_ : mg x = some (.ref a)
  ex : ∃ kvs, KTab w K a kvs ∧ Tb K kvs tab
theorem Tb.any {K : PySem.W.Frag} {z : Str} : ∀ {kvs : List (Str × V)} {tab : List (Str × D)}, Tb K kvs tab → (kvs.any fun p => p.1 == z) = tab.any fun p => p.1 == z
  | _, _, .nil => rfl
  | _, _, .cons h r => by rw [List.any_cons, List.any_cons, Tb.any r]
theorem Tb.look {K : PySem.W.Frag} {z : Str} {d : D} : ∀ {kvs : List (Str × V)} {tab : List (Str × D)}, Tb K kvs tab → tab.lookup z = some d → ∃ v, kvs.lookup z = some v ∧ ∀ H, Dv K H v d
  | _, _, .nil, h => by cases h
  | _, _, .cons (x := x) h r, e => by
    rw [List.lookup_cons] at e ⊢
    cases q : z == x with
    | true => rw [q] at e; cases e; exact ⟨_, rfl, h⟩
    | false => rw [q] at e; exact Tb.look r e
theorem PD.weak {X : Cx} {e : Expr} {t t' : ED} (h : PD X e t) (m : MonoE t') (f : ∀ δ Q, t' δ Q → t δ Q) : PD X e t' := ⟨h.pe.imp fun σ H Q ⟨δ, r, q⟩ => ⟨δ, r, f _ _ q⟩, m⟩
theorem PTd.weak {X : Cx} {e : Expr} {t t' : TD} (h : PTd X e t) (m : MonoT t') (f : ∀ δ Q, t' δ Q → t δ Q) : PTd X e t' := ⟨PT.imp h.pt fun σ H Q ⟨δ, r, q⟩ => ⟨δ, r, f _ _ q⟩, m⟩
def vInK (neg : Bool) (tab : List (Str × D)) (te : ED) : ED := fun δ Q => te δ fun d => ∃ z, d = .str z ∧ Q (.bl (if neg then !tab.any fun p => p.1 == z else tab.any fun p => p.1 == z))
theorem m_inK {neg : Bool} {tab : List (Str × D)} {te : ED} (m : MonoE te) : MonoE (vInK neg tab te) := fun δ P P' g h => m _ _ _ (fun d ⟨z, e, q⟩ => ⟨z, e, g _ q⟩) h
def fInK (neg : Bool) (a : Addr) (tab : List (Str × D)) : F2 := fun d e Q => ∃ z, d = .str z ∧ e = .adr a ∧ Q (.bl (if neg then !tab.any fun p => p.1 == z else tab.any fun p => p.1 == z))
theorem m_fInK {neg : Bool} {a : Addr} {tab : List (Str × D)} : MonoF (fInK neg a tab) := fun d e P P' g ⟨z, e1, e2, q⟩ => ⟨z, e1, e2, g _ q⟩
def vGetK (tab : List (Str × D)) (te : ED) : ED := fun δ Q => te δ fun d => ∃ z r, d = .str z ∧ tab.lookup z = some r ∧ Q r
def fGetK (a : Addr) (tab : List (Str × D)) : F2 := fun e d Q => ∃ z r, e = .adr a ∧ d = .str z ∧ tab.lookup z = some r ∧ Q r
theorem m_fGetK {a : Addr} {tab : List (Str × D)} : MonoF (fGetK a tab) := fun d e P P' g ⟨z, r, e1, e2, l, q⟩ => ⟨z, r, e1, e2, l, g _ q⟩
section
variable {X : Cx} {a : Addr} {tab : List (Str × D)} {kvs : List (Str × V)} {x : Str} {p pos : Pos} {e : Expr} {te : ED}
theorem does_inK (t : Tb X.K kvs tab) : Does X.K (fun x y H Q => ∃ z, x = .str z ∧ y = .ref a ∧ Q (.bl (kvs.any fun p => p.1 == z)) H) (fInK false a tab) := by
  rintro H v u d e Q hv hu ⟨z, rfl, rfl, q⟩
  cases hv
  cases hu
  exact ⟨z, rfl, rfl, by rw [t.any]; exact q _ H (Same.refl _) (.bl _)⟩
theorem does_notInK (t : Tb X.K kvs tab) : Does X.K (fun x y H Q => ∃ z, x = .str z ∧ y = .ref a ∧ Q (.bl (!kvs.any fun p => p.1 == z)) H) (fInK true a tab) := by
  rintro H v u d e Q hv hu ⟨z, rfl, rfl, q⟩
  cases hv
  cases hu
  exact ⟨z, rfl, rfl, by rw [t.any]; exact q _ H (Same.refl _) (.bl _)⟩
theorem does_getK (t : Tb X.K kvs tab) : Does X.K (fun x y H Q => ∃ z r, x = .ref a ∧ y = .str z ∧ kvs.lookup z = some r ∧ Q r H) (fGetK a tab) := by
  rintro H v u d e Q hv hu ⟨z, r, rfl, rfl, l, q⟩
  cases hv
  cases hu
  obtain ⟨b, hb, db⟩ := t.look l
  exact ⟨z, b, rfl, rfl, hb, q _ H (Same.refl _) (db H)⟩
theorem d_inK (T : KTd X.w X.K X.mg x a tab) (hg : Gl X x) (he : PD X e te) (hm : behindInMarks .In (.Name x p) = false := by rfl) (hd : (x == ("__debug__" : Str)) = false := by decide) : PD X (.Compare e [.In] [.Name x p] pos) (vInK false tab te) := by
  obtain ⟨kvs, k, t⟩ := T.ex
  exact (d_cmp (op_inK k) (does_inK t) m_fInK he (d_glob (v := .ref a) hg T.at_ rfl (fun _ => .adr a) hd) hm).weak (m_inK he.mono) fun δ Q h => he.mono _ _ _ (fun d ⟨z, e1, q⟩ => ⟨z, e1, rfl, q⟩) h
theorem t_notinK (T : KTd X.w X.K X.mg x a tab) (hg : Gl X x) (he : PD X e te) (hm : behindInMarks .NotIn (.Name x p) = false := by rfl) (hd : (x == ("__debug__" : Str)) = false := by decide) : PTd X (.Compare e [.NotIn] [.Name x p] pos) (vTest (vInK true tab te)) := by
  obtain ⟨kvs, k, t⟩ := T.ex
  exact (t_cmp (op_notInK k) (does_notInK t) m_fInK he (d_glob (v := .ref a) hg T.at_ rfl (fun _ => .adr a) hd) hm).weak (m_test (m_inK he.mono)) fun δ Q h => he.mono _ _ _ (fun d ⟨z, e1, q⟩ => ⟨z, e1, rfl, q⟩) h
theorem d_getK (T : KTd X.w X.K X.mg x a tab) (hg : Gl X x) (he : PD X e te) (hs : PlainIx e) (hd : (x == ("__debug__" : Str)) = false := by decide) : PD X (.Subscript (.Name x p) e pos) (vGetK tab te) := by
  obtain ⟨kvs, k, t⟩ := T.ex
  have q := d_glob (X := X) (pos := p) (v := .ref a) hg T.at_ rfl (fun _ => .adr a) hd
  exact (d_bin (t := oE X.K (vC (.adr a))) (pe_ix (ix_getK k) q.pe he.pe hs) q.mono he.mono (does_getK t) m_fGetK).weak (fun δ P P' g h => he.mono _ _ _ (fun d ⟨z, r, e, l, q⟩ => ⟨z, r, e, l, g _ q⟩) h) fun δ Q h => he.mono _ _ _ (fun d ⟨z, r, e1, l, q⟩ => ⟨z, r, rfl, e1, l, q⟩) h
end
def fLst (t : AD) : EF := fun δ Q => t δ fun ds => ds.length ≤ sizeLine ∧ ∀ a, Q (.adr a) [(a, .lst ds)]
theorem f_lst {X : Cx} {es : List Expr} {t : AD} {pos : Pos} (h : PAd X es t) : PF X (.List es pos) (fLst t) := by
  refine ⟨(pe_lst h.pa).imp fun σ H Q ⟨δ, r, q⟩ => ⟨δ, r, h.mono _ _ _ (fun ds ⟨hl, k⟩ vs H1 s1 dvs => ⟨by rw [dvs.length]; exact hl, fun p hp => ?_⟩) q⟩, fun δ P P' g q => h.mono _ _ _ (fun ds ⟨hl, k⟩ => ⟨hl, fun a => g _ _ (k a)⟩) q⟩
  obtain ⟨g2, e2⟩ := (StM.nil (K := X.K) (H := H1)).newL hp (ds := ds) (by rw [hidL_nil]; exact dvs)
  exact k p (.ref p) _ [p] (by rw [e2, hidL_nil]; exact s1) g2 (.adr p)
def mO (g : D → D) (ds : List D) : List (Option D) := ds.map fun d => some (g d)
theorem mO_len {g : D → D} {ds : List D} : (mO g ds).length = ds.length := by simp [mO]
theorem mO_at {g : D → D} {ds : List D} {i : Nat} {d : D} {o : Option D} (h1 : ds[i]? = some d) (h2 : (mO g ds)[i]? = some o) : d ∈ ds ∧ o = some (g d) := by
  unfold mO at h2
  rw [List.getElem?_map, h1] at h2
  exact ⟨List.mem_of_getElem? h1, by simpa using h2.symm⟩
theorem mO_out {g : D → D} : ∀ {ds : List D}, (mO g ds).filterMap id = ds.map g
  | [] => rfl
  | d :: ds => by
    have ih := mO_out (g := g) (ds := ds)
    unfold mO at ih ⊢
    rw [List.map_cons, List.map_cons, ← ih]
    rfl
end DC
namespace DC
open PySem PySem.Spec PyProof.Rows L2
section
variable {X : Cx} {e : Expr} {tf : EF} {x : Str} {pos pos' : Pos} {i : Nat}
def mSetN (i : Nat) (tf : EF) : TMD := fun E δ μ => tf δ fun d μ' => ((μ' ++ μ).map (·.1)).Nodup → E.nx (δ.set i (some d)) (μ' ++ μ)
theorem ms_setN (hN : X.N.Nodup) (hi : X.N[i]? = some x) (hx : Loc X.env.scope x) (he : PF X e tf) (hs : swapsWith e (some (.Name x pos')) pos.line X.env = pure false := by rfl)
    (hf : X.fn x = true ∨ X.env.scope.names.lookup x = some .local := by first | exact .inl rfl | exact .inr rfl | assumption) : PMd X (.Assign [.Name x pos'] e pos) (mSetN i tf) := by
  refine ⟨PS.imp (ps_set hN hi hx (pe_frM he.pe) hs hf) fun D σ H ⟨δ, μ, L, r, g, h⟩ => ⟨L, g.hid, δ, r, he.mono _ _ _ (fun d μ' k v H' L' s' g' dv z => ?_) h⟩, fun E E' δ μ l h => he.mono _ _ _ (fun d μ' q n => l.nx _ _ (q n)) h⟩
  obtain ⟨g2, e2⟩ := g.join g' z s'
  refine k g2.nod _ _ (L' ++ L) (by rw [e2]; exact s') ?_ g2
  rw [e2]
  exact (r.same s').set i dv
end
end DC

set_option maxHeartbeats 4000000
namespace L2
open PySem PySem.Spec PyProof.Rows
section
variable {X : Cx} {es : List Expr} {t : TA}
end
end L2
namespace DC
open PySem PySem.Spec PyProof.Rows L2
section
variable {P : Program} {w : World} {K : PySem.W.Frag} {mg : Str → Option Value} {base : Heap}
end
section
variable {P : Program} {w : World} {K : PySem.W.Frag} {mg : Str → Option Value} {base : Heap}
end
section
variable {X : Cx} {o e : Expr} {es : List Expr} {ta : ED} {t : AD} {j k : Nat} {x y m : Str} {ps : List Str} {sd : SpM} {sm : Addr → SpM} {ok : Addr → Prop} {p pos pos' pos2 apos : Pos} {i : Nat}
end
end DC

set_option maxHeartbeats 4000000
namespace L2
open PySem PySem.Spec PyProof.Rows
def ExAt (B : Heap) (e C : Addr) (dx : Option Addr) (fl : Option Value) (h : Heap) : Prop := ∃ oe vs, h.get? e = some oe ∧ oe.cls = .ref C ∧ oe.dict = dx ∧ oe.data = .fields vs ∧ 1 < vs.size ∧ vs[2]? = some .none ∧
  match fl with
  | none => vs[1]? = some .none
  | some v => ∃ T oT ts, vs[1]? = some (.ref T) ∧ B.get? T = none ∧ T ≠ e ∧ h.get? T = some oT ∧ oT.data = .fields ts ∧ ts[3]? = some v
structure Air (B : Heap) (l : List Env) (e : Addr) (h : Heap) : Prop where
  st : B.StaysIn h
  ne : B.get? e = none
  fr : h.FunFrames B l
theorem dict_mapFields (o : Obj) (f : Array Value → Array Value) : (o.mapFields f).dict = o.dict := by
  obtain ⟨c, d, dt, sl⟩ := o
  cases dt <;> rfl
section
variable {M : Model} {A : Around} {E : Value → Shared → Prop} {s : Shared} {B : Heap} {env : Env} {outer : List Env} {L e C : Addr} {dx : Option Addr} {Q : Unit → Shared → Prop}
theorem entry_x {oe : Obj} {vs : Array Value} {head : Value} {b : Bool} (hfr : A.frames = some (env :: outer)) (hf : env.frame = some L) (a : Air B (env :: outer) e s.heap) (he : s.heap.get? e = some oe) (hc : oe.cls = .ref C)
    (hdx : oe.dict = dx) (hd : oe.data = .fields vs) (hz : 1 < vs.size) (hy : vs[2]? = some .none) (h : ∀ h', Air B (env :: outer) e h' → s.heap.UpToSlots h' → ExAt B e C dx (some (rawInt L)) h' → Q () { s with heap := h' }) :
    wpAny M A (do let a ← frameOf env; let pl ← entryPlaceOf L b; let z ← EntryCells.newEntry head a .none (rawInt L) .none pl; setField (.ref e) 1 z) Q E s := by
  have nfr : e ∉ (env :: outer).filterMap (·.frame) := fun hm => by
    obtain ⟨_, o, ho, hn⟩ := a.fr.mem hm
    rw [he] at ho
    cases ho
    exact hn vs hd
  refine wpAny_bind (wpAny_frameOf_fun hfr a.fr hf fun h1 s1 => wpAny_bind (wpAny_entryPlaceOf fun pl hpl => ?_))
  unfold EntryCells.newEntry newFields
  refine wpAny_bind (wpAny_newObj_type ?_ (hpl.sizeOk5 _ _ _ _ _))
  have e1 : h1.get? e = some oe := (s1.2.1 e nfr).trans he
  have b1 : B.StaysIn h1 := fun c o q => (s1.2.1 c fun hm => by rw [(a.fr.mem hm).1] at q; cases q).trans (a.st c o q)
  generalize hob : ({ cls := .type "traceback", dict := none, data := .fields ([head, .ref L, .none, rawInt L, .none] ++ (if pl.isEmpty then List.replicate 6 Value.none else pl)).toArray } : Obj) = ob
  have e2 := Heap.get?_push_of_some (h := h1) ob e1
  have hTe : h1.objs.size ≠ e := Nat.ne_of_gt (Heap.lt_size e1)
  have d3 := Obj.data_mapFields hd (·.setIfInBounds 1 (Value.ref h1.objs.size))
  have e3 := Heap.get?_update_self (Obj.mapFields (·.setIfInBounds 1 (Value.ref h1.objs.size))) e2 (Obj.isFreed_of_fields d3)
  have t3 := (Heap.get?_update_other (h1.push ob) (Obj.mapFields (·.setIfInBounds 1 (Value.ref h1.objs.size))) (Ne.symm hTe)).trans (Heap.get?_push_size h1 (by rw [← hob]; rfl))
  have kp : ∀ c o, c ≠ e → h1.get? c = some o → ((h1.push ob).update e (Obj.mapFields (·.setIfInBounds 1 (Value.ref h1.objs.size)))).get? c = some o := fun c o n q => by
    rw [Heap.get?_update_other _ _ (Ne.symm n)]
    exact Heap.get?_push_of_some _ q
  have nr : ∀ c o, s.heap.get? c = some o → (∀ ws, o.data ≠ .fields ws) → c ≠ e := fun c o q n z => by
    rw [z, he] at q
    cases q
    exact n vs hd
  refine wpAny_setField e2 hd hz (h _ ⟨fun c o q => kp c o (fun z => by rw [z, a.ne] at q; cases q) (b1 c o q), a.ne, a.fr.of_keeps fun c o q n => ?_⟩ (fun c o q n => ?_) ⟨_, _, e3, ?_, ?_, d3, ?_, ?_, ?_⟩)
  · obtain ⟨sl, z⟩ := s1.2.2 c o q
    exact ⟨_, kp c _ (nr c o q n) z, rfl⟩
  · obtain ⟨sl, z⟩ := s1.2.2 c o q
    exact ⟨sl, kp c _ (nr c o q n) z⟩
  · rw [Obj.cls_mapFields]; exact hc
  · rw [dict_mapFields]; exact hdx
  · rw [Array.size_setIfInBounds]; exact hz
  · rw [Array.getElem?_setIfInBounds_ne (by decide)]; exact hy
  · refine ⟨h1.objs.size, ob, _, by simp [hz], b1.fresh, hTe, t3, by rw [← hob], ?_⟩
    first | (simp; done) | (rcases hpl with rfl | ⟨_, _, _, _, _, _, _, rfl⟩ <;> simp)
theorem upd_T {T : Addr} {oT : Obj} {ts : Array Value} {k : Nat} {v : Value} {h : Heap} {l : List Env} (a : Air B l e h) (hT : h.get? T = some oT) (hd : oT.data = .fields ts) (hn : B.get? T = none) :
    Air B l e (h.update T (Obj.mapFields (·.setIfInBounds k v))) ∧ h.UpToSlots (h.update T (Obj.mapFields (·.setIfInBounds k v))) := by
  have other : ∀ b, b ≠ T → (h.update T (Obj.mapFields (·.setIfInBounds k v))).get? b = h.get? b := fun b n => Heap.get?_update_other _ _ (Ne.symm n)
  have nr : ∀ c o, h.get? c = some o → (∀ ws, o.data ≠ .fields ws) → c ≠ T := fun c o q n z => by
    rw [z, hT] at q
    cases q
    exact n ts hd
  exact ⟨⟨fun b o q => (other b fun z => by rw [z, hn] at q; cases q).trans (a.st b o q), a.ne, a.fr.of_keeps fun c o q n => ⟨o, (other c (nr c o q n)).trans q, rfl⟩⟩, fun c o q n => ⟨o.slots, (other c (nr c o q n)).trans q⟩⟩
theorem note_x {fl : Option Value} (hfr : A.frames = some (env :: outer)) (hf : env.frame = some L) (a : Air B (env :: outer) e s.heap) (x : ExAt B e C dx fl s.heap)
    (h : ∀ h', Air B (env :: outer) e h' → s.heap.UpToSlots h' → ExAt B e C dx (some (rawInt L)) h' → Q () { s with heap := h' }) : wpAny M A (noteFrame (.ref e) env) Q E s := by
  obtain ⟨oe, vs, he, hc, hdx, hd, hz, hy, x⟩ := x
  unfold noteFrame
  simp only [hf]
  cases fl with
  | none =>
    refine wpAny_bind (wpAny_field he hd x ?_)
    rw [if_neg (by decide)]
    exact entry_x hfr hf a he hc hdx hd hz hy h
  | some v =>
    obtain ⟨T, oT, ts, h1, hn, hTe, hT, hdT, h3⟩ := x
    refine wpAny_bind (wpAny_field he hd h1 ?_)
    rw [if_pos (show (Value.ref T != Value.none) = true from by simp)]
    refine wpAny_bind (wpAny_field hT hdT h3 ?_)
    by_cases q : (v == rawInt L) = true
    · rw [if_pos q]
      have ev : v = rawInt L := eq_of_beq q
      subst ev
      exact wpAny_pure (h _ a (.refl _) ⟨oe, vs, he, hc, hdx, hd, hz, hy, T, oT, ts, h1, hn, hTe, hT, hdT, h3⟩)
    · rw [if_neg q]
      refine wpAny_bind (wpAny_setField hT hdT (Array.getElem?_eq_some_iff.mp h3).1 ?_)
      obtain ⟨a2, u2⟩ := upd_T (k := 3) (v := Value.none) a hT hdT hn
      have e2 : (s.heap.update T (Obj.mapFields (·.setIfInBounds 3 Value.none))).get? e = some oe := (Heap.get?_update_other _ _ hTe).trans he
      exact entry_x (s := { s with heap := s.heap.update T (Obj.mapFields (·.setIfInBounds 3 Value.none)) }) hfr hf a2 e2 hc hdx hd hz hy fun h' a' u' x' => h h' a' (u2.trans u') x'
theorem flight_x {v : Value} {f : Option Addr} {l : List Env} (a : Air B l e s.heap) (x : ExAt B e C dx (some v) s.heap)
    (h : ∀ h', Air B l e h' → s.heap.UpToSlots h' → ExAt B e C dx (some (f.elim .none fun f => rawInt f)) h' → Q () { s with heap := h' }) : wpAny M A (setFlight (.ref e) f) Q E s := by
  obtain ⟨oe, vs, he, hc, hdx, hd, hz, hy, T, oT, ts, h1, hn, hTe, hT, hdT, h3⟩ := x
  unfold setFlight
  refine wpAny_bind (wpAny_field he hd h1 ?_)
  rw [if_pos (show (Value.ref T != Value.none) = true from by simp)]
  have hz3 : 3 < ts.size := (Array.getElem?_eq_some_iff.mp h3).1
  obtain ⟨a2, u2⟩ := upd_T (k := 3) (v := f.elim Value.none fun f => rawInt f) a hT hdT hn
  refine wpAny_setField hT hdT hz3 (h _ a2 u2 ⟨oe, vs, (Heap.get?_update_other _ _ hTe).trans he, hc, hdx, hd, hz, hy, T, _, _, h1, hn, hTe, Heap.get?_update_self _ hT (Obj.isFreed_of_fields (Obj.data_mapFields hdT _)), Obj.data_mapFields hdT _, by simp [hz3]⟩)
theorem leave_x {fl : Option Value} (hfr : A.frames = some (env :: outer)) (hf : env.frame = some L) (a : Air B (env :: outer) e s.heap) (x : ExAt B e C dx fl s.heap)
    (h : ∀ h', Air B outer e h' → s.heap.UpToSlots h' → ExAt B e C dx (some .none) h' → Q () { s with heap := h' }) : wpAny M A (leaving env (.ref e)) Q E s := by
  unfold leaving
  refine wpAny_bind (note_x hfr hf a x fun h1 a1 u1 x1 => ?_)
  refine flight_x (s := { s with heap := h1 }) a1 x1 fun h2 a2 u2 x2 => h h2 ⟨a2.st, a2.ne, a2.fr.2.2⟩ (u1.trans u2) x2
end
end L2

set_option maxHeartbeats 4000000
namespace L2
open PySem PySem.Spec PyProof.Rows
def HO.dx? : HO → Option Addr
  | .ins _ dx _ => some dx
  | .frz _ u => u.dx?
  | _ => none
section
variable {P : Program} {w : World} {H H' : Hp} {h h' : Heap} {a d : Addr} {u : HO}
theorem ObjOk.there (x : ObjOk P w H h a u) : ∃ o, h.get? a = some o := by
  cases u with
  | lst xs => obtain ⟨_, _, _, _, e⟩ := x; exact ⟨_, e⟩
  | tup xs => obtain ⟨_, _, _, o, e, _⟩ := x; exact ⟨_, e⟩
  | dK kvs => obtain ⟨_, _, _, _, o, _, _, e, _⟩ := x; exact ⟨_, e⟩
  | dT kvs => obtain ⟨_, _, _, _, o, _, _, e, _⟩ := x; exact ⟨_, e⟩
  | set S n => obtain ⟨o, _, _, _, e, _⟩ := x; exact ⟨_, e⟩
  | ins C dx fs => obtain ⟨_, _, _, e, _⟩ := x; exact ⟨_, e⟩
  | own y => exact x
  | xd fs => obtain ⟨_, ⟨o, _, _, e, _⟩, _⟩ := x; exact ⟨_, e⟩
  | rng lo hi => obtain ⟨_, _, _, e⟩ := x; exact ⟨_, e⟩
  | frz ob u => obtain ⟨e, _⟩ := x; exact ⟨_, e⟩
  | tbl ps => exact ⟨_, x⟩
  | met f y => exact ⟨_, x⟩
  | ext φ => obtain ⟨_, e, _⟩ := x; exact e
theorem ObjOk.own_of (x : ObjOk P w H h a u) (e : u.dx? = some d) : H d = some (.own a) := by
  induction u with
  | ins C dx fs => cases e; exact x.1
  | frz o u ih => exact ih x.2 e
  | _ => cases e
theorem ObjOk.swap (ht : ∀ b xs, H b = some (.tup xs) → H' b = some (.tup xs)) (ho : ∀ d, u.dx? = some d → H' d = some (.own a)) (x : ObjOk P w H h a u) : ObjOk P w H' h a u := by
  induction u with
  | dT _ =>
    obtain ⟨z, y, xs, r, c⟩ := x
    exact ⟨z, y, xs, Paired.mapP r fun p q z => ⟨z.1, ht _ _ z.2.1, z.2.2⟩, c⟩
  | ins _ dx _ => exact ⟨ho dx rfl, x.2⟩
  | frz _ u ih => exact ⟨x.1, ih ho x.2⟩
  | _ => exact x
end
open Classical in
noncomputable def frzH (h : Heap) (H : Hp) : Hp := fun b => match H b with
  | none => none
  | some (.tup xs) => some (.tup xs)
  | some (.frz o u) => some (.frz o u)
  | some (.own x) => if ∃ u, H x = some u ∧ u.dx? = some b then some (.own x) else (h.get? b).map fun o => .frz o (.own x)
  | some u => (h.get? b).map fun o => .frz o u
def thaw (H H' : Hp) : Hp := fun b => match H b with
  | some u => some u
  | none => H' b
theorem thaw_same (H H' : Hp) : Same H (thaw H H') := fun b o e => by unfold thaw; rw [e]
theorem thaw_none {H H' : Hp} {b : Addr} (e : H b = none) : thaw H H' b = H' b := by unfold thaw; rw [e]
theorem thaw_some {H H' : Hp} {b : Addr} {u : HO} (e : H b = some u) : thaw H H' b = some u := by unfold thaw; rw [e]
section
variable {P : Program} {w : World} {H H' : Hp} {h h' : Heap} {b : Addr} {u : HO} {fs : List Addr}
theorem frz_none (e : H b = none) : frzH h H b = none := by unfold frzH; rw [e]
theorem frz_tup {xs : List V} (e : H b = some (.tup xs)) : frzH h H b = some (.tup xs) := by unfold frzH; rw [e]
theorem frz_frz {o : Obj} {u : HO} (e : H b = some (.frz o u)) : frzH h H b = some (.frz o u) := by unfold frzH; rw [e]
theorem frz_own {x : Addr} {u : HO} (e : H b = some (.own x)) (hu : H x = some u) (hd : u.dx? = some b) : frzH h H b = some (.own x) := by
  unfold frzH
  rw [e]
  exact if_pos ⟨u, hu, hd⟩
theorem frz_cases (ok : HOk P w H h) (e : H b = some u) : (frzH h H b = some u ∧ ((∃ xs, u = .tup xs) ∨ (∃ o v, u = .frz o v) ∨ ∃ x v, u = .own x ∧ H x = some v ∧ v.dx? = some b)) ∨ ∃ o, h.get? b = some o ∧ frzH h H b = some (.frz o u) := by
  obtain ⟨o, ho⟩ := (ok b u e).there
  cases u with
  | tup xs => exact .inl ⟨frz_tup e, .inl ⟨xs, rfl⟩⟩
  | frz o v => exact .inl ⟨frz_frz e, .inr (.inl ⟨o, v, rfl⟩)⟩
  | own x =>
    by_cases q : ∃ u, H x = some u ∧ u.dx? = some b
    · obtain ⟨v, hv, hd⟩ := q
      exact .inl ⟨frz_own e hv hd, .inr (.inr ⟨x, v, rfl, hv, hd⟩)⟩
    · refine .inr ⟨o, ho, ?_⟩
      unfold frzH
      rw [e]
      show (if _ then _ else _) = _
      rw [if_neg q, ho]
      rfl
  | _ => exact .inr ⟨o, ho, by unfold frzH; rw [e]; show (h.get? b).map _ = _; rw [ho]; rfl⟩
theorem frz_owned (ok : HOk P w H h) {a d : Addr} (ea : H a = some u) (hd : u.dx? = some d) : frzH h H d = some (.own a) ∧ H d = some (.own a) := by
  have z := ObjOk.own_of (ok a u ea) hd
  exact ⟨frz_own z ea hd, z⟩
theorem HOk.frz (ok : HOk P w H h) : HOk P w (frzH h H) h := fun b v e => by
  have ht : ∀ b xs, H b = some (.tup xs) → frzH h H b = some (.tup xs) := fun b xs q => frz_tup q
  cases q : H b with
  | none => rw [frz_none q] at e; cases e
  | some y =>
    have own : ∀ d, y.dx? = some d → frzH h H d = some (.own b) := fun d hd => (frz_owned ok q hd).1
    rcases frz_cases ok q with ⟨z, _⟩ | ⟨o, ho, z⟩
    · rw [z] at e
      cases e
      exact ObjOk.swap ht own (ok b _ q)
    · rw [z] at e
      cases e
      exact ⟨ho, ObjOk.swap ht own (ok b _ q)⟩
structure Thw (h : Heap) (H H' : Hp) : Prop where
  tups : ∀ b xs, frzH h H b = some (.tup xs) → H' b = some (.tup xs)
  frzs : ∀ b o u, frzH h H b = some (.frz o u) → H' b = some (.frz o u)
theorem thaw_cases (ok : HOk P w H h) (un : Thw h H H') (ok' : HOk P w H' h') (e : H b = some u) : ((∃ xs, u = .tup xs) ∧ H' b = some u) ∨ ((∃ o v, u = .frz o v) ∧ H' b = some u) ∨ ((∃ x v, u = .own x ∧ H x = some v ∧ v.dx? = some b) ∧ H' b = some u) ∨ ∃ o, H' b = some (.frz o u) := by
  rcases frz_cases ok e with ⟨z, q⟩ | ⟨o, ho, z⟩
  · rcases q with ⟨xs, rfl⟩ | ⟨o, v, rfl⟩ | ⟨x, v, rfl, hx, hd⟩
    · exact .inl ⟨⟨xs, rfl⟩, un.tups _ _ z⟩
    · exact .inr (.inl ⟨⟨o, v, rfl⟩, un.frzs _ _ _ z⟩)
    · refine .inr (.inr (.inl ⟨⟨x, v, rfl, hx, hd⟩, ?_⟩))
      rcases frz_cases ok hx with ⟨y, r⟩ | ⟨o', _, y⟩
      · rcases r with ⟨xs, rfl⟩ | ⟨o, v', rfl⟩ | ⟨x', v', rfl, _⟩
        · cases hd
        · exact ObjOk.own_of (ok' x _ (un.frzs _ _ _ y)) hd
        · cases hd
      · exact ObjOk.own_of (u := .frz o' v) (ok' x _ (un.frzs _ _ _ y)) hd
  · exact .inr (.inr (.inr ⟨o, un.frzs _ _ _ z⟩))
theorem thaw_tup (ok : HOk P w H h) (un : Thw h H H') (ok' : HOk P w H' h') {xs : List V} (e : H' b = some (.tup xs)) : thaw H H' b = some (.tup xs) := by
  cases q : H b with
  | none => rw [thaw_none q]; exact e
  | some u =>
    rw [thaw_some q]
    rcases thaw_cases ok un ok' q with ⟨_, z⟩ | ⟨⟨o, v, rfl⟩, z⟩ | ⟨⟨x, v, rfl, _⟩, z⟩ | ⟨o, z⟩
    · rw [z] at e; exact e
    · rw [z] at e; cases e
    · rw [z] at e; cases e
    · rw [z] at e; cases e
theorem HOk.thaw (ok : HOk P w H h) (un : Thw h H H') (ok' : HOk P w H' h') : HOk P w (thaw H H') h' := fun b v e => by
  have ht : ∀ b xs, H' b = some (.tup xs) → L2.thaw H H' b = some (.tup xs) := fun b xs q => thaw_tup ok un ok' q
  cases q : H b with
  | some y =>
    rw [thaw_some q] at e
    cases e
    have own : ∀ d, v.dx? = some d → L2.thaw H H' d = some (.own b) := fun d hd => thaw_some (frz_owned ok q hd).2
    rcases thaw_cases ok un ok' q with ⟨_, z⟩ | ⟨_, z⟩ | ⟨⟨x, v, rfl, _⟩, z⟩ | ⟨o, z⟩
    · exact ObjOk.swap ht own (ok' b _ z)
    · exact ObjOk.swap ht own (ok' b _ z)
    · exact ok' b _ z
    · exact ObjOk.swap ht own (ok' b _ z).2
  | none =>
    rw [thaw_none q] at e
    refine ObjOk.swap ht (fun d hd => ?_) (ok' b v e)
    have hd' := ObjOk.own_of (ok' b v e) hd
    cases r : H d with
    | none => rw [thaw_none r]; exact hd'
    | some u =>
      exfalso
      rcases thaw_cases ok un ok' r with ⟨⟨xs, rfl⟩, z⟩ | ⟨⟨o, v, rfl⟩, z⟩ | ⟨⟨x, v, rfl, hx, _⟩, z⟩ | ⟨o, z⟩
      · rw [z] at hd'; cases hd'
      · rw [z] at hd'; cases hd'
      · rw [z] at hd'
        cases hd'
        rw [q] at hx
        cases hx
      · rw [z] at hd'; cases hd'
theorem Un.thaw (ok : HOk P w H h) (un : Un fs [] (frzH h H) H' h h') : Un fs [] H (thaw H H') h h' where
  keep := fun b o e n hb hx => un.keep b o e (frz_none n) hb hx
  slot := fun b o e n hb hx => un.slot b o e (frz_none n) hb hx
  free := fun b o e n hx => by rw [thaw_none n]; exact un.free b o e (frz_none n) hx
  there := un.there
  tups := fun b xs e => thaw_some e
  frzs := fun b o u e => thaw_some e
  tbls := fun b ps e => ⟨#[], by rw [thaw_some e]; simp⟩
def HO.data : HO → Prop
  | .own _ => False
  | .frz _ _ => False
  | _ => True
theorem Rd.frz (ok : HOk P w H h) (hu : u.data) (r : Rd H b u) : Rd (frzH h H) b u := by
  rcases r with r | ⟨o, r⟩
  · rcases frz_cases ok r with ⟨z, _⟩ | ⟨o, _, z⟩
    · exact .inl z
    · exact .inr ⟨o, z⟩
  · exact .inr ⟨o, frz_frz r⟩
theorem Rd.thaw (ok : HOk P w H h) (un : Thw h H H') (ok' : HOk P w H' h') (hu : u.data) (r : Rd H' b u) : Rd (thaw H H') b u := by
  cases q : H b with
  | none => unfold Rd; rw [thaw_none q]; exact r
  | some v =>
    unfold Rd
    rw [thaw_some q]
    rcases thaw_cases ok un ok' q with ⟨_, z⟩ | ⟨⟨o, v', rfl⟩, z⟩ | ⟨⟨x, v', rfl, _⟩, z⟩ | ⟨o, z⟩
    · rcases r with r | ⟨o, r⟩
      · rw [z] at r; exact .inl r
      · rw [z] at r; exact .inr ⟨o, r⟩
    · rcases r with r | ⟨o, r⟩
      · rw [z] at r; cases r; exact hu.elim
      · rw [z] at r; exact .inr ⟨o, r⟩
    · rcases r with r | ⟨o, r⟩
      · rw [z] at r; cases r; exact hu.elim
      · rw [z] at r; cases r
    · rcases r with r | ⟨o, r⟩
      · rw [z] at r; cases r; exact hu.elim
      · rw [z] at r; cases r; exact .inl rfl
end
end L2

set_option maxHeartbeats 1000000
namespace L2
open PySem PySem.Spec PyProof.Rows
structure Beneath (fs ex : List Addr) (H : Hp) (h B : Heap) : Prop where
  kp : ∀ b o, h.get? b = some o → H b = none → b ∉ fs → b ∉ ex → B.get? b = some o
  th : ∀ b o, h.get? b = some o → b ∉ fs → b ∉ ex → ∃ o', B.get? b = some o'
def CXD (P : Program) (w : World) : CXT := fun outer H s E e s' => ∃ ea C dx H' B, e = .ref ea ∧ s'.os = s.os ∧ AllBare s'.gens ∧ Un (frs outer) [] H H' s.heap s'.heap ∧ Air B outer ea s'.heap ∧ HOk P w H' B ∧ Beneath (frs outer) [] H s.heap B ∧
  ExAt B ea C dx (some .none) s'.heap ∧ E (.ref C) dx H'
def InAir (X : Cx) (H : Hp) (s : Shared) (ea C : Addr) (dx : Option Addr) : Prop := ∃ B fl, Air B X.stack ea s.heap ∧ HOk X.prog X.w H B ∧ Beneath X.fs X.ex X.H₀ X.s₀.heap B ∧ ExAt B ea C dx fl s.heap ∧ ∀ p ∈ X.pn, B.get? p.1 = some p.2
section
variable {X : Cx} {pins : List (Addr × Obj)} {σ : St} {H : Hp} {s s' : Shared} {E : XK} {e : Value}
theorem Inv.nost (I : Inv X pins σ H s) {b : Addr} {o : Obj} (q : X.s₀.heap.get? b = some o) (hb : b ∉ X.fs) : b ∉ frs X.stack := fun z => by
  rcases List.mem_cons.mp (I.stkSub b z) with y | y
  · exact absurd (Heap.lt_size q) (by rw [y]; exact Nat.not_lt.mpr I.ok.above)
  · exact hb y
theorem Inv.pinOut (I : Inv X pins σ H s) {p : Addr × Obj} (hp : p ∈ X.pn) : p.1 ∉ frs X.stack := fun z => by
  obtain ⟨_, _, n1, n2, _⟩ := I.pin p (List.mem_append_left _ hp)
  rcases List.mem_cons.mp (I.stkSub _ z) with y | y
  · exact n1 y
  · exact n2 y
theorem Inv.beneath (I : Inv X pins σ H s) {B : Heap} (b : Beneath (frs X.stack) [] H s.heap B) : Beneath X.fs X.ex X.H₀ X.s₀.heap B :=
  ⟨fun c o q n hb hx => b.kp c o (I.base.keep c o q n hb hx) (I.base.free c o q n hx) (I.nost q hb) (by simp), fun c o q hb hx => let ⟨o', z⟩ := I.base.there c o q hx; b.th c o' z (I.nost q hb) (by simp)⟩
theorem flown_in (I : Inv X pins σ H s) (h : CXD X.prog X.w X.stack H s E e s') : ∃ ea C dx H', e = .ref ea ∧ Inv X pins σ H' s' ∧ InAir X H' s' ea C dx ∧ E (.ref C) dx H' := by
  obtain ⟨ea, C, dx, H', B, rfl, os, bare, un, a, ok, bn, x, hE⟩ := h
  exact ⟨ea, C, dx, H', rfl, I.call' (ch := []) os un (ok.kept a.st) bare (fun b z => absurd z (by simp)), ⟨B, some .none, a, ok, I.beneath bn, x, fun p hp => bn.kp p.1 p.2 (I.pin p (List.mem_append_left _ hp)).1 (I.pin p (List.mem_append_left _ hp)).2.1 (I.pinOut hp) (by simp)⟩, hE⟩
theorem raised_in {ea C : Addr} {dx : Option Addr} {oe : Obj} {vs : Array Value} (I : Inv X pins σ H s) (he : s.heap.get? ea = some oe) (hc : oe.cls = .ref C) (hd : oe.dict = dx) (hv : oe.data = .fields vs) (hz : 1 < vs.size) (h2 : vs[2]? = some .none) (h1 : vs[1]? = some .none)
    (hn : H ea = none) (h0 : X.s₀.heap.get? ea = none) (hp0 : ∀ p ∈ X.pn, p.1 ≠ ea) : InAir X H s ea C dx := by
  have nin : ∀ b u, H b = some u → b ∉ ea :: frs X.stack := fun b u q z => by
    rcases List.mem_cons.mp z with y | y
    · rw [y, hn] at q; cases q
    · rw [I.stkFree b y] at q; cases q
  refine ⟨PySem.W.hideAll s.heap (ea :: frs X.stack), none, ⟨fun b o q => PySem.W.of_hideAll _ q, PySem.W.hideAll_none _ (List.mem_cons_self ..), ?_⟩, fun a o q => ?_, ⟨fun b o q n hb hx => ?_, fun b o q hb hx => ?_⟩, ⟨oe, vs, he, hc, hd, hv, hz, h2, h1⟩, fun p hp => PySem.W.hideAll_get _ (I.pin p (List.mem_append_left _ hp)).1 fun z => ?_⟩
  · exact PySem.W.funFrames_hide I.stack fun env hm b q => List.mem_cons_of_mem _ (List.mem_filterMap.mpr ⟨env, hm, q⟩)
  · refine (I.hok a o q).stay (fun b u hb z => PySem.W.hideAll_get _ z ?_) (fun _ z => z) fun _ _ z => z
    rcases hb with rfl | hb
    · exact nin _ _ q
    · exact nin _ _ hb
  · refine PySem.W.hideAll_get _ (I.base.keep b o q n hb hx) fun z => ?_
    rcases List.mem_cons.mp z with y | y
    · rw [y, h0] at q; cases q
    · exact I.nost q hb y
  · obtain ⟨o', z⟩ := I.base.there b o q hx
    refine ⟨o', PySem.W.hideAll_get _ z fun y => ?_⟩
    rcases List.mem_cons.mp y with y | y
    · rw [y, h0] at q; cases q
    · exact I.nost q hb y
  · rcases List.mem_cons.mp z with y | y
    · exact hp0 p hp y
    · exact I.pinOut hp y
end
theorem acc_def {P : Program} {w : World} {K : PySem.W.Frag} {mg : Str → Option Value} {base : Heap} {N : List Str} {qual : Str} {scope : Scope} {f : Addr} {cd : Value} {A : Around} {outer : List Env} {s s1 : Shared} {H H1 : Hp} {E : XK} {pins : List (Addr × Obj)} {σ : St} {ea C : Addr} {dx : Option Addr}
    (I : Inv (cxOf (CXD P w) P w K mg base N qual scope f cd A outer s H E) pins σ H1 s1) (a : InAir (cxOf (CXD P w) P w K mg base N qual scope f cd A outer s H E) H1 s1 ea C dx) (h : E (.ref C) dx H1) :
    (cxOf (CXD P w) P w K mg base N qual scope f cd A outer s H E).xe (.ref ea) s1 := by
  obtain ⟨B, fl, a, ok, bn, x, _⟩ := a
  have fr := a.fr
  refine leave_x (env := envOfC qual scope s.heap.objs.size f cd) (outer := outer) (L := s.heap.objs.size) I.ok.frames rfl a x fun h' a' u' x' => ?_
  have noA : ∀ b : Addr, b ∉ ([] : List Addr) := fun b z => absurd z (by simp)
  have up : ∀ b o, b ∈ frs outer → s1.heap.get? b = some o → ∃ sl, h'.get? b = some { o with slots := sl } := fun b o hb q => by
    have hm : b ∈ ((envOfC qual scope s.heap.objs.size f cd) :: outer).filterMap (·.frame) := by
      obtain ⟨env, hm, hf⟩ := List.mem_filterMap.mp hb
      exact List.mem_filterMap.mpr ⟨env, List.mem_cons_of_mem _ hm, hf⟩
    obtain ⟨_, o', ho', nf⟩ := fr.mem hm
    rw [q] at ho'
    cases ho'
    exact u' b o q nf
  refine ⟨ea, C, dx, H1, B, rfl, I.os, I.bare, ⟨fun b o q n hb hx => a'.st b o (bn.kp b o q n hb hx), fun b o q n hb hx => ?_, I.base.free, fun b o q hx => ?_, I.base.tups, I.base.frzs, I.base.tbls⟩, a', ok, bn, x', h⟩
  · obtain ⟨sl, z⟩ := I.base.slot b o q n hb hx
    obtain ⟨sl', z'⟩ := up b _ hb z
    exact ⟨sl', z'⟩
  · by_cases hb : b ∈ frs outer
    · obtain ⟨o', z⟩ := I.base.there b o q hx
      obtain ⟨sl', z'⟩ := up b _ hb z
      exact ⟨_, z'⟩
    · obtain ⟨o', z⟩ := bn.th b o q hb hx
      exact ⟨o', a'.st b o' z⟩
theorem CXD.thaw {P : Program} {w : World} {l : List Env} {H : Hp} {s s' : Shared} {E : XK} {e : Value} (ok : HOk P w H s.heap) (h : CXD P w l (frzH s.heap H) s E e s') :
    CXD P w l H s (fun cls dx H'' => ∃ H', H'' = L2.thaw H H' ∧ (∀ b u, HO.data u → Rd H' b u → Rd (L2.thaw H H') b u) ∧ E cls dx H') e s' := by
  obtain ⟨ea, C, dx, H', B, rfl, os, bare, un, a, ok', bn, x, hE⟩ := h
  have t : Thw s.heap H H' := ⟨un.tups, un.frzs⟩
  exact ⟨ea, C, dx, L2.thaw H H', B, rfl, os, bare, un.thaw ok, a, ok.thaw t ok', ⟨fun b o q n hb hx => bn.kp b o q (frz_none n) hb hx, bn.th⟩, x, H', rfl, fun b u hu r => r.thaw ok t ok' hu, hE⟩
theorem Env0.frz {P : Program} {w : World} {K : PySem.W.Frag} {mg : Str → Option Value} {base : Heap} {A : Around} {outer : List Env} {s : Shared} {H : Hp} (e : Env0 P w K mg base A outer s H) : Env0 P w K mg base A outer s (frzH s.heap H) :=
  ⟨e.frames, e.mod, fun b o q => ⟨(e.bs b o q).1, frz_none (e.bs b o q).2⟩, e.bsz, e.funs, fun b hb => frz_none (e.frf b hb), e.hok.frz, e.bare⟩
section
variable {X : Cx} {k : Nat} {f C : Addr} {fd : FuncData} {ps : List Str} {sp : Sp} {dvs : List V} {ds : List Value}
theorem run_fnX {pins : List (Addr × Obj)} {σ : St} {H : Hp} {s : Shared} {Q Q' : VK} {E : XK} {us : List Value} {vs : List V} (F : FnOk X.prog X.w X.K X.mg X.base (CXD X.prog X.w) k f fd ps sp) (hr : Room k X.A) (hb : Binds X.K fd ps ds) (hd : Vals dvs ds)
    (I : Inv X pins σ H s) (r : Vals vs us) (h : sp (vs ++ dvs) (frzH s.heap H) Q' E) (hQ : ∀ v H', (∀ b u, HO.data u → Rd H' b u → Rd (thaw H H') b u) → Q' v H' → Q v (thaw H H'))
    (hE : ∀ ea C dx H' s', Inv X pins σ (thaw H H') s' → InAir X (thaw H H') s' ea C dx → (∀ b u, HO.data u → Rd H' b u → Rd (thaw H H') b u) → E (.ref C) dx H' → X.xe (.ref ea) s') : wpAny (model X.prog X.w) X.A (call (.ref f) us) (EP X pins σ Q) X.xe s := by
  have r2 : Vals (vs ++ dvs) (us ++ ds) := r.append hd
  have hl : (us ++ ds).length = ps.length := by rw [← r2.length]; exact F.len _ _ _ _ h
  refine wpAny_call (codeAny_mono (F.run X.A X.stack s _ ⟨us, []⟩ (us ++ ds) (vs ++ dvs) Q' E hr I.env0.frz (hb s us I.kIn hl) r2 h) fun r s' hq => ?_)
  cases r with
  | error e =>
    obtain ⟨ea, C, dx, H'', rfl, I', a', H', rfl, rd, he⟩ := flown_in I (CXD.thaw I.hok hq)
    exact hE ea C dx H' s' I' a' rd he
  | ok fl =>
    cases fl with
    | ret u =>
      obtain ⟨v, H', os, bare, un, hok, rv, q⟩ := (show CE X.stack X.prog X.w (frzH s.heap H) s Q' u s' from hq)
      have t : Thw s.heap H H' := ⟨un.tups, un.frzs⟩
      exact ⟨v, thaw H H', I.call' (ch := []) os (un.thaw I.hok) (I.hok.thaw t hok) bare (fun b z => absurd z (by simp)), rv, hQ v H' (fun b u hu r => r.thaw I.hok t hok hu) q⟩
    | next => exact False.elim hq
    | brk => exact False.elim hq
    | cont => exact False.elim hq
end
end L2

set_option maxHeartbeats 1000000
namespace L2
open PySem PySem.Spec PyProof.Rows
theorem exc_open {K : PySem.W.Frag} {h : Heap} {C : Addr} {bmB : List Value} {newId : String} (X : K.In h) (q : PySem.W.excIn K C bmB newId = true) :
    ∃ bm N nm qn bs hdct sn sub ab col dd k0 k1 k2 k3 k5 mN, h.get? C = some (excClassObj nm qn C N bs bm hdct sn sub ab col dd k0 k1 k2 k3 k5 newId) ∧ h.Ns N mN ∧ mN "__init__" = none ∧ OwnTail h bmB bm := by
  unfold PySem.W.excIn at q
  split at q
  · rename_i dd cd sl ho
    split at q
    · rename_i C2 bm k0 k1 k2 k3 n k5 hm hs
      simp only [Bool.and_eq_true, beq_iff_eq, Bool.not_eq_true'] at q
      obtain ⟨⟨⟨⟨⟨e1, e2⟩, hdel⟩, ht⟩, hok⟩, hni⟩ := q
      subst e1 e2
      obtain ⟨nm, bs, mro, ns, qn, hd, sn, sub, ab, col, del⟩ := cd
      have hm' : mro = .ref C2 :: bm := hm
      have hdel' : del = false := hdel
      subst hm' hdel'
      obtain ⟨l⟩ := sl
      have hl : l = [k0, k1, k2, k3, some (.builtin n), k5] := hs
      subst hl
      exact ⟨bm, ns, nm, qn, bs, hd, sn, sub, ab, col, dd, k0, k1, k2, k3, k5, _, X _ _ ho, .of_isNs (PySem.W.isNs_of_in X hok), PySem.W.nsMap_none_of_in X hok hni, PySem.W.tail_of_in X ht⟩
    · cases q
  · cases q
theorem SqL.rd {K : PySem.W.Frag} {H H' : Hp} {a : Addr} {xs : List V} (f : ∀ b u, HO.data u → Rd H b u → Rd H' b u) (h : SqL K H a xs) : SqL K H' a xs := by
  rcases h with h | h
  · exact .inl (f _ _ True.intro h)
  · exact .inr h
theorem SqT.rd {K : PySem.W.Frag} {H H' : Hp} {a : Addr} {xs : List V} (f : ∀ b u, HO.data u → Rd H b u → Rd H' b u) (h : SqT K H a xs) : SqT K H' a xs := by
  rcases h with h | h
  · exact .inl (f _ _ True.intro h)
  · exact .inr h
end L2
namespace DC
open PySem PySem.Spec PyProof.Rows L2
section
variable {K : PySem.W.Frag} {H H' : Hp}
theorem XDict.rd (f : ∀ b u, HO.data u → Rd H b u → Rd H' b u) {dx : Option Addr} {fs : List (Str × V)} (h : XDict H dx fs) : XDict H' dx fs := by
  cases dx with
  | none => exact h
  | some d => exact f _ _ True.intro h
mutual
theorem Dv.rd (f : ∀ b u, HO.data u → Rd H b u → Rd H' b u) : ∀ {v : V} {d : D}, Dv K H v d → Dv K H' v d
  | _, _, .non => .non
  | _, _, .bl b => .bl b
  | _, _, .int i => .int i
  | _, _, .str x => .str x
  | _, _, .lst h1 h2 => .lst (h1.rd f) (Dvs.rd f h2)
  | _, _, .tup h1 h2 => .tup (h1.rd f) (Dvs.rd f h2)
  | _, _, .obj h1 h2 => .obj (f _ _ True.intro h1) (Dvf.rd f h2)
  | _, _, .dK h1 h2 => .dK (f _ _ True.intro h1) (Dvk.rd f h2)
  | _, _, .dT h1 h2 => .dT (f _ _ True.intro h1) (Dvt.rd f h2)
  | _, _, .adr a => .adr a
  | _, _, .exc h1 h2 h3 => .exc (f _ _ True.intro h1) (XDict.rd f h2) (Dvf.rd f h3)
theorem Dvs.rd (f : ∀ b u, HO.data u → Rd H b u → Rd H' b u) : ∀ {vs : List V} {ds : List D}, Dvs K H vs ds → Dvs K H' vs ds
  | _, _, .nil => .nil
  | _, _, .cons h1 h2 => .cons (Dv.rd f h1) (Dvs.rd f h2)
theorem Dvf.rd (f : ∀ b u, HO.data u → Rd H b u → Rd H' b u) : ∀ {vs : List (Str × V)} {ds : List (Str × D)}, Dvf K H vs ds → Dvf K H' vs ds
  | _, _, .nil => .nil
  | _, _, .cons h1 h2 => .cons (Dv.rd f h1) (Dvf.rd f h2)
theorem Dvk.rd (f : ∀ b u, HO.data u → Rd H b u → Rd H' b u) : ∀ {vs : List (Key × V)} {ds : List (Key × D)}, Dvk K H vs ds → Dvk K H' vs ds
  | _, _, .nil => .nil
  | _, _, .cons h1 h2 => .cons (Dv.rd f h1) (Dvk.rd f h2)
theorem Dvt.rd (f : ∀ b u, HO.data u → Rd H b u → Rd H' b u) : ∀ {vs : List (List Key × V)} {ds : List (List Key × D)}, Dvt K H vs ds → Dvt K H' vs ds
  | _, _, .nil => .nil
  | _, _, .cons h1 h2 => .cons (Dv.rd f h1) (Dvt.rd f h2)
end
end
abbrev XR := Addr → List (Str × D) → Prop
abbrev SpX := List D → (D → Prop) → XR → Prop
abbrev MonoX (sx : SpX) : Prop := ∀ ds (P P' : D → Prop) (R R' : XR), (∀ d, P d → P' d) → (∀ C g, R C g → R' C g) → sx ds P R → sx ds P' R'
def kX (K : PySem.W.Frag) (E : XK) : XR := fun C gs => ∀ dx fs H', XDict H' dx fs → Dvf K H' fs gs → E (.ref C) dx H'
def spX (K : PySem.W.Frag) (sx : SpX) : Sp := fun vs H Q E => ∃ ds, Dvs K H vs ds ∧ sx ds (fun d => ∀ v H', Dv K H' v d → Q v H') (kX K E)
def XAcc (X : Cx) (xk : SD → XR) : Prop := ∀ pins σ δ H s ea C dx fs gs, Inv X pins σ H s → RelS X.K H σ δ → InAir X H s ea C dx → XDict H dx fs → Dvf X.K H fs gs → xk δ C gs → X.xe (.ref ea) s
def wishX (K : PySem.W.Frag) (R : XR) : XK := fun cls dx H' => ∃ C gs fs, cls = .ref C ∧ XDict H' dx fs ∧ Dvf K H' fs gs ∧ R C gs
theorem kX_wish {K : PySem.W.Frag} {R : XR} {C : Addr} {gs : List (Str × D)} (h : R C gs) : kX K (wishX K R) C gs := fun dx fs H' xd df => ⟨C, gs, fs, rfl, xd, df, h⟩
def backX (K : PySem.W.Frag) (P : D → Prop) : VK := fun v H' => ∃ d, Dv K H' v d ∧ P d
section
variable {X : Cx} {e : Expr} {es : List Expr} {t : AD} {pos p : Pos} {x : Str} {k : Nat} {f : Addr} {fd : FuncData} {ps : List Str} {sx : SpX} {xk : SD → XR} {dvs : List V} {dls : List Value} {dd : List D}
theorem run_X {pins : List (Addr × Obj)} {σ : L2.St} {δ : SD} {H H1 : Hp} {s : Shared} {Q : VK} {us : List Value} {vs : List V} {ds : List D} (hx : XAcc X xk) (F : FnOk X.prog X.w X.K X.mg X.base (CXD X.prog X.w) k f fd ps (spX X.K sx)) (ms : MonoX sx) (hr : Room k X.A) (hb : Binds X.K fd ps dls) (hd : Vals dvs dls) (hdd : ∀ H, Dvs X.K H dvs dd)
    (I : Inv X pins σ H1 s) (rs : RelS X.K H σ δ) (s1 : Same H H1) (r : Vals vs us) (dv : Dvs X.K H1 vs ds) (h : sx (ds ++ dd) (kD X.K H Q) (xk δ)) : wpAny (model X.prog X.w) X.A (call (.ref f) us) (EP X pins σ Q) X.xe s := by
  refine run_fnX (Q' := backX X.K (kD X.K H Q)) (E := wishX X.K (xk δ)) F hr hb hd I r ⟨ds ++ dd, ((dv.append (hdd H1)).rd fun b u hu z => z.frz I.hok hu), ms _ _ _ _ _ (fun d q v H' dv => ⟨d, dv, q⟩) (fun C g q => kX_wish q) h⟩ ?_ ?_
  · rintro v H' rd ⟨d, dv, q⟩
    exact q v _ (s1.trans (thaw_same _ _)) (dv.rd rd)
  · rintro ea C dx H' s' I' a rd ⟨C', gs, fs, e, xd, df, q⟩
    cases e
    exact hx pins σ δ _ s' ea C dx fs gs I' (rs.same (s1.trans (thaw_same _ _))) a (XDict.rd rd xd) (Dvf.rd rd df) q
def vCallX (xk : SD → XR) (sx : SpX) (dd : List D) (t : AD) : ED := fun δ Q => t δ fun ds => sx (ds ++ dd) Q (xk δ)
theorem d_callX (hx : XAcc X xk) (F : FnOk X.prog X.w X.K X.mg X.base (CXD X.prog X.w) k f fd ps (spX X.K sx)) (ms : MonoX sx) (hr : Room k X.A) (hg : Gl X x) (hm : X.mg x = some (.ref f)) (hk : PySem.W.keepIn X.K (.ref f) = true) (hb : Binds X.K fd ps dls) (hv : Vals dvs dls) (hdd : ∀ H, Dvs X.K H dvs dd)
    (ha : PAd X (e :: es) t) (hdb : (x == ("__debug__" : Str)) = false := by decide) (he : starEach (e :: es) X.env = (false, eval e X.env) :: starEach es X.env := by rfl) (hpl : (backTo pos (starEach es X.env)).any (·.1) = false := by rfl) :
    PD X (.Call (.Name x p) (e :: es) [] pos) (vCallX xk sx dd t) := by
  refine ⟨fun pins s σ H Q I ⟨δ, r, h⟩ => ?_, fun δ P P' g h => ha.mono _ _ _ (fun ds q => ms _ _ _ _ _ g (fun _ _ z => z) q) h⟩
  refine wpAny_Call_Name_kw (ld_glob I hg hm ?_ hdb)
  refine PySem.W.callWith_K (h₀ := X.base) I.ok.mod.kin hk (thn (ha.pa pos pins s σ H (fun vs H1 => Same H H1 ∧ ∃ ds, Dvs X.K H1 vs ds ∧ sx (ds ++ dd) (kD X.K H Q) (xk δ)) I ⟨δ, r, ha.mono _ _ _ (fun ds q vs H1 s1 dv => ⟨s1, ds, dv, q⟩) h⟩) fun us s1 ⟨vs, H1, I1, r1, sm, ds, dv, q⟩ => ⟨I1.kIn, ?_⟩) he hpl
  exact run_X hx F ms hr hb hv hdd I1 r sm r1 dv q
def qRaise (xk : SD → XR) (C : Addr) (t : AD) : TSD := fun _ δ => t δ fun ds => ds.length ≤ sizeLine ∧ xk δ C []
theorem s_raise {C : Addr} {np cpos : Pos} (hx : XAcc X xk) (hc : X.calm = true) (hex : X.ex = []) (hg : Gl X x) (hm : X.mg x = some (.ref C)) (hq : PySem.W.excIn X.K C [.type "ValueError", .type "Exception", .type "BaseException", .type "object"] "ValueError.__new__" = true)
    (ha : PAd X (e :: es) t) (hdb : (x == ("__debug__" : Str)) = false := by decide) (he : starEach (e :: es) X.env = (false, eval e X.env) :: starEach es X.env := by rfl) (hpl : (backTo cpos (starEach es X.env)).any (·.1) = false := by rfl) :
    PSd X (.Raise (some (.Call (.Name x np) (e :: es) [] cpos)) none pos) (qRaise xk C t) := by
  refine ⟨fun pins s σ H D I ⟨δ, r, h⟩ => ?_, fun E E' δ l h => h⟩
  have FB := PySem.F.excBase_ValueError
  obtain ⟨bm, N, nm, qn, bs, hdct, sn, sub, ab, col, dd, k0, k1, k2, k3, k5, mN, hC, hN, hni, T⟩ := exc_open I.ok.mod.kin hq
  refine wpAny_Raise_call_subT (C := C) (nm := nm) (q := qn) (N := N) (bs := bs) (bm := bm) (hdct := hdct) (sn := sn) (sub := sub) (ab := ab) (col := col) (dd := dd) (k0 := k0) (k1 := k1) (k2 := k2) (k3 := k3) (k5 := k5) FB (mN := mN) (T.hasType FB.hasBase) (I.ok.hd hc) (by rw [he]; show (false || (backTo cpos (starEach es X.env)).any (·.1)) = false; rw [hpl]; rfl) hni (ld_glob I hg hm ⟨rfl, ?_⟩ hdb)
  have z := ha.pa cpos pins s σ H (fun vs H1 => Same H H1 ∧ vs.length ≤ sizeLine ∧ xk δ C []) I ⟨δ, r, ha.mono _ _ _ (fun ds q vs H1 s1 dv => ⟨s1, by rw [dv.length]; exact q.1, q.2⟩) h⟩
  rw [he] at z ⊢
  refine Calls.evalArgs_plain (wpAny_mono z (fun us s2 ⟨vs, H1, I1, rv, sm, hl, q⟩ => ⟨rfl, by rw [← rv.length]; exact hl, I1.bk _ _ hC, hN.keeps I1.bk, T.keeps I1.bk, fun h' ea me => ?_⟩) fun _ _ y => y)
  obtain ⟨tt, ho, _, _⟩ := me.there
  obtain ⟨hh, gg, d2, tk, os⟩ := s2
  have I2 := I1.kept (t' := tk) (h' := h') me.keeps
  have none_of : H1 ea = none := by
    cases q2 : H1 ea with
    | none => rfl
    | some u =>
      obtain ⟨o, z⟩ := (I1.hok ea u q2).there
      have := me.new
      rw [z] at this
      cases this
  have h0 : X.s₀.heap.get? ea = none := by
    cases q2 : X.s₀.heap.get? ea with
    | none => rfl
    | some o =>
      obtain ⟨o', z⟩ := I1.base.there ea o q2 (by rw [hex]; simp)
      have := me.new
      rw [z] at this
      cases this
  exact hx pins σ δ H1 _ ea C none [] [] I2 (r.same sm) (raised_in I2 ho rfl rfl rfl (show 1 < 6 by decide) rfl rfl none_of h0 fun p hp z => by
    have y := (I1.pin p (List.mem_append_left _ hp)).1
    rw [z, me.new] at y
    cases y) rfl .nil q
end
section
variable {P : Program} {w : World} {K : PySem.W.Frag} {mg : Str → Option Value} {base : Heap}
abbrev BxX (P : Program) (w : World) (K : PySem.W.Frag) (mg : Str → Option Value) (base : Heap) (N : List Str) (qual : Str) (st : Stmt) (f : Addr) (cdv : Value) (A : Around) (outer : List Env) (s : Shared) (H : Hp) (E : XK) : Cx := cxOf (CXD P w) P w K mg base N qual (defScope st) f cdv A outer s H E
theorem acc_X {N : List Str} {qual : Str} {st : Stmt} {f : Addr} {cdv : Value} {A : Around} {outer : List Env} {s : Shared} {H : Hp} {E : XK} : XAcc (BxX P w K mg base N qual st f cdv A outer s H E) (fun _ => kX K E) :=
  fun pins σ δ H1 s1 ea C dx fs gs I r a xd df hk => acc_def I a (hk dx fs H1 xd df)
theorem okX {x qual : Str} {st : Stmt} {f : Addr} {fd : FuncData} {N ps : List Str} {k : Nat} {sx : SpX} {t : XR → TSD} (F : FunV K x qual st f fd) (S : FnScope N ps (defScope st)) (len : ∀ ds Q R, sx ds Q R → ds.length = ps.length)
    (hb : ∀ (cdv : Value) (A : Around) (outer : List Env) (s : Shared) (H : Hp) (E : XK) (R : XR), Room k (A.deeper (envOfC qual (defScope st) s.heap.objs.size f cdv)) → XAcc (BxX P w K mg base N qual st f cdv A outer s H E) (fun _ => R) → PSsd (BxX P w K mg base N qual st f cdv A outer s H E) (defBody st) (t R))
    (hr : ∀ ds Q R, sx ds Q R → t R { nx := fun _ => Q .non, rt := Q } (startD N ds)) : FnOk P w K mg base (CXD P w) (k + 1) f fd ps (spX K sx) := by
  obtain ⟨oc, od, dV, kV, doc, pm, an, cdv, ct, osl, rfl, lk, hcd⟩ := F.ex
  refine fn_of lk hcd S (fun vs H Q E ⟨ds, dvs, h⟩ => by rw [dvs.length]; exact len ds _ _ h) fun A outer s H vs Q E hroom ⟨ds, dvs, h⟩ => ?_
  have B := hb cdv A outer s H E (kX K E) hroom acc_X
  refine ⟨_, B.ps, startD N ds, start_rel dvs, ?_⟩
  let Q' : D → Prop := fun d => ∀ v H', Dv K H' v d → Q v H'
  exact B.mono { nx := fun _ => Q' .non, rt := Q' } _ _ ⟨fun δ q σ H' s' r => q _ H' .non, fun d q v H' s' dv => q v H' dv, fun _ q => q.elim, fun _ q => q.elim⟩ (hr ds _ _ h)
structure CalX (P : Program) (w : World) (K : PySem.W.Frag) (mg : Str → Option Value) (base : Heap) (k : Nat) (x : Str) (ps : List Str) (sx : SpX) : Prop where
  ex : ∃ f fd, FnOk P w K mg base (CXD P w) k f fd ps (spX K sx) ∧ mg x = some (.ref f) ∧ PySem.W.keepIn K (.ref f) = true ∧ Binds K fd ps []
  ms : MonoX sx
end
end DC

set_option maxHeartbeats 1000000
namespace L2
open PySem PySem.Spec PyProof.Rows
section
variable {P : Program} {w : World} {H : Hp} {h : Heap} {C : Addr} {fs ex : List Addr}
end
section
variable {X : Cx} {k : Nat} {f C : Addr} {fd : FuncData} {ps : List Str} {sp : Sp} {dvs : List V} {ds : List Value}
end
end L2
namespace DC
open PySem PySem.Spec PyProof.Rows L2
section
variable {X : Cx} {o e : Expr} {es : List Expr} {ta : ED} {t : AD} {pos p apos : Pos} {x m : Str} {j k : Nat} {f C : Addr} {fd : FuncData} {ps : List Str} {sx : SpIX} {sm : Addr → SpX} {ok : Addr → Prop} {xk : SD → XR} {dvs : List V} {dls : List Value} {dd : List D}
theorem d_calX (hx : XAcc X xk) {sx : SpX} (c : CalX X.prog X.w X.K X.mg X.base j x ps sx) (hr : Room k X.A) (hj : j ≤ k) (hg : Gl X x) (ha : PAd X (e :: es) t) (hdb : (x == ("__debug__" : Str)) = false := by decide)
    (h1 : starEach (e :: es) X.env = (false, eval e X.env) :: starEach es X.env := by rfl) (h2 : (backTo pos (starEach es X.env)).any (·.1) = false := by rfl) : PD X (.Call (.Name x p) (e :: es) [] pos) (vCallX xk sx [] t) := by
  obtain ⟨f, fd, F, m, kp, b⟩ := c.ex
  exact d_callX (dvs := []) (dls := []) hx F c.ms (hr.mono hj) hg m kp b .nil (fun _ => .nil) ha hdb h1 h2
end
section
variable {P : Program} {w : World} {K : PySem.W.Frag} {mg : Str → Option Value} {base : Heap}
theorem fun_v {x qual : Str} {st : Stmt} {f : Addr} {fd : FuncData} (F : Fun K x qual st f fd) : FunV K x qual st f fd :=
  let ⟨oc, od, kV, doc, pm, an, cdv, ct, osl, h1, h2, h3⟩ := F.ex
  ⟨⟨oc, od, .none, kV, doc, pm, an, cdv, ct, osl, h1, h2, h3⟩, F.kp⟩
theorem Df.calX {k : Nat} {x : Str} {st : Stmt} {ps N : List Str} {sx : SpX} {t : XR → TSD} (d : Df K mg x st ps) (S : FnScope N ps (defScope st)) (ms : MonoX sx) (len : ∀ ds Q R, sx ds Q R → ds.length = ps.length)
    (hb : ∀ (f : Addr) (cdv : Value) (A : Around) (outer : List Env) (s : Shared) (H : Hp) (E : XK) (R : XR), Room k (A.deeper (envOfC x (defScope st) s.heap.objs.size f cdv)) → XAcc (BxX P w K mg base N x st f cdv A outer s H E) (fun _ => R) → PSsd (BxX P w K mg base N x st f cdv A outer s H E) (defBody st) (t R))
    (hr : ∀ ds Q R, sx ds Q R → t R { nx := fun _ => Q .non, rt := Q } (startD N ds)) : CalX P w K mg base (k + 1) x ps sx := by
  obtain ⟨f, fd, F, m, b⟩ := d.ex
  exact ⟨⟨f, fd, okX (fun_v F) S len (hb f) hr, m, F.kp, b⟩, ms⟩
end
end DC

set_option maxHeartbeats 1000000
namespace L2
open PySem PySem.Spec PyProof.Rows
end L2
namespace DC
open PySem PySem.Spec PyProof.Rows L2
section
variable {X : Cx} {scope : Scope} {cl : List (Str × Addr)} {N : List Str} {R : XR} {C : Addr} {fp : List Addr} {pins : List (Addr × Obj)} {σ : L2.St} {H2 : Hp} {s s2 : Shared}
end
section
variable {X : Cx} {scope : Scope} {cl : List (Str × Addr)} {T cn : List Str} {caps : List Nat} {elt tg iter : Expr} {ifs : List Expr} {wi : TI} {g : TG} {tt : TT} {te : TE} {pos : Pos} {R : XR}
end
section
variable {X : Cx} {scope : Scope} {cl : List (Str × Addr)} {x : Str} {cn : List Str} {caps : List Nat} {elt tg iter : Expr} {ifs : List Expr} {ti : AD} {tt : TD} {te : ED} {pos : Pos} {R : XR}
end
end DC

set_option maxHeartbeats 1000000
namespace L2
open PySem PySem.Spec PyProof.Rows
abbrev Cx.hush (X : Cx) (A : Around) : Cx := { X with A := A, calm := false, xe := fun _ _ => False }
abbrev Cx.pinIn (X : Cx) (pins : List (Addr × Obj)) (E : Value → Shared → Prop) : Cx := { X with pn := X.pn ++ pins, xe := E }
section
variable {X : Cx} {pins : List (Addr × Obj)} {σ : St} {H : Hp} {s : Shared} {A : Around} {E : Value → Shared → Prop}
theorem Inv.hush (I : Inv X pins σ H s) (hf : A.frames = X.A.frames) : Inv (X.hush A) pins σ H s :=
  ⟨⟨I.ok.mod, I.ok.kind, I.ok.glob, I.ok.blt, I.ok.above, I.ok.inj, I.ok.has, I.ok.cab, (fun h => Bool.noConfusion h), hf.trans I.ok.frames, I.ok.stk, I.ok.exf, I.ok.bs, I.ok.bsz, I.ok.noex, I.ok.exfs, I.ok.funs, I.ok.frf⟩, I.os, I.bare, I.base, I.loc, I.cell, I.free, I.freeC, I.pin, I.hok, I.len⟩
theorem Inv.unhush (ok : X.Ok) (I : Inv (X.hush A) pins σ H s) : Inv X pins σ H s := ⟨ok, I.os, I.bare, I.base, I.loc, I.cell, I.free, I.freeC, I.pin, I.hok, I.len⟩
theorem Inv.pinIn (I : Inv X pins σ H s) : Inv (X.pinIn pins E) [] σ H s :=
  ⟨⟨I.ok.mod, I.ok.kind, I.ok.glob, I.ok.blt, I.ok.above, I.ok.inj, I.ok.has, I.ok.cab, I.ok.hd, I.ok.frames, I.ok.stk, I.ok.exf, I.ok.bs, I.ok.bsz, I.ok.noex, I.ok.exfs, I.ok.funs, I.ok.frf⟩, I.os, I.bare, I.base, I.loc, I.cell, I.free, I.freeC,
    fun p hp => I.pin p (by simpa using hp), I.hok, I.len⟩
theorem Inv.pinBack {l : List (Addr × Obj)} (I : Inv (X.pinIn pins E) l σ H s) : Inv X pins σ H s :=
  ⟨⟨I.ok.mod, I.ok.kind, I.ok.glob, I.ok.blt, I.ok.above, I.ok.inj, I.ok.has, I.ok.cab, I.ok.hd, I.ok.frames, I.ok.stk, I.ok.exf, I.ok.bs, I.ok.bsz, I.ok.noex, I.ok.exfs, I.ok.funs, I.ok.frf⟩, I.os, I.bare, I.base, I.loc, I.cell, I.free, I.freeC,
    fun p hp => I.pin p (List.mem_append_left _ hp), I.hok, I.len⟩
theorem ns_up {h h' : Heap} {a : Addr} {m : Str → Option Value} (u : h.UpToSlots h') (hn : h.Ns a m) : h'.Ns a m := by
  obtain ⟨o, es, ep, ho, hd, r⟩ := hn
  obtain ⟨sl, z⟩ := u a o ho (fun vs q => by rw [hd] at q; cases q)
  exact ⟨_, es, ep, z, hd, r⟩
theorem cell_up {h h' : Heap} {a : Addr} {v : Option Value} (u : h.UpToSlots h') (hn : h.IsCell a v) : h'.IsCell a v := by
  obtain ⟨o, ho, hd⟩ := hn
  obtain ⟨sl, z⟩ := u a o ho (fun vs q => by rw [hd] at q; cases q)
  exact ⟨_, z, hd⟩
theorem look_up {env : Env} {h h' : Heap} {m : Str → Option Value} {x : Str} {v : Value} (u : h.UpToSlots h') (l : Look env h m x v) : Look env h' m x v := by
  rcases l with l | ⟨k, c, e, i⟩
  · exact .inl l
  · exact .inr ⟨k, c, e, cell_up u i⟩
theorem Inv.air {l : List (Addr × Obj)} {B h1 : Heap} {ea : Addr} (I : Inv X l σ H s) (u : s.heap.UpToSlots h1) (a : Air B X.stack ea h1) (ok : HOk X.prog X.w H B) (bn : Beneath X.fs X.ex X.H₀ X.s₀.heap B) (pn : ∀ p ∈ X.pn, B.get? p.1 = some p.2) : Inv X [] σ H { s with heap := h1 } := by
  obtain ⟨m, hn, lk⟩ := I.loc
  have up : ∀ b o, b ∈ X.fs → s.heap.get? b = some o → ∃ sl, h1.get? b = some { o with slots := sl } := fun b o hb q => by
    obtain ⟨_, o', q', nf⟩ := I.funs.mem hb
    rw [q] at q'
    cases q'
    exact u b o q nf
  refine ⟨I.ok, I.os, I.bare, ⟨fun b o q n hb hx => a.st b o (bn.kp b o q n hb hx), fun b o q n hb hx => ?_, I.base.free, fun b o q hx => ?_, I.base.tups, I.base.frzs, I.base.tbls⟩,
    ⟨m, ns_up u hn, fun i x v e1 e2 e3 => let ⟨w, r, k⟩ := lk i x v e1 e2 e3; ⟨w, r, look_up u k⟩⟩, fun x c e => let ⟨v, k⟩ := I.cell x c e; ⟨v, cell_up u k⟩, I.free, I.freeC, fun p hp => ?_, ok.kept a.st, I.len⟩
  · obtain ⟨sl, z⟩ := I.base.slot b o q n hb hx
    obtain ⟨sl2, z2⟩ := up b _ hb z
    exact ⟨sl2, z2⟩
  · by_cases hb : b ∈ X.fs
    · obtain ⟨o', z⟩ := I.base.there b o q hx
      obtain ⟨sl2, z2⟩ := up b _ hb z
      exact ⟨_, z2⟩
    · obtain ⟨o', z⟩ := bn.th b o q hb hx
      exact ⟨o', a.st b o' z⟩
  · have hp' : p ∈ X.pn := by simpa using hp
    exact ⟨a.st _ _ (pn p hp'), (I.pin p (List.mem_append_left _ hp')).2⟩
theorem HOk.track {P : Program} {w : World} {h : Heap} {a : Addr} {o : HO} (x : HOk P w H h) (hn : H a = none) (new : ObjOk P w (upd H a o) h a o) : HOk P w (upd H a o) h := fun b u e => by
  by_cases hb : b = a
  · subst hb; rw [upd_same] at e; cases e; exact new
  · rw [upd_ne hb] at e
    exact (x b u e).stay (fun c v _ q => q) (fun c q => by rw [upd_ne (ne_of_none q hn)]; exact q) fun c xs q => by rw [upd_ne (ne_of_none q hn)]; exact q
theorem Inv.track {ea : Addr} {u : HO} (I : Inv X pins σ H s) (hn : H ea = none) (h0 : X.s₀.heap.get? ea = none) (hl : ea ≠ X.env.locals) (hc : ∀ x c, X.env.cells.lookup x = some c → c ≠ ea) (hp : ∀ p ∈ X.pn ++ pins, p.1 ≠ ea) (new : ObjOk X.prog X.w (upd H ea u) s.heap ea u) : Inv X pins σ (upd H ea u) s := by
  have ne : ∀ b v, H b = some v → b ≠ ea := fun b v q => ne_of_none q hn
  refine ⟨I.ok, I.os, I.bare, ⟨I.base.keep, I.base.slot, fun b o q n hx => ?_, I.base.there, fun b xs q => ?_, fun b o v q => ?_, fun b ps q => ?_⟩, I.loc, I.cell, by rw [upd_ne (Ne.symm hl)]; exact I.free, fun x c e => by rw [upd_ne (hc x c e)]; exact I.freeC x c e, fun p hp' => ?_, I.hok.track hn new, I.len⟩
  · rw [upd_ne (fun z => by rw [z, h0] at q; cases q)]
    exact I.base.free b o q n hx
  · have z := I.base.tups b xs q
    rw [upd_ne (ne _ _ z)]; exact z
  · have z := I.base.frzs b o v q
    rw [upd_ne (ne _ _ z)]; exact z
  · obtain ⟨more, z⟩ := I.base.tbls b ps q
    exact ⟨more, by rw [upd_ne (ne _ _ z)]; exact z⟩
  · obtain ⟨y1, y2, y3⟩ := I.pin p hp'
    exact ⟨y1, by rw [upd_ne (hp p hp')]; exact y2, y3⟩
theorem Inv.goes {i : Nat} {n : Str} {pos : Pos} {M : Model} {A : Around} {Q : Unit → Shared → Prop} (I : Inv X pins σ H s) (hN : X.N.Nodup) (hi : X.N[i]? = some n) (hl : X.env.kindOf n = some .local) (h : ∀ s', Inv X pins (σ.set i none) H s' → Q () s') : wpAny M A (do bindName X.env n .none; unbindBehindTheSuite X.env n pos) Q E s := by
  obtain ⟨m, hn, lk⟩ := I.loc
  refine wpAny_nameGoes_keeps hl hn (by rw [I.ok.kind]; rfl) fun h' v hn' sb => h _ ?_
  have cne := I.cne
  have ho := hn
  obtain ⟨o, es, ep, go, gd, _⟩ := ho
  have keep : ∀ b ob, b ≠ X.env.locals → s.heap.get? b = some ob → h'.get? b = some ob := fun b ob nb q => (sb.2 b nb).trans q
  obtain ⟨o', es', ep', go', _⟩ := id hn'
  have above := I.ok.above
  refine ⟨I.ok, I.os, I.bare, ⟨fun b ob q nb hb hx => ?_, fun b ob q nb hb hx => ?_, I.base.free, fun b ob q hx => ?_, I.base.tups, I.base.frzs, I.base.tbls⟩, ⟨_, hn', fun j x w e1 e2 e3 => ?_⟩, fun x c e => ?_, I.free, I.freeC, fun p hp => ?_, fun b u q => ?_, by rw [List.length_set]; exact I.len⟩
  · exact keep b ob (fun z => by have y := Heap.lt_size q; rw [z] at y; exact absurd above (Nat.not_le.mpr y)) (I.base.keep b ob q nb hb hx)
  · obtain ⟨sl, z⟩ := I.base.slot b ob q nb hb hx
    exact ⟨sl, keep b _ (fun y => by have y2 := Heap.lt_size q; rw [y] at y2; exact absurd above (Nat.not_le.mpr y2)) z⟩
  · obtain ⟨o2, z⟩ := I.base.there b ob q hx
    exact ⟨o2, keep b _ (fun y => by have y2 := Heap.lt_size q; rw [y] at y2; exact absurd above (Nat.not_le.mpr y2)) z⟩
  · rw [List.getElem?_set] at e2
    split at e2
    · split at e2 <;> cases e2
    · rename_i ji
      obtain ⟨w', r, k⟩ := lk j x w e1 e2 e3
      have xn : x ≠ n := fun z => ji (by
        subst z
        exact (List.getElem?_inj (List.getElem?_eq_some_iff.mp hi).1 hN).mp (hi.trans e1.symm))
      refine ⟨w', r, ?_⟩
      rcases k with ⟨k1, k2⟩ | ⟨k1, c, k2, k3⟩
      · exact .inl ⟨k1, by show (if x = n then v else m x) = _; rw [if_neg xn]; exact k2⟩
      · exact .inr ⟨k1, c, k2, k3.sameBut sb (cne x c k2)⟩
  · obtain ⟨v, k⟩ := I.cell x c e
    exact ⟨v, k.sameBut sb (cne x c e)⟩
  · obtain ⟨y1, y2, y3, y4⟩ := I.pin p hp
    exact ⟨keep _ _ y3 y1, y2, y3, y4⟩
  · refine (I.hok b u q).stay (fun c w hc z => keep c w (fun y => ?_) z) (fun _ z => z) fun _ _ z => z
    rcases hc with rfl | hc
    · rw [y, I.free] at q; cases q
    · rw [y, I.free] at hc; cases hc
end
theorem exc_hit {prog : Program} {w : World} {A : Around} {E : Value → Shared → Prop} {K : PySem.W.Frag} {e C Cx : Addr} {oe : Obj} {Q : Bool → Shared → Prop} {s : Shared} (X : K.In s.heap) (hk : PySem.W.kitCls K (.ref C) (.ref Cx) = some true) (hb : PySem.W.mroIn K Cx (.type "BaseException") = some true)
    (he : s.heap.get? e = some oe) (hc : oe.cls = .ref C) (hq : Q true s) : wpAny (model prog w) A (excMatches (.ref e) (.ref Cx)) Q E s := by
  obtain ⟨h, g, d, tk, os⟩ := s
  obtain ⟨LY, LT, LS⟩ := PySem.W.kit_cls (M := model prog w) X hk
  have LB := PySem.W.looks_mroIn (M := model prog w) X hb
  have LE : PySem.W.Looks (model prog w) h (typeOf (.ref e)) (.ref C) := hc ▸ (PySem.W.Looks.ld he).andThen .now
  have LI : PySem.W.Looks (model prog w) h (isInstance (.ref Cx) (.type "tuple")) false := LY.andThen (.of_pure tc_notTuple)
  unfold excMatches
  repeat (first | with_reducible refine LI.at ?_ | with_reducible refine LT.at ?_ | with_reducible refine LB.at ?_ | with_reducible refine LE.at ?_ | with_reducible refine LS.at ?_ | wp_step)
  exact hq
end L2
namespace DC
open PySem PySem.Spec PyProof.Rows L2
def endsF (K : PySem.W.Frag) (D : Ends) : EndsD := ⟨fun δ => ∀ σ H', RelS K H' σ δ → D.nx σ H', fun d => ∀ v H', Dv K H' v d → D.rt v H', fun δ => ∀ σ H', RelS K H' σ δ → D.bk σ H', fun δ => ∀ σ H', RelS K H' σ δ → D.ct σ H'⟩
theorem endsF_le {K : PySem.W.Frag} {H : Hp} {D : Ends} : EndsD.Le (endsF K D) (endsOf K H D) := ⟨fun δ q σ H' _ r => q σ H' r, fun d q v H' _ dv => q v H' dv, fun δ q σ H' _ r => q σ H' r, fun δ q σ H' _ r => q σ H' r⟩
def oF (K : PySem.W.Frag) (t : TSD) : TS := fun D σ H => ∃ δ, RelS K H σ δ ∧ t (endsF K D) δ
structure PFd (X : Cx) (st : Stmt) (t : TSD) : Prop where
  ps : PS X st (oF X.K t)
  mono : MonoQ t
structure PFs (X : Cx) (st : List Stmt) (t : TSD) : Prop where
  ps : PSs X st (oF X.K t)
  mono : MonoQ t
section
variable {X : Cx} {st : Stmt} {rest : List Stmt} {t u : TSD}
theorem ff_all (h : PSsd X rest t) : PFs X rest t := ⟨PSs.imp h.ps fun D σ H ⟨δ, r, q⟩ => ⟨δ, r, h.mono _ _ _ endsF_le q⟩, h.mono⟩
theorem ff_cons (h1 : PFd X st t) (h2 : PFs X rest u) : PFs X (st :: rest) (qSeq t u) :=
  ⟨PSs.imp (pss_cons h1.ps h2.ps) fun D σ H ⟨δ, r, q⟩ => ⟨δ, r, h1.mono { endsF X.K D with nx := u (endsF X.K D) } _ _ ⟨fun δ' q σ' H' r' => ⟨δ', r', q⟩, fun _ q => q, fun _ q => q, fun _ q => q⟩ q⟩,
   fun E E' δ l q => h1.mono { E with nx := u E } _ _ ⟨fun δ' q => h2.mono _ _ _ l q, l.rt, l.bk, l.ct⟩ q⟩
theorem RelS.unset {K : PySem.W.Frag} {H : Hp} {σ : L2.St} {δ : SD} {i : Nat} (r : RelS K H σ δ) : RelS K H (σ.set i none) (δ.set i none) := by
  refine ⟨by rw [List.length_set, List.length_set]; exact r.len, fun j d h => ?_⟩
  rw [List.getElem?_set] at h ⊢
  split at h
  · split at h <;> cases h
  · rename_i n
    rw [if_neg n]
    exact r.get j d h
def qTry (i : Nat) (hit : Addr → Prop) (tb : (SD → XR) → TSD) (th : Addr → TSD) : TSD := fun E δ => ∃ xk : SD → XR, (∀ δ' C gs, xk δ' C gs → hit C ∧ ∀ a, th a { nx := fun δ'' => E.nx (δ''.set i none), rt := E.rt } (δ'.set i (some (.exc a C gs)))) ∧ tb xk E δ
theorem ff_try {i : Nat} {n cx : Str} {cp hp pos : Pos} {b₀ : Stmt} {suite body : List Stmt} {Cx : Addr} {tb : (SD → XR) → TSD} {th : Addr → TSD} {hit : Addr → Prop} (hst : X.stack = X.env :: X.outer) (hfr : X.env.frame = some X.env.locals) (hex : X.ex = []) (hN : X.N.Nodup) (hi : X.N[i]? = some n) (hl : X.env.scope.names.lookup n = some .local)
    (hg : Gl X cx) (hm : X.mg cx = some (.ref Cx)) (hhit : ∀ C, hit C → PySem.W.kitCls X.K (.ref C) (.ref Cx) = some true) (hbe : PySem.W.mroIn X.K Cx (.type "BaseException") = some true)
    (hb : ∀ pins E' xk, XAcc (X.pinIn pins E') xk → PSsd (X.pinIn pins E') body (tb xk)) (hs : ∀ ea, PSsd (X.hush (X.A.mark (some (.ref ea)))) (b₀ :: suite) (th ea)) (hd : (cx == ("__debug__" : Str)) = false := by decide) :
    PFd X (.Try body [.ExceptHandler (some (.Name cx cp)) (some n) (b₀ :: suite) hp] [] [] pos) (qTry i hit tb th) := by
  refine ⟨fun pins s σ H D I ⟨δ, r, xk, himp, hq⟩ => ?_, fun E E' δ l ⟨xk, h1, h2⟩ => ⟨xk, fun δ' C gs q => ⟨(h1 δ' C gs q).1, fun a => (hs a).mono { nx := fun δ'' => E.nx (δ''.set i none), rt := E.rt } _ _ ⟨fun _ z => l.nx _ z, l.rt, fun _ z => z, fun _ z => z⟩ ((h1 δ' C gs q).2 a)⟩,
    (hb [] (fun _ _ => True) xk (fun _ _ _ _ _ _ _ _ _ _ _ _ _ _ _ _ => True.intro)).mono _ _ _ l h2⟩⟩
  refine wpAny_Try_except ?_
  have hx : XAcc (X.pinIn pins (fun e s₁ => wpAny (model X.prog X.w) X.A (noteFrame e X.env) (fun _ s₂ => wpAny (model X.prog X.w) X.A (setFlight e none) (fun _ s₃ => wpAny (model X.prog X.w) X.A (handleBy e X.env [.ExceptHandler (some (.Name cx cp)) (some n) (b₀ :: suite) hp]) (SP X pins D) X.xe s₃) X.xe s₂) X.xe s₁)) xk := by
    intro l σ1 δ1 H1 s1 ea C dx fs gs I1 r1 ⟨B, fl, a, ok, bn, x, pn⟩ xd df k
    obtain ⟨hitC, hth⟩ := himp δ1 C gs k
    have a0 : Air B (X.env :: X.outer) ea s1.heap := hst ▸ (show Air B X.stack ea s1.heap from a)
    refine note_x (env := X.env) (outer := X.outer) (L := X.env.locals) (by rw [← hst]; exact I.ok.frames) hfr a0 x fun h2 a2 u2 x2 => ?_
    refine flight_x (s := { s1 with heap := h2 }) (f := none) a2 x2 fun h3 a3 u3 x3 => ?_
    have I3 : Inv X pins σ1 H1 { s1 with heap := h3 } := (I1.air (u2.trans u3) (hst ▸ a3) ok bn pn).pinBack
    have he3 := x3
    obtain ⟨oe, vs, he, hc, _⟩ := he3
    have I3h := I3.hush (A := X.A.mark (some (.ref ea))) rfl
    refine wpAny_handleBy_cons (codeAny_handlers_test (ld_glob I3h hg hm ?_ hd)) (by intro q; cases q)
    refine exc_hit I3.kIn (hhit C hitC) hbe he hc ?_
    refine codeAny_handlers_suite_as (flight_x (s := { s1 with heap := h3 }) (f := none) a3 x3 fun h4 a4 u4 x4 => ?_)
    have I4 := I1.air (h1 := h4) (u2.trans (u3.trans u4)) (hst ▸ a4) ok bn pn
    obtain ⟨oe, vs, he, hc, hdx, hdv, hz, hy, _⟩ := x4
    have hn : H1 ea = none := by
      cases q : H1 ea with
      | none => rfl
      | some u =>
        obtain ⟨o, z⟩ := (ok ea u q).there
        rw [a.ne] at z
        cases z
    have h0 : X.s₀.heap.get? ea = none := by
      cases q : X.s₀.heap.get? ea with
      | none => rfl
      | some o =>
        by_cases hb' : ea ∈ X.fs
        · obtain ⟨_, o', q', nf⟩ := I4.funs.mem hb'
          have q2 : h4.get? ea = some o' := q'
          rw [he] at q2
          cases q2
          exact absurd hdv (nf vs)
        · obtain ⟨o', z⟩ := bn.th ea o q hb' (by show ea ∉ X.ex; rw [hex]; simp)
          rw [a.ne] at z
          cases z
    have hlo : ea ≠ X.env.locals := fun z => by
      obtain ⟨m, ⟨o, es, ep, go, gd, _⟩, _⟩ := I4.loc
      have go2 : h4.get? X.env.locals = some o := go
      rw [← z, he] at go2
      cases go2
      rw [hdv] at gd
      cases gd
    have hce : ∀ x c, X.env.cells.lookup x = some c → c ≠ ea := fun x c e z => by
      obtain ⟨v, o, go, gd⟩ := I4.cell x c e
      have go2 : h4.get? c = some o := go
      rw [z, he] at go2
      cases go2
      rw [hdv] at gd
      cases gd
    have hpn : ∀ p ∈ X.pn ++ pins, p.1 ≠ ea := fun p hp z => by
      have y := pn p hp
      rw [z, a.ne] at y
      cases y
    have new : ObjOk X.prog X.w (upd H1 ea (ExcO ea C dx)) h4 ea (ExcO ea C dx) := by
      unfold ExcO
      exact ⟨⟨oe, vs, he, hc, hdx, hdv, hy⟩, ⟨oe, he⟩, fun g1 g2 ⟨oe', vs', e1, rr⟩ kk => ⟨oe', vs', kk _ e1, rr⟩⟩
    have I5 : Inv X pins σ1 (upd H1 ea (ExcO ea C dx)) { s1 with heap := h4 } := (I4.track hn h0 hlo hce (fun p hp => hpn p (by simpa using hp)) new).pinBack
    have sm : Same H1 (upd H1 ea (ExcO ea C dx)) := same_upd hn
    have dv : Dv X.K (upd H1 ea (ExcO ea C dx)) (.ref ea) (.exc ea C gs) := .exc (.of upd_same) (xd.same sm) (Dvf.same sm df)
    have I5h := I5.hush (A := X.A.mark (some (.ref ea))) rfl
    refine store_ok (X := X.hush (X.A.mark (some (.ref ea)))) (v := .ref ea) I5h hN hi (.inl hl) rfl (fun s6 I6 => ?_) (.inr hl)
    have r6 := (RelS.same r1 sm).set i dv
    refine wpAny_mono ((hs ea).ps pins s6 _ _ { nx := fun σ'' H'' => D.nx (σ''.set i none) H'', rt := D.rt } I6 ⟨_, r6, (hs ea).mono { nx := fun δ'' => (endsF X.K D).nx (δ''.set i none), rt := (endsF X.K D).rt } _ _ ⟨fun δ'' q σ'' H'' _ r'' => q _ _ r''.unset, fun d q v H'' _ dv => q v H'' dv, fun _ q => q.elim, fun _ q => q.elim⟩ (hth ea)⟩) (fun f s7 h7 => ?_) fun _ _ z => z.elim
    cases f with
    | next =>
      obtain ⟨σ', H', I', q⟩ := h7
      exact (I'.unhush I.ok).goes hN hi hl fun s8 I8 => ⟨_, H', I8, q⟩
    | ret w =>
      obtain ⟨v, σ', H', I', rv, q⟩ := h7
      exact (I'.unhush I.ok).goes hN hi hl fun s8 I8 => ⟨v, _, H', I8, rv, q⟩
    | brk =>
      obtain ⟨σ', H', I', q⟩ := h7
      exact q.elim
    | cont =>
      obtain ⟨σ', H', I', q⟩ := h7
      exact q.elim
  have B := hb pins _ xk hx
  refine wpAny_mono (B.ps [] s σ H D I.pinIn ⟨δ, r, B.mono _ _ _ endsF_le hq⟩) (fun f s1 h1 => ?_) fun e s1 h => h
  cases f with
  | next =>
    obtain ⟨σ', H', I', q⟩ := h1
    exact wpAny_execs_nil ⟨σ', H', I'.pinBack, q⟩
  | ret w =>
    obtain ⟨v, σ', H', I', rv, q⟩ := h1
    exact ⟨v, σ', H', I'.pinBack, rv, q⟩
  | brk =>
    obtain ⟨σ', H', I', q⟩ := h1
    exact ⟨σ', H', I'.pinBack, q⟩
  | cont =>
    obtain ⟨σ', H', I', q⟩ := h1
    exact ⟨σ', H', I'.pinBack, q⟩
end
end DC

set_option maxHeartbeats 1000000
namespace L2
open PySem PySem.Spec PyProof.Rows
structure RoomU (k : Nat) (A : Around) : Prop where
  dp : A.depth + 3 * k + 5 < recursionLimit
  un : A.units + 16 * k + 200 < cLine
theorem RoomU.deeper {k : Nat} {A : Around} (r : RoomU (k + 1) A) (env : Env) : RoomU k (A.deeper env) :=
  ⟨by have := r.dp; show A.depth + 1 + 3 * k + 5 < _; omega, by have := r.un; show A.units + 3 + 16 * k + 200 < _; omega⟩
theorem RoomU.mono {j k : Nat} {A : Around} (r : RoomU k A) (h : j ≤ k) : RoomU j A := ⟨by have := r.dp; omega, by have := r.un; omega⟩
theorem Room.mark {k : Nat} {A : Around} (r : Room k A) (v : Option Value) : RoomU k (A.mark v) := ⟨r.dp, r.un⟩
def HandOk (A : Around) (H : Hp) : Prop := A.handled = none ∨ ∃ ea o u vs, A.handled = some (.ref ea) ∧ H ea = some (.frz o u) ∧ o.data = .fields vs ∧ vs[2]? = some .none
structure FnOkU (P : Program) (w : World) (K : PySem.W.Frag) (mg : Str → Option Value) (base : Heap) (k : Nat) (f : Addr) (fd : FuncData) (ps : List Str) (sp : Sp) : Prop where
  len : ∀ vs H Q E, sp vs H Q E → vs.length = ps.length
  run : ∀ (A : Around) (outer : List Env) (s : Shared) (H : Hp) (args : Args) (us : List Value) (vs : List V) (Q : VK) (E : XK), RoomU k A → HandOk A H → Env0 P w K mg base A outer s H → BindsTo s fd args (ps.zip us) → Vals vs us → sp vs H Q E →
    codeAny (model P w) A (.call (.ref f) args) (CR CX0 outer P w H s Q E) s
abbrev cxU (P : Program) (w : World) (K : PySem.W.Frag) (mg : Str → Option Value) (base : Heap) (N : List Str) (qual : Str) (scope : Scope) (f : Addr) (cd : Value) (A : Around) (outer : List Env) (s : Shared) (H : Hp) (E : XK) : Cx :=
  (cxOf CX0 P w K mg base N qual scope f cd { A with handled := none } outer s H E).hush (A.deeper (envOfC qual scope s.heap.objs.size f cd))
theorem fn_ofU {P : Program} {w : World} {K : PySem.W.Frag} {mg : Str → Option Value} {base : Heap} {k : Nat} {f : Addr} {name qual : Str} {params : Arguments} {body : List Stmt} {scope : Scope} {dV kV doc pm cdv ct oc : Value} {an od : Option Addr}
    {osl : Array (Option Value)} {N ps : List Str} {sp : Sp} (lk : K.lookup f = some ⟨oc, od, .func (PySem.W.fnOf name qual params body scope dV kV doc pm an cdv ct), osl⟩) (hcd : PySem.W.codeIn K cdv qual = true) (S : FnScope N ps scope)
    (len : ∀ vs H Q E, sp vs H Q E → vs.length = ps.length)
    (hbody : ∀ (A : Around) (outer : List Env) (s : Shared) (H : Hp) (vs : List V) (Q : VK) (E : XK), RoomU k (A.deeper (envOfC qual scope s.heap.objs.size f cdv)) → HandOk A H → sp vs H Q E →
      ∃ t, PSs (cxU P w K mg base N qual scope f cdv A outer s H E) body t ∧ t { nx := fun _ H' => Q .non H', rt := Q } (start N vs) H) :
    FnOkU P w K mg base (k + 1) f (PySem.W.fnOf name qual params body scope dV kV doc pm an cdv ct) ps sp := by
  refine ⟨len, fun A outer s H args us vs Q E hr hh e0 hb r hsp => ?_⟩
  have hl := len _ _ _ _ hsp
  have KX : K.In s.heap := e0.mod.kin.keeps fun b o e => (e0.bs b o e).1
  have lim : s.heap.NoLimit := e0.mod.nolimit.keeps fun b o e => (e0.bs b o e).1
  have hkind : ∀ y ∈ ps.zip us, scope.names.lookup y.1 = some .local ∨ (scope.names.lookup y.1 = some .cell ∧ ((cellsFrom (s.heap.objs.size + 1) scope.names []).lookup y.1).isSome = true) := fun ⟨n, v⟩ hy => by
    rcases S.par n (List.of_mem_zip hy).1 with q | q
    · exact .inl q
    · exact .inr ⟨q, PySem.W.cellsFrom_some _ _ _ (.inl q)⟩
  refine codeAny_call_function (by have := hr.dp; omega) (KX _ _ lk) rfl S.co S.gen rfl (PySem.W.codeRec_of KX hcd) (hb _ _ _ _ ?_)
  refine wpAny_newFunctionEnv_cells S.kind hkind fun env he s1 x => ?_
  subst he
  refine ⟨lim.keeps x.toInCall.keep, codeAny_func ?_⟩
  obtain ⟨t, ht, hq⟩ := hbody A outer s H vs Q E (hr.deeper _) hh hsp
  have e1 : Env0 P w K mg base { A with handled := none } outer s H := ⟨e0.frames, e0.mod, e0.bs, e0.bsz, e0.funs, e0.frf, e0.hok, e0.bare⟩
  have I0 : Inv (cxOf CX0 P w K mg base N qual scope f cdv { A with handled := none } outer s H E) [] (start N vs) H s1 := inv_start S rfl e1 hl r x
  have I : Inv (cxU P w K mg base N qual scope f cdv A outer s H E) [] (start N vs) H s1 := I0.hush (by first | rfl | (show (A.deeper _).frames = ({ A with handled := none }.deeper _).frames; rfl))
  refine wpAny_mono (ht [] s1 (start N vs) H _ I hq) (fun fl s' hs => ?_) fun e s' hs => False.elim hs
  have fin : ∀ {σ' : St} {H' : Hp} {v : V} {u : Value}, Inv (cxU P w K mg base N qual scope f cdv A outer s H E) [] σ' H' s' → RelV v u → Q v H' → CE outer P w H s Q u s' :=
    fun {σ' H' v u} J rv q => ⟨v, H', J.os, J.bare, J.base, J.hok, rv, q⟩
  cases fl with
  | ret u =>
    obtain ⟨v, σ', H', J, rv, q⟩ := hs
    exact fin J rv q
  | next =>
    obtain ⟨σ', H', J, q⟩ := hs
    exact fin (v := V.non) (u := Value.none) J rfl q
  | brk =>
    obtain ⟨σ', H', J, q⟩ := hs
    exact False.elim q
  | cont =>
    obtain ⟨σ', H', J, q⟩ := hs
    exact False.elim q
section
variable {X : Cx} {k : Nat} {f : Addr} {fd : FuncData} {ps : List Str} {sp : Sp}
theorem run_fnU {pins : List (Addr × Obj)} {σ : St} {H : Hp} {s : Shared} {Q Q' : VK} {us : List Value} {vs : List V} (F : FnOkU X.prog X.w X.K X.mg X.base k f fd ps sp) (hr : RoomU k X.A) (hh : HandOk X.A (frzH s.heap H)) (hb : Binds X.K fd ps [])
    (I : Inv X pins σ H s) (r : Vals vs us) (h : sp vs (frzH s.heap H) Q' E0) (hQ : ∀ v H', (∀ b u, HO.data u → Rd H' b u → Rd (thaw H H') b u) → Q' v H' → Q v (thaw H H')) : wpAny (model X.prog X.w) X.A (call (.ref f) us) (EP X pins σ Q) X.xe s := by
  have hl : us.length = ps.length := by rw [← r.length]; exact F.len _ _ _ _ h
  have hb' := hb s us I.kIn (by rw [List.append_nil]; exact hl)
  rw [List.append_nil] at hb'
  refine wpAny_call (codeAny_mono (F.run X.A X.stack s _ ⟨us, []⟩ us vs Q' E0 hr hh I.env0.frz hb' r h) fun r s' hq => ?_)
  cases r with
  | error e => exact False.elim hq
  | ok fl =>
    cases fl with
    | ret u =>
      obtain ⟨v, H', os, bare, un, hok, rv, q⟩ := (show CE X.stack X.prog X.w (frzH s.heap H) s Q' u s' from hq)
      have t : Thw s.heap H H' := ⟨un.tups, un.frzs⟩
      exact ⟨v, thaw H H', I.call' (ch := []) os (un.thaw I.hok) (I.hok.thaw t hok) bare (fun b z => absurd z (by simp)), rv, hQ v H' (fun b u hu r => r.thaw I.hok t hok hu) q⟩
    | next => exact False.elim hq
    | brk => exact False.elim hq
    | cont => exact False.elim hq
end
end L2
namespace DC
open PySem PySem.Spec PyProof.Rows L2
def spU (K : PySem.W.Frag) (sd : SpD) : Sp := fun vs H Q _ => ∃ ds, Dvs K H vs ds ∧ sd ds (fun d => ∀ v H', Dv K H' v d → Q v H')
abbrev BxU (P : Program) (w : World) (K : PySem.W.Frag) (mg : Str → Option Value) (base : Heap) (N : List Str) (qual : Str) (st : Stmt) (f : Addr) (cdv : Value) (A : Around) (outer : List Env) (s : Shared) (H : Hp) (E : XK) : Cx := cxU P w K mg base N qual (defScope st) f cdv A outer s H E
section
variable {P : Program} {w : World} {K : PySem.W.Frag} {mg : Str → Option Value} {base : Heap}
theorem okU {x qual : Str} {st : Stmt} {f : Addr} {fd : FuncData} {N ps : List Str} {k : Nat} {sd : SpD} {t : TSD} (F : FunV K x qual st f fd) (S : FnScope N ps (defScope st)) (len : ∀ ds Q, sd ds Q → ds.length = ps.length)
    (hb : ∀ (cdv : Value) (A : Around) (outer : List Env) (s : Shared) (H : Hp) (E : XK), RoomU k (A.deeper (envOfC qual (defScope st) s.heap.objs.size f cdv)) → HandOk (BxU P w K mg base N qual st f cdv A outer s H E).A (BxU P w K mg base N qual st f cdv A outer s H E).H₀ → PSsd (BxU P w K mg base N qual st f cdv A outer s H E) (defBody st) t)
    (hr : ∀ ds Q, sd ds Q → t { nx := fun _ => Q .non, rt := Q } (startD N ds)) : FnOkU P w K mg base (k + 1) f fd ps (spU K sd) := by
  obtain ⟨oc, od, dV, kV, doc, pm, an, cdv, ct, osl, rfl, lk, hcd⟩ := F.ex
  refine fn_ofU lk hcd S (fun vs H Q E ⟨ds, dvs, h⟩ => by rw [dvs.length]; exact len ds _ h) fun A outer s H vs Q E hroom hh ⟨ds, dvs, h⟩ => ?_
  have B := hb cdv A outer s H E hroom hh
  refine ⟨_, B.ps, startD N ds, start_rel dvs, ?_⟩
  let Q' : D → Prop := fun d => ∀ v H', Dv K H' v d → Q v H'
  exact B.mono { nx := fun _ => Q' .non, rt := Q' } _ _ ⟨fun δ q σ H' s' r => q _ H' .non, fun d q v H' s' dv => q v H' dv, fun _ q => q.elim, fun _ q => q.elim⟩ (hr ds _ h)
structure CalU (P : Program) (w : World) (K : PySem.W.Frag) (mg : Str → Option Value) (base : Heap) (k : Nat) (x : Str) (ps : List Str) (sd : SpD) : Prop where
  ex : ∃ f fd, FnOkU P w K mg base k f fd ps (spU K sd) ∧ mg x = some (.ref f) ∧ PySem.W.keepIn K (.ref f) = true ∧ Binds K fd ps []
  ms : MonoS sd
theorem Df.calU {k : Nat} {x : Str} {st : Stmt} {ps N : List Str} {sd : SpD} {t : TSD} (d : Df K mg x st ps) (S : FnScope N ps (defScope st)) (ms : MonoS sd) (len : ∀ ds Q, sd ds Q → ds.length = ps.length)
    (hb : ∀ (f : Addr) (cdv : Value) (A : Around) (outer : List Env) (s : Shared) (H : Hp) (E : XK), RoomU k (A.deeper (envOfC x (defScope st) s.heap.objs.size f cdv)) → HandOk (BxU P w K mg base N x st f cdv A outer s H E).A (BxU P w K mg base N x st f cdv A outer s H E).H₀ → PSsd (BxU P w K mg base N x st f cdv A outer s H E) (defBody st) t)
    (hr : ∀ ds Q, sd ds Q → t { nx := fun _ => Q .non, rt := Q } (startD N ds)) : CalU P w K mg base (k + 1) x ps sd := by
  obtain ⟨f, fd, F, m, b⟩ := d.ex
  exact ⟨⟨f, fd, okU (fun_v F) S len (hb f) hr, m, F.kp, b⟩, ms⟩
theorem okXF {x qual : Str} {st : Stmt} {f : Addr} {fd : FuncData} {N ps : List Str} {k : Nat} {sx : SpX} {t : XR → TSD} (F : FunV K x qual st f fd) (S : FnScope N ps (defScope st)) (len : ∀ ds Q R, sx ds Q R → ds.length = ps.length)
    (hb : ∀ (cdv : Value) (A : Around) (outer : List Env) (s : Shared) (H : Hp) (E : XK) (R : XR), Room k (A.deeper (envOfC qual (defScope st) s.heap.objs.size f cdv)) → XAcc (BxX P w K mg base N qual st f cdv A outer s H E) (fun _ => R) → PFs (BxX P w K mg base N qual st f cdv A outer s H E) (defBody st) (t R))
    (hr : ∀ ds Q R, sx ds Q R → t R { nx := fun _ => Q .non, rt := Q } (startD N ds)) : FnOk P w K mg base (CXD P w) (k + 1) f fd ps (spX K sx) := by
  obtain ⟨oc, od, dV, kV, doc, pm, an, cdv, ct, osl, rfl, lk, hcd⟩ := F.ex
  refine fn_of lk hcd S (fun vs H Q E ⟨ds, dvs, h⟩ => by rw [dvs.length]; exact len ds _ _ h) fun A outer s H vs Q E hroom ⟨ds, dvs, h⟩ => ?_
  have B := hb cdv A outer s H E (kX K E) hroom acc_X
  refine ⟨_, B.ps, startD N ds, start_rel dvs, ?_⟩
  let Q' : D → Prop := fun d => ∀ v H', Dv K H' v d → Q v H'
  exact B.mono { nx := fun _ => Q' .non, rt := Q' } _ _ ⟨fun δ q σ H' r => q _ H' .non, fun d q v H' dv => q v H' dv, fun _ q => q.elim, fun _ q => q.elim⟩ (hr ds _ _ h)
theorem Df.calXF {k : Nat} {x : Str} {st : Stmt} {ps N : List Str} {sx : SpX} {t : XR → TSD} (d : Df K mg x st ps) (S : FnScope N ps (defScope st)) (ms : MonoX sx) (len : ∀ ds Q R, sx ds Q R → ds.length = ps.length)
    (hb : ∀ (f : Addr) (cdv : Value) (A : Around) (outer : List Env) (s : Shared) (H : Hp) (E : XK) (R : XR), Room k (A.deeper (envOfC x (defScope st) s.heap.objs.size f cdv)) → XAcc (BxX P w K mg base N x st f cdv A outer s H E) (fun _ => R) → PFs (BxX P w K mg base N x st f cdv A outer s H E) (defBody st) (t R))
    (hr : ∀ ds Q R, sx ds Q R → t R { nx := fun _ => Q .non, rt := Q } (startD N ds)) : CalX P w K mg base (k + 1) x ps sx := by
  obtain ⟨f, fd, F, m, b⟩ := d.ex
  exact ⟨⟨f, fd, okXF (fun_v F) S len (hb f) hr, m, F.kp, b⟩, ms⟩
end
section
variable {X : Cx} {e : Expr} {es : List Expr} {t : AD} {pos p : Pos} {x : Str} {j k : Nat} {ps : List Str} {sd : SpD} {ea : Addr}
def vCallU (ea : Addr) (sd : SpD) (t : AD) : ED := fun δ Q => t δ fun ds => (∃ C gs, D.exc ea C gs ∈ ds) ∧ sd ds Q
theorem exc_in {K : PySem.W.Frag} {H : Hp} {C : Addr} {gs : List (Str × D)} : ∀ {vs : List V} {ds : List D}, Dvs K H vs ds → D.exc ea C gs ∈ ds → ∃ dx, Rd H ea (ExcO ea C dx)
  | _, _, .cons dv r, h => by
    rcases List.mem_cons.mp h with h | h
    · subst h
      cases dv with
      | exc h1 _ _ => exact ⟨_, h1⟩
    · exact exc_in r h
theorem hand_frz {P : Program} {w : World} {A : Around} {H : Hp} {h : Heap} {C : Addr} {dx : Option Addr} (hA : A.handled = some (.ref ea)) (ok : HOk P w H h) (r : Rd H ea (ExcO ea C dx)) : HandOk A (frzH h H) := by
  have z := r.frz ok (show HO.data (ExcO ea C dx) from True.intro)
  obtain ⟨⟨oe, vs, e1, _, _, e2, e3⟩, _⟩ := (show ObjOk P w (frzH h H) h ea (ExcO ea C dx) from z.ok ok.frz)
  rcases z with z | ⟨o, z⟩
  · exfalso
    rcases r with r | ⟨o, r⟩
    · rcases frz_cases ok r with ⟨_, q⟩ | ⟨o, _, q⟩
      · rcases q with ⟨_, q⟩ | ⟨_, _, q⟩ | ⟨_, _, q, _⟩ <;> cases q
      · rw [q] at z; cases z
    · rw [frz_frz r] at z; cases z
  · have g := (ok.frz ea _ z).1
    rw [e1] at g
    cases g
    exact .inr ⟨ea, oe, _, vs, hA, z, e2, e3⟩
theorem d_calU (hA : X.A.handled = some (.ref ea)) (c : CalU X.prog X.w X.K X.mg X.base j x ps sd) (hr : RoomU k X.A) (hj : j ≤ k) (hg : Gl X x) (ha : PAd X (e :: es) t) (hdb : (x == ("__debug__" : Str)) = false := by decide)
    (he : starEach (e :: es) X.env = (false, eval e X.env) :: starEach es X.env := by rfl) (hpl : (backTo pos (starEach es X.env)).any (·.1) = false := by rfl) : PD X (.Call (.Name x p) (e :: es) [] pos) (vCallU ea sd t) := by
  obtain ⟨f, fd, F, hm, hk, hb⟩ := c.ex
  refine ⟨fun pins s σ H Q I ⟨δ, r, h⟩ => ?_, fun δ P P' g h => ha.mono _ _ _ (fun ds ⟨q0, q⟩ => ⟨q0, c.ms _ _ _ g q⟩) h⟩
  refine wpAny_Call_Name_kw (ld_glob I hg hm ?_ hdb)
  refine PySem.W.callWith_K (h₀ := X.base) I.ok.mod.kin hk (thn (ha.pa pos pins s σ H (fun vs H1 => Same H H1 ∧ ∃ ds, Dvs X.K H1 vs ds ∧ (∃ C gs, D.exc ea C gs ∈ ds) ∧ sd ds (kD X.K H Q)) I ⟨δ, r, ha.mono _ _ _ (fun ds q vs H1 s1 dv => ⟨s1, ds, dv, q⟩) h⟩) fun us s1 ⟨vs, H1, I1, r1, sm, ds, dv, ⟨C, gs, q0⟩, q⟩ => ⟨I1.kIn, ?_⟩) he hpl
  obtain ⟨dx, rd⟩ := exc_in dv q0
  refine run_fnU (Q' := backX X.K (kD X.K H Q)) F (hr.mono hj) (hand_frz hA I1.hok rd) hb I1 r1 ⟨ds, (dv.rd fun b u hu z => z.frz I1.hok hu), c.ms _ _ _ (fun d q v H' dv => ⟨d, dv, q⟩) q⟩ ?_
  rintro v H' rd ⟨d, dv, q⟩
  exact q v _ (sm.trans (thaw_same _ _)) (dv.rd rd)
end
end DC

set_option maxHeartbeats 1000000
namespace L2
open PySem PySem.Spec PyProof.Rows
section
variable {prog : Program} {w : World} {A : Around} {E : Value → Shared → Prop} {s : Shared}
end
end L2

set_option maxHeartbeats 4000000
namespace L2
open PySem PySem.Spec PyProof.Rows
structure ExcGet (K : PySem.W.Frag) (C : Addr) : Prop where
  ga : PySem.W.findIn K (.ref C) "__getattribute__" = some (some (.builtin "BaseException.__getattribute__"))
  na : PySem.W.findIn K (.ref C) "__getattr__" = some none
  be : PySem.W.mroIn K C (.type "BaseException") = some true
section
variable {prog : Program} {w : World} {A : Around} {E : Value → Shared → Prop} {s : Shared} {K : PySem.W.Frag} {x C : Addr} {ox : Obj} {od : Option Obj} {name : Str} {tk : Tok}
theorem check_ga {Q : Unit → Shared → Prop} {nv : Value} (X : K.In s.heap) (I : PySem.W.InstAt s.heap x ox C od) (g : ExcGet K C) (hq : Q () s) : wpAny (model prog w) A (checkBuiltinCall "BaseException.__getattribute__" ⟨[.ref x, nv], []⟩) Q E s := by
  have hk : builtinKind "BaseException.__getattribute__" = some .slot := by decide +kernel
  have hsplit : splitId "BaseException.__getattribute__" = some ("BaseException", "__getattribute__") := by decide +kernel
  have ha := PySem.F.args_bexc_ga (.ref x) nv
  have L0 := I.type (M := model prog w)
  have L1 := PySem.W.looks_mroIn (M := model prog w) X g.be
  simp only [checkBuiltinCall, hk, hsplit]
  unfold isInstance
  refine wpAny_bind (wpAny_bind (L0.at (L1.at ?_)))
  unfold argsOk at ha
  simp only [Bool.not_true, Bool.false_eq_true, if_false]
  generalize Manifest.signature? "BaseException.__getattribute__" = o at ha ⊢
  cases o with
  | none => exact wpAny_pure hq
  | some sig =>
    have ha' : Bind.checkArgs "BaseException.__getattribute__" sig { pos := [Value.ref x, nv] } = pure () := ha
    show wpAny _ _ (Bind.checkArgs "BaseException.__getattribute__" sig { pos := [Value.ref x, nv] }) _ _ _
    rw [ha']
    exact wpAny_pure hq
theorem own_bind {fin : Fin → Shared → Prop} {g a : Value} (X : K.In s.heap) (I : PySem.W.InstAt s.heap x ox C od) (hf : PySem.W.findObj K C od name = some (.bind g a)) (h : wpAny (model prog w) A (call g [a, .ref x, .ref C]) (fun v s' => fin (.done (.ret v)) s') E s) : wpAny (model prog w) A (Builtin.«object.__getattribute__» ⟨[.ref x, .str name tk], []⟩) fin E s := by
  have L0 := I.type (M := model prog w)
  have L1 := PySem.W.looks_find (M := model prog w) X I hf
  refine wpAny_bind (wpAny_pure (wpAny_bind (wpAny_pure (wpAny_bind (L0.at (wpAny_bind (L1.at ?_)))))))
  show wpAny _ _ (holding [a] (call g [a, .ref x, .ref C]) >>= ret) _ _ _
  exact wpAny_bind (wpAny_holding (wpAny_mono h (fun v s' z => wpAny_pure z) fun _ _ z => z))
theorem by_exc {fill expr : Bool} {Q : Value → Shared → Prop} (X : K.In s.heap) (I : PySem.W.InstAt s.heap x ox C od) (g : ExcGet K C)
    (h : wpAny (model prog w) A.in1 (Builtin.«object.__getattribute__» ⟨[.ref x, .str name tk], []⟩) (fun fin s' => match fin with | .done (.ret v) => wpAny (model prog w) A (handedOut v) Q E s' | _ => False) (fun _ _ => False) s) :
    wpAny (model prog w) A (getAttrBy (.ref x) (.str name tk) fill expr) Q E s := by
  have L0 := I.type (M := model prog w)
  have L1 := PySem.W.looks_findIn (M := model prog w) X g.ga
  have L2 := PySem.W.looks_findIn (M := model prog w) X g.na
  have f3 := PySem.F.attr_ValueError.ga.bind (.ref x)
  have hx0 : (expr && onTheHeap (Value.builtin "BaseException.__getattribute__")) = false := by cases expr <;> rfl
  have hx2 : (Value.builtin "BaseException.__getattribute__" == Value.builtin "object.__getattribute__") = false := by decide +kernel
  have hx1 : (onTheHeap (Value.ref C) && Value.builtin "BaseException.__getattribute__" == Value.builtin "object.__getattribute__") = false := by rw [hx2]; rfl
  unfold getAttrBy
  refine wpAny_holding (wpAny_bind (L0.at (wpAny_bind (L1.at ?_))))
  simp only [hx1]
  show wpAny _ _ (getAttrByItsOwn (.ref x) (.str name tk) (.ref C) (.builtin "BaseException.__getattribute__") fill expr) _ _ _
  unfold getAttrByItsOwn hookBefore
  refine wpAny_bind (L2.at (wpAny_bind (wpAny_attempt (wpAny_holding ?_))))
  unfold callGetattribute
  rw [hx0]
  show wpAny _ _ (boundAndCalled _ _ _) _ _ _
  unfold boundAndCalled
  rw [f3]
  refine wpAny_bind (wpAny_pure (wpAny_call (codeAny_call_builtin PySem.F.attr_ValueError.ga.plain PySem.F.entry_bexc_ga (check_ga X I g (wpAny_mono h (fun fin s' z => ?_) fun _ _ z => z.elim)))))
  rcases fin with (_ | _ | _ | _) | _ <;> first | exact z | exact z.elim
theorem cls_exc {Q : Option Value → Shared → Prop} (X : K.In s.heap) (I : PySem.W.InstAt s.heap x ox C od) (g : ExcGet K C) (hf : PySem.W.findObj K C od "__class__" = some (.bind (.builtin "getset_descriptor.__get__") (.builtin "object.__class__"))) (hm : PySem.W.mroIn K C (.type "object") = some true) (h : Q (some (.ref C)) { s with toks := s.toks + 1 }) : wpAny (model prog w) A (getAttr? (.ref x) "__class__") Q E s := by
  obtain ⟨hp, gg, d, t, os⟩ := s
  unfold getAttr? getAttrBy?
  refine wpAny_bind (wpAny_mkText (wpAny_bind (wpAny_attempt (by_exc (s := ⟨hp, gg, d, t + 1, os⟩) X I g (own_bind (s := ⟨hp, gg, d, t + 1, os⟩) X I hf (wpAny_call (PySem.W.class_get (s := ⟨hp, gg, d, t + 1, os⟩) (ox := ox) (od := od) X I hm ?_)))))))
  exact PySem.W.handed_on rfl (wpAny_pure h)
end
end L2

set_option maxHeartbeats 1000000
namespace L2
open PySem PySem.Spec PyProof.Rows
structure ExcTy (K : PySem.W.Frag) (C : Addr) : Prop where
  pg : ExcGet K C
  cl : (PySem.W.clsIn K C).isSome = true
  ha : PySem.W.findIn K (.ref C) "__class__" = some (some (.builtin "object.__class__"))
  hn : PySem.W.specialIn K (.builtin "object.__class__") "__get__" = some (some (.builtin "getset_descriptor.__get__"))
  htk : PySem.W.takesIn K (.builtin "object.__class__") = some true
  hm : PySem.W.mroIn K C (.type "object") = some true
theorem ExcTy.look {K : PySem.W.Frag} {C : Addr} (t : ExcTy K C) : ∃ c d cd sl, K.lookup C = some ⟨c, d, .cls cd, sl⟩ := by
  obtain ⟨cd, a⟩ := Option.isSome_iff_exists.mp t.cl
  unfold PySem.W.clsIn at a
  split at a
  · exact ⟨_, _, _, _, by assumption⟩
  · cases a
theorem kitx_exc {K : PySem.W.Frag} {x C : Addr} {ox : Obj} {od : Option Obj} (t : ExcTy K C) : PySem.W.KitX K (.ref x) (.ref C) (fun h => PySem.W.InstAt h x ox C od) where
  ty := fun _ _ _ I => I.type
  it := fun _ _ X _ A' Q' E' s' k q => by
    obtain ⟨c, d, cd, sl, ho⟩ := t.look
    unfold isType loadHead; exact wpAny_bind (wpAny_loadPart (k _ _ (X _ _ ho)) (wpAny_pure q))
  ne := fun h tp dd its n sl X htp => by
    obtain ⟨c, d, cd, sl', ho⟩ := t.look
    refine Bool.eq_false_iff.mpr fun q => ?_
    rw [← Value.ref.inj (beq_iff_eq.mp q), X _ _ ho] at htp
    cases htp
  ca := fun {prog w A E Q s} X I k => by
    obtain ⟨cd, hcd⟩ := Option.isSome_iff_exists.mp t.cl
    have hf : PySem.W.findObj K C od "__class__" = some (.bind (.builtin "getset_descriptor.__get__") (.builtin "object.__class__")) := by
      unfold PySem.W.findObj; rw [hcd, Option.bind_some, t.ha, Option.bind_some]; simp [t.hn, t.htk]
    exact cls_exc X I t.pg hf t.hm k
theorem exc_inst {P : Program} {w : World} {H : Hp} {h : Heap} {a C : Addr} {dx : Option Addr} {fs : List (Str × V)} (ok : HOk P w H h) (r : Rd H a (DC.ExcO a C dx)) (xd : DC.XDict H dx fs) : ∃ ox od, PySem.W.InstAt h a ox C od := by
  obtain ⟨⟨oe, vs, e1, hc, hdx, hd, _⟩, _⟩ := (show ObjOk P w H h a (DC.ExcO a C dx) from r.ok ok)
  cases dx with
  | none => exact ⟨oe, none, e1, hc, by unfold PySem.W.notCls; rw [hd], by rw [hdx]; exact True.intro⟩
  | some d =>
    obtain ⟨⟨mA, ⟨od, es, ep, e, c⟩, rr⟩, _⟩ := (show ObjOk P w H h d (DC.XdO d fs) from Rd.ok xd ok)
    exact ⟨oe, some od, e1, hc, by unfold PySem.W.notCls; rw [hd], by rw [hdx]; exact e⟩
section
variable {X : Cx}
end
end L2
namespace DC
open PySem PySem.Spec PyProof.Rows L2
section
variable {X : Cx} {o e : Expr} {es : List Expr} {te to : ED} {t : AD} {pos p p2 apos cpos : Pos}
theorem call_isiE {c : Value} {vc : V} (rc : ∀ u, RelV vc u → u = c) : CallR X (.builtin "isinstance") (fun xs H Q => ∃ x a C gs b, xs = [x, vc] ∧ Dv X.K H x (.exc a C gs) ∧ ExcTy X.K C ∧ PySem.W.kitOne X.K (.ref C) c = some b ∧ Q (.bl b) H) := by
  intro pins s σ H xs us Q I r h
  obtain ⟨x, a, C, gs, b, rfl, dv, ty, e, q⟩ := h
  obtain ⟨u, w', rfl, r1, r2⟩ := vals2 r
  obtain rfl := rc w' r2
  cases dv with
  | exc h1 h2 h3 =>
    cases (show u = Value.ref a from r1)
    obtain ⟨ox, od, J⟩ := exc_inst I.hok h1 h2
    exact PySem.W.kia_one (kitx_exc (ox := ox) (od := od) ty) I.kIn J e (fun z => nomatch z) fun tk => ⟨.bl b, H, I.tok _, rfl, q⟩
def vIsiE (K : PySem.W.Frag) (c : Value) (te : ED) : ED := fun δ Q => te δ fun d => ∃ a C gs b, d = .exc a C gs ∧ ExcTy K C ∧ PySem.W.kitOne K (.ref C) c = some b ∧ Q (.bl b)
theorem d_isiE_of {c : Value} {vc : V} (he : PD X e te) {ec : Expr} (hp : PE X (.Call (.Name "isinstance" p) [e, ec] [] pos) (tCB (fun xs H Q => ∃ x a C gs b, xs = [x, vc] ∧ Dv X.K H x (.exc a C gs) ∧ ExcTy X.K C ∧ PySem.W.kitOne X.K (.ref C) c = some b ∧ Q (.bl b) H) (tCons (oE X.K te) (tCons (tC vc) tNil)))) :
    PD X (.Call (.Name "isinstance" p) [e, ec] [] pos) (vIsiE X.K c te) :=
  ⟨hp.imp fun σ H Q ⟨δ, r, h⟩ => ⟨δ, r, he.mono _ _ _ (fun d ⟨a, C, gs, b, ed, ty, ek, k⟩ v H1 s1 dv => ⟨v, a, C, gs, b, rfl, ed ▸ dv, ty, ek, k _ H1 s1 (.bl _)⟩) h⟩, fun δ P P' g h => he.mono _ _ _ (fun d ⟨a, C, gs, b, ed, ty, ek, k⟩ => ⟨a, C, gs, b, ed, ty, ek, g _ k⟩) h⟩
theorem d_isiEC (K : PySem.W.Frag) (hK : X.K = K) {C : Addr} {x : Str} (he : PD X e te) (hg : Gl X "isinstance") (hm : X.mg "isinstance" = none) (hg2 : Gl X x) (hm2 : X.mg x = some (.ref C)) (hd : (x == ("__debug__" : Str)) = false := by decide)
    (hs : starEach [e, .Name x p2] X.env = (false, eval e X.env) :: starEach [.Name x p2] X.env := by rfl) : PD X (.Call (.Name "isinstance" p) [e, .Name x p2] [] pos) (vIsiE K (.ref C) te) := by
  subst hK
  exact d_isiE_of (vc := .ref C) he (pe_callB (call_isiE fun u z => z) hg hm boot_isinstance (pa_cons he.pe (pa_cons (pe_glob (v := .ref C) hg2 hm2 rfl hd) pa_nil) hs) (he := hs))
theorem d_isiET (K : PySem.W.Frag) (hK : X.K = K) {T : String} {x : Str} (he : PD X e te) (hg : Gl X "isinstance") (hm : X.mg "isinstance" = none) (hg2 : Gl X x) (hm2 : X.mg x = none) (hv2 : bootBuiltins x = some (.type T)) (hn : x ≠ "__name__" := by decide) (hd : (x == ("__debug__" : Str)) = false := by decide)
    (hs : starEach [e, .Name x p2] X.env = (false, eval e X.env) :: starEach [.Name x p2] X.env := by rfl) : PD X (.Call (.Name "isinstance" p) [e, .Name x p2] [] pos) (vIsiE K (.type T) te) := by
  subst hK
  exact d_isiE_of (vc := .ty T) he (pe_callB (call_isiE fun u z => z) hg hm boot_isinstance (pa_cons he.pe (pa_cons (pe_bltn (v := .ty T) hg2 hm2 hv2 rfl hn hd) pa_nil) hs) (he := hs))
end
end DC

set_option maxHeartbeats 1000000
namespace L2
open PySem PySem.Spec PyProof.Rows
open Builtin Builtin.ObjectAttr
section
variable {prog : Program} {w : World} {A : Around} {E : Value → Shared → Prop} {s : Shared} {K : PySem.W.Frag} {x C : Addr} {R : Result → Shared → Prop} {name : Str} {v : Value} {o : Obj}
end
end L2

set_option maxHeartbeats 1000000
namespace L2
open PySem PySem.Spec PyProof.Rows
open DC (ExcO XdO)
section
variable {X : Cx} {pins : List (Addr × Obj)} {σ : St} {H : Hp} {s : Shared} {a C d : Addr} {f : Str} {v : V} {u : Value} {Q : Unit → Shared → Prop} {E : Value → Shared → Prop} {A : Around} {fs : List (Str × V)} {p : Array Value → Prop}
end
end L2

set_option maxHeartbeats 1000000
namespace L2
open PySem PySem.Spec PyProof.Rows
open DC (ExcO XdO)
section
variable {prog : Program} {w : World} {A : Around} {E : Value → Shared → Prop} {h : Heap} {g : Array GenState} {d : Drawn} {t : Nat} {os : OsState}
variable {nm q : Str} {C N : Addr} {bs bm : List Value} {hdct : Bool} {sn : List Str} {sub : List Value} {ab : Bool} {col : Option Bool} {dd : Option Addr} {k0 k1 k2 k3 k5 : Option Value}
end
end L2

set_option maxHeartbeats 1000000
namespace DC
open PySem PySem.Spec PyProof.Rows L2
section
variable {X : Cx} {x p f : Str} {j : Nat} {pa pv pos pos' : Pos}
end
section
variable {P : Program} {w : World} {K : PySem.W.Frag} {mg : Str → Option Value} {base : Heap}
end
section
variable {X : Cx} {e : Expr} {es : List Expr} {t : AD} {pos p : Pos} {x : Str} {j k : Nat} {C : Addr} {fl : List Str}
end
end DC

set_option maxHeartbeats 1000000
namespace DC
open PySem PySem.Spec PyProof.Rows L2
section
variable {X : Cx} {c e : Expr} {es : List Expr} {body : List Stmt} {uc : TD} {te : ED} {tb : TSD} {g : TGD} {pos tp : Pos} {k : Nat}
end
theorem roomU_units {k : Nat} {A : Around} (r : RoomU k A) : A.units + 64 < cLine := by have := r.un; omega
end DC

set_option maxHeartbeats 4000000
namespace DC
open PySem PySem.Spec PyProof.Rows L2
section
variable {X : Cx} {a b : Expr} {rest : List Expr} {pos : Pos} {ta tb : TE}
end
section
variable {X : Cx} {a b : Expr} {rest : List Expr} {pos : Pos} {ta tb : ED}
end
end DC

set_option maxHeartbeats 4000000
namespace L2
open PySem PySem.Spec PyProof.Rows
section
variable {X : Cx} {pins : List (Addr × Obj)} {σ : St} {H : Hp} {s : Shared} {a C d : Addr} {t : Heap → Prop}
end
section
variable {prog : Program} {w : World} {A : Around} {E : Value → Shared → Prop} {s : Shared} {K : PySem.W.Frag} {env : Env}
end
end L2
namespace DC
open PySem PySem.Spec PyProof.Rows L2
section
variable {X : Cx} {e : Expr} {es : List Expr} {t : AD} {pos cpos p : Pos} {x : Str} {j k : Nat} {C : Addr} {fl : List Str} {xk : SD → XR}
end
end DC

set_option maxHeartbeats 4000000
namespace L2
open PySem PySem.Spec PyProof.Rows
section
variable {X : Cx} {e1 : Expr} {ta : TA} {p pos tp : Pos} {elts : List Expr} {c : Nat}
end
end L2
namespace DC
open PySem PySem.Spec PyProof.Rows L2
section
variable {X : Cx} {e1 : Expr} {ta : AD} {p pos tp : Pos} {elts : List Expr} {c : Nat}
end
end DC

set_option maxHeartbeats 4000000
namespace DC
open PySem PySem.Spec PyProof.Rows L2
section
variable {X : Cx} {scope : Scope} {cl : List (Str × Addr)} {x y : Str} {cn : List Str} {caps : List Nat} {elt iter : Expr} {ifs : List Expr} {ti : AD} {tt : TD} {te : ED} {pos px py tp : Pos} {c : Nat} {R : XR}
end
end DC

set_option maxHeartbeats 4000000
namespace DC
open PySem PySem.Spec PyProof.Rows L2
def keyD : D → Option Key
  | .int i => some (.inl i)
  | .str x => some (.inr x)
  | _ => none
def getK (kvs : List (Key × D)) (k : Key) : Option D := (kvs.find? fun kv => decide (kv.1 = k)).map (·.2)
def vDGet (td ty : ED) : ED := fun δ Q => td δ fun d => ty δ fun y => ∃ kvs k r, d = .dK kvs ∧ keyD y = some k ∧ getK kvs k = some r ∧ Q r
theorem Dvk.look {K : PySem.W.Frag} {H : Hp} {k : Key} {r : D} : ∀ {vs : List (Key × V)} {ds : List (Key × D)}, Dvk K H vs ds → getK ds k = some r → ∃ v, valV vs k = some v ∧ Dv K H v r
  | _, _, .nil, e => by cases e
  | _, _, .cons (k := k') (x := x) (d := d) (xs := xs) (ds := ds) h t, e => by
    unfold getK at e
    unfold valV
    rw [List.find?_cons] at e ⊢
    by_cases q : k' = k
    · simp only [q, decide_true] at e ⊢
      cases e
      exact ⟨x, rfl, h⟩
    · simp only [q, decide_false] at e ⊢
      exact Dvk.look t e
section
variable {X : Cx} {o i : Expr} {pos : Pos} {td ty : ED}
theorem d_dget (hu : X.A.units + 64 < cLine) (ho : PD X o td) (hi : PD X i ty) (hs : NoSl i) : PD X (.Subscript o i pos) (vDGet td ty) := by
  refine ⟨(pe_dget (by omega) ho.pe hi.pe hs).imp fun σ H Q ⟨δ, r, h⟩ => ⟨δ, r, ho.mono _ _ _ (fun d hd v H1 s1 dv => ⟨δ, r.same s1, hi.mono _ _ _ (fun y hy u H2 s2 du => ?_) hd⟩) h⟩, fun δ P P' g h => ho.mono _ _ _ (fun d h' => hi.mono _ _ _ (fun e ⟨kvs, k, z, h1, h2, h3, h4⟩ => ⟨kvs, k, z, h1, h2, h3, g _ h4⟩) h') h⟩
  obtain ⟨kvs, k, z, e1, e2, e3, q⟩ := hy
  subst e1
  cases dv with
  | dK g1 g2 =>
    obtain ⟨v, ev, dv'⟩ := (g2.same s2).look e3
    refine ⟨_, v, rfl, .inl ⟨_, k, rd_same s2 g1, ?_, ev.symm⟩, q v H2 (s1.trans s2) dv'⟩
    cases du <;> cases e2 <;> rfl
end
end DC

set_option maxHeartbeats 4000000
namespace DC
open PySem PySem.Spec PyProof.Rows L2
section
variable {X : Cx} {rest : List Stmt} {st : Stmt} {t : TMD}
def mGive (t : TMD) : TMD := fun E δ μ => t E (viewS μ δ) []
theorem give_of (m : MonoM t) {D : Ends} {σ : L2.St} {H : Hp} (h : oM X.K (mGive t) D σ H) : oM X.K t D σ H := by
  obtain ⟨δ, μ, L, r, g, h⟩ := h
  exact ⟨viewS μ δ, [], [], by rw [hidL_nil]; exact g.viewS r, StM.nil, m _ _ _ _ (endM_on (by rw [hidL_nil]; exact hidL_same)) h⟩
theorem mss_give (h : PMs X rest t) : PMs X rest (mGive t) := ⟨PSs.imp h.ps fun D σ H q => give_of h.mono q, fun E E' δ μ l q => h.mono _ _ _ _ l q⟩
end
section
variable {K : PySem.W.Frag} {H : Hp} {μ : Mu} {L : List Addr} {a : Addr} {vs ys : List (Key × V)} {ds : List (Key × D)}
theorem StM.putK (g : StM K H μ L) (ha : a ∈ L) (hv : H a = some (.dK vs)) (d : Dvk K (hidL H L) ys ds) : StM K (upd H a (.dK ys)) (putM a (.dK ds) μ) L := by
  have e : hidL (upd H a (.dK ys)) L = hidL H L := hidL_upd ha
  refine ⟨fun p hp => ?_, by rw [putM_keys]; exact g.nod, fun b hb => ?_, fun b hb => ?_⟩
  · obtain ⟨q, hq, rfl⟩ := List.mem_map.mp hp
    by_cases hqa : q.1 = a
    · rw [if_pos hqa]
      exact ⟨ha, ys, upd_same, by rw [e]; exact d⟩
    · rw [if_neg hqa]
      obtain ⟨h1, h2⟩ := g.at_ q hq
      refine ⟨h1, ?_⟩
      obtain ⟨b, m⟩ := q
      cases m with
      | lst ds => obtain ⟨ws, h, d⟩ := h2; exact ⟨ws, by rw [upd_ne hqa]; exact h, by rw [e]; exact d⟩
      | ins C gs => obtain ⟨dx, fs, h, h2, h3, d⟩ := h2; exact ⟨dx, fs, by rw [upd_ne hqa]; exact h, by rw [upd_ne (fun z => by rw [z, hv] at h2; cases h2)]; exact h2, h3, by rw [e]; exact d⟩
      | dK kvs => obtain ⟨ws, h, d⟩ := h2; exact ⟨ws, by rw [upd_ne hqa]; exact h, by rw [e]; exact d⟩
  · by_cases hba : b = a
    · rw [hba]; exact .dK ys upd_same
    · have w := g.hid b hb
      cases w with
      | lst xs h => exact .lst xs (by rw [upd_ne hba]; exact h)
      | dK xs h => exact .dK xs (by rw [upd_ne hba]; exact h)
      | ins C dx fs h hd => exact .ins C dx fs (by rw [upd_ne hba]; exact h) hd
      | own C c fs h hc hi => exact .own C c fs (by rw [upd_ne hba]; exact h) hc (by rw [upd_ne (fun z => by rw [z, hv] at hi; cases hi)]; exact hi)
  · rcases g.cov b hb with ⟨m, h⟩ | ⟨c, h⟩
    · by_cases hba : b = a
      · exact .inl ⟨.dK ds, List.mem_map.mpr ⟨_, h, by rw [if_pos hba, hba]⟩⟩
      · exact .inl ⟨m, List.mem_map.mpr ⟨_, h, if_neg hba⟩⟩
    · exact .inr ⟨c, by rw [upd_ne (fun z => by rw [z, hv] at h; cases h)]; exact h⟩
theorem StM.newK (hn : H a = none) (d : Dvk K H ys ds) : StM K (upd H a (.dK ys)) [(a, .dK ds)] [a] ∧ hidL (upd H a (.dK ys)) [a] = H := by
  have e : hidL (upd H a (.dK ys)) [a] = H := by
    funext b
    by_cases hb : b = a
    · rw [hb, hidL_in List.mem_cons_self, hn]
    · rw [hidL_out (fun z => hb (List.mem_singleton.mp z)), upd_ne hb]
  refine ⟨⟨fun p hp => ?_, ?_, fun b hb => ?_, fun b hb => ?_⟩, e⟩
  · rw [List.mem_singleton.mp hp]
    exact ⟨List.mem_cons_self, ys, upd_same, by rw [e]; exact d⟩
  · rw [List.map_cons, List.map_nil]; exact List.nodup_cons.mpr ⟨(fun h => nomatch h), List.nodup_nil⟩
  · rw [List.mem_singleton.mp hb]; exact .dK ys upd_same
  · rw [List.mem_singleton.mp hb]; exact .inl ⟨_, List.mem_cons_self⟩
end
def putKD (kvs : List (Key × D)) (k : Key) (v : D) : List (Key × D) :=
  if (kvs.any fun kv => decide (kv.1 = k)) = true then kvs.map (fun kv => if kv.1 = k then (kv.1, v) else kv) else kvs ++ [(k, v)]
section
variable {K : PySem.W.Frag} {H : Hp}
theorem Dvk.length : ∀ {vs : List (Key × V)} {ds : List (Key × D)}, Dvk K H vs ds → vs.length = ds.length
  | _, _, .nil => rfl
  | _, _, .cons _ h => congrArg (· + 1) (Dvk.length h)
theorem Dvk.any {k : Key} : ∀ {vs : List (Key × V)} {ds : List (Key × D)}, Dvk K H vs ds → (vs.any fun kv => decide (kv.1 = k)) = ds.any fun kv => decide (kv.1 = k)
  | _, _, .nil => rfl
  | _, _, .cons _ h => by rw [List.any_cons, List.any_cons, Dvk.any h]
theorem Dvk.snoc {k : Key} {v : V} {d : D} (hv : Dv K H v d) : ∀ {vs : List (Key × V)} {ds : List (Key × D)}, Dvk K H vs ds → Dvk K H (vs ++ [(k, v)]) (ds ++ [(k, d)])
  | _, _, .nil => .cons hv .nil
  | _, _, .cons h r => .cons h (Dvk.snoc hv r)
theorem Dvk.mapPut {k : Key} {v : V} {d : D} (hv : Dv K H v d) : ∀ {vs : List (Key × V)} {ds : List (Key × D)}, Dvk K H vs ds → Dvk K H (vs.map fun kv => if kv.1 = k then (kv.1, v) else kv) (ds.map fun kv => if kv.1 = k then (kv.1, d) else kv)
  | _, _, .nil => .nil
  | _, _, .cons (k := j) (x := x) (d := y) h r => by
    rw [List.map_cons, List.map_cons]
    by_cases e : j = k
    · rw [if_pos (show ((j, x) : Key × V).1 = k from e), if_pos (show ((j, y) : Key × D).1 = k from e)]
      exact .cons hv (Dvk.mapPut hv r)
    · rw [if_neg (show ¬ ((j, x) : Key × V).1 = k from e), if_neg (show ¬ ((j, y) : Key × D).1 = k from e)]
      exact .cons h (Dvk.mapPut hv r)
theorem Dvk.put {k : Key} {v : V} {d : D} (hv : Dv K H v d) {vs : List (Key × V)} {ds : List (Key × D)} (h : Dvk K H vs ds) : Dvk K H (putK vs k v) (putKD ds k d) := by
  unfold putK putKD
  rw [h.any]
  split
  · exact h.mapPut hv
  · exact h.snoc hv
theorem key_kV {y : V} {d : D} {k : Key} (h : Dv K H y d) (e : keyD d = some k) : y = kV k := by cases h <;> cases e <;> rfl
end
section
variable {X : Cx} {e ke : Expr} {te tk : ED} {i : Nat} {x : Str} {p pos pos' : Pos}
def fDict0 : EF := fun _ Q => ∀ a, Q (.adr a) [(a, .dK [])]
theorem f_dict0 : PF X (.Dict [] [] pos) fDict0 := by
  refine ⟨pe_dnewK.imp fun σ H Q ⟨δ, r, q⟩ a hn => ?_, fun δ P P' g q a => g _ _ (q a)⟩
  obtain ⟨g2, e2⟩ := StM.newK (K := X.K) (ds := []) hn .nil
  exact q a (.ref a) _ [a] (by rw [e2]; exact Same.refl _) g2 (.adr a)
def mDSet (i : Nat) (tk te : ED) : TMD := fun E δ μ => te δ fun d => ∃ a kvs, δ[i]? = some (some (.adr a)) ∧ μ.lookup a = some (.dK kvs) ∧ kvs.length < sizeLine ∧ tk δ fun y => ∃ k, keyD y = some k ∧ E.nx δ (putM a (.dK (putKD kvs k d)) μ)
theorem ms_dset (hu : X.A.units + 64 < cLine) (hi : X.N[i]? = some x) (hv : Vis X.env.scope x) (hk : PD X ke tk) (he : PD X e te) (hd : (x == ("__debug__" : Str)) = false := by decide) (hcd : (x == ("__classdict__" : Str)) = false := by decide)
    (hs : swapsWith e (some (.Subscript (.Name x p) ke pos')) pos.line X.env = pure false := by rfl) : PMd X (.Assign [.Subscript (.Name x p) ke pos'] e pos) (mDSet i tk te) := by
  refine ⟨PS.imp (ps_dput (by omega) (pe_var hi hv hd hcd) (pe_frM hk.pe) (pe_frM he.pe) hs) fun D σ H ⟨δ, μ, L, r, g, q⟩ => ⟨L, g.hid, δ, r, he.mono _ _ _ (fun d ⟨a, kvs, k1, k2, k3, q⟩ v H1 s1 dv z => ?_) q⟩,
    fun E E' δ μ l q => he.mono _ _ _ (fun d ⟨a, kvs, k1, k2, k3, q⟩ => ⟨a, kvs, k1, k2, k3, hk.mono _ _ _ (fun y ⟨k, e1, q⟩ => ⟨k, e1, l.nx _ _ q⟩) q⟩) q⟩
  have e1 : hidL (showL H1 H L) L = H1 := hidL_showL z
  have g1 : StM X.K (showL H1 H L) μ L := g.show z s1
  have r1 : RelS X.K (hidL (showL H1 H L) L) σ δ := by rw [e1]; exact r.same s1
  obtain ⟨w, hv1, dvw⟩ := r.get i _ k1
  cases dvw
  refine ⟨_, hv1, L, g1.hid, δ, r1, hk.mono _ _ _ (fun y ⟨k, ek, q⟩ u H2 s2 du z2 => ?_) q⟩
  have e2 : hidL (showL H2 (showL H1 H L) L) L = H2 := hidL_showL z2
  have g2 : StM X.K (showL H2 (showL H1 H L) L) μ L := g1.show z2 s2
  obtain ⟨haL, ws, hH, dvk⟩ := g2.at_ _ (mem_of_lookup k2)
  rw [e1] at s2
  have dk2 : Dvk X.K H2 ws kvs := by rw [e2] at dvk; exact dvk
  rw [key_kV du ek]
  refine ⟨a, _, rfl, DPut.k hH (by rw [dk2.length]; exact k3), ?_⟩
  have e3 : hidL (upd (showL H2 (showL H1 H L) L) a (.dK (L2.putK ws k v))) L = H2 := by rw [hidL_upd haL, e2]
  exact q σ _ L (by rw [e3]; exact s1.trans s2) (by rw [e3]; exact r.same (s1.trans s2)) (g2.putK haL hH (by rw [e2]; exact dk2.put (dv.same s2)))
end
end DC

set_option maxHeartbeats 4000000
namespace DC
open PySem PySem.Spec PyProof.Rows L2
section
variable {X : Cx} {scope : Scope} {cl : List (Str × Addr)} {x : Str} {cn : List Str} {caps : List Nat} {elt tg iter : Expr} {ifs : List Expr} {ti : AD} {tt : TD} {te : ED} {pos : Pos}
end
section
variable {X : Cx} {e ke : Expr} {te tk : ED} {i : Nat} {x : Str} {p pos pos' : Pos}
end
def sdTuple : SpD := fun ds Q => ∃ xs, (ds = [.lst xs] ∨ ds = [.tup xs]) ∧ Q (.tup xs)
theorem m_tuple : MonoS sdTuple := fun ds P P' g ⟨xs, e, q⟩ => ⟨xs, e, g _ q⟩
theorem does_tuple {K : PySem.W.Frag} : DoesB K (fun xs H Q => ∃ p ys, xs = [.ref p] ∧ ((SqL K H p ys ∧ ∀ l, H l = none → Q (.ref l) (upd H l (.tup ys))) ∨ (SqT K H p ys ∧ Q (.ref p) H))) sdTuple := by
  intro H vs ds Q dvs ⟨xs, e, q⟩
  rcases e with e | e
  · subst e
    cases dvs with
    | cons dv r =>
      cases r
      cases dv with
      | lst h1 h2 => exact ⟨_, _, rfl, .inl ⟨h1, fun l hl => q _ _ (same_upd hl) (.tup (SqT.of upd_same) (h2.same (same_upd hl)))⟩⟩
  · subst e
    cases dvs with
    | cons dv r =>
      cases r
      cases dv with
      | tup h1 h2 => exact ⟨_, _, rfl, .inr ⟨h1, q _ H (Same.refl _) (.tup h1 h2)⟩⟩
section
variable {X : Cx} {o e : Expr} {es : List Expr} {t : AD} {to te : ED} {pos p p1 p2 tp apos cpos : Pos}
theorem d_tuple_of (hg : Gl X "tuple") (hm : X.mg "tuple" = none) (ha : PAd X (e :: es) t) (h1 : starEach (e :: es) X.env = (false, eval e X.env) :: starEach es X.env := by rfl) (h2 : (backTo pos (starEach es X.env)).any (·.1) = false := by rfl) : PD X (.Call (.Name "tuple" p) (e :: es) [] pos) (vB sdTuple t) := d_cb (pe_callTy call_tuple_of hg hm boot_tuple ha.pa (he := h1) (hpl := h2)) ha.mono does_tuple m_tuple
end
section
variable {X : Cx} {a b : Expr} {ta tb : ED} {pos : Pos} {k : Nat}
end
end DC

set_option maxHeartbeats 4000000
namespace L2
open PySem PySem.Spec PyProof.Rows
open AutoSeq1 (wpAny_loadPart')
section
variable {prog : Program} {w : World} {A : Around} {E : Value → Shared → Prop} {s : Shared}
end
section
variable {X : Cx} {e1 : Expr} {ta : TA} {p pos tp : Pos} {elts : List Expr} {c : Nat}
end
end L2
namespace DC
open PySem PySem.Spec PyProof.Rows L2
section
variable {X : Cx} {e1 : Expr} {ta : AD} {p pos tp : Pos} {elts : List Expr} {c : Nat}
end
end DC

set_option maxHeartbeats 4000000
namespace DC
open PySem PySem.Spec PyProof.Rows L2
section
variable {P : Program} {w : World} {K : PySem.W.Frag} {mg : Str → Option Value} {base : Heap}
end
section
variable {X : Cx} {scope : Scope} {cl : List (Str × Addr)} {x : Str} {cn : List Str} {caps : List Nat} {elt tg iter : Expr} {ifs : List Expr} {ti : AD} {tt : TD} {te : ED} {pos : Pos}
end
end DC

set_option maxHeartbeats 4000000
namespace DC
open PySem PySem.Spec PyProof.Rows L2
section
variable {X : Cx} {e : Expr} {te : ED} {p p2 pos : Pos}
end
section
variable {X : Cx} {a b : Expr} {pos : Pos} {ta tb : ED}
end
end DC

set_option maxHeartbeats 4000000
namespace DC
open PySem PySem.Spec PyProof.Rows L2
section
variable {X : Cx} {o e : Expr} {es : List Expr} {t : AD} {to te : ED} {pos p p1 p2 tp apos cpos : Pos} {i : Nat} {x : Str}
end
end DC

set_option maxHeartbeats 4000000
namespace L2
open PySem PySem.Spec PyProof.Rows
section
variable {X : Cx}
def repS (z : Str) (k : Nat) : Str := ⟨(List.replicate k z.cps).foldl (· ++ ·) #[]⟩
def mulS (z : Str) (k : Int) : Str := if k = 1 then z else repS z k.toNat
def rMulS : R2 := fun x y H Q => ∃ z k, x = .str z ∧ y = .int k ∧ 0 < k ∧ k < 1000 ∧ 0 < z.length ∧ z.length < 1000 ∧ Q (.str (mulS z k)) H
theorem op_mulS : OpR X (binaryOp .Mult) rMulS := by
  intro pins s σ H x y v u Q I rx ry h
  obtain ⟨z, k, rfl, rfl, h0, h1, h2, h3, q⟩ := h
  obtain ⟨t, rfl⟩ := rx
  obtain ⟨t', rfl⟩ := ry
  have hp : z.length * k.toNat ≤ 1000000 := Nat.le_trans (Nat.mul_le_mul (Nat.le_of_lt h3) (show k.toNat ≤ 1000 by omega)) (by decide)
  have hl : Builtin.Str.tooLong (z.length * k.toNat) = false := by
    unfold Builtin.Str.tooLong
    exact decide_eq_false (Nat.not_lt.mpr (Nat.le_trans hp (by decide)))
  refine P.mul_str (by rw [decide_eq_false (by omega), decide_eq_false (by omega)]; rfl) (fun _ _ => ?_) (fun _ _ => hl) ?_
  · have : (1000 : Int) ≤ (2 ^ 63 - 1) / k := (Int.le_ediv_iff_mul_le h0).mpr (Int.le_trans (show (1000 : Int) * k ≤ 1000 * 1000 from Int.mul_le_mul_of_nonneg_left (by omega) (by decide)) (by decide))
    omega
  · rw [if_neg (by omega)]
    unfold mulS at q
    by_cases e : k = 1
    · rw [if_pos (by rw [e]; rfl)]
      rw [if_pos e] at q
      exact ⟨.str z, H, I, ⟨_, rfl⟩, q⟩
    · rw [if_neg (by simp only [Bool.or_eq_true, beq_iff_eq]; omega)]
      rw [if_neg e] at q
      refine ⟨?_, .str _, H, I.tok _, ⟨_, rfl⟩, q⟩
      exact fits_reps hl
end
end L2
namespace DC
open PySem PySem.Spec PyProof.Rows L2
section
variable {X : Cx} {a b e : Expr} {es : List Expr} {ta tb te : ED} {t : AD} {pos p p2 : Pos}
def fMulS : F2 := fun d e Q => ∃ z k, d = .str z ∧ e = .int k ∧ 0 < k ∧ k < 1000 ∧ 0 < z.length ∧ z.length < 1000 ∧ Q (.str (mulS z k))
def vMulS : ED → ED → ED := vOp fMulS
theorem d_mulS (ha : PD X a ta) (hb : PD X b tb) : PD X (.BinOp a .Mult b pos) (vMulS ta tb) := d_op op_mulS (fun H x y d e Q hx hy ⟨z, k, h1, h2, a1, a2, a3, a4, q⟩ => by
  subst h1; subst h2; cases hx; cases hy
  exact ⟨z, k, rfl, rfl, a1, a2, a3, a4, q _ H (Same.refl _) (.str _)⟩) (fun d e P P' f ⟨z, k, h1, h2, a1, a2, a3, a4, q⟩ => ⟨z, k, h1, h2, a1, a2, a3, a4, f _ q⟩) ha hb
def vRepL (k : Int) (t : AD) : ED := fun δ Q => t δ fun ds => ds.length ≤ sizeLine ∧ -(2 ^ 63) ≤ k ∧ k < 2 ^ 63 ∧ ds.length * k.toNat ≤ sizeLine ∧ Q (.lst (List.replicate k.toNat ds).flatten)
theorem Dvs.rep {K : PySem.W.Frag} {H : Hp} {vs : List V} {ds : List D} (h : Dvs K H vs ds) : ∀ k : Nat, Dvs K H (List.replicate k vs).flatten (List.replicate k ds).flatten
  | 0 => .nil
  | k + 1 => by rw [List.replicate_succ, List.replicate_succ, List.flatten_cons, List.flatten_cons]; exact h.append (Dvs.rep h k)
theorem d_repL {k : Int} {j : Nat} (h : PAd X es t) : PD X (.BinOp (.List es p) .Mult (.Constant (.int k) j p2) pos) (vRepL k t) := by
  refine ⟨(pe_op op_rep (pe_lst h.pa) pe_int).imp fun σ H Q ⟨δ, r, q⟩ => ⟨δ, r, h.mono _ _ _ (fun ds ⟨hl, h1, h2, h3, q⟩ vs H1 s1 dvs => ⟨by rw [dvs.length]; exact hl, fun l hl' => ?_⟩) q⟩, fun δ P P' g q => h.mono _ _ _ (fun ds ⟨hl, h1, h2, h3, q⟩ => ⟨hl, h1, h2, h3, g _ q⟩) q⟩
  have s2 : Same H1 (upd H1 l (.lst vs)) := same_upd hl'
  refine ⟨l, k, vs, rfl, rfl, upd_same, h1, h2, by rw [dvs.length]; exact h3, fun p hp => ?_⟩
  have s3 : Same (upd H1 l (.lst vs)) (upd (upd H1 l (.lst vs)) p (.lst (List.replicate k.toNat vs).flatten)) := same_upd hp
  exact q _ _ (s1.trans (s2.trans s3)) (.lst (SqL.of upd_same) (Dvs.rep (dvs.same (s2.trans s3)) _))
end
end DC
namespace L2
open PySem PySem.Spec PyProof.Rows
section
variable {X : Cx}
theorem strs_vals : ∀ {vs : List Value} {ss : List Str}, Vals (ss.map V.str) vs → StrsAre vs ss
  | _, [], .nil => .nil
  | _, _ :: _, .cons ⟨t, e⟩ h => by subst e; exact .cons _ t (strs_vals h)
end
end L2
namespace DC
open PySem PySem.Spec PyProof.Rows L2
theorem of_strs {K : PySem.W.Frag} {H : Hp} : ∀ {vs : List V} {ss : List Str}, Dvs K H vs (ss.map D.str) → vs = ss.map V.str
  | _, [], .nil => rfl
  | _, x :: ss, .cons (.str _) h => by rw [List.map_cons, of_strs h]
section
variable {X : Cx} {e : Expr} {es : List Expr} {t : AD} {pos p : Pos}
end
section
variable {X : Cx} {i : Nat} {x : Str} {p pos apos cpos : Pos}
end
section
variable {X : Cx} {e : Expr} {te : ED} {i : Nat} {x : Str} {p pos apos cpos : Pos}
end
section
variable {uc : TD} {t u r : TMD} {te : ED} {E : EndsM} {δ δ' : SD} {μ : Mu}
theorem give_view (e : viewS μ δ = δ') (h : t E δ' []) : mGive t E δ μ := by
  unfold mGive
  rw [e]
  exact h
theorem split_m (I : SD → Mu → Prop) (hI : ∀ δ μ, I δ μ → u E δ μ) (hA : ∀ N : SD → Mu → Prop, (∀ δ μ, I δ μ → N δ μ) → t { E with nx := N } δ μ) : mSeq t u E δ μ := hA (u E) hI
theorem look1 {a : Addr} {m : MD} : List.lookup a [(a, m)] = some m := by simp [List.lookup]
theorem put1 {a : Addr} {m m' : MD} : putM a m' [(a, m)] = [(a, m')] := by simp [putM]
theorem view1 {a : Addr} {m : MD} : viewD [(a, m)] (.adr a) = m.d := by simp [viewD, List.lookup]
end
section
variable {X : Cx} {body : List Stmt} {t : TMD} {h₀ : ExceptHandler} {hs : List ExceptHandler} {pos : Pos}
end
section
variable {P : Program} {w : World} {K : PySem.W.Frag} {mg : Str → Option Value} {base : Heap}
theorem FnOk.sub {cx : CXT} {f : Addr} {fd : FuncData} {ps : List Str} {k : Nat} {sp sp' : Sp} (F : FnOk P w K mg base cx k f fd ps sp) (h : ∀ vs H Q E, sp' vs H Q E → sp vs H Q E) : FnOk P w K mg base cx k f fd ps sp' :=
  ⟨fun vs H Q E q => F.len vs H Q E (h _ _ _ _ q), fun A outer s H args us vs Q E hr e0 hb r q => F.run A outer s H args us vs Q E hr e0 hb r (h _ _ _ _ q)⟩
theorem Df.calF {k : Nat} {x : Str} {st : Stmt} {ps N : List Str} {sd : SpF} {t : TMD} (d : Df K mg x st ps) (S : FnScope N ps (defScope st)) (ms : MonoSF sd) (len : ∀ ds Q, sd ds Q → ds.length = ps.length)
    (hb : ∀ (f : Addr) (cdv : Value) (A : Around) (outer : List Env) (s : Shared) (H : Hp) (E : XK), Room k (A.deeper (envOfC x (defScope st) s.heap.objs.size f cdv)) → PMs (Bx P w K mg base N x st f cdv A outer s H E) (defBody st) t)
    (hr : ∀ ds Q, sd ds Q → t { nx := fun _ μ => Q .non μ, rt := Q } (startD N ds) []) : CalF P w K mg base (k + 1) x ps sd := by
  obtain ⟨f, fd, F, m, b⟩ := d.ex
  exact ⟨⟨f, fd, okF F S len (hb f) hr, m, F.kp, b⟩, ms⟩
end
end DC

set_option maxHeartbeats 4000000
namespace DC
open PySem PySem.Spec PyProof.Rows L2
theorem Dvk.has {K : PySem.W.Frag} {H : Hp} {k : Key} : ∀ {vs : List (Key × V)} {ds : List (Key × D)}, Dvk K H vs ds → (valV vs k).isSome = (getK ds k).isSome
  | _, _, .nil => rfl
  | _, _, .cons (k := k') (x := x) (d := d) (xs := xs) (ds := ds) h t => by
    have ih := Dvk.has (k := k) t
    unfold getK valV at ih ⊢
    rw [List.find?_cons, List.find?_cons]
    by_cases q : k' = k
    · simp only [q, decide_true]
      rfl
    · simp only [q, decide_false]
      exact ih
section
variable {X : Cx} {o i : Expr} {pos : Pos} {td ty : ED}
def vDIn (neg : Bool) (ty td : ED) : ED := fun δ Q => ty δ fun y => td δ fun d => ∃ kvs k, d = .dK kvs ∧ keyD y = some k ∧ Q (.bl (if neg = true then !(getK kvs k).isSome else (getK kvs k).isSome))
theorem m_dIn {neg : Bool} (hi : MonoE ty) (ho : MonoE td) : MonoE (vDIn neg ty td) := fun δ P P' g h => hi _ _ _ (fun y h' => ho _ _ _ (fun d ⟨kvs, k, e1, e2, q⟩ => ⟨kvs, k, e1, e2, g _ q⟩) h') h
theorem din_of {neg : Bool} (hi : PD X i ty) (ho : PD X o td) {σ : L2.St} {H : Hp} {Q : VK} (h : oE X.K (vDIn neg ty td) σ H Q) : (if neg = true then tDNotIn (oE X.K ty) (oE X.K td) else tDIn (oE X.K ty) (oE X.K td)) σ H Q := by
  obtain ⟨δ, r, h⟩ := h
  have key : ∀ (y : D) (u : V) (d : D) (v : V) (H1 H2 : Hp), Same H H1 → Same H1 H2 → Dv X.K H1 u y → Dv X.K H2 v d → (∃ kvs k, d = .dK kvs ∧ keyD y = some k ∧ kD X.K H Q (.bl (if neg = true then !(getK kvs k).isSome else (getK kvs k).isSome))) →
      ∃ a oo, v = .ref a ∧ DGet H2 a u oo ∧ Q (.bl (if neg = true then !oo.isSome else oo.isSome)) H2 := fun y u d v H1 H2 s1 s2 du dv ⟨kvs, k, e1, e2, q⟩ => by
    subst e1
    cases dv with
    | dK g1 g2 =>
      refine ⟨_, _, rfl, .inl ⟨_, k, g1, key_kV du e2, rfl⟩, ?_⟩
      rw [g2.has]
      exact q _ H2 (s1.trans s2) (.bl _)
  cases neg with
  | true =>
    rw [if_pos rfl]
    exact ⟨δ, r, hi.mono _ _ _ (fun y hy u H1 s1 du => ⟨δ, r.same s1, ho.mono _ _ _ (fun d hd v H2 s2 dv => key y u d v H1 H2 s1 s2 du dv hd) hy⟩) h⟩
  | false =>
    rw [if_neg Bool.false_ne_true]
    exact ⟨δ, r, hi.mono _ _ _ (fun y hy u H1 s1 du => ⟨δ, r.same s1, ho.mono _ _ _ (fun d hd v H2 s2 dv => key y u d v H1 H2 s1 s2 du dv hd) hy⟩) h⟩
theorem d_inD (hu : X.A.units + 64 < cLine) (hi : PD X i ty) (ho : PD X o td) (hm : behindInMarks .In o = false) : PD X (.Compare i [.In] [o] pos) (vDIn false ty td) :=
  ⟨(pe_cmp (pc_din (by omega) hi.pe ho.pe) hm).imp fun σ H Q h => din_of (neg := false) hi ho h, m_dIn hi.mono ho.mono⟩
theorem d_notinD (hu : X.A.units + 64 < cLine) (hi : PD X i ty) (ho : PD X o td) (hm : behindInMarks .NotIn o = false) : PD X (.Compare i [.NotIn] [o] pos) (vDIn true ty td) :=
  ⟨(pe_cmp (pc_dnotin (by omega) hi.pe ho.pe) hm).imp fun σ H Q h => din_of (neg := true) hi ho h, m_dIn hi.mono ho.mono⟩
end
section
variable {X : Cx} {e : Expr} {tf : EF} {i : Nat} {x : Str} {p pos apos cpos : Pos}
def mExtend (i : Nat) (tf : EF) : TMD := fun E δ μ => ∃ a ds, δ[i]? = some (some (.adr a)) ∧ μ.lookup a = some (.lst ds) ∧ tf δ fun d μ' => ∃ b es, d = .adr b ∧ μ'.lookup b = some (.lst es) ∧ ds.length + es.length ≤ sizeLine ∧ E.nx δ (putM a (.lst (ds ++ es)) μ)
theorem ms_extend (hi : X.N[i]? = some x) (hv : Vis X.env.scope x) (he : PF X e tf) (hd : (x == ("__debug__" : Str)) = false := by decide) (hcd : (x == ("__classdict__" : Str)) = false := by decide)
    (hst : starEach [e] X.env = (false, eval e X.env) :: starEach [] X.env := by rfl) (hline : (apos.endLine == cpos.line) = true := by rfl)
    (hfew : ((backTo cpos (starEach [e] X.env)).all (fun x => !x.1) && (backToKw cpos (keywordEach [] X.env)).all (fun x => x.1.isSome) && decide ([e].length + ([] : List Keyword).length + (if ([] : List Keyword).isEmpty then 0 else 1) < 30)) = true := by rfl)
    (hs : swapsWith (.Call (.Attribute (.Name x p) "extend" apos) [e] [] cpos) none pos.line X.env = pure false := by rfl)
    (hb : attributeBase (.Name x p) "extend" X.env (eval (.Name x p) X.env) = eval (.Name x p) X.env := by rfl) :
    PMd X (.Expr (.Call (.Attribute (.Name x p) "extend" apos) [e] [] cpos) pos) (mExtend i tf) := by
  refine ⟨PS.imp (ps_expr (pe_bm PySem.F.plainAttrs_list PySem.F.slot_list_extend PySem.F.type_list_extend mt_extend (pe_var hi hv hd hcd) (pa_cons (pe_frM he.pe) pa_nil hst) hb hfew hline hst) hs) fun D σ H ⟨δ, μ, L, r, g, q⟩ => ?_,
    fun E E' δ μ l ⟨a, ds, k1, k2, q⟩ => ⟨a, ds, k1, k2, he.mono _ _ _ (fun d μ' ⟨b, es, e1, e2, e3, k⟩ => ⟨b, es, e1, e2, e3, l.nx _ _ k⟩) q⟩⟩
  obtain ⟨a, ds, k1, k2, q⟩ := q
  obtain ⟨v, hv1, dv⟩ := r.get i _ k1
  cases dv
  obtain ⟨haL, vs, hH, dvs⟩ := g.at_ _ (mem_of_lookup k2)
  refine ⟨_, hv1, .inl ⟨rfl, _, SqL.of hH⟩, L, g.hid, δ, r, he.mono _ _ _ (fun d μ' k w H' L' s' g' dw z => ?_) q⟩
  obtain ⟨b, es, ed, hbl, hlen, k⟩ := k
  subst ed
  cases dw
  obtain ⟨hbL, ws, hB, dws⟩ := g'.at_ _ (mem_of_lookup hbl)
  have nbL : b ∉ L := fun hb => by rw [z b hb] at hB; cases hB
  have sf : Same (hidL H L) H' := s'.trans hidL_same
  have e1 : hidL (showL H' H L) L = H' := hidL_showL z
  have g1 : StM X.K (showL H' H L) μ L := g.show z sf
  have hA1 : showL H' H L a = some (.lst vs) := by rw [showL_in haL]; exact hH
  have hB1 : showL H' H L b = some (.lst ws) := by rw [showL_out nbL]; exact hB
  refine ⟨a, b, vs, ws, rfl, rfl, hA1, hB1, by rw [dvs.length, dws.length]; exact hlen, ?_⟩
  have g2 := g1.putL haL hA1 (ys := vs ++ ws) (ds := ds ++ es) (by rw [e1]; exact (Dvs.same sf dvs).append (Dvs.same hidL_same dws))
  have e2 : hidL (upd (showL H' H L) a (.lst (vs ++ ws))) L = H' := by rw [hidL_upd haL, e1]
  exact k σ _ L (by rw [e2]; exact sf) (by rw [e2]; exact r.same sf) g2
end
section
variable {X : Cx} {c : Expr} {body : List Stmt} {uc : TD} {tb : TMD} {pos : Pos}
def mWhile (uc : TD) (tb : TMD) : TMD := fun E δ μ => ∃ inv : Nat → SD → Mu → Prop, (∃ m, inv m δ μ) ∧ ∀ m δ' μ', inv m δ' μ' → uc (viewS μ' δ') fun b => if b = true then tb { E with nx := fun δ2 μ2 => ∃ m', m' < m ∧ inv m' δ2 μ2, ct := fun δ2 μ2 => ∃ m', m' < m ∧ inv m' δ2 μ2, bk := E.nx } δ' μ' else E.nx δ' μ'
theorem ms_while (hp : PassesOwn (model X.prog X.w) X.A X.env X.xe) (hc : PTd X c uc) (hb : PMs X body tb) : PMd X (.While c body [] pos) (mWhile uc tb) := by
  refine ⟨PS.imp (ps_while hp hc.pt hb.ps) fun D σ H ⟨δ, μ, L, r, g, inv, ⟨m0, i0⟩, step⟩ => ⟨fun m σ' H' => ∃ δ' μ' L', Same (hidL H L) (hidL H' L') ∧ RelS X.K (hidL H' L') σ' δ' ∧ StM X.K H' μ' L' ∧ inv m δ' μ', ⟨m0, δ, μ, L, Same.refl _, r, g, i0⟩, ?_⟩, fun E E' δ μ l ⟨inv, i0, step⟩ => ⟨inv, i0, fun m δ' μ' hi => hc.mono _ _ _ (fun b q => ?_) (step m δ' μ' hi)⟩⟩
  · rintro m σ' H' ⟨δ', μ', L', s', r', g', hi⟩
    refine ⟨_, g'.viewS r', hc.mono _ _ _ (fun b q H1 s1 => ?_) (step m δ' μ' hi)⟩
    have s2 : Same (hidL H' L') (hidL H1 L') := hidL_on s1
    cases b with
    | false =>
      show if false = true then _ else _
      rw [if_neg Bool.false_ne_true] at q ⊢
      exact q σ' H1 L' (s'.trans s2) (r'.same s2) (g'.on s1)
    | true =>
      show if true = true then _ else _
      rw [if_pos rfl] at q ⊢
      refine ⟨fun σ2 H2 => ∃ δ2 μ2 L2, Same (hidL H L) (hidL H2 L2) ∧ RelS X.K (hidL H2 L2) σ2 δ2 ∧ StM X.K H2 μ2 L2 ∧ ∃ m', m' < m ∧ inv m' δ2 μ2, fun σ2 H2 ⟨δ2, μ2, L2, s2, r2, g2, m', hm, h2⟩ => ⟨m', hm, δ2, μ2, L2, s2, r2, g2, h2⟩, δ', μ', L', r'.same s2, g'.on s1,
        hb.mono { endM X.K H L D with nx := fun δ2 μ2 => ∃ m', m' < m ∧ inv m' δ2 μ2, ct := fun δ2 μ2 => ∃ m', m' < m ∧ inv m' δ2 μ2, bk := (endM X.K H L D).nx } _ _ _ ⟨?_, ?_, ?_, ?_⟩ q⟩
      · exact fun δ2 μ2 h2 σ2 H2 L2 s3 r2 g2 => ⟨δ2, μ2, L2, (s'.trans s2).trans s3, r2, g2, h2⟩
      · exact fun d μ2 h2 v H2 L2 s3 g2 dv => h2 v H2 L2 ((s'.trans s2).trans s3) g2 dv
      · exact fun δ2 μ2 h2 σ2 H2 L2 s3 r2 g2 => h2 σ2 H2 L2 ((s'.trans s2).trans s3) r2 g2
      · exact fun δ2 μ2 h2 σ2 H2 L2 s3 r2 g2 => ⟨δ2, μ2, L2, (s'.trans s2).trans s3, r2, g2, h2⟩
  · cases b with
    | false =>
      rw [if_neg Bool.false_ne_true] at q ⊢
      exact l.nx _ _ q
    | true =>
      rw [if_pos rfl] at q ⊢
      exact hb.mono { E with nx := fun δ2 μ2 => ∃ m', m' < m ∧ inv m' δ2 μ2, ct := fun δ2 μ2 => ∃ m', m' < m ∧ inv m' δ2 μ2, bk := E.nx } _ _ _ ⟨fun _ _ z => z, l.rt, fun _ _ z => l.nx _ _ z, fun _ _ z => z⟩ q
end
section
variable {X : Cx} {c a b e : Expr} {es : List Expr} {uc : TD} {ta tb : EF} {t : AD} {pos p : Pos}
def fIf (uc : TD) (ta tb : EF) : EF := fun δ Q => uc δ fun k => if k = true then ta δ Q else tb δ Q
theorem f_if (hc : PTd X c uc) (ha : PF X a ta) (hb : PF X b tb) : PF X (.IfExp c a b pos) (fIf uc ta tb) := by
  refine ⟨(pe_ifExp hc.pt ha.pe hb.pe).imp fun σ H Q ⟨δ, r, h⟩ => ⟨δ, r, hc.mono _ _ _ (fun k q H1 s1 => ?_) h⟩, fun δ P P' g h => hc.mono _ _ _ (fun k q => ?_) h⟩
  · cases k with
    | true =>
      show if true = true then _ else _
      rw [if_pos rfl] at q ⊢
      exact ⟨δ, r.same s1, ha.mono _ _ _ (fun d μ z => z.on s1) q⟩
    | false =>
      show if false = true then _ else _
      rw [if_neg Bool.false_ne_true] at q ⊢
      exact ⟨δ, r.same s1, hb.mono _ _ _ (fun d μ z => z.on s1) q⟩
  · cases k with
    | true => rw [if_pos rfl] at q ⊢; exact ha.mono _ _ _ g q
    | false => rw [if_neg Bool.false_ne_true] at q ⊢; exact hb.mono _ _ _ g q
def fListOf (t : AD) : EF := fun δ Q => t δ fun ds => ∃ xs, (ds = [.lst xs] ∨ ds = [.tup xs]) ∧ ∀ a, Q (.adr a) [(a, .lst xs)]
theorem f_list_of (hg : Gl X "list") (hm : X.mg "list" = none) (ha : PAd X (e :: es) t) (h1 : starEach (e :: es) X.env = (false, eval e X.env) :: starEach es X.env := by rfl) (h2 : (backTo pos (starEach es X.env)).any (·.1) = false := by rfl) : PF X (.Call (.Name "list" p) (e :: es) [] pos) (fListOf t) := by
  refine ⟨(pe_callTy call_list_of hg hm boot_list ha.pa (he := h1) (hpl := h2)).imp fun σ H Q ⟨δ, r, h⟩ => ⟨δ, r, ha.mono _ _ _ (fun ds ⟨xs, e, k⟩ vs H1 s1 dvs => ?_) h⟩, fun δ P P' g h => ha.mono _ _ _ (fun ds ⟨xs, e, k⟩ => ⟨xs, e, fun a => g _ _ (k a)⟩) h⟩
  have fin : ∀ {ys : List V}, Dvs X.K H1 ys xs → ∀ l, H1 l = none → Q (.ref l) (upd H1 l (.lst ys)) := fun {ys} dy l hl => by
    obtain ⟨g2, e2⟩ := (StM.nil (K := X.K) (H := H1)).newL hl (ds := xs) (by rw [hidL_nil]; exact dy)
    exact k l (.ref l) _ [l] (by rw [e2, hidL_nil]; exact s1) g2 (.adr l)
  rcases e with e | e
  · subst e
    cases dvs with
    | cons dv r2 =>
      cases r2
      cases dv with
      | lst q1 q2 => exact ⟨_, _, rfl, .inl q1, fin q2⟩
  · subst e
    cases dvs with
    | cons dv r2 =>
      cases r2
      cases dv with
      | tup q1 q2 => exact ⟨_, _, rfl, .inr q1, fin q2⟩
theorem McalF.cal {P : Program} {w : World} {K : PySem.W.Frag} {mg : Str → Option Value} {base : Heap} {j : Nat} {C : Addr} {m : Str} {sd : SpF} {se : SpD} (c : McalF P w K mg base j C m sd) (ms : MonoS se) (h : ∀ ds Q, se ds Q → sd ds fun d μ => Q (viewD μ d)) : Mcal P w K mg base j C m se [] := by
  obtain ⟨f, fd, ps, h1, h2, F, b⟩ := c.ex
  exact ⟨⟨f, fd, ps, [], [], h1, h2, FnOk.sub F (fun vs H Q E ⟨ds, dv, q⟩ => spF_of c.ms h vs H Q E ⟨ds, dv, q⟩), b, .nil, fun _ => .nil⟩, ms⟩
end
end DC

set_option maxHeartbeats 4000000
namespace L2
open PySem PySem.Spec PyProof.Rows
theorem take_in {ss : List Str} {i : Nat} {x : Str} (hx : ss[i]? = some x) (k : Str) : (decide (k ∈ ss.take i) || decide (k = x)) = decide (k ∈ ss.take (i + 1)) := by
  rw [List.take_succ, hx]
  by_cases h1 : k ∈ ss.take i
  · simp [h1]
  · by_cases h2 : k = x
    · simp [h2]
    · simp [h1, h2]
theorem take_new {ss : List Str} (hd : ss.Nodup) {i : Nat} {x : Str} (hx : ss[i]? = some x) : decide (x ∈ ss.take i) = false := decide_eq_false fun h => by
  obtain ⟨m, hm⟩ := List.mem_iff_getElem?.mp h
  rw [List.getElem?_take] at hm
  split at hm
  · rename_i hlt
    have := (List.getElem?_inj (List.getElem?_eq_some_iff.mp hm).1 hd).mp (hm.trans hx.symm)
    omega
  · cases hm
section
variable {prog : Program} {w : World} {A : Around} {E : Value → Shared → Prop} {s : Shared}
abbrev sk (prog : Program) (w : World) := PySem.strKind prog w
theorem sk_is (x : Str) (t : Tok) : (sk prog w).is x (.str x t) = true := by show Value.isStrOf x (.str x t) = true; simp [Value.isStrOf]
theorem set_loop {R : Result → Shared → Prop} {I : Addr} {fp wr : List Addr} {G : Array GenState → Array GenState → Prop} {n : Nat} {P : Nat → Value → Prop} {St : Nat → Shared → Prop}
    (W : WalksS prog w A.in1 I fp wr G n P St) (B : Addr) (hB : B ∉ fp) {ss : List Str} (hn : ss.length = n) (hd : ss.Nodup) (hv : ∀ i v, P i v → ∃ x t, ss[i]? = some x ∧ v = .str x t) (hb : n + 1 < scanBound) :
    ∀ (d i : Nat) (s : Shared), n - i = d → i ≤ n → St i s → s.heap.SetOf (sk prog w) B (fun k => decide (k ∈ ss.take i)) i →
      (∀ s', Moved (B :: wr) G s s' → s'.heap.SetOf (sk prog w) B (fun k => decide (k ∈ ss.take n)) n → R (.ok (.ret .none)) s') →
      codeAny (model prog w) A (.builtin "set.update.loop" ⟨[.ref B, .ref I], []⟩) R s
  | 0, i, s, h0, hi, st, hS, fin => by
    have e : i = n := by omega
    subst e
    refine codeAny_builtin F.entry_set_update_loop ?_
    rw [Around.under_plainId F.plain_set_update_loop _]
    refine (show wpAny _ A.in1 (pyNext (.ref I) >>= _) _ _ s from wpAny_bind (W.done s _ _ st fun s1 mv => ?_))
    refine (show wpAny _ A.in1 (ret Value.none) _ _ s1 from wpAny_pure (fin s1 (mv.mono fun b q => List.mem_cons_of_mem _ q) ?_))
    obtain ⟨ob, es, ep, tb, ho, more⟩ := hS
    exact ⟨ob, es, ep, tb, mv.heap B _ (fun q => hB (W.sub _ q)) ho, more⟩
  | d + 1, i, s, h0, hi, st, hS, fin => by
    have lt : i < n := by omega
    refine codeAny_builtin F.entry_set_update_loop ?_
    rw [Around.under_plainId F.plain_set_update_loop _]
    refine (show wpAny _ A.in1 (pyNext (.ref I) >>= _) _ _ s from wpAny_bind (W.item i s _ _ lt st fun v s1 hP st1 mv => ?_))
    obtain ⟨x, t, hx, rfl⟩ := hv i v hP
    have hS1 : s1.heap.SetOf (sk prog w) B (fun k => decide (k ∈ ss.take i)) i := by
      obtain ⟨ob, es, ep, tb, ho, more⟩ := hS
      exact ⟨ob, es, ep, tb, mv.heap B _ (fun q => hB (W.sub _ q)) ho, more⟩
    refine (show wpAny _ A.in1 (holding [Value.str x t] (setAdd B (.str x t)) >>= _) _ _ s1 from wpAny_bind (wpAny_holding ?_))
    unfold setAdd
    refine wpAny_holding (wpAny_bind ((sk prog w).pyHash (k := x) (sk_is x t) ?_))
    refine wpAny_setAddHashed_of (knd := sk prog w) (s := { s1 with toks := s1.toks + 1 }) (sk_is x t) rfl hS1 (by omega) fun h2 same hS2 => ?_
    have hS3 : h2.SetOf (sk prog w) B (fun k => decide (k ∈ ss.take (i + 1))) (i + 1) := by
      have e1 : (fun k' => decide (k' ∈ ss.take i) || decide (k' = x)) = fun k => decide (k ∈ ss.take (i + 1)) := funext fun k => take_in hx k
      have e2 : (if decide (x ∈ ss.take i) = true then i else i + 1) = i + 1 := by rw [take_new hd hx]; rfl
      have z : h2.SetOf (sk prog w) B (fun k' => decide (k' ∈ ss.take i) || decide (k' = x)) (if decide (x ∈ ss.take i) = true then i else i + 1) := hS2
      rw [e1, e2] at z
      exact z
    refine wpAny_pure ⟨plainId_quiet F.plain_set_update_loop _, set_loop W B hB hn hd hv hb d (i + 1) _ (by omega) lt (W.frame _ s1 _ _ st1 (Nat.le_succ _) fun b hb2 o e => ?_) hS3 fun s3 mv3 hS4 => ?_⟩
    · rw [same.2 b (fun q => hB (by rw [← q]; exact hb2))]
      exact e
    · refine fin s3 (Moved.trans W.gtrans ((mv.mono fun b q => List.mem_cons_of_mem _ q).then_heap (Nat.le_succ _) fun b o hb2 e => ?_) mv3) hS4
      rw [same.2 b (fun q => hb2 (by rw [q]; exact List.mem_cons_self))]
      exact e
end
abbrev freshSet (led : Bool) : Obj := { cls := .type "set", dict := none, data := .set #[] 0 (.fresh 0 0 led) }
structure Texts (h : Heap) (l : Addr) (T : String) (ss : List Str) : Prop where
  ex : ∃ (o : Obj) (its : Array Value), h.get? l = some o ∧ o.cls = .type T ∧ StrsAre its.toList ss ∧ ((T = "list" ∧ h.IsList l its) ∨ (T = "tuple" ∧ h.IsTuple l its))
theorem strs_at : ∀ {vs : List Value} {ss : List Str}, StrsAre vs ss → ∀ {i : Nat} {v : Value}, vs[i]? = some v → ∃ x t, ss[i]? = some x ∧ v = .str x t
  | _, _, .nil, i, v, h => by cases h
  | _, _, .cons x t r, 0, v, h => by cases h; exact ⟨x, t, rfl, rfl⟩
  | _, _, .cons x t r, i + 1, v, h => strs_at r (i := i) h
theorem strs_size : ∀ {vs : List Value} {ss : List Str}, StrsAre vs ss → vs.length = ss.length
  | _, _, .nil => rfl
  | _, _, .cons _ _ r => congrArg (· + 1) (strs_size r)
section
variable {prog : Program} {w : World} {A : Around} {E : Value → Shared → Prop} {s : Shared}
theorem iter_texts {l : Addr} {T : String} {ss : List Str} {its : Array Value} (hh : A.handled = none) (hS : StrsAre its.toList ss) (hk : (T = "list" ∧ s.heap.IsList l its) ∨ (T = "tuple" ∧ s.heap.IsTuple l its)) (hl : l < s.heap.objs.size) :
    ∃ (oI : Obj) (St : Nat → Shared → Prop), (∀ (A' : Around) (E' : Value → Shared → Prop) (Q : Value → Shared → Prop), Q (.ref s.heap.objs.size) { s with heap := s.heap.push oI } → wpAny (model prog w) A' (pyIter (.ref l)) Q E' s) ∧
      WalksS prog w A s.heap.objs.size [s.heap.objs.size, l] [s.heap.objs.size] (fun a b => b = a) ss.length (fun i v => its[i]? = some v) St ∧ St 0 { s with heap := s.heap.push oI } := by
  have en : its.size = ss.length := by rw [← strs_size hS, Array.length_toList]
  have ne : l ≠ s.heap.objs.size := Nat.ne_of_lt hl
  rcases hk with ⟨_, hL⟩ | ⟨_, hL⟩
  · exact ⟨_, _, fun A' E' Q q => wpAny_pyIter_list hL q, en ▸ (Walks.list hh _ l ne its).toS, ⟨⟨_, Heap.get?_push_size _ rfl, rfl, rfl⟩, hL.push _⟩⟩
  · exact ⟨_, _, fun A' E' Q q => wpAny_pyIter_tuple hL q, en ▸ (Walks.tuple hh _ l ne its).toS, ⟨⟨_, Heap.get?_push_size _ rfl, rfl, rfl⟩, hL.push _⟩⟩
theorem call_set {l : Addr} {T : String} {ss : List Str} {Q : Value → Shared → Prop} (hh : A.handled = none) (tx : Texts s.heap l T ss) (hd : ss.Nodup) (hb : ss.length + 1 < scanBound)
    (fin : ∀ h' tk, h'.SetOf (sk prog w) s.heap.objs.size (fun k => decide (k ∈ ss.take ss.length)) ss.length → (∀ b o, s.heap.get? b = some o → h'.get? b = some o) → Q (.ref s.heap.objs.size) { s with heap := h', toks := tk }) :
    wpAny (model prog w) A (call (.type "set") [.ref l]) Q E s := by
  obtain ⟨ol, its, hol, hcl, hS, hk⟩ := tx.ex
  have hlt : l < s.heap.objs.size := Heap.lt_size hol
  obtain ⟨k0, k1, mro⟩ := F.called_set.mro
  have made := F.called_set.made
  have isub := F.called_set.sub
  refine wpAny_call (codeAny_of_tree (show wpAny _ _ (callAny (.type "set") _) _ _ _ from wpAny_pure ⟨Code.quiet_builtin _ (by decide +kernel), codeAny_builtin F.entry_type_call ?_⟩))
  rw [Around.under_plain (weight_type_call_type "set" [.ref l] []) rfl]
  have nt := F.called_set.notType
  have cc := F.called_set.canCreate
  have tc := F.typeCall_set_1 (.ref l)
  repeat (any_goals (first | assumption | wp_step))
  refine codeAny_mono (code_set_new_1 (.ref l) (E := E) (Q₁ := fun v s1 => ∃ led : Bool, v = .ref s.heap.objs.size ∧ s1 = { s with heap := s.heap.push (freshSet led) }) fun led => ⟨led, rfl, rfl⟩) fun r s1 hr => ?_
  match r, hr with
  | .error e, hr => exact hr
  | .ok .next, hr => exact hr.elim
  | .ok .brk, hr => exact hr.elim
  | .ok .cont, hr => exact hr.elim
  | .ok (.ret v), hr =>
    obtain ⟨led, rfl, rfl⟩ := hr
    have hB : (s.heap.push (freshSet led)).get? s.heap.objs.size = some (freshSet led) := Heap.get?_push_size _ rfl
    have tB : Shared.TypeIs { s with heap := s.heap.push (freshSet led) } (.ref s.heap.objs.size) "set" := ⟨_, hB, rfl⟩
    have li := F.called_set.init.lookup
    have bi := F.called_set.init.bind (.ref s.heap.objs.size)
    repeat (any_goals (first | assumption | wp_step))
    refine codeAny_mono (codeAny_call_builtin (R := wants (fun r s2 => r = .none ∧ ∃ h' tk, s2 = { s with heap := h', toks := tk } ∧ h'.SetOf (sk prog w) s.heap.objs.size (fun k => decide (k ∈ ss.take ss.length)) ss.length ∧
      (∀ b o, s.heap.get? b = some o → h'.get? b = some o)) E) F.called_set.init.plain F.entry_set_init (check_set_init_1 tB ?_)) fun r2 s2 hr2 => ?_
    · have done : ∀ (A' : Around), A'.in1.handled = none →
          ∃ oI : Obj, (∀ (A2 : Around) (E' : Value → Shared → Prop) (Q : Value → Shared → Prop), Q (.ref (s.heap.push (freshSet led)).objs.size) { s with heap := (s.heap.push (freshSet led)).push oI } → wpAny (model prog w) A2 (pyIter (.ref l)) Q E' { s with heap := s.heap.push (freshSet led) }) ∧
            ∀ (R : Result → Shared → Prop), (∀ h' tk, h'.SetOf (sk prog w) s.heap.objs.size (fun k => decide (k ∈ ss.take ss.length)) ss.length → (∀ b o, s.heap.get? b = some o → h'.get? b = some o) → R (.ok (.ret .none)) { s with heap := h', toks := tk }) →
              codeAny (model prog w) A' (.builtin "set.update.loop" ⟨[.ref s.heap.objs.size, .ref (s.heap.push (freshSet led)).objs.size], []⟩) R { s with heap := (s.heap.push (freshSet led)).push oI } := fun A' ha => by
        have hk2 : (T = "list" ∧ (s.heap.push (freshSet led)).IsList l its) ∨ (T = "tuple" ∧ (s.heap.push (freshSet led)).IsTuple l its) := hk.imp (fun z => ⟨z.1, z.2.push _⟩) fun z => ⟨z.1, z.2.push _⟩
        have hl2 : l < (s.heap.push (freshSet led)).objs.size := by rw [Heap.size_push]; exact Nat.lt_succ_of_lt hlt
        obtain ⟨oI, St, it, W, st⟩ := iter_texts (prog := prog) (w := w) (A := A'.in1) (s := { s with heap := s.heap.push (freshSet led) }) ha hS hk2 hl2
        refine ⟨oI, it, fun R hR => ?_⟩
        have nB : s.heap.objs.size ∉ [(s.heap.push (freshSet led)).objs.size, l] := by
          rw [Heap.size_push]
          simp only [List.mem_cons, List.not_mem_nil, or_false, not_or]
          exact ⟨Nat.ne_of_lt (Nat.lt_succ_self _), Nat.ne_of_gt hlt⟩
        refine set_loop W s.heap.objs.size nB rfl hd (fun i v hv => strs_at hS (by rw [Array.getElem?_toList]; exact hv)) hb (ss.length - 0) 0 _ rfl (Nat.zero_le _) st ?_ fun s' mv z => ?_
        · have g0 : ((s.heap.push (freshSet led)).push oI).get? s.heap.objs.size = some (freshSet led) := Heap.get?_push_of_some _ hB
          have z := (setObjOf_fresh (knd := sk prog w) led).setOf g0 (by unfold scanBound; omega)
          have e : (fun _ : Str => false) = fun k => decide (k ∈ ss.take 0) := funext fun k => by simp
          rw [e] at z
          exact z
        · obtain ⟨h', g', d', tk', os'⟩ := s'
          have eg : g' = s.gens := mv.gens
          have ed : d' = s.drawn := mv.drawn
          have eo : os' = s.os := mv.os
          subst eg ed eo
          refine hR h' tk' z fun b o q => ?_
          have lb := Heap.lt_size q
          refine mv.heap b o ?_ (Heap.get?_push_of_some _ (Heap.get?_push_of_some _ q))
          rw [Heap.size_push]
          simp only [List.mem_cons, List.not_mem_nil, or_false, not_or]
          exact ⟨Nat.ne_of_lt lb, Nat.ne_of_lt (Nat.lt_succ_of_lt lb)⟩
      have hol2 : (s.heap.push (freshSet led)).get? l = some ol := Heap.get?_push_of_some _ hol
      obtain ⟨oc, odd, oda, osl⟩ := ol
      have hcl : oc = .type T := hcl
      subst hcl
      rcases hk with ⟨rfl, _⟩ | ⟨rfl, _⟩
      · have s1 := F.sub_list_set
        have s2 := F.sub_list_frozenset
        have s3 : (Value.type "list" == Value.type "dict") = false := by decide
        unfold Builtin.«set.__init__» noKeywords Builtin.Frozenset.updateFrom
        generalize hPI : pyIter = PI
        wp_walk
        subst hPI
        obtain ⟨oI, it, lp⟩ := done A.in1.in1 (by simp [hh])
        refine it _ _ _ (wpAny_bind (wpAny_runValue (lp _ fun h' tk z1 z2 => ?_)))
        show wpAny _ _ _ _ _ _
        refine wpAny_pure ?_
        show wpAny _ _ (ret Value.none) _ _ _
        exact wpAny_pure ⟨rfl, h', tk, rfl, z1, z2⟩
      · have s1 := F.sub_tuple_set
        have s2 := F.sub_tuple_frozenset
        have s3 : (Value.type "tuple" == Value.type "dict") = false := by decide
        unfold Builtin.«set.__init__» noKeywords Builtin.Frozenset.updateFrom
        generalize hPI : pyIter = PI
        wp_walk
        subst hPI
        obtain ⟨oI, it, lp⟩ := done A.in1.in1 (by simp [hh])
        refine it _ _ _ (wpAny_bind (wpAny_runValue (lp _ fun h' tk z1 z2 => ?_)))
        show wpAny _ _ _ _ _ _
        refine wpAny_pure ?_
        show wpAny _ _ (ret Value.none) _ _ _
        exact wpAny_pure ⟨rfl, h', tk, rfl, z1, z2⟩
    · match r2, hr2 with
      | .error e, hr2 => exact hr2
      | .ok .next, hr2 => exact hr2.elim
      | .ok .brk, hr2 => exact hr2.elim
      | .ok .cont, hr2 => exact hr2.elim
      | .ok (.ret v), hr2 =>
        obtain ⟨rfl, h', tk, rfl, z1, z2⟩ := hr2
        repeat (any_goals (first | assumption | wp_step))
        exact fin _ _ z1 z2
end
end L2

set_option maxHeartbeats 4000000
namespace L2
open PySem PySem.Spec PyProof.Rows
def SetO (a : Addr) (n : Nat) : HO := .ext fun h => ∃ o es ep t, h.get? a = some o ∧ o.ExactSet ∧ o.data = .set es ep t ∧ t.fits es.size = true ∧ es.size = n
section
variable {X : Cx}
theorem call_set_strs (hh : X.A.handled = none) : CallR X (.type "set") (fun xs H Q => ∃ (p : Addr) (ss : List Str), xs = [.ref p] ∧ (SqL X.K H p (ss.map V.str) ∨ SqT X.K H p (ss.map V.str)) ∧ ss.Nodup ∧ ss.length + 1 < scanBound ∧ ∀ l, H l = none → Q (.ref l) (upd H l (SetO l ss.length))) := by
  intro pins s σ H xs us Q I r h
  obtain ⟨p, ss, rfl, hq, hd, hb, q⟩ := h
  obtain ⟨u, rfl, rx⟩ := vals1 r
  cases rx
  have go : ∀ T : String, Texts s.heap p T ss → wpAny (model X.prog X.w) X.A (call (.type "set") [.ref p]) (EP X pins σ Q) X.xe s := fun T tx =>
    call_set hh tx hd hb fun h' tk ⟨o, es, ep, t, z1, z2, z3, _, _, _, z4, z5⟩ keep =>
      ⟨.ref s.heap.objs.size, _, I.laid (t' := tk) keep (Nat.le_refl _) (show ObjOk X.prog X.w _ h' _ (SetO _ _) from ⟨⟨o, es, ep, t, z1, z2, z3, z4, z5⟩, ⟨o, z1⟩, fun h1 h2 ⟨o, es, ep, t, y1, y⟩ k => ⟨o, es, ep, t, k _ y1, y⟩⟩), rfl, q _ (I.hok.fresh (Nat.le_refl _))⟩
  rcases hq with hq | hq
  · obtain ⟨its, r', pl, hz⟩ := I.list hq
    obtain ⟨o, ho, hc, n, hdt⟩ := pl.isList
    exact go "list" ⟨o, its.toArray, ho, hc, strs_vals r', .inl ⟨rfl, ⟨o, ho, hc, n, hdt⟩⟩⟩
  · obtain ⟨its, r', pl, hz⟩ := I.tuple hq
    obtain ⟨o, ho, hc, n, hdt⟩ := pl
    exact go "tuple" ⟨o, its.toArray, ho, hc, strs_vals r', .inr ⟨rfl, ⟨o, ho, hc, n, hdt⟩⟩⟩
theorem call_len_setO : CallR X (.builtin "len") (fun xs H Q => ∃ p n, xs = [.ref p] ∧ H p = some (SetO p n) ∧ n < 1000000 ∧ Q (.int n) H) := by
  intro pins s σ H xs us Q I r h
  obtain ⟨p, n, rfl, hp, hn, q⟩ := h
  obtain ⟨u, rfl, rx⟩ := vals1 r
  cases rx
  obtain ⟨⟨o, es, ep, t, z1, z2, z3, z4, z5⟩, _⟩ := (show ObjOk X.prog X.w H s.heap p (SetO p n) from I.hok p _ hp)
  exact call_len_set z1 z2 z3 z4 (by omega) ⟨.int n, H, I.tok _, ⟨_, by rw [z5]⟩, q⟩
end
end L2
namespace DC
open PySem PySem.Spec PyProof.Rows L2
section
variable {X : Cx} {e : Expr} {te : ED} {p p1 p2 pos : Pos}
theorem boot_set : bootBuiltins "set" = some (.type "set") := by kernel_rfl
def vLenSet (te : ED) : ED := fun δ Q => te δ fun d => ∃ ss : List Str, (d = .lst (ss.map D.str) ∨ d = .tup (ss.map D.str)) ∧ ss.Nodup ∧ ss.length ≤ 200 ∧ Q (.int ss.length)
theorem d_lenset (hh : X.A.handled = none) (hg : Gl X "len") (hm : X.mg "len" = none) (hg2 : Gl X "set") (hm2 : X.mg "set" = none) (he : PD X e te)
    (h1 : starEach [e] X.env = (false, eval e X.env) :: starEach [] X.env := by rfl) (h2 : (backTo p2 (starEach [] X.env)).any (·.1) = false := by rfl)
    (h3 : starEach [.Call (.Name "set" p1) [e] [] p2] X.env = (false, eval (.Call (.Name "set" p1) [e] [] p2) X.env) :: starEach [] X.env := by rfl) (h4 : (backTo pos (starEach [] X.env)).any (·.1) = false := by rfl) :
    PD X (.Call (.Name "len" p) [.Call (.Name "set" p1) [e] [] p2] [] pos) (vLenSet te) := by
  refine ⟨(pe_callB call_len_setO hg hm PySem.boot_len (pa_cons (pe_callTy (call_set_strs hh) hg2 hm2 boot_set (pa_cons he.pe pa_nil h1) (he := h1) (hpl := h2)) pa_nil h3) (he := h3) (hpl := h4)).imp fun σ H Q ⟨δ, r, h⟩ => ⟨δ, r, he.mono _ _ _ (fun d ⟨ss, ed, nd, hl, k⟩ v H1 s1 dv => ?_) h⟩,
    fun δ P P' g h => he.mono _ _ _ (fun d ⟨ss, ed, nd, hl, k⟩ => ⟨ss, ed, nd, hl, g _ k⟩) h⟩
  have fin : ∀ l, H1 l = none → ∃ p n, [V.ref l] = [.ref p] ∧ upd H1 l (SetO l ss.length) p = some (SetO p n) ∧ n < 1000000 ∧ Q (.int n) (upd H1 l (SetO l ss.length)) := fun l hl' =>
    ⟨l, ss.length, rfl, upd_same, by omega, k _ _ (s1.trans (same_upd hl')) (.int _)⟩
  rcases ed with ed | ed
  · subst ed
    cases dv with
    | lst q1 q2 => exact ⟨_, ss, rfl, .inl (of_strs q2 ▸ q1), nd, by unfold scanBound; omega, fin⟩
  · subst ed
    cases dv with
    | tup q1 q2 => exact ⟨_, ss, rfl, .inr (of_strs q2 ▸ q1), nd, by unfold scanBound; omega, fin⟩
end
section
variable {P : Program} {w : World} {K : PySem.W.Frag} {mg : Str → Option Value} {base : Heap}
theorem Dm.calF {k : Nat} {C : Addr} {m qual : Str} {st : Stmt} {ps N : List Str} {sd : SpF} {t : TMD} (d : Dm K C m qual st ps) (S : FnScope N ps (defScope st)) (ms : MonoSF sd) (len : ∀ ds Q, sd ds Q → ds.length = ps.length)
    (hb : ∀ (f : Addr) (cdv : Value) (A : Around) (outer : List Env) (s : Shared) (H : Hp) (E : XK), Room k (A.deeper (envOfC qual (defScope st) s.heap.objs.size f cdv)) → PMs (Bx P w K mg base N qual st f cdv A outer s H E) (defBody st) t)
    (hr : ∀ ds Q, sd ds Q → t { nx := fun _ μ => Q .non μ, rt := Q } (startD N ds) []) : McalF P w K mg base (k + 1) C m sd := by
  obtain ⟨f, fd, F, M, c, b⟩ := d.ex
  exact ⟨⟨f, fd, ps, c, M, okF F S len (hb f) hr, b⟩, ms⟩
end
end DC

set_option maxHeartbeats 4000000
namespace K35
open PySem PySem.Spec PyProof.Rows L2 DC
def top (i : Nat) : Stmt := PySem.Challenge.pw_runrows_k35_uses_are_refused.main.body.getD i (.Pass ⟨0, 0, 0, 0⟩)
def cbody : Stmt → List Stmt
  | .ClassDef _ _ _ b _ _ _ _ _ _ _ => b
  | _ => []
theorem scM {N P : List Str} {sc : Scope} (a : sc.kind = .function := by rfl) (b : sc.isCoroutine = false := by rfl) (c : sc.isGenerator = false := by rfl) (d : N.Nodup := by decide +kernel) (e : N.take P.length = P := by rfl)
    (f : ∀ x ∈ P, sc.names.lookup x = some .local ∨ sc.names.lookup x = some .cell := by decide +kernel) (g : ∀ y ∈ sc.names, y.2 ≠ .free := by decide +kernel) : FnScope N P sc := ⟨a, b, c, d, e, f, g⟩
abbrev s_has_letters : Stmt := top 21
theorem sc_has_letters : FnScope ["text"] ["text"] (defScope s_has_letters) := scM
abbrev s_has_word_form : Stmt := top 22
theorem sc_has_word_form : FnScope ["text"] ["text"] (defScope s_has_word_form) := scM
abbrev s_is_word : Stmt := top 23
theorem sc_is_word : FnScope ["thing"] ["thing"] (defScope s_is_word) := scM
abbrev s_is_name : Stmt := top 24
theorem sc_is_name : FnScope ["thing", "words"] ["thing"] (defScope s_is_name) := scM
abbrev s_is_number : Stmt := top 25
theorem sc_is_number : FnScope ["thing"] ["thing"] (defScope s_is_number) := scM
abbrev s_is_value : Stmt := top 26
theorem sc_is_value : FnScope ["thing"] ["thing"] (defScope s_is_value) := scM
abbrev s_need_name : Stmt := top 33
theorem sc_need_name : FnScope ["name"] ["name"] (defScope s_need_name) := scM
abbrev s_once : Stmt := top 34
theorem sc_once : FnScope ["lists", "found", "names", "name"] ["lists"] (defScope s_once) := scM
abbrev s_need_sheet : Stmt := top 45
theorem sc_need_sheet : FnScope ["holds", "words"] ["holds", "words"] (defScope s_need_sheet) := scM
abbrev s_need_word : Stmt := top 46
theorem sc_need_word : FnScope ["word"] ["word"] (defScope s_need_word) := scM
abbrev s_need_on : Stmt := top 47
theorem sc_need_on : FnScope ["on"] ["on"] (defScope s_need_on) := scM
abbrev s_is_plain_kind : Stmt := top 48
theorem sc_is_plain_kind : FnScope ["kind"] ["kind"] (defScope s_is_plain_kind) := scM
abbrev s_is_stretch : Stmt := top 49
abbrev s_need_counts : Stmt := top 55
theorem sc_need_counts : FnScope ["sheet"] ["sheet"] (defScope s_need_counts) := scM
abbrev s_need_once : Stmt := top 56
theorem sc_need_once : FnScope ["names", "words"] ["names", "words"] (defScope s_need_once) := scM
abbrev s_names_looked_at : Stmt := top 57
theorem sc_names_looked_at : FnScope ["line", "names", "part"] ["line"] (defScope s_names_looked_at) := scM
abbrev s_need_known : Stmt := top 58
theorem sc_need_known : FnScope ["sheet", "found", "wanted", "line", "name"] ["sheet", "found"] (defScope s_need_known) := scM
abbrev s_need_ons : Stmt := top 59
theorem sc_need_ons : FnScope ["sheet", "found", "line", "passed", "on"] ["sheet", "found"] (defScope s_need_ons) := scM
abbrev s_need_rows : Stmt := top 60
theorem sc_need_rows : FnScope ["sheet", "line"] ["sheet"] (defScope s_need_rows) := scM
abbrev s_need_first : Stmt := top 62
theorem sc_need_first : FnScope ["first"] ["first"] (defScope s_need_first) := scM
abbrev s_has_shape : Stmt := top 72
theorem sc_has_shape : FnScope ["told"] ["told"] (defScope s_has_shape) := scM
abbrev s_plain_by : Stmt := top 73
theorem sc_plain_by : FnScope ["told", "inner", "word"] ["told", "inner"] (defScope s_plain_by) := scM
abbrev s_timed_by : Stmt := top 74
theorem sc_timed_by : FnScope ["told", "inner", "word"] ["told", "inner"] (defScope s_timed_by) := scM
abbrev s_many_within : Stmt := top 75
theorem sc_many_within : FnScope ["told"] ["told"] (defScope s_many_within) := scM
abbrev s_part_of : Stmt := top 76
theorem sc_part_of : FnScope ["told", "inner"] ["told"] (defScope s_part_of) := scM
abbrev s_kinds_of : Stmt := top 81
theorem sc_kinds_of : FnScope ["sheet", "kinds", "line", "row"] ["sheet"] (defScope s_kinds_of) := scM
abbrev s_filled : Stmt := top 83
theorem sc_filled : FnScope ["sheet", "kinds", "rows"] ["sheet"] (defScope s_filled) := scM
abbrev s_beats_of : Stmt := top 86
theorem sc_beats_of : FnScope ["sheet", "found", "beats", "name", "row", "beat"] ["sheet"] (defScope s_beats_of) := scM
abbrev s__law_cell : Stmt := top 90
theorem sc__law_cell : FnScope ["_law_script", "_law_k"] ["_law_script", "_law_k"] (defScope s__law_cell) := scM
abbrev s__law_mixed : Stmt := top 91
theorem sc__law_mixed : FnScope ["_law_cell_here", "_law_k", "_law_mix"] ["_law_cell_here", "_law_k"] (defScope s__law_mixed) := scM
abbrev s__law_names : Stmt := top 92
theorem sc__law_names : FnScope ["_law_cell_here", "_law_style", "_law_size", "_law_spot", "_law_word"] ["_law_cell_here"] (defScope s__law_names) := scM
abbrev s__law_marks : Stmt := top 93
theorem sc__law_marks : FnScope ["_law_e", "_law_marks_here"] ["_law_e"] (defScope s__law_marks) := scM
abbrev s__law_use_sheet : Stmt := top 94
theorem sc__law_use_sheet : FnScope ["_law_names_here", "_law_script", "_law_cell_here", "_law_one", "_law_rows", "_law_use", "_law_at"] ["_law_names_here", "_law_script"] (defScope s__law_use_sheet) := scM
abbrev s__law_refused : Stmt := top 95
theorem sc__law_refused : FnScope ["_law_way", "_law_sheet", "_law_e"] ["_law_way", "_law_sheet"] (defScope s__law_refused) := scM
abbrev s_law : Stmt := top 96
theorem sc_law : FnScope ["_law_script", "_law_names_here", "_law_sheet", "_law_ahead", "_law_first", "_law_k"] ["_law_script"] (defScope s_law) := scM
abbrev s_Part_inner : Stmt := (cbody (top 35)).getD 0 (.Pass ⟨0, 0, 0, 0⟩)
theorem sc_Part_inner : FnScope ["self"] ["self"] (defScope s_Part_inner) := scM
abbrev s_Part_own_names : Stmt := (cbody (top 35)).getD 1 (.Pass ⟨0, 0, 0, 0⟩)
theorem sc_Part_own_names : FnScope ["self"] ["self"] (defScope s_Part_own_names) := scM
abbrev s_Part_size : Stmt := (cbody (top 35)).getD 2 (.Pass ⟨0, 0, 0, 0⟩)
theorem sc_Part_size : FnScope ["self"] ["self"] (defScope s_Part_size) := scM
abbrev s_Part_depth : Stmt := (cbody (top 35)).getD 3 (.Pass ⟨0, 0, 0, 0⟩)
theorem sc_Part_depth : FnScope ["self"] ["self"] (defScope s_Part_depth) := scM
abbrev s_Part_need_bounds : Stmt := (cbody (top 35)).getD 4 (.Pass ⟨0, 0, 0, 0⟩)
theorem sc_Part_need_bounds : FnScope ["self"] ["self"] (defScope s_Part_need_bounds) := scM
abbrev s_Part_names : Stmt := (cbody (top 35)).getD 5 (.Pass ⟨0, 0, 0, 0⟩)
theorem sc_Part_names : FnScope ["self"] ["self"] (defScope s_Part_names) := scM
abbrev s_Given___init__ : Stmt := (cbody (top 36)).getD 0 (.Pass ⟨0, 0, 0, 0⟩)
theorem sc_Given___init__ : FnScope ["self", "value"] ["self", "value"] (defScope s_Given___init__) := scM
abbrev s_Named___init__ : Stmt := (cbody (top 37)).getD 0 (.Pass ⟨0, 0, 0, 0⟩)
theorem sc_Named___init__ : FnScope ["self", "name"] ["self", "name"] (defScope s_Named___init__) := scM
abbrev s_Named_own_names : Stmt := (cbody (top 37)).getD 1 (.Pass ⟨0, 0, 0, 0⟩)
theorem sc_Named_own_names : FnScope ["self"] ["self"] (defScope s_Named_own_names) := scM
abbrev s_Pair___init__ : Stmt := (cbody (top 39)).getD 0 (.Pass ⟨0, 0, 0, 0⟩)
theorem sc_Pair___init__ : FnScope ["self", "sign", "one", "other"] ["self", "sign", "one", "other"] (defScope s_Pair___init__) := scM
abbrev s_Pair_inner : Stmt := (cbody (top 39)).getD 1 (.Pass ⟨0, 0, 0, 0⟩)
theorem sc_Pair_inner : FnScope ["self"] ["self"] (defScope s_Pair_inner) := scM
abbrev s_Input___init__ : Stmt := (cbody (top 51)).getD 0 (.Pass ⟨0, 0, 0, 0⟩)
theorem sc_Input___init__ : FnScope ["self", "name", "kind", "on"] ["self", "name", "kind", "on"] (defScope s_Input___init__) := scM
abbrev s_Input_own_names : Stmt := (cbody (top 51)).getD 1 (.Pass ⟨0, 0, 0, 0⟩)
theorem sc_Input_own_names : FnScope ["self"] ["self"] (defScope s_Input_own_names) := scM
abbrev s_Input_own_parts : Stmt := (cbody (top 51)).getD 2 (.Pass ⟨0, 0, 0, 0⟩)
theorem sc_Input_own_parts : FnScope ["self"] ["self"] (defScope s_Input_own_parts) := scM
abbrev s_Input_is_truths : Stmt := (cbody (top 51)).getD 3 (.Pass ⟨0, 0, 0, 0⟩)
theorem sc_Input_is_truths : FnScope ["self"] ["self"] (defScope s_Input_is_truths) := scM
abbrev s_Row___init__ : Stmt := (cbody (top 52)).getD 0 (.Pass ⟨0, 0, 0, 0⟩)
theorem sc_Row___init__ : FnScope ["self", "name", "kind", "part", "on"] ["self", "name", "kind", "part", "on"] (defScope s_Row___init__) := scM
abbrev s_Row_own_names : Stmt := (cbody (top 52)).getD 1 (.Pass ⟨0, 0, 0, 0⟩)
theorem sc_Row_own_names : FnScope ["self"] ["self"] (defScope s_Row_own_names) := scM
abbrev s_Row_own_parts : Stmt := (cbody (top 52)).getD 2 (.Pass ⟨0, 0, 0, 0⟩)
theorem sc_Row_own_parts : FnScope ["self"] ["self"] (defScope s_Row_own_parts) := scM
abbrev s_Row_is_truths : Stmt := (cbody (top 52)).getD 3 (.Pass ⟨0, 0, 0, 0⟩)
theorem sc_Row_is_truths : FnScope ["self"] ["self"] (defScope s_Row_is_truths) := scM
abbrev s_Use___init__ : Stmt := (cbody (top 53)).getD 0 (.Pass ⟨0, 0, 0, 0⟩)
theorem sc_Use___init__ : FnScope ["self", "binds", "module", "parts", "on", "name"] ["self", "binds", "module", "parts", "on"] (defScope s_Use___init__) := scM
abbrev s_Use_own_names : Stmt := (cbody (top 53)).getD 1 (.Pass ⟨0, 0, 0, 0⟩)
theorem sc_Use_own_names : FnScope ["self"] ["self"] (defScope s_Use_own_names) := scM
abbrev s_Use_own_parts : Stmt := (cbody (top 53)).getD 2 (.Pass ⟨0, 0, 0, 0⟩)
theorem sc_Use_own_parts : FnScope ["self"] ["self"] (defScope s_Use_own_parts) := scM
abbrev s_Use_is_truths : Stmt := (cbody (top 53)).getD 3 (.Pass ⟨0, 0, 0, 0⟩)
theorem sc_Use_is_truths : FnScope ["self"] ["self"] (defScope s_Use_is_truths) := scM
abbrev s_Sheet___init__ : Stmt := (cbody (top 54)).getD 0 (.Pass ⟨0, 0, 0, 0⟩)
theorem sc_Sheet___init__ : FnScope ["self", "name", "inputs", "outputs", "lines", "found"] ["self", "name", "inputs", "outputs", "lines"] (defScope s_Sheet___init__) := scM
abbrev s_Sheet_all_lines : Stmt := (cbody (top 54)).getD 1 (.Pass ⟨0, 0, 0, 0⟩)
theorem sc_Sheet_all_lines : FnScope ["self"] ["self"] (defScope s_Sheet_all_lines) := scM
abbrev s_Sheet_names : Stmt := (cbody (top 54)).getD 2 (.Pass ⟨0, 0, 0, 0⟩)
theorem sc_Sheet_names : FnScope ["self", "found", "line"] ["self"] (defScope s_Sheet_names) := scM
abbrev s_Sheet_lines_by_name : Stmt := (cbody (top 54)).getD 3 (.Pass ⟨0, 0, 0, 0⟩)
theorem sc_Sheet_lines_by_name : FnScope ["self", "found", "line", "name"] ["self"] (defScope s_Sheet_lines_by_name) := scM
abbrev s_Before___init__ : Stmt := (cbody (top 66)).getD 0 (.Pass ⟨0, 0, 0, 0⟩)
theorem sc_Before___init__ : FnScope ["self", "part", "first"] ["self", "part", "first"] (defScope s_Before___init__) := scM
abbrev s_Before_inner : Stmt := (cbody (top 66)).getD 1 (.Pass ⟨0, 0, 0, 0⟩)
theorem sc_Before_inner : FnScope ["self"] ["self"] (defScope s_Before_inner) := scM
end K35

set_option maxHeartbeats 4000000
namespace K35
open PySem PySem.Spec PyProof.Rows L2 DC
inductive Pt where
  | given (v : D) | named (n : Str) | pair (g : Str) (a b : Pt) | before (p : Pt) (f : D)
structure Adr where
  given : Addr
  named : Addr
  pair : Addr
  before : Addr
def Pt.cls (A : Adr) : Pt → Addr
  | .given _ => A.given | .named _ => A.named | .pair _ _ _ => A.pair
  | .before _ _ => A.before
def Pt.d (A : Adr) : Pt → D
  | .given v => .obj A.given [("value", v)]
  | .named n => .obj A.named [("name", .str n)]
  | .pair g a b => .obj A.pair [("sign", .str g), ("one", a.d A), ("other", b.d A)]
  | .before p f => .obj A.before [("part", p.d A), ("first", f)]
def Pt.depth : Pt → Nat
  | .given _ => 1 | .named _ => 1 | .pair _ a b => max a.depth b.depth + 1
  | .before p _ => p.depth + 1
def Pt.inner : Pt → List Pt
  | .given _ => [] | .named _ => [] | .pair _ a b => [a, b]
  | .before p _ => [p]
def Pt.told : Pt → D
  | .given v => .tup [.str "given", v]
  | .named n => .tup [.str "named", .str n]
  | .pair g a b => .tup [.str g, a.told, b.told]
  | .before p f => .tup [.str "before", p.told, f]
structure AOk (K : PySem.W.Frag) (A : Adr) : Prop where
  nd : [A.given, A.named, A.pair, A.before].Nodup
  cl : ∀ C ∈ [A.given, A.named, A.pair, A.before], Cls K C
  nof : ∀ C ∈ [A.given, A.named, A.pair, A.before], ∀ f ∈ (["value", "name", "part", "sign", "one", "other", "first"] : List Str), NoAttr K C f
theorem Pt.cls_in (A : Adr) (p : Pt) : p.cls A ∈ [A.given, A.named, A.pair, A.before] := by cases p <;> simp [Pt.cls]
def Pt.ix : Pt → Nat
  | .given _ => 0 | .named _ => 1 | .pair _ _ _ => 2 | .before _ _ => 3
theorem Pt.at_ (A : Adr) (p : Pt) : [A.given, A.named, A.pair, A.before][p.ix]? = some (p.cls A) := by cases p <;> rfl
theorem nodup_at {α : Type} : ∀ {l : List α} {i j : Nat} {x : α}, l.Nodup → l[i]? = some x → l[j]? = some x → i = j := fun {l i j x} nd a b => by
  have hi : i < l.length := (List.getElem?_eq_some_iff.mp a).1
  exact (List.getElem?_inj hi nd).mp (a.trans b.symm)
theorem cls_ix {K : PySem.W.Frag} {A : Adr} (hA : AOk K A) {p q : Pt} (h : p.cls A = q.cls A) : p.ix = q.ix := nodup_at hA.nd (p.at_ A) (by rw [h]; exact q.at_ A)
theorem is_given {K : PySem.W.Frag} {A : Adr} (hA : AOk K A) {p : Pt} (h : p.cls A = A.given) : ∃ v, p = .given v := by
  have i := cls_ix hA (q := .given .non) h
  cases p with
  | given v => exact ⟨v, rfl⟩
  | _ => exact absurd i (by simp only [Pt.ix]; decide)
theorem is_named {K : PySem.W.Frag} {A : Adr} (hA : AOk K A) {p : Pt} (h : p.cls A = A.named) : ∃ n, p = .named n := by
  have i := cls_ix hA (q := .named "") h
  cases p with
  | named n => exact ⟨n, rfl⟩
  | _ => exact absurd i (by simp only [Pt.ix]; decide)
theorem is_pair {K : PySem.W.Frag} {A : Adr} (hA : AOk K A) {p : Pt} (h : p.cls A = A.pair) : ∃ g x y, p = .pair g x y := by
  have i := cls_ix hA (q := .pair "" (.given .non) (.given .non)) h
  cases p with
  | pair g x y => exact ⟨g, x, y, rfl⟩
  | _ => exact absurd i (by simp only [Pt.ix]; decide)
theorem is_before {K : PySem.W.Frag} {A : Adr} (hA : AOk K A) {p : Pt} (h : p.cls A = A.before) : ∃ x f, p = .before x f := by
  have i := cls_ix hA (q := .before (.given .non) .non) h
  cases p with
  | before x f => exact ⟨x, f, rfl⟩
  | _ => exact absurd i (by simp only [Pt.ix]; decide)
def sdP (A : Adr) (n : Nat) (g : Pt → D) (C : Addr) : SpD := fun ds Q => ∃ p : Pt, ds = [p.d A] ∧ p.cls A = C ∧ p.depth ≤ n ∧ Q (g p)
theorem m_P {A : Adr} {n : Nat} {g : Pt → D} {C : Addr} : MonoS (sdP A n g C) := fun ds P P' f ⟨p, e, c, h, q⟩ => ⟨p, e, c, h, f _ q⟩
theorem l_P {A : Adr} {n : Nat} {g : Pt → D} {C : Addr} (ds : List D) (Q : D → Prop) (h : sdP A n g C ds Q) : ds.length = 1 := by obtain ⟨p, e, _⟩ := h; rw [e]; rfl
def isP (A : Adr) (C : Addr) : Prop := ∃ p : Pt, p.cls A = C
def noM (m : Str) : Prop := ∀ f ∈ (["value", "name", "part", "sign", "one", "other", "first"] : List Str), (m == f) = false
theorem no_meth (A : Adr) {m : Str} (h : noM m) (p : Pt) : ∃ gs, p.d A = .obj (p.cls A) gs ∧ gs.lookup m = none := by
  have l : ∀ {f : Str} {d : D} {r : List (Str × D)}, f ∈ (["value", "name", "part", "sign", "one", "other", "first"] : List Str) → r.lookup m = none → ((f, d) :: r).lookup m = none := fun hf hr => by
    rw [List.lookup_cons, h _ hf]
    exact hr
  cases p <;> refine ⟨_, rfl, ?_⟩ <;> repeat (first | rfl | refine l (by decide) ?_)
theorem vFld_of {K : PySem.W.Frag} {δ : SD} {i : Nat} {C : Addr} {gs : List (Str × D)} {f : Str} {r : D} {Q : D → Prop} (h : δ[i]? = some (some (.obj C gs))) (c : Cls K C) (n : NoAttr K C f) (l : gs.lookup f = some r) (q : Q r) : vFld K (vVar i) f δ Q := ⟨_, h, C, gs, r, rfl, c, n, l, q⟩
theorem vMeth_of {A : Adr} {n : Nat} {g : Pt → D} {m : Str} {ta : ED} {δ : SD} {p : Pt} {Q : D → Prop} (mt : MonoE ta) (hm : noM m) (h : ta δ fun d => d = p.d A) (hd : p.depth ≤ n) (q : Q (g p)) :
    vMeth (isP A) m (sdP A n g) [] ta aNil δ Q := mt _ _ _ (fun d e => by
  obtain ⟨gs, e1, e2⟩ := no_meth A hm p
  exact ⟨p.cls A, gs, e.trans e1, e2, ⟨p, rfl⟩, p, by rw [List.append_nil, e], rfl, hd, q⟩) h
theorem noM_inner : noM "inner" := by unfold noM; decide +kernel
def isVal (d : D) : Prop := (∃ b, d = .bl b) ∨ ∃ i : Int, d = .int i ∧ -128 ≤ i ∧ i ≤ 127
def isFirst (d : D) : Prop := d = .non ∨ isVal d
def sdQ (A : Adr) (n : Nat) (ok : Pt → Prop) (g : Pt → D) (C : Addr) : SpD := fun ds Q => ∃ p : Pt, ds = [p.d A] ∧ p.cls A = C ∧ p.depth ≤ n ∧ ok p ∧ Q (g p)
theorem m_Q {A : Adr} {n : Nat} {ok : Pt → Prop} {g : Pt → D} {C : Addr} : MonoS (sdQ A n ok g C) := fun ds P P' f ⟨p, e, c, h, o, q⟩ => ⟨p, e, c, h, o, f _ q⟩
theorem l_Q {A : Adr} {n : Nat} {ok : Pt → Prop} {g : Pt → D} {C : Addr} (ds : List D) (Q : D → Prop) (h : sdQ A n ok g C ds Q) : ds.length = 1 := by obtain ⟨p, e, _⟩ := h; rw [e]; rfl
theorem vMethQ_of {A : Adr} {n : Nat} {ok : Pt → Prop} {g : Pt → D} {m : Str} {ta : ED} {δ : SD} {p : Pt} {Q : D → Prop} (mt : MonoE ta) (hm : noM m) (h : ta δ fun d => d = p.d A) (hd : p.depth ≤ n) (ho : ok p) (q : Q (g p)) :
    vMeth (isP A) m (sdQ A n ok g) [] ta aNil δ Q := mt _ _ _ (fun d e => by
  obtain ⟨gs, e1, e2⟩ := no_meth A hm p
  exact ⟨p.cls A, gs, e.trans e1, e2, ⟨p, rfl⟩, p, by rw [List.append_nil, e], rfl, hd, ho, q⟩) h
abbrev MQ (P : Program) (w : World) (K : PySem.W.Frag) (mg : Str → Option Value) (base : Heap) (A : Adr) (j : Nat) (m : Str) (n : Nat) (ok : Pt → Prop) (g : Pt → D) : Prop := ∀ C, isP A C → Mcal P w K mg base j C m (sdQ A n ok g C) []
section
seal wpAny
variable {P : Program} {w : World} {K : PySem.W.Frag} {mg : Str → Option Value} {base : Heap} {A : Adr} {n j : Nat}
abbrev MP (P : Program) (w : World) (K : PySem.W.Frag) (mg : Str → Option Value) (base : Heap) (A : Adr) (j : Nat) (m : Str) (n : Nat) (g : Pt → D) : Prop := ∀ C, isP A C → Mcal P w K mg base j C m (sdP A n g C) []
theorem Pt.depth_pos (p : Pt) : 0 < p.depth := by cases p <;> simp only [Pt.depth] <;> omega
theorem Dm.never {C : Addr} {m qual : Str} {st : Stmt} {ps : List Str} {sd : SpD} (d : Dm K C m qual st ps) (ms : MonoS sd) (h : ∀ ds Q, ¬ sd ds Q) : Mcal P w K mg base j C m sd [] := by
  obtain ⟨f, fd, F, M, c, b⟩ := d.ex
  exact ⟨⟨f, fd, ps, [], [], c, M, ⟨fun vs H Q E ⟨ds, _, q⟩ => (h _ _ q).elim, fun A outer s H args us vs Q E _ _ _ _ ⟨ds, _, q⟩ => (h _ _ q).elim⟩, b, .nil, fun _ => .nil⟩, ms⟩
theorem zero_P {g : Pt → D} {C : Addr} (ds : List D) (Q : D → Prop) : ¬ sdP A 0 g C ds Q := fun ⟨p, _, _, h, _⟩ => absurd p.depth_pos (by omega)
end
end K35

set_option maxHeartbeats 4000000
namespace K35
open PySem PySem.Spec PyProof.Rows L2 DC
mutual
def Pt.size : Pt → Nat
  | .given _ => 1 | .named _ => 1 | .pair _ a b => a.size + b.size + 1
  | .before p _ => p.size + 1
end
theorem Pt.size_inner (p : Pt) : (p.size : Int) = 1 + (p.inner.map fun q => (q.size : Int)).sum := by
  cases p <;> simp only [Pt.size, Pt.inner, List.map_cons, List.map_nil, List.sum_cons, List.sum_nil] <;> omega
theorem Pt.depth_inner (p : Pt) : (p.depth : Int) = 1 + maxI 0 (p.inner.map fun q => (q.depth : Int)) := by
  cases p <;> simp only [Pt.depth, Pt.inner, List.map_cons, List.map_nil, maxI, List.foldl_cons, List.foldl_nil] <;> omega
theorem Pt.in_depth {p q : Pt} (h : q ∈ p.inner) {n : Nat} (hd : p.depth ≤ n + 1) : q.depth ≤ n := by
  cases p <;> simp only [Pt.inner, Pt.depth, List.mem_cons, List.not_mem_nil, or_false] at h hd
  case pair => rcases h with rfl | rfl <;> omega
  case before => subst h; omega
theorem Pt.inner_len (p : Pt) : p.inner.length ≤ 3 := by cases p <;> simp [Pt.inner]
def gInner (A : Adr) (p : Pt) : D := .tup (p.inner.map (Pt.d A))
theorem noM_size : noM "size" := by unfold noM; decide +kernel
theorem noM_depth : noM "depth" := by unfold noM; decide +kernel
theorem m_var {i : Nat} : MonoE (vVar i) := fun δ P P' f ⟨d, hd, k⟩ => ⟨d, hd, f d k⟩
theorem inner_at {A : Adr} {g : Pt → D} {ps : List Pt} {i : Nat} {d : D} {o : Option D} (h1 : (ps.map (Pt.d A))[i]? = some d) (h2 : (ps.map fun q => some (g q))[i]? = some o) : ∃ q ∈ ps, q.d A = d ∧ some (g q) = o := by
  rw [List.getElem?_map] at h1 h2
  cases e : ps[i]? with
  | none => rw [e] at h1; cases h1
  | some q =>
    rw [e] at h1 h2
    exact ⟨q, List.mem_of_getElem? e, by simpa using h1, by simpa using h2⟩
theorem filterMap_some {α β : Type} (f : α → β) : ∀ l : List α, l.filterMap (id ∘ fun q => some (f q)) = l.map f
  | [] => rfl
  | a :: l => by rw [List.map_cons, ← filterMap_some f l]; rfl
section
seal wpAny
variable {P : Program} {w : World} {K : PySem.W.Frag} {mg : Str → Option Value} {base : Heap} {A : Adr} {n j : Nat}
theorem size_of (d : ∀ C, isP A C → Dm K C "size" "Part.size" s_Part_size ["self"]) (n_sum : mg "sum" = none) (m_inner : MP P w K mg base A j "inner" (n + 1) (gInner A)) (m_size : MP P w K mg base A j "size" n fun p => .int p.size) : MP P w K mg base A (j + 1) "size" (n + 1) fun p => .int p.size := by
  intro C hC
  refine (d C hC).cal sc_Part_size m_P l_P (fun f cdv A outer s H E hr => have hu := hr.units; have hh := hr.hd; have sc := sc_Part_size
    (ss_one (s_ret (d_add d_int (d_sum hh (by rfl) n_sum (a_cons (d_lc (x := "part") (caps := []) (cn := []) (cl := []) (comp0 (by rfl) (by rfl) (by decide +kernel) (by decide +kernel) (by decide +kernel)) rfl (i_any (d_m0 m_inner hr (by omega) (dv 0))) (fun C fp s₂ H₂ => pg_name (i := 0) (show (["part"] : List Str).Nodup by decide +kernel) rfl (Or.inl rfl) (.inr rfl)) (fun C fp s₂ H₂ => ts_nil) (fun C fp s₂ H₂ => (d_m0 m_size hr (by omega) (dv 0)))) a_nil)))))) ?_
  rintro ds Q ⟨p, rfl, hc, hd, q⟩
  refine vMeth_of m_var noM_inner ⟨_, rfl, rfl⟩ hd ?_
  refine ⟨p.inner.map (Pt.d A), rfl, p.inner.map fun q => some (.int q.size), by simp, fun i d o hd' ho => ?_, ?_, ?_⟩
  · obtain ⟨r, hr, e1, e2⟩ := inner_at hd' ho
    subst e1 e2
    exact ⟨rfl, fun _ => vMeth_of m_var noM_size ⟨_, rfl, rfl⟩ (p.in_depth hr hd) rfl⟩
  · rw [List.length_map]; exact Nat.lt_of_le_of_lt p.inner_len (by decide)
  · refine ⟨p.inner.map fun q => (q.size : Int), ?_, ?_⟩
    · rw [List.filterMap_map, List.map_map]
      congr 2
      exact filterMap_some _ _
    · have q' : Q (.int (p.size : Int)) := q
      rw [Pt.size_inner] at q'
      exact q'
theorem depth_of (d : ∀ C, isP A C → Dm K C "depth" "Part.depth" s_Part_depth ["self"]) (n_max : mg "max" = none) (m_inner : MP P w K mg base A j "inner" (n + 1) (gInner A)) (m_depth : MP P w K mg base A j "depth" n fun p => .int p.depth) : MP P w K mg base A (j + 1) "depth" (n + 1) fun p => .int p.depth := by
  intro C hC
  refine (d C hC).cal sc_Part_depth m_P l_P (fun f cdv A outer s H E hr => have hu := hr.units; have hh := hr.hd; have sc := sc_Part_depth
    (ss_one (s_ret (d_add d_int (d_maxD hh (by rfl) n_max (d_lc (x := "part") (caps := []) (cn := []) (cl := []) (comp0 (by rfl) (by rfl) (by decide +kernel) (by decide +kernel) (by decide +kernel)) rfl (i_any (d_m0 m_inner hr (by omega) (dv 0))) (fun C fp s₂ H₂ => pg_name (i := 0) (show (["part"] : List Str).Nodup by decide +kernel) rfl (Or.inl rfl) (.inr rfl)) (fun C fp s₂ H₂ => ts_nil) (fun C fp s₂ H₂ => (d_m0 m_depth hr (by omega) (dv 0)))) d_int))))) ?_
  rintro ds Q ⟨p, rfl, hc, hd, q⟩
  refine vMeth_of m_var noM_inner ⟨_, rfl, rfl⟩ hd ?_
  refine ⟨p.inner.map (Pt.d A), rfl, p.inner.map fun q => some (.int q.depth), by simp, fun i d o hd' ho => ?_, ?_, ?_⟩
  · obtain ⟨r, hr, e1, e2⟩ := inner_at hd' ho
    subst e1 e2
    exact ⟨rfl, fun _ => vMeth_of m_var noM_depth ⟨_, rfl, rfl⟩ (p.in_depth hr hd) rfl⟩
  · rw [List.length_map]; exact Nat.lt_of_le_of_lt p.inner_len (by decide)
  · refine ⟨p.inner.map fun q => (q.depth : Int), 0, ?_, rfl, ?_⟩
    · rw [List.filterMap_map, List.map_map]
      congr 1
      exact filterMap_some _ _
    · have q' : Q (.int (p.depth : Int)) := q
      rw [Pt.depth_inner] at q'
      exact q'
end
end K35

set_option maxHeartbeats 4000000
namespace K35
open PySem PySem.Spec PyProof.Rows L2 DC
theorem Pt.in_size {p q : Pt} (h : q ∈ p.inner) : q.size ≤ p.size := by
  cases p <;> simp only [Pt.inner, Pt.size, List.mem_cons, List.not_mem_nil, or_false] at h ⊢
  case pair => rcases h with rfl | rfl <;> omega
  case before => subst h; omega
section
seal wpAny
variable {P : Program} {w : World} {K : PySem.W.Frag} {mg : Str → Option Value} {base : Heap} {A : Adr} {n j : Nat}
structure DInner (K : PySem.W.Frag) (A : Adr) : Prop where
  given : Dm K A.given "inner" "Part.inner" s_Part_inner ["self"]
  named : Dm K A.named "inner" "Part.inner" s_Part_inner ["self"]
  pair : Dm K A.pair "inner" "Pair.inner" s_Pair_inner ["self"]
  before : Dm K A.before "inner" "Before.inner" s_Before_inner ["self"]
theorem inner_given (hA : AOk K A) (d : Dm K A.given "inner" "Part.inner" s_Part_inner ["self"]) : Mcal P w K mg base (j + 1) A.given "inner" (sdP A n (gInner A) A.given) [] := by
  refine d.cal sc_Part_inner m_P l_P (fun f cdv A outer s H E hr => have hu := hr.units; have hh := hr.hd; have sc := sc_Part_inner
    (ss_one (s_ret (d_tup a_nil)))) ?_
  rintro ds Q ⟨p, rfl, hc, hd, q⟩
  have c := hA.cl _ (Pt.cls_in A p)
  have no := hA.nof _ (Pt.cls_in A p)
  obtain ⟨v, rfl⟩ := is_given hA hc
  exact ⟨(show 0 ≤ sizeLine by decide), q⟩
theorem inner_named (hA : AOk K A) (d : Dm K A.named "inner" "Part.inner" s_Part_inner ["self"]) : Mcal P w K mg base (j + 1) A.named "inner" (sdP A n (gInner A) A.named) [] := by
  refine d.cal sc_Part_inner m_P l_P (fun f cdv A outer s H E hr => have hu := hr.units; have hh := hr.hd; have sc := sc_Part_inner
    (ss_one (s_ret (d_tup a_nil)))) ?_
  rintro ds Q ⟨p, rfl, hc, hd, q⟩
  have c := hA.cl _ (Pt.cls_in A p)
  have no := hA.nof _ (Pt.cls_in A p)
  obtain ⟨s, rfl⟩ := is_named hA hc
  exact ⟨(show 0 ≤ sizeLine by decide), q⟩
theorem inner_pair (hA : AOk K A) (d : Dm K A.pair "inner" "Pair.inner" s_Pair_inner ["self"]) : Mcal P w K mg base (j + 1) A.pair "inner" (sdP A n (gInner A) A.pair) [] := by
  refine d.cal sc_Pair_inner m_P l_P (fun f cdv A outer s H E hr => have hu := hr.units; have hh := hr.hd; have sc := sc_Pair_inner
    (ss_one (s_ret (d_tup (a_cons (d_fldK K rfl (dv 0) (by rfl)) (a_cons (d_fldK K rfl (dv 0) (by rfl)) a_nil)))))) ?_
  rintro ds Q ⟨p, rfl, hc, hd, q⟩
  have c := hA.cl _ (Pt.cls_in A p)
  have no := hA.nof _ (Pt.cls_in A p)
  obtain ⟨g, x, y, rfl⟩ := is_pair hA hc
  exact (vFld_of rfl c (no _ (by decide)) (by kernel_rfl) (vFld_of rfl c (no _ (by decide)) (by kernel_rfl) ⟨(show 2 ≤ sizeLine by decide), q⟩))
theorem inner_before (hA : AOk K A) (d : Dm K A.before "inner" "Before.inner" s_Before_inner ["self"]) : Mcal P w K mg base (j + 1) A.before "inner" (sdP A n (gInner A) A.before) [] := by
  refine d.cal sc_Before_inner m_P l_P (fun f cdv A outer s H E hr => have hu := hr.units; have hh := hr.hd; have sc := sc_Before_inner
    (ss_one (s_ret (d_tup (a_cons (d_fldK K rfl (dv 0) (by rfl)) a_nil))))) ?_
  rintro ds Q ⟨p, rfl, hc, hd, q⟩
  have c := hA.cl _ (Pt.cls_in A p)
  have no := hA.nof _ (Pt.cls_in A p)
  obtain ⟨x, f, rfl⟩ := is_before hA hc
  exact (vFld_of rfl c (no _ (by decide)) (by kernel_rfl) ⟨(show 1 ≤ sizeLine by decide), q⟩)
theorem inner_all (hA : AOk K A) (d : DInner K A) (n : Nat) : MP P w K mg base A (j + 1) "inner" n (gInner A) := fun C ⟨p, e⟩ => by
  subst e
  cases p
  · exact inner_given hA d.given
  · exact inner_named hA d.named
  · exact inner_pair hA d.pair
  · exact inner_before hA d.before
theorem by_depth {m qual : Str} {st : Stmt} {ps : List Str} {g : Pt → D} (d : ∀ C, isP A C → Dm K C m qual st ps) (h : ∀ n j, MP P w K mg base A (j + 1) m n g → MP P w K mg base A (j + 2) m (n + 1) g) : ∀ n, MP P w K mg base A (n + 1) m n g
  | 0 => fun C hC => (Dm.never (j := 1) (d C hC) m_P zero_P)
  | n + 1 => h n n (by_depth d h n)
theorem size_all (hA : AOk K A) (dI : DInner K A) (d : ∀ C, isP A C → Dm K C "size" "Part.size" s_Part_size ["self"]) (n_sum : mg "sum" = none) (n : Nat) : MP P w K mg base A (n + 1) "size" n fun p => .int p.size :=
  by_depth d (fun n j h => size_of d n_sum (inner_all (j := j) hA dI _) h) n
theorem depth_all (hA : AOk K A) (dI : DInner K A) (d : ∀ C, isP A C → Dm K C "depth" "Part.depth" s_Part_depth ["self"]) (n_max : mg "max" = none) (n : Nat) : MP P w K mg base A (n + 1) "depth" n fun p => .int p.depth :=
  by_depth d (fun n j h => depth_of d n_max (inner_all (j := j) hA dI _) h) n
end
end K35

set_option maxHeartbeats 4000000
namespace K35
open PySem PySem.Spec PyProof.Rows L2 DC
structure GI (mg : Str → Option Value) (x : Str) (i : Int) : Prop where
  ex : ∃ t, mg x = some (.int i t)
def sdNum : SpD := fun ds Q => ∃ i : Int, ds = [.int i] ∧ Q (.bl (decide (-128 ≤ i) && decide (i ≤ 127)))
def sdVal : SpD := fun ds Q => (∃ i : Int, ds = [.int i] ∧ Q (.bl (decide (-128 ≤ i) && decide (i ≤ 127)))) ∨ ∃ b, ds = [.bl b] ∧ Q (.bl true)
theorem noM_bounds : noM "need_bounds" := by unfold noM; decide +kernel
def okB (p : Pt) : Prop := p.depth ≤ 10 ∧ p.size ≤ 40
section
seal wpAny
variable {P : Program} {w : World} {K : PySem.W.Frag} {mg : Str → Option Value} {base : Heap} {A : Adr} {n j : Nat}
theorem c_is_number (d : Df K mg "is_number" s_is_number ["thing"]) (n_isinstance : mg "isinstance" = none) (n_bool : mg "bool" = none) (n_int : mg "int" = none) (g1 : GI mg "LOWEST" (-128)) (g2 : GI mg "HIGHEST" 127) : Cal P w K mg base (j + 1) "is_number" ["thing"] sdNum := by
  obtain ⟨t1, q_LOWEST⟩ := g1.ex
  obtain ⟨t2, q_HIGHEST⟩ := g2.ex
  have r_LOWEST : RelV (.int (-128)) (.int (-128) t1) := ⟨_, rfl⟩
  have r_HIGHEST : RelV (.int 127) (.int 127 t2) := ⟨_, rfl⟩
  have v_LOWEST : ∀ H, Dv K H (.int (-128)) (.int (-128)) := fun _ => .int _
  have v_HIGHEST : ∀ H, Dv K H (.int 127) (.int 127) := fun _ => .int _
  refine d.cal sc_is_number (fun ds P P' g ⟨i, e, q⟩ => ⟨i, e, g _ q⟩) (fun ds Q ⟨d, e, _⟩ => by rw [e]; rfl) (fun f cdv A outer s H E hr => have hu := hr.units; have hh := hr.hd; have sc := sc_is_number
    (ss_cons (s_if (PWd.td (w_or (t_tru (isi_bool (by rfl) n_isinstance (by rfl) n_bool (dv 0))) (w_or1 (t_not (t_tru (isi_int (by rfl) n_isinstance (by rfl) n_int (dv 0))))))) (ss_one (s_ret d_bl)) ss_nil)
  (ss_one (s_ret (d_lele (d_glob (by rfl) q_LOWEST r_LOWEST v_LOWEST) (dv 0) (d_glob (by rfl) q_HIGHEST r_HIGHEST v_HIGHEST)))))) ?_
  rintro ds Q ⟨i, rfl, q⟩
  refine ⟨_, rfl, false, rfl, _, rfl, iteF ⟨_, rfl, true, rfl, _, rfl, iteF ⟨_, rfl, _, rfl, ?_⟩⟩⟩
  by_cases h : (-128 : Int) ≤ i
  · rw [decide_eq_true h] at q ⊢
    exact iteT q
  · rw [decide_eq_false h] at q ⊢
    exact iteF q
theorem c_is_value (d : Df K mg "is_value" s_is_value ["thing"]) (n_isinstance : mg "isinstance" = none) (n_bool : mg "bool" = none) (c_is_number : Cal P w K mg base j "is_number" ["thing"] sdNum) : Cal P w K mg base (j + 1) "is_value" ["thing"] sdVal := by
  refine d.cal sc_is_value (fun ds P P' g h => h.elim (fun ⟨i, e, q⟩ => .inl ⟨i, e, g _ q⟩) fun ⟨i, e, q⟩ => .inr ⟨i, e, g _ q⟩) (fun ds Q h => h.elim (fun ⟨d, e, _⟩ => by rw [e]; rfl) fun ⟨d, e, _⟩ => by rw [e]; rfl) (fun f cdv A outer s H E hr => have hu := hr.units; have hh := hr.hd; have sc := sc_is_value
    (ss_one (s_ret (d_or (isi_bool (by rfl) n_isinstance (by rfl) n_bool (dv 0)) (d_one (d_cal c_is_number hr (by omega) (by rfl) (a_cons (dv 0) a_nil))))))) ?_
  rintro ds Q (⟨i, rfl, q⟩ | ⟨b, rfl, q⟩)
  · exact ⟨_, rfl, false, rfl, _, rfl, iteF ⟨_, rfl, i, rfl, q⟩⟩
  · exact ⟨_, rfl, true, rfl, _, rfl, iteT q⟩
theorem bounds_of (d : ∀ C, isP A C → Dm K C "need_bounds" "Part.need_bounds" s_Part_need_bounds ["self"]) (m_depth : MP P w K mg base A j "depth" n fun p => .int p.depth) (m_size : MP P w K mg base A j "size" n fun p => .int p.size) (g1 : GI mg "DEEPEST" 10) (g2 : GI mg "LARGEST" 40) :
    MQ P w K mg base A (j + 1) "need_bounds" n okB fun _ => .non := by
  obtain ⟨t1, q_DEEPEST⟩ := g1.ex
  obtain ⟨t2, q_LARGEST⟩ := g2.ex
  have r_DEEPEST : RelV (.int 10) (.int 10 t1) := ⟨_, rfl⟩
  have r_LARGEST : RelV (.int 40) (.int 40 t2) := ⟨_, rfl⟩
  have v_DEEPEST : ∀ H, Dv K H (.int 10) (.int 10) := fun _ => .int _
  have v_LARGEST : ∀ H, Dv K H (.int 40) (.int 40) := fun _ => .int _
  intro C hC
  refine (d C hC).cal sc_Part_need_bounds m_Q l_Q (fun f cdv A outer s H E hr => have hu := hr.units; have hh := hr.hd; have sc := sc_Part_need_bounds
    (ss_one (s_if (PWd.td (w_or (t_gt (d_m0 m_depth hr (by omega) (dv 0)) (d_glob (by rfl) q_DEEPEST r_DEEPEST v_DEEPEST)) (w_or1 (t_gt (d_m0 m_size hr (by omega) (dv 0)) (d_glob (by rfl) q_LARGEST r_LARGEST v_LARGEST))))) (ss_one s_never) ss_nil))) ?_
  rintro ds Q ⟨p, rfl, hc, hd, ho, q⟩
  obtain ⟨h1, h2⟩ := ho
  have e1 : decide ((10 : Int) < p.depth) = false := decide_eq_false (by omega)
  have e2 : decide ((40 : Int) < p.size) = false := decide_eq_false (by omega)
  refine vMeth_of (p := p) m_var noM_depth ⟨_, rfl, rfl⟩ hd ⟨_, rfl, ?_⟩
  show if decide ((10 : Int) < p.depth) = true then _ else _
  rw [e1]
  refine iteF (vMeth_of (p := p) m_var noM_size ⟨_, rfl, rfl⟩ hd ⟨_, rfl, ?_⟩)
  show if decide ((40 : Int) < p.size) = true then _ else _
  rw [e2]
  exact iteF q
theorem init_given (hc : Cls K A.given) (hn : NoAttr K A.given "value") (d : Di K mg "Given" A.given "Given.__init__" s_Given___init__ ["self", "value"] []) (c_is_value : Cal P w K mg base j "is_value" ["thing"] sdVal) :
    Mkr P w K mg base (j + 1) "Given" A.given (fun ds Q => ∃ v, ds = [v] ∧ isVal v ∧ Q [("value", v)]) [] := by
  refine d.mkr sc_Given___init__ (fun ds P P' g ⟨v, e, h, q⟩ => ⟨v, e, h, g _ q⟩) (fun ds Q ⟨v, e, _⟩ => by rw [e]; rfl) (fun f cdv A outer s H E hr => have hu := hr.units; have hh := hr.hd; have sc := sc_Given___init__
    (i_cons (i_free (s_if (t_not (t_tru (d_cal c_is_value hr (by omega) (by rfl) (a_cons (dv 1) a_nil)))) (ss_one s_never) ss_nil))
  (i_cons (i_setK K rfl rfl (Or.inl rfl) (dv 1))
  i_nil))) ?_
  rintro a ds Q ⟨v, rfl, hv, q⟩
  rcases hv with ⟨b, rfl⟩ | ⟨i, rfl, h1, h2⟩
  · exact ⟨_, rfl, .inr ⟨b, rfl, _, rfl, ⟨_, rfl, rfl, hc, hn, (by decide), q⟩⟩⟩
  · refine ⟨_, rfl, .inl ⟨i, rfl, true, by simp [truD, h1, h2], ⟨_, rfl, rfl, hc, hn, (by decide), q⟩⟩⟩
end
end K35

set_option maxHeartbeats 4000000
namespace K35
open PySem PySem.Spec PyProof.Rows L2 DC
def sdFirst : SpD := fun ds Q => ∃ f, ds = [f] ∧ isFirst f ∧ Q .non
theorem putD_len (f : Str) (d : D) : ∀ gs : FD, (putD f d gs).length ≤ gs.length + 1
  | [] => Nat.le_refl _
  | (g, e) :: r => by
    unfold putD
    split
    · exact Nat.le_succ _
    · exact Nat.succ_le_succ (putD_len f d r)
theorem pl0 : ([] : FD).length < 1000 := by decide
theorem pl1 {f : Str} {d : D} : (putD f d []).length < 1000 := Nat.lt_of_le_of_lt (putD_len f d []) (by decide)
theorem pl2 {f g : Str} {d e : D} : (putD f d (putD g e [])).length < 1000 := Nat.lt_of_le_of_lt (Nat.le_trans (putD_len f d _) (Nat.succ_le_succ (putD_len g e []))) (by decide)
section
seal wpAny
variable {P : Program} {w : World} {K : PySem.W.Frag} {mg : Str → Option Value} {base : Heap} {A : Adr} {n j : Nat}
theorem c_need_first (d : Df K mg "need_first" s_need_first ["first"]) (c_is_value : Cal P w K mg base j "is_value" ["thing"] sdVal) : Cal P w K mg base (j + 1) "need_first" ["first"] sdFirst := by
  refine d.cal sc_need_first (fun ds P P' g ⟨f, e, h, q⟩ => ⟨f, e, h, g _ q⟩) (fun ds Q ⟨f, e, _⟩ => by rw [e]; rfl) (fun f cdv A outer s H E hr => have hu := hr.units; have hh := hr.hd; have sc := sc_need_first
    (ss_one (s_if (PWd.td (w_and (t_isnot (dv 0) d_non) (w_and1 (t_not (t_tru (d_cal c_is_value hr (by omega) (by rfl) (a_cons (dv 0) a_nil))))))) (ss_one s_never) ss_nil))) ?_
  rintro ds Q ⟨f, rfl, hf, q⟩
  rcases hf with rfl | ⟨b, rfl⟩ | ⟨i, rfl, h1, h2⟩
  · exact ⟨_, rfl, _, rfl, q⟩
  · exact ⟨_, rfl, _, rfl, _, rfl, .inr ⟨b, rfl, _, rfl, q⟩⟩
  · exact ⟨_, rfl, _, rfl, _, rfl, .inl ⟨i, rfl, true, by simp [truD, h1, h2], q⟩⟩
theorem init_before (hA : AOk K A) (d : Di K mg "Before" A.before "Before.__init__" s_Before___init__ ["self", "part", "first"] []) (c_need_first : Cal P w K mg base j "need_first" ["first"] sdFirst) (m_need_bounds : MQ P w K mg base A j "need_bounds" n okB fun _ => .non) :
    Mkr P w K mg base (j + 1) "Before" A.before (fun ds Q => ∃ (p : Pt) (f : D), ds = [p.d A, f] ∧ isFirst f ∧ (Pt.before p f).depth ≤ n ∧ okB (.before p f) ∧ Q [("part", p.d A), ("first", f)]) [] := by
  have hc := hA.cl A.before (by simp)
  have hn := hA.nof A.before (by simp)
  refine d.mkr sc_Before___init__ (fun ds P P' g ⟨v, u, e, k, h, o, q⟩ => ⟨v, u, e, k, h, o, g _ q⟩) (fun ds Q ⟨v, u, e, _⟩ => by rw [e]; rfl) (fun f cdv A outer s H E hr => have hu := hr.units; have hh := hr.hd; have sc := sc_Before___init__
    (i_cons (i_free (s_expr (d_cal c_need_first hr (by omega) (by rfl) (a_cons (dv 2) a_nil))))
  (i_cons (i_setK K rfl rfl (Or.inl rfl) (dv 1))
  (i_cons (i_setK K rfl rfl (Or.inl rfl) (dv 2))
  (i_rest (ss_one (s_expr (d_m0 m_need_bounds hr (by omega) (dv 0))))))))) ?_
  rintro a ds Q ⟨p, f, rfl, hf, hd, ho, q⟩
  exact ⟨_, rfl, _, rfl, hf, _, rfl, rfl, hc, hn _ (by decide), (by first | exact pl0 | exact pl1 | exact pl2), _, rfl, rfl, hc, hn _ (by decide), (by first | exact pl0 | exact pl1 | exact pl2), rfl, vMethQ_of (p := .before p f) m_var noM_bounds ⟨_, rfl, rfl⟩ hd ho q⟩
end
end K35

set_option maxHeartbeats 4000000
namespace K35
open PySem PySem.Spec PyProof.Rows L2 DC
theorem in_strs (n : Str) (l : List Str) : inD (.str n) (l.map D.str) = l.contains n := by
  unfold inD
  rw [List.any_map, List.contains_eq_any_beq]
  congr 1
  funext x
  show (x == n) = (n == x)
  exact Bool.beq_comm
theorem flat_strs (l : List Str) : (l.map D.str).all flatD = true := by
  rw [List.all_eq_true]
  intro d hd
  obtain ⟨x, _, rfl⟩ := List.mem_map.mp hd
  rfl
def letters : Str := "abcdefghijklmnopqrstuvwxyz"
def signs (x : Str) : List Str := x.cps.toList.map fun c => ⟨#[c]⟩
def inL (c : Str) : Bool := subStr c letters
def letB (x : Str) : Bool := decide ((0 : Int) < (x.length : Int)) && (signs x).all inL
def formB (x : Str) : Bool := decide ((x.length : Int) ≤ 8) && letB x
def keptL : List Str := ["module", "in", "out", "row", "use", "end", "number", "truth", "on", "yes", "no", "not", "and", "or", "if", "before", "then", "when", "held"]
def wordB (x : Str) : Bool := formB x && !keptL.contains x
def dot : Str := "."
def nameB (x : Str) : Bool := if decide (((Txt.split x dot).length : Int) = 1) = true then wordB x else decide (((Txt.split x dot).length : Int) ≤ 4) && (Txt.split x dot).all formB
structure GD (K : PySem.W.Frag) (mg : Str → Option Value) (x : Str) (d : D) : Prop where
  ex : ∃ v u, mg x = some u ∧ RelV v u ∧ ∀ H, Dv K H v d
def sdS (g : Str → D) : SpD := fun ds Q => ∃ x : Str, ds = [.str x] ∧ x.length ≤ 100000 ∧ Q (g x)
theorem m_S {g : Str → D} : MonoS (sdS g) := fun ds P P' f ⟨x, e, h, q⟩ => ⟨x, e, h, f _ q⟩
theorem l_S {g : Str → D} (ds : List D) (Q : D → Prop) (h : sdS g ds Q) : ds.length = 1 := by obtain ⟨x, e, _⟩ := h; rw [e]; rfl
theorem str_len {x : Str} (h : x.length ≤ 100000) : x.length ≤ sizeLine := Nat.le_trans h (by decide)
theorem castB {Q : D → Prop} {a b : Bool} (e : a = b) (q : Q (.bl a)) : Q (.bl b) := e ▸ q
theorem le_sum : ∀ {l : List Nat} {a : Nat}, a ∈ l → a ≤ l.sum
  | b :: l, a, h => by
    rw [List.sum_cons]
    rcases List.mem_cons.mp h with rfl | h
    · exact Nat.le_add_right _ _
    · exact Nat.le_trans (le_sum h) (Nat.le_add_left _ _)
def gLet : D → D
  | .str z => .bl (inL z)
  | _ => .non
def gForm : D → D
  | .str z => .bl (formB z)
  | _ => .non
section
seal wpAny
variable {P : Program} {w : World} {K : PySem.W.Frag} {mg : Str → Option Value} {base : Heap} {A : Adr} {n j : Nat}
theorem c_has_letters (d : Df K mg "has_letters" s_has_letters ["text"]) (n_len : mg "len" = none) (n_all : mg "all" = none) (gl : GD K mg "LETTERS" (.str letters)) : Cal P w K mg base (j + 1) "has_letters" ["text"] (sdS fun x => .bl (letB x)) := by
  obtain ⟨y_LETTERS, u_LETTERS, q_LETTERS, r_LETTERS, v_LETTERS⟩ := gl.ex
  refine d.cal sc_has_letters m_S l_S (fun f cdv A outer s H E hr => have hu := hr.units; have hh := hr.hd; have sc := sc_has_letters
    (ss_one (s_ret (d_and (d_gt (d_len (by rfl) n_len (a_cons (dv 0) a_nil)) d_int) (d_one (d_all hh (by rfl) n_all (a_cons (d_lc (x := "sign") (caps := []) (cn := []) (cl := []) (comp0 (by rfl) (by rfl) (by decide +kernel) (by decide +kernel) (by decide +kernel)) rfl (i_any (dv 0)) (fun C fp s₂ H₂ => pg_name (i := 0) (show (["sign"] : List Str).Nodup by decide +kernel) rfl (Or.inl rfl) (.inr rfl)) (fun C fp s₂ H₂ => ts_nil) (fun C fp s₂ H₂ => (d_in (dv 0) (d_glob (by rfl) q_LETTERS r_LETTERS v_LETTERS) (by rfl)))) a_nil))))))) ?_
  rintro ds Q ⟨x, rfl, hx, q⟩
  refine ⟨_, rfl, _, _, rfl, if_pos (str_len hx), _, rfl, ?_⟩
  cases h : decide ((0 : Int) < (x.length : Int)) with
  | false =>
    have e : letB x = false := by unfold letB; rw [h]; rfl
    exact iteF (castB e q)
  | true =>
    have e : letB x = ((signs x).map inL).all id := by unfold letB; rw [h, List.all_map]; rfl
    refine iteT ⟨_, rfl, _, rfl, mO gLet (x.cps.toList.map fun c => .str ⟨#[c]⟩), mO_len, fun i d o h1 h2 => ?_, ?_, ?_⟩
    · obtain ⟨hd, rfl⟩ := mO_at h1 h2
      obtain ⟨c, _, rfl⟩ := List.mem_map.mp hd
      exact ⟨rfl, fun _ => ⟨_, rfl, _, rfl, rfl⟩⟩
    · rw [List.length_map, Array.length_toList]
      exact Nat.lt_of_le_of_lt hx (by decide)
    · rw [mO_out]
      refine ⟨(signs x).map inL, ?_, castB e q⟩
      unfold signs
      rw [List.map_map, List.map_map, List.map_map]
      rfl
theorem c_has_word_form (d : Df K mg "has_word_form" s_has_word_form ["text"]) (n_len : mg "len" = none) (g : GI mg "LONGEST_WORD" 8) (c_has_letters : Cal P w K mg base j "has_letters" ["text"] (sdS fun x => .bl (letB x))) :
    Cal P w K mg base (j + 1) "has_word_form" ["text"] (sdS fun x => .bl (formB x)) := by
  obtain ⟨t1, q_LONGEST_WORD⟩ := g.ex
  have r_LONGEST_WORD : RelV (.int 8) (.int 8 t1) := ⟨_, rfl⟩
  have v_LONGEST_WORD : ∀ H, Dv K H (.int 8) (.int 8) := fun _ => .int _
  refine d.cal sc_has_word_form m_S l_S (fun f cdv A outer s H E hr => have hu := hr.units; have hh := hr.hd; have sc := sc_has_word_form
    (ss_one (s_ret (d_and (d_le (d_len (by rfl) n_len (a_cons (dv 0) a_nil)) (d_glob (by rfl) q_LONGEST_WORD r_LONGEST_WORD v_LONGEST_WORD)) (d_one (d_cal c_has_letters hr (by omega) (by rfl) (a_cons (dv 0) a_nil))))))) ?_
  rintro ds Q ⟨x, rfl, hx, q⟩
  refine ⟨_, rfl, _, _, rfl, if_pos (str_len hx), _, rfl, ?_⟩
  cases h : decide ((x.length : Int) ≤ 8) with
  | false =>
    have e : formB x = false := by unfold formB; rw [h]; rfl
    exact iteF (castB e q)
  | true =>
    have e : formB x = letB x := by unfold formB; rw [h]; rfl
    exact iteT ⟨_, rfl, x, rfl, hx, castB e q⟩
theorem c_is_word (d : Df K mg "is_word" s_is_word ["thing"]) (gk : GD K mg "KEPT_WORDS" (.tup (keptL.map D.str))) (c_has_word_form : Cal P w K mg base j "has_word_form" ["text"] (sdS fun x => .bl (formB x))) :
    Cal P w K mg base (j + 1) "is_word" ["thing"] (sdS fun x => .bl (wordB x)) := by
  obtain ⟨y_KEPT_WORDS, u_KEPT_WORDS, q_KEPT_WORDS, r_KEPT_WORDS, v_KEPT_WORDS⟩ := gk.ex
  refine d.cal sc_is_word m_S l_S (fun f cdv A outer s H E hr => have hu := hr.units; have hh := hr.hd; have sc := sc_is_word
    (ss_one (s_ret (d_and (d_cal c_has_word_form hr (by omega) (by rfl) (a_cons (dv 0) a_nil)) (d_one (d_notin (dv 0) (d_glob (by rfl) q_KEPT_WORDS r_KEPT_WORDS v_KEPT_WORDS) (by rfl))))))) ?_
  rintro ds Q ⟨x, rfl, hx, q⟩
  refine ⟨_, rfl, x, rfl, hx, _, rfl, ?_⟩
  cases h : formB x with
  | false =>
    have e : wordB x = false := by unfold wordB; rw [h]; rfl
    exact iteF (castB e q)
  | true =>
    have e : wordB x = !inD (.str x) (keptL.map D.str) := by unfold wordB; rw [h, in_strs]; rfl
    exact iteT ⟨_, rfl, rfl, flat_strs _, castB e q⟩
theorem c_is_name (d : Df K mg "is_name" s_is_name ["thing"]) (n_len : mg "len" = none) (n_all : mg "all" = none) (g : GI mg "MOST_WORDS" 4) (c_is_word : Cal P w K mg base j "is_word" ["thing"] (sdS fun x => .bl (wordB x)))
    (c_has_word_form : Cal P w K mg base j "has_word_form" ["text"] (sdS fun x => .bl (formB x))) : Cal P w K mg base (j + 1) "is_name" ["thing"] (sdS fun x => .bl (nameB x)) := by
  obtain ⟨t1, q_MOST_WORDS⟩ := g.ex
  have r_MOST_WORDS : RelV (.int 4) (.int 4 t1) := ⟨_, rfl⟩
  have v_MOST_WORDS : ∀ H, Dv K H (.int 4) (.int 4) := fun _ => .int _
  refine d.cal sc_is_name m_S l_S (fun f cdv A outer s H E hr => have hu := hr.units; have hh := hr.hd; have sc := sc_is_name
    (ss_cons (s_set (i := 1) sc.nd rfl (Or.inl rfl) (d_split (dv 0) (a_cons d_str a_nil)))
  (ss_cons (s_if (t_eq hu (d_len (by rfl) n_len (a_cons (dv 1) a_nil)) d_int) (ss_one (s_ret (d_cal c_is_word hr (by omega) (by rfl) (a_cons (dv 0) a_nil)))) ss_nil)
  (ss_one (s_ret (d_and (d_le (d_len (by rfl) n_len (a_cons (dv 1) a_nil)) (d_glob (by rfl) q_MOST_WORDS r_MOST_WORDS v_MOST_WORDS)) (d_one (d_all hh (by rfl) n_all (a_cons (d_lc (x := "word") (caps := []) (cn := []) (cl := []) (comp0 (by rfl) (by rfl) (by decide +kernel) (by decide +kernel) (by decide +kernel)) rfl (i_any (dv 1)) (fun C fp s₂ H₂ => pg_name (i := 0) (show (["word"] : List Str).Nodup by decide +kernel) rfl (Or.inl rfl) (.inr rfl)) (fun C fp s₂ H₂ => ts_nil) (fun C fp s₂ H₂ => (d_cal c_has_word_form hr (by omega) (by rfl) (a_cons (dv 0) a_nil)))) a_nil))))))))) ?_
  rintro ds Q ⟨x, rfl, hx, q⟩
  have hs := split_le x dot
  refine ⟨_, rfl, ⟨x, rfl⟩, x, dot, rfl, rfl, rfl, Nat.le_trans (Nat.add_le_add_right hx 2) (by decide), ?_⟩
  refine ⟨_, rfl, _, _, rfl, rfl, _, rfl, ?_⟩
  show if decide ((((Txt.split x dot).map D.str).length : Int) = 1) = true then _ else _
  rw [List.length_map]
  cases h : decide (((Txt.split x dot).length : Int) = 1) with
  | true =>
    have e : nameB x = wordB x := by unfold nameB; rw [h]; rfl
    exact iteT ⟨_, rfl, x, rfl, hx, castB e q⟩
  | false =>
    refine iteF ⟨_, rfl, _, _, rfl, rfl, _, rfl, ?_⟩
    show if decide ((((Txt.split x dot).map D.str).length : Int) ≤ 4) = true then _ else _
    rw [List.length_map]
    cases h2 : decide (((Txt.split x dot).length : Int) ≤ 4) with
    | false =>
      have e : nameB x = false := by unfold nameB; rw [h, h2]; rfl
      exact iteF (castB e q)
    | true =>
      have e : nameB x = ((Txt.split x dot).map formB).all id := by unfold nameB; rw [h, h2, List.all_map]; rfl
      refine iteT ⟨_, rfl, _, rfl, mO gForm ((Txt.split x dot).map D.str), mO_len, fun i d o h1 h2 => ?_, ?_, ?_⟩
      · obtain ⟨hd, rfl⟩ := mO_at h1 h2
        obtain ⟨c, hc, rfl⟩ := List.mem_map.mp hd
        refine ⟨rfl, fun _ => ⟨_, rfl, c, rfl, ?_, rfl⟩⟩
        have hw := split_weight x dot (by decide)
        have hc2 : c.length ∈ (Txt.split x dot).map (·.length) := List.mem_map.mpr ⟨c, hc, rfl⟩
        have := le_sum hc2
        have hp := split_pos x dot
        omega
      · rw [List.length_map]
        exact Nat.lt_of_le_of_lt hs (Nat.lt_of_le_of_lt (Nat.add_le_add_right hx 2) (by decide))
      · rw [mO_out]
        refine ⟨(Txt.split x dot).map formB, ?_, castB e q⟩
        rw [List.map_map, List.map_map]
        rfl
def sdNm : SpD := fun ds Q => ∃ x : Str, ds = [.str x] ∧ x.length ≤ 100000 ∧ nameB x = true ∧ Q .non
theorem c_need_name (d : Df K mg "need_name" s_need_name ["name"]) (c_is_name : Cal P w K mg base j "is_name" ["thing"] (sdS fun x => .bl (nameB x))) : Cal P w K mg base (j + 1) "need_name" ["name"] sdNm := by
  refine d.cal sc_need_name (fun ds P P' f ⟨x, e, h, z, q⟩ => ⟨x, e, h, z, f _ q⟩) (fun ds Q ⟨x, e, _⟩ => by rw [e]; rfl) (fun f cdv A outer s H E hr => have hu := hr.units; have hh := hr.hd; have sc := sc_need_name
    (ss_one (s_if (t_not (t_tru (d_cal c_is_name hr (by omega) (by rfl) (a_cons (dv 0) a_nil)))) (ss_one s_never) ss_nil))) ?_
  rintro ds Q ⟨x, rfl, hx, hn, q⟩
  exact ⟨_, rfl, x, rfl, hx, true, congrArg some hn, iteF q⟩
end
end K35

set_option maxHeartbeats 4000000
namespace K35
open PySem PySem.Spec PyProof.Rows L2 DC
def nn : D := .tup [.str "number", .str "number"]
def nt : D := .tup [.str "number", .str "truth"]
def tt : D := .tup [.str "truth", .str "truth"]
def signsT : List (Str × D) := [("+", nn), ("-", nn), ("*", nn), ("=", .tup [.non, .str "truth"]), ("<", nt), ("<=", nt), ("and", tt), ("or", tt)]
def signL : List Str := ["+", "-", "*", "=", "<", "<=", "and", "or"]
theorem sign_in {g : Str} (h : g ∈ signL) : (if true = true then !signsT.any fun p => p.1 == g else signsT.any fun p => p.1 == g) = false := by
  simp only [signL, List.mem_cons, List.not_mem_nil, or_false] at h
  rcases h with rfl | rfl | rfl | rfl | rfl | rfl | rfl | rfl <;> decide +kernel
def okNm (x : Str) : Prop := nameB x = true ∧ x.length ≤ 100 ∧ PyData.strOk x = true
section
seal wpAny
variable {P : Program} {w : World} {K : PySem.W.Frag} {mg : Str → Option Value} {base : Heap} {A : Adr} {n j : Nat}
theorem init_named (hA : AOk K A) (d : Di K mg "Named" A.named "Named.__init__" s_Named___init__ ["self", "name"] []) (c_need_name : Cal P w K mg base j "need_name" ["name"] sdNm) :
    Mkr P w K mg base (j + 1) "Named" A.named (fun ds Q => ∃ x : Str, ds = [.str x] ∧ okNm x ∧ Q [("name", .str x)]) [] := by
  have hc := hA.cl A.named (by simp)
  have hn := hA.nof A.named (by simp)
  refine d.mkr sc_Named___init__ (fun ds P P' g ⟨v, e, h, q⟩ => ⟨v, e, h, g _ q⟩) (fun ds Q ⟨v, e, _⟩ => by rw [e]; rfl) (fun f cdv A outer s H E hr => have hu := hr.units; have hh := hr.hd; have sc := sc_Named___init__
    (i_cons (i_free (s_expr (d_cal c_need_name hr (by omega) (by rfl) (a_cons (dv 1) a_nil))))
  (i_cons (i_setK K rfl rfl (Or.inl rfl) (dv 1))
  i_nil))) ?_
  rintro a ds Q ⟨x, rfl, ⟨h1, h2, h3⟩, q⟩
  exact ⟨_, rfl, x, rfl, Nat.le_trans h2 (by decide), h1, _, rfl, rfl, hc, hn _ (by decide), (by first | exact pl0 | exact pl1 | exact pl2), q⟩
theorem init_pair {sa : Addr} (hA : AOk K A) (d : Di K mg "Pair" A.pair "Pair.__init__" s_Pair___init__ ["self", "sign", "one", "other"] []) (kd_SIGNS : KTd w K mg "SIGNS" sa signsT) (m_need_bounds : MQ P w K mg base A j "need_bounds" n okB fun _ => .non) :
    Mkr P w K mg base (j + 1) "Pair" A.pair (fun ds Q => ∃ (g : Str) (x y : Pt), ds = [.str g, x.d A, y.d A] ∧ g ∈ signL ∧ (Pt.pair g x y).depth ≤ n ∧ okB (.pair g x y) ∧ Q [("sign", .str g), ("one", x.d A), ("other", y.d A)]) [] := by
  have hc := hA.cl A.pair (by simp)
  have hn := hA.nof A.pair (by simp)
  refine d.mkr sc_Pair___init__ (fun ds P P' g ⟨v, u, f, e, k, h, o, q⟩ => ⟨v, u, f, e, k, h, o, g _ q⟩) (fun ds Q ⟨v, u, f, e, _⟩ => by rw [e]; rfl) (fun f cdv A outer s H E hr => have hu := hr.units; have hh := hr.hd; have sc := sc_Pair___init__
    (i_cons (i_free (s_if (t_notinK kd_SIGNS (by rfl) (dv 1)) (ss_one s_never) ss_nil))
  (i_cons (i_setK K rfl rfl (Or.inl rfl) (dv 1))
  (i_cons (i_setK K rfl rfl (Or.inl rfl) (dv 2))
  (i_cons (i_setK K rfl rfl (Or.inl rfl) (dv 3))
  (i_rest (ss_one (s_expr (d_m0 m_need_bounds hr (by omega) (dv 0)))))))))) ?_
  rintro a ds Q ⟨g, x, y, rfl, hg, hd, ho, q⟩
  exact ⟨_, rfl, g, rfl, false, congrArg D.bl (sign_in hg), iteF ⟨_, rfl, rfl, hc, hn _ (by decide), (by first | exact pl0 | exact pl1 | exact pl2), _, rfl, rfl, hc, hn _ (by decide), (by first | exact pl0 | exact pl1 | exact pl2), _, rfl, rfl, hc, hn _ (by decide), (by first | exact pl0 | exact pl1 | exact pl2), rfl, vMethQ_of (p := .pair g x y) m_var noM_bounds ⟨_, rfl, rfl⟩ hd ho q⟩⟩
end
end K35

-- gen set deadb plain_by:2 plain_by:ret timed_by:1 timed_by:2 timed_by:ret
set_option maxHeartbeats 4000000
namespace K35
open PySem PySem.Spec PyProof.Rows L2 DC
def sh (a b : Int) : D := .tup [.int a, .int b]
def shapesT : List (Str × D) := [("given", sh 2 0), ("named", sh 2 0), ("not", sh 2 1), ("if", sh 4 3), ("before", sh 3 1), ("then", sh 3 2), ("when", sh 3 1), ("held", sh 4 1)]
def Pt.ok : Pt → Prop
  | .given v => isVal v
  | .named s => okNm s
  | .pair g a b => g ∈ signL ∧ a.ok ∧ b.ok
  | .before p f => p.ok ∧ isFirst f
def Pt.isPair : Pt → Bool
  | .pair _ _ _ => true
  | _ => false
def Pt.isPlain : Pt → Bool
  | .given _ => true | .named _ => true | _ => false
theorem Pt.ok_in {p q : Pt} (h : q ∈ p.inner) (o : p.ok) : q.ok := by
  cases p <;> simp only [Pt.inner, Pt.ok, List.mem_cons, List.not_mem_nil, or_false] at h o
  case pair => rcases h with rfl | rfl <;> simp only [o]
  case before => subst h; exact o.1
def sdTd (ok : Pt → Prop) (g : Pt → D) : SpD := fun ds Q => ∃ p : Pt, ds = [p.told] ∧ ok p ∧ Q (g p)
theorem m_Td {ok : Pt → Prop} {g : Pt → D} : MonoS (sdTd ok g) := fun ds P P' f ⟨p, e, h, q⟩ => ⟨p, e, h, f _ q⟩
theorem l_Td {ok : Pt → Prop} {g : Pt → D} (ds : List D) (Q : D → Prop) (h : sdTd ok g ds Q) : ds.length = 1 := by obtain ⟨x, e, _⟩ := h; rw [e]; rfl
def sdBy (A : Adr) (n : Nat) (b : Bool) : SpD := fun ds Q => ∃ p : Pt, ds = [p.told, .lst (p.inner.map (Pt.d A))] ∧ p.isPair = false ∧ p.isPlain = b ∧ p.ok ∧ okB p ∧ p.depth ≤ n ∧ Q (p.d A)
def sdOf (A : Adr) (n : Nat) : SpD := fun ds Q => ∃ p : Pt, ds = [p.told] ∧ p.depth ≤ n ∧ p.ok ∧ okB p ∧ Q (p.d A)
theorem m_Of {A : Adr} {n : Nat} : MonoS (sdOf A n) := fun ds P P' f ⟨p, e, h, o, b, q⟩ => ⟨p, e, h, o, b, f _ q⟩
theorem m_By {A : Adr} {n : Nat} {b : Bool} : MonoS (sdBy A n b) := fun ds P P' f ⟨p, e, h, o, b, i, d, q⟩ => ⟨p, e, h, o, b, i, d, f _ q⟩
theorem no_shape {g : Str} (h : g ∈ signL) : (if false = true then !shapesT.any fun p => p.1 == g else shapesT.any fun p => p.1 == g) = false := by
  simp only [signL, List.mem_cons, List.not_mem_nil, or_false] at h
  rcases h with rfl | rfl | rfl | rfl | rfl | rfl | rfl | rfl <;> decide +kernel
section
seal wpAny
variable {P : Program} {w : World} {K : PySem.W.Frag} {mg : Str → Option Value} {base : Heap} {A : Adr} {n j : Nat}
theorem c_has_shape {sa : Addr} (d : Df K mg "has_shape" s_has_shape ["told"]) (n_len : mg "len" = none) (kd_SHAPES : KTd w K mg "SHAPES" sa shapesT) : Cal P w K mg base (j + 1) "has_shape" ["told"] (sdTd Pt.ok fun p => .bl (!p.isPair)) := by
  refine d.cal sc_has_shape m_Td l_Td (fun f cdv A outer s H E hr => have hu := hr.units; have hh := hr.hd; have sc := sc_has_shape
    (ss_one (s_ret (d_and (d_inK kd_SHAPES (by rfl) (d_ix (dv 0) d_int (fun _ _ => rfl))) (d_one (d_eq hu (d_len (by rfl) n_len (a_cons (dv 0) a_nil)) (d_ix (d_getK kd_SHAPES (by rfl) (d_ix (dv 0) d_int (fun _ _ => rfl)) (fun _ _ => rfl)) d_int (fun _ _ => rfl)))))))) ?_
  rintro ds Q ⟨p, rfl, ho, q⟩
  cases p with
  | given v => exact ⟨_, rfl, _, rfl, "given", rfl, true, congrArg D.bl (by decide +kernel), iteT ⟨_, rfl, _, _, rfl, rfl, _, rfl, _, rfl, "given", sh 2 0, rfl, (by kernel_rfl), _, rfl, q⟩⟩
  | named s => exact ⟨_, rfl, _, rfl, "named", rfl, true, congrArg D.bl (by decide +kernel), iteT ⟨_, rfl, _, _, rfl, rfl, _, rfl, _, rfl, "named", sh 2 0, rfl, (by kernel_rfl), _, rfl, q⟩⟩
  | pair g x y => exact ⟨_, rfl, _, rfl, g, rfl, false, congrArg D.bl (no_shape ho.1), iteF q⟩
  | before x f => exact ⟨_, rfl, _, rfl, "before", rfl, true, congrArg D.bl (by decide +kernel), iteT ⟨_, rfl, _, _, rfl, rfl, _, rfl, _, rfl, "before", sh 3 1, rfl, (by kernel_rfl), _, rfl, q⟩⟩
theorem c_plain_by (d : Df K mg "plain_by" s_plain_by ["told", "inner"])
    {i : Nat} (hi : i + 1 ≤ j)
    (k_Given_1 : Mkr P w K mg base i "Given" A.given (fun ds Q => ∃ v, ds = [v] ∧ isVal v ∧ Q [("value", v)]) [])
    (k_Named_1 : Mkr P w K mg base i "Named" A.named (fun ds Q => ∃ x : Str, ds = [.str x] ∧ okNm x ∧ Q [("name", .str x)]) [])
    : Cal P w K mg base (j + 1) "plain_by" ["told", "inner"] (sdBy A n true) := by
  refine d.cal sc_plain_by m_By (fun ds Q ⟨x, e, _⟩ => by rw [e]; rfl) (fun f cdv A outer s H E hr => have hu := hr.units; have hh := hr.hd; have sc := sc_plain_by
    (ss_cons (s_set (i := 2) sc.nd rfl (Or.inl rfl) (d_ix (dv 0) d_int (fun _ _ => rfl)))
  (ss_cons (s_if (t_eq hu (dv 2) d_str) (ss_one (s_ret (d_mk k_Given_1 hr (by omega) (by rfl) (a_cons (d_ix (dv 0) d_int (fun _ _ => rfl)) a_nil)))) ss_nil)
  (ss_cons (s_if (t_eq hu (dv 2) d_str) (ss_one (s_ret (d_mk k_Named_1 hr (by omega) (by rfl) (a_cons (d_ix (dv 0) d_int (fun _ _ => rfl)) a_nil)))) ss_nil)
  (ss_cons (s_if (t_eq hu (dv 2) d_str) ss_never ss_nil)
  (ss_one s_never)))))) ?_
  rintro ds Q ⟨p, rfl, hp, hl, ho, hb, hd, q⟩
  cases p with
  | given v => exact ⟨_, rfl, _, rfl, ⟨_, rfl, true, congrArg D.bl (by decide +kernel), iteT ⟨_, rfl, _, rfl, v, rfl, ho, q⟩⟩⟩
  | named s => exact ⟨_, rfl, _, rfl, ⟨_, rfl, false, congrArg D.bl (by decide +kernel), iteF ⟨_, rfl, true, congrArg D.bl (by decide +kernel), iteT ⟨_, rfl, _, rfl, s, rfl, ho, q⟩⟩⟩⟩
  | pair g x y => cases hp
  | before x f => cases hl
theorem c_timed_by (d : Df K mg "timed_by" s_timed_by ["told", "inner"])
    {i : Nat} (hi : i + 1 ≤ j)
    (k_Before_2 : Mkr P w K mg base i "Before" A.before (fun ds Q => ∃ (p : Pt) (f : D), ds = [p.d A, f] ∧ isFirst f ∧ (Pt.before p f).depth ≤ n ∧ okB (.before p f) ∧ Q [("part", p.d A), ("first", f)]) [])
    : Cal P w K mg base (j + 1) "timed_by" ["told", "inner"] (sdBy A n false) := by
  refine d.cal sc_timed_by m_By (fun ds Q ⟨x, e, _⟩ => by rw [e]; rfl) (fun f cdv A outer s H E hr => have hu := hr.units; have hh := hr.hd; have sc := sc_timed_by
    (ss_cons (s_set (i := 2) sc.nd rfl (Or.inl rfl) (d_ix (dv 0) d_int (fun _ _ => rfl)))
  (ss_cons (s_if (t_eq hu (dv 2) d_str) (ss_one (s_ret (d_mk k_Before_2 hr (by omega) (by rfl) (a_cons (d_ix (dv 1) d_int (fun _ _ => rfl)) (a_cons (d_ix (dv 0) d_int (fun _ _ => rfl)) a_nil))))) ss_nil)
  (ss_cons (s_if (t_eq hu (dv 2) d_str) ss_never ss_nil)
  (ss_cons (s_if (t_eq hu (dv 2) d_str) ss_never ss_nil)
  (ss_one s_never)))))) ?_
  rintro ds Q ⟨p, rfl, hp, hl, ho, hb, hd, q⟩
  cases p with
  | given v => cases hl
  | named s => cases hl
  | pair g x y => cases hp
  | before x f => exact ⟨_, rfl, _, rfl, ⟨_, rfl, true, congrArg D.bl (by decide +kernel), iteT ⟨_, rfl, _, rfl, _, rfl, _, rfl, x, f, rfl, ho.2, hd, hb, q⟩⟩⟩
theorem six1 (x : D) (xs : List D) : HT.sIx (x :: xs).length 0 (some 1) = 1 := by
  rw [show (1 : Int) = ((1 : Nat) : Int) from rfl, HT.sIx_nat, List.length_cons]
  omega
theorem nwhole {x : D} {xs : List D} {R : Prop} : ¬ (HT.sIx (x :: xs).length 0 (some 1) = 0 ∧ R) := fun z => by
  rw [six1] at z
  exact absurd z.1 (by decide)
theorem of_len (p : Pt) : (p.inner.map fun q => some (q.d A)).length = (p.inner.map Pt.told).length := by simp
theorem of_each {caps : List Nat} {δ : SD} (p : Pt) (hd : p.depth ≤ n + 1) (ho : p.ok) (hb : okB p) (i : Nat) (d : D) (o : Option D) (h1 : (p.inner.map Pt.told)[i]? = some d) (h2 : (p.inner.map fun q => some (q.d A))[i]? = some o) :
    uYes (some d :: capD caps δ) fun b => b = o.isSome ∧ (b = true → vCall (sdOf A n) (aCons (vVar 0) aNil) (some d :: capD caps δ) fun y => o = some y) := by
  rw [List.getElem?_map] at h1 h2
  cases e : p.inner[i]? with
  | none => rw [e] at h1; cases h1
  | some r =>
    rw [e] at h1 h2
    cases h1
    cases h2
    have hr := List.mem_of_getElem? e
    have hs := Pt.in_size hr
    have hp := p.in_depth hr (n := p.depth - 1) (by omega)
    exact ⟨rfl, fun _ => ⟨_, rfl, r, rfl, p.in_depth hr hd, Pt.ok_in hr ho, ⟨by have := hb.1; omega, Nat.le_trans hs hb.2⟩, rfl⟩⟩
theorem of_lt (p : Pt) : (p.inner.map Pt.told).length < sizeLine := by rw [List.length_map]; exact Nat.lt_of_le_of_lt p.inner_len (by decide)
theorem of_out (p : Pt) : (p.inner.map fun q => some (q.d A)).filterMap id = p.inner.map (Pt.d A) := by rw [List.filterMap_map, filterMap_some]
theorem c_many_within {sa : Addr} (d : Df K mg "many_within" s_many_within ["told"]) (kd_SHAPES : KTd w K mg "SHAPES" sa shapesT) (c_has_shape : Cal P w K mg base j "has_shape" ["told"] (sdTd Pt.ok fun p => .bl (!p.isPair))) : Cal P w K mg base (j + 1) "many_within" ["told"] (sdTd Pt.ok fun p => .int p.inner.length) := by
  refine d.cal sc_many_within m_Td l_Td (fun f cdv A outer s H E hr => have hu := hr.units; have hh := hr.hd; have sc := sc_many_within
    (ss_one (s_ret (d_if (t_tru (d_cal c_has_shape hr (by omega) (by rfl) (a_cons (dv 0) a_nil))) (d_ix (d_getK kd_SHAPES (by rfl) (d_ix (dv 0) d_int (fun _ _ => rfl)) (fun _ _ => rfl)) d_int (fun _ _ => rfl)) d_int)))) ?_
  rintro ds Q ⟨p, rfl, ho, q⟩
  cases p with
  | given v => exact ⟨_, rfl, .given v, rfl, ho, _, rfl, iteT ⟨_, rfl, _, rfl, "given", sh 2 0, rfl, (by kernel_rfl), _, rfl, q⟩⟩
  | named s => exact ⟨_, rfl, .named s, rfl, ho, _, rfl, iteT ⟨_, rfl, _, rfl, "named", sh 2 0, rfl, (by kernel_rfl), _, rfl, q⟩⟩
  | pair g x y => exact ⟨_, rfl, .pair g x y, rfl, ho, _, rfl, iteF q⟩
  | before x f => exact ⟨_, rfl, .before x f, rfl, ho, _, rfl, iteT ⟨_, rfl, _, rfl, "before", sh 3 1, rfl, (by kernel_rfl), _, rfl, q⟩⟩
theorem part_step {i m N : Nat} (hi : i + 1 ≤ j) (hN : n ≤ N) (d : Df K mg "part_of" s_part_of ["told"]) (c_many_within : Cal P w K mg base j "many_within" ["told"] (sdTd Pt.ok fun p => .int p.inner.length)) (c_has_shape : Cal P w K mg base j "has_shape" ["told"] (sdTd Pt.ok fun p => .bl (!p.isPair)))
    (c_part_of : Cal P w K mg base j "part_of" ["told"] (sdOf A m)) (hm : n ≤ m + 1)
    (c_plain_by : Cal P w K mg base j "plain_by" ["told", "inner"] (sdBy A N true)) (c_timed_by : Cal P w K mg base j "timed_by" ["told", "inner"] (sdBy A N false))
    (k_Pair_3 : Mkr P w K mg base i "Pair" A.pair (fun ds Q => ∃ (g : Str) (x y : Pt), ds = [.str g, x.d A, y.d A] ∧ g ∈ signL ∧ (Pt.pair g x y).depth ≤ N ∧ okB (.pair g x y) ∧ Q [("sign", .str g), ("one", x.d A), ("other", y.d A)]) [])
    : Cal P w K mg base (j + 1) "part_of" ["told"] (sdOf A n) := by
  refine d.cal sc_part_of m_Of (fun ds Q ⟨x, e, _⟩ => by rw [e]; rfl) (fun f cdv A outer s H E hr => have hu := hr.units; have hh := hr.hd; have sc := sc_part_of
    (ss_cons (s_lc (i := 1) sc.nd rfl (Or.inl rfl) (x := "one") (caps := []) (cn := []) (cl := []) (comp0 (by rfl) (by rfl) (by decide +kernel) (by decide +kernel) (by decide +kernel)) rfl (i_any (d_slice (dv 0) (o_some d_int) (o_some (d_add d_int (d_cal c_many_within hr (by omega) (by rfl) (a_cons (dv 0) a_nil)))))) (fun C fp s₂ H₂ => pg_name (i := 0) (show (["one"] : List Str).Nodup by decide +kernel) rfl (Or.inl rfl) (.inr rfl)) (fun C fp s₂ H₂ => ts_nil) (fun C fp s₂ H₂ => (d_cal c_part_of hr (by omega) (by rfl) (a_cons (dv 0) a_nil))))
  (ss_cons (s_if (t_not (t_tru (d_cal c_has_shape hr (by omega) (by rfl) (a_cons (dv 0) a_nil)))) (ss_one (s_ret (d_mk k_Pair_3 hr (by omega) (by rfl) (a_cons (d_ix (dv 0) d_int (fun _ _ => rfl)) (a_cons (d_ix (dv 1) d_int (fun _ _ => rfl)) (a_cons (d_ix (dv 1) d_int (fun _ _ => rfl)) a_nil)))))) ss_nil)
  (ss_cons (s_if (t_in (d_ix (dv 0) d_int (fun _ _ => rfl)) (d_tup (a_ck (by rfl))) (by rfl)) (ss_one (s_ret (d_cal c_plain_by hr (by omega) (by rfl) (a_cons (dv 0) (a_cons (dv 1) a_nil))))) ss_nil)
  (ss_one (s_ret (d_cal c_timed_by hr (by omega) (by rfl) (a_cons (dv 0) (a_cons (dv 1) a_nil))))))))) ?_
  rintro ds Q ⟨p, rfl, hd, ho, hb, q⟩
  have hdm : p.depth ≤ m + 1 := Nat.le_trans hd hm
  have hdN : p.depth ≤ N := Nat.le_trans hd hN
  cases p with
  | given v =>
    refine ⟨_, rfl, _, rfl, _, rfl, .given v, rfl, ho, _, rfl, nwhole, (Pt.given v).inner.map Pt.told, rfl, _, of_len (.given v), of_each (.given v) hdm ho hb, of_lt (.given v), ?_⟩
    rw [of_out]
    exact ⟨_, rfl, .given v, rfl, ho, _, rfl, iteF ⟨_, rfl, _, rfl, (by decide), rfl, (by decide), true, congrArg D.bl (by decide +kernel), iteT ⟨_, rfl, _, rfl, .given v, rfl, rfl, rfl, ho, hb, hdN, q⟩⟩⟩
  | named s =>
    refine ⟨_, rfl, _, rfl, _, rfl, .named s, rfl, ho, _, rfl, nwhole, (Pt.named s).inner.map Pt.told, rfl, _, of_len (.named s), of_each (.named s) hdm ho hb, of_lt (.named s), ?_⟩
    rw [of_out]
    exact ⟨_, rfl, .named s, rfl, ho, _, rfl, iteF ⟨_, rfl, _, rfl, (by decide), rfl, (by decide), true, congrArg D.bl (by decide +kernel), iteT ⟨_, rfl, _, rfl, .named s, rfl, rfl, rfl, ho, hb, hdN, q⟩⟩⟩
  | pair g x y =>
    refine ⟨_, rfl, _, rfl, _, rfl, .pair g x y, rfl, ho, _, rfl, nwhole, (Pt.pair g x y).inner.map Pt.told, rfl, _, of_len (.pair g x y), of_each (.pair g x y) hdm ho hb, of_lt (.pair g x y), ?_⟩
    rw [of_out]
    exact ⟨_, rfl, .pair g x y, rfl, ho, _, rfl, iteT ⟨_, rfl, _, rfl, _, rfl, _, rfl, _, rfl, _, rfl, g, x, y, rfl, ho.1, hdN, hb, q⟩⟩
  | before x f =>
    refine ⟨_, rfl, _, rfl, _, rfl, .before x f, rfl, ho, _, rfl, nwhole, (Pt.before x f).inner.map Pt.told, rfl, _, of_len (.before x f), of_each (.before x f) hdm ho hb, of_lt (.before x f), ?_⟩
    rw [of_out]
    exact ⟨_, rfl, .before x f, rfl, ho, _, rfl, iteF ⟨_, rfl, _, rfl, (by decide), rfl, (by decide), false, congrArg D.bl (by decide +kernel), iteF ⟨_, rfl, _, rfl, .before x f, rfl, rfl, rfl, ho, hb, hdN, q⟩⟩⟩
end
end K35

set_option maxHeartbeats 4000000
namespace K35
open PySem PySem.Spec PyProof.Rows L2 DC
def addOnce (acc : List Str) (n : Str) : List Str := if acc.contains n then acc else acc ++ [n]
def onceL (ls : List (List Str)) : List Str := ls.foldl (fun acc l => l.foldl addOnce acc) []
def strsD (l : List Str) : D := .lst (l.map D.str)
def sdOnce : SpF := fun ds Q => ∃ ls : List (List Str), ds = [.lst (ls.map strsD)] ∧ (ls.map List.length).sum < 1000 ∧ ∀ a, Q (.adr a) [(a, .lst ((onceL ls).map D.str))]
theorem add_len (acc : List Str) (n : Str) : (addOnce acc n).length ≤ acc.length + 1 := by
  unfold addOnce
  split
  · omega
  · rw [List.length_append]; exact Nat.le_refl _
theorem fold_len : ∀ (l acc : List Str), (l.foldl addOnce acc).length ≤ acc.length + l.length
  | [], acc => Nat.le_refl _
  | n :: l, acc => by
    have h1 := fold_len l (addOnce acc n)
    have h2 := add_len acc n
    rw [List.foldl_cons, List.length_cons]
    omega
theorem onces_len : ∀ (ls : List (List Str)) (acc : List Str), (ls.foldl (fun acc l => l.foldl addOnce acc) acc).length ≤ acc.length + (ls.map List.length).sum
  | [], acc => Nat.le_refl _
  | l :: ls, acc => by
    have h1 := onces_len ls (l.foldl addOnce acc)
    have h2 := fold_len l acc
    rw [List.foldl_cons, List.map_cons, List.sum_cons]
    omega
theorem sum_take_le (ls : List Nat) : ∀ i, (ls.take i).sum ≤ ls.sum := by
  induction ls with
  | nil => intro i; simp
  | cons a ls ih =>
    intro i
    cases i with
    | zero => simp
    | succ i => rw [List.take_succ_cons, List.sum_cons, List.sum_cons]; have := ih i; omega
section
seal wpAny
variable {P : Program} {w : World} {K : PySem.W.Frag} {mg : Str → Option Value} {base : Heap} {A : Adr} {n j : Nat}
theorem c_once (d : Df K mg "once" s_once ["lists"]) : CalF P w K mg base (j + 1) "once" ["lists"] sdOnce := by
  refine d.calF sc_once (fun ds P P' g ⟨ls, e, h, q⟩ => ⟨ls, e, h, fun a => g _ _ (q a)⟩) (fun ds Q ⟨ls, e, _⟩ => by rw [e]; rfl) (fun f cdv A outer s H E hr => have hu := hr.units; have hh := hr.hd; have sc := sc_once
    (ms_cons (ms_newL (i := 1) sc.nd rfl (Or.inl rfl) a_nil)
  (ms_cons (ms_for PassesOwn.never rfl (i_any (dv 0)) (g_name (i := 2) sc.nd rfl (Or.inl rfl)) (ms_one (ms_for PassesOwn.never rfl (i_any (dv 2)) (g_name (i := 3) sc.nd rfl (Or.inl rfl)) (ms_one (ms_if (t_notin (dv 3) (dv 1) (by rfl)) (ms_one (ms_append (i := 1) rfl (Or.inl rfl) (dv 3))) ms_nil)))))
  (ms_one (ms_lift (s_ret (dv 1))))))) ?_
  rintro ds Q ⟨ls, rfl, hz, q⟩
  refine ⟨(by decide), fun a _ => ?_⟩
  refine ⟨_, rfl, ls.map strsD, rfl, fun i δ μ => (∃ x y, δ = [some (.lst (ls.map strsD)), some (.adr a), x, y]) ∧ μ = [(a, .lst ((onceL (ls.take i)).map D.str))], ⟨⟨none, none, rfl⟩, rfl⟩, ?_, ?_⟩
  · rintro i d δ μ hd ⟨⟨x, y, rfl⟩, rfl⟩
    rw [List.getElem?_map] at hd
    cases hl : ls[i]? with
    | none => rw [hl] at hd; cases hd
    | some l =>
      rw [hl] at hd
      obtain rfl : strsD l = d := by simpa using hd
      have e1 : onceL (ls.take (i + 1)) = l.foldl addOnce (onceL (ls.take i)) := by
        unfold onceL
        rw [List.take_succ, hl, List.foldl_append]
        rfl
      have hsum : (onceL (ls.take i)).length + l.length < 1000 := by
        have h1 := onces_len (ls.take i) []
        have h2 := sum_take_le (ls.map List.length) (i + 1)
        rw [← List.map_take, List.take_succ, hl] at h2
        simp only [Option.toList_some, List.map_append, List.map_cons, List.map_nil, List.sum_append, List.sum_cons, List.sum_nil] at h2
        simp only [List.length_nil] at h1
        unfold onceL
        omega
      refine ⟨_, rfl, l.map D.str, rfl, fun k δ μ => (∃ y, δ = [some (.lst (ls.map strsD)), some (.adr a), some (strsD l), y]) ∧ μ = [(a, .lst (((l.take k).foldl addOnce (onceL (ls.take i))).map D.str))], ⟨⟨y, rfl⟩, rfl⟩, ?_, ?_⟩
      · rintro k d δ μ hd ⟨⟨y, rfl⟩, rfl⟩
        rw [List.getElem?_map] at hd
        cases hn : l[k]? with
        | none => rw [hn] at hd; cases hd
        | some n =>
          rw [hn] at hd
          obtain rfl : D.str n = d := by simpa using hd
          have hk : k < l.length := (List.getElem?_eq_some_iff.mp hn).1
          have e2 : (l.take (k + 1)).foldl addOnce (onceL (ls.take i)) = addOnce ((l.take k).foldl addOnce (onceL (ls.take i))) n := by
            rw [List.take_succ, hn, List.foldl_append]
            rfl
          have hlen : ((l.take k).foldl addOnce (onceL (ls.take i))).length < 1000 := by
            have h1 := fold_len (l.take k) (onceL (ls.take i))
            rw [List.length_take] at h1
            omega
          generalize hacc : (l.take k).foldl addOnce (onceL (ls.take i)) = acc at e2 hlen
          have hview : viewD [(a, MD.lst (acc.map D.str))] (.adr a) = .lst (acc.map D.str) := by simp [viewD, MD.d, List.lookup]
          refine ⟨_, rfl, _, congrArg (fun z => some (some z)) hview, rfl, flat_strs acc, !acc.contains n, by rw [← in_strs]; rfl, ?_⟩
          cases hc : acc.contains n with
          | true =>
            refine iteF ?_
            refine ⟨⟨_, rfl⟩, ?_⟩
            rw [e2]
            unfold addOnce
            rw [hc]
            rfl
          | false =>
            refine iteT ?_
            refine ⟨a, acc.map D.str, rfl, by simp [List.lookup], ?_, _, rfl, ⟨_, rfl⟩, ?_⟩
            · rw [List.length_map]; exact Nat.lt_trans hlen (by decide)
            · rw [e2]
              unfold addOnce
              rw [hc]
              simp [putM]
      · rintro δ μ ⟨⟨y, rfl⟩, rfl⟩
        refine ⟨⟨_, _, rfl⟩, ?_⟩
        rw [List.length_map, List.take_length, e1]
  · rintro δ μ ⟨⟨x, y, rfl⟩, rfl⟩
    refine ⟨_, rfl, ?_⟩
    rw [List.length_map, List.take_length]
    exact q a
end
end K35
namespace K35
open PySem PySem.Spec PyProof.Rows L2 DC
def Pt.own : Pt → List Str
  | .named n => [n] | _ => []
def Pt.names : Pt → List Str
  | .given _ => onceL [[]]
  | .named n => onceL [[n]]
  | .pair _ a b => onceL [a.names, b.names, []]
  | .before p _ => onceL [p.names, []]
theorem Pt.names_inner (p : Pt) : p.names = onceL (p.inner.map Pt.names ++ [p.own]) := by cases p <;> rfl
theorem once_len (ls : List (List Str)) : (onceL ls).length ≤ (ls.map List.length).sum := by
  have := onces_len ls []
  simpa [onceL] using this
theorem Pt.names_len : ∀ p : Pt, p.names.length ≤ p.size
  | .given _ => by have := once_len [[]]; simp only [Pt.names, Pt.size, List.map_cons, List.map_nil, List.sum_cons, List.sum_nil, List.length_nil] at *; omega
  | .named n => by have := once_len [[n]]; simp only [Pt.names, Pt.size, List.map_cons, List.map_nil, List.sum_cons, List.sum_nil, List.length_cons, List.length_nil] at *; omega
  | .pair _ a b => by have := once_len [a.names, b.names, []]; have h1 := a.names_len; have h2 := b.names_len; simp only [Pt.names, Pt.size, List.map_cons, List.map_nil, List.sum_cons, List.sum_nil, List.length_nil] at *; omega
  | .before p _ => by have := once_len [p.names, []]; have h1 := p.names_len; simp only [Pt.names, Pt.size, List.map_cons, List.map_nil, List.sum_cons, List.sum_nil, List.length_nil] at *; omega
theorem Pt.sum_names (p : Pt) : ((p.inner.map Pt.names ++ [p.own]).map List.length).sum ≤ p.size := by
  cases p <;> simp only [Pt.inner, Pt.own, Pt.size, List.map_cons, List.map_nil, List.cons_append, List.nil_append, List.sum_cons, List.sum_nil, List.length_cons, List.length_nil]
  case pair a b => have := a.names_len; have := b.names_len; omega
  case before a _ => have := a.names_len; omega
  all_goals omega
def okN (p : Pt) : Prop := p.size ≤ 900
theorem noM_names : noM "names" := by unfold noM; decide +kernel
theorem noM_own : noM "own_names" := by unfold noM; decide +kernel
def sdNF (A : Adr) (n : Nat) (ok : Pt → Prop) (g : Pt → List Str) (C : Addr) : SpF := fun ds Q => ∃ p : Pt, ds = [p.d A] ∧ p.cls A = C ∧ p.depth ≤ n ∧ ok p ∧ ∀ a, Q (.adr a) [(a, .lst ((g p).map D.str))]
theorem m_NF {A : Adr} {n : Nat} {ok : Pt → Prop} {g : Pt → List Str} {C : Addr} : MonoSF (sdNF A n ok g C) := fun ds P P' f ⟨p, e, c, h, o, q⟩ => ⟨p, e, c, h, o, fun a => f _ _ (q a)⟩
abbrev MF (P : Program) (w : World) (K : PySem.W.Frag) (mg : Str → Option Value) (base : Heap) (A : Adr) (j : Nat) (m : Str) (n : Nat) (ok : Pt → Prop) (g : Pt → List Str) : Prop := ∀ C, isP A C → McalF P w K mg base j C m (sdNF A n ok g C)
section
seal wpAny
variable {P : Program} {w : World} {K : PySem.W.Frag} {mg : Str → Option Value} {base : Heap} {A : Adr} {n j : Nat}
theorem MF.q {m : Str} {ok : Pt → Prop} {g : Pt → List Str} (h : MF P w K mg base A j m n ok g) : MQ P w K mg base A j m n ok fun p => strsD (g p) := fun C hC => by
  obtain ⟨f, fd, ps, c, M, F, b⟩ := (h C hC).ex
  refine ⟨⟨f, fd, ps, [], [], c, M, F.imp (spF_of m_NF fun ds Q ⟨p, e, e2, hd, ho, q⟩ => ⟨p, e, e2, hd, ho, fun a => ?_⟩), b, .nil, fun _ => .nil⟩, m_Q⟩
  have hview : viewD [(a, MD.lst ((g p).map D.str))] (.adr a) = strsD (g p) := by simp [viewD, MD.d, List.lookup, strsD]
  show Q (viewD [(a, MD.lst ((g p).map D.str))] (.adr a))
  rw [hview]
  exact q
theorem names_of (d : ∀ C, isP A C → Dm K C "names" "Part.names" s_Part_names ["self"]) (cf_once : CalF P w K mg base j "once" ["lists"] sdOnce) (m_inner : MP P w K mg base A j "inner" (n + 1) (gInner A)) (m_own_names : MP P w K mg base A j "own_names" (n + 1) fun p => strsD p.own)
    (m_names : MQ P w K mg base A j "names" n okN fun p => strsD p.names) : MF P w K mg base A (j + 1) "names" (n + 1) okN Pt.names := by
  intro C hC
  refine (d C hC).calF sc_Part_names m_NF (fun ds Q ⟨p, e, _⟩ => by rw [e]; rfl) (fun f cdv A outer s H E hr => have hu := hr.units; have hh := hr.hd; have sc := sc_Part_names
    (ms_one (ms_retP (f_cal cf_once hr (by omega) (by rfl) (a_cons (d_add (d_lc (x := "part") (caps := []) (cn := []) (cl := []) (comp0 (by rfl) (by rfl) (by decide +kernel) (by decide +kernel) (by decide +kernel)) rfl (i_any (d_m0 m_inner hr (by omega) (dv 0))) (fun C fp s₂ H₂ => pg_name (i := 0) (show (["part"] : List Str).Nodup by decide +kernel) rfl (Or.inl rfl) (.inr rfl)) (fun C fp s₂ H₂ => ts_nil) (fun C fp s₂ H₂ => (d_m0 m_names hr (by omega) (dv 0)))) (d_lst (a_cons (d_m0 m_own_names hr (by omega) (dv 0)) a_nil))) a_nil))))) ?_
  rintro ds Q ⟨p, rfl, hc, hd, ho, q⟩
  refine vMeth_of m_var noM_inner ⟨_, rfl, rfl⟩ hd ?_
  refine ⟨p.inner.map (Pt.d A), rfl, p.inner.map fun q => some (strsD q.names), by simp, fun i d o hd' ho' => ?_, ?_, ?_⟩
  · obtain ⟨r, hr, e1, e2⟩ := inner_at hd' ho'
    subst e1 e2
    exact ⟨rfl, fun _ => vMethQ_of m_var noM_names ⟨_, rfl, rfl⟩ (p.in_depth hr hd) (Nat.le_trans (Pt.in_size hr) ho) rfl⟩
  · rw [List.length_map]; exact Nat.lt_of_le_of_lt p.inner_len (by decide)
  · refine vMeth_of (p := p) m_var noM_own ⟨_, rfl, rfl⟩ hd ⟨(show 1 ≤ sizeLine by decide), ?_⟩
    have e : (p.inner.map fun q => some (strsD q.names)).filterMap id ++ [strsD p.own] = (p.inner.map Pt.names ++ [p.own]).map strsD := by
      rw [List.filterMap_map, filterMap_some, List.map_append, List.map_map]
      rfl
    refine ⟨?_, p.inner.map Pt.names ++ [p.own], ?_, ?_, fun a => ?_⟩
    · show ((p.inner.map fun q => some (strsD q.names)).filterMap id).length + 1 ≤ sizeLine
      rw [List.filterMap_map, filterMap_some, List.length_map]
      exact Nat.le_trans (Nat.add_le_add_right p.inner_len 1) (by decide)
    · exact congrArg (fun z => [D.lst z]) e
    · exact Nat.lt_of_le_of_lt p.sum_names (Nat.lt_of_le_of_lt ho (by decide))
    · rw [← Pt.names_inner]; exact q a
end
end K35
namespace K35
open PySem PySem.Spec PyProof.Rows L2 DC
section
seal wpAny
variable {P : Program} {w : World} {K : PySem.W.Frag} {mg : Str → Option Value} {base : Heap} {A : Adr} {n j : Nat}
structure DOwn (K : PySem.W.Frag) (A : Adr) : Prop where
  given : Dm K A.given "own_names" "Part.own_names" s_Part_own_names ["self"]
  named : Dm K A.named "own_names" "Named.own_names" s_Named_own_names ["self"]
  pair : Dm K A.pair "own_names" "Part.own_names" s_Part_own_names ["self"]
  before : Dm K A.before "own_names" "Part.own_names" s_Part_own_names ["self"]
theorem own_given (hA : AOk K A) (d : Dm K A.given "own_names" "Part.own_names" s_Part_own_names ["self"]) : Mcal P w K mg base (j + 1) A.given "own_names" (sdP A n (fun p => strsD p.own) A.given) [] := by
  refine d.cal sc_Part_own_names m_P l_P (fun f cdv A outer s H E hr => have hu := hr.units; have hh := hr.hd; have sc := sc_Part_own_names
    (ss_one (s_ret (d_lst a_nil)))) ?_
  rintro ds Q ⟨p, rfl, hc, hd, q⟩
  have c := hA.cl _ (Pt.cls_in A p)
  have no := hA.nof _ (Pt.cls_in A p)
  obtain ⟨v, rfl⟩ := is_given hA hc
  exact ⟨(show 0 ≤ sizeLine by decide), q⟩
theorem own_named (hA : AOk K A) (d : Dm K A.named "own_names" "Named.own_names" s_Named_own_names ["self"]) : Mcal P w K mg base (j + 1) A.named "own_names" (sdP A n (fun p => strsD p.own) A.named) [] := by
  refine d.cal sc_Named_own_names m_P l_P (fun f cdv A outer s H E hr => have hu := hr.units; have hh := hr.hd; have sc := sc_Named_own_names
    (ss_one (s_ret (d_lst (a_cons (d_fldK K rfl (dv 0) (by rfl)) a_nil))))) ?_
  rintro ds Q ⟨p, rfl, hc, hd, q⟩
  have c := hA.cl _ (Pt.cls_in A p)
  have no := hA.nof _ (Pt.cls_in A p)
  obtain ⟨s, rfl⟩ := is_named hA hc
  exact vFld_of rfl c (no _ (by decide)) (by kernel_rfl) ⟨(show 1 ≤ sizeLine by decide), q⟩
theorem own_pair (hA : AOk K A) (d : Dm K A.pair "own_names" "Part.own_names" s_Part_own_names ["self"]) : Mcal P w K mg base (j + 1) A.pair "own_names" (sdP A n (fun p => strsD p.own) A.pair) [] := by
  refine d.cal sc_Part_own_names m_P l_P (fun f cdv A outer s H E hr => have hu := hr.units; have hh := hr.hd; have sc := sc_Part_own_names
    (ss_one (s_ret (d_lst a_nil)))) ?_
  rintro ds Q ⟨p, rfl, hc, hd, q⟩
  have c := hA.cl _ (Pt.cls_in A p)
  have no := hA.nof _ (Pt.cls_in A p)
  obtain ⟨g, x, y, rfl⟩ := is_pair hA hc
  exact ⟨(show 0 ≤ sizeLine by decide), q⟩
theorem own_before (hA : AOk K A) (d : Dm K A.before "own_names" "Part.own_names" s_Part_own_names ["self"]) : Mcal P w K mg base (j + 1) A.before "own_names" (sdP A n (fun p => strsD p.own) A.before) [] := by
  refine d.cal sc_Part_own_names m_P l_P (fun f cdv A outer s H E hr => have hu := hr.units; have hh := hr.hd; have sc := sc_Part_own_names
    (ss_one (s_ret (d_lst a_nil)))) ?_
  rintro ds Q ⟨p, rfl, hc, hd, q⟩
  have c := hA.cl _ (Pt.cls_in A p)
  have no := hA.nof _ (Pt.cls_in A p)
  obtain ⟨x, f, rfl⟩ := is_before hA hc
  exact ⟨(show 0 ≤ sizeLine by decide), q⟩
theorem own_all (hA : AOk K A) (d : DOwn K A) (n : Nat) : MP P w K mg base A (j + 1) "own_names" n fun p => strsD p.own := fun C ⟨p, e⟩ => by
  subst e
  cases p
  · exact own_given hA d.given
  · exact own_named hA d.named
  · exact own_pair hA d.pair
  · exact own_before hA d.before
theorem Dm.neverF {C : Addr} {m qual : Str} {st : Stmt} {ps : List Str} {sd : SpF} (d : Dm K C m qual st ps) (ms : MonoSF sd) (h : ∀ ds Q, ¬ sd ds Q) : McalF P w K mg base j C m sd := by
  obtain ⟨f, fd, F, M, c, b⟩ := d.ex
  exact ⟨⟨f, fd, ps, c, M, ⟨fun vs H Q E ⟨ds, _, q⟩ => (h _ _ q).elim, fun A outer s H args us vs Q E _ _ _ _ ⟨ds, _, q⟩ => (h _ _ q).elim⟩, b⟩, ms⟩
theorem zero_NF {ok : Pt → Prop} {g : Pt → List Str} {C : Addr} (ds : List D) (Q : D → Mu → Prop) : ¬ sdNF A 0 ok g C ds Q := fun ⟨p, _, _, h, _⟩ => absurd p.depth_pos (by omega)
theorem names_all (hA : AOk K A) (dI : DInner K A) (dO : DOwn K A) (c1 : CalF P w K mg base 1 "once" ["lists"] sdOnce) (d : ∀ C, isP A C → Dm K C "names" "Part.names" s_Part_names ["self"]) : ∀ n, MF P w K mg base A (n + 1) "names" n okN Pt.names
  | 0 => fun C hC => Dm.neverF (d C hC) m_NF zero_NF
  | n + 1 => names_of d (let ⟨f, fd, F, r⟩ := c1.ex; ⟨⟨f, fd, F.mono (show 1 ≤ n + 1 by omega), r⟩, c1.ms⟩) (inner_all hA dI _) (own_all hA dO _) (MF.q (names_all hA dI dO c1 d n))
end
end K35

set_option maxHeartbeats 4000000
namespace DC
open PySem PySem.Spec PyProof.Rows L2
section
variable {X : Cx} {e : Expr} {te : ED} {pos : Pos}
def mExprV (te : ED) : TMD := fun E δ μ => te (viewS μ δ) fun _ => E.nx δ μ
theorem ms_exprV (he : PD X e te) (hs : swapsWith e none pos.line X.env = pure false := by rfl) : PMd X (.Expr e pos) (mExprV te) :=
  ⟨PS.imp (ps_expr he.pe hs) fun D σ H ⟨δ, μ, L, r, g, h⟩ => ⟨_, g.viewS r, he.mono _ _ _ (fun d q v H1 s1 dv => q σ H1 L (hidL_on s1) (r.same (hidL_on s1)) (g.on s1)) h⟩, fun E E' δ μ l h => he.mono _ _ _ (fun d q => l.nx _ _ q) h⟩
variable {E : EndsM} {δ δ' : SD} {μ : Mu} {uc : TD} {t u r : TMD}
end
section
variable {P : Program} {w : World} {K : PySem.W.Frag} {mg : Str → Option Value} {base : Heap}
theorem Dm.calM {k : Nat} {C : Addr} {m qual : Str} {st : Stmt} {ps N : List Str} {sd : SpD} {t : TMD} (d : Dm K C m qual st ps) (S : FnScope N ps (defScope st)) (ms : MonoS sd) (len : ∀ ds Q, sd ds Q → ds.length = ps.length)
    (hb : ∀ (f : Addr) (cdv : Value) (A : Around) (outer : List Env) (s : Shared) (H : Hp) (E : XK), Room k (A.deeper (envOfC qual (defScope st) s.heap.objs.size f cdv)) → PMs (Bx P w K mg base N qual st f cdv A outer s H E) (defBody st) t)
    (hr : ∀ ds Q, sd ds Q → t { nx := fun _ _ => Q .non, rt := fun d μ => Q (viewD μ d) } (startD N ds) []) : Mcal P w K mg base (k + 1) C m sd [] := by
  obtain ⟨f, fd, F, M, c, b⟩ := d.ex
  exact ⟨⟨f, fd, ps, [], [], c, M, okM F S len (hb f) hr, b, .nil, fun _ => .nil⟩, ms⟩
end
end DC

set_option maxHeartbeats 4000000
namespace K35
open PySem PySem.Spec PyProof.Rows L2 DC
inductive Ln where
  | inp (n k : Str) (o : Option Str) | row (n k : Str) (p : Pt) (o : Option Str) | use (bs : List Str) (m : Str) (ps : List Pt) (o : Option Str)
structure LA where
  inp : Addr
  row : Addr
  use : Addr
  sh : Addr
def onD : Option Str → D
  | none => .non
  | some x => .str x
def Ln.cls (L : LA) : Ln → Addr
  | .inp _ _ _ => L.inp
  | .row _ _ _ _ => L.row
  | .use _ _ _ _ => L.use
def Ln.d (A : Adr) (L : LA) : Ln → D
  | .inp n k o => .obj L.inp [("name", .str n), ("kind", .str k), ("on", onD o)]
  | .row n k p o => .obj L.row [("name", .str n), ("kind", .str k), ("part", p.d A), ("on", onD o)]
  | .use bs m ps o => .obj L.use [("binds", .tup (bs.map D.str)), ("module", .str m), ("parts", .tup (ps.map (Pt.d A))), ("on", onD o)]
def Ln.own : Ln → List Str
  | .inp n _ _ => [n]
  | .row n _ _ _ => [n]
  | .use bs _ _ _ => bs
def Ln.parts : Ln → List Pt
  | .inp _ _ _ => []
  | .row _ _ p _ => [p]
  | .use _ _ ps _ => ps
def Ln.on : Ln → Option Str
  | .inp _ _ o => o
  | .row _ _ _ o => o
  | .use _ _ _ o => o
def Ln.truths : Ln → Bool
  | .inp _ k _ => k == "truth"
  | .row _ k _ _ => k == "truth"
  | .use _ _ _ _ => false
def lfs : List Str := ["name", "kind", "part", "on", "binds", "module", "parts", "inputs", "outputs", "lines"]
structure LOk (K : PySem.W.Frag) (L : LA) : Prop where
  n1 : L.inp ≠ L.row
  n2 : L.inp ≠ L.use
  n3 : L.row ≠ L.use
  cl : ∀ C ∈ [L.inp, L.row, L.use, L.sh], Cls K C
  nof : ∀ C ∈ [L.inp, L.row, L.use, L.sh], ∀ f ∈ lfs, NoAttr K C f
theorem Ln.cls_in (L : LA) (x : Ln) : x.cls L ∈ [L.inp, L.row, L.use, L.sh] := by cases x <;> simp [Ln.cls]
theorem is_inp {K : PySem.W.Frag} {L : LA} (hL : LOk K L) {x : Ln} (h : x.cls L = L.inp) : ∃ n k o, x = .inp n k o := by
  cases x with
  | inp n k o => exact ⟨n, k, o, rfl⟩
  | row n k p o => exact absurd h.symm hL.n1
  | use b m p o => exact absurd h.symm hL.n2
theorem is_row {K : PySem.W.Frag} {L : LA} (hL : LOk K L) {x : Ln} (h : x.cls L = L.row) : ∃ n k p o, x = .row n k p o := by
  cases x with
  | inp n k o => exact absurd h hL.n1
  | row n k p o => exact ⟨n, k, p, o, rfl⟩
  | use b m p o => exact absurd h.symm hL.n3
theorem is_use {K : PySem.W.Frag} {L : LA} (hL : LOk K L) {x : Ln} (h : x.cls L = L.use) : ∃ b m p o, x = .use b m p o := by
  cases x with
  | inp n k o => exact absurd h hL.n2
  | row n k p o => exact absurd h hL.n3
  | use b m p o => exact ⟨b, m, p, o, rfl⟩
def isL (L : LA) (C : Addr) : Prop := ∃ x : Ln, x.cls L = C
def okLn (x : Ln) : Prop := x.own.length ≤ 8 ∧ x.parts.length ≤ 8 ∧ ∀ p ∈ x.parts, p.depth ≤ 4 ∧ p.size ≤ 40
def sdL (A : Adr) (L : LA) (g : Ln → D) (C : Addr) : SpD := fun ds Q => ∃ x : Ln, ds = [x.d A L] ∧ x.cls L = C ∧ okLn x ∧ Q (g x)
theorem m_L {A : Adr} {L : LA} {g : Ln → D} {C : Addr} : MonoS (sdL A L g C) := fun ds P P' f ⟨x, e, c, o, q⟩ => ⟨x, e, c, o, f _ q⟩
theorem l_L {A : Adr} {L : LA} {g : Ln → D} {C : Addr} (ds : List D) (Q : D → Prop) (h : sdL A L g C ds Q) : ds.length = 1 := by obtain ⟨x, e, _⟩ := h; rw [e]; rfl
def sdLF (A : Adr) (L : LA) (g : Ln → List Str) (C : Addr) : SpF := fun ds Q => ∃ x : Ln, ds = [x.d A L] ∧ x.cls L = C ∧ okLn x ∧ ∀ a, Q (.adr a) [(a, .lst ((g x).map D.str))]
theorem m_LF {A : Adr} {L : LA} {g : Ln → List Str} {C : Addr} : MonoSF (sdLF A L g C) := fun ds P P' f ⟨x, e, c, o, q⟩ => ⟨x, e, c, o, fun a => f _ _ (q a)⟩
def noL (m : Str) : Prop := ∀ f ∈ lfs, (m == f) = false
theorem no_lmeth (A : Adr) (L : LA) {m : Str} (h : noL m) (x : Ln) : ∃ gs, x.d A L = .obj (x.cls L) gs ∧ gs.lookup m = none := by
  have l : ∀ {f : Str} {d : D} {r : List (Str × D)}, f ∈ lfs → r.lookup m = none → ((f, d) :: r).lookup m = none := fun hf hr => by
    rw [List.lookup_cons, h _ hf]
    exact hr
  cases x <;> refine ⟨_, rfl, ?_⟩ <;> repeat (first | rfl | refine l (by decide) ?_)
theorem lMeth_of {A : Adr} {L : LA} {g : Ln → D} {m : Str} {ta : ED} {δ : SD} {x : Ln} {Q : D → Prop} (mt : MonoE ta) (hm : noL m) (h : ta δ fun d => d = x.d A L) (ho : okLn x) (q : Q (g x)) :
    vMeth (isL L) m (sdL A L g) [] ta aNil δ Q := mt _ _ _ (fun d e => by
  obtain ⟨gs, e1, e2⟩ := no_lmeth A L hm x
  exact ⟨x.cls L, gs, e.trans e1, e2, ⟨x, rfl⟩, x, by rw [List.append_nil, e], rfl, ho, q⟩) h
theorem lMethF_of {A : Adr} {L : LA} {g : Ln → List Str} {m : Str} {ta : ED} {δ : SD} {x : Ln} {Q : D → Mu → Prop} (mt : MonoE ta) (hm : noL m) (h : ta δ fun d => d = x.d A L) (ho : okLn x) (q : ∀ a, Q (.adr a) [(a, .lst ((g x).map D.str))]) :
    fMeth (isL L) m (sdLF A L g) ta δ Q := mt _ _ _ (fun d e => by
  obtain ⟨gs, e1, e2⟩ := no_lmeth A L hm x
  exact ⟨x.cls L, gs, e.trans e1, e2, ⟨x, rfl⟩, x, by rw [e], rfl, ho, q⟩) h
theorem noL_own : noL "own_names" := by unfold noL; decide +kernel
theorem noL_parts : noL "own_parts" := by unfold noL; decide +kernel
theorem noL_truths : noL "is_truths" := by unfold noL; decide +kernel
section
seal wpAny
variable {P : Program} {w : World} {K : PySem.W.Frag} {mg : Str → Option Value} {base : Heap} {A : Adr} {L : LA} {n j : Nat}
structure DLines (K : PySem.W.Frag) (L : LA) : Prop where
  o1 : Dm K L.inp "own_names" "Input.own_names" s_Input_own_names ["self"]
  o2 : Dm K L.row "own_names" "Row.own_names" s_Row_own_names ["self"]
  o3 : Dm K L.use "own_names" "Use.own_names" s_Use_own_names ["self"]
  p1 : Dm K L.inp "own_parts" "Input.own_parts" s_Input_own_parts ["self"]
  p2 : Dm K L.row "own_parts" "Row.own_parts" s_Row_own_parts ["self"]
  p3 : Dm K L.use "own_parts" "Use.own_parts" s_Use_own_parts ["self"]
  t1 : Dm K L.inp "is_truths" "Input.is_truths" s_Input_is_truths ["self"]
  t2 : Dm K L.row "is_truths" "Row.is_truths" s_Row_is_truths ["self"]
  t3 : Dm K L.use "is_truths" "Use.is_truths" s_Use_is_truths ["self"]
theorem own_lines (hL : LOk K L) (d : DLines K L) (n_list : mg "list" = none) : ∀ C, isL L C → McalF P w K mg base (j + 1) C "own_names" (sdLF A L Ln.own C) := fun C ⟨x, e⟩ => by
  subst e
  have one : 1 ≤ sizeLine := by decide
  cases x with
  | inp n k o =>
    refine d.o1.calF sc_Input_own_names m_LF (fun ds Q ⟨x, e, _⟩ => by rw [e]; rfl) (fun f cdv A outer s H E hr => have hu := hr.units; have hh := hr.hd; have sc := sc_Input_own_names
    (ms_one (ms_retP (f_lst (a_cons (d_fldK K rfl (dv 0) (by rfl)) a_nil))))) ?_
    rintro ds Q ⟨x, rfl, hc, ho, q⟩
    have c := hL.cl _ (Ln.cls_in L x)
    have no := hL.nof _ (Ln.cls_in L x)
    obtain ⟨n, k, o, rfl⟩ := is_inp hL hc
    exact vFld_of rfl c (no _ (by decide)) (by kernel_rfl) ⟨one, q⟩
  | row n k p o =>
    refine d.o2.calF sc_Row_own_names m_LF (fun ds Q ⟨x, e, _⟩ => by rw [e]; rfl) (fun f cdv A outer s H E hr => have hu := hr.units; have hh := hr.hd; have sc := sc_Row_own_names
    (ms_one (ms_retP (f_lst (a_cons (d_fldK K rfl (dv 0) (by rfl)) a_nil))))) ?_
    rintro ds Q ⟨x, rfl, hc, ho, q⟩
    have c := hL.cl _ (Ln.cls_in L x)
    have no := hL.nof _ (Ln.cls_in L x)
    obtain ⟨n, k, p, o, rfl⟩ := is_row hL hc
    exact vFld_of rfl c (no _ (by decide)) (by kernel_rfl) ⟨one, q⟩
  | use b m p o =>
    refine d.o3.calF sc_Use_own_names m_LF (fun ds Q ⟨x, e, _⟩ => by rw [e]; rfl) (fun f cdv A outer s H E hr => have hu := hr.units; have hh := hr.hd; have sc := sc_Use_own_names
    (ms_one (ms_retP (f_list_of (by rfl) n_list (a_cons (d_fldK K rfl (dv 0) (by rfl)) a_nil))))) ?_
    rintro ds Q ⟨x, rfl, hc, ho, q⟩
    have c := hL.cl _ (Ln.cls_in L x)
    have no := hL.nof _ (Ln.cls_in L x)
    obtain ⟨b, m, p, o, rfl⟩ := is_use hL hc
    exact vFld_of rfl c (no _ (by decide)) (by kernel_rfl) ⟨b.map D.str, .inr rfl, q⟩
theorem parts_lines (hL : LOk K L) (d : DLines K L) : ∀ C, isL L C → Mcal P w K mg base (j + 1) C "own_parts" (sdL A L (fun x => .tup (x.parts.map (Pt.d A))) C) [] := fun C ⟨x, e⟩ => by
  subst e
  cases x with
  | inp n k o =>
    refine d.p1.cal sc_Input_own_parts m_L l_L (fun f cdv A outer s H E hr => have hu := hr.units; have hh := hr.hd; have sc := sc_Input_own_parts
    (ss_one (s_ret (d_tup a_nil)))) ?_
    rintro ds Q ⟨x, rfl, hc, ho, q⟩
    obtain ⟨n, k, o, rfl⟩ := is_inp hL hc
    exact ⟨(show 0 ≤ sizeLine by decide), q⟩
  | row n k p o =>
    refine d.p2.cal sc_Row_own_parts m_L l_L (fun f cdv A outer s H E hr => have hu := hr.units; have hh := hr.hd; have sc := sc_Row_own_parts
    (ss_one (s_ret (d_tup (a_cons (d_fldK K rfl (dv 0) (by rfl)) a_nil))))) ?_
    rintro ds Q ⟨x, rfl, hc, ho, q⟩
    have c := hL.cl _ (Ln.cls_in L x)
    have no := hL.nof _ (Ln.cls_in L x)
    obtain ⟨n, k, p, o, rfl⟩ := is_row hL hc
    exact vFld_of rfl c (no _ (by decide)) (by kernel_rfl) ⟨(show 1 ≤ sizeLine by decide), q⟩
  | use b m p o =>
    refine d.p3.cal sc_Use_own_parts m_L l_L (fun f cdv A outer s H E hr => have hu := hr.units; have hh := hr.hd; have sc := sc_Use_own_parts
    (ss_one (s_ret (d_fldK K rfl (dv 0) (by rfl))))) ?_
    rintro ds Q ⟨x, rfl, hc, ho, q⟩
    have c := hL.cl _ (Ln.cls_in L x)
    have no := hL.nof _ (Ln.cls_in L x)
    obtain ⟨b, m, p, o, rfl⟩ := is_use hL hc
    exact vFld_of rfl c (no _ (by decide)) (by kernel_rfl) q
theorem truths_lines (hL : LOk K L) (d : DLines K L) : ∀ C, isL L C → Mcal P w K mg base (j + 1) C "is_truths" (sdL A L (fun x => .bl x.truths) C) [] := fun C ⟨x, e⟩ => by
  subst e
  cases x with
  | inp n k o =>
    refine d.t1.cal sc_Input_is_truths m_L l_L (fun f cdv A outer s H E hr => have hu := hr.units; have hh := hr.hd; have sc := sc_Input_is_truths
    (ss_one (s_ret (d_eq hu (d_fldK K rfl (dv 0) (by rfl)) d_str)))) ?_
    rintro ds Q ⟨x, rfl, hc, ho, q⟩
    have c := hL.cl _ (Ln.cls_in L x)
    have no := hL.nof _ (Ln.cls_in L x)
    obtain ⟨n, k, o, rfl⟩ := is_inp hL hc
    exact vFld_of (r := .str k) rfl c (no _ (by decide)) (by kernel_rfl) q
  | row n k p o =>
    refine d.t2.cal sc_Row_is_truths m_L l_L (fun f cdv A outer s H E hr => have hu := hr.units; have hh := hr.hd; have sc := sc_Row_is_truths
    (ss_one (s_ret (d_eq hu (d_fldK K rfl (dv 0) (by rfl)) d_str)))) ?_
    rintro ds Q ⟨x, rfl, hc, ho, q⟩
    have c := hL.cl _ (Ln.cls_in L x)
    have no := hL.nof _ (Ln.cls_in L x)
    obtain ⟨n, k, p, o, rfl⟩ := is_row hL hc
    exact vFld_of (r := .str k) rfl c (no _ (by decide)) (by kernel_rfl) q
  | use b m p o =>
    refine d.t3.cal sc_Use_is_truths m_L l_L (fun f cdv A outer s H E hr => have hu := hr.units; have hh := hr.hd; have sc := sc_Use_is_truths
    (ss_one (s_ret d_bl))) ?_
    rintro ds Q ⟨x, rfl, hc, ho, q⟩
    obtain ⟨b, m, p, o, rfl⟩ := is_use hL hc
    exact q
end
end K35

-- gen set dget found passed
-- gen set give need_known
-- gen set exprV need_ons
set_option maxHeartbeats 4000000
namespace K35
open PySem PySem.Spec PyProof.Rows L2 DC
structure Sh where
  nm : Str
  ins : List Ln
  outs : List Str
  ls : List Ln
def Sh.all (s : Sh) : List Ln := s.ins ++ s.ls
def Sh.d (A : Adr) (L : LA) (s : Sh) : D := .obj L.sh [("name", .str s.nm), ("inputs", .tup (s.ins.map (Ln.d A L))), ("outputs", .tup (s.outs.map D.str)), ("lines", .tup (s.ls.map (Ln.d A L)))]
def Sh.names (s : Sh) : List Str := s.all.flatMap Ln.own
def tabOf (A : Adr) (L : LA) (xs : List Ln) : List (Key × D) := xs.flatMap fun x => x.own.map fun n => ((Sum.inr n : Key), x.d A L)
def Sh.tab (A : Adr) (L : LA) (s : Sh) : List (Key × D) := tabOf A L s.all
structure Sh.Ok (s : Sh) : Prop where
  len : s.ins.length ≤ 8 ∧ s.ls.length ≤ 10
  ln : ∀ x ∈ s.all, okLn x
theorem Sh.Ok.all_len {s : Sh} (h : s.Ok) : s.all.length ≤ 18 := by
  unfold Sh.all
  rw [List.length_append]
  have := h.len
  omega
theorem flat_len : ∀ {xs : List Ln}, (∀ x ∈ xs, okLn x) → (xs.flatMap Ln.own).length ≤ 8 * xs.length
  | [], _ => Nat.le_refl _
  | x :: xs, h => by
    rw [List.flatMap_cons, List.length_append, List.length_cons]
    have h1 := (h x List.mem_cons_self).1
    have h2 := flat_len (xs := xs) fun y hy => h y (List.mem_cons_of_mem _ hy)
    omega
theorem take_flat {xs : List Ln} {i : Nat} {x : Ln} {f : Ln → List Str} (h : xs[i]? = some x) : (xs.take (i + 1)).flatMap f = (xs.take i).flatMap f ++ f x := by
  rw [List.take_succ, h, List.flatMap_append]
  simp
def sdS1 (A : Adr) (L : LA) (ok : Sh → Prop) (g : Sh → D) (C : Addr) : SpD := fun ds Q => ∃ s : Sh, ds = [s.d A L] ∧ L.sh = C ∧ s.Ok ∧ ok s ∧ Q (g s)
theorem m_S1 {A : Adr} {L : LA} {ok : Sh → Prop} {g : Sh → D} {C : Addr} : MonoS (sdS1 A L ok g C) := fun ds P P' f ⟨s, e, c, o, k, q⟩ => ⟨s, e, c, o, k, f _ q⟩
theorem l_S1 {A : Adr} {L : LA} {ok : Sh → Prop} {g : Sh → D} {C : Addr} (ds : List D) (Q : D → Prop) (h : sdS1 A L ok g C ds Q) : ds.length = 1 := by obtain ⟨x, e, _⟩ := h; rw [e]; rfl
def sdSF (A : Adr) (L : LA) (C : Addr) : SpF := fun ds Q => ∃ s : Sh, ds = [s.d A L] ∧ L.sh = C ∧ s.Ok ∧ ∀ a, Q (.adr a) [(a, .lst (s.names.map D.str))]
theorem m_SF {A : Adr} {L : LA} {C : Addr} : MonoSF (sdSF A L C) := fun ds P P' f ⟨s, e, c, o, q⟩ => ⟨s, e, c, o, fun a => f _ _ (q a)⟩
def isS (L : LA) (C : Addr) : Prop := L.sh = C
theorem no_smeth (A : Adr) (L : LA) {m : Str} (h : noL m) (s : Sh) : ∃ gs, s.d A L = .obj L.sh gs ∧ gs.lookup m = none := by
  have l : ∀ {f : Str} {d : D} {r : List (Str × D)}, f ∈ lfs → r.lookup m = none → ((f, d) :: r).lookup m = none := fun hf hr => by
    rw [List.lookup_cons, h _ hf]
    exact hr
  refine ⟨_, rfl, ?_⟩
  repeat (first | rfl | refine l (by decide) ?_)
theorem sMeth_of {A : Adr} {L : LA} {ok : Sh → Prop} {g : Sh → D} {m : Str} {ta : ED} {δ : SD} {s : Sh} {Q : D → Prop} (mt : MonoE ta) (hm : noL m) (h : ta δ fun d => d = s.d A L) (ho : s.Ok) (hk : ok s) (q : Q (g s)) :
    vMeth (isS L) m (sdS1 A L ok g) [] ta aNil δ Q := mt _ _ _ (fun d e => by
  obtain ⟨gs, e1, e2⟩ := no_smeth A L hm s
  exact ⟨L.sh, gs, e.trans e1, e2, rfl, s, by rw [List.append_nil, e], rfl, ho, hk, q⟩) h
theorem noL_all : noL "all_lines" := by unfold noL; decide +kernel
theorem noL_names : noL "names" := by unfold noL; decide +kernel
theorem noL_byname : noL "lines_by_name" := by unfold noL; decide +kernel
def gAll (A : Adr) (L : LA) (s : Sh) : D := .tup (s.all.map (Ln.d A L))
theorem putKD_new {kvs : List (Key × D)} {k : Key} {v : D} (h : ∀ p ∈ kvs, p.1 ≠ k) : putKD kvs k v = kvs ++ [(k, v)] := by
  unfold putKD
  rw [if_neg]
  intro z
  obtain ⟨p, hp, e⟩ := List.any_eq_true.mp z
  exact h p hp (of_decide_eq_true e)
theorem tab_keys {A : Adr} {L : LA} : ∀ (xs : List Ln), (tabOf A L xs).map (·.1) = (xs.flatMap Ln.own).map Sum.inr
  | [] => rfl
  | x :: xs => by
    unfold tabOf
    rw [List.flatMap_cons, List.map_append, List.flatMap_cons, List.map_append, List.map_map]
    have ih := tab_keys (A := A) (L := L) xs
    unfold tabOf at ih
    rw [ih]
    rfl
theorem tab_len {A : Adr} {L : LA} (xs : List Ln) : (tabOf A L xs).length = (xs.flatMap Ln.own).length := by
  have := congrArg List.length (tab_keys (A := A) (L := L) xs)
  simpa using this
def tabTo (A : Adr) (L : LA) (xs : List Ln) (x : Ln) (ns : List Str) : List (Key × D) := tabOf A L xs ++ ns.map fun n => ((Sum.inr n : Key), x.d A L)
theorem tab_step {A : Adr} {L : LA} {xs : List Ln} {x : Ln} {ns : List Str} {n : Str} (h : n ∉ xs.flatMap Ln.own ++ ns) : putKD (tabTo A L xs x ns) (.inr n) (x.d A L) = tabTo A L xs x (ns ++ [n]) := by
  unfold tabTo
  rw [putKD_new, List.map_append, List.append_assoc]
  · rfl
  · intro p hp e
    apply h
    have : p.1 ∈ (tabOf A L xs ++ ns.map fun n => ((Sum.inr n : Key), x.d A L)).map (·.1) := List.mem_map.mpr ⟨p, hp, rfl⟩
    rw [List.map_append, tab_keys, List.map_map, e] at this
    rcases List.mem_append.mp this with q | q
    · obtain ⟨m, hm, em⟩ := List.mem_map.mp q
      cases em
      exact List.mem_append_left _ hm
    · obtain ⟨m, hm, em⟩ := List.mem_map.mp q
      cases em
      exact List.mem_append_right _ hm
theorem getK_append {a b : List (Key × D)} {k : Key} (h : ∀ p ∈ a, p.1 ≠ k) : getK (a ++ b) k = getK b k := by
  unfold getK
  rw [List.find?_append, List.find?_eq_none.mpr]
  · rfl
  · intro p hp z
    exact h p hp (of_decide_eq_true z)
theorem tab_get {A : Adr} {L : LA} {x : Ln} {n : Str} : ∀ {xs : List Ln}, (xs.flatMap Ln.own).Nodup → x ∈ xs → n ∈ x.own → getK (tabOf A L xs) (.inr n) = some (x.d A L)
  | [], _, h, _ => (nomatch h)
  | y :: xs, nd, h, hn => by
    rw [List.flatMap_cons] at nd
    obtain ⟨d1, d2, d3⟩ := List.nodup_append.mp nd
    show getK ((y.own.map fun n => ((Sum.inr n : Key), y.d A L)) ++ tabOf A L xs) (.inr n) = _
    by_cases hy : n ∈ y.own
    · have e : x = y := by
        rcases List.mem_cons.mp h with e | h
        · exact e
        · exact absurd rfl (d3 n hy n (List.mem_flatMap.mpr ⟨x, h, hn⟩))
      subst e
      have z : ∀ (l : List Str), n ∈ l → getK ((l.map fun n => ((Sum.inr n : Key), x.d A L)) ++ tabOf A L xs) (.inr n) = some (x.d A L) := fun l => by
        induction l with
        | nil => intro q; cases q
        | cons m l ih =>
          intro q
          by_cases em : m = n
          · subst em
            unfold getK
            rw [List.map_cons, List.cons_append, List.find?_cons]
            simp
          · have ih' := ih ((List.mem_cons.mp q).resolve_left fun z => em z.symm)
            unfold getK at ih' ⊢
            rw [List.map_cons, List.cons_append, List.find?_cons, show decide (((Sum.inr m : Key), x.d A L).1 = Sum.inr n) = false from decide_eq_false fun z => em (Sum.inr.inj z)]
            exact ih'
      exact z _ hy
    · have hx : x ∈ xs := by
        rcases List.mem_cons.mp h with e | h
        · rw [e] at hn; exact absurd hn hy
        · exact h
      rw [getK_append]
      · exact tab_get d2 hx hn
      · intro p hp e
        obtain ⟨m, hm, em⟩ := List.mem_map.mp hp
        rw [← em] at e
        cases e
        exact hy hm
section
seal wpAny
variable {P : Program} {w : World} {K : PySem.W.Frag} {mg : Str → Option Value} {base : Heap} {A : Adr} {L : LA} {n j : Nat}
theorem all_lines (hL : LOk K L) (d : Dm K L.sh "all_lines" "Sheet.all_lines" s_Sheet_all_lines ["self"]) : ∀ C, isS L C → Mcal P w K mg base (j + 1) C "all_lines" (sdS1 A L (fun _ => True) (gAll A L) C) [] := fun C e => by
  cases e
  refine d.cal sc_Sheet_all_lines m_S1 l_S1 (fun f cdv A outer s H E hr => have hu := hr.units; have hh := hr.hd; have sc := sc_Sheet_all_lines
    (ss_one (s_ret (d_add (d_fldK K rfl (dv 0) (by rfl)) (d_fldK K rfl (dv 0) (by rfl)))))) ?_
  rintro ds Q ⟨s, rfl, _, ho, _, q⟩
  have c := hL.cl L.sh (by simp)
  have no := hL.nof L.sh (by simp)
  refine vFld_of (r := .tup (s.ins.map (Ln.d A L))) rfl c (no _ (by decide)) (by kernel_rfl) (vFld_of (r := .tup (s.ls.map (Ln.d A L))) rfl c (no _ (by decide)) (by kernel_rfl) ⟨?_, ?_⟩)
  · rw [List.length_map, List.length_map]
    exact Nat.le_trans (show s.ins.length + s.ls.length ≤ 18 by have := ho.len; omega) (by decide)
  · rw [← List.map_append]
    exact q
theorem names_sheet (d : Dm K L.sh "names" "Sheet.names" s_Sheet_names ["self"]) (m_all_lines : ∀ C, isS L C → Mcal P w K mg base j C "all_lines" (sdS1 A L (fun _ => True) (gAll A L) C) []) (mf_own_names : ∀ C, isL L C → McalF P w K mg base j C "own_names" (sdLF A L Ln.own C)) :
    ∀ C, isS L C → McalF P w K mg base (j + 1) C "names" (sdSF A L C) := fun C e => by
  cases e
  refine d.calF sc_Sheet_names m_SF (fun ds Q ⟨s, e, _⟩ => by rw [e]; rfl) (fun f cdv A outer s H E hr => have hu := hr.units; have hh := hr.hd; have sc := sc_Sheet_names
    (ms_cons (ms_newL (i := 1) sc.nd rfl (Or.inl rfl) a_nil)
  (ms_cons (ms_for PassesOwn.never rfl (i_any (d_m0 m_all_lines hr (by omega) (dv 0))) (g_name (i := 2) sc.nd rfl (Or.inl rfl)) (ms_one (ms_extend (i := 1) rfl (Or.inl rfl) (f_m0 mf_own_names hr (by omega) (dv 2)))))
  (ms_one (ms_lift (s_ret (dv 1))))))) ?_
  rintro ds Q ⟨s, rfl, _, ho, q⟩
  refine ⟨(show 0 ≤ sizeLine by decide), fun a _ => ?_⟩
  refine sMeth_of m_var noL_all ⟨_, rfl, rfl⟩ ho True.intro ⟨s.all.map (Ln.d A L), rfl, fun i δ μ => (∃ x2, δ = [some (s.d A L), some (.adr a), x2]) ∧ μ = [(a, .lst (((s.all.take i).flatMap Ln.own).map D.str))], ⟨⟨none, rfl⟩, rfl⟩, ?_, ?_⟩
  · rintro i dd δ μ hd ⟨⟨x2, rfl⟩, rfl⟩
    rw [List.getElem?_map] at hd
    cases hx : s.all[i]? with
    | none => rw [hx] at hd; cases hd
    | some x =>
      rw [hx] at hd
      obtain rfl : x.d A L = dd := by simpa using hd
      have hox := ho.ln x (List.mem_of_getElem? hx)
      refine ⟨a, _, rfl, look1, lMethF_of m_var noL_own ⟨_, rfl, rfl⟩ hox fun b => ⟨b, _, rfl, look1, ?_, ⟨_, rfl⟩, ?_⟩⟩
      · rw [List.length_map, List.length_map]
        have h1 := flat_len (xs := s.all.take i) fun y hy => ho.ln y (List.mem_of_mem_take hy)
        have h2 : (s.all.take i).length ≤ 18 := Nat.le_trans (by rw [List.length_take]; exact Nat.min_le_right _ _) ho.all_len
        exact Nat.le_trans (show ((s.all.take i).flatMap Ln.own).length + x.own.length ≤ 200 by have := hox.1; omega) (by decide)
      · rw [put1, ← List.map_append, ← take_flat hx]
  · rintro δ μ ⟨⟨x2, rfl⟩, rfl⟩
    rw [List.length_map, List.take_length]
    exact ⟨_, rfl, q a⟩
theorem by_name (d : Dm K L.sh "lines_by_name" "Sheet.lines_by_name" s_Sheet_lines_by_name ["self"]) (m_all_lines : ∀ C, isS L C → Mcal P w K mg base j C "all_lines" (sdS1 A L (fun _ => True) (gAll A L) C) []) (m_own_names : ∀ C, isL L C → Mcal P w K mg base j C "own_names" (sdL A L (fun x => .lst (x.own.map D.str)) C) []) :
    ∀ C, isS L C → Mcal P w K mg base (j + 1) C "lines_by_name" (sdS1 A L (fun s => s.names.Nodup) (fun s => .dK (s.tab A L)) C) [] := fun C e => by
  cases e
  refine d.calM sc_Sheet_lines_by_name m_S1 l_S1 (fun f cdv A outer s H E hr => have hu := hr.units; have hh := hr.hd; have sc := sc_Sheet_lines_by_name
    (ms_cons (ms_setN (i := 1) sc.nd rfl (Or.inl rfl) f_dict0)
  (ms_cons (ms_for PassesOwn.never rfl (i_any (d_m0 m_all_lines hr (by omega) (dv 0))) (g_name (i := 2) sc.nd rfl (Or.inl rfl)) (ms_one (ms_for PassesOwn.never rfl (i_any (d_m0 m_own_names hr (by omega) (dv 2))) (g_name (i := 3) sc.nd rfl (Or.inl rfl)) (ms_one (ms_dset (i := 1) hu rfl (Or.inl rfl) (dv 3) (dv 2))))))
  (ms_one (ms_ret (dv 1)))))) ?_
  rintro ds Q ⟨s, rfl, _, ho, nd, q⟩
  intro a _
  refine sMeth_of m_var noL_all ⟨_, rfl, rfl⟩ ho True.intro ⟨s.all.map (Ln.d A L), rfl, fun i δ μ => (∃ x2 x3, δ = [some (s.d A L), some (.adr a), x2, x3]) ∧ μ = [(a, .dK (tabOf A L (s.all.take i)))], ⟨⟨none, none, rfl⟩, rfl⟩, ?_, ?_⟩
  · rintro i dd δ μ hd ⟨⟨x2, x3, rfl⟩, rfl⟩
    rw [List.getElem?_map] at hd
    cases hx : s.all[i]? with
    | none => rw [hx] at hd; cases hd
    | some x =>
      rw [hx] at hd
      obtain rfl : x.d A L = dd := by simpa using hd
      have hox := ho.ln x (List.mem_of_getElem? hx)
      have hlt : (s.all.take i).length ≤ 18 := Nat.le_trans (by rw [List.length_take]; exact Nat.min_le_right _ _) ho.all_len
      have hfl := flat_len (xs := s.all.take i) fun y hy => ho.ln y (List.mem_of_mem_take hy)
      have ndi : ((s.all.take i).flatMap Ln.own ++ x.own).Nodup := by
        rw [← take_flat hx]
        have e : s.names = (s.all.take (i + 1)).flatMap Ln.own ++ (s.all.drop (i + 1)).flatMap Ln.own := by rw [← List.flatMap_append, List.take_append_drop]; rfl
        rw [e] at nd
        exact (List.nodup_append.mp nd).1
      refine lMeth_of m_var noL_own ⟨_, rfl, rfl⟩ hox ⟨x.own.map D.str, rfl, fun k δ μ => (∃ x3, δ = [some (s.d A L), some (.adr a), some (x.d A L), x3]) ∧ μ = [(a, .dK (tabTo A L (s.all.take i) x (x.own.take k)))], ⟨⟨x3, rfl⟩, ?_⟩, ?_, ?_⟩
      · unfold tabTo
        rw [List.take_zero, List.map_nil, List.append_nil]
      · rintro k dn δ μ hd ⟨⟨y3, rfl⟩, rfl⟩
        rw [List.getElem?_map] at hd
        cases hn : x.own[k]? with
        | none => rw [hn] at hd; cases hd
        | some n =>
          rw [hn] at hd
          obtain rfl : D.str n = dn := by simpa using hd
          refine ⟨_, rfl, a, _, rfl, look1, ?_, _, rfl, .inr n, rfl, ⟨_, rfl⟩, ?_⟩
          · unfold tabTo
            rw [List.length_append, List.length_map, tab_len, List.length_take]
            exact Nat.lt_of_le_of_lt (show _ + min k x.own.length ≤ 160 by have := hox.1; omega) (by decide)
          · rw [put1, tab_step, List.take_succ, hn]
            · rfl
            · intro z
              have hk : k < x.own.length := (List.getElem?_eq_some_iff.mp hn).1
              have e : x.own = x.own.take k ++ x.own.drop k := (List.take_append_drop k x.own).symm
              have hin : n ∈ x.own.drop k := by
                rw [List.mem_iff_getElem?]
                exact ⟨0, by rw [List.getElem?_drop]; exact hn⟩
              rw [e, ← List.append_assoc] at ndi
              exact (List.nodup_append.mp ndi).2.2 n z n hin rfl
      · rintro δ μ ⟨⟨y3, rfl⟩, rfl⟩
        refine ⟨⟨_, _, rfl⟩, ?_⟩
        rw [List.length_map, List.take_length]
        unfold tabTo tabOf
        rw [List.take_succ, hx, List.flatMap_append]
        simp
  · rintro δ μ ⟨⟨x2, x3, rfl⟩, rfl⟩
    rw [List.length_map, List.take_length]
    refine ⟨.dK (s.tab A L), ?_, q⟩
    show some (some (viewD [(a, _)] (.adr a))) = _
    rw [view1]
    rfl
end
end K35

-- gen set dget found passed
-- gen set give need_known
-- gen set exprV need_ons
set_option maxHeartbeats 4000000
namespace K35
open PySem PySem.Spec PyProof.Rows L2 DC
def sdNs : SpD := fun ds Q => ∃ z : Str, ds = [.bl true, .str z] ∧ Q .non
def sdWd : SpD := fun ds Q => ∃ x : Str, ds = [.str x] ∧ x.length ≤ 100000 ∧ wordB x = true ∧ Q .non
def okOn : Option Str → Prop
  | none => True
  | some x => x.length ≤ 100000 ∧ nameB x = true
def sdOn : SpD := fun ds Q => ∃ o : Option Str, ds = [onD o] ∧ okOn o ∧ Q .non
def sdPk : SpD := fun ds Q => ∃ k : Str, ds = [.str k] ∧ k ∈ (["truth", "number"] : List Str) ∧ Q (.bl true)
def sdCounts (A : Adr) (L : LA) : SpD := fun ds Q => ∃ s : Sh, ds = [s.d A L] ∧ s.Ok ∧ 1 ≤ s.outs.length ∧ s.outs.length ≤ 8 ∧ 1 ≤ s.ls.length ∧ Q .non
def sdOnceN : SpD := fun ds Q => ∃ (ss : List Str) (z : Str), (ds = [.lst (ss.map D.str), .str z] ∨ ds = [.tup (ss.map D.str), .str z]) ∧ ss.Nodup ∧ ss.length ≤ 200 ∧ Q .non
def onL : Option Str → List Str
  | none => []
  | some x => [x]
def Ln.looks (x : Ln) : List Str := onL x.on ++ x.parts.flatMap Pt.names
def sdLooks (A : Adr) (L : LA) : SpF := fun ds Q => ∃ x : Ln, ds = [x.d A L] ∧ okLn x ∧ ∀ a, Q (.adr a) [(a, .lst (x.looks.map D.str))]
theorem looks_len {x : Ln} (h : okLn x) : x.looks.length ≤ 330 := by
  unfold Ln.looks
  rw [List.length_append]
  have h1 : (onL x.on).length ≤ 1 := by cases x.on <;> simp [onL]
  have h2 : ∀ (ps : List Pt), (∀ p ∈ ps, p.depth ≤ 4 ∧ p.size ≤ 40) → (ps.flatMap Pt.names).length ≤ 40 * ps.length := fun ps => by
    induction ps with
    | nil => intro _; exact Nat.le_refl _
    | cons p ps ih =>
      intro hp
      rw [List.flatMap_cons, List.length_append, List.length_cons]
      have := ih fun q hq => hp q (List.mem_cons_of_mem _ hq)
      have := (hp p List.mem_cons_self).2
      have := p.names_len
      omega
  have := h2 x.parts h.2.2
  have := h.2.1
  omega
def sdKnown (A : Adr) (L : LA) : SpD := fun ds Q => ∃ s : Sh, ds = [s.d A L, .dK (s.tab A L)] ∧ s.Ok ∧ s.names.Nodup ∧ s.outs.length ≤ 8 ∧ (∀ n ∈ s.outs ++ s.all.flatMap Ln.looks, n ∈ s.names) ∧ Q .non
def okOns (s : Sh) : Prop := ∀ x ∈ s.all, x.on = none ∨ ∃ n y, x.on = some n ∧ y ∈ s.all ∧ n ∈ y.own ∧ y.truths = true ∧ y.on = none
def sdOns (A : Adr) (L : LA) : SpD := fun ds Q => ∃ s : Sh, ds = [s.d A L, .dK (s.tab A L)] ∧ s.Ok ∧ s.names.Nodup ∧ okOns s ∧ Q .non
section
seal wpAny
variable {P : Program} {w : World} {K : PySem.W.Frag} {mg : Str → Option Value} {base : Heap} {A : Adr} {L : LA} {n j : Nat}
theorem c_need_sheet (d : Df K mg "need_sheet" s_need_sheet ["holds", "words"]) : Cal P w K mg base (j + 1) "need_sheet" ["holds", "words"] sdNs := by
  refine d.cal sc_need_sheet (fun ds P P' f ⟨z, e, q⟩ => ⟨z, e, f _ q⟩) (fun ds Q ⟨z, e, _⟩ => by rw [e]; rfl) (fun f cdv A outer s H E hr => have hu := hr.units; have hh := hr.hd; have sc := sc_need_sheet
    (ss_one (s_if (t_not (t_tru (dv 0))) (ss_one s_never) ss_nil))) ?_
  rintro ds Q ⟨z, rfl, q⟩
  exact ⟨_, rfl, true, rfl, iteF q⟩
theorem c_need_word (d : Df K mg "need_word" s_need_word ["word"]) (c_is_word : Cal P w K mg base j "is_word" ["thing"] (sdS fun x => .bl (wordB x))) : Cal P w K mg base (j + 1) "need_word" ["word"] sdWd := by
  refine d.cal sc_need_word (fun ds P P' f ⟨z, e, h1, h2, q⟩ => ⟨z, e, h1, h2, f _ q⟩) (fun ds Q ⟨z, e, _⟩ => by rw [e]; rfl) (fun f cdv A outer s H E hr => have hu := hr.units; have hh := hr.hd; have sc := sc_need_word
    (ss_one (s_if (t_not (t_tru (d_cal c_is_word hr (by omega) (by rfl) (a_cons (dv 0) a_nil)))) (ss_one s_never) ss_nil))) ?_
  rintro ds Q ⟨x, rfl, hx, hw, q⟩
  exact ⟨_, rfl, x, rfl, hx, true, congrArg some hw, iteF q⟩
theorem c_need_on (d : Df K mg "need_on" s_need_on ["on"]) (c_need_name : Cal P w K mg base j "need_name" ["name"] sdNm) : Cal P w K mg base (j + 1) "need_on" ["on"] sdOn := by
  refine d.cal sc_need_on (fun ds P P' f ⟨z, e, h1, q⟩ => ⟨z, e, h1, f _ q⟩) (fun ds Q ⟨z, e, _⟩ => by rw [e]; rfl) (fun f cdv A outer s H E hr => have hu := hr.units; have hh := hr.hd; have sc := sc_need_on
    (ss_one (s_if (t_isnot (dv 0) d_non) (ss_one (s_expr (d_cal c_need_name hr (by omega) (by rfl) (a_cons (dv 0) a_nil)))) ss_nil))) ?_
  rintro ds Q ⟨o, rfl, ho, q⟩
  cases o with
  | none => exact ⟨_, rfl, false, rfl, iteF q⟩
  | some x => exact ⟨_, rfl, true, rfl, iteT ⟨_, rfl, x, rfl, ho.1, ho.2, q⟩⟩
theorem c_is_plain_kind (d : Df K mg "is_plain_kind" s_is_plain_kind ["kind"]) : Cal P w K mg base (j + 1) "is_plain_kind" ["kind"] sdPk := by
  refine d.cal sc_is_plain_kind (fun ds P P' f ⟨z, e, h1, q⟩ => ⟨z, e, h1, f _ q⟩) (fun ds Q ⟨z, e, _⟩ => by rw [e]; rfl) (fun f cdv A outer s H E hr => have hu := hr.units; have hh := hr.hd; have sc := sc_is_plain_kind
    (ss_one (s_ret (d_in (dv 0) (d_tup (a_ck (by rfl))) (by rfl))))) ?_
  rintro ds Q ⟨k, rfl, hk, q⟩
  refine ⟨_, rfl, (show 2 ≤ sizeLine by decide), rfl, rfl, ?_⟩
  simp only [List.mem_cons, List.not_mem_nil, or_false] at hk
  rcases hk with rfl | rfl <;> exact q
theorem c_need_counts (hL : LOk K L) (d : Df K mg "need_counts" s_need_counts ["sheet"]) (n_len : mg "len" = none) (g1 : GI mg "MOST_INPUTS" 8) (g2 : GI mg "MOST_OUTPUTS" 8) (g3 : GI mg "MOST_LINES" 80) (c_need_sheet : Cal P w K mg base j "need_sheet" ["holds", "words"] sdNs) : Cal P w K mg base (j + 1) "need_counts" ["sheet"] (sdCounts A L) := by
  obtain ⟨t1, q_MOST_INPUTS⟩ := g1.ex
  obtain ⟨t2, q_MOST_OUTPUTS⟩ := g2.ex
  obtain ⟨t3, q_MOST_LINES⟩ := g3.ex
  have r_MOST_INPUTS : RelV (.int 8) (.int 8 t1) := ⟨_, rfl⟩
  have r_MOST_OUTPUTS : RelV (.int 8) (.int 8 t2) := ⟨_, rfl⟩
  have r_MOST_LINES : RelV (.int 80) (.int 80 t3) := ⟨_, rfl⟩
  have v_MOST_INPUTS : ∀ H, Dv K H (.int 8) (.int 8) := fun _ => .int _
  have v_MOST_OUTPUTS : ∀ H, Dv K H (.int 8) (.int 8) := fun _ => .int _
  have v_MOST_LINES : ∀ H, Dv K H (.int 80) (.int 80) := fun _ => .int _
  refine d.cal sc_need_counts (fun ds P P' f ⟨s, e, h1, h2, h3, h4, q⟩ => ⟨s, e, h1, h2, h3, h4, f _ q⟩) (fun ds Q ⟨z, e, _⟩ => by rw [e]; rfl) (fun f cdv A outer s H E hr => have hu := hr.units; have hh := hr.hd; have sc := sc_need_counts
    (ss_cons (s_expr (d_cal c_need_sheet hr (by omega) (by rfl) (a_cons (d_le (d_len (by rfl) n_len (a_cons (d_fldK K rfl (dv 0) (by rfl)) a_nil)) (d_glob (by rfl) q_MOST_INPUTS r_MOST_INPUTS v_MOST_INPUTS)) (a_cons d_str a_nil))))
  (ss_cons (s_expr (d_cal c_need_sheet hr (by omega) (by rfl) (a_cons (d_lele d_int (d_len (by rfl) n_len (a_cons (d_fldK K rfl (dv 0) (by rfl)) a_nil)) (d_glob (by rfl) q_MOST_OUTPUTS r_MOST_OUTPUTS v_MOST_OUTPUTS)) (a_cons d_str a_nil))))
  (ss_one (s_expr (d_cal c_need_sheet hr (by omega) (by rfl) (a_cons (d_lele d_int (d_len (by rfl) n_len (a_cons (d_fldK K rfl (dv 0) (by rfl)) a_nil)) (d_glob (by rfl) q_MOST_LINES r_MOST_LINES v_MOST_LINES)) (a_cons d_str a_nil)))))))) ?_
  rintro ds Q ⟨s, rfl, ho, h1, h2, h3, q⟩
  have c := hL.cl L.sh (by simp)
  have no := hL.nof L.sh (by simp)
  have e1 : decide (((s.ins.map (Ln.d A L)).length : Int) ≤ 8) = true := decide_eq_true (by rw [List.length_map]; have := ho.len; omega)
  have e2 : decide ((1 : Int) ≤ ((s.outs.map D.str).length : Int)) = true := decide_eq_true (by rw [List.length_map]; omega)
  have e3 : decide (((s.outs.map D.str).length : Int) ≤ 8) = true := decide_eq_true (by rw [List.length_map]; omega)
  have e4 : decide ((1 : Int) ≤ ((s.ls.map (Ln.d A L)).length : Int)) = true := decide_eq_true (by rw [List.length_map]; omega)
  have e5 : decide (((s.ls.map (Ln.d A L)).length : Int) ≤ 80) = true := decide_eq_true (by rw [List.length_map]; have := ho.len; omega)
  refine vFld_of (r := .tup (s.ins.map (Ln.d A L))) rfl c (no _ (by decide)) (by kernel_rfl) ⟨_, _, rfl, rfl, _, congrArg (fun b => [D.bl b, D.str _]) e1, ?_⟩
  refine vFld_of (r := .tup (s.outs.map D.str)) rfl c (no _ (by decide)) (by kernel_rfl) ⟨_, _, rfl, rfl, true, congrArg D.bl e2, iteT ⟨_, congrArg (fun b => [D.bl b, D.str _]) e3, ?_⟩⟩
  exact vFld_of (r := .tup (s.ls.map (Ln.d A L))) rfl c (no _ (by decide)) (by kernel_rfl) ⟨_, _, rfl, rfl, true, congrArg D.bl e4, iteT ⟨_, congrArg (fun b => [D.bl b, D.str _]) e5, q⟩⟩
theorem c_need_once (d : Df K mg "need_once" s_need_once ["names", "words"]) (n_len : mg "len" = none) (n_set : mg "set" = none) (c_need_sheet : Cal P w K mg base j "need_sheet" ["holds", "words"] sdNs) : Cal P w K mg base (j + 1) "need_once" ["names", "words"] sdOnceN := by
  refine d.cal sc_need_once (fun ds P P' f ⟨s, z, e, h1, h2, q⟩ => ⟨s, z, e, h1, h2, f _ q⟩) (fun ds Q ⟨s, z, e, _⟩ => by rcases e with e | e <;> rw [e] <;> rfl) (fun f cdv A outer s H E hr => have hu := hr.units; have hh := hr.hd; have sc := sc_need_once
    (ss_one (s_expr (d_cal c_need_sheet hr (by omega) (by rfl) (a_cons (d_eq hu (d_lenset hh (by rfl) n_len (by rfl) n_set (dv 0)) (d_len (by rfl) n_len (a_cons (dv 0) a_nil))) (a_cons (dv 1) a_nil)))))) ?_
  rintro ds Q ⟨ss, z, e, nd, hl, q⟩
  rcases e with rfl | rfl
  · refine ⟨_, rfl, ss, .inl rfl, nd, hl, _, rfl, _, _, rfl, rfl, ?_⟩
    show fEq false (.int (ss.length : Int)) (.int ((ss.map D.str).length : Int)) _
    rw [List.length_map]
    exact ⟨.str z, rfl, z, congrArg (fun b => [D.bl b, D.str z]) (decide_eq_true rfl), q⟩
  · refine ⟨_, rfl, ss, .inr rfl, nd, hl, _, rfl, _, _, rfl, rfl, ?_⟩
    show fEq false (.int (ss.length : Int)) (.int ((ss.map D.str).length : Int)) _
    rw [List.length_map]
    exact ⟨.str z, rfl, z, congrArg (fun b => [D.bl b, D.str z]) (decide_eq_true rfl), q⟩
theorem fld_on {x : Ln} {Q : D → Prop} (hL : LOk K L) (q : Q (onD x.on)) : ∃ C gs r, x.d A L = .obj C gs ∧ Cls K C ∧ NoAttr K C "on" ∧ gs.lookup ("on" : Str) = some r ∧ Q r := by
  have c := hL.cl _ (Ln.cls_in L x)
  have no := hL.nof _ (Ln.cls_in L x)
  cases x <;> exact ⟨_, _, _, rfl, c, no _ (by decide), (by kernel_rfl), q⟩
theorem cf_looks (hL : LOk K L) (d : Df K mg "names_looked_at" s_names_looked_at ["line"]) (m_own_parts : ∀ C, isL L C → Mcal P w K mg base j C "own_parts" (sdL A L (fun x => .tup (x.parts.map (Pt.d A))) C) []) (mf_names : MF P w K mg base A j "names" 4 okN Pt.names) : CalF P w K mg base (j + 1) "names_looked_at" ["line"] (sdLooks A L) := by
  refine d.calF sc_names_looked_at (fun ds P P' f ⟨x, e, h, q⟩ => ⟨x, e, h, fun a => f _ _ (q a)⟩) (fun ds Q ⟨x, e, _⟩ => by rw [e]; rfl) (fun f cdv A outer s H E hr => have hu := hr.units; have hh := hr.hd; have sc := sc_names_looked_at
    (ms_cons (ms_setN (i := 1) sc.nd rfl (Or.inl rfl) (f_if (t_is (d_fldK K rfl (dv 0) (by rfl)) d_non) (f_lst a_nil) (f_lst (a_cons (d_fldK K rfl (dv 0) (by rfl)) a_nil))))
  (ms_cons (ms_for PassesOwn.never rfl (i_any (d_m0 m_own_parts hr (by omega) (dv 0))) (g_name (i := 2) sc.nd rfl (Or.inl rfl)) (ms_one (ms_extend (i := 1) rfl (Or.inl rfl) (f_m0 mf_names hr (by omega) (dv 2)))))
  (ms_one (ms_lift (s_ret (dv 1))))))) ?_
  rintro ds Q ⟨x, rfl, ho, q⟩
  refine split_m (fun δ μ => ∃ a, δ = [some (x.d A L), some (.adr a), none] ∧ μ = [(a, .lst ((onL x.on).map D.str))]) ?_ fun N hN => ?_
  rotate_left
  · refine ⟨x.d A L, rfl, fld_on hL ?_⟩
    cases hon : x.on with
    | none => exact ⟨true, rfl, iteT ⟨(show 0 ≤ sizeLine by decide), fun a _ => hN _ _ ⟨a, rfl, by rw [hon]; rfl⟩⟩⟩
    | some y => exact ⟨false, rfl, iteF ⟨x.d A L, rfl, fld_on hL (by rw [hon]; exact ⟨(show 1 ≤ sizeLine by decide), fun a _ => hN _ _ ⟨a, rfl, by rw [hon]; rfl⟩⟩)⟩⟩
  · rintro δ μ ⟨a, rfl, rfl⟩
    refine lMeth_of m_var noL_parts ⟨_, rfl, rfl⟩ ho ⟨x.parts.map (Pt.d A), rfl, fun i δ μ => (∃ x2, δ = [some (x.d A L), some (.adr a), x2]) ∧ μ = [(a, .lst ((onL x.on ++ (x.parts.take i).flatMap Pt.names).map D.str))], ⟨⟨none, rfl⟩, ?_⟩, ?_, ?_⟩
    · rw [List.take_zero, List.flatMap_nil, List.append_nil]
    · rintro i dd δ μ hd ⟨⟨x2, rfl⟩, rfl⟩
      rw [List.getElem?_map] at hd
      cases hp : x.parts[i]? with
      | none => rw [hp] at hd; cases hd
      | some p =>
        rw [hp] at hd
        obtain rfl : p.d A = dd := by simpa using hd
        have hop := ho.2.2 p (List.mem_of_getElem? hp)
        obtain ⟨gs, e1, e2⟩ := no_meth A noM_names p
        refine ⟨a, _, rfl, look1, p.d A, rfl, p.cls A, gs, e1, e2, ⟨p, rfl⟩, p, rfl, rfl, hop.1, Nat.le_trans hop.2 (by decide), fun b => ⟨b, _, rfl, look1, ?_, ⟨_, rfl⟩, ?_⟩⟩
        · have h1 := looks_len ho
          rw [List.length_map, List.length_map]
          have h2 : ((x.parts.take i).flatMap Pt.names).length ≤ (x.parts.flatMap Pt.names).length := by
            have e : x.parts.flatMap Pt.names = (x.parts.take i).flatMap Pt.names ++ (x.parts.drop i).flatMap Pt.names := by rw [← List.flatMap_append, List.take_append_drop]
            rw [e, List.length_append]
            omega
          unfold Ln.looks at h1
          rw [List.length_append] at h1 ⊢
          have h3 := p.names_len
          exact Nat.le_trans (show _ + p.names.length ≤ 400 by omega) (by decide)
        · rw [put1, ← List.map_append, List.append_assoc, List.take_succ, hp, List.flatMap_append]
          simp
    · rintro δ μ ⟨⟨x2, rfl⟩, rfl⟩
      rw [List.length_map, List.take_length]
      exact ⟨_, rfl, q a⟩
end
end K35

-- gen set dget found passed
-- gen set give need_known
-- gen set exprV need_ons
set_option maxHeartbeats 4000000
namespace K35
open PySem PySem.Spec PyProof.Rows L2 DC
theorem looks_flat : ∀ {xs : List Ln}, (∀ x ∈ xs, okLn x) → (xs.flatMap Ln.looks).length ≤ 330 * xs.length
  | [], _ => Nat.le_refl _
  | x :: xs, h => by
    rw [List.flatMap_cons, List.length_append, List.length_cons]
    have h1 := looks_len (h x List.mem_cons_self)
    have h2 := looks_flat (xs := xs) fun y hy => h y (List.mem_cons_of_mem _ hy)
    omega
theorem Sh.has {A : Adr} {L : LA} {s : Sh} (nd : s.names.Nodup) {n : Str} (h : n ∈ s.names) : ∃ x ∈ s.all, n ∈ x.own ∧ getK (s.tab A L) (.inr n) = some (x.d A L) := by
  obtain ⟨x, hx, hn⟩ := List.mem_flatMap.mp h
  exact ⟨x, hx, hn, tab_get nd hx hn⟩
theorem m_dget {td ty : ED} (h1 : MonoE td) (h2 : MonoE ty) : MonoE (vDGet td ty) := fun δ P P' g h => h1 _ _ _ (fun d h' => h2 _ _ _ (fun e ⟨kvs, k, z, a, b, c, q⟩ => ⟨kvs, k, z, a, b, c, g _ q⟩) h') h
section
seal wpAny
variable {P : Program} {w : World} {K : PySem.W.Frag} {mg : Str → Option Value} {base : Heap} {A : Adr} {L : LA} {n j : Nat}
theorem c_need_known (hL : LOk K L) (d : Df K mg "need_known" s_need_known ["sheet", "found"]) (n_list : mg "list" = none) (m_all_lines : ∀ C, isS L C → Mcal P w K mg base j C "all_lines" (sdS1 A L (fun _ => True) (gAll A L) C) []) (cf_names_looked_at : CalF P w K mg base j "names_looked_at" ["line"] (sdLooks A L))
    (c_need_sheet : Cal P w K mg base j "need_sheet" ["holds", "words"] sdNs) : Cal P w K mg base (j + 1) "need_known" ["sheet", "found"] (sdKnown A L) := by
  refine d.calM sc_need_known (fun ds P P' f ⟨s, e, h1, h2, h3, h4, q⟩ => ⟨s, e, h1, h2, h3, h4, f _ q⟩) (fun ds Q ⟨s, e, _⟩ => by rw [e]; rfl) (fun f cdv A outer s H E hr => have hu := hr.units; have hh := hr.hd; have sc := sc_need_known
    (ms_cons (ms_setN (i := 2) sc.nd rfl (Or.inl rfl) (f_list_of (by rfl) n_list (a_cons (d_fldK K rfl (dv 0) (by rfl)) a_nil)))
  (ms_cons (ms_for PassesOwn.never rfl (i_any (d_m0 m_all_lines hr (by omega) (dv 0))) (g_name (i := 3) sc.nd rfl (Or.inl rfl)) (ms_one (ms_extend (i := 2) rfl (Or.inl rfl) (f_cal cf_names_looked_at hr (by omega) (by rfl) (a_cons (dv 3) a_nil)))))
  (mss_give (mss_lift (ss_one (s_for PassesOwn.never rfl (i_any (dv 2)) (g_name (i := 4) sc.nd rfl (Or.inl rfl)) (ss_one (s_expr (d_cal c_need_sheet hr (by omega) (by rfl) (a_cons (d_inD hu (dv 4) (dv 1) (by rfl)) (a_cons d_str a_nil)))))))))))) ?_
  rintro ds Q ⟨s, rfl, ho, nd, hou, hin, q⟩
  have c := hL.cl L.sh (by simp)
  have no := hL.nof L.sh (by simp)
  refine vFld_of (r := .tup (s.outs.map D.str)) rfl c (no _ (by decide)) (by kernel_rfl) ⟨s.outs.map D.str, .inr rfl, fun a _ => ?_⟩
  refine sMeth_of m_var noL_all ⟨_, rfl, rfl⟩ ho True.intro ⟨s.all.map (Ln.d A L), rfl, fun i δ μ => (∃ x3, δ = [some (s.d A L), some (.dK (s.tab A L)), some (.adr a), x3, none]) ∧ μ = [(a, .lst ((s.outs ++ (s.all.take i).flatMap Ln.looks).map D.str))], ⟨⟨none, rfl⟩, ?_⟩, ?_, ?_⟩
  · simp only [List.take_zero, List.flatMap_nil, List.append_nil]
  · rintro i dd δ μ hd ⟨⟨x3, rfl⟩, rfl⟩
    rw [List.getElem?_map] at hd
    cases hx : s.all[i]? with
    | none => rw [hx] at hd; cases hd
    | some x =>
      rw [hx] at hd
      obtain rfl : x.d A L = dd := by simpa using hd
      have hox := ho.ln x (List.mem_of_getElem? hx)
      refine ⟨a, _, rfl, look1, x.d A L, rfl, x, rfl, hox, fun b => ⟨b, _, rfl, look1, ?_, ⟨_, rfl⟩, ?_⟩⟩
      · rw [List.length_map, List.length_map, List.length_append]
        have h1 := looks_flat (xs := s.all.take i) fun y hy => ho.ln y (List.mem_of_mem_take hy)
        have h2 : (s.all.take i).length ≤ 18 := Nat.le_trans (by rw [List.length_take]; exact Nat.min_le_right _ _) ho.all_len
        have h3 := looks_len hox
        exact Nat.le_trans (show _ + x.looks.length ≤ 7000 by omega) (by decide)
      · rw [put1, ← List.map_append, List.append_assoc, ← take_flat hx]
  · rintro δ μ ⟨⟨x3, rfl⟩, rfl⟩
    rw [List.length_map, List.take_length]
    dsimp only
    refine give_view (δ' := [some (s.d A L), some (.dK (s.tab A L)), some (.lst ((s.outs ++ s.all.flatMap Ln.looks).map D.str)), x3.map (viewD [(a, .lst ((s.outs ++ s.all.flatMap Ln.looks).map D.str))]), none]) ?_ ?_
    · show [some (s.d A L), some (.dK (s.tab A L)), some (viewD [(a, _)] (.adr a)), _, none] = _
      rw [view1]
      rfl
    generalize x3.map (viewD [(a, .lst ((s.outs ++ s.all.flatMap Ln.looks).map D.str))]) = y3
    refine ⟨_, rfl, _, rfl, fun i δ => ∃ x4, δ = [some (s.d A L), some (.dK (s.tab A L)), some (.lst ((s.outs ++ s.all.flatMap Ln.looks).map D.str)), y3, x4], ⟨none, rfl⟩, ?_, ?_⟩
    · rintro i dd δ hd ⟨x4, rfl⟩
      rw [List.getElem?_map] at hd
      cases hn : (s.outs ++ s.all.flatMap Ln.looks)[i]? with
      | none => rw [hn] at hd; cases hd
      | some m =>
        rw [hn] at hd
        obtain rfl : D.str m = dd := by simpa using hd
        obtain ⟨x, hx, hm, hg⟩ := Sh.has (A := A) (L := L) nd (hin m (List.mem_of_getElem? hn))
        have e : (getK (s.tab A L) (.inr m)).isSome = true := by rw [hg]; rfl
        exact ⟨.str m, rfl, .dK (s.tab A L), rfl, s.tab A L, .inr m, rfl, rfl, _, congrArg (fun b => [D.bl b, D.str _]) e, _, rfl⟩
    · rintro δ ⟨x4, rfl⟩
      exact q
theorem c_need_ons (hL : LOk K L) (d : Df K mg "need_ons" s_need_ons ["sheet", "found"]) (m_all_lines : ∀ C, isS L C → Mcal P w K mg base j C "all_lines" (sdS1 A L (fun _ => True) (gAll A L) C) []) (m_is_truths : ∀ C, isL L C → Mcal P w K mg base j C "is_truths" (sdL A L (fun x => .bl x.truths) C) [])
    (c_need_sheet : Cal P w K mg base j "need_sheet" ["holds", "words"] sdNs) : Cal P w K mg base (j + 1) "need_ons" ["sheet", "found"] (sdOns A L) := by
  refine d.calM sc_need_ons (fun ds P P' f ⟨s, e, h1, h2, h3, q⟩ => ⟨s, e, h1, h2, h3, f _ q⟩) (fun ds Q ⟨s, e, _⟩ => by rw [e]; rfl) (fun f cdv A outer s H E hr => have hu := hr.units; have hh := hr.hd; have sc := sc_need_ons
    (ms_one (ms_for PassesOwn.never rfl (i_any (d_m0 m_all_lines hr (by omega) (dv 0))) (g_name (i := 2) sc.nd rfl (Or.inl rfl)) (ms_cons (ms_setN (i := 3) sc.nd rfl (Or.inl rfl) f_dict0)
  (ms_cons (ms_lift (s_set (i := 4) sc.nd rfl (Or.inl rfl) (d_fldK K rfl (dv 2) (by rfl))))
  (ms_one (ms_while PassesOwn.never (t_isnot (dv 4) d_non) (ms_cons (ms_exprV (d_cal c_need_sheet hr (by omega) (by rfl) (a_cons (d_m0 m_is_truths hr (by omega) (d_dget hu (dv 1) (dv 4) (fun _ _ => rfl))) (a_cons d_str a_nil))))
  (ms_cons (ms_exprV (d_cal c_need_sheet hr (by omega) (by rfl) (a_cons (d_notinD hu (dv 4) (dv 3) (by rfl)) (a_cons d_str a_nil))))
  (ms_cons (ms_dset (i := 3) hu rfl (Or.inl rfl) (dv 4) d_bl)
  (ms_one (ms_lift (s_set (i := 4) sc.nd rfl (Or.inl rfl) (d_fldK K rfl (d_dget hu (dv 1) (dv 4) (fun _ _ => rfl)) (by rfl))))))))))))))) ?_
  rintro ds Q ⟨s, rfl, ho, nd, hons, q⟩
  refine sMeth_of m_var noL_all ⟨_, rfl, rfl⟩ ho True.intro ⟨s.all.map (Ln.d A L), rfl, fun i δ μ => ∃ x2 x3 x4, δ = [some (s.d A L), some (.dK (s.tab A L)), x2, x3, x4], ⟨none, none, none, rfl⟩, ?_, ?_⟩
  · rintro i dd δ μ hd ⟨x2, x3, x4, rfl⟩
    rw [List.getElem?_map] at hd
    cases hx : s.all[i]? with
    | none => rw [hx] at hd; cases hd
    | some x =>
      rw [hx] at hd
      obtain rfl : x.d A L = dd := by simpa using hd
      have hxa := List.mem_of_getElem? hx
      intro a _
      refine ⟨x.d A L, rfl, fld_on hL ?_⟩
      refine ⟨fun m δ μ => ∃ o : Option Str, δ = [some (s.d A L), some (.dK (s.tab A L)), some (x.d A L), some (.adr a), some (onD o)] ∧ ((m = 1 ∧ o = x.on ∧ ∃ μ0, μ = (a, .dK []) :: μ0) ∨ (m = 0 ∧ o = none)), ⟨1, x.on, rfl, .inl ⟨rfl, rfl, μ, rfl⟩⟩, ?_⟩
      rintro m δ μ ⟨o, rfl, hm⟩
      cases o with
      | none => exact ⟨.non, rfl, false, rfl, iteF ⟨_, _, _, rfl⟩⟩
      | some k =>
        rcases hm with ⟨rfl, hox, μ0, rfl⟩ | ⟨_, z⟩
        · rcases hons x hxa with hz | ⟨k', y, e1, hy, hk, ht, hyo⟩
          · rw [hz] at hox; cases hox
          · rw [e1] at hox
            cases hox
            have hg : getK (s.tab A L) (.inr k) = some (y.d A L) := tab_get nd hy hk
            refine ⟨.str k, rfl, true, rfl, iteT ?_⟩
            refine lMeth_of (x := y) (m_dget m_var m_var) noL_truths ⟨.dK (s.tab A L), rfl, .str k, rfl, s.tab A L, .inr k, y.d A L, rfl, rfl, hg, rfl⟩ (ho.ln y hy) ⟨_, congrArg (fun b => [D.bl b, D.str _]) ht, ?_⟩
            have hv : some (some (viewD ((a, .dK []) :: μ0) (.adr a))) = some (some (D.dK [])) := by simp [viewD, List.lookup, MD.d]
            refine ⟨.str k, rfl, .dK [], hv, [], .inr k, rfl, rfl, _, rfl, ?_⟩
            refine ⟨a, [], rfl, (by simp [List.lookup]), (by decide), .str k, rfl, .inr k, rfl, ?_⟩
            refine ⟨.dK (s.tab A L), rfl, .str k, rfl, s.tab A L, .inr k, y.d A L, rfl, rfl, hg, fld_on hL ?_⟩
            rw [hyo]
            exact ⟨0, by decide, none, rfl, .inr ⟨rfl, rfl⟩⟩
        · cases z
  · rintro δ μ ⟨x2, x3, x4, rfl⟩
    exact q
end
end K35

set_option maxHeartbeats 4000000
namespace K35
open PySem PySem.Spec PyProof.Rows L2 DC
theorem pl3 {f g h : Str} {d e i : D} : (putD f d (putD g e (putD h i []))).length < 1000 := Nat.lt_of_le_of_lt (Nat.le_trans (putD_len f d _) (Nat.succ_le_succ (Nat.le_trans (putD_len g e _) (Nat.succ_le_succ (putD_len h i []))))) (by decide)
def kinds2 : List Str := ["truth", "number"]
def sdNo : SpD := fun _ _ => False
def siIn : List D → (List (Str × D) → Prop) → Prop := fun ds Q => ∃ (n k : Str) (o : Option Str), ds = [.str n, .str k, onD o] ∧ n.length ≤ 100000 ∧ nameB n = true ∧ okOn o ∧ k ∈ kinds2 ∧ Q [("name", .str n), ("kind", .str k), ("on", onD o)]
def siRow : List D → (List (Str × D) → Prop) → Prop := fun ds Q => ∃ (n k : Str) (p : D) (o : Option Str), ds = [.str n, .str k, p, onD o] ∧ n.length ≤ 100000 ∧ nameB n = true ∧ okOn o ∧ k ∈ kinds2 ∧ Q [("name", .str n), ("kind", .str k), ("part", p), ("on", onD o)]
def siUse : List D → (List (Str × D) → Prop) → Prop := fun ds Q => ∃ (bs : List Str) (m : Str) (ps : List D) (o : Option Str), ds = [.lst (bs.map D.str), .str m, .lst ps, onD o] ∧ (∀ x ∈ bs, x.length ≤ 100000 ∧ nameB x = true) ∧ 1 ≤ bs.length ∧ bs.length ≤ 8 ∧ m.length ≤ 100000 ∧ wordB m = true ∧ okOn o ∧ Q [("binds", .tup (bs.map D.str)), ("module", .str m), ("parts", .tup ps), ("on", onD o)]
structure Sh.Good (s : Sh) : Prop where
  ok : s.Ok
  wd : s.nm.length ≤ 100000 ∧ wordB s.nm = true
  cnt : 1 ≤ s.outs.length ∧ s.outs.length ≤ 8 ∧ 1 ≤ s.ls.length
  nd : s.names.Nodup
  ndo : s.outs.Nodup
  inn : ∀ n ∈ s.outs ++ s.all.flatMap Ln.looks, n ∈ s.names
  ons : okOns s
def siSh (A : Adr) (L : LA) : List D → (List (Str × D) → Prop) → Prop := fun ds Q => ∃ s : Sh, ds = [.str s.nm, .lst (s.ins.map (Ln.d A L)), .lst (s.outs.map D.str), .lst (s.ls.map (Ln.d A L))] ∧ s.Good ∧ Q [("name", .str s.nm), ("inputs", .tup (s.ins.map (Ln.d A L))), ("outputs", .tup (s.outs.map D.str)), ("lines", .tup (s.ls.map (Ln.d A L)))]
section
seal wpAny
variable {P : Program} {w : World} {K : PySem.W.Frag} {mg : Str → Option Value} {base : Heap} {A : Adr} {L : LA} {n j : Nat} {dd : List D}
theorem Df.never {x : Str} {st : Stmt} {ps : List Str} {sd : SpD} (d : Df K mg x st ps) (h : ∀ ds Q, ¬ sd ds Q) : Cal P w K mg base j x ps sd := by
  obtain ⟨f, fd, F, m, b⟩ := d.ex
  exact ⟨⟨f, fd, ⟨fun vs H Q E ⟨ds, _, q⟩ => (h _ _ q).elim, fun A outer s H args us vs Q E _ _ _ _ ⟨ds, _, q⟩ => (h _ _ q).elim⟩, m, F.kp, b⟩, fun ds P P' g q => (h _ _ q).elim⟩
theorem k_input (hL : LOk K L) (d : Di K mg "Input" L.inp "Input.__init__" s_Input___init__ ["self", "name", "kind", "on"] dd) (c_need_name : Cal P w K mg base j "need_name" ["name"] sdNm) (c_need_on : Cal P w K mg base j "need_on" ["on"] sdOn) (c_need_sheet : Cal P w K mg base j "need_sheet" ["holds", "words"] sdNs) (c_is_plain_kind : Cal P w K mg base j "is_plain_kind" ["kind"] sdPk) (c_is_stretch : Cal P w K mg base j "is_stretch" ["kind"] sdNo) :
    Mkr P w K mg base (j + 1) "Input" L.inp siIn dd := by
  have hc := hL.cl L.inp (by simp)
  have hn := hL.nof L.inp (by simp)
  refine d.mkr sc_Input___init__ (fun ds P P' g ⟨n, k, o, e, h1, h2, h3, h4, q⟩ => ⟨n, k, o, e, h1, h2, h3, h4, g _ q⟩) (fun ds Q ⟨n, k, o, e, _⟩ => by rw [e]; rfl) (fun f cdv A outer s H E hr => have hu := hr.units; have hh := hr.hd; have sc := sc_Input___init__
    (i_cons (i_free (s_expr (d_cal c_need_name hr (by omega) (by rfl) (a_cons (dv 1) a_nil))))
  (i_cons (i_free (s_expr (d_cal c_need_on hr (by omega) (by rfl) (a_cons (dv 3) a_nil))))
  (i_cons (i_free (s_expr (d_cal c_need_sheet hr (by omega) (by rfl) (a_cons (d_or (d_cal c_is_plain_kind hr (by omega) (by rfl) (a_cons (dv 2) a_nil)) (d_one (d_cal c_is_stretch hr (by omega) (by rfl) (a_cons (dv 2) a_nil)))) (a_cons d_str a_nil)))))
  (i_cons (i_setK K rfl rfl (Or.inl rfl) (dv 1))
  (i_cons (i_setK K rfl rfl (Or.inl rfl) (dv 2))
  (i_cons (i_setK K rfl rfl (Or.inl rfl) (dv 3))
  i_nil))))))) ?_
  rintro a ds Q ⟨n, k, o, rfl, h1, h2, h3, h4, q⟩
  exact ⟨_, rfl, n, rfl, h1, h2, _, rfl, o, rfl, h3, _, rfl, k, rfl, h4, true, rfl, iteT ⟨_, rfl, _, rfl, rfl, hc, hn _ (by decide), pl0, _, rfl, rfl, hc, hn _ (by decide), pl1, _, rfl, rfl, hc, hn _ (by decide), pl2, q⟩⟩
theorem k_row (hL : LOk K L) (d : Di K mg "Row" L.row "Row.__init__" s_Row___init__ ["self", "name", "kind", "part", "on"] dd) (c_need_name : Cal P w K mg base j "need_name" ["name"] sdNm) (c_need_on : Cal P w K mg base j "need_on" ["on"] sdOn) (c_need_sheet : Cal P w K mg base j "need_sheet" ["holds", "words"] sdNs) (c_is_plain_kind : Cal P w K mg base j "is_plain_kind" ["kind"] sdPk) :
    Mkr P w K mg base (j + 1) "Row" L.row siRow dd := by
  have hc := hL.cl L.row (by simp)
  have hn := hL.nof L.row (by simp)
  refine d.mkr sc_Row___init__ (fun ds P P' g ⟨n, k, p, o, e, h1, h2, h3, h4, q⟩ => ⟨n, k, p, o, e, h1, h2, h3, h4, g _ q⟩) (fun ds Q ⟨n, k, p, o, e, _⟩ => by rw [e]; rfl) (fun f cdv A outer s H E hr => have hu := hr.units; have hh := hr.hd; have sc := sc_Row___init__
    (i_cons (i_free (s_expr (d_cal c_need_name hr (by omega) (by rfl) (a_cons (dv 1) a_nil))))
  (i_cons (i_free (s_expr (d_cal c_need_on hr (by omega) (by rfl) (a_cons (dv 4) a_nil))))
  (i_cons (i_free (s_expr (d_cal c_need_sheet hr (by omega) (by rfl) (a_cons (d_cal c_is_plain_kind hr (by omega) (by rfl) (a_cons (dv 2) a_nil)) (a_cons d_str a_nil)))))
  (i_cons (i_setK K rfl rfl (Or.inl rfl) (dv 1))
  (i_cons (i_setK K rfl rfl (Or.inl rfl) (dv 2))
  (i_cons (i_setK K rfl rfl (Or.inl rfl) (dv 3))
  (i_cons (i_setK K rfl rfl (Or.inl rfl) (dv 4))
  i_nil)))))))) ?_
  rintro a ds Q ⟨n, k, p, o, rfl, h1, h2, h3, h4, q⟩
  exact ⟨_, rfl, n, rfl, h1, h2, _, rfl, o, rfl, h3, _, rfl, k, rfl, h4, _, rfl, _, rfl, rfl, hc, hn _ (by decide), pl0, _, rfl, rfl, hc, hn _ (by decide), pl1, _, rfl, rfl, hc, hn _ (by decide), pl2, _, rfl, rfl, hc, hn _ (by decide), pl3, q⟩
theorem k_use (hL : LOk K L) (d : Di K mg "Use" L.use "Use.__init__" s_Use___init__ ["self", "binds", "module", "parts", "on"] dd) (n_len : mg "len" = none) (n_tuple : mg "tuple" = none) (g : GI mg "MOST_OUTPUTS" 8) (c_need_name : Cal P w K mg base j "need_name" ["name"] sdNm) (c_need_on : Cal P w K mg base j "need_on" ["on"] sdOn) (c_need_sheet : Cal P w K mg base j "need_sheet" ["holds", "words"] sdNs) (c_need_word : Cal P w K mg base j "need_word" ["word"] sdWd) :
    Mkr P w K mg base (j + 1) "Use" L.use siUse dd := by
  have hc := hL.cl L.use (by simp)
  have hn := hL.nof L.use (by simp)
  obtain ⟨t1, q_MOST_OUTPUTS⟩ := g.ex
  have r_MOST_OUTPUTS : RelV (.int 8) (.int 8 t1) := ⟨_, rfl⟩
  have v_MOST_OUTPUTS : ∀ H, Dv K H (.int 8) (.int 8) := fun _ => .int _
  refine d.mkr sc_Use___init__ (fun ds P P' g ⟨bs, m, ps, o, e, h1, h2, h3, h4, h5, h6, q⟩ => ⟨bs, m, ps, o, e, h1, h2, h3, h4, h5, h6, g _ q⟩) (fun ds Q ⟨_, _, _, _, e, _⟩ => by rw [e]; rfl) (fun f cdv A outer s H E hr => have hu := hr.units; have hh := hr.hd; have sc := sc_Use___init__
    (i_cons (i_free (s_for PassesOwn.never rfl (i_any (dv 1)) (g_name (i := 5) sc.nd rfl (Or.inl rfl)) (ss_one (s_expr (d_cal c_need_name hr (by omega) (by rfl) (a_cons (dv 5) a_nil))))))
  (i_cons (i_free (s_expr (d_cal c_need_on hr (by omega) (by rfl) (a_cons (dv 4) a_nil))))
  (i_cons (i_free (s_expr (d_cal c_need_word hr (by omega) (by rfl) (a_cons (dv 2) a_nil))))
  (i_cons (i_free (s_expr (d_cal c_need_sheet hr (by omega) (by rfl) (a_cons (d_lele d_int (d_len (by rfl) n_len (a_cons (dv 1) a_nil)) (d_glob (by rfl) q_MOST_OUTPUTS r_MOST_OUTPUTS v_MOST_OUTPUTS)) (a_cons d_str a_nil)))))
  (i_cons (i_setK K rfl rfl (Or.inl rfl) (d_tuple_of (by rfl) n_tuple (a_cons (dv 1) a_nil)))
  (i_cons (i_setK K rfl rfl (Or.inl rfl) (dv 2))
  (i_cons (i_setK K rfl rfl (Or.inl rfl) (d_tuple_of (by rfl) n_tuple (a_cons (dv 3) a_nil)))
  (i_cons (i_setK K rfl rfl (Or.inl rfl) (dv 4))
  i_nil))))))))) ?_
  rintro a ds Q ⟨bs, m, ps, o, rfl, h1, h2, h3, h4, h5, h6, q⟩
  have e2 : decide ((1 : Int) ≤ ((bs.map D.str).length : Int)) = true := decide_eq_true (by rw [List.length_map]; omega)
  have e3 : decide (((bs.map D.str).length : Int) ≤ 8) = true := decide_eq_true (by rw [List.length_map]; omega)
  refine ⟨_, rfl, _, rfl, fun i δ => ∃ x5, δ = [some (.adr a), some (.lst (bs.map D.str)), some (.str m), some (.lst ps), some (onD o), x5], ⟨none, rfl⟩, ?_, ?_⟩
  · rintro i dx δ hd ⟨x5, rfl⟩
    rw [List.getElem?_map] at hd
    cases hb : bs[i]? with
    | none => rw [hb] at hd; cases hd
    | some x =>
      rw [hb] at hd
      cases hd
      have hx := h1 x (List.mem_of_getElem? hb)
      exact ⟨_, rfl, x, rfl, hx.1, hx.2, _, rfl⟩
  · rintro δ ⟨x5, rfl⟩
    refine ⟨_, rfl, o, rfl, h6, _, rfl, m, rfl, h4, h5, _, rfl, _, _, rfl, rfl, true, congrArg D.bl e2, iteT ⟨_, congrArg (fun b => [D.bl b, D.str _]) e3, ?_⟩⟩
    exact ⟨_, rfl, _, .inl rfl, rfl, hc, hn _ (by decide), pl0, _, rfl, rfl, hc, hn _ (by decide), pl1, _, rfl, _, .inl rfl, rfl, hc, hn _ (by decide), pl2, _, rfl, rfl, hc, hn _ (by decide), pl3, q⟩
theorem k_sheet (hL : LOk K L) (d : Di K mg "Sheet" L.sh "Sheet.__init__" s_Sheet___init__ ["self", "name", "inputs", "outputs", "lines"] []) (n_tuple : mg "tuple" = none) (c_need_word : Cal P w K mg base j "need_word" ["word"] sdWd) (c_need_counts : Cal P w K mg base j "need_counts" ["sheet"] (sdCounts A L)) (c_need_once : Cal P w K mg base j "need_once" ["names", "words"] sdOnceN)
    (m_names : ∀ C, isS L C → Mcal P w K mg base j C "names" (sdS1 A L (fun _ => True) (fun s => .lst (s.names.map D.str)) C) []) (m_lines_by_name : ∀ C, isS L C → Mcal P w K mg base j C "lines_by_name" (sdS1 A L (fun s => s.names.Nodup) (fun s => .dK (s.tab A L)) C) [])
    (c_need_known : Cal P w K mg base j "need_known" ["sheet", "found"] (sdKnown A L)) (c_need_ons : Cal P w K mg base j "need_ons" ["sheet", "found"] (sdOns A L)) : Mkr P w K mg base (j + 1) "Sheet" L.sh (siSh A L) [] := by
  have hc := hL.cl L.sh (by simp)
  have hn := hL.nof L.sh (by simp)
  refine d.mkr sc_Sheet___init__ (fun ds P P' g ⟨s, e, h, q⟩ => ⟨s, e, h, g _ q⟩) (fun ds Q ⟨s, e, _⟩ => by rw [e]; rfl) (fun f cdv A outer s H E hr => have hu := hr.units; have hh := hr.hd; have sc := sc_Sheet___init__
    (i_cons (i_free (s_expr (d_cal c_need_word hr (by omega) (by rfl) (a_cons (dv 1) a_nil))))
  (i_cons (i_setK K rfl rfl (Or.inl rfl) (dv 1))
  (i_cons (i_setK K rfl rfl (Or.inl rfl) (d_tuple_of (by rfl) n_tuple (a_cons (dv 2) a_nil)))
  (i_cons (i_setK K rfl rfl (Or.inl rfl) (d_tuple_of (by rfl) n_tuple (a_cons (dv 3) a_nil)))
  (i_cons (i_setK K rfl rfl (Or.inl rfl) (d_tuple_of (by rfl) n_tuple (a_cons (dv 4) a_nil)))
  (i_rest (ss_cons (s_expr (d_cal c_need_counts hr (by omega) (by rfl) (a_cons (dv 0) a_nil)))
  (ss_cons (s_expr (d_cal c_need_once hr (by omega) (by rfl) (a_cons (d_m0 m_names hr (by omega) (dv 0)) (a_cons d_str a_nil))))
  (ss_cons (s_expr (d_cal c_need_once hr (by omega) (by rfl) (a_cons (d_fldK K rfl (dv 0) (by rfl)) (a_cons d_str a_nil))))
  (ss_cons (s_set (i := 5) sc.nd rfl (Or.inl rfl) (d_m0 m_lines_by_name hr (by omega) (dv 0)))
  (ss_cons (s_expr (d_cal c_need_known hr (by omega) (by rfl) (a_cons (dv 0) (a_cons (dv 5) a_nil))))
  (ss_one (s_expr (d_cal c_need_ons hr (by omega) (by rfl) (a_cons (dv 0) (a_cons (dv 5) a_nil))))))))))))))))) ?_
  rintro a ds Q ⟨s, rfl, hg, q⟩
  have hnl : s.names.length ≤ 200 := by
    have h1 := flat_len (xs := s.all) hg.ok.ln
    have h2 := hg.ok.all_len
    unfold Sh.names
    omega
  refine ⟨_, rfl, s.nm, rfl, hg.wd.1, hg.wd.2, _, rfl, rfl, hc, hn _ (by decide), pl0, _, rfl, _, .inl rfl, rfl, hc, hn _ (by decide), pl1, _, rfl, _, .inl rfl, rfl, hc, hn _ (by decide), pl2, _, rfl, _, .inl rfl, rfl, hc, hn _ (by decide), pl3, rfl, ?_⟩
  refine ⟨s.d A L, rfl, s, rfl, hg.ok, hg.cnt.1, hg.cnt.2.1, hg.cnt.2.2, ?_⟩
  refine sMeth_of (s := s) m_var noL_names ⟨_, rfl, rfl⟩ hg.ok True.intro ⟨s.names, _, .inl rfl, hg.nd, hnl, ?_⟩
  refine vFld_of (r := .tup (s.outs.map D.str)) rfl hc (hn _ (by decide)) (by kernel_rfl) ⟨s.outs, _, .inr rfl, hg.ndo, by have := hg.cnt; omega, ?_⟩
  refine sMeth_of (s := s) m_var noL_byname ⟨_, rfl, rfl⟩ hg.ok hg.nd ?_
  refine ⟨s.d A L, rfl, .dK (s.tab A L), rfl, s, rfl, hg.ok, hg.nd, hg.cnt.2.1, hg.inn, ?_⟩
  exact ⟨s.d A L, rfl, .dK (s.tab A L), rfl, s, rfl, hg.ok, hg.nd, hg.ons, q⟩
end
end K35

-- gen set cord _law_names:_law_cell_here,_law_word,_law_spot
-- gen set mulS _law_names
set_option maxHeartbeats 4000000
namespace K35
open PySem PySem.Spec PyProof.Rows L2 DC
theorem atI_in {α : Type} {xs : List α} {i : Int} (h0 : 0 ≤ i) (h1 : i < xs.length) : ∃ r, r ∈ xs ∧ L2.atI xs i = some r := by
  unfold L2.atI L2.ixN
  rw [if_pos h0, if_pos h1]
  have h : i.toNat < xs.length := by omega
  exact ⟨xs[i.toNat], List.getElem_mem h, by simp [List.getElem?_eq_getElem h]⟩
theorem atI_nat {α : Type} {xs : List α} {i : Nat} {x : α} (h : xs[i]? = some x) : L2.atI xs (i : Int) = some x := by
  unfold L2.atI L2.ixN
  have hl : i < xs.length := (List.getElem?_eq_some_iff.mp h).1
  rw [if_pos (by omega), if_pos (by omega), Int.toNat_natCast]
  exact h
theorem app_cps (x y : Str) : (x ++ y).cps.toList = x.cps.toList ++ y.cps.toList := by
  show (x.cps ++ y.cps).toList = _
  exact Array.toList_append
theorem len_cps (x : Str) : x.length = x.cps.toList.length := by
  show x.cps.size = _
  exact Array.length_toList.symm
theorem app_len (x y : Str) : (x ++ y).length = x.length + y.length := by rw [len_cps, app_cps, List.length_append, ← len_cps, ← len_cps]
theorem cd {i j : Int} (h : 0 < j) (h2 : j < 1073741824) : CDiv i j := ⟨h, h2⟩
theorem mod_lo (a : Int) {b : Int} (h : 0 < b) : 0 ≤ a % b := Int.emod_nonneg _ (by omega)
theorem mod_hi (a : Int) {b : Int} (h : 0 < b) : a % b < b := Int.emod_lt_of_pos _ h
def mix1 (c k : Int) : Int := (c + 7919 * k + 11) * 48271 % 2147483647
theorem mix1_lt (c k : Int) : 0 ≤ mix1 c k ∧ mix1 c k < 2147483647 := ⟨Int.emod_nonneg _ (by decide), Int.emod_lt_of_pos _ (by decide)⟩
def sdMix : SpD := fun ds Q => ∃ c k : Int, ds = [.int c, .int k] ∧ ∀ m : Int, Q (.int m)
def sdCell : SpD := fun ds Q => ∃ (ns : List Int) (k : Nat), ds = [.lst (ns.map D.int), .int (k : Int)] ∧ ∀ c : Int, Q (.int c)
structure Names (ns : List Str) : Prop where
  len : ns.length = 8
  nd : ns.Nodup
  ok : ∀ x ∈ ns, okNm x
def sdNames : SpD := fun ds Q => ∃ c : Int, ds = [.int c] ∧ ∀ ns : List Str, Names ns → Q (.lst (ns.map D.str))
def okNmB (x : Str) : Bool := nameB x && (decide (x.length ≤ 100) && PyData.strOk x)
def okNs (ns : List Str) : Bool := decide (ns.length = 8) && decide ns.Nodup && ns.all okNmB
theorem okNs_of {ns : List Str} (h : okNs ns = true) : Names ns := by
  unfold okNs at h
  rw [Bool.and_eq_true, Bool.and_eq_true] at h
  refine ⟨of_decide_eq_true h.1.1, of_decide_eq_true h.1.2, fun x hx => ?_⟩
  have z := List.all_eq_true.mp h.2 x hx
  unfold okNmB at z
  rw [Bool.and_eq_true, Bool.and_eq_true] at z
  exact ⟨z.1, of_decide_eq_true z.2.1, z.2.2⟩
def abc : Str := "abcdefghijklm"
def ns0 (ch : Nat) : List Str := (List.range 8).map fun i : Nat => mulS ⟨#[ch]⟩ (0 + (i : Int) + 1)
theorem ns0_ok : (abc.cps.toList.all fun ch => okNs (ns0 ch)) = true := by decide +kernel
def l1 : List Str := ["in", "not", "row", "use", "end", "on", "yes", "held"]
def ns1 : List Str := l1.map (· ++ "z")
theorem ns1_ok : okNs ns1 = true := by decide +kernel
def l2 : List Str := ["row", "no", "z", "zz", "if", "abcdefgh", "or", "in"]
def ns2 : List Str := l2.map fun x => "in." ++ x ++ ".q"
theorem ns2_ok : okNs ns2 = true := by decide +kernel
def zq : Str := "zqzqzqzq"
def bc : Str := "bcdfghjk"
def wd (sz : Int) : Str := Txt.slice zq none (some sz)
def nm3 (sz sp : Int) (ch : Nat) : Str := Txt.slice (wd sz) none (some sp) ++ ⟨#[ch]⟩ ++ Txt.slice (wd sz) (some (sp + 1)) none
def ns3 (sz sp : Int) : List Str := (List.range 8).map fun i : Nat => nm3 sz sp ((L2.atI bc.cps.toList (0 + (i : Int))).getD 0)
theorem ns3_ok : ((List.range 7).all fun a : Nat => (List.range 8).all fun b : Nat => okNs (ns3 (2 + (a : Int)) (b : Int))) = true := by decide +kernel
def len3 (sz sp : Int) : Bool := decide ((wd sz).length ≤ 8) && (decide ((Txt.slice (wd sz) none (some sp)).length ≤ 8) && decide ((Txt.slice (wd sz) (some (sp + 1)) none).length ≤ 8))
theorem len3_ok : ((List.range 7).all fun a : Nat => (List.range 8).all fun b : Nat => len3 (2 + (a : Int)) (b : Int)) = true := by decide +kernel
def g0 (ch : Nat) : D → D
  | .int i => .str (mulS ⟨#[ch]⟩ (i + 1))
  | _ => .non
def g1 : D → D
  | .str x => .str (x ++ "z")
  | _ => .non
def g2 : D → D
  | .str x => .str ("in." ++ x ++ ".q")
  | _ => .non
def g3 (sz sp : Int) : D → D
  | .int i => .str (nm3 sz sp ((L2.atI bc.cps.toList i).getD 0))
  | _ => .non
theorem rng8 {d : D} (h : d ∈ (List.range (8 : Int).toNat).map fun i : Nat => D.int (0 + (i : Int))) : ∃ i : Nat, i < 8 ∧ d = .int (0 + (i : Int)) := by
  obtain ⟨i, hi, rfl⟩ := List.mem_map.mp h
  exact ⟨i, List.mem_range.mp hi, rfl⟩
section
seal wpAny
variable {P : Program} {w : World} {K : PySem.W.Frag} {mg : Str → Option Value} {base : Heap} {n j : Nat}
theorem c_mixed (d : Df K mg "_law_mixed" s__law_mixed ["_law_cell_here", "_law_k"]) : Cal P w K mg base (j + 1) "_law_mixed" ["_law_cell_here", "_law_k"] sdMix := by
  refine d.cal sc__law_mixed (fun ds P P' f ⟨c, k, e, q⟩ => ⟨c, k, e, fun m => f _ (q m)⟩) (fun ds Q ⟨c, k, e, _⟩ => by rw [e]; rfl) (fun f cdv A outer s H E hr => have hu := hr.units; have hh := hr.hd; have sc := sc__law_mixed
    (ss_cons (s_set (i := 2) sc.nd rfl (Or.inl rfl) (d_mod (d_mul (d_add (d_add (dv 0) (d_mul d_int (dv 1))) d_int) d_int) d_int))
  (ss_one (s_ret (d_mod (d_add (d_mul (dv 2) (dv 2)) (d_mul d_int (dv 2))) d_int))))) ?_
  rintro ds Q ⟨c, k, rfl, q⟩
  have hb := mix1_lt c k
  refine ⟨_, rfl, _, rfl, CMul.ok (.inl ⟨by decide, by decide⟩), CMul.ok (.inr ⟨by decide, by decide⟩), (show (0 : Int) < 2147483647 by decide), ?_⟩
  exact ⟨_, rfl, _, rfl, CMul.ok (i := mix1 c k) (j := mix1 c k) (.inl ⟨by omega, by omega⟩), _, rfl, CMul.ok (.inl ⟨by decide, by decide⟩), (show (0 : Int) < 2147483399 by decide), q _⟩
theorem c_cell (d : Df K mg "_law_cell" s__law_cell ["_law_script", "_law_k"]) (n_len : mg "len" = none) : Cal P w K mg base (j + 1) "_law_cell" ["_law_script", "_law_k"] sdCell := by
  refine d.cal sc__law_cell (fun ds P P' f ⟨c, k, e, q⟩ => ⟨c, k, e, fun c => f _ (q c)⟩) (fun ds Q ⟨c, k, e, _⟩ => by rw [e]; rfl) (fun f cdv A outer s H E hr => have hu := hr.units; have hh := hr.hd; have sc := sc__law_cell
    (ss_cons (s_if (t_lt (dv 1) (d_len (by rfl) n_len (a_cons (dv 0) a_nil))) (ss_one (s_ret (d_ix (dv 0) (dv 1) (fun _ _ => rfl)))) ss_nil)
  (ss_one (s_ret d_int)))) ?_
  rintro ds Q ⟨ns, k, rfl, q⟩
  refine ⟨_, rfl, _, rfl, _, _, rfl, rfl, _, rfl, ?_⟩
  show if decide ((k : Int) < ((ns.map D.int).length : Int)) = true then _ else _
  rw [List.length_map]
  cases h : decide ((k : Int) < (ns.length : Int)) with
  | true =>
    have hk' : k < ns.length := by have := of_decide_eq_true h; omega
    exact iteT ⟨_, rfl, _, rfl, .int ns[k], atI_nat (by rw [List.getElem?_map, List.getElem?_eq_getElem hk']; rfl), q _⟩
  | false => exact iteF (q _)
theorem c_names (d : Df K mg "_law_names" s__law_names ["_law_cell_here"]) (n_range : mg "range" = none) : Cal P w K mg base (j + 1) "_law_names" ["_law_cell_here"] sdNames := by
  refine d.cal sc__law_names (fun ds P P' f ⟨c, e, q⟩ => ⟨c, e, fun l h => f _ (q l h)⟩) (fun ds Q ⟨c, e, _⟩ => by rw [e]; rfl) (fun f cdv A outer s H E hr => have hu := hr.units; have hh := hr.hd; have sc := sc__law_names
    (ss_cons (s_set (i := 1) sc.nd rfl (Or.inl rfl) (d_mod (dv 0) d_int))
  (ss_cons (s_if (t_eq hu (dv 1) d_int) (ss_one (s_ret (d_lc (x := "_law_k") (caps := [0]) (cn := ["_law_cell_here"]) (cl := [("_law_cell_here", s.heap.objs.size + 1)]) (compN (by rfl) (by rfl) (by decide +kernel) (free_of ["_law_cell_here"] rfl (by decide +kernel)) (by decide +kernel) (cells_cons (by rfl) cells_nil) (.cons ⟨rfl, .inl rfl, rfl⟩ .nil)) rfl (i_range1 (by rfl) n_range (a_cons d_int a_nil)) (fun C fp s₂ H₂ => pg_name (i := 0) (show (["_law_k", "_law_cell_here"] : List Str).Nodup by decide +kernel) rfl (Or.inl rfl) (.inr rfl)) (fun C fp s₂ H₂ => ts_nil) (fun C fp s₂ H₂ => (d_mulS (d_ix d_str (d_mod (d_div (dv 1) d_int) d_int) (fun _ _ => rfl)) (d_add (dv 0) d_int)))))) ss_nil)
  (ss_cons (s_if (t_eq hu (dv 1) d_int) (ss_one (s_ret (d_lc (x := "_law_word") (caps := []) (cn := []) (cl := []) (comp0 (by rfl) (by rfl) (by decide +kernel) (by decide +kernel) (by decide +kernel)) rfl (i_any (d_lst (a_ck (by rfl)))) (fun C fp s₂ H₂ => pg_name (i := 0) (show (["_law_word"] : List Str).Nodup by decide +kernel) rfl (Or.inl rfl) (.inr rfl)) (fun C fp s₂ H₂ => ts_nil) (fun C fp s₂ H₂ => (d_add (dv 0) d_str))))) ss_nil)
  (ss_cons (s_if (t_eq hu (dv 1) d_int) (ss_one (s_ret (d_lc (x := "_law_word") (caps := []) (cn := []) (cl := []) (comp0 (by rfl) (by rfl) (by decide +kernel) (by decide +kernel) (by decide +kernel)) rfl (i_any (d_lst (a_ck (by rfl)))) (fun C fp s₂ H₂ => pg_name (i := 0) (show (["_law_word"] : List Str).Nodup by decide +kernel) rfl (Or.inl rfl) (.inr rfl)) (fun C fp s₂ H₂ => ts_nil) (fun C fp s₂ H₂ => (d_add (d_add d_str (dv 0)) d_str))))) ss_nil)
  (ss_cons (s_set (i := 2) sc.nd rfl (Or.inl rfl) (d_add d_int (d_mod (d_div (dv 0) d_int) d_int)))
  (ss_cons (s_set (i := 3) sc.nd rfl (Or.inr rfl) (d_mod (d_div (dv 0) d_int) (dv 2)))
  (ss_cons (s_set (i := 4) sc.nd rfl (Or.inr rfl) (d_slice d_str o_none (o_some (dv 2))))
  (ss_one (s_ret (d_lc (x := "_law_k") (caps := [4, 3]) (cn := ["_law_word", "_law_spot"]) (cl := [("_law_word", s.heap.objs.size + 2), ("_law_spot", s.heap.objs.size + 3)]) (compN (by rfl) (by rfl) (by decide +kernel) (free_of ["_law_word", "_law_spot"] rfl (by decide +kernel)) (by decide +kernel) (cells_cons (by rfl) (cells_cons (by rfl) cells_nil)) (.cons ⟨rfl, .inl rfl, rfl⟩ (.cons ⟨rfl, .inl rfl, rfl⟩ .nil))) rfl (i_range1 (by rfl) n_range (a_cons d_int a_nil)) (fun C fp s₂ H₂ => pg_name (i := 0) (show (["_law_k", "_law_word", "_law_spot"] : List Str).Nodup by decide +kernel) rfl (Or.inl rfl) (.inr rfl)) (fun C fp s₂ H₂ => ts_nil) (fun C fp s₂ H₂ => (d_add (d_add (d_slice (dv 1) o_none (o_some (dv 2))) (d_ix d_str (dv 0) (fun _ _ => rfl))) (d_slice (dv 1) (o_some (d_add (dv 2) d_int)) o_none)))))))))))))) ?_
  rintro ds Q ⟨c, rfl, q⟩
  refine ⟨_, rfl, (show (0 : Int) < 5 by decide), _, rfl, _, rfl, ?_⟩
  cases h0 : decide (c % 5 = 0) with
  | true =>
    obtain ⟨ch, hch, ech⟩ := atI_in (xs := abc.cps.toList) (mod_lo (c / 5) (show (0 : Int) < 13 by decide)) (by rw [show ((abc.cps.toList.length : Nat) : Int) = 13 by decide +kernel]; exact mod_hi _ (by decide))
    refine iteT ⟨8, rfl, (by decide), (by decide), mO (g0 ch) _, mO_len, ?_, (by decide), ?_⟩
    · intro i d o a1 a2
      obtain ⟨hd, rfl⟩ := mO_at a1 a2
      obtain ⟨i, hi, rfl⟩ := rng8 hd
      exact ⟨rfl, fun _ => ⟨_, rfl, cd (by decide) (by decide), (show (0 : Int) < 13 by decide), (by decide +kernel), ch, ech, _, rfl, _, _, rfl, rfl, (by omega), (by omega), (show (0 : Nat) < 1 by decide), (show (1 : Nat) < 1000 by decide), rfl⟩⟩
    · rw [mO_out, show ((List.range (8 : Int).toNat).map fun i : Nat => D.int (0 + (i : Int))).map (g0 ch) = (ns0 ch).map D.str by unfold ns0; rw [List.map_map, List.map_map]; rfl]
      exact q _ (okNs_of (List.all_eq_true.mp ns0_ok ch hch))
  | false =>
    refine iteF ⟨_, rfl, _, rfl, ?_⟩
    cases h1 : decide (c % 5 = 1) with
    | true =>
      refine iteT ⟨(show 8 ≤ sizeLine by decide), _, rfl, mO g1 _, mO_len, ?_, (by decide), ?_⟩
      · intro i d o a1 a2
        obtain ⟨hd, rfl⟩ := mO_at a1 a2
        have hd' : d ∈ l1.map D.str := hd
        obtain ⟨x, hx, rfl⟩ := List.mem_map.mp hd'
        have hl : x.length + 1 ≤ sizeLine := Nat.le_trans (show x.length + 1 ≤ 9 from (show ∀ x ∈ l1, x.length + 1 ≤ 9 by decide +kernel) x hx) (by decide)
        exact ⟨rfl, fun _ => ⟨_, rfl, hl, rfl⟩⟩
      · rw [mO_out]
        exact q ns1 (okNs_of ns1_ok)
    | false =>
      refine iteF ⟨_, rfl, _, rfl, ?_⟩
      cases h2 : decide (c % 5 = 2) with
      | true =>
        refine iteT ⟨(show 8 ≤ sizeLine by decide), _, rfl, mO g2 _, mO_len, ?_, (by decide), ?_⟩
        · intro i d o a1 a2
          obtain ⟨hd, rfl⟩ := mO_at a1 a2
          have hd' : d ∈ l2.map D.str := hd
          obtain ⟨x, hx, rfl⟩ := List.mem_map.mp hd'
          have hl : (Str.length "in." + x.length ≤ sizeLine) ∧ (("in." ++ x : Str).length + Str.length ".q" ≤ sizeLine) := by
            have z : ∀ x ∈ l2, Str.length "in." + x.length ≤ 20 ∧ ("in." ++ x : Str).length + Str.length ".q" ≤ 20 := by decide +kernel
            exact ⟨Nat.le_trans (z x hx).1 (by decide), Nat.le_trans (z x hx).2 (by decide)⟩
          exact ⟨rfl, fun _ => ⟨_, rfl, hl.1, hl.2, rfl⟩⟩
        · rw [mO_out]
          exact q ns2 (okNs_of ns2_ok)
      | false =>
        have a0 := mod_lo (c / 5) (show (0 : Int) < 7 by decide)
        have a7 := mod_hi (c / 5) (show (0 : Int) < 7 by decide)
        refine iteF ⟨_, rfl, cd (by decide) (by decide), (show (0 : Int) < 7 by decide), ?_⟩
        have hs : (0 : Int) < 2 + c / 5 % 7 := by omega
        have b0 := mod_lo (c / 40) hs
        have b8 := mod_hi (c / 40) hs
        refine ⟨_, rfl, cd (by decide) (by decide), _, rfl, hs, ?_⟩
        dsimp only
        obtain ⟨a, ea, ha⟩ : ∃ a : Nat, c / 5 % 7 = (a : Int) ∧ a < 7 := ⟨(c / 5 % 7).toNat, by omega, by omega⟩
        rw [ea] at b0 b8 ⊢
        obtain ⟨b, eb, hb⟩ : ∃ b : Nat, c / 40 % (2 + (a : Int)) = (b : Int) ∧ b < 8 := ⟨(c / 40 % (2 + (a : Int))).toNat, by omega, by omega⟩
        rw [eb]
        have ok3 : okNs (ns3 (2 + (a : Int)) (b : Int)) = true := List.all_eq_true.mp (List.all_eq_true.mp ns3_ok a (List.mem_range.mpr ha)) b (List.mem_range.mpr hb)
        refine ⟨_, rfl, _, rfl, (by decide +kernel), ?_⟩
        have z3 : len3 (2 + (a : Int)) (b : Int) = true := List.all_eq_true.mp (List.all_eq_true.mp len3_ok a (List.mem_range.mpr ha)) b (List.mem_range.mpr hb)
        unfold len3 at z3
        rw [Bool.and_eq_true, Bool.and_eq_true] at z3
        have hw : (wd (2 + (a : Int))).length ≤ 8 := of_decide_eq_true z3.1
        have e1 : (Txt.slice (wd (2 + (a : Int))) none (some (b : Int))).length ≤ 8 := of_decide_eq_true z3.2.1
        have e2 : (Txt.slice (wd (2 + (a : Int))) (some ((b : Int) + 1)) none).length ≤ 8 := of_decide_eq_true z3.2.2
        refine ⟨8, rfl, (by decide), (by decide), mO (g3 (2 + (a : Int)) (b : Int)) _, mO_len, ?_, (by decide), ?_⟩
        · intro i d o a1 a2
          obtain ⟨hd, rfl⟩ := mO_at a1 a2
          obtain ⟨i, hi, rfl⟩ := rng8 hd
          obtain ⟨ch, hch, ech⟩ := atI_in (xs := bc.cps.toList) (i := 0 + (i : Int)) (by omega) (by rw [show ((bc.cps.toList.length : Nat) : Int) = 8 by decide +kernel]; omega)
          have eg : g3 (2 + (a : Int)) (b : Int) (.int (0 + (i : Int))) = .str (nm3 (2 + (a : Int)) (b : Int) ch) := by unfold g3; dsimp only; rw [ech]; rfl
          refine ⟨rfl, fun _ => ⟨_, rfl, _, rfl, _, rfl, Nat.le_trans hw (by decide), _, rfl, (by decide +kernel), ch, ech, Nat.le_trans (show (Txt.slice (wd (2 + (a : Int))) none (some (b : Int))).length + 1 ≤ 9 by omega) (by decide), _, rfl, _, rfl, _, rfl, Nat.le_trans hw (by decide), ?_, ?_⟩⟩
          · show (Txt.slice (wd (2 + (a : Int))) none (some (b : Int)) ++ ⟨#[ch]⟩).length + (Txt.slice (wd (2 + (a : Int))) (some ((b : Int) + 1)) none).length ≤ sizeLine
            rw [app_len]
            exact Nat.le_trans (show _ + 1 + _ ≤ 17 by omega) (by decide)
          · rw [eg]; rfl
        · rw [mO_out, show ((List.range (8 : Int).toNat).map fun i : Nat => D.int (0 + (i : Int))).map (g3 (2 + (a : Int)) (b : Int)) = (ns3 (2 + (a : Int)) (b : Int)).map D.str by unfold ns3; rw [List.map_map, List.map_map]; rfl]
          exact q _ (okNs_of ok3)
end
end K35

-- gen set Xf need_sheet need_rows kinds_of filled beats_of
-- gen set U _law_marks
-- gen set excn _law_e
-- gen set deadr kinds_of filled beats_of
set_option maxHeartbeats 4000000
namespace K35
open PySem PySem.Spec PyProof.Rows L2 DC
structure Lay (k : Nat) (d : D) : Prop where
  pl : DC.plain d = true
  cl : (toP d).canLay0 = true
  dp : (toP d).depth ≤ k
theorem Lay.sh {k : Nat} {d : D} (h : Lay k d) (e : k ≤ 64) : SeqAt.shaped (toP d) = true := by
  unfold SeqAt.shaped
  rw [h.cl, decide_eq_true (Nat.le_trans h.dp e)]
  rfl
theorem self_eq {neg : Bool} {k : Nat} {d : D} {Q : D → Prop} (e : eqScal d d = none) (h : Lay k d) (hk : k ≤ 64) (q : Q (.bl (!neg))) : fEq neg d d Q := by
  have ev : PyData.eqv (toP d) (toP d) = true := SeqAt.eqv_refl _ h.cl
  unfold fEq
  rw [e]
  refine ⟨h.pl, h.pl, h.sh hk, h.sh hk, ?_⟩
  rw [ev]
  cases neg <;> exact q
structure KindOf (K : PySem.W.Frag) (C : Addr) (cs : List Addr) (bs : List Bool) : Prop where
  ty : ExcTy K C
  at_ : ∀ (i : Nat) (c : Addr) (b : Bool), cs[i]? = some c → bs[i]? = some b → PySem.W.kitOne K (.ref C) (.ref c) = some b
  ve : PySem.W.kitOne K (.ref C) (.type "ValueError") = some true
def sheetBs : List Bool := [false, false, false, true, false, false, false, false, false, false, false]
def marksL : List D := [.bl false, .bl false, .bl false, .bl true, .bl false, .bl false, .bl false, .bl false, .bl false, .bl false, .bl false, .bl false]
def sdMarks (ns_ : Addr) : SpD := fun ds Q => ∃ (a : Addr) (gs : List (Str × D)), ds = [.exc a ns_ gs] ∧ Q (.lst marksL)
theorem m_marks {ns_ : Addr} : MonoS (sdMarks ns_) := fun ds P P' f ⟨a, k, e, q⟩ => ⟨a, k, e, f _ q⟩
structure KAll (K : PySem.W.Frag) (mg : Str → Option Value) (ns_ : Addr) : Prop where
  ex : ∃ c1 c2 c3 c5 c6 c7 c8 c9 c10 c11 : Addr, mg "NoKind" = some (.ref c1) ∧ mg "NoBeat" = some (.ref c2) ∧ mg "Ring" = some (.ref c3) ∧ mg "NoSheet" = some (.ref ns_) ∧ mg "NoName" = some (.ref c5) ∧ mg "NoPart" = some (.ref c6) ∧ mg "NoInput" = some (.ref c7) ∧ mg "NoState" = some (.ref c8) ∧ mg "NoClaim" = some (.ref c9) ∧ mg "TooMany" = some (.ref c10) ∧ mg "NoText" = some (.ref c11) ∧
    KindOf K ns_ [c1, c2, c3, ns_, c5, c6, c7, c8, c9, c10, c11] sheetBs
theorem boot_ValueError : bootBuiltins "ValueError" = some (.type "ValueError") := by kernel_rfl
theorem lay_marks : Lay 1 (.lst marksL) := ⟨by decide +kernel, by decide +kernel, by decide +kernel⟩
def Ln.isUse : Ln → Bool
  | .use _ _ _ _ => true
  | _ => false
def Sh.uses (s : Sh) : Prop := ∃ x ∈ s.ls, x.isUse = true
def sxNs (ns_ : Addr) : SpX := fun ds Q R => ∃ (b : Bool) (z : Str), ds = [.bl b, .str z] ∧ if b = true then Q .non else R ns_ []
def sxRows (A : Adr) (L : LA) (ns_ : Addr) : SpX := fun ds _ R => ∃ s : Sh, ds = [s.d A L] ∧ s.uses ∧ R ns_ []
theorem m_sxRows {A : Adr} {L : LA} {ns_ : Addr} : MonoX (sxRows A L ns_) := fun ds P P' R R' f g ⟨s, e, h, q⟩ => ⟨s, e, h, g _ _ q⟩
def sxRef (A : Adr) (L : LA) : SpX := fun ds Q _ => ∃ (v : Int) (s : Sh), ds = [.int v, s.d A L] ∧ s.uses ∧ Q (.bl true)
structure ROk (K : PySem.W.Frag) (L : LA) : Prop where
  o1 : OwnTy K L.inp
  o2 : OwnTy K L.row
  o3 : OwnTy K L.use
  k2 : PySem.W.kitOne K (.ref L.row) (.ref L.row) = some true
  k3 : PySem.W.kitOne K (.ref L.use) (.ref L.row) = some false
  k1 : PySem.W.kitOne K (.ref L.inp) (.ref L.row) = some false
theorem ofT {A B : Prop} (h : if true = true then A else B) : A := by simpa using h
theorem ofF {A B : Prop} (h : if false = true then A else B) : B := by simpa using h
section
seal wpAny
variable {P : Program} {w : World} {K : PySem.W.Frag} {mg : Str → Option Value} {base : Heap} {A : Adr} {L : LA} {n j : Nat} {ns_ cR : Addr}
theorem cu_marks (d : Df K mg "_law_marks" s__law_marks ["_law_e"]) (n_isinstance : mg "isinstance" = none) (n_ValueError : mg "ValueError" = none) (k11 : KAll K mg ns_) : CalU P w K mg base (j + 1) "_law_marks" ["_law_e"] (sdMarks ns_) := by
  obtain ⟨c1, c2, c3, c5, c6, c7, c8, c9, c10, c11, i_NoKind, i_NoBeat, i_Ring, i_NoSheet, i_NoName, i_NoPart, i_NoInput, i_NoState, i_NoClaim, i_TooMany, i_NoText, kn⟩ := k11.ex
  refine d.calU sc__law_marks m_marks (fun ds Q ⟨a, k, e, _⟩ => by rw [e]; rfl) (fun f cdv A outer s H E hr hho => have hu := roomU_units hr; have sc := sc__law_marks
    (ss_cons (s_set (i := 1) sc.nd rfl (Or.inl rfl) (d_lst (a_cons (d_isiEC K rfl (dv 0) (by rfl) n_isinstance (by rfl) i_NoKind) (a_cons (d_isiEC K rfl (dv 0) (by rfl) n_isinstance (by rfl) i_NoBeat) (a_cons (d_isiEC K rfl (dv 0) (by rfl) n_isinstance (by rfl) i_Ring) (a_cons (d_isiEC K rfl (dv 0) (by rfl) n_isinstance (by rfl) i_NoSheet) a_nil))))))
  (ss_cons (s_set (i := 1) sc.nd rfl (Or.inl rfl) (d_add (dv 1) (d_lst (a_cons (d_isiEC K rfl (dv 0) (by rfl) n_isinstance (by rfl) i_NoName) (a_cons (d_isiEC K rfl (dv 0) (by rfl) n_isinstance (by rfl) i_NoPart) (a_cons (d_isiEC K rfl (dv 0) (by rfl) n_isinstance (by rfl) i_NoInput) (a_cons (d_isiEC K rfl (dv 0) (by rfl) n_isinstance (by rfl) i_NoState) a_nil)))))))
  (ss_cons (s_set (i := 1) sc.nd rfl (Or.inl rfl) (d_add (dv 1) (d_lst (a_cons (d_isiEC K rfl (dv 0) (by rfl) n_isinstance (by rfl) i_NoClaim) (a_cons (d_isiEC K rfl (dv 0) (by rfl) n_isinstance (by rfl) i_TooMany) (a_cons (d_isiEC K rfl (dv 0) (by rfl) n_isinstance (by rfl) i_NoText) a_nil))))))
  (ss_one (s_ret (d_add (dv 1) (d_lst (a_cons (d_not (d_isiET K rfl (dv 0) (by rfl) n_isinstance (by rfl) n_ValueError boot_ValueError)) a_nil))))))))) ?_
  rintro ds Q ⟨a, gs, rfl, q⟩
  refine ⟨_, rfl, a, _, _, false, rfl, kn.ty, kn.at_ 0 _ _ rfl rfl, _, rfl, a, _, _, false, rfl, kn.ty, kn.at_ 1 _ _ rfl rfl, _, rfl, a, _, _, false, rfl, kn.ty, kn.at_ 2 _ _ rfl rfl, _, rfl, a, _, _, true, rfl, kn.ty, kn.at_ 3 _ _ rfl rfl, (show 4 ≤ sizeLine by decide), ?_⟩
  refine ⟨_, rfl, _, rfl, a, _, _, false, rfl, kn.ty, kn.at_ 4 _ _ rfl rfl, _, rfl, a, _, _, false, rfl, kn.ty, kn.at_ 5 _ _ rfl rfl, _, rfl, a, _, _, false, rfl, kn.ty, kn.at_ 6 _ _ rfl rfl, _, rfl, a, _, _, false, rfl, kn.ty, kn.at_ 7 _ _ rfl rfl, (show 4 ≤ sizeLine by decide), (show 8 ≤ sizeLine by decide), ?_⟩
  refine ⟨_, rfl, _, rfl, a, _, _, false, rfl, kn.ty, kn.at_ 8 _ _ rfl rfl, _, rfl, a, _, _, false, rfl, kn.ty, kn.at_ 9 _ _ rfl rfl, _, rfl, a, _, _, false, rfl, kn.ty, kn.at_ 10 _ _ rfl rfl, (show 3 ≤ sizeLine by decide), (show 11 ≤ sizeLine by decide), ?_⟩
  exact ⟨_, rfl, _, rfl, a, _, _, true, rfl, kn.ty, kn.ve, true, rfl, (show 1 ≤ sizeLine by decide), (show 12 ≤ sizeLine by decide), q⟩
theorem cx_need_sheet (d : Df K mg "need_sheet" s_need_sheet ["holds", "words"]) (i_NoSheet : mg "NoSheet" = some (.ref ns_)) (e_NoSheet : PySem.W.excIn K ns_ [.type "ValueError", .type "Exception", .type "BaseException", .type "object"] "ValueError.__new__" = true) : CalX P w K mg base (j + 1) "need_sheet" ["holds", "words"] (sxNs ns_) := by
  refine d.calX sc_need_sheet (fun ds P P' R R' f g ⟨b, z, e, h⟩ => ⟨b, z, e, by cases b; exact iteF (g _ _ (ofF h)); exact iteT (f _ (ofT h))⟩) (fun ds Q R ⟨x, _, e, _⟩ => by rw [e]; rfl) (fun f cdv A outer s H E R hr hx => have hu := hr.units; have hh := hr.hd; have sc := sc_need_sheet
    (ss_one (s_if (t_not (t_tru (dv 0))) (ss_one (s_raise hx rfl rfl (by rfl) i_NoSheet e_NoSheet (a_cons (dv 1) a_nil))) ss_nil))) ?_
  rintro ds Q R ⟨b, z, rfl, h⟩
  cases b with
  | true => exact ⟨_, rfl, true, rfl, iteF (ofT h)⟩
  | false => exact ⟨_, rfl, false, rfl, iteT ⟨_, rfl, (show 1 ≤ sizeLine by decide), ofF h⟩⟩
theorem cx_need_rows (hL : LOk K L) (hR : ROk K L) (d : Df K mg "need_rows" s_need_rows ["sheet"]) (n_isinstance : mg "isinstance" = none) (i_Row : mg "Row" = some (.ref L.row)) (cx_need_sheet : CalX P w K mg base j "need_sheet" ["holds", "words"] (sxNs ns_)) : CalX P w K mg base (j + 1) "need_rows" ["sheet"] (sxRows A L ns_) := by
  refine d.calX sc_need_rows m_sxRows (fun ds Q R ⟨s, e, _⟩ => by rw [e]; rfl) (fun f cdv A outer s H E R hr hx => have hu := hr.units; have hh := hr.hd; have sc := sc_need_rows
    (ss_one (s_for PassesOwn.leaving rfl (i_any (d_fldK K rfl (dv 0) (by rfl))) (g_name (i := 1) sc.nd rfl (Or.inl rfl)) (ss_one (s_expr (d_calX hx cx_need_sheet hr (by omega) (by rfl) (a_cons (d_isiK K rfl (dv 1) (by rfl) n_isinstance (by rfl) i_Row) (a_cons d_str a_nil)))))))) ?_
  rintro ds Q R ⟨s, rfl, hu, q⟩
  have c := hL.cl L.sh (by simp)
  have no := hL.nof L.sh (by simp)
  refine vFld_of (r := .tup (s.ls.map (Ln.d A L))) rfl c (no _ (by decide)) (by kernel_rfl) ⟨s.ls.map (Ln.d A L), rfl, fun i δ => (∀ (k : Nat) (x : Ln), k < i → s.ls[k]? = some x → x.isUse = false) ∧ ∃ x1, δ = [some (s.d A L), x1], ⟨fun k x hk => absurd hk (by omega), none, rfl⟩, ?_, ?_⟩
  · rintro i dd δ hd ⟨hi, x1, rfl⟩
    rw [List.getElem?_map] at hd
    cases hx : s.ls[i]? with
    | none => rw [hx] at hd; cases hd
    | some x =>
      rw [hx] at hd
      obtain rfl : x.d A L = dd := by simpa using hd
      cases x with
      | inp m k o => exact ⟨_, rfl, _, _, .o hR.o1, hR.k1, false, _, rfl, iteF q⟩
      | row m k p o =>
        refine ⟨_, rfl, _, _, .o hR.o2, hR.k2, true, _, rfl, iteT ⟨fun k' x hk hx' => ?_, _, rfl⟩⟩
        by_cases e : k' = i
        · subst e; rw [hx] at hx'; cases hx'; rfl
        · exact hi k' x (by omega) hx'
      | use b m p o => exact ⟨_, rfl, _, _, .o hR.o3, hR.k3, false, _, rfl, iteF q⟩
  · rintro δ ⟨hi, x1, rfl⟩
    obtain ⟨x, hx, hux⟩ := hu
    obtain ⟨k, hk⟩ := List.mem_iff_getElem?.mp hx
    have := hi k x (by rw [List.length_map]; exact (List.getElem?_eq_some_iff.mp hk).1) hk
    rw [hux] at this
    cases this
theorem cx_kinds_of (d : Df K mg "kinds_of" s_kinds_of ["sheet"]) (cx_need_rows : CalX P w K mg base j "need_rows" ["sheet"] (sxRows A L ns_)) : CalX P w K mg base (j + 1) "kinds_of" ["sheet"] (sxRows A L ns_) := by
  refine d.calX sc_kinds_of m_sxRows (fun ds Q R ⟨s, e, _⟩ => by rw [e]; rfl) (fun f cdv A outer s H E R hr hx => have hu := hr.units; have hh := hr.hd; have sc := sc_kinds_of
    (ss_cons (s_expr (d_calX hx cx_need_rows hr (by omega) (by rfl) (a_cons (dv 0) a_nil))) ss_never)) ?_
  rintro ds Q R ⟨s, rfl, hu, q⟩
  exact ⟨_, rfl, s, rfl, hu, q⟩
theorem cx_filled (d : Df K mg "filled" s_filled ["sheet"]) (cx_kinds_of : CalX P w K mg base j "kinds_of" ["sheet"] (sxRows A L ns_)) : CalX P w K mg base (j + 1) "filled" ["sheet"] (sxRows A L ns_) := by
  refine d.calX sc_filled m_sxRows (fun ds Q R ⟨s, e, _⟩ => by rw [e]; rfl) (fun f cdv A outer s H E R hr hx => have hu := hr.units; have hh := hr.hd; have sc := sc_filled
    (ss_cons (s_set (i := 1) sc.nd rfl (Or.inr rfl) (d_calX hx cx_kinds_of hr (by omega) (by rfl) (a_cons (dv 0) a_nil))) ss_never)) ?_
  rintro ds Q R ⟨s, rfl, hu, q⟩
  exact ⟨_, rfl, s, rfl, hu, q⟩
theorem cx_beats_of (d : Df K mg "beats_of" s_beats_of ["sheet"]) (cx_need_rows : CalX P w K mg base j "need_rows" ["sheet"] (sxRows A L ns_)) : CalX P w K mg base (j + 1) "beats_of" ["sheet"] (sxRows A L ns_) := by
  refine d.calX sc_beats_of m_sxRows (fun ds Q R ⟨s, e, _⟩ => by rw [e]; rfl) (fun f cdv A outer s H E R hr hx => have hu := hr.units; have hh := hr.hd; have sc := sc_beats_of
    (ss_cons (s_expr (d_calX hx cx_need_rows hr (by omega) (by rfl) (a_cons (dv 0) a_nil))) ss_never)) ?_
  rintro ds Q R ⟨s, rfl, hu, q⟩
  exact ⟨_, rfl, s, rfl, hu, q⟩
theorem cx_refused (d : Df K mg "_law_refused" s__law_refused ["_law_way", "_law_sheet"]) (i_RowError : mg "RowError" = some (.ref cR)) (hk : PySem.W.kitCls K (.ref ns_) (.ref cR) = some true) (be_RowError : PySem.W.mroIn K cR (.type "BaseException") = some true)
    (cx_kinds_of : CalX P w K mg base j "kinds_of" ["sheet"] (sxRows A L ns_)) (cx_filled : CalX P w K mg base j "filled" ["sheet"] (sxRows A L ns_)) (cx_beats_of : CalX P w K mg base j "beats_of" ["sheet"] (sxRows A L ns_)) (cu__law_marks : CalU P w K mg base j "_law_marks" ["_law_e"] (sdMarks ns_)) :
    CalX P w K mg base (j + 1) "_law_refused" ["_law_way", "_law_sheet"] (sxRef A L) := by
  have hit_RowError : ∀ C, C = ns_ → PySem.W.kitCls K (.ref C) (.ref cR) = some true := fun C e => e ▸ hk
  refine d.calXF sc__law_refused (fun ds P P' R R' f g ⟨v, s, e, h, q⟩ => ⟨v, s, e, h, f _ q⟩) (fun ds Q R ⟨v, s, e, _⟩ => by rw [e]; rfl) (fun f cdv A outer s H E R hr hx => have hu := hr.units; have hh := hr.hd; have sc := sc__law_refused
    (ff_cons (ff_try (i := 2) rfl rfl rfl sc.nd rfl rfl (by rfl) i_RowError hit_RowError be_RowError (fun pins E' xk hx => (ss_one (s_if (t_eq hu (dv 0) d_int) (ss_one (s_expr (d_calX hx cx_kinds_of hr (by omega) (by rfl) (a_cons (dv 1) a_nil)))) (ss_one (s_if (t_eq hu (dv 0) d_int) (ss_one (s_expr (d_calX hx cx_filled hr (by omega) (by rfl) (a_cons (dv 1) a_nil)))) (ss_one (s_expr (d_calX hx cx_beats_of hr (by omega) (by rfl) (a_cons (dv 1) a_nil)))))))))
  (fun ea => (ss_one (s_ret (d_eq hu (d_calU rfl cu__law_marks (hr.mark _) (by omega) (by rfl) (a_cons (dv 2) a_nil)) (d_add (d_lst (a_ck (by rfl))) (d_repL (a_ck (by rfl)))))))))
  (ff_all (ss_one (s_ret d_bl))))) ?_
  rintro ds Q R ⟨v, s, rfl, hu, q⟩
  refine ⟨fun δ C (gs : List (Str × D)) => C = ns_ ∧ δ = startD ["_law_way", "_law_sheet", "_law_e"] [.int v, s.d A L], ?_, ?_⟩
  · rintro δ C gs ⟨rfl, rfl⟩
    refine ⟨rfl, fun a => ?_⟩
    exact ⟨_, rfl, ⟨_, _, List.mem_singleton.mpr rfl⟩, a, _, rfl, (show 4 ≤ sizeLine by decide), (show 1 ≤ sizeLine by decide), (by decide), (by decide), (by decide), (show 12 ≤ sizeLine by decide), self_eq rfl lay_marks (by decide) q⟩
  · refine ⟨_, rfl, _, rfl, ?_⟩
    cases h0 : decide (v = 0) with
    | true => exact iteT ⟨_, rfl, s, rfl, hu, rfl, rfl⟩
    | false =>
      refine iteF ⟨_, rfl, _, rfl, ?_⟩
      cases h1 : decide (v = 1) with
      | true => exact iteT ⟨_, rfl, s, rfl, hu, rfl, rfl⟩
      | false => exact iteF ⟨_, rfl, s, rfl, hu, rfl, rfl⟩
end
end K35

-- gen set give _law_use_sheet
set_option maxHeartbeats 4000000
namespace K35
open PySem PySem.Spec PyProof.Rows L2 DC
theorem Names.eight {l : List Str} (h : Names l) : ∃ n0 n1 n2 n3 n4 n5 n6 n7 : Str, l = [n0, n1, n2, n3, n4, n5, n6, n7] := by
  have e := h.len
  match l, e with
  | [n0, n1, n2, n3, n4, n5, n6, n7], _ => exact ⟨n0, n1, n2, n3, n4, n5, n6, n7, rfl⟩
theorem atI_map {α β : Type} {xs : List α} (f : α → β) {i : Int} (h0 : 0 ≤ i) (h1 : i < xs.length) : ∃ r, r ∈ xs ∧ L2.atI (xs.map f) i = some (f r) := by
  unfold L2.atI L2.ixN
  rw [if_pos h0, if_pos (by rw [List.length_map]; exact h1)]
  have h : i.toNat < xs.length := by omega
  exact ⟨xs[i.toNat], List.getElem_mem h, by simp [List.getElem?_eq_getElem h]⟩
def p1s (n0 : Str) : List Pt := [.named n0, .pair "+" (.named n0) (.given (.int 1)), .given (.int 5)]
def r1 (n0 n1 k : Str) (p : Pt) : Ln := .row n1 k p none
def r2 (n1 n2 : Str) (o : Option Str) : Ln := .row n2 "truth" (.before (.named n1) .non) o
def u1 (n2 : Str) (bs : List Str) : Ln := .use bs "zz" [.named n2] none
theorem p1_names {n0 : Str} {p : Pt} (h : p ∈ p1s n0) : ∀ n ∈ p.names, n = n0 := by
  simp only [p1s, List.mem_cons, List.not_mem_nil, or_false] at h
  rcases h with rfl | rfl | rfl
  · intro n hn
    exact List.mem_singleton.mp hn
  · intro n hn
    have : (Pt.pair "+" (.named n0) (.given (.int 1))).names = [n0] := rfl
    rw [this] at hn
    exact List.mem_singleton.mp hn
  · intro n hn
    cases hn
theorem p1_size {n0 : Str} {p : Pt} (h : p ∈ p1s n0) : p.depth ≤ 4 ∧ p.size ≤ 40 := by
  simp only [p1s, List.mem_cons, List.not_mem_nil, or_false] at h
  rcases h with rfl | rfl | rfl
  · exact ⟨by show 1 ≤ 4; decide, by show 1 ≤ 40; decide⟩
  · exact ⟨by show 2 ≤ 4; decide, by show 3 ≤ 40; decide⟩
  · exact ⟨by show 1 ≤ 4; decide, by show 1 ≤ 40; decide⟩
theorem p1_dep {n0 : Str} {p : Pt} (h : p ∈ p1s n0) : p.depth ≤ 2 := by
  simp only [p1s, List.mem_cons, List.not_mem_nil, or_false] at h
  rcases h with rfl | rfl | rfl
  · show 1 ≤ 2; decide
  · show 2 ≤ 2; decide
  · show 1 ≤ 2; decide
theorem p1_ok {n0 : Str} (hn : okNm n0) {p : Pt} (h : p ∈ p1s n0) : p.ok := by
  simp only [p1s, List.mem_cons, List.not_mem_nil, or_false] at h
  rcases h with rfl | rfl | rfl
  · exact hn
  · exact ⟨by decide, hn, .inr ⟨1, rfl, by decide, by decide⟩⟩
  · exact .inr ⟨5, rfl, by decide, by decide⟩
def lss (at_ : Nat) (a b c : Ln) : List Ln := [a, b].take at_ ++ [c] ++ [a, b].drop at_
def sh0 (n0 n1 n2 k : Str) (p : Pt) (o : Option Str) (bs : List Str) (i : Nat) : Sh := ⟨"z", [.inp n0 "truth" none], [n2], lss i (r1 n0 n1 k p) (r2 n1 n2 o) (u1 n2 bs)⟩
theorem lss_mem {i : Nat} {a b c x : Ln} : x ∈ lss i a b c ↔ x = a ∨ x = b ∨ x = c := by
  unfold lss
  match i with
  | 0 => simp; constructor <;> (rintro (h | h | h) <;> simp [h])
  | 1 => simp; constructor <;> (rintro (h | h | h) <;> simp [h])
  | k + 2 => simp
theorem sh0_good {n0 n1 n2 n3 n4 n5 n6 n7 k : Str} {p : Pt} {o : Option Str} {bs : List Str} {i : Nat} (h : Names [n0, n1, n2, n3, n4, n5, n6, n7]) (hp : p ∈ p1s n0) (ho : o = none ∨ o = some n0) (hb : bs = [n3] ∨ bs = [n3, n4]) : (sh0 n0 n1 n2 k p o bs i).Good := by
  have hall : ∀ x, x ∈ (sh0 n0 n1 n2 k p o bs i).all ↔ (x = .inp n0 "truth" none ∨ x = r1 n0 n1 k p ∨ x = r2 n1 n2 o ∨ x = u1 n2 bs) := fun x => by
    unfold Sh.all sh0
    rw [List.mem_append, lss_mem, List.mem_singleton]
  have hl : (lss i (r1 n0 n1 k p) (r2 n1 n2 o) (u1 n2 bs)).length = 3 := by
    unfold lss
    match i with
    | 0 => rfl
    | 1 => rfl
    | k + 2 => simp
  have nd := h.nd
  have hnames : ∃ l, (sh0 n0 n1 n2 k p o bs i).names = l ∧ l.Nodup ∧ n0 ∈ l ∧ n1 ∈ l ∧ n2 ∈ l := by
    refine ⟨_, rfl, ?_⟩
    simp only [List.nodup_cons, List.mem_cons, List.not_mem_nil, or_false, not_or, not_false_eq_true, List.nodup_nil, and_true] at nd
    unfold Sh.names Sh.all sh0 lss
    rcases hb with rfl | rfl
    all_goals
      match i with
      | 0 => simp [Ln.own, r1, r2, u1, List.flatMap]; simp_all [eq_comm]
      | 1 => simp [Ln.own, r1, r2, u1, List.flatMap]; simp_all [eq_comm]
      | k + 2 => simp [Ln.own, r1, r2, u1, List.flatMap]; simp_all [eq_comm]
  obtain ⟨l, el, lnd, m0, m1, m2⟩ := hnames
  refine ⟨⟨⟨by show 1 ≤ 8; decide, by show (lss _ _ _ _).length ≤ 10; rw [hl]; decide⟩, fun x hx => ?_⟩, ⟨by show ("z" : Str).length ≤ 100000; decide, by show wordB "z" = true; decide +kernel⟩, ⟨Nat.le_refl 1, by show 1 ≤ 8; decide, by show 1 ≤ (lss _ _ _ _).length; rw [hl]; decide⟩, by rw [el]; exact lnd, by show [n2].Nodup; simp, ?_, ?_⟩
  · rcases (hall x).mp hx with rfl | rfl | rfl | rfl
    · exact ⟨by show 1 ≤ 8; decide, by show 0 ≤ 8; decide, fun p hp => by cases hp⟩
    · exact ⟨by show 1 ≤ 8; decide, by show 1 ≤ 8; decide, fun q hq => by obtain rfl := List.mem_singleton.mp hq; exact p1_size hp⟩
    · exact ⟨by show 1 ≤ 8; decide, by show 1 ≤ 8; decide, fun q hq => by obtain rfl := List.mem_singleton.mp hq; exact ⟨by show 2 ≤ 4; decide, by show 2 ≤ 40; decide⟩⟩
    · refine ⟨?_, by show 1 ≤ 8; decide, fun q hq => by obtain rfl := List.mem_singleton.mp hq; exact ⟨by show 1 ≤ 4; decide, by show 1 ≤ 40; decide⟩⟩
      rcases hb with rfl | rfl
      · show 1 ≤ 8; decide
      · show 2 ≤ 8; decide
  · intro n hn
    rw [el]
    rcases List.mem_append.mp hn with hn | hn
    · obtain rfl := List.mem_singleton.mp hn
      exact m2
    · obtain ⟨x, hx, hn⟩ := List.mem_flatMap.mp hn
      rcases (hall x).mp hx with rfl | rfl | rfl | rfl
      · cases hn
      · rcases List.mem_append.mp hn with hn | hn
        · cases hn
        · have : ([p].flatMap Pt.names) = p.names := by simp
          rw [show (r1 n0 n1 k p).parts = [p] from rfl, this] at hn
          rw [p1_names hp n hn]
          exact m0
      · rcases List.mem_append.mp hn with hn | hn
        · rcases ho with rfl | rfl
          · cases hn
          · obtain rfl := List.mem_singleton.mp hn
            exact m0
        · obtain rfl : n = n1 := List.mem_singleton.mp hn
          exact m1
      · rcases List.mem_append.mp hn with hn | hn
        · cases hn
        · obtain rfl : n = n2 := List.mem_singleton.mp hn
          exact m2
  · intro x hx
    rcases (hall x).mp hx with rfl | rfl | rfl | rfl
    · exact .inl rfl
    · exact .inl rfl
    · rcases ho with rfl | rfl
      · exact .inl rfl
      · exact .inr ⟨n0, .inp n0 "truth" none, rfl, (hall _).mpr (.inl rfl), List.mem_singleton.mpr rfl, by show (("truth" : Str) == "truth") = true; decide, rfl⟩
    · exact .inl rfl
theorem sh0_uses {n0 n1 n2 k : Str} {p : Pt} {o : Option Str} {bs : List Str} {i : Nat} : (sh0 n0 n1 n2 k p o bs i).uses := ⟨u1 n2 bs, lss_mem.mpr (.inr (.inr rfl)), rfl⟩
theorem sh0_str {n0 n1 n2 n3 n4 n5 n6 n7 k : Str} {p : Pt} {o : Option Str} {bs : List Str} {i : Nat} (h : Names [n0, n1, n2, n3, n4, n5, n6, n7]) (hb : bs = [n3] ∨ bs = [n3, n4]) : ∀ x ∈ (sh0 n0 n1 n2 k p o bs i).names, PyData.strOk x = true := by
  intro x hx
  refine (h.ok x ?_).2.2
  unfold Sh.names Sh.all sh0 at hx
  obtain ⟨y, hy, hx⟩ := List.mem_flatMap.mp hx
  rw [List.mem_append, lss_mem, List.mem_singleton] at hy
  rcases hy with rfl | rfl | rfl | rfl
  · obtain rfl : x = n0 := List.mem_singleton.mp hx
    simp
  · obtain rfl : x = n1 := List.mem_singleton.mp hx
    simp
  · obtain rfl : x = n2 := List.mem_singleton.mp hx
    simp
  · have hx : x ∈ bs := hx
    rcases hb with rfl | rfl <;> simp at hx <;> simp [hx]
    rcases hx with rfl | rfl <;> simp
def sdUseSheet (A : Adr) (L : LA) : SpD := fun ds Q => ∃ (l : List Str) (ns : List Int), ds = [.lst (l.map D.str), .lst (ns.map D.int)] ∧ Names l ∧ ∀ s : Sh, s.Good → s.uses → (∀ x ∈ s.names, PyData.strOk x = true) → Q (s.d A L)
section
seal wpAny
variable {P : Program} {w : World} {K : PySem.W.Frag} {mg : Str → Option Value} {base : Heap} {A : Adr} {L : LA} {n j : Nat}
theorem c_use_sheet {N i : Nat} (hN : 2 ≤ N) (hi : i + 1 ≤ j) (d : Df K mg "_law_use_sheet" s__law_use_sheet ["_law_names_here", "_law_script"]) (c__law_cell : Cal P w K mg base j "_law_cell" ["_law_script", "_law_k"] sdCell) (c__law_mixed : Cal P w K mg base j "_law_mixed" ["_law_cell_here", "_law_k"] sdMix) (c_part_of : Cal P w K mg base j "part_of" ["told"] (sdOf A N))
    (k_Row_3 : Mkr P w K mg base i "Row" L.row siRow [.non]) (k_Row_4 : Mkr P w K mg base i "Row" L.row siRow []) (k_Use_3 : Mkr P w K mg base i "Use" L.use siUse [.non]) (k_Input_2 : Mkr P w K mg base i "Input" L.inp siIn [.non]) (k_Sheet_4 : Mkr P w K mg base i "Sheet" L.sh (siSh A L) []) :
    Cal P w K mg base (j + 1) "_law_use_sheet" ["_law_names_here", "_law_script"] (sdUseSheet A L) := by
  refine d.calM sc__law_use_sheet (fun ds P P' f ⟨l, ns, e, h, q⟩ => ⟨l, ns, e, h, fun s h1 h2 h3 => f _ (q s h1 h2 h3)⟩) (fun ds Q ⟨l, ns, e, _⟩ => by rw [e]; rfl) (fun f cdv A outer s H E hr => have hu := hr.units; have hh := hr.hd; have sc := sc__law_use_sheet
    (ms_cons (ms_lift (s_set (i := 2) sc.nd rfl (Or.inl rfl) (d_cal c__law_cell hr (by omega) (by rfl) (a_cons (dv 1) (a_cons d_int a_nil)))))
  (ms_cons (ms_lift (s_set (i := 3) sc.nd rfl (Or.inl rfl) (d_ix (d_lst (a_cons (d_tup (a_cons d_str (a_cons (d_ix (dv 0) d_int (fun _ _ => rfl)) a_nil))) (a_cons (d_tup (a_cons d_str (a_cons (d_tup (a_cons d_str (a_cons (d_ix (dv 0) d_int (fun _ _ => rfl)) a_nil))) (a_cons (d_tup (a_ck (by rfl))) a_nil)))) (a_cons (d_tup (a_ck (by rfl))) a_nil)))) (d_mod (d_cal c__law_mixed hr (by omega) (by rfl) (a_cons (dv 2) (a_cons d_int a_nil))) d_int) (fun _ _ => rfl))))
  (ms_cons (ms_newL (i := 4) sc.nd rfl (Or.inl rfl) (a_cons (d_mk k_Row_3 hr (by omega) (by rfl) (a_cons (d_ix (dv 0) d_int (fun _ _ => rfl)) (a_cons (d_ix (d_lst (a_ck (by rfl))) (d_mod (d_cal c__law_mixed hr (by omega) (by rfl) (a_cons (dv 2) (a_cons d_int a_nil))) d_int) (fun _ _ => rfl)) (a_cons (d_cal c_part_of hr (by omega) (by rfl) (a_cons (dv 3) a_nil)) a_nil)))) a_nil))
  (ms_cons (ms_append (i := 4) rfl (Or.inl rfl) (d_mk k_Row_4 hr (by omega) (by rfl) (a_cons (d_ix (dv 0) d_int (fun _ _ => rfl)) (a_cons d_str (a_cons (d_cal c_part_of hr (by omega) (by rfl) (a_cons (d_tup (a_cons d_str (a_cons (d_tup (a_cons d_str (a_cons (d_ix (dv 0) d_int (fun _ _ => rfl)) a_nil))) (a_cons d_non a_nil)))) a_nil)) (a_cons (d_ix (d_lst (a_cons d_non (a_cons (d_ix (dv 0) d_int (fun _ _ => rfl)) a_nil))) (d_mod (dv 2) d_int) (fun _ _ => rfl)) a_nil))))))
  (mss_give (mss_lift (ss_cons (s_set (i := 5) sc.nd rfl (Or.inl rfl) (d_mk k_Use_3 hr (by omega) (by rfl) (a_cons (d_slice (d_lst (a_cons (d_ix (dv 0) d_int (fun _ _ => rfl)) (a_cons (d_ix (dv 0) d_int (fun _ _ => rfl)) a_nil))) o_none (o_some (d_add d_int (d_mod (d_cal c__law_mixed hr (by omega) (by rfl) (a_cons (dv 2) (a_cons d_int a_nil))) d_int)))) (a_cons d_str (a_cons (d_lst (a_cons (d_cal c_part_of hr (by omega) (by rfl) (a_cons (d_tup (a_cons d_str (a_cons (d_ix (dv 0) d_int (fun _ _ => rfl)) a_nil))) a_nil)) a_nil)) a_nil)))))
  (ss_cons (s_set (i := 6) sc.nd rfl (Or.inl rfl) (d_mod (d_cal c__law_mixed hr (by omega) (by rfl) (a_cons (dv 2) (a_cons d_int a_nil))) d_int))
  (ss_one (s_ret (d_mk k_Sheet_4 hr (by omega) (by rfl) (a_cons d_str (a_cons (d_lst (a_cons (d_mk k_Input_2 hr (by omega) (by rfl) (a_cons (d_ix (dv 0) d_int (fun _ _ => rfl)) (a_cons d_str a_nil))) a_nil)) (a_cons (d_lst (a_cons (d_ix (dv 0) d_int (fun _ _ => rfl)) a_nil)) (a_cons (d_add (d_add (d_slice (dv 4) o_none (o_some (dv 6))) (d_lst (a_cons (dv 5) a_nil))) (d_slice (dv 4) (o_some (dv 6)) o_none)) a_nil)))))))))))))))) ?_
  rintro ds Q ⟨l, ns, rfl, h, q⟩
  obtain ⟨n0, n1, n2, n3, n4, n5, n6, n7, rfl⟩ := h.eight
  have ok : ∀ x ∈ [n0, n1, n2, n3, n4, n5, n6, n7], okNm x := h.ok
  have ok0 := ok n0 (by simp)
  have ok1 := ok n1 (by simp)
  have ok2 := ok n2 (by simp)
  have ok3 := ok n3 (by simp)
  have ok4 := ok n4 (by simp)
  refine ⟨_, rfl, ns, 1, rfl, fun c => ?_⟩
  have z2 : 2 ≤ sizeLine := by decide
  have z3 : 3 ≤ sizeLine := by decide
  have b1 : ∀ x : Str, okB (.named x) := fun x => ⟨by show 1 ≤ 10; decide, by show 1 ≤ 40; decide⟩
  have pB : ∀ {p : Pt}, p ∈ p1s n0 → okB p := fun h => ⟨Nat.le_trans (p1_size h).1 (by decide), (p1_size h).2⟩
  refine ⟨_, rfl, .str n0, rfl, z2, _, rfl, .str n0, rfl, z2, z2, z3, z2, z3, _, rfl, c, 80, rfl, fun m1 => ⟨(show (0 : Int) < 3 by decide), ?_⟩⟩
  obtain ⟨p, hp, ep⟩ := atI_map (xs := p1s n0) Pt.told (mod_lo m1 (show (0 : Int) < 3 by decide)) (mod_hi m1 (show (0 : Int) < 3 by decide))
  refine ⟨_, ep, ?_⟩
  refine ⟨_, rfl, .str n1, rfl, z2, _, rfl, c, 81, rfl, fun m2 => ⟨(show (0 : Int) < 2 by decide), ?_⟩⟩
  obtain ⟨k, hk, ek⟩ := atI_map (xs := kinds2) D.str (mod_lo m2 (show (0 : Int) < 2 by decide)) (mod_hi m2 (show (0 : Int) < 2 by decide))
  refine ⟨_, ek, _, rfl, p, rfl, Nat.le_trans (p1_dep hp) hN, p1_ok ok0 hp, pB hp, n1, k, p.d A, none, rfl, Nat.le_trans ok1.2.1 (by decide), ok1.1, True.intro, hk, (show 1 ≤ sizeLine by decide), fun a _ => ?_⟩
  refine ⟨a, _, rfl, look1, (show 1 < sizeLine by decide), ?_⟩
  refine ⟨_, rfl, .str n2, rfl, _, rfl, .str n1, rfl, z2, z3, .before (.named n1) .non, rfl, hN, ⟨ok1, .inl rfl⟩, ⟨by show 2 ≤ 10; decide, by show 2 ≤ 40; decide⟩, _, rfl, .str n0, rfl, z2, _, rfl, (show (0 : Int) < 2 by decide), ?_⟩
  obtain ⟨o, ho, eo⟩ := atI_map (xs := [none, some n0]) onD (mod_lo c (show (0 : Int) < 2 by decide)) (mod_hi c (show (0 : Int) < 2 by decide))
  have ho' : o = none ∨ o = some n0 := by simpa using ho
  refine ⟨_, eo, n2, "truth", (Pt.before (.named n1) .non).d A, o, rfl, Nat.le_trans ok2.2.1 (by decide), ok2.1, ?_, List.mem_cons_self, ?_⟩
  · rcases ho' with rfl | rfl
    · exact True.intro
    · exact ⟨Nat.le_trans ok0.2.1 (by decide), ok0.1⟩
  dsimp only
  refine give_view (δ' := [some (.lst (([n0, n1, n2, n3, n4, n5, n6, n7] : List Str).map D.str)), some (.lst (ns.map D.int)), some (.int c), some p.told, some (.lst ([r1 n0 n1 k p, r2 n1 n2 o].map (Ln.d A L))), none, none]) ?_ ?_
  · rw [put1]
    have et : viewD [(a, MD.lst ([r1 n0 n1 k p, r2 n1 n2 o].map (Ln.d A L)))] p.told = p.told := by cases p <;> rfl
    show [_, _, _, some (viewD [(a, MD.lst ([r1 n0 n1 k p, r2 n1 n2 o].map (Ln.d A L)))] p.told), some (viewD [(a, MD.lst ([r1 n0 n1 k p, r2 n1 n2 o].map (Ln.d A L)))] (.adr a)), none, none] = _
    rw [view1, et]
    rfl
  refine ⟨_, rfl, .str n3, rfl, _, rfl, .str n4, rfl, z2, _, rfl, c, 82, rfl, fun m3 => ⟨(show (0 : Int) < 2 by decide), _, rfl, ?_⟩⟩
  obtain ⟨bs, hbs, ebs⟩ : ∃ bs : List Str, (bs = [n3] ∨ bs = [n3, n4]) ∧ cutD [.str n3, .str n4] none (some (1 + m3 % 2)) = bs.map D.str := by
    rcases (show m3 % 2 = 0 ∨ m3 % 2 = 1 by omega) with e | e
    · rw [e]; exact ⟨[n3], .inl rfl, rfl⟩
    · rw [e]; exact ⟨[n3, n4], .inr rfl, rfl⟩
  have hb1 : ∀ x ∈ bs, x.length ≤ 100000 ∧ nameB x = true := by
    intro x hx
    have : x = n3 ∨ x = n4 := by rcases hbs with rfl | rfl <;> simp at hx <;> simp [hx]
    rcases this with rfl | rfl
    · exact ⟨Nat.le_trans ok3.2.1 (by decide), ok3.1⟩
    · exact ⟨Nat.le_trans ok4.2.1 (by decide), ok4.1⟩
  have hb2 : 1 ≤ bs.length ∧ bs.length ≤ 8 := by rcases hbs with rfl | rfl <;> simp
  refine ⟨_, rfl, .str n2, rfl, z2, .named n2, rfl, Nat.le_trans (show 1 ≤ 2 by decide) hN, ok2, b1 n2, (show 1 ≤ sizeLine by decide), bs, "zz", [(Pt.named n2).d A], none, ?_, hb1, hb2.1, hb2.2, (by decide), (by decide +kernel), True.intro, ?_⟩
  · show [D.lst (cutD _ _ _), _, _, _] = _
    exact congrArg (fun l => [D.lst l, D.str "zz", .lst [(Pt.named n2).d A], .non]) ebs
  refine ⟨_, rfl, c, 83, rfl, fun m4 => ⟨(show (0 : Int) < 3 by decide), ?_⟩⟩
  have fin : ∀ (s : Sh) (Q' : D → Prop), s.Good → Q' (s.d A L) → siSh A L [.str s.nm, .lst (s.ins.map (Ln.d A L)), .lst (s.outs.map D.str), .lst (s.ls.map (Ln.d A L))] fun gs => Q' (.obj L.sh gs) := fun s Q' hs q => ⟨s, rfl, hs, q⟩
  refine ⟨_, rfl, .str n0, rfl, n0, "truth", none, rfl, Nat.le_trans ok0.2.1 (by decide), ok0.1, True.intro, List.mem_cons_self, (show 1 ≤ sizeLine by decide), _, rfl, .str n2, rfl, (show 1 ≤ sizeLine by decide), ?_⟩
  rcases (show m4 % 3 = 0 ∨ m4 % 3 = 1 ∨ m4 % 3 = 2 by omega) with e | e | e
  · dsimp only
    rw [e]
    exact ⟨_, rfl, _, rfl, _, rfl, _, rfl, (show 1 ≤ sizeLine by decide), (show 1 ≤ sizeLine by decide), _, rfl, _, rfl, _, rfl, (show 3 ≤ sizeLine by decide), sh0 n0 n1 n2 k p o bs 0, rfl, sh0_good h hp ho' hbs, q _ (sh0_good h hp ho' hbs) sh0_uses (sh0_str h hbs)⟩
  · dsimp only
    rw [e]
    exact ⟨_, rfl, _, rfl, _, rfl, _, rfl, (show 1 ≤ sizeLine by decide), (show 2 ≤ sizeLine by decide), _, rfl, _, rfl, _, rfl, (show 3 ≤ sizeLine by decide), sh0 n0 n1 n2 k p o bs 1, rfl, sh0_good h hp ho' hbs, q _ (sh0_good h hp ho' hbs) sh0_uses (sh0_str h hbs)⟩
  · dsimp only
    rw [e]
    exact ⟨_, rfl, _, rfl, _, rfl, _, rfl, (show 1 ≤ sizeLine by decide), (show 3 ≤ sizeLine by decide), _, rfl, _, rfl, _, rfl, (show 3 ≤ sizeLine by decide), sh0 n0 n1 n2 k p o bs 2, rfl, sh0_good h hp ho' hbs, q _ (sh0_good h hp ho' hbs) sh0_uses (sh0_str h hbs)⟩
end
end K35

-- gen set Xf _law_refused
set_option maxHeartbeats 4000000
namespace K35
open PySem PySem.Spec PyProof.Rows L2 DC
theorem lay_strs : ∀ {b : List Str}, (∀ x ∈ b, PyData.strOk x = true) → PyData.canLayAll0 (toPs (b.map D.str)) = true ∧ plains (b.map D.str) = true ∧ PyData.depthAll (toPs (b.map D.str)) = 0
  | [], _ => ⟨rfl, rfl, rfl⟩
  | x :: b, h => by
    obtain ⟨h1, h2, h3⟩ := lay_strs (b := b) fun y hy => h y (List.mem_cons_of_mem _ hy)
    have hx := h x List.mem_cons_self
    rw [List.map_cons, toPs, toP]
    refine ⟨?_, ?_, ?_⟩
    · rw [PyData.canLayAll0, h1, PyData.canLay0, hx]; rfl
    · rw [plains, h2, show DC.plain (.str x) = true by simp [DC.plain]]; rfl
    · rw [PyData.depthAll, h3, PyData.depth]; rfl
theorem lay_l {b : List Str} (h : ∀ x ∈ b, PyData.strOk x = true) : Lay 1 (.lst (b.map D.str)) := by
  obtain ⟨h1, h2, h3⟩ := lay_strs h
  refine ⟨by rw [DC.plain]; exact h2, by rw [toP, PyData.canLay0]; exact h1, by rw [toP, PyData.depth, h3]; decide⟩
def sxLaw : SpX := fun ds Q _ => ∃ ns : List Int, ds = [.lst (ns.map D.int)] ∧ Q (.bl true)
theorem rng_at {m i : Nat} {d : D} (h : (List.map (fun i : Nat => D.int (0 + (i : Int))) (List.range m))[i]? = some d) : i < m ∧ d = .int (i : Int) := by
  rw [List.getElem?_map] at h
  cases e : (List.range m)[i]? with
  | none => rw [e] at h; cases h
  | some r =>
    rw [e] at h
    have z := List.getElem?_eq_some_iff.mp e
    have hl : i < m := by have := z.1; rwa [List.length_range] at this
    have hr : i = r := by have := z.2; rwa [List.getElem_range] at this
    subst hr
    refine ⟨hl, ?_⟩
    have h' : some (D.int (0 + (i : Int))) = some d := h
    rw [Int.zero_add] at h'
    exact (Option.some.inj h').symm
section
seal wpAny
variable {P : Program} {w : World} {K : PySem.W.Frag} {mg : Str → Option Value} {base : Heap} {A : Adr} {L : LA} {n j : Nat}
theorem okX1 {k : Nat} {x : Str} {st : Stmt} {f : Addr} {fd : FuncData} {ps N : List Str} {sx : SpX} {t : XR → TSD} (F : Fun K x x st f fd) (S : FnScope N ps (defScope st)) (len : ∀ ds Q R, sx ds Q R → ds.length = ps.length)
    (hb : ∀ (f : Addr) (cdv : Value) (A : Around) (outer : List Env) (s : Shared) (H : Hp) (E : XK) (R : XR), Room k (A.deeper (envOfC x (defScope st) s.heap.objs.size f cdv)) → XAcc (BxX P w K mg base N x st f cdv A outer s H E) (fun _ => R) → PSsd (BxX P w K mg base N x st f cdv A outer s H E) (defBody st) (t R))
    (hr : ∀ ds Q R, sx ds Q R → t R { nx := fun _ => Q .non, rt := Q } (startD N ds)) : FnOk P w K mg base (CXD P w) (k + 1) f fd ps (spX K sx) := okX (fun_v F) S len (hb f) hr
theorem ok_law {f : Addr} {fd : FuncData} (F : Fun K "law" "law" s_law f fd) (hL : LOk K L) (n_range : mg "range" = none) (c__law_mixed : Cal P w K mg base j "_law_mixed" ["_law_cell_here", "_law_k"] sdMix) (c__law_cell : Cal P w K mg base j "_law_cell" ["_law_script", "_law_k"] sdCell)
    (c__law_names : Cal P w K mg base j "_law_names" ["_law_cell_here"] sdNames) (c__law_use_sheet : Cal P w K mg base j "_law_use_sheet" ["_law_names_here", "_law_script"] (sdUseSheet A L)) (cx__law_refused : CalX P w K mg base j "_law_refused" ["_law_way", "_law_sheet"] (sxRef A L))
    (m_names : ∀ C, isS L C → Mcal P w K mg base j C "names" (sdS1 A L (fun _ => True) (fun s => .lst (s.names.map D.str)) C) []) :
    FnOk P w K mg base (CXD P w) (j + 1) f fd ["_law_script"] (spX K sxLaw) := by
  refine okX1 F sc_law (fun ds Q R ⟨ns, e, _⟩ => by rw [e]; rfl) (fun f cdv A outer s H E R hr hx => have hu := hr.units; have hh := hr.hd; have sc := sc_law
    (ss_cons (s_set (i := 1) sc.nd rfl (Or.inl rfl) (d_cal c__law_names hr (by omega) (by rfl) (a_cons (d_cal c__law_mixed hr (by omega) (by rfl) (a_cons (d_cal c__law_cell hr (by omega) (by rfl) (a_cons (dv 0) (a_cons d_int a_nil))) (a_cons d_int a_nil))) a_nil)))
  (ss_cons (s_set (i := 2) sc.nd rfl (Or.inl rfl) (d_cal c__law_use_sheet hr (by omega) (by rfl) (a_cons (dv 1) (a_cons (dv 0) a_nil))))
  (ss_cons (s_set (i := 3) sc.nd rfl (Or.inl rfl) (d_m0 m_names hr (by omega) (dv 2)))
  (ss_cons (s_set (i := 4) sc.nd rfl (Or.inl rfl) (d_cal c__law_mixed hr (by omega) (by rfl) (a_cons (d_cal c__law_cell hr (by omega) (by rfl) (a_cons (dv 0) (a_cons d_int a_nil))) (a_cons d_int a_nil))))
  (ss_cons (s_for PassesOwn.leaving rfl (i_range1 (by rfl) n_range (a_cons d_int a_nil)) (g_name (i := 5) sc.nd rfl (Or.inl rfl)) (ss_one (s_if (t_not (t_tru (d_calX hx cx__law_refused hr (by omega) (by rfl) (a_cons (d_mod (d_add (dv 4) (dv 5)) d_int) (a_cons (dv 2) a_nil))))) (ss_one (s_ret d_bl)) ss_nil)))
  (ss_one (s_ret (d_eq hu (d_m0 m_names hr (by omega) (dv 2)) (dv 3)))))))))) ?_
  rintro ds Q R ⟨ns, rfl, q⟩
  refine ⟨_, rfl, ns, 0, rfl, fun c => ⟨c, 1, rfl, fun m => ⟨m, rfl, fun l hl => ?_⟩⟩⟩
  refine ⟨_, rfl, _, rfl, l, ns, rfl, hl, fun s hg hu hs => ?_⟩
  refine sMeth_of (s := s) m_var noL_names ⟨_, rfl, rfl⟩ hg.ok True.intro ?_
  refine ⟨_, rfl, ns, 2, rfl, fun c2 => ⟨c2, 84, rfl, fun m2 => ?_⟩⟩
  refine ⟨_, rfl, (by decide), (by decide), fun i δ => ∃ k : Option D, δ = [some (.lst (ns.map D.int)), some (.lst (l.map D.str)), some (s.d A L), some (.lst (s.names.map D.str)), some (.int m2), k], ⟨none, rfl⟩, ?_, ?_⟩
  · intro i d δ' hd hin
    obtain ⟨k, rfl⟩ := hin
    obtain ⟨hlt, rfl⟩ := rng_at hd
    exact ⟨_, rfl, _, rfl, (show (0 : Int) < 3 by decide), _, rfl, _, s, rfl, hu, true, rfl, iteF ⟨_, rfl⟩⟩
  · intro δ' hin
    obtain ⟨k, rfl⟩ := hin
    exact sMeth_of (s := s) m_var noL_names ⟨_, rfl, rfl⟩ hg.ok True.intro ⟨_, rfl, self_eq rfl (lay_l hs) (by decide) q⟩
end
end K35

set_option maxHeartbeats 4000000
namespace K35
open PySem PySem.Spec PyProof.Rows L2 DC
/-! ### where things lie -/
def BindP (x qual : Str) (st : Stmt) (ps : List Str) : Prop := ∀ (kV doc pm : Value) (an : Option Addr) (cdv ct : Value) (us : List Value), us.length = ps.length → bindArgs (PySem.W.fnOf x qual (defArgs st) (defBody st) (defScope st) .none kV doc pm an cdv ct) ⟨us, []⟩ = pure (ps.zip us)
section
variable {w : World} {K : PySem.W.Frag} {h : Heap} {mg : Str → Option Value} {x m qual : Str} {st : Stmt} {ps : List Str} {f C : Addr} {od an : Option Addr} {sl : Array (Option Value)} {oc kV dc pm cd ct dV : Value}
theorem df_mk (X : K.In h) (G : h.Ns mainGlobals mg) (a : PySem.W.nsIn K mainGlobals x = some (some (.ref f)) := by k_is) (l : K.lookup f = some ⟨oc, od, .func (PySem.W.fnOf x x (defArgs st) (defBody st) (defScope st) .none kV dc pm an cd ct), sl⟩ := by k_is)
    (c : PySem.W.codeIn K cd x = true := by k_is) (k : PySem.W.keepIn K (.ref f) = true := by k_is) (b : BindP x x st ps := by first | exact (fun _ _ _ _ _ _ us hl => match us, hl with | [_], _ => rfl) | exact (fun _ _ _ _ _ _ us hl => match us, hl with | [_, _], _ => rfl) | exact (fun _ _ _ _ _ _ us hl => match us, hl with | [_, _, _], _ => rfl)) : Df K mg x st ps := ⟨⟨f, _, fun_mk (st := st) l c k, PySem.W.mg_of X G a, (fun_mk (st := st) l c k).binds b⟩⟩
structure Dm0 (K : PySem.W.Frag) (C : Addr) (m qual : Str) (st : Stmt) : Prop where
  ex : ∃ f fd, Fun K m qual st f fd ∧ Meth K C m f ∧ Binds K fd ["self"] []
theorem dm_mk (a : PySem.W.findIn K (.ref C) m = some (some (.ref f)) := by k_is) (l : K.lookup f = some ⟨oc, od, .func (PySem.W.fnOf m qual (defArgs st) (defBody st) (defScope st) .none kV dc pm an cd ct), sl⟩ := by k_is)
    (c : PySem.W.codeIn K cd qual = true := by k_is) (k : PySem.W.keepIn K (.ref f) = true := by k_is) (n : PySem.W.isFn K (.ref f) = true := by k_is) (b : BindP m qual st ["self"] := by exact (fun _ _ _ _ _ _ us hl => match us, hl with | [_], _ => rfl)) : Dm0 K C m qual st := ⟨⟨f, _, fun_mk (st := st) l c k, ⟨a, n, k⟩, (fun_mk (st := st) l c k).binds b⟩⟩
theorem Dm0.dm (d : Dm0 K C m qual st) (c : Cls K C) : Dm K C m qual st ["self"] := let ⟨f, fd, F, M, b⟩ := d.ex; ⟨⟨f, fd, F, M, c, b⟩⟩
theorem di_mk (X : K.In h) (G : h.Ns mainGlobals mg) (hc : PySem.W.nsIn K mainGlobals x = some (some (.ref C)) := by k_is) (mk : PySem.W.makesIn K C = true := by k_is) (ini : PySem.W.findIn K (.ref C) "__init__" = some (some (.ref f)) := by k_is) (fn : PySem.W.isFn K (.ref f) = true := by k_is) (kp : PySem.W.keepIn K (.ref C) = true := by k_is)
    (l : K.lookup f = some ⟨oc, od, .func (PySem.W.fnOf "__init__" qual (defArgs st) (defBody st) (defScope st) .none kV dc pm an cd ct), sl⟩ := by k_is) (c : PySem.W.codeIn K cd qual = true := by k_is) (k : PySem.W.keepIn K (.ref f) = true := by k_is)
    (b : BindP "__init__" qual st ps := by first | exact (fun _ _ _ _ _ _ us hl => match us, hl with | [_, _], _ => rfl) | exact (fun _ _ _ _ _ _ us hl => match us, hl with | [_, _, _], _ => rfl) | exact (fun _ _ _ _ _ _ us hl => match us, hl with | [_, _, _, _], _ => rfl) | exact (fun _ _ _ _ _ _ us hl => match us, hl with | [_, _, _, _, _], _ => rfl)) : Di K mg x C qual st ps [] :=
  ⟨⟨f, _, [], [], ⟨⟨oc, od, .none, kV, dc, pm, an, cd, ct, sl, rfl, l, c⟩, k⟩, ⟨mk, ini, fn, kp⟩, PySem.W.mg_of X G hc, (fun_mk (st := st) l c k).binds b, .nil, fun _ => .nil⟩⟩
def BindD (x qual : Str) (st : Stmt) (ps : List Str) : Prop := ∀ (K : PySem.W.Frag) (T : Addr) (ob : Obj) (v : Value) (n : Nat), K.lookup T = some ob → ob.data = .seq #[v] n → ∀ (kV doc pm : Value) (an : Option Addr) (cdv ct : Value), Binds K (PySem.W.fnOf x qual (defArgs st) (defBody st) (defScope st) (.ref T) kV doc pm an cdv ct) ps []
theorem di_mkD {Ta : Addr} {tc v : Value} {td : Option Addr} {tn : Nat} {tsl : Array (Option Value)} (X : K.In h) (G : h.Ns mainGlobals mg) (b : BindD "__init__" qual st ps) (hc : PySem.W.nsIn K mainGlobals x = some (some (.ref C)) := by k_is) (mk : PySem.W.makesIn K C = true := by k_is) (ini : PySem.W.findIn K (.ref C) "__init__" = some (some (.ref f)) := by k_is)
    (fn : PySem.W.isFn K (.ref f) = true := by k_is) (kp : PySem.W.keepIn K (.ref C) = true := by k_is) (l : K.lookup f = some ⟨oc, od, .func (PySem.W.fnOf "__init__" qual (defArgs st) (defBody st) (defScope st) (.ref Ta) kV dc pm an cd ct), sl⟩ := by k_is) (c : PySem.W.codeIn K cd qual = true := by k_is) (k : PySem.W.keepIn K (.ref f) = true := by k_is)
    (lt : K.lookup Ta = some ⟨tc, td, .seq #[v] tn, tsl⟩ := by k_is) : Di K mg x C qual st ps [] :=
  ⟨⟨f, _, [], [], ⟨⟨oc, od, .ref Ta, kV, dc, pm, an, cd, ct, sl, rfl, l, c⟩, k⟩, ⟨mk, ini, fn, kp⟩, PySem.W.mg_of X G hc, b K Ta _ v tn lt rfl kV dc pm an cd ct, .nil, fun _ => .nil⟩⟩
def BindD1 (x qual : Str) (st : Stmt) (ps : List Str) : Prop := ∀ (K : PySem.W.Frag) (T : Addr) (ob : Obj) (v : Value) (n : Nat), K.lookup T = some ob → ob.data = .seq #[v] n → ∀ (kV doc pm : Value) (an : Option Addr) (cdv ct : Value), Binds K (PySem.W.fnOf x qual (defArgs st) (defBody st) (defScope st) (.ref T) kV doc pm an cdv ct) ps [v]
theorem di_mkN {Ta : Addr} {tc : Value} {td : Option Addr} {tn : Nat} {tsl : Array (Option Value)} (X : K.In h) (G : h.Ns mainGlobals mg) (b : BindD1 "__init__" qual st ps) (hc : PySem.W.nsIn K mainGlobals x = some (some (.ref C)) := by k_is) (mk : PySem.W.makesIn K C = true := by k_is) (ini : PySem.W.findIn K (.ref C) "__init__" = some (some (.ref f)) := by k_is)
    (fn : PySem.W.isFn K (.ref f) = true := by k_is) (kp : PySem.W.keepIn K (.ref C) = true := by k_is) (l : K.lookup f = some ⟨oc, od, .func (PySem.W.fnOf "__init__" qual (defArgs st) (defBody st) (defScope st) (.ref Ta) kV dc pm an cd ct), sl⟩ := by k_is) (c : PySem.W.codeIn K cd qual = true := by k_is) (k : PySem.W.keepIn K (.ref f) = true := by k_is)
    (lt : K.lookup Ta = some ⟨tc, td, .seq #[.none] tn, tsl⟩ := by k_is) : Di K mg x C qual st ps [.non] :=
  ⟨⟨f, _, [.non], [.none], ⟨⟨oc, od, .ref Ta, kV, dc, pm, an, cd, ct, sl, rfl, l, c⟩, k⟩, ⟨mk, ini, fn, kp⟩, PySem.W.mg_of X G hc, b K Ta _ .none tn lt rfl kV dc pm an cd ct, .cons rfl .nil, fun _ => .cons .non .nil⟩⟩
theorem cl_of {v : Value} {b : Bool} (h : PySem.W.mroIn K C v = some b) : (PySem.W.clsIn K C).isSome = true := by
  unfold PySem.W.mroIn at h
  cases e : PySem.W.clsIn K C with
  | none => rw [e] at h; cases h
  | some _ => rfl
theorem ety_mk (g1 : PySem.W.findIn K (.ref C) "__getattribute__" = some (some (.builtin "BaseException.__getattribute__")) := by k_is) (g2 : PySem.W.findIn K (.ref C) "__getattr__" = some none := by k_is) (g3 : PySem.W.mroIn K C (.type "BaseException") = some true := by k_is) (ha : PySem.W.findIn K (.ref C) "__class__" = some (some (.builtin "object.__class__")) := by k_is) (hn : PySem.W.specialIn K (.builtin "object.__class__") "__get__" = some (some (.builtin "getset_descriptor.__get__")) := by k_is) (ht : PySem.W.takesIn K (.builtin "object.__class__") = some true := by k_is) (hm : PySem.W.mroIn K C (.type "object") = some true := by k_is) : ExcTy K C := ⟨⟨g1, g2, g3⟩, cl_of hm, ha, hn, ht, hm⟩
theorem cls_of {c : Addr} (h : PySem.W.kitOne K (.ref C) (.ref c) = some true) (ne : C ≠ c) : PySem.W.kitCls K (.ref C) (.ref c) = some true := by
  unfold PySem.W.kitOne at h
  rw [if_neg (fun e => ne (by have := eq_of_beq e; cases this; rfl))] at h
  exact h
theorem own_mk (a : PySem.W.plainGet K C Str.empty = true := by k_is) (b : PySem.W.hasDictIn K C = true := by k_is) (c : PySem.W.plainOver K C = true := by k_is) (d : PySem.W.findIn K (.ref C) "__setattr__" = some (some (.builtin "object.__setattr__")) := by k_is)
    (e : PySem.W.findIn K (.ref C) "__class__" = some (some (.builtin "object.__class__")) := by k_is) (f : PySem.W.specialIn K (.builtin "object.__class__") "__get__" = some (some (.builtin "getset_descriptor.__get__")) := by k_is) (g : PySem.W.takesIn K (.builtin "object.__class__") = some true := by k_is) (h : PySem.W.mroIn K C (.type "object") = some true := by k_is) : OwnTy K C := ⟨⟨a, b, c, d⟩, e, f, g, h⟩
def KitR0 (K : PySem.W.Frag) (C : Addr) (cs : List (Addr × Bool)) : Prop := ∀ p ∈ cs, PySem.W.kitOne K (.ref C) (.ref p.1) = some p.2
theorem kind_of {cs : List Addr} {bs : List Bool} (h : KitR0 K C (cs.zip bs)) : ∀ (i : Nat) (c : Addr) (b : Bool), cs[i]? = some c → bs[i]? = some b → PySem.W.kitOne K (.ref C) (.ref c) = some b := fun i c b h1 h2 => h (c, b) (by
  have : (cs.zip bs)[i]? = some (c, b) := by rw [List.getElem?_zip_eq_some]; exact ⟨h1, h2⟩
  exact List.mem_of_getElem? this)
def KitR (K : PySem.W.Frag) (C : Addr) (cs : List (Addr × Bool)) : Prop := ∀ p ∈ cs, PySem.W.kitOne K (.ref C) (.ref p.1) = some p.2
theorem kr_nil : KitR K C [] := fun p h => nomatch h
theorem kr_cons {c : Addr} {b : Bool} {cs : List (Addr × Bool)} (r : KitR K C cs) (e : PySem.W.kitOne K (.ref C) (.ref c) = some b := by kit_is) : KitR K C ((c, b) :: cs) := fun p m => by
  rcases List.mem_cons.mp m with rfl | m
  · exact e
  · exact r p m
theorem gi_mk {i : Int} {t : Tok} (X : K.In h) (G : h.Ns mainGlobals mg) (e : PySem.W.nsIn K mainGlobals x = some (some (.int i t))) : GI mg x i := ⟨⟨t, PySem.W.mg_of X G e⟩⟩
theorem gs_mk {y : Str} {t : Tok} (X : K.In h) (G : h.Ns mainGlobals mg) (e : PySem.W.nsIn K mainGlobals x = some (some (.str y t))) : GD K mg x (.str y) := ⟨⟨.str y, .str y t, PySem.W.mg_of X G e, ⟨_, rfl⟩, fun _ => .str y⟩⟩
def TupK (K : PySem.W.Frag) (t : Addr) (ds : List D) : Prop := ∀ H, Dv K H (.ref t) (.tup ds)
theorem tup_mk {t : Addr} {its : Array Value} {n : Nat} (vs : List V) {ds : List D} (l : K.lookup t = some ⟨.type "tuple", od, .seq its n, sl⟩) (z : its.size ≤ 1000) (v : Vals vs its.toList) (d : ∀ H, Dvs K H vs ds) : TupK K t ds :=
  fun H => .tup (.inr ⟨_, its, n, l, rfl, rfl, Nat.le_of_lt (small1000 z), v⟩) (d H)
theorem gt_mk {t : Addr} {ds : List D} (X : K.In h) (G : h.Ns mainGlobals mg) (e : PySem.W.nsIn K mainGlobals x = some (some (.ref t))) (l : TupK K t ds) : GD K mg x (.tup ds) := ⟨⟨.ref t, .ref t, PySem.W.mg_of X G e, rfl, l⟩⟩
theorem kt_mk {s : Addr} {es : Array DictEntry} {n : Nat} {kvs : List (Str × V)} {tab : List (Str × D)} (X : K.In h) (G : h.Ns mainGlobals mg) (e : PySem.W.nsIn K mainGlobals x = some (some (.ref s))) (l : K.lookup s = some ⟨.type "dict", none, .dict es n, #[]⟩) (hk : PySem.W.KeysLit w.params es.toList)
    (he : Ents kvs es.toList) (sys : (s == sysModules) = false) (t : Tb K kvs tab) : KTd w K mg x s tab := ⟨PySem.W.mg_of X G e, kvs, ⟨⟨es, n, l, hk, he⟩, sys⟩, t⟩
theorem ents_ref {y : Str} {t : Tok} {r : Addr} {en : DictEntry} {kvs : List (Str × V)} {es : List DictEntry} (hk : en.key = .str y t) (hv : en.val = .ref r) (q : Ents kvs es) : Ents ((y, .ref r) :: kvs) (en :: es) := .cons hk hv q
theorem dvs_strs' (ws : List Str) : ∀ H, Dvs K H (ws.map V.str) (ws.map D.str) := fun _ => dvs_strs ws
def NoG (K : PySem.W.Frag) (C : Addr) : Prop := ∀ f ∈ (["value", "name", "part", "sign", "one", "other", "first"] : List Str), NoAttr K C f
theorem nog_mk (h0 : PySem.W.findIn K (.ref C) "value" = some none := by k_is) (h1 : PySem.W.findIn K (.ref C) "name" = some none := by k_is) (h2 : PySem.W.findIn K (.ref C) "part" = some none := by k_is) (h3 : PySem.W.findIn K (.ref C) "sign" = some none := by k_is) (h4 : PySem.W.findIn K (.ref C) "one" = some none := by k_is) (h5 : PySem.W.findIn K (.ref C) "other" = some none := by k_is) (h6 : PySem.W.findIn K (.ref C) "first" = some none := by k_is) : NoG K C := by
  unfold NoG
  simp only [List.mem_cons, List.not_mem_nil, or_false, forall_eq_or_imp, forall_eq]
  exact ⟨h0, h1, h2, h3, h4, h5, h6⟩
def NoL (K : PySem.W.Frag) (C : Addr) : Prop := ∀ f ∈ lfs, NoAttr K C f
theorem nol_mk (h0 : PySem.W.findIn K (.ref C) "name" = some none := by k_is) (h1 : PySem.W.findIn K (.ref C) "kind" = some none := by k_is) (h2 : PySem.W.findIn K (.ref C) "part" = some none := by k_is) (h3 : PySem.W.findIn K (.ref C) "on" = some none := by k_is) (h4 : PySem.W.findIn K (.ref C) "binds" = some none := by k_is) (h5 : PySem.W.findIn K (.ref C) "module" = some none := by k_is) (h6 : PySem.W.findIn K (.ref C) "parts" = some none := by k_is) (h7 : PySem.W.findIn K (.ref C) "inputs" = some none := by k_is) (h8 : PySem.W.findIn K (.ref C) "outputs" = some none := by k_is) (h9 : PySem.W.findIn K (.ref C) "lines" = some none := by k_is) : NoL K C := by
  unfold NoL
  simp only [lfs, List.mem_cons, List.not_mem_nil, or_false, forall_eq_or_imp, forall_eq]
  exact ⟨h0, h1, h2, h3, h4, h5, h6, h7, h8, h9⟩
end
theorem b_Before___init__ : BindD "__init__" "Before.__init__" s_Before___init__ ["self", "part", "first"] := fun K T ob v n ho hs _ _ _ _ _ _ s us X hl => match us, hl with | [_, _, _], _ => PySem.W.binds_K X rfl ho hs rfl rfl
theorem bn_Input___init__ : BindD1 "__init__" "Input.__init__" s_Input___init__ ["self", "name", "kind", "on"] := fun K T ob v n ho hs _ _ _ _ _ _ s us X hl => match us, (show us.length = 3 by simp only [List.length_append, List.length_cons, List.length_nil] at hl; omega) with | [_, _, _], _ => PySem.W.binds_K X rfl ho hs rfl rfl
theorem b_Row___init__ : BindD "__init__" "Row.__init__" s_Row___init__ ["self", "name", "kind", "part", "on"] := fun K T ob v n ho hs _ _ _ _ _ _ s us X hl => match us, hl with | [_, _, _, _, _], _ => PySem.W.binds_K X rfl ho hs rfl rfl
theorem bn_Row___init__ : BindD1 "__init__" "Row.__init__" s_Row___init__ ["self", "name", "kind", "part", "on"] := fun K T ob v n ho hs _ _ _ _ _ _ s us X hl => match us, (show us.length = 4 by simp only [List.length_append, List.length_cons, List.length_nil] at hl; omega) with | [_, _, _, _], _ => PySem.W.binds_K X rfl ho hs rfl rfl
theorem bn_Use___init__ : BindD1 "__init__" "Use.__init__" s_Use___init__ ["self", "binds", "module", "parts", "on"] := fun K T ob v n ho hs _ _ _ _ _ _ s us X hl => match us, (show us.length = 4 by simp only [List.length_append, List.length_cons, List.length_nil] at hl; omega) with | [_, _, _, _], _ => PySem.W.binds_K X rfl ho hs rfl rfl
/-- the law's promise over values -/
def spLaw (K : PySem.W.Frag) : Sp := fun vs H Q _ => ∃ (q : Addr) (ns : List Int), vs = [.ref q] ∧ SqL K H q (ns.map V.int) ∧ ns.length ≤ 63 ∧ ∀ H', Q (.bl true) H'
theorem dvs_ints {K : PySem.W.Frag} {H : Hp} : ∀ ns : List Int, Dvs K H (ns.map V.int) (ns.map D.int)
  | [] => .nil
  | n :: ns => .cons (.int n) (dvs_ints ns)
section
variable {P : Program} {w : World} {K : PySem.W.Frag} {mg : Str → Option Value} {base : Heap} {A : Adr} {j k : Nat} {x : Str} {ps : List Str}
theorem CalX_up {sx : SpX} (c : CalX P w K mg base j x ps sx) (h : j ≤ k) : CalX P w K mg base k x ps sx := ⟨let ⟨f, fd, F, r⟩ := c.ex; ⟨f, fd, F.mono h, r⟩, c.ms⟩
theorem CalU_up {sd : SpD} (c : CalU P w K mg base j x ps sd) (h : j ≤ k) : CalU P w K mg base k x ps sd := ⟨let ⟨f, fd, F, r⟩ := c.ex; ⟨f, fd, ⟨F.len, fun A outer s H args us vs Q E hr => F.run A outer s H args us vs Q E (hr.mono h)⟩, r⟩, c.ms⟩
theorem to0 {f : Addr} {fd : FuncData} {sp sp' : Sp} (F : FnOk P w K mg base (CXD P w) k f fd ps sp) (h : ∀ vs H Q E, sp' vs H Q E → sp vs H Q fun _ _ _ => False) : FnOk P w K mg base CX0 k f fd ps sp' := by
  refine ⟨fun vs H Q E q => F.len _ _ _ _ (h _ _ _ _ q), fun A outer s H args us vs Q E hr he hb hv q => codeAny_mono (F.run A outer s H args us vs Q _ hr he hb hv (h _ _ _ _ q)) fun r s' z => ?_⟩
  cases r with
  | error e => obtain ⟨_, _, _, _, _, _, _, _, _, _, _, _, _, z⟩ := z; exact z
  | ok fl =>
    cases fl with
    | ret u => exact z
    | next => exact z
    | brk => exact z
    | cont => exact z
theorem part_all (d : Df K mg "part_of" s_part_of ["told"]) (c0 : Cal P w K mg base 2 "many_within" ["told"] (sdTd Pt.ok fun p => .int p.inner.length)) (c1 : Cal P w K mg base 1 "has_shape" ["told"] (sdTd Pt.ok fun p => .bl (!p.isPair)))
    (c2 : Cal P w K mg base 15 "plain_by" ["told", "inner"] (sdBy A 10 true)) (c3 : Cal P w K mg base 15 "timed_by" ["told", "inner"] (sdBy A 10 false))
    (k : Mkr P w K mg base 13 "Pair" A.pair (fun ds Q => ∃ (g : Str) (x y : Pt), ds = [.str g, x.d A, y.d A] ∧ g ∈ signL ∧ (Pt.pair g x y).depth ≤ 10 ∧ okB (.pair g x y) ∧ Q [("sign", .str g), ("one", x.d A), ("other", y.d A)]) []) :
    ∀ n, n ≤ 10 → Cal P w K mg base (n + 15) "part_of" ["told"] (sdOf A n)
  | 0, _ => Df.never d fun ds Q ⟨p, _, h, _⟩ => absurd p.depth_pos (by omega)
  | n + 1, h => part_step (m := n) (N := 10) (by omega) h d (c0.up (by omega)) (c1.up (by omega)) (part_all d c0 c1 c2 c3 k n (by omega)) (by omega) (c2.up (by omega)) (c3.up (by omega)) k
end
theorem all_ok {w : World} {K : PySem.W.Frag} {h : Heap} {mg : Str → Option Value} {a1 a2 a3 a4 b1 b2 b3 b4 b5 b6 b7 b8 b9 b10 b11 l1 l2 l3 l4 br sa sb : Addr} (X : K.In h) (G : h.Ns mainGlobals mg)
    (e1 : PySem.W.nsIn K mainGlobals "Given" = some (some (.ref a1)))
    (e2 : PySem.W.nsIn K mainGlobals "Named" = some (some (.ref a2)))
    (e3 : PySem.W.nsIn K mainGlobals "Pair" = some (some (.ref a3)))
    (e4 : PySem.W.nsIn K mainGlobals "Before" = some (some (.ref a4)))
    (el1 : PySem.W.nsIn K mainGlobals "Input" = some (some (.ref l1)))
    (el2 : PySem.W.nsIn K mainGlobals "Row" = some (some (.ref l2)))
    (el3 : PySem.W.nsIn K mainGlobals "Use" = some (some (.ref l3)))
    (el4 : PySem.W.nsIn K mainGlobals "Sheet" = some (some (.ref l4)))
    (x1 : PySem.W.nsIn K mainGlobals "NoKind" = some (some (.ref b1)))
    (x2 : PySem.W.nsIn K mainGlobals "NoBeat" = some (some (.ref b2)))
    (x3 : PySem.W.nsIn K mainGlobals "Ring" = some (some (.ref b3)))
    (x4 : PySem.W.nsIn K mainGlobals "NoSheet" = some (some (.ref b4)))
    (x5 : PySem.W.nsIn K mainGlobals "NoName" = some (some (.ref b5)))
    (x6 : PySem.W.nsIn K mainGlobals "NoPart" = some (some (.ref b6)))
    (x7 : PySem.W.nsIn K mainGlobals "NoInput" = some (some (.ref b7)))
    (x8 : PySem.W.nsIn K mainGlobals "NoState" = some (some (.ref b8)))
    (x9 : PySem.W.nsIn K mainGlobals "NoClaim" = some (some (.ref b9)))
    (x10 : PySem.W.nsIn K mainGlobals "TooMany" = some (some (.ref b10)))
    (x11 : PySem.W.nsIn K mainGlobals "NoText" = some (some (.ref b11)))
    (xr : PySem.W.nsIn K mainGlobals "RowError" = some (some (.ref br)))
    (nd : [a1, a2, a3, a4].Nodup)
    (ln : l1 ≠ l2 ∧ l1 ≠ l3 ∧ l2 ≠ l3)
    (o1 : OwnTy K a1)
    (n1 : NoG K a1)
    (m1_inner : Dm0 K a1 "inner" "Part.inner" s_Part_inner)
    (m1_size : Dm0 K a1 "size" "Part.size" s_Part_size)
    (m1_depth : Dm0 K a1 "depth" "Part.depth" s_Part_depth)
    (m1_need_bounds : Dm0 K a1 "need_bounds" "Part.need_bounds" s_Part_need_bounds)
    (m1_names : Dm0 K a1 "names" "Part.names" s_Part_names)
    (m1_own_names : Dm0 K a1 "own_names" "Part.own_names" s_Part_own_names)
    (i1 : Di K mg "Given" a1 "Given.__init__" s_Given___init__ ["self", "value"] [])
    (o2 : OwnTy K a2)
    (n2 : NoG K a2)
    (m2_inner : Dm0 K a2 "inner" "Part.inner" s_Part_inner)
    (m2_size : Dm0 K a2 "size" "Part.size" s_Part_size)
    (m2_depth : Dm0 K a2 "depth" "Part.depth" s_Part_depth)
    (m2_need_bounds : Dm0 K a2 "need_bounds" "Part.need_bounds" s_Part_need_bounds)
    (m2_names : Dm0 K a2 "names" "Part.names" s_Part_names)
    (m2_own_names : Dm0 K a2 "own_names" "Named.own_names" s_Named_own_names)
    (i2 : Di K mg "Named" a2 "Named.__init__" s_Named___init__ ["self", "name"] [])
    (o3 : OwnTy K a3)
    (n3 : NoG K a3)
    (m3_inner : Dm0 K a3 "inner" "Pair.inner" s_Pair_inner)
    (m3_size : Dm0 K a3 "size" "Part.size" s_Part_size)
    (m3_depth : Dm0 K a3 "depth" "Part.depth" s_Part_depth)
    (m3_need_bounds : Dm0 K a3 "need_bounds" "Part.need_bounds" s_Part_need_bounds)
    (m3_names : Dm0 K a3 "names" "Part.names" s_Part_names)
    (m3_own_names : Dm0 K a3 "own_names" "Part.own_names" s_Part_own_names)
    (i3 : Di K mg "Pair" a3 "Pair.__init__" s_Pair___init__ ["self", "sign", "one", "other"] [])
    (o4 : OwnTy K a4)
    (n4 : NoG K a4)
    (m4_inner : Dm0 K a4 "inner" "Before.inner" s_Before_inner)
    (m4_size : Dm0 K a4 "size" "Part.size" s_Part_size)
    (m4_depth : Dm0 K a4 "depth" "Part.depth" s_Part_depth)
    (m4_need_bounds : Dm0 K a4 "need_bounds" "Part.need_bounds" s_Part_need_bounds)
    (m4_names : Dm0 K a4 "names" "Part.names" s_Part_names)
    (m4_own_names : Dm0 K a4 "own_names" "Part.own_names" s_Part_own_names)
    (i4 : Di K mg "Before" a4 "Before.__init__" s_Before___init__ ["self", "part", "first"] [])
    (ol1 : OwnTy K l1)
    (nl1 : NoL K l1)
    (ml1_own_names : Dm0 K l1 "own_names" "Input.own_names" s_Input_own_names)
    (ml1_own_parts : Dm0 K l1 "own_parts" "Input.own_parts" s_Input_own_parts)
    (ml1_is_truths : Dm0 K l1 "is_truths" "Input.is_truths" s_Input_is_truths)
    (jl1 : Di K mg "Input" l1 "Input.__init__" s_Input___init__ ["self", "name", "kind", "on"] [.non])
    (ol2 : OwnTy K l2)
    (nl2 : NoL K l2)
    (ml2_own_names : Dm0 K l2 "own_names" "Row.own_names" s_Row_own_names)
    (ml2_own_parts : Dm0 K l2 "own_parts" "Row.own_parts" s_Row_own_parts)
    (ml2_is_truths : Dm0 K l2 "is_truths" "Row.is_truths" s_Row_is_truths)
    (il2 : Di K mg "Row" l2 "Row.__init__" s_Row___init__ ["self", "name", "kind", "part", "on"] [])
    (jl2 : Di K mg "Row" l2 "Row.__init__" s_Row___init__ ["self", "name", "kind", "part", "on"] [.non])
    (ol3 : OwnTy K l3)
    (nl3 : NoL K l3)
    (ml3_own_names : Dm0 K l3 "own_names" "Use.own_names" s_Use_own_names)
    (ml3_own_parts : Dm0 K l3 "own_parts" "Use.own_parts" s_Use_own_parts)
    (ml3_is_truths : Dm0 K l3 "is_truths" "Use.is_truths" s_Use_is_truths)
    (jl3 : Di K mg "Use" l3 "Use.__init__" s_Use___init__ ["self", "binds", "module", "parts", "on"] [.non])
    (ol4 : OwnTy K l4)
    (nl4 : NoL K l4)
    (ml4_all_lines : Dm0 K l4 "all_lines" "Sheet.all_lines" s_Sheet_all_lines)
    (ml4_names : Dm0 K l4 "names" "Sheet.names" s_Sheet_names)
    (ml4_lines_by_name : Dm0 K l4 "lines_by_name" "Sheet.lines_by_name" s_Sheet_lines_by_name)
    (il4 : Di K mg "Sheet" l4 "Sheet.__init__" s_Sheet___init__ ["self", "name", "inputs", "outputs", "lines"] [])
    (r1 : PySem.W.kitOne K (.ref l1) (.ref l2) = some false)
    (r2 : PySem.W.kitOne K (.ref l2) (.ref l2) = some true)
    (r3 : PySem.W.kitOne K (.ref l3) (.ref l2) = some false)
    (ee4 : PySem.W.excIn K b4 [.type "ValueError", .type "Exception", .type "BaseException", .type "object"] "ValueError.__new__" = true)
    (ty4 : ExcTy K b4)
    (kt4 : KitR K b4 [(b1, false), (b2, false), (b3, false), (b4, true), (b5, false), (b6, false), (b7, false), (b8, false), (b9, false), (b10, false), (b11, false)])
    (ve4 : PySem.W.kitOne K (.ref b4) (.type "ValueError") = some true)
    (re4 : PySem.W.kitOne K (.ref b4) (.ref br) = some true)
    (ne4 : b4 ≠ br)
    (be : PySem.W.mroIn K br (.type "BaseException") = some true)
    (d_has_letters : Df K mg "has_letters" s_has_letters ["text"])
    (d_has_word_form : Df K mg "has_word_form" s_has_word_form ["text"])
    (d_is_word : Df K mg "is_word" s_is_word ["thing"])
    (d_is_name : Df K mg "is_name" s_is_name ["thing"])
    (d_is_number : Df K mg "is_number" s_is_number ["thing"])
    (d_is_value : Df K mg "is_value" s_is_value ["thing"])
    (d_need_name : Df K mg "need_name" s_need_name ["name"])
    (d_need_first : Df K mg "need_first" s_need_first ["first"])
    (d_has_shape : Df K mg "has_shape" s_has_shape ["told"])
    (d_many_within : Df K mg "many_within" s_many_within ["told"])
    (d_plain_by : Df K mg "plain_by" s_plain_by ["told", "inner"])
    (d_timed_by : Df K mg "timed_by" s_timed_by ["told", "inner"])
    (d_part_of : Df K mg "part_of" s_part_of ["told"])
    (d_once : Df K mg "once" s_once ["lists"])
    (d_need_sheet : Df K mg "need_sheet" s_need_sheet ["holds", "words"])
    (d_need_word : Df K mg "need_word" s_need_word ["word"])
    (d_need_on : Df K mg "need_on" s_need_on ["on"])
    (d_is_plain_kind : Df K mg "is_plain_kind" s_is_plain_kind ["kind"])
    (d_is_stretch : Df K mg "is_stretch" s_is_stretch ["kind"])
    (d_need_counts : Df K mg "need_counts" s_need_counts ["sheet"])
    (d_need_once : Df K mg "need_once" s_need_once ["names", "words"])
    (d_names_looked_at : Df K mg "names_looked_at" s_names_looked_at ["line"])
    (d_need_known : Df K mg "need_known" s_need_known ["sheet", "found"])
    (d_need_ons : Df K mg "need_ons" s_need_ons ["sheet", "found"])
    (d_need_rows : Df K mg "need_rows" s_need_rows ["sheet"])
    (d__law_cell : Df K mg "_law_cell" s__law_cell ["_law_script", "_law_k"])
    (d__law_mixed : Df K mg "_law_mixed" s__law_mixed ["_law_cell_here", "_law_k"])
    (d__law_names : Df K mg "_law_names" s__law_names ["_law_cell_here"])
    (d__law_marks : Df K mg "_law_marks" s__law_marks ["_law_e"])
    (d__law_use_sheet : Df K mg "_law_use_sheet" s__law_use_sheet ["_law_names_here", "_law_script"])
    (d__law_refused : Df K mg "_law_refused" s__law_refused ["_law_way", "_law_sheet"])
    (d_kinds_of : Df K mg "kinds_of" s_kinds_of ["sheet"])
    (d_filled : Df K mg "filled" s_filled ["sheet"])
    (d_beats_of : Df K mg "beats_of" s_beats_of ["sheet"])
    (g_LONGEST_WORD : GI mg "LONGEST_WORD" 8)
    (g_MOST_WORDS : GI mg "MOST_WORDS" 4)
    (g_LOWEST : GI mg "LOWEST" (-128))
    (g_HIGHEST : GI mg "HIGHEST" 127)
    (g_DEEPEST : GI mg "DEEPEST" 10)
    (g_LARGEST : GI mg "LARGEST" 40)
    (g_MOST_INPUTS : GI mg "MOST_INPUTS" 8)
    (g_MOST_OUTPUTS : GI mg "MOST_OUTPUTS" 8)
    (g_MOST_LINES : GI mg "MOST_LINES" 80)
    (g_LETTERS : GD K mg "LETTERS" (.str letters))
    (g_KEPT : GD K mg "KEPT_WORDS" (.tup (keptL.map D.str)))
    (k_SHAPES : KTd w K mg "SHAPES" sa shapesT)
    (k_SIGNS : KTd w K mg "SIGNS" sb signsT)
    (z_isinstance : PySem.W.nsIn K mainGlobals "isinstance" = some none)
    (z_bool : PySem.W.nsIn K mainGlobals "bool" = some none)
    (z_int : PySem.W.nsIn K mainGlobals "int" = some none)
    (z_len : PySem.W.nsIn K mainGlobals "len" = some none)
    (z_all : PySem.W.nsIn K mainGlobals "all" = some none)
    (z_sum : PySem.W.nsIn K mainGlobals "sum" = some none)
    (z_max : PySem.W.nsIn K mainGlobals "max" = some none)
    (z_range : PySem.W.nsIn K mainGlobals "range" = some none)
    (z_ValueError : PySem.W.nsIn K mainGlobals "ValueError" = some none)
    (z_tuple : PySem.W.nsIn K mainGlobals "tuple" = some none)
    (z_list : PySem.W.nsIn K mainGlobals "list" = some none)
    (z_set : PySem.W.nsIn K mainGlobals "set" = some none)
    (P : Program) (base : Heap) (f : Addr) (fd : FuncData) (F : Fun K "law" "law" s_law f fd) : FnOk P w K mg base CX0 21 f fd ["_law_script"] (spLaw K) := by
  have c1 := o1.cl
  have c2 := o2.cl
  have c3 := o3.cl
  have c4 := o4.cl
  have y_isinstance := PySem.W.mg_none_of X G z_isinstance
  have y_bool := PySem.W.mg_none_of X G z_bool
  have y_int := PySem.W.mg_none_of X G z_int
  have y_len := PySem.W.mg_none_of X G z_len
  have y_all := PySem.W.mg_none_of X G z_all
  have y_sum := PySem.W.mg_none_of X G z_sum
  have y_max := PySem.W.mg_none_of X G z_max
  have y_range := PySem.W.mg_none_of X G z_range
  have y_ValueError := PySem.W.mg_none_of X G z_ValueError
  have y_tuple := PySem.W.mg_none_of X G z_tuple
  have y_list := PySem.W.mg_none_of X G z_list
  have y_set := PySem.W.mg_none_of X G z_set
  have hA : AOk K (Adr.mk a1 a2 a3 a4) := ⟨nd, ?_, ?_⟩
  rotate_left
  · simp only [List.mem_cons, List.not_mem_nil, or_false, forall_eq_or_imp, forall_eq]
    exact ⟨c1, c2, c3, c4⟩
  · intro C hC f hf
    simp only [List.mem_cons, List.not_mem_nil, or_false] at hC
    rcases hC with rfl | rfl | rfl | rfl
    · exact n1 f hf
    · exact n2 f hf
    · exact n3 f hf
    · exact n4 f hf
  have hL : LOk K (LA.mk l1 l2 l3 l4) := ⟨ln.1, ln.2.1, ln.2.2, ?_, ?_⟩
  rotate_left
  · simp only [List.mem_cons, List.not_mem_nil, or_false, forall_eq_or_imp, forall_eq]
    exact ⟨ol1.cl, ol2.cl, ol3.cl, ol4.cl⟩
  · intro C hC f hf
    simp only [List.mem_cons, List.not_mem_nil, or_false] at hC
    rcases hC with rfl | rfl | rfl | rfl
    · exact nl1 f hf
    · exact nl2 f hf
    · exact nl3 f hf
    · exact nl4 f hf
  have hR : ROk K (LA.mk l1 l2 l3 l4) := ⟨ol1, ol2, ol3, r2, r3, r1⟩
  have D_inner : DInner K (Adr.mk a1 a2 a3 a4) := ⟨m1_inner.dm c1, m2_inner.dm c2, m3_inner.dm c3, m4_inner.dm c4⟩
  have D_own : DOwn K (Adr.mk a1 a2 a3 a4) := ⟨m1_own_names.dm c1, m2_own_names.dm c2, m3_own_names.dm c3, m4_own_names.dm c4⟩
  have D_lines : DLines K (LA.mk l1 l2 l3 l4) := ⟨ml1_own_names.dm ol1.cl, ml2_own_names.dm ol2.cl, ml3_own_names.dm ol3.cl, ml1_own_parts.dm ol1.cl, ml2_own_parts.dm ol2.cl, ml3_own_parts.dm ol3.cl, ml1_is_truths.dm ol1.cl, ml2_is_truths.dm ol2.cl, ml3_is_truths.dm ol3.cl⟩
  have D_size : ∀ C, isP (Adr.mk a1 a2 a3 a4) C → Dm K C "size" "Part.size" s_Part_size ["self"] := fun C ⟨p, e⟩ => by
    subst e
    cases p
    · exact m1_size.dm c1
    · exact m2_size.dm c2
    · exact m3_size.dm c3
    · exact m4_size.dm c4
  have D_depth : ∀ C, isP (Adr.mk a1 a2 a3 a4) C → Dm K C "depth" "Part.depth" s_Part_depth ["self"] := fun C ⟨p, e⟩ => by
    subst e
    cases p
    · exact m1_depth.dm c1
    · exact m2_depth.dm c2
    · exact m3_depth.dm c3
    · exact m4_depth.dm c4
  have D_need_bounds : ∀ C, isP (Adr.mk a1 a2 a3 a4) C → Dm K C "need_bounds" "Part.need_bounds" s_Part_need_bounds ["self"] := fun C ⟨p, e⟩ => by
    subst e
    cases p
    · exact m1_need_bounds.dm c1
    · exact m2_need_bounds.dm c2
    · exact m3_need_bounds.dm c3
    · exact m4_need_bounds.dm c4
  have D_names : ∀ C, isP (Adr.mk a1 a2 a3 a4) C → Dm K C "names" "Part.names" s_Part_names ["self"] := fun C ⟨p, e⟩ => by
    subst e
    cases p
    · exact m1_names.dm c1
    · exact m2_names.dm c2
    · exact m3_names.dm c3
    · exact m4_names.dm c4
  have k11 : KAll K mg b4 := ⟨⟨b1, b2, b3, b5, b6, b7, b8, b9, b10, b11, PySem.W.mg_of X G x1, PySem.W.mg_of X G x2, PySem.W.mg_of X G x3, PySem.W.mg_of X G x4, PySem.W.mg_of X G x5, PySem.W.mg_of X G x6, PySem.W.mg_of X G x7, PySem.W.mg_of X G x8, PySem.W.mg_of X G x9, PySem.W.mg_of X G x10, PySem.W.mg_of X G x11, ⟨ty4, kind_of (cs := [b1, b2, b3, b4, b5, b6, b7, b8, b9, b10, b11]) (bs := sheetBs) kt4, ve4⟩⟩⟩
  have s1 := c_is_number (P := P) (w := w) (base := base) (j := 0) d_is_number y_isinstance y_bool y_int g_LOWEST g_HIGHEST
  have s2 := c_is_value d_is_value y_isinstance y_bool s1
  have s3 := c_need_first d_need_first s2
  have w1 := c_has_letters (P := P) (w := w) (base := base) (j := 0) d_has_letters y_len y_all g_LETTERS
  have w2 := c_has_word_form d_has_word_form y_len g_LONGEST_WORD w1
  have w3 := c_is_word d_is_word g_KEPT w2
  have w4 := c_is_name d_is_name y_len y_all g_MOST_WORDS w3 (w2.up (by omega))
  have w5 := c_need_name d_need_name w4
  have mSize := size_all (P := P) (w := w) (base := base) hA D_inner D_size y_sum 10
  have mDepth := depth_all (P := P) (w := w) (base := base) hA D_inner D_depth y_max 10
  have mBounds := bounds_of D_need_bounds mDepth mSize g_DEEPEST g_LARGEST
  have k1 := init_given (j := 12) (A := (Adr.mk a1 a2 a3 a4)) c1 (hA.nof a1 (by simp) "value" (by decide)) i1 (s2.up (by omega))
  have k2 := init_named (j := 12) hA i2 (w5.up (by omega))
  have k4 := init_pair (j := 12) hA i3 k_SIGNS mBounds
  have k6 := init_before (j := 12) hA i4 (s3.up (by omega)) mBounds
  have p1 := c_has_shape (P := P) (base := base) (j := 0) d_has_shape y_len k_SHAPES
  have p0 := c_many_within d_many_within k_SHAPES p1
  have p2 := c_plain_by (n := 10) (j := 14) d_plain_by (by omega) k1 k2
  have p3 := c_timed_by (n := 10) (j := 14) d_timed_by (by omega) k6
  have p4 := part_all d_part_of p0 p1 p2 p3 k4 4 (by omega)
  have nm1 := c_once (P := P) (w := w) (base := base) (j := 0) d_once
  have nm2 := names_all hA D_inner D_own nm1 D_names 4
  have ll1 := own_lines (P := P) (w := w) (mg := mg) (base := base) (A := (Adr.mk a1 a2 a3 a4)) (j := 0) hL D_lines y_list
  have ll1' : ∀ C, isL (LA.mk l1 l2 l3 l4) C → Mcal P w K mg base 1 C "own_names" (sdL (Adr.mk a1 a2 a3 a4) (LA.mk l1 l2 l3 l4) (fun x => .lst (x.own.map D.str)) C) [] := fun C hC => (ll1 C hC).cal m_L fun ds Q ⟨x, e, c, o, q⟩ => ⟨x, e, c, o, fun a => by dsimp only; rw [view1]; exact q⟩
  have ll2 := parts_lines (P := P) (w := w) (mg := mg) (base := base) (A := (Adr.mk a1 a2 a3 a4)) (j := 4) hL D_lines
  have ll3 := truths_lines (P := P) (w := w) (mg := mg) (base := base) (A := (Adr.mk a1 a2 a3 a4)) (j := 0) hL D_lines
  have sh1 := all_lines (P := P) (w := w) (mg := mg) (base := base) (A := (Adr.mk a1 a2 a3 a4)) (j := 0) hL (ml4_all_lines.dm ol4.cl)
  have sh2 := names_sheet (ml4_names.dm ol4.cl) sh1 ll1
  have sh3 := by_name (ml4_lines_by_name.dm ol4.cl) sh1 ll1'
  have sh2' : ∀ C, isS (LA.mk l1 l2 l3 l4) C → Mcal P w K mg base 2 C "names" (sdS1 (Adr.mk a1 a2 a3 a4) (LA.mk l1 l2 l3 l4) (fun _ => True) (fun s => .lst (s.names.map D.str)) C) [] := fun C hC => (sh2 C hC).cal m_S1 fun ds Q ⟨s, e, c, o, _, q⟩ => ⟨s, e, c, o, fun a => by dsimp only; rw [view1]; exact q⟩
  have u1 := c_need_sheet (P := P) (w := w) (base := base) (j := 0) d_need_sheet
  have u2 := c_need_word d_need_word w3
  have u3 := c_need_on d_need_on w5
  have u4 := c_is_plain_kind (P := P) (w := w) (base := base) (j := 0) d_is_plain_kind
  have u5 : Cal P w K mg base 7 "is_stretch" ["kind"] sdNo := Df.never d_is_stretch fun ds Q h => h
  have u6 := c_need_counts (A := (Adr.mk a1 a2 a3 a4)) hL d_need_counts y_len g_MOST_INPUTS g_MOST_OUTPUTS g_MOST_LINES u1
  have u7 := c_need_once d_need_once y_len y_set u1
  have u8 := cf_looks hL d_names_looked_at ll2 nm2
  have u9 := c_need_known (j := 6) hL d_need_known y_list (fun C hC => (sh1 C hC).up (by omega)) u8 (u1.up (by omega))
  have u10 := c_need_ons hL d_need_ons sh1 ll3 u1
  have f1 := k_input (j := 7) hL jl1 (w5.up (by omega)) (u3.up (by omega)) (u1.up (by omega)) (u4.up (by omega)) u5
  have f2 := k_row (j := 7) hL il2 (w5.up (by omega)) (u3.up (by omega)) (u1.up (by omega)) (u4.up (by omega))
  have f3 := k_row (j := 7) hL jl2 (w5.up (by omega)) (u3.up (by omega)) (u1.up (by omega)) (u4.up (by omega))
  have f4 := k_use (j := 7) hL jl3 y_len y_tuple g_MOST_OUTPUTS (w5.up (by omega)) (u3.up (by omega)) (u1.up (by omega)) (u2.up (by omega))
  have f5 := k_sheet (j := 7) hL il4 y_tuple (u2.up (by omega)) (u6.up (by omega)) (u7.up (by omega)) (fun C hC => (sh2' C hC).up (by omega)) (fun C hC => (sh3 C hC).up (by omega)) u9 (u10.up (by omega))
  have t1 := c_mixed (P := P) (w := w) (base := base) (j := 0) d__law_mixed
  have t2 := c_cell (P := P) (w := w) (base := base) (j := 0) d__law_cell y_len
  have t3 := c_names (P := P) (w := w) (base := base) (j := 0) d__law_names y_range
  have t4 := c_use_sheet (N := 4) (i := 8) (j := 19) (by omega) (by omega) d__law_use_sheet (t2.up (by omega)) (t1.up (by omega)) p4 f3 f2 f4 f1 f5
  have v1 := cx_need_sheet (P := P) (w := w) (base := base) (j := 0) d_need_sheet (PySem.W.mg_of X G x4) ee4
  have v2 := cx_need_rows (A := (Adr.mk a1 a2 a3 a4)) hL hR d_need_rows y_isinstance (PySem.W.mg_of X G el2) v1
  have v3 := cu_marks (P := P) (w := w) (base := base) (j := 0) d__law_marks y_isinstance y_ValueError k11
  have v4 := cx_kinds_of d_kinds_of v2
  have v5 := cx_filled d_filled v4
  have v6 := cx_beats_of d_beats_of v2
  have v7 := cx_refused (j := 4) d__law_refused (PySem.W.mg_of X G xr) (cls_of re4 ne4) be (CalX_up v4 (by omega)) (CalX_up v5 (by omega)) (CalX_up v6 (by omega)) (CalU_up v3 (by omega))
  have R := ok_law (j := 20) F hL y_range (t1.up (by omega)) (t2.up (by omega)) (t3.up (by omega)) t4 (CalX_up v7 (by omega)) (fun C hC => (sh2' C hC).up (by omega))
  exact to0 R fun vs H Q E ⟨q, ns, e, hS, hl, k⟩ => ⟨[.lst (ns.map D.int)], e ▸ .cons (.lst hS (dvs_ints ns)) .nil, ns, rfl, fun v H' dv => by cases dv; exact k H'⟩
theorem all_mk {l : PySem.W.OpenLaw} {w : World} {K : PySem.W.Frag} {h : Heap} {mg : Str → Option Value} {fa f1 : Addr} (X : K.In h) (G : h.Ns mainGlobals mg) (hfa : mg "law" = some (.ref fa))
    {od1 an1 : Option Addr} {sl1 : Array (Option Value)} {oc1 kV1 dc1 pm1 cd1 ct1 : Value}
    (la : PySem.W.nsIn K mainGlobals "law" = some (some (.ref f1))) (ll : K.lookup f1 = some ⟨oc1, od1, .func (PySem.W.fnOf "law" "law" (defArgs s_law) (defBody s_law) (defScope s_law) .none kV1 dc1 pm1 an1 cd1 ct1), sl1⟩) (lc : PySem.W.codeIn K cd1 "law" = true) (lk : PySem.W.keepIn K (.ref f1) = true)
    (R : ∀ (P : Program) (base : Heap) (f : Addr) (fd : FuncData), Fun K "law" "law" s_law f fd → FnOk P w K mg base CX0 21 f fd ["_law_script"] (spLaw K))
    : ∃ fd : FuncData, (∀ (s : Shared) (v : Value), BindsTo s fd ⟨[v], []⟩ [("_law_script", v)]) ∧ ∀ base : Heap, K.In base → base.Ns mainGlobals mg → FnOk l.prog w K mg base CX0 21 fa fd ["_law_script"] (spLaw K) := by
  have e := hfa.symm.trans (PySem.W.mg_of X G la)
  cases e
  exact ⟨PySem.W.fnOf "law" "law" (defArgs s_law) (defBody s_law) (defScope s_law) .none kV1 dc1 pm1 an1 cd1 ct1, fun s v => .of_eq rfl, fun base _ _ => R _ base _ _ (fun_mk (st := s_law) ll lc lk)⟩
theorem walk {l : PySem.W.OpenLaw} {q : Program} {loose : List Str} {XP : (Str → Option Value) → Heap → Prop} {YP : World → Heap → Prop} {d : DefRec} {K : Params → PySem.W.Frag} (hn : l.most = some 63) (hdf : d.params.defaults = [])
    (hY : ∀ (w : World) (h : Heap), YP w h → (K w.params).In h)
    (F : ∀ (w : World) (mg : Str → Option Value) (fa : Addr) (h : Heap), (K w.params).In h → h.Ns mainGlobals mg → mg d.name = some (.ref fa) →
      ∃ fd : FuncData, (∀ (s : Shared) (u : Value), BindsTo s fd ⟨[u], []⟩ [("_law_script", u)]) ∧ ∀ base : Heap, (K w.params).In base → base.Ns mainGlobals mg → FnOk l.prog w (K w.params) mg base CX0 21 fa fd ["_law_script"] (spLaw (K w.params))) :
    PySem.W.WalkO q loose XP YP l.row.toRowW d [] (fun f vs => PySem.call f vs) :=
  L2.walk_of (n := 63) (k := 21) (x := "_law_script") (CX := fun _ => CX0) (sp := fun w => spLaw (K w.params)) hn (by decide) hdf ⟨rfl, by decide, by decide⟩ hY F (fun _ _ a ns hl _ hS => ⟨a, ns, rfl, hS, hl, fun _ => rfl⟩) fun _ _ _ _ _ z => z
end K35
open PySem PySem.W PyProof.Rows
set_option maxRecDepth 100000 in
set_option maxHeartbeats 0 in
theorem PySem.Challenge.cw_runrows_k35_uses_are_refused_holds : PySem.Challenge.rw_runrows_k35_uses_are_refused.Holds := by
  refine HK.hd ?_
  k_fill
  refine K35.walk (l := PySem.Challenge.rw_runrows_k35_uses_are_refused) rfl rfl (fun w h Y => HK.fIn_of Y) ?F
  case F =>
    intro w mg fa h KX G hmg
    refine' K35.all_mk KX G hmg ?la ?ll ?lc ?lk (K35.all_ok KX G ?e1 ?e2 ?e3 ?e4 ?el1 ?el2 ?el3 ?el4 ?x1 ?x2 ?x3 ?x4 ?x5 ?x6 ?x7 ?x8 ?x9 ?x10 ?x11 ?xr ?nd ?ln ?o1 ?n1 ?m1_inner ?m1_size ?m1_depth ?m1_need_bounds ?m1_names ?m1_own_names ?i1 ?o2 ?n2 ?m2_inner ?m2_size ?m2_depth ?m2_need_bounds ?m2_names ?m2_own_names ?i2 ?o3 ?n3 ?m3_inner ?m3_size ?m3_depth ?m3_need_bounds ?m3_names ?m3_own_names ?i3 ?o4 ?n4 ?m4_inner ?m4_size ?m4_depth ?m4_need_bounds ?m4_names ?m4_own_names ?i4 ?ol1 ?nl1 ?ml1_own_names ?ml1_own_parts ?ml1_is_truths ?jl1 ?ol2 ?nl2 ?ml2_own_names ?ml2_own_parts ?ml2_is_truths ?il2 ?jl2 ?ol3 ?nl3 ?ml3_own_names ?ml3_own_parts ?ml3_is_truths ?jl3 ?ol4 ?nl4 ?ml4_all_lines ?ml4_names ?ml4_lines_by_name ?il4 ?r1 ?r2 ?r3 ?ee4 ?ty4 ?kt4 ?ve4 ?re4 ?ne4 ?be ?d_has_letters ?d_has_word_form ?d_is_word ?d_is_name ?d_is_number ?d_is_value ?d_need_name ?d_need_first ?d_has_shape ?d_many_within ?d_plain_by ?d_timed_by ?d_part_of ?d_once ?d_need_sheet ?d_need_word ?d_need_on ?d_is_plain_kind ?d_is_stretch ?d_need_counts ?d_need_once ?d_names_looked_at ?d_need_known ?d_need_ons ?d_need_rows ?d__law_cell ?d__law_mixed ?d__law_names ?d__law_marks ?d__law_use_sheet ?d__law_refused ?d_kinds_of ?d_filled ?d_beats_of ?g_LONGEST_WORD ?g_MOST_WORDS ?g_LOWEST ?g_HIGHEST ?g_DEEPEST ?g_LARGEST ?g_MOST_INPUTS ?g_MOST_OUTPUTS ?g_MOST_LINES ?g_LETTERS ?g_KEPT ?k_SHAPES ?k_SIGNS ?z_isinstance ?z_bool ?z_int ?z_len ?z_all ?z_sum ?z_max ?z_range ?z_ValueError ?z_tuple ?z_list ?z_set)
    (case la => k_is)
    (case ll => k_is)
    (case lc => k_is)
    (case lk => k_is)
    (case e1 => k_is)
    (case e2 => k_is)
    (case e3 => k_is)
    (case e4 => k_is)
    (case el1 => k_is)
    (case el2 => k_is)
    (case el3 => k_is)
    (case el4 => k_is)
    (case x1 => k_is)
    (case x2 => k_is)
    (case x3 => k_is)
    (case x4 => k_is)
    (case x5 => k_is)
    (case x6 => k_is)
    (case x7 => k_is)
    (case x8 => k_is)
    (case x9 => k_is)
    (case x10 => k_is)
    (case x11 => k_is)
    (case xr => k_is)
    (case nd => decide)
    (case ln => decide)
    (case o1 => exact K35.own_mk)
    (case n1 => exact K35.nog_mk)
    (case m1_inner => exact K35.dm_mk)
    (case m1_size => exact K35.dm_mk)
    (case m1_depth => exact K35.dm_mk)
    (case m1_need_bounds => exact K35.dm_mk)
    (case m1_names => exact K35.dm_mk)
    (case m1_own_names => exact K35.dm_mk)
    (case i1 => exact K35.di_mk KX G)
    (case o2 => exact K35.own_mk)
    (case n2 => exact K35.nog_mk)
    (case m2_inner => exact K35.dm_mk)
    (case m2_size => exact K35.dm_mk)
    (case m2_depth => exact K35.dm_mk)
    (case m2_need_bounds => exact K35.dm_mk)
    (case m2_names => exact K35.dm_mk)
    (case m2_own_names => exact K35.dm_mk)
    (case i2 => exact K35.di_mk KX G)
    (case o3 => exact K35.own_mk)
    (case n3 => exact K35.nog_mk)
    (case m3_inner => exact K35.dm_mk)
    (case m3_size => exact K35.dm_mk)
    (case m3_depth => exact K35.dm_mk)
    (case m3_need_bounds => exact K35.dm_mk)
    (case m3_names => exact K35.dm_mk)
    (case m3_own_names => exact K35.dm_mk)
    (case i3 => exact K35.di_mk KX G)
    (case o4 => exact K35.own_mk)
    (case n4 => exact K35.nog_mk)
    (case m4_inner => exact K35.dm_mk)
    (case m4_size => exact K35.dm_mk)
    (case m4_depth => exact K35.dm_mk)
    (case m4_need_bounds => exact K35.dm_mk)
    (case m4_names => exact K35.dm_mk)
    (case m4_own_names => exact K35.dm_mk)
    (case i4 => exact K35.di_mkD KX G K35.b_Before___init__)
    (case ol1 => exact K35.own_mk)
    (case nl1 => exact K35.nol_mk)
    (case ml1_own_names => exact K35.dm_mk)
    (case ml1_own_parts => exact K35.dm_mk)
    (case ml1_is_truths => exact K35.dm_mk)
    (case jl1 => exact K35.di_mkN KX G K35.bn_Input___init__)
    (case ol2 => exact K35.own_mk)
    (case nl2 => exact K35.nol_mk)
    (case ml2_own_names => exact K35.dm_mk)
    (case ml2_own_parts => exact K35.dm_mk)
    (case ml2_is_truths => exact K35.dm_mk)
    (case il2 => exact K35.di_mkD KX G K35.b_Row___init__)
    (case jl2 => exact K35.di_mkN KX G K35.bn_Row___init__)
    (case ol3 => exact K35.own_mk)
    (case nl3 => exact K35.nol_mk)
    (case ml3_own_names => exact K35.dm_mk)
    (case ml3_own_parts => exact K35.dm_mk)
    (case ml3_is_truths => exact K35.dm_mk)
    (case jl3 => exact K35.di_mkN KX G K35.bn_Use___init__)
    (case ol4 => exact K35.own_mk)
    (case nl4 => exact K35.nol_mk)
    (case ml4_all_lines => exact K35.dm_mk)
    (case ml4_names => exact K35.dm_mk)
    (case ml4_lines_by_name => exact K35.dm_mk)
    (case il4 => exact K35.di_mk KX G)
    (case r1 => kit_is)
    (case r2 => kit_is)
    (case r3 => kit_is)
    (case ee4 => k_exc)
    (case ty4 => exact K35.ety_mk)
    (case kt4 => exact K35.kr_cons (K35.kr_cons (K35.kr_cons (K35.kr_cons (K35.kr_cons (K35.kr_cons (K35.kr_cons (K35.kr_cons (K35.kr_cons (K35.kr_cons (K35.kr_cons (K35.kr_nil))))))))))))
    (case ve4 => kit_is)
    (case re4 => kit_is)
    (case ne4 => decide)
    (case be => k_is)
    (case d_has_letters => exact K35.df_mk KX G)
    (case d_has_word_form => exact K35.df_mk KX G)
    (case d_is_word => exact K35.df_mk KX G)
    (case d_is_name => exact K35.df_mk KX G)
    (case d_is_number => exact K35.df_mk KX G)
    (case d_is_value => exact K35.df_mk KX G)
    (case d_need_name => exact K35.df_mk KX G)
    (case d_need_first => exact K35.df_mk KX G)
    (case d_has_shape => exact K35.df_mk KX G)
    (case d_many_within => exact K35.df_mk KX G)
    (case d_plain_by => exact K35.df_mk KX G)
    (case d_timed_by => exact K35.df_mk KX G)
    (case d_part_of => exact K35.df_mk KX G)
    (case d_once => exact K35.df_mk KX G)
    (case d_need_sheet => exact K35.df_mk KX G)
    (case d_need_word => exact K35.df_mk KX G)
    (case d_need_on => exact K35.df_mk KX G)
    (case d_is_plain_kind => exact K35.df_mk KX G)
    (case d_is_stretch => exact K35.df_mk KX G)
    (case d_need_counts => exact K35.df_mk KX G)
    (case d_need_once => exact K35.df_mk KX G)
    (case d_names_looked_at => exact K35.df_mk KX G)
    (case d_need_known => exact K35.df_mk KX G)
    (case d_need_ons => exact K35.df_mk KX G)
    (case d_need_rows => exact K35.df_mk KX G)
    (case d__law_cell => exact K35.df_mk KX G)
    (case d__law_mixed => exact K35.df_mk KX G)
    (case d__law_names => exact K35.df_mk KX G)
    (case d__law_marks => exact K35.df_mk KX G)
    (case d__law_use_sheet => exact K35.df_mk KX G)
    (case d__law_refused => exact K35.df_mk KX G)
    (case d_kinds_of => exact K35.df_mk KX G)
    (case d_filled => exact K35.df_mk KX G)
    (case d_beats_of => exact K35.df_mk KX G)
    (case g_LONGEST_WORD => exact K35.gi_mk KX G (by k_is))
    (case g_MOST_WORDS => exact K35.gi_mk KX G (by k_is))
    (case g_LOWEST => exact K35.gi_mk KX G (by k_is))
    (case g_HIGHEST => exact K35.gi_mk KX G (by k_is))
    (case g_DEEPEST => exact K35.gi_mk KX G (by k_is))
    (case g_LARGEST => exact K35.gi_mk KX G (by k_is))
    (case g_MOST_INPUTS => exact K35.gi_mk KX G (by k_is))
    (case g_MOST_OUTPUTS => exact K35.gi_mk KX G (by k_is))
    (case g_MOST_LINES => exact K35.gi_mk KX G (by k_is))
    (case g_LETTERS => exact K35.gs_mk KX G (by k_is))
    (case g_KEPT => refine' K35.gt_mk KX G ?e (K35.tup_mk (K35.keptL.map L2.V.str) ?l ?z ?v (K35.dvs_strs' K35.keptL)); (case e => k_is); (case l => k_is); (case z => exact Nat.le_of_ble_eq_true rfl); (case v => exact (.cons ⟨_, rfl⟩ (.cons ⟨_, rfl⟩ (.cons ⟨_, rfl⟩ (.cons ⟨_, rfl⟩ (.cons ⟨_, rfl⟩ (.cons ⟨_, rfl⟩ (.cons ⟨_, rfl⟩ (.cons ⟨_, rfl⟩ (.cons ⟨_, rfl⟩ (.cons ⟨_, rfl⟩ (.cons ⟨_, rfl⟩ (.cons ⟨_, rfl⟩ (.cons ⟨_, rfl⟩ (.cons ⟨_, rfl⟩ (.cons ⟨_, rfl⟩ (.cons ⟨_, rfl⟩ (.cons ⟨_, rfl⟩ (.cons ⟨_, rfl⟩ (.cons ⟨_, rfl⟩ (.nil))))))))))))))))))))))
    (case k_SHAPES => refine' K35.kt_mk KX G ?e ?l ?k ?h ?s ?t; (case e => k_is); (case l => k_is); (case k => k_keys); (case h => exact (K35.ents_ref rfl rfl (K35.ents_ref rfl rfl (K35.ents_ref rfl rfl (K35.ents_ref rfl rfl (K35.ents_ref rfl rfl (K35.ents_ref rfl rfl (K35.ents_ref rfl rfl (K35.ents_ref rfl rfl (.nil)))))))))); (case s => exact rfl); (case t => refine' (.cons ?q0 (.cons ?q1 (.cons ?q2 (.cons ?q3 (.cons ?q4 (.cons ?q5 (.cons ?q6 (.cons ?q7 (.nil))))))))); (case q0 => refine' K35.tup_mk [(.int 2), (.int 0)] ?l ?z ?v ?d; (case l => k_is); (case z => exact Nat.le_of_ble_eq_true rfl); (case v => exact .cons ⟨_, rfl⟩ (.cons ⟨_, rfl⟩ .nil)); (case d => exact fun _ => .cons (.int _) (.cons (.int _) .nil))); (case q1 => refine' K35.tup_mk [(.int 2), (.int 0)] ?l ?z ?v ?d; (case l => k_is); (case z => exact Nat.le_of_ble_eq_true rfl); (case v => exact .cons ⟨_, rfl⟩ (.cons ⟨_, rfl⟩ .nil)); (case d => exact fun _ => .cons (.int _) (.cons (.int _) .nil))); (case q2 => refine' K35.tup_mk [(.int 2), (.int 1)] ?l ?z ?v ?d; (case l => k_is); (case z => exact Nat.le_of_ble_eq_true rfl); (case v => exact .cons ⟨_, rfl⟩ (.cons ⟨_, rfl⟩ .nil)); (case d => exact fun _ => .cons (.int _) (.cons (.int _) .nil))); (case q3 => refine' K35.tup_mk [(.int 4), (.int 3)] ?l ?z ?v ?d; (case l => k_is); (case z => exact Nat.le_of_ble_eq_true rfl); (case v => exact .cons ⟨_, rfl⟩ (.cons ⟨_, rfl⟩ .nil)); (case d => exact fun _ => .cons (.int _) (.cons (.int _) .nil))); (case q4 => refine' K35.tup_mk [(.int 3), (.int 1)] ?l ?z ?v ?d; (case l => k_is); (case z => exact Nat.le_of_ble_eq_true rfl); (case v => exact .cons ⟨_, rfl⟩ (.cons ⟨_, rfl⟩ .nil)); (case d => exact fun _ => .cons (.int _) (.cons (.int _) .nil))); (case q5 => refine' K35.tup_mk [(.int 3), (.int 2)] ?l ?z ?v ?d; (case l => k_is); (case z => exact Nat.le_of_ble_eq_true rfl); (case v => exact .cons ⟨_, rfl⟩ (.cons ⟨_, rfl⟩ .nil)); (case d => exact fun _ => .cons (.int _) (.cons (.int _) .nil))); (case q6 => refine' K35.tup_mk [(.int 3), (.int 1)] ?l ?z ?v ?d; (case l => k_is); (case z => exact Nat.le_of_ble_eq_true rfl); (case v => exact .cons ⟨_, rfl⟩ (.cons ⟨_, rfl⟩ .nil)); (case d => exact fun _ => .cons (.int _) (.cons (.int _) .nil))); (case q7 => refine' K35.tup_mk [(.int 4), (.int 1)] ?l ?z ?v ?d; (case l => k_is); (case z => exact Nat.le_of_ble_eq_true rfl); (case v => exact .cons ⟨_, rfl⟩ (.cons ⟨_, rfl⟩ .nil)); (case d => exact fun _ => .cons (.int _) (.cons (.int _) .nil)))))
    (case k_SIGNS => refine' K35.kt_mk KX G ?e ?l ?k ?h ?s ?t; (case e => k_is); (case l => k_is); (case k => k_keys); (case h => exact (K35.ents_ref rfl rfl (K35.ents_ref rfl rfl (K35.ents_ref rfl rfl (K35.ents_ref rfl rfl (K35.ents_ref rfl rfl (K35.ents_ref rfl rfl (K35.ents_ref rfl rfl (K35.ents_ref rfl rfl (.nil)))))))))); (case s => exact rfl); (case t => refine' (.cons ?q0 (.cons ?q1 (.cons ?q2 (.cons ?q3 (.cons ?q4 (.cons ?q5 (.cons ?q6 (.cons ?q7 (.nil))))))))); (case q0 => refine' K35.tup_mk [(.str "number"), (.str "number")] ?l ?z ?v ?d; (case l => k_is); (case z => exact Nat.le_of_ble_eq_true rfl); (case v => exact .cons ⟨_, rfl⟩ (.cons ⟨_, rfl⟩ .nil)); (case d => exact fun _ => .cons (.str _) (.cons (.str _) .nil))); (case q1 => refine' K35.tup_mk [(.str "number"), (.str "number")] ?l ?z ?v ?d; (case l => k_is); (case z => exact Nat.le_of_ble_eq_true rfl); (case v => exact .cons ⟨_, rfl⟩ (.cons ⟨_, rfl⟩ .nil)); (case d => exact fun _ => .cons (.str _) (.cons (.str _) .nil))); (case q2 => refine' K35.tup_mk [(.str "number"), (.str "number")] ?l ?z ?v ?d; (case l => k_is); (case z => exact Nat.le_of_ble_eq_true rfl); (case v => exact .cons ⟨_, rfl⟩ (.cons ⟨_, rfl⟩ .nil)); (case d => exact fun _ => .cons (.str _) (.cons (.str _) .nil))); (case q3 => refine' K35.tup_mk [.non, (.str "truth")] ?l ?z ?v ?d; (case l => k_is); (case z => exact Nat.le_of_ble_eq_true rfl); (case v => exact .cons rfl (.cons ⟨_, rfl⟩ .nil)); (case d => exact fun _ => .cons .non (.cons (.str _) .nil))); (case q4 => refine' K35.tup_mk [(.str "number"), (.str "truth")] ?l ?z ?v ?d; (case l => k_is); (case z => exact Nat.le_of_ble_eq_true rfl); (case v => exact .cons ⟨_, rfl⟩ (.cons ⟨_, rfl⟩ .nil)); (case d => exact fun _ => .cons (.str _) (.cons (.str _) .nil))); (case q5 => refine' K35.tup_mk [(.str "number"), (.str "truth")] ?l ?z ?v ?d; (case l => k_is); (case z => exact Nat.le_of_ble_eq_true rfl); (case v => exact .cons ⟨_, rfl⟩ (.cons ⟨_, rfl⟩ .nil)); (case d => exact fun _ => .cons (.str _) (.cons (.str _) .nil))); (case q6 => refine' K35.tup_mk [(.str "truth"), (.str "truth")] ?l ?z ?v ?d; (case l => k_is); (case z => exact Nat.le_of_ble_eq_true rfl); (case v => exact .cons ⟨_, rfl⟩ (.cons ⟨_, rfl⟩ .nil)); (case d => exact fun _ => .cons (.str _) (.cons (.str _) .nil))); (case q7 => refine' K35.tup_mk [(.str "truth"), (.str "truth")] ?l ?z ?v ?d; (case l => k_is); (case z => exact Nat.le_of_ble_eq_true rfl); (case v => exact .cons ⟨_, rfl⟩ (.cons ⟨_, rfl⟩ .nil)); (case d => exact fun _ => .cons (.str _) (.cons (.str _) .nil)))))
    (case z_isinstance => k_is)
    (case z_bool => k_is)
    (case z_int => k_is)
    (case z_len => k_is)
    (case z_all => k_is)
    (case z_sum => k_is)
    (case z_max => k_is)
    (case z_range => k_is)
    (case z_ValueError => k_is)
    (case z_tuple => k_is)
    (case z_list => k_is)
    (case z_set => k_is)
#print axioms PySem.Challenge.cw_runrows_k35_uses_are_refused_holds
