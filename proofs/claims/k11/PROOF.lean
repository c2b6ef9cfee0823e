import PyProof.Rows.All
import Wide.All
import OpenK.AllK
import Wide.FinOn
import Lean
import PyProof.EqAt
import PyProof.EqKinds
import PyProof.TupleCall
import PyProof.ExcAttrAll.ValueError
import PyProof.EnumMake
import PyProof.EnumStmt
import PyProof.Rows.EnumRows
import KE.KDictOf
import KE.KEqDict
import PyProof.Draws
import PySem.Challenge.RW_runrows_k11_lines
set_option Elab.async false
set_option linter.all false
set_option maxRecDepth 100000
namespace HK
open PySem PySem.W PyProof.Rows
def look1 (o : Obj) : Option Obj := match o with
  | ⟨_, _, .freed, _⟩ => none
  | o => some o
theorem get_look (h : Heap) (a : Addr) : h.get? a = (h.objs.toList[a]?).bind look1 := by
  unfold Heap.get?
  rw [Array.getElem?_toList]
  cases h.objs[a]? with
  | none => rfl
  | some o =>
    obtain ⟨c, d, x, s⟩ := o
    cases x <;> rfl
noncomputable def pick (os : List Obj) : Nat → List Addr → List (Option Obj) :=
  List.rec (motive := fun _ => Nat → List Addr → List (Option Obj)) (fun _ as => as.map fun _ => none)
    (fun o _ ih i as => List.casesOn (motive := fun _ => List (Option Obj)) as [] fun a r => cond (Nat.beq i a) (look1 o :: ih (Nat.succ i) r) (ih (Nat.succ i) (a :: r))) os
def upB : Nat → List Addr → Bool
  | _, [] => true
  | i, a :: r => Nat.ble i a && upB (Nat.succ a) r
theorem upB_mono : ∀ {as : List Addr} {i j : Nat}, i ≤ j → upB j as = true → upB i as = true
  | [], _, _, _, _ => rfl
  | a :: r, i, j, h, u => by
    unfold upB at u ⊢
    rw [Bool.and_eq_true] at u ⊢
    exact ⟨Nat.ble_eq_true_of_le (Nat.le_trans h (Nat.le_of_ble_eq_true u.1)), u.2⟩
theorem pick_of : ∀ (os : List Obj) (i : Nat) (as : List Addr), upB i as = true → pick os i as = as.map fun a => (os[a - i]?).bind look1
  | [], i, as, _ => by
    show as.map (fun _ => none) = _
    apply List.map_congr_left
    intro a _
    simp
  | o :: os, i, [], _ => rfl
  | o :: os, i, a :: r, u => by
    have u' := u
    unfold upB at u
    rw [Bool.and_eq_true] at u
    have hle := Nat.le_of_ble_eq_true u.1
    show cond (Nat.beq i a) (look1 o :: pick os (Nat.succ i) r) (pick os (Nat.succ i) (a :: r)) = _
    have step : ∀ l : List Addr, upB (Nat.succ i) l = true → (l.map fun a => (os[a - Nat.succ i]?).bind look1) = l.map fun a => ((o :: os)[a - i]?).bind look1 := by
      intro l hl
      apply List.map_congr_left
      intro b hb
      have hb' : i + 1 ≤ b := by
        clear u u' hle
        induction l generalizing i with
        | nil => cases hb
        | cons c l ih =>
          unfold upB at hl
          rw [Bool.and_eq_true] at hl
          have h1 := Nat.le_of_ble_eq_true hl.1
          rcases List.mem_cons.mp hb with rfl | hb
          · exact h1
          · exact Nat.le_trans (by omega) (ih (i := c) hl.2 hb)
      rw [show b - i = (b - (i + 1)) + 1 by omega]
      rfl
    cases e : Nat.beq i a with
    | true =>
      have : i = a := Nat.eq_of_beq_eq_true e
      subst this
      show look1 o :: pick os (Nat.succ i) r = _
      rw [pick_of os _ r u.2, step r u.2, List.map_cons, Nat.sub_self]
      rfl
    | false =>
      have ne : i ≠ a := Nat.ne_of_beq_eq_false e
      show pick os (Nat.succ i) (a :: r) = _
      have ua : upB (Nat.succ i) (a :: r) = true := by
        unfold upB
        rw [Bool.and_eq_true]
        exact ⟨Nat.ble_eq_true_of_le (by omega), u.2⟩
      rw [pick_of os _ (a :: r) ua, step _ ua]
noncomputable def fHook (K : Params → Frag) (as : List Addr) (e : ∀ P, as = (K P).map (·.1)) (u : upB 0 as = true) : Hook :=
  ⟨List (Option Obj), fun s => pick s.heap.objs.toList 0 as, fun w => (K w.params).map fun p => some p.2, InK K, fun w s x => InK.of e w s (by
    rw [← x, pick_of _ _ _ u]
    apply List.map_congr_left
    intro a _
    exact get_look _ _), InK.keeps⟩
theorem fIn_of {K : Params → Frag} {as : List Addr} {e : ∀ P, as = (K P).map (·.1)} {u : upB 0 as = true} {w : World} {h : Heap} (Y : (fHook K as e u).says w h) : (K w.params).In h := Y
end HK
namespace PySem.W.Fast
def tw10011846111348471856 := 0
def tw10023262893692354947 := 0
def tw1005173788690019851 := 0
def tw10063989985920779836 := 0
def tw10075512017119884784 := 0
def tw10100578696706028736 := 0
def tw10136100034573177053 := 0
def tw10192578183894260217 := 0
def tw10311032386755072780 := 0
def tw10314490320246137442 := 0
def tw1053795369127996276 := 0
def tw10558335436158867722 := 0
def tw10580814259076749872 := 0
def tw10616948346863638757 := 0
def tw1063107356872735625 := 0
def tw10759581964760831524 := 0
def tw107896879777198866 := 0
def tw1082679321854627409 := 0
def tw10921045674247746567 := 0
def tw10930000441613780898 := 0
def tw11046618816809529901 := 0
def tw11048315413351080047 := 0
def tw11070285496886431882 := 0
def tw11084913141756400745 := 0
def tw11103542870836814807 := 0
def tw11112828903830559793 := 0
def tw11123665289953901570 := 0
def tw11238907809469873211 := 0
def tw11314390216700792771 := 0
def tw11330500089977318981 := 0
def tw11370265203775534397 := 0
def tw11424378468915682206 := 0
def tw11491940086867272029 := 0
def tw1167361815565741651 := 0
def tw11714993006482551711 := 0
def tw11751293648130127852 := 0
def tw11890797890986771610 := 0
def tw11919072127654016858 := 0
def tw11977911175569513859 := 0
def tw12062391281267509560 := 0
def tw12095411831870021354 := 0
def tw12142223232489742013 := 0
def tw121568456662757972 := 0
def tw12189245564100965422 := 0
def tw12215068243241074472 := 0
def tw12218726339014330941 := 0
def tw12291354881804714702 := 0
def tw12299738739744620644 := 0
def tw1230493475329595045 := 0
def tw12334039538030350108 := 0
def tw12341249837777555844 := 0
def tw12352148731926666569 := 0
def tw12421113681676412898 := 0
def tw12558441382903586833 := 0
def tw1272773118940708123 := 0
def tw12759872584497753575 := 0
def tw12836061820961539561 := 0
def tw12863986327329689843 := 0
def tw12886388678501028205 := 0
def tw12928780965996549151 := 0
def tw13169552154770272664 := 0
def tw13256617265077023896 := 0
def tw13266324230127834198 := 0
def tw13273315569122040500 := 0
def tw13316896325156032515 := 0
def tw13328910800792583410 := 0
def tw13365738356916301459 := 0
def tw13388169802358980890 := 0
def tw13469829829916856334 := 0
def tw13529211082474448371 := 0
def tw13637742169455159137 := 0
def tw13658476275413535999 := 0
def tw13823860614164647745 := 0
def tw13893361227408403858 := 0
def tw13926934077748688274 := 0
def tw13937182313154708263 := 0
def tw13973750026683291334 := 0
def tw14004942702007167291 := 0
def tw14011391104351694558 := 0
def tw140177662593863645 := 0
def tw14047663304401579100 := 0
def tw14083739395336135135 := 0
def tw14116335633173703099 := 0
def tw14128754409473785343 := 0
def tw14209795815759749273 := 0
def tw14252560438642767234 := 0
def tw1425483712668013544 := 0
def tw14311038153441435093 := 0
def tw14450930676218928248 := 0
def tw14504088928248699976 := 0
def tw14507415341453870084 := 0
def tw14517677512315839579 := 0
def tw14600462471713845711 := 0
def tw14666292136045397323 := 0
def tw14675514110255472197 := 0
def tw14797918348054449791 := 0
def tw14879008701816836761 := 0
def tw14911157312249207829 := 0
def tw14985537853120649688 := 0
def tw15050317225906069884 := 0
def tw15137341886810187849 := 0
def tw15171987475126949351 := 0
def tw15192507957097199215 := 0
def tw15202031208338410800 := 0
def tw1531156213469727484 := 0
def tw15454951609121490990 := 0
def tw1547643484732830138 := 0
def tw1549084593567068158 := 0
def tw15504565740918779026 := 0
def tw15508068885743364823 := 0
def tw15549088072568171021 := 0
def tw15593933135668983962 := 0
def tw15660316531407416708 := 0
def tw15675399937445652180 := 0
def tw15690760117997215410 := 0
def tw15736160040987835997 := 0
def tw15781351171571136165 := 0
def tw15851715076194626764 := 0
def tw15927402616802990514 := 0
def tw15953924372992769263 := 0
def tw15968242696520518636 := 0
def tw15979192928810105352 := 0
def tw1600701943223028627 := 0
def tw16013231413871042747 := 0
def tw16025739800998920092 := 0
def tw16031925697494997891 := 0
def tw16094858912731944949 := 0
def tw16113792872167200069 := 0
def tw16115247186079278480 := 0
def tw1613666834425060735 := 0
def tw16184982811803322352 := 0
def tw16187863561334881237 := 0
def tw16191636447272343862 := 0
def tw16229081717309517034 := 0
def tw16283885853781933767 := 0
def tw16322808281755406214 := 0
def tw16326110618884136131 := 0
def tw16381849357123423495 := 0
def tw16386137105239327228 := 0
def tw16519914212366222798 := 0
def tw16551199176494838430 := 0
def tw16558558332523127164 := 0
def tw1657326038529687373 := 0
def tw16643955301330777707 := 0
def tw16694857631246066523 := 0
def tw16711279598531922629 := 0
def tw16809738859913040421 := 0
def tw16846310946147772395 := 0
def tw16875573333138068320 := 0
def tw16911176654102400324 := 0
def tw1700846193486346536 := 0
def tw17035704588064033714 := 0
def tw17083730337544359378 := 0
def tw17094012733648052663 := 0
def tw17101583969557157149 := 0
def tw17104041578333866404 := 0
def tw17130692111895985110 := 0
def tw17306339383085125433 := 0
def tw1734132221903651761 := 0
def tw17464646733308685712 := 0
def tw17479122622437461375 := 0
def tw1749818084091129050 := 0
def tw17564561433166725519 := 0
def tw17574440746035861531 := 0
def tw17726524949316529310 := 0
def tw17773328646096562398 := 0
def tw17810699239486165656 := 0
def tw17815247629775880492 := 0
def tw17854506026287029910 := 0
def tw17892490908670841471 := 0
def tw17951520462095368225 := 0
def tw18023851853693091276 := 0
def tw18154521846912969803 := 0
def tw18190164903560398958 := 0
def tw18210550623792106605 := 0
def tw18254066186158434040 := 0
def tw18284511809350680749 := 0
def tw18303021930975121409 := 0
def tw185455532616823839 := 0
def tw1856631704111563385 := 0
def tw1862531491432299508 := 0
def tw1884397215314293978 := 0
def tw1888074396922163448 := 0
def tw1888743511125203435 := 0
def tw1952330023656022165 := 0
def tw2009041060375394155 := 0
def tw2105013885529501842 := 0
def tw2148439350123035035 := 0
def tw2151062963860794841 := 0
def tw2160611534953484940 := 0
def tw2168942693049913945 := 0
def tw2271818535215899405 := 0
def tw2299387420324197310 := 0
def tw2341608738428783486 := 0
def tw2344064096118158951 := 0
def tw2368989024654238186 := 0
def tw2403569558331448894 := 0
def tw2403996037495686784 := 0
def tw2571372511639460147 := 0
def tw2616286574033330746 := 0
def tw2668502712081531520 := 0
def tw2693611093987666631 := 0
def tw2832268034179225922 := 0
def tw2840821366242259012 := 0
def tw2885668746025006273 := 0
def tw2907284291472326108 := 0
def tw2957596122995008899 := 0
def tw3027300897845685186 := 0
def tw3056980814210059540 := 0
def tw3064641024964615567 := 0
def tw3118095345827608277 := 0
def tw31728653599085803 := 0
def tw3193242931972868199 := 0
def tw3195656712920716477 := 0
def tw3249818585639847412 := 0
def tw3354458516815402996 := 0
def tw340402139420156446 := 0
def tw341594212617440111 := 0
def tw3475710799410562805 := 0
def tw350273338006580358 := 0
def tw3510199712680911462 := 0
def tw3541998558419698547 := 0
def tw3544398786600661130 := 0
def tw3586910066671466401 := 0
def tw365442042876856991 := 0
def tw3702860015309758877 := 0
def tw3716456984593091814 := 0
def tw3778381776600212745 := 0
def tw3789918341652218219 := 0
def tw3801379705262146870 := 0
def tw3835748667802389567 := 0
def tw3864760151501857197 := 0
def tw3958148370800148462 := 0
def tw3970085422835517409 := 0
def tw3993491438879763413 := 0
def tw4048380311786356257 := 0
def tw4049469530670844697 := 0
def tw4171167390754219295 := 0
def tw4185415212316434210 := 0
def tw4204661209680635154 := 0
def tw4210810079693416724 := 0
def tw4300757603050897235 := 0
def tw4301350358394458544 := 0
def tw4336765953250024041 := 0
def tw4355166779762148140 := 0
def tw4370090325624534318 := 0
def tw4460376172795414267 := 0
def tw4531291905453788479 := 0
def tw4552419584215732240 := 0
def tw4571477667703400481 := 0
def tw4622570774129650801 := 0
def tw476242211049430120 := 0
def tw4798468729179297665 := 0
def tw4879932996126512308 := 0
def tw4907994195874277540 := 0
def tw4919876832597339312 := 0
def tw4981602338701753703 := 0
def tw5037363291858850861 := 0
def tw5047342075922678597 := 0
def tw5059652125589815223 := 0
def tw5079333364137987224 := 0
def tw5147769519429402923 := 0
def tw5158830243026360208 := 0
def tw5197827004272397659 := 0
def tw5225757762670876789 := 0
def tw5228236941708095416 := 0
def tw5239592086678549882 := 0
def tw5291072533613413854 := 0
def tw5412438287516776390 := 0
def tw5422289422015366304 := 0
def tw5529903157476703986 := 0
def tw5533548050329804902 := 0
def tw555931994089435069 := 0
def tw5671199011188343096 := 0
def tw5716245720200481651 := 0
def tw5767825136762172029 := 0
def tw5776973389575060866 := 0
def tw584411339266556053 := 0
def tw590525351698439229 := 0
def tw5915610298572506963 := 0
def tw5918343033989033925 := 0
def tw593810323001794833 := 0
def tw5950302231404010809 := 0
def tw5950483279797920397 := 0
def tw5956119639182649459 := 0
def tw6030230407074168826 := 0
def tw6061625047310794646 := 0
def tw6091643057010651260 := 0
def tw6145265480003609720 := 0
def tw6176541796036774111 := 0
def tw620628674583618262 := 0
def tw6211123886770717603 := 0
def tw624783669350786061 := 0
def tw6248816935337737293 := 0
def tw6309379800417412431 := 0
def tw6373988491272631831 := 0
def tw6382669362774748247 := 0
def tw6476626415123953078 := 0
def tw6482047977037785015 := 0
def tw6487500687460588470 := 0
def tw6501435973068256161 := 0
def tw6508553250811624448 := 0
def tw6515271837426007583 := 0
def tw6551200836301343720 := 0
def tw6569352759113000892 := 0
def tw6628367416823154516 := 0
def tw6665888043678560999 := 0
def tw6677814814581094350 := 0
def tw6688232243882569518 := 0
def tw6748134813031866028 := 0
def tw6784288727959652712 := 0
def tw6811578512801553801 := 0
def tw6813583995878680687 := 0
def tw6814470460581796080 := 0
def tw6856706378575079650 := 0
def tw6928831310693713394 := 0
def tw6939700587120419674 := 0
def tw6953712094161980935 := 0
def tw6977941479267888564 := 0
def tw7039860270937523558 := 0
def tw7050967643867335967 := 0
def tw7062243838374122128 := 0
def tw7088693715972972025 := 0
def tw7099165987136855377 := 0
def tw7193410945544249632 := 0
def tw7240957350488482721 := 0
def tw724424902096593376 := 0
def tw7260768857278871053 := 0
def tw7272930524330043094 := 0
def tw7286640209926109843 := 0
def tw732892121484750508 := 0
def tw7379918295578905801 := 0
def tw7393383422084879113 := 0
def tw7406764601310968747 := 0
def tw743192153786554138 := 0
def tw7437384036974646289 := 0
def tw7441328793783754426 := 0
def tw7449780366166163398 := 0
def tw7541120300033444207 := 0
def tw7568241829983965236 := 0
def tw759025311196064872 := 0
def tw7650014117065459421 := 0
def tw7650658631538035166 := 0
def tw7724431046009099580 := 0
def tw7776729946551647122 := 0
def tw7785049143927033825 := 0
def tw7857722513966912585 := 0
def tw7894263979608688145 := 0
def tw7911467381857369796 := 0
def tw7950954667878634041 := 0
def tw8047548660062318905 := 0
def tw8066830994599333788 := 0
def tw8168234087236201454 := 0
def tw8171463811706366748 := 0
def tw8171538641775366335 := 0
def tw8182656137945369403 := 0
def tw8211327356876588272 := 0
def tw8275566912695477739 := 0
def tw8277553450989526380 := 0
def tw8310321691142376522 := 0
def tw8414284572787003812 := 0
def tw8432509707082631341 := 0
def tw8448197058889593862 := 0
def tw8468808397929521641 := 0
def tw8484351519143102972 := 0
def tw850840205318377007 := 0
def tw8543952178962916249 := 0
def tw8560417486815135466 := 0
def tw8582008592164586040 := 0
def tw8638497475183821542 := 0
def tw8671509690630135204 := 0
def tw8722053607243034404 := 0
def tw8814128439837900042 := 0
def tw883548112545167524 := 0
def tw8959535497316357123 := 0
def tw8981679943089546234 := 0
def tw9011846729844253800 := 0
def tw9121997999134975531 := 0
def tw9122889990103652677 := 0
def tw9268251409997859076 := 0
def tw9273957916288672550 := 0
def tw9278974338377823346 := 0
def tw9429706949112129029 := 0
def tw9443825079073942834 := 0
def tw9460899548955850738 := 0
def tw9470444957406608147 := 0
def tw9571039483760321973 := 0
def tw9588562518265408754 := 0
def tw960700799274890882 := 0
def tw9623692033140370097 := 0
def tw9628824684408203654 := 0
def tw9663623256819479318 := 0
def tw9673111248656485420 := 0
def tw9690308440494646453 := 0
def tw9728955027042283718 := 0
def tw9822598017996461749 := 0
def tw9829854846248542539 := 0
def tw9840394320721873371 := 0
def tw9852419962195163024 := 0
def tw9930850830001363466 := 0
end PySem.W.Fast
namespace HK
open PySem PySem.W PyProof.Rows
local macro_rules
  | `(tactic| o_head ($_:ident $k $a $e)) => `(tactic| o_head (HK.fHook $k $a $e (by decide +kernel)))
set_option maxHeartbeats 0 in
open_top hd for PySem.Challenge.rw_runrows_k11_lines
end HK
namespace L2
open PySem PySem.Spec PyProof.Rows
abbrev Key := Sum Int Str
def keyIs : Key → Value → Bool
  | .inl k, v => Value.isInt k v
  | .inr x, v => Value.isStrOf x v
def keyH (w : World) : Key → Int
  | .inl k => hashInt k
  | .inr x => hashStr w x
theorem keyIs_shape : ∀ {k : Key} {v : Value}, keyIs k v = true → (∃ i t, k = Sum.inl i ∧ v = Value.int i t) ∨ (∃ x t, k = Sum.inr x ∧ v = Value.str x t)
  | .inl i, v, h => by
    obtain ⟨t, e⟩ := Value.isInt_shape (k := i) (v := v) h
    exact .inl ⟨i, t, rfl, e⟩
  | .inr x, v, h => by
    obtain ⟨t, e⟩ := Value.isStrOf_shape (x := x) (v := v) h
    exact .inr ⟨x, t, rfl, e⟩
theorem key_ll (a b : Int) : decide ((Sum.inl a : Key) = Sum.inl b) = (a == b) := by
  by_cases e : a = b
  · subst e; simp
  · have h : ¬ (Sum.inl a : Key) = Sum.inl b := fun q => e (Sum.inl.inj q)
    rw [decide_eq_false h]
    exact (beq_eq_false_iff_ne.mpr e).symm
theorem key_rr (a b : Str) : decide ((Sum.inr a : Key) = Sum.inr b) = decide (a = b) := by
  by_cases e : a = b
  · subst e; simp
  · have h : ¬ (Sum.inr a : Key) = Sum.inr b := fun q => e (Sum.inr.inj q)
    rw [decide_eq_false h, decide_eq_false e]
theorem key_lr (a : Int) (b : Str) : decide ((Sum.inl a : Key) = Sum.inr b) = false := decide_eq_false (fun q => nomatch q)
theorem key_rl (a : Str) (b : Int) : decide ((Sum.inr a : Key) = Sum.inl b) = false := decide_eq_false (fun q => nomatch q)
def mixKind (prog : Program) (w : World) : PySem.KeyKind prog w Key where
  is := keyIs
  hash := keyH w
  inj := fun v a b ha hb => by
    rcases keyIs_shape ha with ⟨i, t, rfl, rfl⟩ | ⟨x, t, rfl, rfl⟩
    · rcases keyIs_shape hb with ⟨j, u, rfl, e⟩ | ⟨y, u, rfl, e⟩
      · injection e with e1 _; rw [e1]
      · exact nomatch e
    · rcases keyIs_shape hb with ⟨j, u, rfl, e⟩ | ⟨y, u, rfl, e⟩
      · exact nomatch e
      · injection e with e1 _; rw [e1]
  byValue := fun k v h => by
    rcases keyIs_shape h with ⟨i, t, rfl, rfl⟩ | ⟨x, t, rfl, rfl⟩ <;> rfl
  pyHash := fun hv h => by
    rcases keyIs_shape hv with ⟨i, t, rfl, rfl⟩ | ⟨x, t, rfl, rfl⟩
    · exact wpAny_pyHash_int h
    · exact wpAny_pyHash_str h
  eqBool := fun hu hv h => by
    rcases keyIs_shape hu with ⟨i, t, rfl, rfl⟩ | ⟨x, t, rfl, rfl⟩
    · rcases keyIs_shape hv with ⟨j, u, rfl, rfl⟩ | ⟨y, u, rfl, rfl⟩
      · rw [key_ll] at h; exact wpAny_eqBool_int h
      · rw [key_lr] at h; exact SeqAt.EqAt.int_str i t y u _ _ _ _ h
    · rcases keyIs_shape hv with ⟨j, u, rfl, rfl⟩ | ⟨y, u, rfl, rfl⟩
      · rw [key_rl] at h; exact SeqAt.EqAt.str_int x t j u _ _ _ _ h
      · rw [key_rr] at h; exact wpAny_eqBool_str h
  «strs» := fun k x t v h => by
    rcases keyIs_shape h with ⟨i, u, rfl, e⟩ | ⟨y, u, rfl, e⟩
    · exact nomatch e
    · injection e with e1 _
      subst e1
      cases v <;> rfl
end L2
namespace L2
open PySem PySem.Spec PyProof.Rows
inductive V where
  | non | bl (b : Bool) | int (i : Int) | str (x : Str) | byt (b : Array UInt8) | flt (b : UInt64) | ref (a : Addr) | ty (n : String)
  deriving DecidableEq
def RelV : V → Value → Prop
  | .non, u => u = Value.none
  | .bl b, u => u = Value.bool b
  | .int i, u => ∃ t, u = Value.int i t
  | .str x, u => ∃ t, u = Value.str x t
  | .byt b, u => ∃ t, u = Value.bytes b t
  | .flt b, u => ∃ t, u = Value.float b t
  | .ref a, u => u = Value.ref a
  | .ty n, u => u = Value.type n
abbrev Vals : List V → List Value → Prop := Paired RelV
theorem Vals.length {xs : List V} {us : List Value} (r : Vals xs us) : xs.length = us.length := Paired.length r
theorem Vals.get : ∀ {xs : List V} {us : List Value} {i : Nat} {x : V}, Vals xs us → xs[i]? = some x → ∃ u, us[i]? = some u ∧ RelV x u
  | _, _, _, _, .nil, e => by simp at e
  | _, _, 0, _, .cons r _, e => by simp at e; subst e; exact ⟨_, rfl, r⟩
  | _, _, i + 1, x, .cons _ t, e => by
    obtain ⟨u, h1, h2⟩ := Vals.get (i := i) (x := x) t (by simpa using e)
    exact ⟨u, by simpa using h1, h2⟩
theorem Vals.append : ∀ {xs ys : List V} {us ws : List Value}, Vals xs us → Vals ys ws → Vals (xs ++ ys) (us ++ ws)
  | _, _, _, _, .nil, s => s
  | _, _, _, _, .cons r t, s => .cons r (Vals.append t s)
theorem Vals.take : ∀ {xs : List V} {us : List Value} (n : Nat), Vals xs us → Vals (xs.take n) (us.take n)
  | _, _, 0, _ => .nil
  | _, _, _ + 1, .nil => .nil
  | _, _, n + 1, .cons r t => .cons r (Vals.take n t)
theorem Vals.drop : ∀ {xs : List V} {us : List Value} (n : Nat), Vals xs us → Vals (xs.drop n) (us.drop n)
  | _, _, 0, r => r
  | _, _, _ + 1, .nil => .nil
  | _, _, n + 1, .cons _ t => Vals.drop n t
def RelO : Option V → Option Value → Prop
  | some v, some u => RelV v u
  | none, none => True
  | _, _ => False
def KV {κ : Type} : List (κ × V) → List (κ × Value) → Prop := Paired fun (p : κ × V) (q : κ × Value) => p.1 = q.1 ∧ RelV p.2 q.2
def kV : Key → V
  | .inl i => .int i
  | .inr x => .str x
inductive HO where
  /-- a list -/
  | lst (xs : List V)
  /-- a tuple (never changes) -/
  | tup (xs : List V)
  /-- a dict whose keys are ints and texts; one whose keys are tuples of ints and texts (the empty one is both) -/
  | dK (kvs : List (Key × V)) | dT (kvs : List (List Key × V))
  /-- a set of ints: its members, its size -/
  | set (S : Int → Bool) (n : Nat)
  /-- an instance of the class at C, its dict at dx, its attributes -/
  | ins (C dx : Addr) (fs : List (Str × V))
  /-- the dict of the instance at x -/
  | own (x : Addr)
  /-- the dict of an exception -/
  | xd (fs : List (Str × V))
  /-- a bound method, f of x -/
  | met (f x : Addr)
  /-- a range object lo, lo + 1, .. below hi -/
  | rng (lo hi : Int)
  /-- a thing that is known to the object (the script; a dict while a loop walks it): read, never written while it is so -/
  | frz (o : Obj) (u : HO)
  /-- a code object's table -/
  | tbl (ps : Array Value)
  /-- any other thing, by what is true of its one object (a def of one's own: SetO a S n := HO.ext fun h => ..) -/
  | ext (φ : Heap → Prop)
abbrev Hp := Addr → Option HO
def upd (H : Hp) (a : Addr) (o : HO) : Hp := fun b => if b = a then some o else H b
theorem upd_same {H : Hp} {a : Addr} {o : HO} : upd H a o a = some o := by unfold upd; rw [if_pos rfl]
theorem upd_ne {H : Hp} {a b : Addr} {o : HO} (h : b ≠ a) : upd H a o b = H b := by unfold upd; rw [if_neg h]
theorem upd_upd {H : Hp} {a : Addr} {o u : HO} : upd (upd H a o) a u = upd H a u := by
  funext b; unfold upd; split <;> rfl
theorem ne_of_none {H : Hp} {a b : Addr} {o : HO} (h : H a = some o) (h' : H b = none) : a ≠ b := by
  intro e; subst e; rw [h] at h'; cases h'
section
variable (P : Program) (w : World)
def ObjOk (H : Hp) (h : Heap) (a : Addr) : HO → Prop
  | .lst xs => xs.length ≤ sizeLine ∧ ∃ (its : List Value) (n : Nat), Vals xs its ∧ h.get? a = some { cls := .type "list", data := .seq its.toArray n }
  | .tup xs => xs.length ≤ sizeLine ∧ ∃ its : List Value, Vals xs its ∧ IsTup h a its.toArray
  | .dK kvs => kvs.length ≤ sizeLine ∧ (a == sysModules) = false ∧ ∃ vs, KV kvs vs ∧ h.DictOf (mixKind P w) a vs
  | .dT kvs => kvs.length ≤ sizeLine ∧ (a == sysModules) = false ∧ ∃ xs : List (List Key × Addr × Value),
      Paired (fun (p : List Key × V) (q : List Key × Addr × Value) => p.1 = q.1 ∧ H q.2.1 = some (.tup (p.1.map kV)) ∧ RelV p.2 q.2.2) kvs xs ∧
      ∃ o es ep, h.get? a = some o ∧ o.ExactDict ∧ o.data = .dict es ep ∧ es.toList = xs.map (entryOfKey (tupleKind (mixKind P w))) ∧ (xs.map (·.1)).Nodup
  | .set S n => h.SetOf (intKind P w) a S n
  | .ins C dx fs => H dx = some (.own a) ∧ fs.length ≤ 1000 ∧ dx ≠ a ∧ h.get? a = some (PySem.W.instObj C dx) ∧
      ∃ mA, h.Ns1 dx mA ∧ (∀ f, RelO (fs.lookup f) (mA f)) ∧ PySem.Within mA (fs.map (·.1))
  | .own _ => ∃ o, h.get? a = some o
  | .xd fs => ∃ mA, h.Ns1 a mA ∧ ∀ f, RelO (fs.lookup f) (mA f)
  | .rng lo hi => ∃ t u v, h.get? a = some { cls := .type "range", data := .fields #[.int lo t, .int hi u, .int 1 v] }
  | .frz o u => h.get? a = some o ∧ ObjOk H h a u
  | .tbl ps => h.get? a = some { cls := .none, data := .fields ps }
  | .met f x => h.get? a = some (PySem.W.methodObj (.ref f) (.ref x))
  | .ext φ => φ h ∧ (∃ o, h.get? a = some o) ∧ ∀ h1 h2 : Heap, φ h1 → (∀ o, h1.get? a = some o → h2.get? a = some o) → φ h2
def HOk (H : Hp) (h : Heap) : Prop := ∀ a o, H a = some o → ObjOk P w H h a o
end
section
variable {P : Program} {w : World} {H H' : Hp} {h h' : Heap} {a : Addr} {o : HO}
theorem ObjOk.lt (x : ObjOk P w H h a o) : a < h.objs.size := by
  cases o with
  | lst xs => obtain ⟨_, _, _, _, e⟩ := x; exact Heap.lt_size e
  | tup xs => obtain ⟨_, _, _, p⟩ := x; exact p.lt
  | dK kvs => obtain ⟨_, _, _, _, o, _, _, e, _⟩ := x; exact Heap.lt_size e
  | dT kvs => obtain ⟨_, _, _, _, o, _, _, e, _⟩ := x; exact Heap.lt_size e
  | set S n => obtain ⟨o, _, _, _, e, _⟩ := x; exact Heap.lt_size e
  | ins C dx fs => obtain ⟨_, _, _, e, _⟩ := x; exact Heap.lt_size e
  | own y => obtain ⟨_, e⟩ := x; exact Heap.lt_size e
  | xd fs => obtain ⟨_, ⟨_, _, _, e, _⟩, _⟩ := x; exact Heap.lt_size e
  | rng lo hi => obtain ⟨_, _, _, e⟩ := x; exact Heap.lt_size e
  | frz ob u => obtain ⟨e, _⟩ := x; exact Heap.lt_size e
  | tbl ps => exact Heap.lt_size (show h.get? a = some _ from x)
  | met f y => exact Heap.lt_size (show h.get? a = some _ from x)
  | ext φ => obtain ⟨_, ⟨_, e⟩, _⟩ := x; exact Heap.lt_size e
theorem Paired.mapP {α β : Type} {F G : α → β → Prop} : ∀ {l₁ : List α} {l₂ : List β}, Paired F l₁ l₂ → (∀ a b, F a b → G a b) → Paired G l₁ l₂
  | _, _, .nil, _ => .nil
  | _, _, .cons r t, f => .cons (f _ _ r) (Paired.mapP t f)
theorem ObjOk.stay (x : ObjOk P w H h a o) (k : ∀ b u, (b = a ∨ H b = some (.own a)) → h.get? b = some u → h'.get? b = some u)
    (ho : ∀ b, H b = some (.own a) → H' b = some (.own a)) (ht : ∀ b xs, H b = some (.tup xs) → H' b = some (.tup xs)) : ObjOk P w H' h' a o := by
  induction o with
  | lst xs => obtain ⟨z, its, n, r, e⟩ := x; exact ⟨z, its, n, r, k _ _ (.inl rfl) e⟩
  | tup xs => obtain ⟨z, its, r, ob, e, c⟩ := x; exact ⟨z, its, r, ob, k _ _ (.inl rfl) e, c⟩
  | dK kvs => obtain ⟨z, y, vs, r, ob, es, ep, e, c⟩ := x; exact ⟨z, y, vs, r, ob, es, ep, k _ _ (.inl rfl) e, c⟩
  | dT kvs =>
    obtain ⟨z, y, xs, r, ob, es, ep, e, c⟩ := x
    exact ⟨z, y, xs, Paired.mapP r fun p q z => ⟨z.1, ht _ _ z.2.1, z.2.2⟩, ob, es, ep, k _ _ (.inl rfl) e, c⟩
  | set S n => obtain ⟨ob, es, ep, t, e, c⟩ := x; exact ⟨ob, es, ep, t, k _ _ (.inl rfl) e, c⟩
  | ins C dx fs =>
    obtain ⟨d, z, ne, e, mA, ⟨od, es, ep, e2, c⟩, r⟩ := x
    exact ⟨ho _ d, z, ne, k _ _ (.inl rfl) e, mA, ⟨od, es, ep, k _ _ (.inr d) e2, c⟩, r⟩
  | own y => obtain ⟨ob, e⟩ := x; exact ⟨ob, k _ _ (.inl rfl) e⟩
  | xd fs => obtain ⟨mA, ⟨od, es, ep, e, c⟩, r⟩ := x; exact ⟨mA, ⟨od, es, ep, k _ _ (.inl rfl) e, c⟩, r⟩
  | rng lo hi => obtain ⟨t, u, v, e⟩ := x; exact ⟨t, u, v, k _ _ (.inl rfl) e⟩
  | frz ob u ih => obtain ⟨e, q⟩ := x; exact ⟨k _ _ (.inl rfl) e, ih q⟩
  | tbl ps =>
    have e : h.get? a = some { cls := .none, data := .fields ps } := x
    show h'.get? a = some { cls := .none, data := .fields ps }
    exact k a _ (.inl rfl) e
  | met f y =>
    have e : h.get? a = some (PySem.W.methodObj (.ref f) (.ref y)) := x
    show h'.get? a = some (PySem.W.methodObj (.ref f) (.ref y))
    exact k a _ (.inl rfl) e
  | ext φ => obtain ⟨p, ⟨o, e⟩, st⟩ := x; exact ⟨st _ _ p fun o q => k _ _ (.inl rfl) q, ⟨o, k _ _ (.inl rfl) e⟩, st⟩
theorem HOk.lt (x : HOk P w H h) (e : H a = some o) : a < h.objs.size := (x a o e).lt
theorem HOk.fresh (x : HOk P w H h) (e : h.objs.size ≤ a) : H a = none := by
  cases q : H a with
  | none => rfl
  | some u => exact absurd (Nat.lt_of_lt_of_le (x.lt q) e) (Nat.lt_irrefl _)
theorem HOk.kept (x : HOk P w H h) (k : ∀ b u, h.get? b = some u → h'.get? b = some u) : HOk P w H h' := fun a o e =>
  (x a o e).stay (fun b u _ q => k b u q) (fun _ q => q) fun _ _ q => q
theorem HOk.laid (x : HOk P w H h) (k : ∀ b u, h.get? b = some u → h'.get? b = some u) (hp : h.objs.size ≤ a) (new : ObjOk P w (upd H a o) h' a o) : HOk P w (upd H a o) h' := fun b u e => by
  have hn := x.fresh hp
  by_cases hb : b = a
  · subst hb; rw [upd_same] at e; cases e; exact new
  · rw [upd_ne hb] at e
    exact (x b u e).stay (fun c v _ q => k c v q) (fun c q => by rw [upd_ne (ne_of_none q hn)]; exact q) fun c xs q => by rw [upd_ne (ne_of_none q hn)]; exact q
end
def Rd (H : Hp) (a : Addr) (u : HO) : Prop := H a = some u ∨ ∃ o, H a = some (.frz o u)
theorem Rd.of {H : Hp} {a : Addr} {u : HO} (h : H a = some u) : Rd H a u := .inl h
theorem Rd.ok {P : Program} {w : World} {H : Hp} {h : Heap} {a : Addr} {u : HO} (r : Rd H a u) (x : HOk P w H h) : ObjOk P w H h a u := by
  rcases r with r | ⟨o, r⟩
  · exact x a u r
  · obtain ⟨_, q⟩ := x a _ r
    exact q
def Mut : Option HO → Prop
  | some (.lst _) => True
  | some (.dK _) => True
  | some (.dT _) => True
  | some (.set _ _) => True
  | some (.ins _ _ _) => True
  | some (.ext _) => True
  | _ => False
section
variable {P : Program} {w : World} {H : Hp} {h h' : Heap} {x e : Addr} {o' : HO}
theorem HOk.write (ok : HOk P w H h) (mu : Mut (H x)) (he : e = x ∨ H e = some (.own x)) (k : ∀ b u, b ≠ e → h.get? b = some u → h'.get? b = some u) (heo : ∃ u, h'.get? e = some u)
    (new : ObjOk P w (upd H x o') h' x o') : HOk P w (upd H x o') h' := fun b u q => by
  have nown : ∀ c y, H c = some (.own y) → c ≠ x := fun c y r z => by subst z; rw [r] at mu; exact mu
  have ntup : ∀ c xs, H c = some (.tup xs) → c ≠ x := fun c xs r z => by subst z; rw [r] at mu; exact mu
  by_cases hb : b = x
  · subst hb; rw [upd_same] at q; cases q; exact new
  · rw [upd_ne hb] at q
    by_cases hbe : b = e
    · have q' : H b = some (.own x) := by
        rcases he with z | z
        · exact absurd (hbe.trans z) hb
        · rw [hbe]; exact z
      rw [q] at q'; cases q'
      obtain ⟨v, hv⟩ := heo
      exact ⟨v, by rw [hbe]; exact hv⟩
    · refine (ok b u q).stay (fun c v hc r => k c v ?_ r) (fun c r => by rw [upd_ne (nown c b r)]; exact r) fun c xs r => by rw [upd_ne (ntup c xs r)]; exact r
      rcases hc with rfl | hc
      · exact hbe
      · rintro rfl
        rcases he with z | z
        · exact nown c b hc z
        · rw [hc] at z; cases z; exact hb rfl
end
structure Un (fs ex : List Addr) (H H' : Hp) (h h' : Heap) : Prop where
  keep : ∀ b o, h.get? b = some o → H b = none → b ∉ fs → b ∉ ex → h'.get? b = some o
  slot : ∀ b o, h.get? b = some o → H b = none → b ∈ fs → b ∉ ex → ∃ sl, h'.get? b = some { o with slots := sl }
  free : ∀ b o, h.get? b = some o → H b = none → b ∉ ex → H' b = none
  there : ∀ b o, h.get? b = some o → b ∉ ex → ∃ o', h'.get? b = some o'
  tups : ∀ b xs, H b = some (.tup xs) → H' b = some (.tup xs)
  frzs : ∀ b o u, H b = some (.frz o u) → H' b = some (.frz o u)
  tbls : ∀ b ps, H b = some (.tbl ps) → ∃ more, H' b = some (.tbl (ps ++ more))
section
variable {fs fs' ex ex' : List Addr} {H H1 H2 : Hp} {h h1 h2 h' : Heap} {a x e : Addr} {o : HO}
theorem Un.any (u : Un fs ex H H1 h h1) {b : Addr} {ob : Obj} (q : h.get? b = some ob) (n : H b = none) (hx : b ∉ ex) : ∃ sl, h1.get? b = some { ob with slots := sl } := by
  by_cases hb : b ∈ fs
  · exact u.slot b ob q n hb hx
  · exact ⟨ob.slots, u.keep b ob q n hb hx⟩
theorem Un.trans (a : Un fs ex H H1 h h1) (b : Un fs ex H1 H2 h1 h2) : Un fs ex H H2 h h2 where
  keep := fun c ob q n hc hx => b.keep c ob (a.keep c ob q n hc hx) (a.free c ob q n hx) hc hx
  slot := fun c ob q n hc hx => by
    obtain ⟨sl, e1⟩ := a.slot c ob q n hc hx
    obtain ⟨sl', e2⟩ := b.slot c _ e1 (a.free c ob q n hx) hc hx
    exact ⟨sl', e2⟩
  free := fun c ob q n hx => by
    obtain ⟨o', e1⟩ := a.there c ob q hx
    exact b.free c o' e1 (a.free c ob q n hx) hx
  there := fun c ob q hx => by
    obtain ⟨o', e1⟩ := a.there c ob q hx
    exact b.there c o' e1 hx
  tups := fun c xs q => b.tups c xs (a.tups c xs q)
  frzs := fun c ob xs q => b.frzs c ob xs (a.frzs c ob xs q)
  tbls := fun c ps q => by
    obtain ⟨m1, e1⟩ := a.tbls c ps q
    obtain ⟨m2, e2⟩ := b.tbls c _ e1
    exact ⟨m1 ++ m2, by rw [e2, Array.append_assoc]⟩
theorem Un.kept (k : ∀ b u, h.get? b = some u → h'.get? b = some u) : Un fs ex H H h h' :=
  ⟨fun b ob q _ _ _ => k b ob q, fun b ob q _ _ _ => ⟨ob.slots, k b ob q⟩, fun _ _ _ n _ => n, fun b ob q _ => ⟨ob, k b ob q⟩, fun _ _ q => q, fun _ _ _ q => q, fun _ ps q => ⟨#[], by rw [q]; simp⟩⟩
theorem Un.refl : Un fs ex H H h h := Un.kept fun _ _ q => q
theorem Un.laid (k : ∀ b u, h.get? b = some u → h'.get? b = some u) (hp : h.objs.size ≤ a) (hn : H a = none) : Un fs ex H (upd H a o) h h' where
  keep := fun b u q _ _ _ => k b u q
  slot := fun b u q _ _ _ => ⟨u.slots, k b u q⟩
  free := fun b u q n _ => by rw [upd_ne (Nat.ne_of_lt (Nat.lt_of_lt_of_le (Heap.lt_size q) hp))]; exact n
  there := fun b u q _ => ⟨u, k b u q⟩
  tups := fun b xs q => by rw [upd_ne (ne_of_none q hn)]; exact q
  frzs := fun b u xs q => by rw [upd_ne (ne_of_none q hn)]; exact q
  tbls := fun b ps q => ⟨#[], by rw [upd_ne (ne_of_none q hn), q]; simp⟩
theorem Un.write (mu : Mut (H x)) (he : e = x ∨ H e = some (.own x)) (k : ∀ b u, b ≠ e → h.get? b = some u → h'.get? b = some u) (heo : ∃ u, h'.get? e = some u) : Un fs ex H (upd H x o) h h' := by
  have hx : ∀ b, H b = none → b ≠ x := fun b n z => by subst z; rw [n] at mu; exact mu
  have hb : ∀ b, H b = none → b ≠ e := fun b n z => by
    subst z
    rcases he with r | r
    · exact hx b n r
    · rw [n] at r; cases r
  have hm : ∀ b u, H b = some u → ¬ Mut (some u) → b ≠ x := fun b u q nm z => by subst z; rw [q] at mu; exact nm mu
  refine ⟨fun b u q n _ _ => k b u (hb b n) q, fun b u q n _ _ => ⟨u.slots, k b u (hb b n) q⟩, fun b u q n _ => by rw [upd_ne (hx b n)]; exact n, fun b u q _ => ?_,
    fun b xs q => by rw [upd_ne (hm b _ q fun z => z)]; exact q, fun b u xs q => by rw [upd_ne (hm b _ q fun z => z)]; exact q, fun b ps q => ⟨#[], by rw [upd_ne (hm b _ q fun z => z), q]; simp⟩⟩
  by_cases hbe : b = e
  · subst hbe; exact heo
  · exact ⟨u, k b u hbe q⟩
end
def trk (h : Heap) (H : Hp) : List Addr := (List.range h.objs.size).filter fun a => (H a).isSome
def hidT (h : Heap) (H : Hp) : Heap := PySem.W.hideAll h (trk h H)
theorem hidT_size (h : Heap) (H : Hp) : (hidT h H).objs.size = h.objs.size := PySem.W.hideAll_size _ _
theorem hidT_get {h : Heap} {H : Hp} {b : Addr} {o : Obj} (e : h.get? b = some o) (n : H b = none) : (hidT h H).get? b = some o :=
  PySem.W.hideAll_get _ e fun hm => by
    have q : (H b).isSome = true := (List.mem_filter.mp hm).2
    rw [n] at q; simp at q
theorem of_hidT {h : Heap} {H : Hp} {b : Addr} {o : Obj} (e : (hidT h H).get? b = some o) : h.get? b = some o ∧ H b = none := by
  have e' : h.get? b = some o := PySem.W.of_hideAll (trk h H) e
  refine ⟨e', ?_⟩
  cases q : H b with
  | none => rfl
  | some x =>
    have hm : b ∈ trk h H := List.mem_filter.mpr ⟨List.mem_range.mpr (Heap.lt_size e'), by simp [q]⟩
    have z : (hidT h H).get? b = none := PySem.W.hideAll_none (trk h H) hm
    rw [z] at e; cases e
end L2
namespace L2
open PySem PySem.Spec PyProof.Rows
structure Mod (K : PySem.W.Frag) (mg : Str → Option Value) (base : Heap) : Prop where
  kin : K.In base
  glob : base.Ns mainGlobals mg
  blt : ∃ mb, base.Ns builtinsNs mb ∧ ∀ x : Str, x ≠ "__name__" → mb x = bootBuiltins x
  nolimit : base.NoLimit
structure Cx where
  prog : Program
  w : World
  K : PySem.W.Frag
  mg : Str → Option Value
  base : Heap
  A : Around
  N : List Str
  s₀ : Shared
  H₀ : Hp
  env : Env
  outer : List Env
  stack : List Env
  ex : List Addr
  fn : Str → Bool
  calm : Bool
  pn : List (Addr × Obj)
  xe : Value → Shared → Prop
def frs (l : List Env) : List Addr := l.filterMap (·.frame)
abbrev Cx.fs (X : Cx) : List Addr := frs X.outer
def Vis (sc : Scope) (x : Str) : Prop := sc.names.lookup x = some .local ∨ sc.names.lookup x = some .cell ∨ sc.names.lookup x = some .free
def Loc (sc : Scope) (x : Str) : Prop := sc.names.lookup x = some .local ∨ sc.names.lookup x = some .cell
def Look (env : Env) (h : Heap) (m : Str → Option Value) (x : Str) (u : Value) : Prop :=
  (env.kindOf x = some .local ∧ m x = some u) ∨ ((env.kindOf x = some .cell ∨ env.kindOf x = some .free) ∧ ∃ c, env.cells.lookup x = some c ∧ h.IsCell c (some u))
structure Cx.Ok (X : Cx) : Prop where
  mod : Mod X.K X.mg X.base
  kind : X.env.scope.kind = .function
  glob : X.env.globals = mainGlobals
  blt : X.env.builtins = builtinsNs
  above : X.s₀.heap.objs.size ≤ X.env.locals
  inj : ∀ x y c, X.env.cells.lookup x = some c → X.env.cells.lookup y = some c → x = y
  has : ∀ x, (X.env.kindOf x = some .cell ∨ X.env.kindOf x = some .free) → ∃ c, X.env.cells.lookup x = some c
  cab : ∀ x c, X.fn x = true → X.env.cells.lookup x = some c → X.s₀.heap.objs.size ≤ c
  hd : X.calm = true → X.A.handled = none
  frames : X.A.frames = some X.stack
  stk : X.stack = X.outer ∨ (X.stack = X.env :: X.outer ∧ X.env.frame = some X.env.locals)
  exf : ∀ b ∈ X.ex, b ≠ X.env.locals ∧ ∀ x c, X.env.cells.lookup x = some c → c ≠ b
  bs : ∀ b o, X.base.get? b = some o → X.s₀.heap.get? b = some o ∧ X.H₀ b = none
  bsz : X.base.objs.size ≤ X.s₀.heap.objs.size
  noex : ∀ b o, X.base.get? b = some o → b ∉ X.ex
  exfs : ∀ b ∈ X.ex, b ∉ X.fs
  funs : X.s₀.heap.FunFrames X.base X.outer
  frf : ∀ b ∈ X.fs, X.H₀ b = none
structure Inv (X : Cx) (pins : List (Addr × Obj)) (σ : List (Option V)) (H : Hp) (s : Shared) : Prop where
  ok : X.Ok
  os : s.os = X.s₀.os
  bare : AllBare s.gens
  base : Un X.fs X.ex X.H₀ H X.s₀.heap s.heap
  loc : ∃ m, s.heap.Ns X.env.locals m ∧ ∀ (i : Nat) (x : Str) (v : V), X.N[i]? = some x → σ[i]? = some (some v) → Vis X.env.scope x → ∃ u, RelV v u ∧ Look X.env s.heap m x u
  cell : ∀ x c, X.env.cells.lookup x = some c → ∃ v, s.heap.IsCell c v
  free : H X.env.locals = none
  freeC : ∀ x c, X.env.cells.lookup x = some c → H c = none
  pin : ∀ p ∈ X.pn ++ pins, s.heap.get? p.1 = some p.2 ∧ H p.1 = none ∧ p.1 ≠ X.env.locals ∧ p.1 ∉ X.fs ∧ ∀ v, p.2.data ≠ .cell v
  hok : HOk X.prog X.w H s.heap
  len : σ.length = X.N.length
section
variable {X : Cx} {pins : List (Addr × Obj)} {σ : List (Option V)} {H H' : Hp} {s : Shared} {h' : Heap}
theorem Cx.Ok.nofr (ok : X.Ok) {b : Addr} {o : Obj} (e : X.base.get? b = some o) : b ∉ X.fs := fun hb => by
  have := (ok.funs.mem hb).1
  rw [e] at this; cases this
theorem Inv.bs (I : Inv X pins σ H s) : ∀ b o, X.base.get? b = some o → s.heap.get? b = some o ∧ H b = none := fun b o e =>
  ⟨I.base.keep b o (I.ok.bs b o e).1 (I.ok.bs b o e).2 (I.ok.nofr e) (I.ok.noex b o e), I.base.free b o (I.ok.bs b o e).1 (I.ok.bs b o e).2 (I.ok.noex b o e)⟩
theorem Inv.bk (I : Inv X pins σ H s) : ∀ b o, X.base.get? b = some o → s.heap.get? b = some o := fun b o e => (I.bs b o e).1
theorem Inv.mod (I : Inv X pins σ H s) : Mod X.K X.mg X.base := I.ok.mod
theorem Inv.kIn (I : Inv X pins σ H s) : X.K.In s.heap := I.ok.mod.kin.keeps I.bk
theorem Inv.lt (I : Inv X pins σ H s) : X.env.locals < s.heap.objs.size := let ⟨_, hn, _⟩ := I.loc; hn.lt
theorem Inv.sz (I : Inv X pins σ H s) : X.s₀.heap.objs.size ≤ s.heap.objs.size := Nat.le_trans I.ok.above (Nat.le_of_lt I.lt)
theorem Inv.nofs (I : Inv X pins σ H s) {a : Addr} (h : s.heap.objs.size ≤ a) : a ∉ X.fs := fun hb => by
  obtain ⟨_, o, ho, _⟩ := I.ok.funs.mem hb
  exact absurd (Nat.lt_of_lt_of_le (Heap.lt_size ho) (Nat.le_trans I.sz h)) (Nat.lt_irrefl _)
theorem Inv.cne (I : Inv X pins σ H s) : ∀ x c, X.env.cells.lookup x = some c → c ≠ X.env.locals := fun x c e z => by
  obtain ⟨v, o, ho, hd⟩ := I.cell x c e
  obtain ⟨m, ⟨o', es, ep, ho', hd', _⟩, _⟩ := I.loc
  rw [z, ho'] at ho; cases ho; rw [hd'] at hd; cases hd
theorem Inv.funs (I : Inv X pins σ H s) : s.heap.FunFrames X.base X.outer := by
  have all : ∀ (l : List Env), (∀ b ∈ frs l, b ∈ X.fs) → X.s₀.heap.FunFrames X.base l → s.heap.FunFrames X.base l := by
    intro l
    induction l with
    | nil => intro _ _; trivial
    | cons env r ih =>
      intro hs hl
      obtain ⟨hk, ⟨L, o, hf, hn, ho, hd⟩, hr⟩ := hl
      have hL : L ∈ X.fs := hs L (by unfold frs; rw [List.filterMap_cons, hf]; exact List.mem_cons_self)
      obtain ⟨sl, e⟩ := I.base.slot L o ho (I.ok.frf L hL) hL fun z => I.ok.exfs L z hL
      exact ⟨hk, ⟨L, _, hf, hn, e, hd⟩, ih (fun b hb => hs b (by unfold frs; rw [List.filterMap_cons, hf]; exact List.mem_cons_of_mem _ hb)) hr⟩
  exact all X.outer (fun _ hb => hb) I.ok.funs
theorem Inv.stack (I : Inv X pins σ H s) : s.heap.FunFrames X.base X.stack := by
  rcases I.ok.stk with e | ⟨e, hf⟩
  · rw [e]; exact I.funs
  · rw [e]
    obtain ⟨m, hn, _⟩ := I.loc
    refine .cons (by rw [I.ok.kind]; decide) hf hn ?_ I.funs
    exact Heap.get?_none_of_le (Nat.le_trans I.ok.bsz I.ok.above)
theorem Inv.stkSub (I : Inv X pins σ H s) : ∀ b ∈ frs X.stack, b ∈ X.env.locals :: X.fs := fun b hb => by
  rcases I.ok.stk with e | ⟨e, hf⟩
  · rw [e] at hb; exact List.mem_cons_of_mem _ hb
  · rw [e] at hb
    unfold frs at hb
    rw [List.filterMap_cons, hf] at hb
    exact hb
theorem Inv.stkFree (I : Inv X pins σ H s) : ∀ b ∈ frs X.stack, H b = none := fun b hb => by
  rcases List.mem_cons.mp (I.stkSub b hb) with e | hb
  · rw [e]; exact I.free
  · obtain ⟨_, o, ho, _⟩ := I.ok.funs.mem hb
    exact I.base.free b o ho (I.ok.frf b hb) fun z => I.ok.exfs b z hb
theorem Inv.step {g' : Array GenState} {t' : Nat} {d' : Drawn} {ch : List Addr} (I : Inv X pins σ H s)
    (hch : ∀ b ∈ ch, (b ∈ X.ex ∨ X.s₀.heap.objs.size ≤ b) ∧ b ≠ X.env.locals ∧ (∀ x c, X.env.cells.lookup x = some c → c ≠ b) ∧ ∀ p ∈ X.pn ++ pins, p.1 ≠ b)
    (keep : ∀ b o, b ≠ X.env.locals → b ∉ X.fs → b ∉ ch → s.heap.get? b = some o → H b = none → h'.get? b = some o)
    (slot : ∀ b o, b ≠ X.env.locals → b ∈ X.fs → b ∉ ch → s.heap.get? b = some o → H b = none → ∃ sl, h'.get? b = some { o with slots := sl }) (free : ∀ b o, b ∉ ch → s.heap.get? b = some o → H b = none → H' b = none)
    (there : ∀ b o, b ∉ ch → s.heap.get? b = some o → ∃ o', h'.get? b = some o')
    (tups : ∀ b xs, H b = some (.tup xs) → H' b = some (.tup xs)) (frzs : ∀ b o u, H b = some (.frz o u) → H' b = some (.frz o u)) (tbls : ∀ b ps, H b = some (.tbl ps) → ∃ more, H' b = some (.tbl (ps ++ more)))
    (ns : ∀ m, s.heap.Ns X.env.locals m → h'.Ns X.env.locals m) (hok : HOk X.prog X.w H' h') (hg : AllBare g') :
    Inv X pins σ H' { s with heap := h', gens := g', drawn := d', toks := t' } := by
  have neL : ∀ b o, X.s₀.heap.get? b = some o → b ≠ X.env.locals := fun b o e => Nat.ne_of_lt (Nat.lt_of_lt_of_le (Heap.lt_size e) I.ok.above)
  have neC : ∀ b o, X.s₀.heap.get? b = some o → b ∉ X.ex → b ∉ ch := fun b o e hx hb => by
    rcases (hch b hb).1 with z | z
    · exact hx z
    · exact absurd (Nat.lt_of_lt_of_le (Heap.lt_size e) z) (Nat.lt_irrefl _)
  have cellK : ∀ x c, X.env.cells.lookup x = some c → ∀ v, s.heap.IsCell c v → h'.IsCell c v := fun x c e v ⟨o, ho, hd⟩ => by
    have nch : c ∉ ch := fun z => (hch c z).2.2.1 x c e rfl
    by_cases hc : c ∈ X.fs
    · obtain ⟨sl, q⟩ := slot c o (I.cne x c e) hc nch ho (I.freeC x c e)
      exact ⟨_, q, hd⟩
    · exact ⟨o, keep c o (I.cne x c e) hc nch ho (I.freeC x c e), hd⟩
  refine ⟨I.ok, I.os, hg, ⟨fun b o e n hb hx => ?_, fun b o e n hb hx => ?_, fun b o e n hx => ?_, fun b o e hx => ?_, fun b xs e => tups b xs (I.base.tups b xs e), fun b o xs e => frzs b o xs (I.base.frzs b o xs e), fun b ps e => ?_⟩, ?_, fun x c e => ?_, ?_, fun x c e => ?_, fun p hp => ?_, hok, I.len⟩
  · exact keep b o (neL b o e) hb (neC b o e hx) (I.base.keep b o e n hb hx) (I.base.free b o e n hx)
  · obtain ⟨sl, e1⟩ := I.base.slot b o e n hb hx
    obtain ⟨sl', e2⟩ := slot b _ (neL b o e) hb (neC b o e hx) e1 (I.base.free b o e n hx)
    exact ⟨sl', e2⟩
  · obtain ⟨o', e1⟩ := I.base.there b o e hx
    exact free b o' (neC b o e hx) e1 (I.base.free b o e n hx)
  · obtain ⟨o', e1⟩ := I.base.there b o e hx
    exact there b o' (neC b o e hx) e1
  · obtain ⟨m1, e1⟩ := I.base.tbls b ps e
    obtain ⟨m2, e2⟩ := tbls b _ e1
    exact ⟨m1 ++ m2, by rw [e2, Array.append_assoc]⟩
  · obtain ⟨m, hn, hl⟩ := I.loc
    refine ⟨m, ns m hn, fun i x v e1 e2 e3 => ?_⟩
    obtain ⟨u, r, l⟩ := hl i x v e1 e2 e3
    refine ⟨u, r, ?_⟩
    rcases l with l | ⟨k, c, e, z⟩
    · exact .inl l
    · exact .inr ⟨k, c, e, cellK x c e _ z⟩
  · obtain ⟨v, z⟩ := I.cell x c e
    exact ⟨v, cellK x c e v z⟩
  · obtain ⟨m, ⟨o, _, _, ho, _⟩, _⟩ := I.loc
    exact free _ o (fun z => (hch _ z).2.1 rfl) ho I.free
  · obtain ⟨v, o, ho, hd⟩ := I.cell x c e
    exact free c o (fun z => (hch c z).2.2.1 x c e rfl) ho (I.freeC x c e)
  · obtain ⟨e, n, ne, nf, d⟩ := I.pin p hp
    have nch : p.1 ∉ ch := fun z => (hch p.1 z).2.2.2 p hp rfl
    exact ⟨keep p.1 p.2 ne nf nch e n, free p.1 p.2 nch e n, ne, nf, d⟩
theorem Inv.un {t' : Nat} (I : Inv X pins σ H s) (u : Un X.fs [] H H' s.heap h') (hok : HOk X.prog X.w H' h') : Inv X pins σ H' { s with heap := h', toks := t' } := by
  obtain ⟨m, ⟨o, es, ep, ho, r⟩, _⟩ := id I.loc
  obtain ⟨sl, hL⟩ := u.any ho I.free (by simp)
  exact I.step (g' := s.gens) (d' := s.drawn) (ch := []) (fun _ z => nomatch z) (fun b o _ hb _ e n => u.keep b o e n hb (by simp)) (fun b o _ hb _ e n => u.slot b o e n hb (by simp)) (fun b o _ e n => u.free b o e n (by simp)) (fun b o _ e => u.there b o e (by simp)) u.tups u.frzs u.tbls (fun m' hm => by
    obtain ⟨o', es', ep', ho', r'⟩ := hm
    rw [ho] at ho'; cases ho'
    exact ⟨_, es', ep', hL, r'⟩) hok I.bare
theorem Inv.call {g' : Array GenState} {t' : Nat} {d' : Drawn} {ch : List Addr} (I : Inv X pins σ H s) (u : Un (frs X.stack) ch H H' s.heap h') (hok : HOk X.prog X.w H' h') (hg : AllBare g')
    (hch : ∀ b ∈ ch, (b ∈ X.ex ∨ X.s₀.heap.objs.size ≤ b) ∧ b ≠ X.env.locals ∧ (∀ x c, X.env.cells.lookup x = some c → c ≠ b) ∧ ∀ p ∈ X.pn ++ pins, p.1 ≠ b) :
    Inv X pins σ H' { s with heap := h', gens := g', drawn := d', toks := t' } := by
  obtain ⟨m, ⟨o, es, ep, ho, r⟩, _⟩ := id I.loc
  obtain ⟨sl, hL⟩ := u.any ho I.free fun z => (hch _ z).2.1 rfl
  exact I.step (ch := ch) hch (fun b o hL hb hc e n => u.keep b o e n (fun z => (List.mem_cons.mp (I.stkSub b z)).elim hL hb) hc) (fun b o _ _ hc e n => u.any e n hc) (fun b o hc e n => u.free b o e n hc) (fun b o hc e => u.there b o e hc) u.tups u.frzs u.tbls (fun m' hm => by
    obtain ⟨o', es', ep', ho', r'⟩ := hm
    rw [ho] at ho'; cases ho'
    exact ⟨_, es', ep', hL, r'⟩) hok hg
theorem Inv.turned {t' : Nat} {it : Addr} (I : Inv X pins σ H s) (k : ∀ b o, b ≠ it → s.heap.get? b = some o → h'.get? b = some o) (hn : H it = none) (hL : it ≠ X.env.locals)
    (h1 : it ∈ X.ex ∨ X.s₀.heap.objs.size ≤ it) (h2 : ∀ x c, X.env.cells.lookup x = some c → c ≠ it) (h3 : ∀ p ∈ X.pn ++ pins, p.1 ≠ it) : Inv X pins σ H { s with heap := h', toks := t' } := by
  have nit : ∀ b u, H b = some u → b ≠ it := fun b u e z => by rw [z, hn] at e; cases e
  refine I.step (g' := s.gens) (d' := s.drawn) (ch := [it]) (fun b hb => ?_) (fun b o _ _ hc e _ => k b o (fun z => hc (by simp [z])) e) (fun b o _ _ hc e _ => ⟨o.slots, k b o (fun z => hc (by simp [z])) e⟩) (fun _ _ _ _ n => n)
    (fun b o hc e => ⟨o, k b o (fun z => hc (by simp [z])) e⟩) (fun _ _ e => e) (fun _ _ _ e => e) (fun b ps e => ⟨#[], by rw [e]; simp⟩) (fun m hm => ?_) (fun b u e => ?_) I.bare
  · have e : b = it := by simpa using hb
    subst e
    exact ⟨h1, hL, h2, h3⟩
  · obtain ⟨o, es, ep, ho, r⟩ := hm
    exact ⟨o, es, ep, k _ o (Ne.symm hL) ho, r⟩
  · refine (I.hok b u e).stay (fun c v hc q => k c v ?_ q) (fun _ q => q) fun _ _ q => q
    rcases hc with z | z
    · rw [z]; exact nit b u e
    · exact nit c _ z
theorem Inv.tok (I : Inv X pins σ H s) (t : Nat) : Inv X pins σ H { s with toks := t } := I.un (h' := s.heap) (t' := t) Un.refl I.hok
theorem Inv.kept {t' : Nat} (I : Inv X pins σ H s) (k : ∀ b u, s.heap.get? b = some u → h'.get? b = some u) : Inv X pins σ H { s with heap := h', toks := t' } := I.un (Un.kept k) (I.hok.kept k)
theorem Inv.laid {a : Addr} {o : HO} {t' : Nat} (I : Inv X pins σ H s) (k : ∀ b u, s.heap.get? b = some u → h'.get? b = some u) (hp : s.heap.objs.size ≤ a) (new : ObjOk X.prog X.w (upd H a o) h' a o) :
    Inv X pins σ (upd H a o) { s with heap := h', toks := t' } := I.un (Un.laid k hp (I.hok.fresh hp)) (I.hok.laid k hp new)
theorem Inv.write {x e : Addr} {o : HO} {t' : Nat} (I : Inv X pins σ H s) (mu : Mut (H x)) (he : e = x ∨ H e = some (.own x)) (k : ∀ b u, b ≠ e → s.heap.get? b = some u → h'.get? b = some u) (heo : ∃ u, h'.get? e = some u)
    (new : ObjOk X.prog X.w (upd H x o) h' x o) : Inv X pins σ (upd H x o) { s with heap := h', toks := t' } := I.un (Un.write mu he k heo) (I.hok.write mu he k heo new)
theorem Inv.weak {σ' : List (Option V)} (I : Inv X pins σ H s) (hl : σ'.length = σ.length) (w : ∀ (i : Nat) v, σ'[i]? = some (some v) → σ[i]? = some (some v)) : Inv X pins σ' H s :=
  ⟨I.ok, I.os, I.bare, I.base, let ⟨m, hn, hl'⟩ := I.loc; ⟨m, hn, fun i x v e1 e2 e3 => hl' i x v e1 (w i v e2) e3⟩, I.cell, I.free, I.freeC, I.pin, I.hok, hl.trans I.len⟩
theorem Inv.pins_of {pins' : List (Addr × Obj)} (I : Inv X pins σ H s) (h : ∀ p ∈ pins', s.heap.get? p.1 = some p.2 ∧ H p.1 = none ∧ p.1 ≠ X.env.locals ∧ p.1 ∉ X.fs ∧ ∀ v, p.2.data ≠ .cell v) : Inv X pins' σ H s :=
  ⟨I.ok, I.os, I.bare, I.base, I.loc, I.cell, I.free, I.freeC, fun p hp => (List.mem_append.mp hp).elim (fun z => I.pin p (List.mem_append_left _ z)) (h p), I.hok, I.len⟩
theorem nodup_ix {N : List Str} (hN : N.Nodup) {i j : Nat} {x : Str} (a : N[i]? = some x) (b : N[j]? = some x) : i = j := by
  obtain ⟨h1, e1⟩ := List.getElem?_eq_some_iff.mp a
  obtain ⟨h2, e2⟩ := List.getElem?_eq_some_iff.mp b
  exact (List.getElem_inj hN).mp (e1.trans e2.symm)
theorem store_ok2 {M : Model} {A : Around} {E : Value → Shared → Prop} {i : Nat} {x : Str} {v : V} {u : Value} {Q : Unit → Shared → Prop} (I : Inv X pins σ H s) (hN : X.N.Nodup) (hi : X.N[i]? = some x) (hx : Loc X.env.scope x) (r : RelV v u)
    (h : ∀ s', Inv X pins (σ.set i (some v)) H s' → (∃ a, Heap.SameBut a s.heap s'.heap ∧ (a = X.env.locals ∨ X.env.cells.lookup x = some a)) → Q () s') (hf : X.fn x = true ∨ X.env.scope.names.lookup x = some .local := by first | exact .inl rfl | exact .inr rfl | assumption) : wpAny M A (storeName X.env x u) Q E s := by
  obtain ⟨m, hn, hl⟩ := id I.loc
  have hcls : (X.env.scope.kind == .class || (X.env.scope.kind == .module && X.env.locals != X.env.globals)) = false := by rw [I.ok.kind]; rfl
  have hiσ : i < σ.length := by rw [I.len]; exact (List.getElem?_eq_some_iff.mp hi).1
  have cne := I.cne
  have tracked : ∀ {a : Addr} {h' : Heap}, (∃ o, s.heap.get? a = some o ∧ H a = none) → Heap.SameBut a s.heap h' → HOk X.prog X.w H h' := fun {a h'} ha hs b ob e => by
    obtain ⟨_, _, hfree⟩ := ha
    refine (I.hok b ob e).stay (fun c w' hc q => (hs.2 c ?_).trans q) (fun _ q => q) fun _ _ q => q
    rintro rfl
    rcases hc with rfl | hc
    · rw [hfree] at e; cases e
    · rw [hfree] at hc; cases hc
  rcases hx with hk | hk
  · refine wpAny_storeName_local hk hn (fun h' hn' hs => ?_) hcls
    obtain ⟨oL, _, _, hoL, _⟩ := id hn
    refine h _ ⟨I.ok, I.os, I.bare, ⟨fun b o e n hb hx => ?_, fun b o e n hb hx => ?_, I.base.free, fun b o e hx => ?_, I.base.tups, I.base.frzs, I.base.tbls⟩, ⟨_, hn', fun j y v' e1 e2 e3 => ?_⟩, fun y c e => ?_, I.free, I.freeC, fun p hp => ?_, tracked ⟨oL, hoL, I.free⟩ hs, by simpa using I.len⟩ ⟨_, hs, .inl rfl⟩
    · exact (hs.2 b (Nat.ne_of_lt (Nat.lt_of_lt_of_le (Heap.lt_size e) I.ok.above))).trans (I.base.keep b o e n hb hx)
    · obtain ⟨sl, e1⟩ := I.base.slot b o e n hb hx
      exact ⟨sl, (hs.2 b (Nat.ne_of_lt (Nat.lt_of_lt_of_le (Heap.lt_size e) I.ok.above))).trans e1⟩
    · obtain ⟨o', e1⟩ := I.base.there b o e hx
      exact ⟨o', (hs.2 b (Nat.ne_of_lt (Nat.lt_of_lt_of_le (Heap.lt_size e) I.ok.above))).trans e1⟩
    · by_cases hj : j = i
      · subst hj
        rw [hi] at e1; cases e1
        rw [List.getElem?_set_self hiσ] at e2
        cases e2
        exact ⟨u, r, .inl ⟨hk, by simp⟩⟩
      · rw [List.getElem?_set_ne (Ne.symm hj)] at e2
        obtain ⟨u', r', q⟩ := hl j y v' e1 e2 e3
        refine ⟨u', r', ?_⟩
        rcases q with ⟨k, e⟩ | ⟨k, c, e, z⟩
        · refine .inl ⟨k, ?_⟩
          have : y ≠ x := fun e => hj (nodup_ix hN e1 (e ▸ hi))
          simp [this, e]
        · exact .inr ⟨k, c, e, z.sameBut hs (cne y c e)⟩
    · obtain ⟨w', z⟩ := I.cell y c e
      exact ⟨w', z.sameBut hs (cne y c e)⟩
    · obtain ⟨e, n, ne, nf, d⟩ := I.pin p hp
      exact ⟨(hs.2 p.1 ne).trans e, n, ne, nf, d⟩
  · have hfn : X.fn x = true := by
      rcases hf with z | z
      · exact z
      · rw [z] at hk; cases hk
    obtain ⟨c, hc⟩ := I.ok.has x (.inl hk)
    obtain ⟨w', z⟩ := I.cell x c hc
    refine wpAny_storeName_cell I.ok.kind hk hc z (fun h' hc' hs => ?_)
    obtain ⟨oc, hoc, hocd⟩ := id z
    refine h { s with heap := h' } ⟨I.ok, I.os, I.bare, ⟨fun b o e n hb hx => ?_, fun b o e n hb hx => ?_, I.base.free, fun b o e hx => ?_, I.base.tups, I.base.frzs, I.base.tbls⟩, ⟨m, hn.sameBut hs (Ne.symm (cne x c hc)), fun j y v' e1 e2 e3 => ?_⟩, fun y c' e => ?_, I.free, I.freeC, fun p hp => ?_, tracked ⟨oc, hoc, I.freeC x c hc⟩ hs, by simpa using I.len⟩ ⟨c, hs, .inr hc⟩
    · exact (hs.2 b (Nat.ne_of_lt (Nat.lt_of_lt_of_le (Heap.lt_size e) (I.ok.cab x c hfn hc)))).trans (I.base.keep b o e n hb hx)
    · obtain ⟨sl, e1⟩ := I.base.slot b o e n hb hx
      exact ⟨sl, (hs.2 b (Nat.ne_of_lt (Nat.lt_of_lt_of_le (Heap.lt_size e) (I.ok.cab x c hfn hc)))).trans e1⟩
    · obtain ⟨o', e1⟩ := I.base.there b o e hx
      exact ⟨o', (hs.2 b (Nat.ne_of_lt (Nat.lt_of_lt_of_le (Heap.lt_size e) (I.ok.cab x c hfn hc)))).trans e1⟩
    · by_cases hj : j = i
      · subst hj
        rw [hi] at e1; cases e1
        rw [List.getElem?_set_self hiσ] at e2
        cases e2
        exact ⟨u, r, .inr ⟨.inl hk, c, hc, hc'⟩⟩
      · rw [List.getElem?_set_ne (Ne.symm hj)] at e2
        obtain ⟨u', r', q⟩ := hl j y v' e1 e2 e3
        refine ⟨u', r', ?_⟩
        rcases q with q | ⟨k, c', e, z'⟩
        · exact .inl q
        · refine .inr ⟨k, c', e, z'.sameBut hs ?_⟩
          rintro rfl
          exact hj (nodup_ix hN e1 (I.ok.inj _ _ _ e hc ▸ hi))
    · by_cases hcc : c' = c
      · subst hcc; exact ⟨_, hc'⟩
      · obtain ⟨w2, z2⟩ := I.cell y c' e
        exact ⟨w2, z2.sameBut hs hcc⟩
    · obtain ⟨e, n, ne, nf, d⟩ := I.pin p hp
      refine ⟨(hs.2 p.1 ?_).trans e, n, ne, nf, d⟩
      intro q
      rw [q, hoc] at e
      have q' : oc = p.2 := Option.some.inj e
      exact d w' (by rw [← q']; exact hocd)
theorem store_ok {M : Model} {A : Around} {E : Value → Shared → Prop} {i : Nat} {x : Str} {v : V} {u : Value} {Q : Unit → Shared → Prop} (I : Inv X pins σ H s) (hN : X.N.Nodup) (hi : X.N[i]? = some x) (hx : Loc X.env.scope x) (r : RelV v u)
    (h : ∀ s', Inv X pins (σ.set i (some v)) H s' → Q () s') (hf : X.fn x = true ∨ X.env.scope.names.lookup x = some .local := by first | exact .inl rfl | exact .inr rfl | assumption) : wpAny M A (storeName X.env x u) Q E s :=
  store_ok2 I hN hi hx r (fun s' I' _ => h s' I') hf
theorem Inv.call' {s' : Shared} {ch : List Addr} (I : Inv X pins σ H s) (ho : s'.os = s.os) (u : Un (frs X.stack) ch H H' s.heap s'.heap) (hok : HOk X.prog X.w H' s'.heap) (hg : AllBare s'.gens)
    (hch : ∀ b ∈ ch, (b ∈ X.ex ∨ X.s₀.heap.objs.size ≤ b) ∧ b ≠ X.env.locals ∧ (∀ x c, X.env.cells.lookup x = some c → c ≠ b) ∧ ∀ p ∈ X.pn ++ pins, p.1 ≠ b) : Inv X pins σ H' s' := by
  obtain ⟨h', g', d', t', o'⟩ := s'
  have e : o' = s.os := ho
  subst e
  exact I.call (g' := g') (t' := t') (d' := d') u hok hg hch
end
abbrev XK := Value → Option Addr → Hp → Prop
abbrev St := List (Option V)
abbrev VK := V → Hp → Prop
abbrev TE := St → Hp → VK → Prop
abbrev TT := St → Hp → (Bool → Hp → Prop) → Prop
abbrev TA := St → Hp → (List V → Hp → Prop) → Prop
structure Ends where
  nx : St → Hp → Prop
  rt : VK
  bk : St → Hp → Prop := fun _ _ => False
  ct : St → Hp → Prop := fun _ _ => False
abbrev TS := Ends → St → Hp → Prop
def EP (X : Cx) (pins : List (Addr × Obj)) (σ : St) (Q : VK) (u : Value) (s' : Shared) : Prop := ∃ v H', Inv X pins σ H' s' ∧ RelV v u ∧ Q v H'
def TP (X : Cx) (pins : List (Addr × Obj)) (σ : St) (Q : Bool → Hp → Prop) (b : Bool) (s' : Shared) : Prop := ∃ H', Inv X pins σ H' s' ∧ Q b H'
def AP (X : Cx) (pins : List (Addr × Obj)) (σ : St) (Q : List V → Hp → Prop) (us : List Value) (s' : Shared) : Prop := ∃ vs H', Inv X pins σ H' s' ∧ Vals vs us ∧ Q vs H'
def SP (X : Cx) (pins : List (Addr × Obj)) (D : Ends) (f : Flow) (s' : Shared) : Prop :=
  match f with
  | .next => ∃ σ' H', Inv X pins σ' H' s' ∧ D.nx σ' H'
  | .brk => ∃ σ' H', Inv X pins σ' H' s' ∧ D.bk σ' H'
  | .cont => ∃ σ' H', Inv X pins σ' H' s' ∧ D.ct σ' H'
  | .ret u => ∃ v σ' H', Inv X pins σ' H' s' ∧ RelV v u ∧ D.rt v H'
def PE (X : Cx) (e : Expr) (t : TE) : Prop :=
  ∀ (pins : List (Addr × Obj)) (s : Shared) (σ : St) (H : Hp) (Q : VK), Inv X pins σ H s → t σ H Q → wpAny (model X.prog X.w) X.A (eval e X.env) (EP X pins σ Q) X.xe s
def PT (X : Cx) (e : Expr) (t : TT) : Prop :=
  ∀ (pins : List (Addr × Obj)) (s : Shared) (σ : St) (H : Hp) (Q : Bool → Hp → Prop), Inv X pins σ H s → t σ H Q → wpAny (model X.prog X.w) X.A (isTrue e X.env (eval e X.env)) (TP X pins σ Q) X.xe s
def PW (X : Cx) (e : Expr) (t : TT) : Prop :=
  ∀ (whole : Sem Value) (pins : List (Addr × Obj)) (s : Shared) (σ : St) (H : Hp) (Q : Bool → Hp → Prop), Inv X pins σ H s → t σ H Q → wpAny (model X.prog X.w) X.A (isTrue e X.env whole) (TP X pins σ Q) X.xe s
theorem PW.pt {X : Cx} {e : Expr} {t : TT} (h : PW X e t) : PT X e t := h _
def PA (X : Cx) (es : List Expr) (t : TA) : Prop :=
  ∀ (pos : Pos) (pins : List (Addr × Obj)) (s : Shared) (σ : St) (H : Hp) (Q : List V → Hp → Prop), Inv X pins σ H s → t σ H Q → wpAny (model X.prog X.w) X.A (spliced (backTo pos (starEach es X.env))) (AP X pins σ Q) X.xe s
def PS (X : Cx) (st : Stmt) (t : TS) : Prop :=
  ∀ (pins : List (Addr × Obj)) (s : Shared) (σ : St) (H : Hp) (D : Ends), Inv X pins σ H s → t D σ H → wpAny (model X.prog X.w) X.A (exec st X.env) (SP X pins D) X.xe s
def PSs (X : Cx) (st : List Stmt) (t : TS) : Prop :=
  ∀ (pins : List (Addr × Obj)) (s : Shared) (σ : St) (H : Hp) (D : Ends), Inv X pins σ H s → t D σ H → wpAny (model X.prog X.w) X.A (execs st X.env) (SP X pins D) X.xe s
theorem thn {α : Type} {t : Sem α} {Q Q' : α → Shared → Prop} {M : Model} {A : Around} {E : Value → Shared → Prop} {s : Shared} (h : wpAny M A t Q E s) (hQ : ∀ a s, Q a s → Q' a s) : wpAny M A t Q' E s := wpAny_mono h hQ fun _ _ x => x
end L2
namespace L2
open PySem PySem.Spec PyProof.Rows
section
variable {X : Cx}
def tVar (i : Nat) : TE := fun σ H Q => ∃ v, σ[i]? = some (some v) ∧ Q v H
def tC (v : V) : TE := fun _ H Q => Q v H
theorem pe_var {i : Nat} {x : Str} {pos : Pos} (hN : X.N[i]? = some x) (hv : Vis X.env.scope x) (hd : (x == ("__debug__" : Str)) = false := by decide) (hcd : (x == ("__classdict__" : Str)) = false := by decide) : PE X (.Name x pos) (tVar i) := by
  intro pins s σ H Q I h
  obtain ⟨v, e, h⟩ := h
  obtain ⟨m, hn, hl⟩ := I.loc
  obtain ⟨u, r, l⟩ := hl i x v hN e hv
  have fin : EP X pins σ Q u s := ⟨v, H, I, r, h⟩
  rcases l with ⟨hk, hm⟩ | ⟨hk, c, hc, hcell⟩
  · exact wpAny_Name (wpAny_loadName_local I.ok.kind hk hn hm fin) hd
  · rcases hk with hk | hk
    · exact wpAny_Name (wpAny_loadName_cell I.ok.kind hk hc hcell fin) hd
    · exact wpAny_Name (wpAny_loadName_free I.ok.kind hk hc hcell fin hcd) hd
theorem pe_int {i j pos} : PE X (.Constant (.int i) j pos) (tC (.int i)) := fun _ _ _ H _ I h => wpAny_Constant_int ⟨.int i, H, I.tok _, ⟨_, rfl⟩, h⟩
theorem pe_bl {b j pos} : PE X (.Constant (.bool b) j pos) (tC (.bl b)) := fun _ _ _ H _ I h => Constant_bool ⟨.bl b, H, I, rfl, h⟩
theorem pe_non {j pos} : PE X (.Constant .none j pos) (tC .non) := fun _ _ _ H _ I h => Constant_none ⟨.non, H, I, rfl, h⟩
theorem pe_str {x j pos} : PE X (.Constant (.str x) j pos) (tC (.str x)) := fun _ _ _ H _ I h => Calls.Constant_str ⟨.str x, H, I.tok _, ⟨_, rfl⟩, h⟩
def Gl (X : Cx) (x : Str) : Prop := X.env.kindOf x = some .globalImplicit
theorem ld_glob {E : Value → Shared → Prop} {pins : List (Addr × Obj)} {s : Shared} {σ : St} {H : Hp} {x : Str} {u : Value} {pos : Pos} {Q : Value → Shared → Prop} (I : Inv X pins σ H s) (hg : Gl X x) (hm : X.mg x = some u) (h : Q u s)
    (hd : (x == ("__debug__" : Str)) = false := by decide) : wpAny (model X.prog X.w) X.A (eval (.Name x pos) X.env) Q E s :=
  Calls.Name_function_global I.ok.kind hg (Calls.loadGlobal_global (by rw [I.ok.glob]; exact I.mod.glob.keeps I.bk) hm h) hd
theorem ld_blt {E : Value → Shared → Prop} {pins : List (Addr × Obj)} {s : Shared} {σ : St} {H : Hp} {x : Str} {u : Value} {pos : Pos} {Q : Value → Shared → Prop} (I : Inv X pins σ H s) (hg : Gl X x) (hm : X.mg x = none) (hv : bootBuiltins x = some u) (h : Q u s)
    (hn : x ≠ "__name__" := by decide) (hd : (x == ("__debug__" : Str)) = false := by decide) : wpAny (model X.prog X.w) X.A (eval (.Name x pos) X.env) Q E s := by
  obtain ⟨mb, h1, h2⟩ := I.mod.blt
  exact Calls.Name_function_global I.ok.kind hg (Calls.loadGlobal_builtin (by rw [I.ok.glob]; exact I.mod.glob.keeps I.bk) hm (by rw [I.ok.blt]; exact h1.keeps I.bk) ((h2 x hn).trans hv) h) hd
theorem pe_glob {x : Str} {v : V} {u : Value} {pos : Pos} (hg : Gl X x) (hm : X.mg x = some u) (r : RelV v u) (hd : (x == ("__debug__" : Str)) = false := by decide) : PE X (.Name x pos) (tC v) :=
  fun _ _ _ H _ I h => ld_glob I hg hm ⟨v, H, I, r, h⟩ hd
theorem pe_bltn {x : Str} {v : V} {u : Value} {pos : Pos} (hg : Gl X x) (hm : X.mg x = none) (hv : bootBuiltins x = some u) (r : RelV v u) (hn : x ≠ "__name__" := by decide) (hd : (x == ("__debug__" : Str)) = false := by decide) : PE X (.Name x pos) (tC v) :=
  fun _ _ _ H _ I h => ld_blt I hg hm hv ⟨v, H, I, r, h⟩ hn hd
variable {a b : Expr} {ta tb : TE} {pos : Pos}
variable {tA tB' : TT} {rest : List Expr}
def tOr (t u : TT) : TT := fun σ H Q => t σ H fun c H1 => if c = true then Q true H1 else u σ H1 Q
def tNot (t : TT) : TT := fun σ H Q => t σ H fun c H1 => Q (!c) H1
theorem pw_or1 (ha : PT X a tA) : PW X (.BoolOp .Or [a] pos) tA := by
  intro wh pins s σ H Q I h
  refine isTrue_or (thn (ha pins s σ H Q I h) fun c s1 e => ?_)
  cases c with
  | false => exact isTrue_or_nil e
  | true => exact e
theorem pw_or (ha : PT X a tA) (hb : PW X (.BoolOp .Or (b :: rest) pos) tB') : PW X (.BoolOp .Or (a :: b :: rest) pos) (tOr tA tB') := by
  intro wh pins s σ H Q I h
  refine isTrue_or (thn (ha pins s σ H _ I h) fun c s1 ⟨H1, I1, q1⟩ => ?_)
  cases c with
  | true => exact ⟨H1, I1, q1⟩
  | false => exact hb wh pins s1 σ H1 Q I1 q1
theorem pt_not (ha : PT X a tA) : PT X (.UnaryOp .Not a pos) (tNot tA) := by
  intro pins s σ H Q I h
  exact isTrue_not (ha pins s σ H (fun c H1 => Q (!c) H1) I h)
def tAndV (ta tb : TE) : TE := fun σ H Q => ta σ H fun x H1 => ∃ c, x = .bl c ∧ if c = true then tb σ H1 Q else Q (.bl false) H1
def tOrV (ta tb : TE) : TE := fun σ H Q => ta σ H fun x H1 => ∃ c, x = .bl c ∧ if c = true then Q (.bl true) H1 else tb σ H1 Q
def tNotV (ta : TE) : TE := fun σ H Q => ta σ H fun x H1 => ∃ c, x = .bl c ∧ Q (.bl (!c)) H1
theorem pe_one {op} {t : TE} (h : PE X a t) : PE X (.BoolOp op [a] pos) t := fun pins s σ H Q I hw => BoolOp_one (h pins s σ H Q I hw)
theorem pe_and (ha : PE X a ta) (hb : PE X (.BoolOp .And (b :: rest) pos) tb) : PE X (.BoolOp .And (a :: b :: rest) pos) (tAndV ta tb) := by
  intro pins s σ H Q I h
  refine BoolOp_and (thn (ha pins s σ H _ I h) fun v s1 ⟨x, H1, I1, r1, q1⟩ => ?_)
  obtain ⟨c, rfl, q1⟩ := q1
  cases r1
  refine wpAny_truthy_bool ?_
  cases c with
  | true => exact hb pins s1 σ H1 Q I1 q1
  | false => exact ⟨.bl false, H1, I1, rfl, q1⟩
theorem pe_or (ha : PE X a ta) (hb : PE X (.BoolOp .Or (b :: rest) pos) tb) : PE X (.BoolOp .Or (a :: b :: rest) pos) (tOrV ta tb) := by
  intro pins s σ H Q I h
  refine BoolOp_or (thn (ha pins s σ H _ I h) fun v s1 ⟨x, H1, I1, r1, q1⟩ => ?_)
  obtain ⟨c, rfl, q1⟩ := q1
  cases r1
  refine wpAny_truthy_bool ?_
  cases c with
  | false => exact hb pins s1 σ H1 Q I1 q1
  | true => exact ⟨.bl true, H1, I1, rfl, q1⟩
theorem pe_not (ha : PE X a ta) : PE X (.UnaryOp .Not a pos) (tNotV ta) := by
  intro pins s σ H Q I h
  refine UnaryOp_ (thn (ha pins s σ H _ I h) fun v s1 ⟨x, H1, I1, r1, q1⟩ => ?_)
  obtain ⟨c, rfl, q1⟩ := q1
  cases r1
  exact not_of (wpAny_truthy_bool ⟨.bl (!c), H1, I1, rfl, q1⟩)
def tIf (t : TT) (ta tb : TE) : TE := fun σ H Q => t σ H fun c H1 => if c = true then ta σ H1 Q else tb σ H1 Q
theorem pe_ifExp {c : Expr} (hc : PT X c tA) (ha : PE X a ta) (hb : PE X b tb) : PE X (.IfExp c a b pos) (tIf tA ta tb) := by
  intro pins s σ H Q I h
  refine wpAny_IfExp (thn (hc pins s σ H _ I h) fun d s1 ⟨H1, I1, q1⟩ => ?_)
  cases d with
  | true => exact ha pins s1 σ H1 Q I1 q1
  | false => exact hb pins s1 σ H1 Q I1 q1
end
end L2
namespace L2
open PySem PySem.Spec PyProof.Rows
def SqL (K : PySem.W.Frag) (H : Hp) (a : Addr) (xs : List V) : Prop :=
  Rd H a (.lst xs) ∨
    ∃ (o : Obj) (its : Array Value) (n : Nat), K.lookup a = some o ∧ o.cls = .type "list" ∧ o.dict = none ∧ o.data = .seq its n ∧ its.size ≤ sizeLine ∧ Vals xs its.toList
def SqT (K : PySem.W.Frag) (H : Hp) (a : Addr) (xs : List V) : Prop :=
  Rd H a (.tup xs) ∨
    ∃ (o : Obj) (its : Array Value) (n : Nat), K.lookup a = some o ∧ o.cls = .type "tuple" ∧ o.data = .seq its n ∧ its.size ≤ sizeLine ∧ Vals xs its.toList
def absV : Value → Option V
  | .none => some .non
  | .bool b => some (.bl b)
  | .int i _ => some (.int i)
  | .str x _ => some (.str x)
  | .bytes b _ => some (.byt b)
  | .float b _ => some (.flt b)
  | .ref a => some (.ref a)
  | .type n => some (.ty n)
  | _ => none
theorem RelV.abs {x : V} {u : Value} (r : RelV x u) : absV u = some x := by
  cases x with
  | non => cases r; rfl
  | bl _ => cases r; rfl
  | int _ => obtain ⟨t, rfl⟩ := r; rfl
  | str _ => obtain ⟨t, rfl⟩ := r; rfl
  | byt _ => obtain ⟨t, rfl⟩ := r; rfl
  | flt _ => obtain ⟨t, rfl⟩ := r; rfl
  | ref _ => cases r; rfl
  | ty _ => cases r; rfl
theorem RelV.inj {x y : V} {u : Value} (r : RelV x u) (q : RelV y u) : x = y := Option.some.inj (r.abs.symm.trans q.abs)
theorem Vals.inj : ∀ {xs ys : List V} {us : List Value}, Vals xs us → Vals ys us → xs = ys
  | _, _, _, .nil, .nil => rfl
  | _, _, _, .cons r t, .cons r' t' => by rw [r.inj r', Vals.inj t t']
section
variable {X : Cx} {pins : List (Addr × Obj)} {σ : St} {H : Hp} {s : Shared} {a : Addr} {xs ys : List V}
theorem SqL.of {K : PySem.W.Frag} (h : H a = some (.lst xs)) : SqL K H a xs := .inl (.inl h)
theorem SqT.of {K : PySem.W.Frag} (h : H a = some (.tup xs)) : SqT K H a xs := .inl (.inl h)
theorem Inv.list (I : Inv X pins σ H s) (h : SqL X.K H a xs) : ∃ its : List Value, Vals xs its ∧ PlainL s.heap a its.toArray ∧ xs.length ≤ sizeLine := by
  rcases h with h | ⟨o, its, n, hk, hc, hd, hs, hz, r⟩
  · obtain ⟨z, its, n, r, e⟩ := h.ok I.hok
    exact ⟨its, r, ⟨_, n, e, rfl, rfl, rfl⟩, z⟩
  · refine ⟨its.toList, r, ⟨o, n, I.kIn a o hk, hc, hd, by simpa using hs⟩, ?_⟩
    have e := r.length
    simp only [Array.length_toList] at e
    omega
theorem Inv.tuple (I : Inv X pins σ H s) (h : SqT X.K H a xs) : ∃ its : List Value, Vals xs its ∧ IsTup s.heap a its.toArray ∧ xs.length ≤ sizeLine := by
  rcases h with h | ⟨o, its, n, hk, hc, hs, hz, r⟩
  · obtain ⟨z, its, r, p⟩ := h.ok I.hok
    exact ⟨its, r, p, z⟩
  · refine ⟨its.toList, r, ⟨o, I.kIn a o hk, hc, n, by simpa using hs⟩, ?_⟩
    have e := r.length
    simp only [Array.length_toList] at e
    omega
theorem Inv.list_inj (I : Inv X pins σ H s) (h : SqL X.K H a xs) (h' : SqL X.K H a ys) : xs = ys := by
  obtain ⟨its, r, ⟨o, n, e, _, _, d⟩, _⟩ := I.list h
  obtain ⟨its', r', ⟨o', n', e', _, _, d'⟩, _⟩ := I.list h'
  rw [e] at e'; cases e'
  rw [d] at d'
  injection d' with d1 _
  have : its = its' := by simpa using congrArg Array.toList d1
  subst this
  exact r.inj r'
theorem Inv.tuple_inj (I : Inv X pins σ H s) (h : SqT X.K H a xs) (h' : SqT X.K H a ys) : xs = ys := by
  obtain ⟨its, r, ⟨o, e, _, n, d⟩, _⟩ := I.tuple h
  obtain ⟨its', r', ⟨o', e', _, n', d'⟩, _⟩ := I.tuple h'
  rw [e] at e'; cases e'
  rw [d] at d'
  injection d' with d1 _
  have : its = its' := by simpa using congrArg Array.toList d1
  subst this
  exact r.inj r'
end
abbrev Cx.wish (X : Cx) (E : Value → Shared → Prop) : Cx := { X with xe := E }
abbrev Cx.nox (X : Cx) : Cx := X.wish fun _ _ => False
theorem Cx.Ok.wish {X : Cx} (ok : X.Ok) (E : Value → Shared → Prop) : (X.wish E).Ok :=
  ⟨ok.mod, ok.kind, ok.glob, ok.blt, ok.above, ok.inj, ok.has, ok.cab, ok.hd, ok.frames, ok.stk, ok.exf, ok.bs, ok.bsz, ok.noex, ok.exfs, ok.funs, ok.frf⟩
theorem Cx.Ok.unwish {X : Cx} {E : Value → Shared → Prop} (ok : (X.wish E).Ok) : X.Ok :=
  ⟨ok.mod, ok.kind, ok.glob, ok.blt, ok.above, ok.inj, ok.has, ok.cab, ok.hd, ok.frames, ok.stk, ok.exf, ok.bs, ok.bsz, ok.noex, ok.exfs, ok.funs, ok.frf⟩
section
variable {X : Cx} {pins : List (Addr × Obj)} {σ : St} {H : Hp} {s : Shared} {E : Value → Shared → Prop}
theorem Inv.wish (I : Inv X pins σ H s) (E : Value → Shared → Prop) : Inv (X.wish E) pins σ H s := ⟨I.ok.wish E, I.os, I.bare, I.base, I.loc, I.cell, I.free, I.freeC, I.pin, I.hok, I.len⟩
theorem Inv.unwish (I : Inv (X.wish E) pins σ H s) : Inv X pins σ H s := ⟨I.ok.unwish, I.os, I.bare, I.base, I.loc, I.cell, I.free, I.freeC, I.pin, I.hok, I.len⟩
theorem SP.unwish {D : Ends} {f : Flow} {s' : Shared} (h : SP (X.wish E) pins D f s') : SP X pins D f s' := by
  cases f with
  | next => obtain ⟨σ', H', I, q⟩ := h; exact ⟨σ', H', I.unwish, q⟩
  | brk => obtain ⟨σ', H', I, q⟩ := h; exact ⟨σ', H', I.unwish, q⟩
  | cont => obtain ⟨σ', H', I, q⟩ := h; exact ⟨σ', H', I.unwish, q⟩
  | ret u => obtain ⟨v, σ', H', I, r, q⟩ := h; exact ⟨v, σ', H', I.unwish, r, q⟩
theorem PSs.nox {st : List Stmt} {t : TS} (h : PSs X.nox st t) : PSs X st t := fun pins s σ H D I hw =>
  wpAny_mono (h pins s σ H D (I.wish _) hw) (fun _ _ q => q.unwish) fun _ _ z => False.elim z
end
section
variable {X : Cx} {st : Stmt} {rest : List Stmt} {t u : TS} {e : Expr} {te : TE} {pos : Pos}
def tNext : TS := fun D σ H => D.nx σ H
def tSeq (t u : TS) : TS := fun D σ H => t { D with nx := u D } σ H
theorem pss_nil : PSs X [] tNext := fun _ _ σ H _ I h => wpAny_execs_nil ⟨σ, H, I, h⟩
theorem pss_cons (h1 : PS X st t) (h2 : PSs X rest u) : PSs X (st :: rest) (tSeq t u) := by
  intro pins s σ H D I h
  refine wpAny_execs_cons (thn (h1 pins s σ H { D with nx := u D } I h) fun f s1 q => ?_)
  cases f with
  | next =>
    obtain ⟨σ', H', I', q⟩ := q
    exact h2 pins s1 σ' H' D I' q
  | ret v => exact q
  | brk => exact q
  | cont => exact q
theorem pss_one (h1 : PS X st t) : PSs X [st] t := by
  intro pins s σ H D I h
  refine wpAny_execs_cons (thn (h1 pins s σ H D I h) fun f s1 q => ?_)
  cases f with
  | next => exact wpAny_execs_nil q
  | ret v => exact q
  | brk => exact q
  | cont => exact q
theorem Inv.quiet {pins : List (Addr × Obj)} {σ : St} {H : Hp} {s : Shared} (I : Inv X pins σ H s) : interactive X.env = false := by simp [interactive, I.ok.kind]
def tDrop (te : TE) : TS := fun D σ H => te σ H fun _ H1 => D.nx σ H1
theorem ps_expr (he : PE X e te) (hs : swapsWith e none pos.line X.env = pure false := by rfl) : PS X (.Expr e pos) (tDrop te) := by
  intro pins s σ H D I h
  exact wpAny_Expr_any (thn (he pins s σ H _ I h) fun v s1 ⟨x, H1, I1, r1, q1⟩ => ⟨σ, H1, I1, q1⟩) I.quiet hs
def tRet (te : TE) : TS := fun D σ H => te σ H D.rt
theorem ps_ret (he : PE X e te) : PS X (.Return (some e) pos) (tRet te) := by
  intro pins s σ H D I h
  exact wpAny_Return_some (thn (he pins s σ H _ I h) fun v s1 ⟨x, H1, I1, r1, q1⟩ => ⟨x, σ, H1, I1, r1, q1⟩)
def tIfS (c : TT) (t u : TS) : TS := fun D σ H => c σ H fun b H1 => if b = true then t D σ H1 else u D σ H1
theorem ps_if {c : Expr} {a b : List Stmt} {tc : TT} (hc : PT X c tc) (ha : PSs X a t) (hb : PSs X b u) : PS X (.If c a b pos) (tIfS tc t u) := by
  intro pins s σ H D I h
  refine wpAny_If (thn (hc pins s σ H _ I h) fun d s1 ⟨H1, I1, q1⟩ => ?_)
  cases d with
  | true => exact ha pins s1 σ H1 D I1 q1
  | false => exact hb pins s1 σ H1 D I1 q1
def tNever : TS := fun _ _ _ => False
theorem ps_never : PS X st tNever := fun _ _ _ _ _ _ h => h.elim
theorem pss_never {sts : List Stmt} : PSs X sts tNever := fun _ _ _ _ _ _ h => h.elim
end
abbrev TG := V → St → Hp → (St → Hp → Prop) → Prop
abbrev TGs := List V → St → Hp → (St → Hp → Prop) → Prop
def PG (X : Cx) (target : Expr) (t : TG) : Prop :=
  ∀ (pins : List (Addr × Obj)) (s : Shared) (σ : St) (H : Hp) (v : V) (u : Value) (Q : St → Hp → Prop), Inv X pins σ H s → RelV v u → t v σ H Q →
    wpAny (model X.prog X.w) X.A (assign target X.env u) (fun _ s' => ∃ σ' H', Inv X pins σ' H' s' ∧ Q σ' H') X.xe s
def PGs (X : Cx) (ts : List Expr) (t : TGs) : Prop :=
  ∀ (pins : List (Addr × Obj)) (s : Shared) (σ : St) (H : Hp) (vs : List V) (us : List Value) (Q : St → Hp → Prop), Inv X pins σ H s → Vals vs us → t vs σ H Q →
    wpAny (model X.prog X.w) X.A (assignInOrder ((assignEach ts X.env).map (·.2)) us) (fun _ s' => ∃ σ' H', Inv X pins σ' H' s' ∧ Q σ' H') X.xe s
section
variable {X : Cx} {pos : Pos}
def gName (i : Nat) : TG := fun v σ H Q => Q (σ.set i (some v)) H
theorem pg_name {i : Nat} {x : Str} (hN : X.N.Nodup) (hi : X.N[i]? = some x) (hx : Loc X.env.scope x) (hf : X.fn x = true ∨ X.env.scope.names.lookup x = some .local := by first | exact .inl rfl | exact .inr rfl | assumption) : PG X (.Name x pos) (gName i) := by
  intro pins s σ H v u Q I r h
  exact wpAny_assign_Name (store_ok I hN hi hx r (fun s' I' => ⟨_, H, I', h⟩) hf)
def gNil : TGs := fun vs σ H Q => vs = [] ∧ Q σ H
def gCons (t : TG) (u : TGs) : TGs := fun vs σ H Q => ∃ v r, vs = v :: r ∧ t v σ H fun σ' H' => u r σ' H' Q
theorem pgs_nil : PGs X [] gNil := by
  intro pins s σ H vs us Q I r h
  obtain ⟨e, h⟩ := h
  subst e
  cases r
  exact assignInOrder_nil ⟨σ, H, I, h⟩
theorem pgs_cons {e : Expr} {es : List Expr} {t : TG} {u : TGs} (h1 : PG X e t) (h2 : PGs X es u)
    (hs : (assignEach (e :: es) X.env).map (·.2) = assign e X.env :: (assignEach es X.env).map (·.2) := by rfl) : PGs X (e :: es) (gCons t u) := by
  intro pins s σ H vs us Q I r h
  obtain ⟨v, vr, e1, h⟩ := h
  subst e1
  cases r with
  | cons r rr =>
    rw [hs]
    refine assignInOrder_cons (thn (h1 pins s σ H _ _ _ I r h) fun _ s1 ⟨σ1, H1, I1, q1⟩ => ?_)
    exact h2 pins s1 σ1 H1 _ _ Q I1 rr q1
def gTup (K : PySem.W.Frag) (n : Nat) (t : TGs) : TG := fun v σ H Q => ∃ a xs, v = .ref a ∧ SqT K H a xs ∧ xs.length = n ∧ t xs σ H Q
theorem pg_tup {es : List Expr} {k : Nat} {t : TGs} {n : Nat} (hc : X.calm = true) (h : PGs X es t)
    (hn : (assignEach es X.env).length = n := by rfl) (hst : (assignEach es X.env).findIdx? (·.1) = none := by rfl) : PG X (.Tuple es k pos) (gTup X.K n t) := by
  intro pins s σ H v u Q I r hw
  obtain ⟨a, xs, e1, hq, hl, hw⟩ := hw
  subst e1
  cases r
  obtain ⟨its, rv, ht, hz⟩ := I.tuple hq
  refine assign_Tuple_tuple (I.ok.hd hc) ht (by simp [hn, ← hl, rv.length]) hst fun h' hx => ?_
  have I1 : Inv X pins σ H { s with heap := h' } := I.kept (t' := s.toks) fun b o e => hx b o (Nat.ne_of_lt (Heap.lt_size e)) e
  exact h pins _ σ H xs _ Q I1 (by simpa using rv) hw
def tAsg (te : TE) (g : TG) : TS := fun D σ H => te σ H fun x H1 => g x σ H1 D.nx
theorem ps_set {i : Nat} {x : Str} {e : Expr} {te : TE} {pos' : Pos} (hN : X.N.Nodup) (hi : X.N[i]? = some x) (hx : Loc X.env.scope x) (he : PE X e te) (hs : swapsWith e (some (.Name x pos')) pos.line X.env = pure false := by rfl) (hf : X.fn x = true ∨ X.env.scope.names.lookup x = some .local := by first | exact .inl rfl | exact .inr rfl | assumption) :
    PS X (.Assign [.Name x pos'] e pos) (tAsg te (gName i)) := by
  intro pins s σ H D I h
  refine wpAny_Assign_Name (thn (he pins s σ H _ I h) fun v s1 ⟨y, H1, I1, r1, q1⟩ => ?_) hs
  exact store_ok I1 hN hi hx r1 (fun s2 I2 => ⟨_, H1, I2, q1⟩) hf
end
section
variable {X : Cx} {pos : Pos}
end
structure It where
  go : Nat → Hp → Prop
  yld : Nat → Hp → V → Hp → Prop
  stop : Nat → Hp → Prop
def FpOk (X : Cx) (pins : List (Addr × Obj)) (H : Hp) (b : Addr) : Prop :=
  H b = none ∧ b ≠ X.env.locals ∧ b ∉ X.fs ∧ (b ∈ X.ex ∨ X.s₀.heap.objs.size ≤ b) ∧ (∀ x c, X.env.cells.lookup x = some c → c ≠ b) ∧ ∀ p ∈ X.pn ++ pins, p.1 ≠ b
theorem Inv.fpOk {X : Cx} {pins : List (Addr × Obj)} {σ : St} {H H' : Hp} {s : Shared} {b : Addr} (I : Inv X pins σ H s) (hb : s.heap.objs.size ≤ b) (hn : H' b = none) : FpOk X pins H' b := by
  refine ⟨hn, Nat.ne_of_gt (Nat.lt_of_lt_of_le I.lt hb), I.nofs hb, .inr (Nat.le_trans I.sz hb), fun x c e z => ?_, fun p hp z => ?_⟩
  · obtain ⟨v, q⟩ := I.cell x c e
    exact absurd (Nat.lt_of_lt_of_le q.lt (by rw [z]; exact hb)) (Nat.lt_irrefl _)
  · exact absurd (Nat.lt_of_lt_of_le (Heap.lt_size (I.pin p hp).1) (by rw [z]; exact hb)) (Nat.lt_irrefl _)
structure Turn (P : Program) (w : World) (K : PySem.W.Frag) (tg : Expr) (J : It) (fp : List Addr) (it : Addr) (tn : Nat → Heap → Prop) : Prop where
  mem : it ∈ fp
  obj : ∀ i h, tn i h → ∀ b ∈ fp, ∃ o, h.get? b = some o ∧ ∀ v, o.data ≠ .cell v
  keep : ∀ i h h', tn i h → (∀ b ∈ fp, ∀ o, h.get? b = some o → h'.get? b = some o) → tn i h'
  item : ∀ (X : Cx), X.prog = P → X.w = w → X.K = K → X.calm = true → ∀ (i : Nat) (pins : List (Addr × Obj)) (s : Shared) (σ : St) (H : Hp) (E : Value → Shared → Prop), Inv X pins σ H s → (∀ b ∈ fp, FpOk X pins H b) → tn i s.heap → J.go i H →
    wpAny (model P w) X.A (pyNext (.ref it)) (fun r s1 => ∃ u, r = some u ∧
      wpAny (model P w) X.A (letOwnedTupleGo tg (.ref it) u) (fun _ s2 => ∃ x H', Inv X pins σ H' s2 ∧ RelV x u ∧ J.yld i H x H' ∧ tn (i + 1) s2.heap ∧ ∀ b ∈ fp, H' b = none) E s1) E s
  done : ∀ (X : Cx), X.prog = P → X.w = w → X.K = K → X.calm = true → ∀ (i : Nat) (pins : List (Addr × Obj)) (s : Shared) (σ : St) (H : Hp) (E : Value → Shared → Prop), Inv X pins σ H s → (∀ b ∈ fp, FpOk X pins H b) → tn i s.heap → J.stop i H →
    wpAny (model P w) X.A (pyNext (.ref it)) (fun r s1 => r = none ∧ Inv X pins σ H s1) E s
  self : ∀ (A : Around) (i : Nat) (s : Shared) (Q : Value → Shared → Prop) (E : Value → Shared → Prop), tn i s.heap → Q (.ref it) s → wpAny (model P w) A (pyIter (.ref it)) Q E s
abbrev TI := St → Hp → (It → Hp → Prop) → Prop
def PIE (X : Cx) (pins : List (Addr × Obj)) (σ : St) (tg : Expr) (R : It → Hp → Prop) (itv : Value) (s2 : Shared) : Prop :=
  ∃ (it : Addr) (fp : List Addr) (tn : Nat → Heap → Prop) (J : It) (H' : Hp), itv = .ref it ∧ Inv X pins σ H' s2 ∧ Turn X.prog X.w X.K tg J fp it tn ∧ tn 0 s2.heap ∧ (∀ b ∈ fp, FpOk X pins H' b) ∧ R J H'
def PI (X : Cx) (tg iter : Expr) (wi : TI) : Prop :=
  ∀ (pins : List (Addr × Obj)) (s : Shared) (σ : St) (H : Hp) (R : It → Hp → Prop), Inv X pins σ H s → wi σ H R →
    wpAny (model X.prog X.w) X.A (eval iter X.env) (fun v s1 => wpAny (model X.prog X.w) X.A (pyIter v) (PIE X pins σ tg R) X.xe s1) X.xe s
theorem go_of {M : Model} {A : Around} {E : Value → Shared → Prop} {s : Shared} {tg : Expr} {it : Addr} {u : Value} {o : Obj} {n : String} {vs : Array Value} {Q : Unit → Shared → Prop} (ho : s.heap.get? it = some o) (hc : o.cls = .type n) (hd : o.data = .fields vs)
    (hn : ["enumerate", "zip", "dict_itemiterator", "dict_reverseitemiterator", "odict_iterator", "itertools.zip_longest", "itertools.pairwise"].contains n = false) (hQ : Q () s) : wpAny M A (letOwnedTupleGo tg (.ref it) u) Q E s := by
  unfold letOwnedTupleGo
  cases tg <;> first
    | exact wpAny_pure hQ
    | (cases u <;> first
        | exact wpAny_pure hQ
        | (refine wpAny_bind (wpAny_load ho ?_)
           rw [hc, hd]
           show wpAny M A (if (["enumerate", "zip", "dict_itemiterator", "dict_reverseitemiterator", "odict_iterator", "itertools.zip_longest", "itertools.pairwise"].contains n && vs[0]? == some (rawInt _)) = true then _ else _) Q E s
           rw [if_neg (by intro h; rw [hn, Bool.false_and] at h; cases h)]
           exact wpAny_pure hQ))
def Itl (K : PySem.W.Frag) (a : Addr) : It :=
  ⟨fun i H => ∃ xs x, SqL K H a xs ∧ xs[i]? = some x, fun i H x H' => H' = H ∧ ∀ xs, SqL K H a xs → xs[i]? = some x, fun i H => ∃ xs, SqL K H a xs ∧ xs.length ≤ i⟩
def Itt (K : PySem.W.Frag) (a : Addr) : It :=
  ⟨fun i H => ∃ xs x, SqT K H a xs ∧ xs[i]? = some x, fun i H x H' => H' = H ∧ ∀ xs, SqT K H a xs → xs[i]? = some x, fun i H => ∃ xs, SqT K H a xs ∧ xs.length ≤ i⟩
def Itr (lo : Int) (n : Nat) : It := ⟨fun i _ => i < n, fun i H x H' => H' = H ∧ x = .int (lo + i), fun i _ => n ≤ i⟩
theorem turn_list {P : Program} {w : World} {K : PySem.W.Frag} {tg : Expr} (a it : Addr) : Turn P w K tg (Itl K a) [it] it (fun i h => h.IsListIter it a i) where
  mem := by simp
  obj := fun i h st b hb => by
    have e : b = it := by simpa using hb
    subst e
    obtain ⟨o, e, c, d⟩ := st
    exact ⟨o, e, fun v z => by rw [d] at z; cases z⟩
  keep := fun i h h' st k => st.at fun o e => k it (by simp) o e
  item := by
    intro X hP hw hK hc i pins s σ H E I hf st hg
    subst hP hw hK
    obtain ⟨xs, x, hq, hx⟩ := hg
    obtain ⟨its, rv, p, hz⟩ := I.list hq
    obtain ⟨u, hu, ru⟩ := rv.get hx
    obtain ⟨f0, f1, f2, f3, f4, f5⟩ := hf it (by simp)
    refine wpAny_pyNext_list_item st p.isList (x := u) (by simpa using hu) fun h' st' sb => ?_
    have I1 : Inv X pins σ H { s with heap := h' } := I.turned (t' := s.toks) (fun b o hb e => (sb.2 b hb).trans e) f0 f1 f3 f4 f5
    obtain ⟨o, e, c, d⟩ := id st'
    exact ⟨u, rfl, go_of (s := { s with heap := h' }) e c d (by decide) ⟨x, H, I1, ru, ⟨rfl, fun ys hy => by rw [I.list_inj hy hq]; exact hx⟩, st', fun b hb => (hf b hb).1⟩⟩
  done := by
    intro X hP hw hK hc i pins s σ H E I hf st hg
    subst hP hw hK
    obtain ⟨xs, hq, hx⟩ := hg
    obtain ⟨its, rv, p, hz⟩ := I.list hq
    obtain ⟨f0, f1, f2, f3, f4, f5⟩ := hf it (by simp)
    have hl := rv.length
    exact wpAny_pyNext_list_end (I.ok.hd hc) st p.isList (by simp; omega) fun h' eb => ⟨rfl, I.turned (t' := s.toks) (fun b o hb e => eb b o hb e) f0 f1 f3 f4 f5⟩
  self := fun _ _ _ _ _ st h => wpAny_pyIter_listiter st h
theorem turn_tuple {P : Program} {w : World} {K : PySem.W.Frag} {tg : Expr} (a it : Addr) : Turn P w K tg (Itt K a) [it] it (fun i h => h.IsTupleIter it a i) where
  mem := by simp
  obj := fun i h st b hb => by
    have e : b = it := by simpa using hb
    subst e
    obtain ⟨o, e, c, d⟩ := st
    exact ⟨o, e, fun v z => by rw [d] at z; cases z⟩
  keep := fun i h h' st k => st.at fun o e => k it (by simp) o e
  item := by
    intro X hP hw hK hc i pins s σ H E I hf st hg
    subst hP hw hK
    obtain ⟨xs, x, hq, hx⟩ := hg
    obtain ⟨its, rv, p, hz⟩ := I.tuple hq
    obtain ⟨u, hu, ru⟩ := rv.get hx
    obtain ⟨f0, f1, f2, f3, f4, f5⟩ := hf it (by simp)
    refine wpAny_pyNext_tuple_item st (show s.heap.IsTuple a its.toArray from p) (x := u) (by simpa using hu) fun h' st' sb => ?_
    have I1 : Inv X pins σ H { s with heap := h' } := I.turned (t' := s.toks) (fun b o hb e => (sb.2 b hb).trans e) f0 f1 f3 f4 f5
    obtain ⟨o, e, c, d⟩ := id st'
    exact ⟨u, rfl, go_of (s := { s with heap := h' }) e c d (by decide) ⟨x, H, I1, ru, ⟨rfl, fun ys hy => by rw [I.tuple_inj hy hq]; exact hx⟩, st', fun b hb => (hf b hb).1⟩⟩
  done := by
    intro X hP hw hK hc i pins s σ H E I hf st hg
    subst hP hw hK
    obtain ⟨xs, hq, hx⟩ := hg
    obtain ⟨its, rv, p, hz⟩ := I.tuple hq
    obtain ⟨f0, f1, f2, f3, f4, f5⟩ := hf it (by simp)
    have hl := rv.length
    exact wpAny_pyNext_tuple_end (I.ok.hd hc) st (show s.heap.IsTuple a its.toArray from p) (by simp; omega) fun h' eb => ⟨rfl, I.turned (t' := s.toks) (fun b o hb e => eb b o hb e) f0 f1 f3 f4 f5⟩
  self := fun _ _ _ _ _ st h => wpAny_pyIter_tupleiter st h
theorem turn_range {P : Program} {w : World} {K : PySem.W.Frag} {tg : Expr} (it : Addr) (lo : Int) (n : Nat) : Turn P w K tg (Itr lo n) [it] it (fun i h => IsRangeIter h it (lo + (i : Nat) * 1) ((n : Int) - (i : Nat)) 1) where
  mem := by simp
  obj := fun i h st b hb => by
    have e : b = it := by simpa using hb
    subst e
    exact ⟨_, st, fun v z => by
      have z' : Data.fields _ = Data.cell v := z
      cases z'⟩
  keep := fun i h h' st k => k it (by simp) _ st
  item := by
    intro X hP hw hK hc i pins s σ H E I hf st hg
    subst hP hw hK
    obtain ⟨f0, f1, f2, f3, f4, f5⟩ := hf it (by simp)
    have W := Walks.range (prog := X.prog) (w := X.w) (I.ok.hd hc) it lo 1 n
    refine W.item i s _ _ hg st fun v h' tk hv st' kk => ?_
    obtain ⟨t, rfl⟩ := hv
    have I1 : Inv X pins σ H { s with heap := h', toks := tk } := I.turned (fun b o hb e => kk b o (by simpa using hb) e) f0 f1 f3 f4 f5
    refine ⟨_, rfl, go_of (s := { s with heap := h', toks := tk }) (n := "range_iterator") st' rfl rfl (by decide) ⟨.int (lo + i), H, I1, ⟨t, ?_⟩, ⟨rfl, rfl⟩, st', fun b hb => (hf b hb).1⟩⟩
    rw [Int.mul_one]
  done := by
    intro X hP hw hK hc i pins s σ H E I hf st hg
    subst hP hw hK
    obtain ⟨f0, f1, f2, f3, f4, f5⟩ := hf it (by simp)
    exact wpAny_pyNext_range_end (I.ok.hd hc) st (by have : n ≤ i := hg; omega) fun h' eb => ⟨rfl, I.turned (t' := s.toks) (fun b o hb e => eb b o hb e) f0 f1 f3 f4 f5⟩
  self := fun _ _ _ _ _ st h => wpAny_pyIter_rangeiter st h
end L2
namespace L2
open PySem PySem.Spec PyProof.Rows
section
variable {X : Cx} {tg : Expr}
theorem range_it {pins : List (Addr × Obj)} {σ : St} {H : Hp} {s : Shared} {R : It → Hp → Prop} {E : Value → Shared → Prop} {lo hi : Int} {t u v : Tok} {tk : Nat} (I : Inv X pins σ H s) (h1 : -(2 ^ 62) ≤ lo) (h2 : lo < 2 ^ 62) (h3 : -(2 ^ 62) ≤ hi) (h4 : hi < 2 ^ 62)
    (q : R (Itr lo (hi - lo).toNat) H) : wpAny (model X.prog X.w) X.A (pyIter (.ref s.heap.objs.size)) (PIE X pins σ tg R) E { s with heap := s.heap.push { cls := .type "range", data := .fields #[.int lo t, .int hi u, .int 1 v] }, toks := tk } := by
  refine wpAny_pyIter_range (IsRange.new ..) (small_one h1 h2 h3 h4) ?_
  have I1 : Inv X pins σ H { s with heap := s.heap.push { cls := .type "range", data := .fields #[.int lo t, .int hi u, .int 1 v] }, toks := tk } := I.kept fun b o e => Heap.get?_push_of_some _ e
  refine ⟨(s.heap.push { cls := .type "range", data := .fields #[.int lo t, .int hi u, .int 1 v] }).objs.size, [(s.heap.push { cls := .type "range", data := .fields #[.int lo t, .int hi u, .int 1 v] }).objs.size], _, _, H, rfl,
    I1.kept (t' := tk) fun b o e => Heap.get?_push_of_some _ e, turn_range _ lo (hi - lo).toNat, ?_, fun b hb => ?_, q⟩
  · have e1 : lo + ((0 : Nat) : Int) * 1 = lo := by simp
    have e2 : (((hi - lo).toNat : Nat) : Int) - ((0 : Nat) : Int) = Builtin.Range.rangeSize lo hi 1 := by rw [rangeSize_one]; split <;> omega
    show IsRangeIter _ _ (lo + ((0 : Nat) : Int) * 1) ((((hi - lo).toNat : Nat) : Int) - ((0 : Nat) : Int)) 1
    rw [e1, e2]
    exact Heap.get?_push_size _ rfl
  · have e : b = (s.heap.push { cls := .type "range", data := .fields #[.int lo t, .int hi u, .int 1 v] }).objs.size := by simpa using hb
    subst e
    exact I1.fpOk (Nat.le_refl _) (I1.hok.fresh (Nat.le_refl _))
def iRng1 (ta : TA) : TI := fun σ H R => ta σ H fun vs H1 => ∃ j : Int, vs = [.int j] ∧ -(2 ^ 62) ≤ j ∧ j < 2 ^ 62 ∧ R (Itr 0 j.toNat) H1
theorem pi_range1 {a : Expr} {ta : TA} {p pos : Pos} (hg : Gl X "range") (hm : X.mg "range" = none) (ha : PA X [a] ta) (hs : starEach [a] X.env = [(false, eval a X.env)] := by rfl) : PI X tg (.Call (.Name "range" p) [a] [] pos) (iRng1 ta) := by
  intro pins s σ H R I h
  refine Call_ (ld_blt I hg hm boot_range (PyProof.Rows.callWith_type1 (thn (ha pos pins s σ H _ I h) fun us s1 ⟨vs, H1, I1, r1, q1⟩ => ?_) hs rfl))
  obtain ⟨j, e, q1, q2, q⟩ := q1
  subst e
  cases r1 with
  | cons r rr =>
    cases rr
    obtain ⟨t, rfl⟩ := r
    exact call_range_1 (range_it I1 (by omega) (by omega) q1 q2 (by simpa using q))
def tFor (wi : TI) (g : TG) (tb : TS) : TS := fun D σ H => wi σ H fun J H1 => ∃ W : Nat → Nat → St → Hp → Prop, (∃ m, W 0 m σ H1) ∧ ∀ i m σ H, W i m σ H →
  (J.stop i H ∧ D.nx σ H) ∨ (J.go i H ∧ ∃ N : St → Hp → Prop, (∀ σ' H', N σ' H' → ∃ m', m' < m ∧ W (i + 1) m' σ' H') ∧ ∀ x H', J.yld i H x H' → g x σ H' fun σ2 H2 => tb { D with nx := N, ct := N, bk := D.nx } σ2 H2)
def pinsAt (fp : List Addr) (h : Heap) : List (Addr × Obj) := fp.filterMap fun b => (h.get? b).map fun o => (b, o)
theorem mem_pinsAt {fp : List Addr} {h : Heap} {b : Addr} {o : Obj} (hb : b ∈ fp) (e : h.get? b = some o) : (b, o) ∈ pinsAt fp h := List.mem_filterMap.mpr ⟨b, hb, by rw [e]; rfl⟩
theorem of_pinsAt {fp : List Addr} {h : Heap} {p : Addr × Obj} (hp : p ∈ pinsAt fp h) : p.1 ∈ fp ∧ h.get? p.1 = some p.2 := by
  obtain ⟨b, hb, e⟩ := List.mem_filterMap.mp hp
  cases q : h.get? b with
  | none => rw [q] at e; cases e
  | some o =>
    rw [q] at e
    have e' : (b, o) = p := Option.some.inj e
    subst e'
    exact ⟨hb, q⟩
theorem Inv.pinned {pins : List (Addr × Obj)} {σ : St} {H : Hp} {s : Shared} {fp : List Addr} (I : Inv X pins σ H s) (hf : ∀ b ∈ fp, FpOk X pins H b) (ho : ∀ b ∈ fp, ∃ o, s.heap.get? b = some o ∧ ∀ v, o.data ≠ .cell v) : Inv X (pins ++ pinsAt fp s.heap) σ H s :=
  I.pins_of fun p hp => (List.mem_append.mp hp).elim (fun z => I.pin p (List.mem_append_right _ z)) fun z => by
    obtain ⟨hb, e⟩ := of_pinsAt z
    obtain ⟨f0, f1, f2, _⟩ := hf p.1 hb
    obtain ⟨o, e', d⟩ := ho p.1 hb
    rw [e] at e'; cases e'
    exact ⟨e, f0, f1, f2, d⟩
theorem Inv.unpinned {pins pl : List (Addr × Obj)} {σ : St} {H : Hp} {s : Shared} (I : Inv X (pins ++ pl) σ H s) : Inv X pins σ H s := I.pins_of fun p hp => I.pin p (List.mem_append_right _ (List.mem_append_left _ hp))
theorem ps_for {iter : Expr} {body : List Stmt} {wi : TI} {g : TG} {tb : TS} {pos : Pos} (hp : PassesOwn (model X.prog X.w) X.A X.env X.xe) (hc : X.calm = true) (hi : PI X tg iter wi) (hg : PG X tg g) (hb : PSs X body tb)
    (hs : ∀ x, foldedSetIterable iter X.env x = pure x := by intro _; rfl) : PS X (.For tg iter body [] pos) (tFor wi g tb) := by
  intro pins s σ H D I h
  refine wpAny_For (thn (hi pins s σ H _ I h) fun v s1 h1 => thn h1 fun itv s2 h2 => ?_) hs
  obtain ⟨it, fp, tn, J, H2, e, I2, T, st2, f2, W, ⟨m0, w0⟩, turn⟩ := h2
  subst e
  -- what stays true of the iterator's objects through the loop
  have stat : ∀ {H' : Hp}, (∀ b ∈ fp, H' b = none) → ∀ b ∈ fp, FpOk X pins H' b := fun hn b hb => ⟨hn b hb, (f2 b hb).2⟩
  refine codeAny_forLoop_any (fun n s' => ∃ i σ' H', Inv X pins σ' H' s' ∧ tn i s'.heap ∧ (∀ b ∈ fp, H' b = none) ∧ W i n σ' H') ?_ m0 ⟨0, σ, H2, I2, st2, fun b hb => (f2 b hb).1, w0⟩
  rintro n s3 ⟨i, σ3, H3, I3, st3, fr3, w3⟩
  rcases turn i n σ3 H3 w3 with ⟨stop, qn⟩ | ⟨go, N, hN, step⟩
  · refine wpAny_passesOwn hp (thn (T.done X rfl rfl rfl hc i pins s3 σ3 H3 X.xe I3 (stat fr3) st3 stop) fun r s4 ⟨hr, I4⟩ => ?_)
    subst hr
    exact wpAny_execs_nil ⟨σ3, H3, I4, qn⟩
  · refine wpAny_passesOwn hp (thn (T.item X rfl rfl rfl hc i pins s3 σ3 H3 X.xe I3 (stat fr3) st3 go) fun r s4 ⟨u, hr, h4⟩ => ?_)
    subst hr
    refine wpAny_passesOwn hp (thn h4 fun _ s5 ⟨x, H5, I5, r5, y5, st5, fr5⟩ => ?_)
    have I5' := I5.pinned (stat fr5) (T.obj _ _ st5)
    refine wpAny_passesOwn hp (thn (hg _ s5 σ3 H5 x u _ I5' r5 (step x H5 y5)) fun _ s6 ⟨σ6, H6, I6, q6⟩ => ?_)
    refine wpAny_passesOwn hp (thn (hb _ s6 σ6 H6 _ I6 q6) fun f s7 q7 => ?_)
    have again : ∀ {σ7 : St} {H7 : Hp}, Inv X (pins ++ pinsAt fp s5.heap) σ7 H7 s7 → N σ7 H7 → ∃ m, m < n ∧ ∃ i σ' H', Inv X pins σ' H' s7 ∧ tn i s7.heap ∧ (∀ b ∈ fp, H' b = none) ∧ W i m σ' H' := fun {σ7 H7} I7 n7 => by
      obtain ⟨m', hm, w7⟩ := hN σ7 H7 n7
      refine ⟨m', hm, i + 1, σ7, H7, I7.unpinned, T.keep _ _ _ st5 fun b hb o e => (I7.pin (b, o) (List.mem_append_right _ (List.mem_append_right _ (mem_pinsAt hb e)))).1, fun b hb => ?_, w7⟩
      obtain ⟨o, e, d⟩ := T.obj _ _ st5 b hb
      exact (I7.pin (b, o) (List.mem_append_right _ (List.mem_append_right _ (mem_pinsAt hb e)))).2.1
    cases f with
    | next => obtain ⟨σ7, H7, I7, n7⟩ := q7; exact again I7 n7
    | cont => obtain ⟨σ7, H7, I7, n7⟩ := q7; exact again I7 n7
    | brk => obtain ⟨σ7, H7, I7, q7⟩ := q7; exact ⟨σ7, H7, I7.unpinned, q7⟩
    | ret v => obtain ⟨x7, σ7, H7, I7, r7, q7⟩ := q7; exact ⟨x7, σ7, H7, I7.unpinned, r7, q7⟩
end
end L2
namespace L2
open PySem PySem.Spec PyProof.Rows
abbrev R2 := V → V → Hp → VK → Prop
def OpR (X : Cx) (f : Value → Value → Sem Value) (r : R2) : Prop :=
  ∀ (pins : List (Addr × Obj)) (s : Shared) (σ : St) (H : Hp) (x y : V) (v u : Value) (Q : VK), Inv X pins σ H s → RelV x v → RelV y u → r x y H Q →
    wpAny (model X.prog X.w) X.A (f v u) (EP X pins σ Q) X.xe s
def UnR (X : Cx) (f : Value → Sem Value) (r : V → Hp → VK → Prop) : Prop :=
  ∀ (pins : List (Addr × Obj)) (s : Shared) (σ : St) (H : Hp) (x : V) (v : Value) (Q : VK), Inv X pins σ H s → RelV x v → r x H Q →
    wpAny (model X.prog X.w) X.A (f v) (EP X pins σ Q) X.xe s
def CallR (X : Cx) (f : Value) (r : List V → Hp → VK → Prop) : Prop :=
  ∀ (pins : List (Addr × Obj)) (s : Shared) (σ : St) (H : Hp) (xs : List V) (us : List Value) (Q : VK), Inv X pins σ H s → Vals xs us → r xs H Q →
    wpAny (model X.prog X.w) X.A (call f us) (EP X pins σ Q) X.xe s
def TruR (X : Cx) (r : V → Hp → (Bool → Hp → Prop) → Prop) : Prop :=
  ∀ (pins : List (Addr × Obj)) (s : Shared) (σ : St) (H : Hp) (x : V) (v : Value) (Q : Bool → Hp → Prop), Inv X pins σ H s → RelV x v → r x H Q →
    wpAny (model X.prog X.w) X.A (truthy v) (TP X pins σ Q) X.xe s
def tOp (r : R2) (ta tb : TE) : TE := fun σ H Q => ta σ H fun x H1 => tb σ H1 fun y H2 => r x y H2 Q
def tUn (r : V → Hp → VK → Prop) (ta : TE) : TE := fun σ H Q => ta σ H fun x H1 => r x H1 Q
def rI (C : Int → Int → Prop) (g : Int → Int → V) : R2 := fun x y H Q => ∃ i j, x = .int i ∧ y = .int j ∧ C i j ∧ Q (g i j) H
def rI0 (g : Int → Int → V) : R2 := fun x y H Q => ∃ i j, x = .int i ∧ y = .int j ∧ Q (g i j) H
def rU (g : Int → V) : V → Hp → VK → Prop := fun x H Q => ∃ i, x = .int i ∧ Q (g i) H
section
variable {X : Cx} {a b c : Expr} {ta tb tc : TE} {pos : Pos}
theorem binT (ha : PE X a ta) (hb : PE X b tb) {pins : List (Addr × Obj)} {s : Shared} {σ : St} {H : Hp} {R : V → V → Hp → Prop} (I : Inv X pins σ H s)
    (h : ta σ H fun x H1 => tb σ H1 fun y H2 => R x y H2) {Q : Value → Shared → Prop} {f : Value → Value → Sem Value}
    (hf : ∀ v u s2 x y H2, Inv X pins σ H2 s2 → RelV x v → RelV y u → R x y H2 → wpAny (model X.prog X.w) X.A (f v u) Q X.xe s2) :
    wpAny (model X.prog X.w) X.A (eval a X.env) (fun v s₁ => wpAny (model X.prog X.w) X.A (eval b X.env) (fun u s₂ => wpAny (model X.prog X.w) X.A (f v u) Q X.xe s₂) X.xe s₁) X.xe s := by
  refine thn (ha pins s σ H _ I h) fun v s1 ⟨x, H1, I1, r1, q1⟩ => ?_
  refine thn (hb pins s1 σ H1 _ I1 q1) fun u s2 ⟨y, H2, I2, r2, q2⟩ => ?_
  exact hf v u s2 x y H2 I2 r1 r2 q2
theorem pe_op {op : Operator} {r : R2} (ho : OpR X (binaryOp op) r) (ha : PE X a ta) (hb : PE X b tb) : PE X (.BinOp a op b pos) (tOp r ta tb) := by
  intro pins s σ H Q I h
  exact wpAny_BinOp (binT ha hb I h fun v u s2 x y H2 I2 rx ry q => ho pins s2 σ H2 x y v u Q I2 rx ry q)
theorem pe_un {op : UnaryOp} {r : V → Hp → VK → Prop} (ho : UnR X (unaryOp op) r) (ha : PE X a ta) : PE X (.UnaryOp op a pos) (tUn r ta) := by
  intro pins s σ H Q I h
  exact UnaryOp_ (thn (ha pins s σ H _ I h) fun v s1 ⟨x, H1, I1, r1, q1⟩ => ho pins s1 σ H1 x v Q I1 r1 q1)
theorem opI {f : Value → Value → Sem Value} {C : Int → Int → Prop} {g : Int → Int → Int}
    (rule : ∀ (i j : Int) (t u : Tok) (s : Shared) (Q : Value → Shared → Prop) (E : Value → Shared → Prop), C i j → Q (.int (g i j) s.toks) { s with toks := s.toks + 1 } → wpAny (model X.prog X.w) X.A (f (.int i t) (.int j u)) Q E s) :
    OpR X f (rI C fun i j => .int (g i j)) := by
  intro pins s σ H x y v u Q I rx ry h
  obtain ⟨i, j, rfl, rfl, hc, q⟩ := h
  obtain ⟨t, rfl⟩ := rx
  obtain ⟨t', rfl⟩ := ry
  exact rule i j t t' s _ _ hc ⟨.int (g i j), H, I.tok _, ⟨_, rfl⟩, q⟩
theorem opI0 {f : Value → Value → Sem Value} {g : Int → Int → Int}
    (rule : ∀ (i j : Int) (t u : Tok) (s : Shared) (Q : Value → Shared → Prop) (E : Value → Shared → Prop), Q (.int (g i j) s.toks) { s with toks := s.toks + 1 } → wpAny (model X.prog X.w) X.A (f (.int i t) (.int j u)) Q E s) :
    OpR X f (rI0 fun i j => .int (g i j)) := by
  intro pins s σ H x y v u Q I rx ry h
  obtain ⟨i, j, rfl, rfl, q⟩ := h
  obtain ⟨t, rfl⟩ := rx
  obtain ⟨t', rfl⟩ := ry
  exact rule i j t t' s _ _ ⟨.int (g i j), H, I.tok _, ⟨_, rfl⟩, q⟩
theorem opB0 {f : Value → Value → Sem Value} {g : Int → Int → Bool}
    (rule : ∀ (i j : Int) (t u : Tok) (s : Shared) (Q : Value → Shared → Prop) (E : Value → Shared → Prop), Q (.bool (g i j)) s → wpAny (model X.prog X.w) X.A (f (.int i t) (.int j u)) Q E s) :
    OpR X f (rI0 fun i j => .bl (g i j)) := by
  intro pins s σ H x y v u Q I rx ry h
  obtain ⟨i, j, rfl, rfl, q⟩ := h
  obtain ⟨t, rfl⟩ := rx
  obtain ⟨t', rfl⟩ := ry
  exact rule i j t t' s _ _ ⟨.bl (g i j), H, I, rfl, q⟩
def CDiv (i j : Int) : Prop := 0 < j ∧ j < 1073741824
def CMul (i j : Int) : Prop := (-(2 ^ 64) < i ∧ i < 2 ^ 64) ∨ (-(2 ^ 64) < j ∧ j < 2 ^ 64)
theorem CMul.ok {i j : Int} (h : CMul i j) : IntMulOk i j := by
  rcases h with ⟨h1, h2⟩ | ⟨h1, h2⟩
  · exact .of_left (intBits_le_64 h1 h2)
  · exact .of_right (intBits_le_64 h1 h2)
theorem op_add : OpR X (binaryOp .Add) (rI0 fun i j => .int (i + j)) := opI0 fun _ _ _ _ _ _ _ q => add_int q
theorem op_sub : OpR X (binaryOp .Sub) (rI0 fun i j => .int (i - j)) := opI0 fun _ _ _ _ _ _ _ q => sub_int q
theorem op_fdiv : OpR X (binaryOp .FloorDiv) (rI CDiv fun i j => .int (i / j)) := opI fun i j _ _ _ _ _ hc q => by
  have h1 : (0 : Int) < j := hc.1
  have h2 : j < 1073741824 := hc.2
  exact floordiv_int (by omega) (by rw [Int.fdiv_eq_ediv_of_nonneg i (by omega)]; exact q) (.inl (PyProof.noPylong_small (by omega)))
theorem op_mod : OpR X (binaryOp .Mod) (rI (fun _ j => 0 < j) fun i j => .int (i % j)) := opI fun i j _ _ _ _ _ hc q => by
  have h1 : (0 : Int) < j := hc
  exact mod_int' (by omega) (by rw [Int.fmod_eq_emod_of_nonneg i (by omega)]; exact q)
theorem unI {f : Value → Sem Value} {g : Int → Int}
    (rule : ∀ (i : Int) (t : Tok) (s : Shared) (Q : Value → Shared → Prop) (E : Value → Shared → Prop), Q (.int (g i) s.toks) { s with toks := s.toks + 1 } → wpAny (model X.prog X.w) X.A (f (.int i t)) Q E s) :
    UnR X f (rU fun i => .int (g i)) := by
  intro pins s σ H x v Q I rx h
  obtain ⟨i, rfl, q⟩ := h
  obtain ⟨t, rfl⟩ := rx
  exact rule i t s _ _ ⟨.int (g i), H, I.tok _, ⟨_, rfl⟩, q⟩
theorem un_neg : UnR X (unaryOp .USub) (rU fun i => .int (-i)) := unI fun _ _ _ _ _ q => neg_int q
end
def scal : V → V → Bool
  | .non, .non => true | .non, .int _ => true | .int _, .non => true | .non, .bl _ => true | .bl _, .non => true | .non, .str _ => true | .str _, .non => true
  | .int _, .int _ => true | .bl _, .bl _ => true | .str _, .str _ => true | .byt _, .byt _ => true
  | .int _, .str _ => true | .str _, .int _ => true | .bl _, .str _ => true | .str _, .bl _ => true
  | _, _ => false
def rEq : R2 := fun x y H Q => scal x y = true ∧ Q (.bl (decide (x = y))) H
def rNe : R2 := fun x y H Q => scal x y = true ∧ Q (.bl (!decide (x = y))) H
theorem dec_int {i j : Int} : decide (V.int i = V.int j) = (i == j) := by
  rw [Bool.eq_iff_iff]
  simp
theorem dec_bl {i j : Bool} : decide (V.bl i = V.bl j) = (i == j) := by
  rw [Bool.eq_iff_iff]
  simp
theorem dec_str {i j : Str} : decide (V.str i = V.str j) = (i == j) := by
  rw [Bool.eq_iff_iff]
  simp
theorem dec_byt {i j : Array UInt8} : decide (V.byt i = V.byt j) = (i.toList == j.toList) := by
  rw [Bool.eq_iff_iff]
  cases i
  cases j
  simp
section
variable {X : Cx} {a b c : Expr} {ta tb tc : TE} {pos : Pos}
theorem fin_bl {pins : List (Addr × Obj)} {σ : St} {H : Hp} {s : Shared} {Q : VK} {k k' : Bool} (I : Inv X pins σ H s) (q : Q (.bl k) H) (e : k = k') : EP X pins σ Q (.bool k') s := by
  subst e
  exact ⟨.bl k, H, I, rfl, q⟩
theorem op_eq : OpR X (compareOp .Eq) rEq := by
  intro pins s σ H x y v u Q I rx ry h
  obtain ⟨hs, q⟩ := h
  cases x with
  | non =>
    cases rx
    cases y with
    | non => cases ry; exact PySem.EqNone.eq_none_none (fin_bl I q (by simp))
    | bl j => cases ry; exact PySem.EqNone.eq_none_bool (fin_bl I q (by simp))
    | int j => obtain ⟨t', rfl⟩ := ry; exact PySem.EqNone.eq_none_int (fin_bl I q (by simp))
    | str j => obtain ⟨t', rfl⟩ := ry; exact PySem.EqNone.eq_none_str (fin_bl I q (by simp))
    | _ => exact absurd (show false = true from hs) Bool.false_ne_true
  | bl i =>
    cases rx
    cases y with
    | non => cases ry; exact PySem.EqNone.eq_bool_none (fin_bl I q (by simp))
    | bl j => cases ry; exact eq_bool (fin_bl I q dec_bl)
    | str j => obtain ⟨t', rfl⟩ := ry; exact PySem.EqMixed.eq_bool_str (fin_bl I q (by simp))
    | _ => exact absurd (show false = true from hs) Bool.false_ne_true
  | int i =>
    obtain ⟨t, rfl⟩ := rx
    cases y with
    | non => cases ry; exact PySem.EqNone.eq_int_none (fin_bl I q (by simp))
    | int j => obtain ⟨t', rfl⟩ := ry; exact eq_int (fin_bl I q dec_int)
    | str j => obtain ⟨t', rfl⟩ := ry; exact PySem.EqMixed.eq_int_str (fin_bl I q (by simp))
    | _ => exact absurd (show false = true from hs) Bool.false_ne_true
  | str i =>
    obtain ⟨t, rfl⟩ := rx
    cases y with
    | non => cases ry; exact PySem.EqNone.eq_str_none (fin_bl I q (by simp))
    | bl j => cases ry; exact PySem.EqMixed.eq_str_bool (fin_bl I q (by simp))
    | int j => obtain ⟨t', rfl⟩ := ry; exact PySem.EqMixed.eq_str_int (fin_bl I q (by simp))
    | str j => obtain ⟨t', rfl⟩ := ry; exact eq_str (fin_bl I q dec_str)
    | _ => exact absurd (show false = true from hs) Bool.false_ne_true
  | byt i =>
    obtain ⟨t, rfl⟩ := rx
    cases y with
    | byt j => obtain ⟨t', rfl⟩ := ry; exact PySem.W.eq_bytes (fin_bl I q dec_byt)
    | _ => exact absurd (show false = true from hs) Bool.false_ne_true
  | _ => cases y <;> exact absurd (show false = true from hs) Bool.false_ne_true
theorem op_ne : OpR X (compareOp .NotEq) rNe := by
  intro pins s σ H x y v u Q I rx ry h
  obtain ⟨hs, q⟩ := h
  cases x with
  | non =>
    cases rx
    cases y with
    | non => cases ry; exact PySem.EqNone.ne_none_none (fin_bl I q (by simp))
    | bl j => cases ry; exact PySem.EqNone.ne_none_bool (fin_bl I q (by simp))
    | int j => obtain ⟨t', rfl⟩ := ry; exact PySem.EqNone.ne_none_int (fin_bl I q (by simp))
    | str j => obtain ⟨t', rfl⟩ := ry; exact PySem.EqNone.ne_none_str (fin_bl I q (by simp))
    | _ => exact absurd (show false = true from hs) Bool.false_ne_true
  | bl i =>
    cases rx
    cases y with
    | non => cases ry; exact PySem.EqNone.ne_bool_none (fin_bl I q (by simp))
    | bl j => cases ry; exact ne_bool (fin_bl I q (congrArg not dec_bl))
    | str j => obtain ⟨t', rfl⟩ := ry; exact PySem.EqMixed.ne_bool_str (fin_bl I q (by simp))
    | _ => exact absurd (show false = true from hs) Bool.false_ne_true
  | int i =>
    obtain ⟨t, rfl⟩ := rx
    cases y with
    | non => cases ry; exact PySem.EqNone.ne_int_none (fin_bl I q (by simp))
    | int j => obtain ⟨t', rfl⟩ := ry; exact ne_int (fin_bl I q (congrArg not dec_int))
    | str j => obtain ⟨t', rfl⟩ := ry; exact PySem.EqMixed.ne_int_str (fin_bl I q (by simp))
    | _ => exact absurd (show false = true from hs) Bool.false_ne_true
  | str i =>
    obtain ⟨t, rfl⟩ := rx
    cases y with
    | non => cases ry; exact PySem.EqNone.ne_str_none (fin_bl I q (by simp))
    | bl j => cases ry; exact PySem.EqMixed.ne_str_bool (fin_bl I q (by simp))
    | int j => obtain ⟨t', rfl⟩ := ry; exact PySem.EqMixed.ne_str_int (fin_bl I q (by simp))
    | str j => obtain ⟨t', rfl⟩ := ry; exact ne_str (fin_bl I q (congrArg not dec_str))
    | _ => exact absurd (show false = true from hs) Bool.false_ne_true
  | byt i =>
    obtain ⟨t, rfl⟩ := rx
    cases y with
    | byt j => obtain ⟨t', rfl⟩ := ry; exact PySem.W.ne_bytes (fin_bl I q (congrArg not dec_byt))
    | _ => exact absurd (show false = true from hs) Bool.false_ne_true
  | _ => cases y <;> exact absurd (show false = true from hs) Bool.false_ne_true
theorem op_lt : OpR X (compareOp .Lt) (rI0 fun i j => .bl (decide (i < j))) := opB0 fun _ _ _ _ _ _ _ q => lt_int q
theorem op_le : OpR X (compareOp .LtE) (rI0 fun i j => .bl (decide (i ≤ j))) := opB0 fun _ _ _ _ _ _ _ q => le_int q
theorem op_gt : OpR X (compareOp .Gt) (rI0 fun i j => .bl (decide (j < i))) := opB0 fun _ _ _ _ _ _ _ q => gt_int q
theorem op_in_str : OpR X (compareOp .In) (fun x y H Q => ∃ i j, x = .str i ∧ y = .str j ∧ Q (.bl (!(Builtin.Str.occurrences j i 0 j.length 1).isEmpty)) H) := by
  intro pins s σ H x y v u Q I rx ry h
  obtain ⟨i, j, rfl, rfl, q⟩ := h
  obtain ⟨t, rfl⟩ := rx
  obtain ⟨t', rfl⟩ := ry
  exact in_str (fin_bl I q rfl)
theorem op_isN : OpR X (compareOp .Is) (fun x y H Q => y = .non ∧ Q (.bl (decide (x = .non))) H) := by
  intro pins s σ H x y v u Q I rx ry h
  obtain ⟨rfl, q⟩ := h
  cases ry
  refine is_none_gen (fin_bl I q ?_)
  cases x <;> first
    | (cases rx; rfl)
    | (obtain ⟨t, rfl⟩ := rx; rfl)
theorem op_notN : OpR X (compareOp .IsNot) (fun x y H Q => y = .non ∧ Q (.bl (!decide (x = .non))) H) := by
  intro pins s σ H x y v u Q I rx ry h
  obtain ⟨rfl, q⟩ := h
  cases ry
  refine isnot_none_gen (fin_bl I q ?_)
  cases x <;> first
    | (cases rx; rfl)
    | (obtain ⟨t, rfl⟩ := rx; rfl)
theorem op_notin_str : OpR X (compareOp .NotIn) (fun x y H Q => ∃ i j, x = .str i ∧ y = .str j ∧ Q (.bl (!(!(Builtin.Str.occurrences j i 0 j.length 1).isEmpty))) H) := by
  intro pins s σ H x y v u Q I rx ry h
  obtain ⟨i, j, rfl, rfl, q⟩ := h
  obtain ⟨t, rfl⟩ := rx
  obtain ⟨t', rfl⟩ := ry
  exact notIn_str (fin_bl I q rfl)
theorem OpR.or {f : Value → Value → Sem Value} {r r' : R2} (h : OpR X f r) (h' : OpR X f r') : OpR X f (fun x y H Q => r x y H Q ∨ r' x y H Q) := by
  intro pins s σ H x y v u Q I rx ry q
  rcases q with q | q
  · exact h pins s σ H x y v u Q I rx ry q
  · exact h' pins s σ H x y v u Q I rx ry q
theorem nomark (b : Expr) {op : CmpOp} (h : op ≠ .In := by decide) (h2 : op ≠ .NotIn := by decide) : behindInMarks op b = false := by
  have e1 : (op == CmpOp.In) = false := by cases op <;> first | rfl | exact absurd rfl h
  have e2 : (op == CmpOp.NotIn) = false := by cases op <;> first | rfl | exact absurd rfl h2
  cases b <;> simp [behindInMarks, e1, e2]
theorem pe_cmpR {op : CmpOp} {r : R2} (ho : OpR X (compareOp op) r) (ha : PE X a ta) (hb : PE X b tb) (hm : behindInMarks op b = false) : PE X (.Compare a [op] [b] pos) (tOp r ta tb) := by
  intro pins s σ H Q I h
  exact wpAny_Compare1 (binT ha hb I h fun v u s2 x y H2 I2 rx ry q => ho pins s2 σ H2 x y v u Q I2 rx ry q) hm
def tTest (t : TE) : TT := fun σ H Q => t σ H fun x H' => ∃ k, x = .bl k ∧ Q k H'
theorem pt_cmpR {op : CmpOp} {r : R2} (ho : OpR X (compareOp op) r) (ha : PE X a ta) (hb : PE X b tb) (hm : behindInMarks op b = false) : PT X (.Compare a [op] [b] pos) (tTest (tOp r ta tb)) := by
  intro pins s σ H Q I h
  refine wpAny_isTrue_Compare1 (thn (ha pins s σ H _ I h) fun v s1 ⟨x, H1, I1, r1, q1⟩ => thn (hb pins s1 σ H1 _ I1 q1) fun u s2 ⟨y, H2, I2, r2, q2⟩ =>
    thn (ho pins s2 σ H2 x y v u _ I2 r1 r2 q2) fun c s3 ⟨z, H3, I3, r3, k, e, q3⟩ => ?_) hm
  subst e
  cases r3
  exact wpAny_truthy_bool ⟨H3, I3, q3⟩
def tChain (r r' : R2) (ta tb tc : TE) : TE := fun σ H Q => ta σ H fun x H1 => tb σ H1 fun y H2 => r x y H2 fun z H3 => ∃ k, z = .bl k ∧
  (if k = true then tc σ H3 fun w' H4 => r' y w' H4 Q else Q (.bl false) H3)
theorem pe_chain {op op' : CmpOp} {r r' : R2} (ho : OpR X (compareOp op) r) (ho' : OpR X (compareOp op') r') (ha : PE X a ta) (hb : PE X b tb) (hc : PE X c tc)
    (hm : lastMarks [op, op'] [b, c] = false := by with_unfolding_all rfl) : PE X (.Compare a [op, op'] [b, c] pos) (tChain r r' ta tb tc) := by
  intro pins s σ H Q I h
  refine Compare_chain (thn (ha pins s σ H _ I h) fun v s1 ⟨x, H1, I1, r1, q1⟩ => chain_link (thn (hb pins s1 σ H1 _ I1 q1) fun u s2 ⟨y, H2, I2, r2, q2⟩ =>
    thn (ho pins s2 σ H2 x y v u _ I2 r1 r2 q2) fun d s3 ⟨z, H3, I3, r3, k, e, q3⟩ => ?_)) hm
  subst e
  cases r3
  refine wpAny_truthy_bool ?_
  cases k with
  | false => exact ite_ff ⟨.bl false, H3, I3, rfl, q3⟩
  | true => exact ite_tt (chain_last (thn (hc pins s3 σ H3 _ I3 q3) fun w' s4 ⟨z', H4, I4, r4, q4⟩ => ho' pins s4 σ H4 y z' u w' Q I4 r2 r4 q4))
def TruV (K : PySem.W.Frag) (x : V) (H : Hp) (k : Bool) : Prop :=
  match x with
  | .non => k = false
  | .bl b => k = b
  | .int i => k = (i != 0)
  | .str y => y.length ≤ sizeLine ∧ k = ((y.length : Int) != 0)
  | .byt y => y.size ≤ sizeLine ∧ k = ((y.size : Int) != 0)
  | .ref p => (∃ xs, SqL K H p xs ∧ k = !xs.isEmpty) ∨ (∃ xs, SqT K H p xs ∧ k = !xs.isEmpty) ∨ ∃ kvs, H p = some (.dK kvs) ∧ k = !kvs.isEmpty
  | _ => False
theorem isEmpty_kv {κ : Type} {kvs : List (κ × V)} {vs : List (κ × Value)} (r : KV kvs vs) : (!vs.isEmpty) = !kvs.isEmpty := by
  cases r <;> rfl
theorem isEmpty_of {xs : List V} {its : List Value} (r : Vals xs its) : (!its.toArray.isEmpty) = !xs.isEmpty := by
  cases r <;> simp
theorem line63 : (sizeLine : Nat) < 2 ^ 63 := by rw [sizeLine_eq]; decide
theorem tru_ok : TruR X (fun x H Q => ∃ k, TruV X.K x H k ∧ Q k H) := by
  intro pins s σ H x v Q I rx h
  obtain ⟨k, e, q⟩ := h
  have hl := line63
  have hs : sizeLine = 16777216 := sizeLine_eq
  cases x with
  | non =>
    cases rx
    have e' : k = false := e
    subst e'
    exact truthy_none ⟨H, I, q⟩
  | bl b =>
    cases rx
    have e' : k = b := e
    subst e'
    exact wpAny_truthy_bool ⟨H, I, q⟩
  | int i =>
    obtain ⟨t, rfl⟩ := rx
    have e' : k = (i != 0) := e
    subst e'
    exact PySem.P.truthy_int ⟨H, I, q⟩
  | str y =>
    obtain ⟨t, rfl⟩ := rx
    obtain ⟨hy, e'⟩ : y.length ≤ sizeLine ∧ k = ((y.length : Int) != 0) := e
    subst e'
    exact PySem.P.truthy_str (by omega) ⟨H, I.tok _, q⟩
  | byt y =>
    obtain ⟨t, rfl⟩ := rx
    obtain ⟨hy, e'⟩ : y.size ≤ sizeLine ∧ k = ((y.size : Int) != 0) := e
    subst e'
    exact PySem.W.truthy_bytes (by omega) ⟨H, I.tok _, q⟩
  | ref p =>
    cases rx
    have e' : (∃ xs, SqL X.K H p xs ∧ k = !xs.isEmpty) ∨ (∃ xs, SqT X.K H p xs ∧ k = !xs.isEmpty) ∨ ∃ kvs, H p = some (.dK kvs) ∧ k = !kvs.isEmpty := e
    rcases e' with ⟨xs, hx, e'⟩ | ⟨xs, hx, e'⟩ | ⟨kvs, hx, e'⟩
    · subst e'
      obtain ⟨its, r, pl, hz⟩ := I.list hx
      have hlen := r.length
      exact wpAny_truthy_list pl.isList (by simp only [List.size_toArray]; omega) ⟨H, I.tok _, by rw [isEmpty_of r]; exact q⟩
    · subst e'
      obtain ⟨its, r, pl, hz⟩ := I.tuple hx
      have hlen := r.length
      exact truthy_tuple pl (by simp only [List.size_toArray]; omega) ⟨H, I.tok _, by rw [isEmpty_of r]; exact q⟩
    · subst e'
      obtain ⟨hz, hS, vs, r, m⟩ : kvs.length ≤ sizeLine ∧ (p == sysModules) = false ∧ ∃ vs, KV kvs vs ∧ s.heap.DictOf (mixKind X.prog X.w) p vs := I.hok p _ hx
      have hlen : kvs.length = vs.length := Paired.length r
      exact wpAny_truthy_dict hS m (by omega) ⟨H, I.tok _, by rw [isEmpty_kv r]; exact q⟩
  | _ => exact (show False from e).elim
theorem pt_truth (ha : PE X a ta) (he : ∀ whole, isTrue a X.env whole = (do let v ← whole; standAt a.pos; holding [v] (truthy v))) :
    PT X a (fun σ H Q => ta σ H fun x H' => ∃ k, TruV X.K x H' k ∧ Q k H') := by
  intro pins s σ H Q I h
  exact isTrue_plain (thn (ha pins s σ H _ I h) fun v s1 ⟨x, H1, I1, r1, q1⟩ => tru_ok pins s1 σ H1 x v Q I1 r1 q1) (he _)
theorem op_add_str : OpR X (binaryOp .Add) (fun x y H Q => ∃ i j, x = .str i ∧ y = .str j ∧ i.length + j.length ≤ sizeLine ∧ Q (.str (i ++ j)) H) := by
  intro pins s σ H x y v u Q I rx ry h
  obtain ⟨i, j, rfl, rfl, hz, q⟩ := h
  obtain ⟨t, rfl⟩ := rx
  obtain ⟨t', rfl⟩ := ry
  exact add_str (fun t' tk => ⟨.str (i ++ j), H, I.tok _, ⟨_, rfl⟩, q⟩) hz
theorem vals1 {x : V} {us : List Value} (r : Vals [x] us) : ∃ u, us = [u] ∧ RelV x u := by
  cases r with
  | cons r1 r2 => cases r2; exact ⟨_, rfl, r1⟩
theorem vals2 {x y : V} {us : List Value} (r : Vals [x, y] us) : ∃ u w', us = [u, w'] ∧ RelV x u ∧ RelV y w' := by
  cases r with
  | cons r1 r2 =>
    cases r2 with
    | cons r3 r4 => cases r4; exact ⟨_, _, rfl, r1, r3⟩
theorem call_int1 : CallR X (.type "int") (fun xs H Q => (∃ i, xs = [.int i] ∧ Q (.int i) H) ∨ ∃ k, xs = [.bl k] ∧ Q (.int (if k then 1 else 0)) H) := by
  intro pins s σ H xs us Q I r h
  rcases h with ⟨i, rfl, q⟩ | ⟨k, rfl, q⟩
  · obtain ⟨u, rfl, t, rfl⟩ := vals1 r
    exact call_int_int ⟨.int i, H, I, ⟨_, rfl⟩, q⟩
  · obtain ⟨u, rfl, r1⟩ := vals1 r
    cases r1
    exact call_int_bool ⟨.int (if k then 1 else 0), H, I.tok _, ⟨_, rfl⟩, q⟩
def LenV (K : PySem.W.Frag) (x : V) (H : Hp) (n : Nat) : Prop :=
  match x with
  | .str y => y.length ≤ sizeLine ∧ n = y.length
  | .byt y => y.size ≤ sizeLine ∧ n = y.size
  | .ref p => (∃ xs, SqL K H p xs ∧ n = xs.length) ∨ ∃ xs, SqT K H p xs ∧ n = xs.length
  | _ => False
theorem call_len : CallR X (.builtin "len") (fun xs H Q => ∃ x n, xs = [x] ∧ LenV X.K x H n ∧ Q (.int n) H) := by
  intro pins s σ H xs us Q I r h
  obtain ⟨x, n, rfl, e, q⟩ := h
  obtain ⟨u, rfl, rx⟩ := vals1 r
  have hl := line63
  have hs : sizeLine = 16777216 := sizeLine_eq
  cases x with
  | str y =>
    obtain ⟨t, rfl⟩ := rx
    obtain ⟨hy, e'⟩ : y.length ≤ sizeLine ∧ n = y.length := e
    subst e'
    exact len_str (by omega) ⟨.int _, H, I.tok _, ⟨_, rfl⟩, q⟩
  | byt y =>
    obtain ⟨t, rfl⟩ := rx
    obtain ⟨hy, e'⟩ : y.size ≤ sizeLine ∧ n = y.size := e
    subst e'
    exact PySem.W.len_bytes (by omega) ⟨.int _, H, I.tok _, ⟨_, rfl⟩, q⟩
  | ref p =>
    cases rx
    have e' : (∃ xs, SqL X.K H p xs ∧ n = xs.length) ∨ ∃ xs, SqT X.K H p xs ∧ n = xs.length := e
    rcases e' with ⟨xs, hx, e'⟩ | ⟨xs, hx, e'⟩
    · subst e'
      obtain ⟨its, r', pl, hz⟩ := I.list hx
      have hlen := r'.length
      exact Calls.call_len_list pl.isList (by simp only [List.size_toArray]; omega) ⟨.int xs.length, H, I.tok _, ⟨_, by simp only [List.size_toArray]; rw [hlen]⟩, q⟩
    · subst e'
      obtain ⟨its, r', pl, hz⟩ := I.tuple hx
      have hlen := r'.length
      exact len_tuple pl (by simp only [List.size_toArray]; omega) ⟨.int xs.length, H, I.tok _, ⟨_, by simp only [List.size_toArray]; rw [hlen]⟩, q⟩
  | _ => exact (show False from e).elim
end
end L2
namespace L2
open PySem PySem.Spec PyProof.Rows
structure ObjM (h : Heap) (x dx C : Addr) (mA : Str → Option Value) : Prop where
  obj : h.get? x = some (PySem.W.instObj C dx)
  ns : h.Ns1 dx mA
  ne : dx ≠ x
theorem lookIn_ns {h : Heap} {dx : Addr} {mA : Str → Option Value} (n : h.Ns1 dx mA) : ∃ od, h.get? dx = some od ∧ ∀ name, PySem.W.lookIn name od = some (mA name) := by
  obtain ⟨o, es, ep, ho, hd, hk, _, hm⟩ := n
  refine ⟨o, ho, fun name => ?_⟩
  have e := hm name
  unfold nsFind findBy at e
  rw [← Array.find?_toList] at e
  unfold PySem.W.lookIn
  rw [hd]
  dsimp only
  split
  · rename_i y q
    rw [q] at e
    exact congrArg some e
  · rename_i q
    rw [q] at e
    have a : es.toList.any (·.refKey) = false := by
      rw [List.any_eq_false]
      intro y hy
      obtain ⟨z, t, hkey⟩ := hk y (Array.mem_toList_iff.mp hy)
      simp [DictEntry.refKey, hkey]
    have a' : ¬ es.toList.any (·.refKey) = true := by rw [a]; exact Bool.false_ne_true
    rw [if_neg a']
    exact congrArg some e
theorem ObjM.look {h : Heap} {x dx C : Addr} {mA : Str → Option Value} (I : ObjM h x dx C mA) : ∃ od, PySem.W.InstAt h x (PySem.W.instObj C dx) C (some od) ∧ ∀ name, PySem.W.lookIn name od = some (mA name) :=
  let ⟨od, ho, hl⟩ := lookIn_ns I.ns
  ⟨od, ⟨I.obj, rfl, rfl, ho⟩, hl⟩
section
variable {prog : Program} {w : World} {A : Around} {E : Value → Shared → Prop} {s : Shared} {K : PySem.W.Frag} {x dx C f : Addr} {mA : Str → Option Value} {name : Str} {v : Value}
theorem get_map {expr : Bool} {Q : Value → Shared → Prop} (X : K.In s.heap) (I : ObjM s.heap x dx C mA) (hg : PySem.W.plainGet K C name = true) (hh : PySem.W.hasDictIn K C = true)
    (ha : PySem.W.findIn K (.ref C) name = some none) (hv : mA name = some v) (hv' : PySem.W.handedIn v = true) (h : Q v { s with toks := s.toks + 1 }) :
    wpAny (model prog w) A (getAttr (.ref x) name expr) Q E s := by
  obtain ⟨od, J, hl⟩ := I.look
  exact PySem.W.get_value X J (PySem.W.plainGet_of hg).1 (PySem.W.findObj_own hh ha rfl (by rw [hl, hv])) hv' h
theorem get_meth {pl : Sem Bool} {Q : Value × List Value → Shared → Prop} (X : K.In s.heap) (I : ObjM s.heap x dx C mA) (hg : PySem.W.plainGet K C name = true)
    (hf : PySem.W.findIn K (.ref C) name = some (some (.ref f))) (ht : PySem.W.isFn K (.ref f) = true) (hv : mA name = none) (h : Q (.ref f, [.ref x]) s) :
    wpAny (model prog w) A (getMethod (.ref x) name pl) Q E s := by
  obtain ⟨od, J, hl⟩ := I.look
  exact PySem.W.method_fn X J (PySem.W.plainGet_of hg).1 (PySem.W.plainGet_of hg).2 hf (beq_iff_eq.mp ht) (by show (PySem.W.lookIn name od).map (·.isSome) = some false; rw [hl, hv]; rfl) h
theorem set_map {ns : List Str} {Q : Unit → Shared → Prop} (X : K.In s.heap) (I : ObjM s.heap x dx C mA)
    (hs : PySem.W.findIn K (.ref C) "__setattr__" = some (some (.builtin "object.__setattr__"))) (hp : PySem.W.plainOver K C = true) (ht : PySem.W.takerIn K C name = some none) (hh : PySem.W.hasDictIn K C = true)
    (hw : PySem.Within mA ns) (hsz : ns.length ≤ sizeLine)
    (h : ∀ h', ObjM h' x dx C (fun y => if y = name then some v else mA y) → Heap.SameBut dx s.heap h' → Q () { s with heap := h', toks := s.toks + 2 }) :
    wpAny (model prog w) A (setAttr (.ref x) name v) Q E s := by
  obtain ⟨od, J, hl⟩ := I.look
  refine PySem.W.set_plain X J hs (PySem.W.osa_open (s := { s with toks := s.toks + 1 }) (r := none) X J hp ht fun b => ?_)
  obtain ⟨cd, hc, hd'⟩ := PySem.W.any_some hh
  have hx : s.heap.get? x = some ⟨.ref C, some dx, .plain, #[]⟩ := I.obj
  refine wpAny_bind (wpAny_pure (wpAny_bind (wpAny_bind (wpAny_loadPart hx (wpAny_bind (PySem.W.Looks.here (s := { s with toks := s.toks + 1 }) (PySem.W.looks_clsIn X hc) ?_))))))
  rw [hd']
  refine wpAny_pure (a := some dx) (wpAny_bind (wpAny_pure (wpAny_bind ?_)))
  refine wpAny_nsSet1 (s := { s with toks := s.toks + 1 }) I.ns fun h' hn2 hs2 => ?_
  obtain ⟨oD, esD, epD, hoD, hdD, hcD⟩ := hn2.count (PySem.Within.cons name v hw)
  refine wpAny_bind (wpAny_lookBehind hoD (by rw [hdD]; exact pastItsLine_dict (Nat.le_trans hcD (by rw [List.length_cons]; omega))) ?_)
  exact wpAny_pure (h _ ⟨(hs2.2 _ (Ne.symm I.ne)).trans I.obj, hn2, I.ne⟩ hs2)
theorem make_map {R : Result → Shared → Prop} {vs : List Value} {kw : List (Str × Value)} (X : K.In s.heap) (hm : PySem.W.makesIn K C = true)
    (hi : PySem.W.findIn K (.ref C) "__init__" = some (some (.ref f))) (hf : PySem.W.typeIn K (.ref f) = some (.type "function"))
    (h : codeAny (model prog w) (A.under (.builtin "type.__call__" ⟨.ref C :: vs, kw⟩)) (.call (.ref f) ⟨.ref (s.heap.objs.size + 1) :: vs, kw⟩) (PySem.W.InitBack (s.heap.objs.size + 1) R)
      { s with heap := (s.heap.push PySem.W.emptyDict).push (PySem.W.instObj C s.heap.objs.size) }) :
    codeAny (model prog w) A (.call (.ref C) ⟨vs, kw⟩) R s := by
  obtain ⟨hh, g, d, t, os⟩ := s
  exact PySem.W.make_core (PySem.W.makes_of X hm) (PySem.W.looks_findIn X hi) (fun self => PySem.W.bind_fn X self hf) (.inl rfl) h
end
def putF (f : Str) (v : V) : List (Str × V) → List (Str × V)
  | [] => [(f, v)]
  | (g, x) :: r => if g = f then (g, v) :: r else (g, x) :: putF f v r
theorem lookup_putF (f g : Str) (v : V) : ∀ fs : List (Str × V), (putF f v fs).lookup g = if g = f then some v else fs.lookup g
  | [] => by
    show List.lookup g [(f, v)] = _
    by_cases h : g = f
    · have hb : (g == f) = true := beq_iff_eq.mpr h
      simp only [List.lookup, hb, if_pos h]
    · have hb : (g == f) = false := beq_eq_false_iff_ne.mpr h
      simp only [List.lookup, hb, if_neg h]
  | (k, x) :: r => by
    have ih := lookup_putF f g v r
    rw [show putF f v ((k, x) :: r) = (if k = f then (k, v) :: r else (k, x) :: putF f v r) from rfl]
    by_cases hk : k = f
    · rw [if_pos hk]
      by_cases h : g = k
      · have hb : (g == k) = true := beq_iff_eq.mpr h
        simp only [List.lookup, hb, if_pos (h.trans hk)]
      · have hb : (g == k) = false := beq_eq_false_iff_ne.mpr h
        simp only [List.lookup, hb, if_neg (fun e : g = f => h (e.trans hk.symm))]
    · rw [if_neg hk]
      by_cases h : g = k
      · have hb : (g == k) = true := beq_iff_eq.mpr h
        simp only [List.lookup, hb, if_neg (fun e : g = f => hk (h.symm.trans e))]
      · have hb : (g == k) = false := beq_eq_false_iff_ne.mpr h
        simp only [List.lookup, hb]
        exact ih
theorem keys_putF (f : Str) (v : V) : ∀ fs : List (Str × V), f ∈ (putF f v fs).map (·.1) ∧ ∀ g, g ∈ fs.map (·.1) → g ∈ (putF f v fs).map (·.1)
  | [] => ⟨by simp [putF], fun g h => by simp at h⟩
  | (k, x) :: r => by
    obtain ⟨i1, i2⟩ := keys_putF f v r
    rw [show putF f v ((k, x) :: r) = (if k = f then (k, v) :: r else (k, x) :: putF f v r) from rfl]
    by_cases hk : k = f
    · rw [if_pos hk]
      subst hk
      exact ⟨by simp, fun g h => by simpa using h⟩
    · rw [if_neg hk]
      refine ⟨?_, fun g h => ?_⟩
      · rw [List.map_cons]
        exact List.mem_cons_of_mem _ i1
      · rw [List.map_cons] at h ⊢
        rcases List.mem_cons.mp h with e | e
        · exact List.mem_cons.mpr (.inl e)
        · exact List.mem_cons_of_mem _ (i2 g e)
theorem length_putF (f : Str) (v : V) : ∀ fs : List (Str × V), (putF f v fs).length ≤ fs.length + 1
  | [] => by simp [putF]
  | (k, x) :: r => by
    have ih := length_putF f v r
    rw [show putF f v ((k, x) :: r) = (if k = f then (k, v) :: r else (k, x) :: putF f v r) from rfl]
    by_cases hk : k = f
    · rw [if_pos hk, List.length_cons, List.length_cons]; omega
    · rw [if_neg hk, List.length_cons, List.length_cons]; omega
theorem RelO.some_of {v : V} {o : Option Value} (r : RelO (some v) o) : ∃ u, o = some u ∧ RelV v u := by
  cases o with
  | none => exact (show False from r).elim
  | some u => exact ⟨u, rfl, r⟩
theorem RelO.none_of {o : Option Value} (r : RelO none o) : o = none := by
  cases o with
  | none => rfl
  | some u => exact (show False from r).elim
theorem handed_of {v : V} {u : Value} (r : RelV v u) : PySem.W.handedIn u = true := by
  cases v with
  | non => cases (show u = Value.none from r); rfl
  | bl b => cases (show u = Value.bool b from r); rfl
  | int i => obtain ⟨t, e⟩ := (show ∃ t, u = Value.int i t from r); cases e; rfl
  | str x => obtain ⟨t, e⟩ := (show ∃ t, u = Value.str x t from r); cases e; rfl
  | byt b => obtain ⟨t, e⟩ := (show ∃ t, u = Value.bytes b t from r); cases e; rfl
  | flt b => obtain ⟨t, e⟩ := (show ∃ t, u = Value.float b t from r); cases e; rfl
  | ref a => cases (show u = Value.ref a from r); rfl
  | ty n => cases (show u = Value.type n from r); rfl
section
variable {P : Program} {w : World} {H H' : Hp} {h h' : Heap} {a C dx : Addr} {fs fs' : List (Str × V)}
theorem ins_get (hok : HOk P w H h) (e : H a = some (.ins C dx fs)) : ∃ mA, ObjM h a dx C mA ∧ (∀ f, RelO (fs.lookup f) (mA f)) ∧ PySem.Within mA (fs.map (·.1)) ∧ fs.length ≤ 1000 ∧ H dx = some (.own a) := by
  obtain ⟨d, z, ne, ob, mA, n, r, q⟩ := (show ObjOk P w H h a (.ins C dx fs) from hok a _ e)
  exact ⟨mA, ⟨ob, n, ne⟩, r, q, z, d⟩
end
structure Cls (K : PySem.W.Frag) (C : Addr) : Prop where
  pg : PySem.W.plainGet K C Str.empty = true
  hd : PySem.W.hasDictIn K C = true
  po : PySem.W.plainOver K C = true
  sa : PySem.W.findIn K (.ref C) "__setattr__" = some (some (.builtin "object.__setattr__"))
theorem Cls.get {K : PySem.W.Frag} {C : Addr} (c : Cls K C) (f : Str) : PySem.W.plainGet K C f = true := c.pg
def NoAttr (K : PySem.W.Frag) (C : Addr) (f : Str) : Prop := PySem.W.findIn K (.ref C) f = some none
theorem NoAttr.taker {K : PySem.W.Frag} {C : Addr} {f : Str} (n : NoAttr K C f) : PySem.W.takerIn K C f = some none := by
  unfold PySem.W.takerIn
  rw [show PySem.W.findIn K (.ref C) f = some none from n]
  rfl
structure Meth (K : PySem.W.Frag) (C : Addr) (m : Str) (f : Addr) : Prop where
  at_ : PySem.W.findIn K (.ref C) m = some (some (.ref f))
  fn : PySem.W.isFn K (.ref f) = true
  kp : PySem.W.keepIn K (.ref f) = true
section
variable {X : Cx} {pins : List (Addr × Obj)} {σ : St} {H : Hp} {s : Shared} {a C dx : Addr} {fs : List (Str × V)} {f : Str} {v : V} {A : Around} {E : Value → Shared → Prop}
theorem setattr_ok {y : V} {u : Value} {Q : Unit → Shared → Prop} (I : Inv X pins σ H s) (e : H a = some (.ins C dx fs)) (c : Cls X.K C) (n : NoAttr X.K C f) (hl : fs.length < 1000) (ry : RelV y u)
    (h : ∀ s', Inv X pins σ (upd H a (.ins C dx (putF f y fs))) s' → Q () s') : wpAny (model X.prog X.w) A (setAttr (.ref a) f u) Q E s := by
  obtain ⟨mA, O, r, wi, _, ho⟩ := ins_get I.hok e
  have hz : (fs.map (·.1)).length ≤ sizeLine := by rw [List.length_map, sizeLine_eq]; omega
  refine set_map I.kIn O c.sa c.po n.taker c.hd wi hz fun h' O' sb => h _ ?_
  have hd : ∃ o, h'.get? dx = some o := let ⟨o, _, _, e', _⟩ := O'.ns; ⟨o, e'⟩
  refine I.write (x := a) (e := dx) (by rw [e]; exact True.intro) (.inr ho) (fun b q hb z => (sb.2 b hb).trans z) hd ?_
  refine ⟨by rw [upd_ne O.ne]; exact ho, ?_, O.ne, O'.obj, _, O'.ns, fun g => ?_, fun g hg => ?_⟩
  · have := length_putF f y fs; omega
  · show RelO ((putF f y fs).lookup g) (if g = f then some u else mA g)
    rw [lookup_putF]
    by_cases q : g = f
    · rw [if_pos q, if_pos q]; exact ry
    · rw [if_neg q, if_neg q]; exact r g
  · by_cases q : g = f
    · rw [q]; exact (keys_putF f y fs).1
    · refine (keys_putF f y fs).2 g (wi g fun z => hg ?_)
      show (if g = f then some u else mA g) = none
      rw [if_neg q]; exact z
theorem Inv.made (I : Inv X pins σ H s) : Inv X pins σ (upd (upd H s.heap.objs.size (.own (s.heap.objs.size + 1))) (s.heap.objs.size + 1) (.ins C s.heap.objs.size []))
    { s with heap := (s.heap.push PySem.W.emptyDict).push (PySem.W.instObj C s.heap.objs.size) } := by
  have e1 : (s.heap.push PySem.W.emptyDict).get? s.heap.objs.size = some PySem.W.emptyDict := Heap.get?_push_size s.heap rfl
  have e2 : ((s.heap.push PySem.W.emptyDict).push (PySem.W.instObj C s.heap.objs.size)).get? (s.heap.objs.size + 1) = some (PySem.W.instObj C s.heap.objs.size) := by
    have := Heap.get?_push_size (s.heap.push PySem.W.emptyDict) (o := PySem.W.instObj C s.heap.objs.size) rfl
    rwa [Heap.size_push] at this
  have e3 : (s.heap.push PySem.W.emptyDict).Ns s.heap.objs.size (fun _ => none) := ⟨PySem.W.emptyDict, #[], _, e1, rfl, (fun e he => absurd he (by simp)), fun _ => rfl⟩
  have I1 := I.laid (a := s.heap.objs.size) (o := .own (s.heap.objs.size + 1)) (h' := s.heap.push PySem.W.emptyDict) (t' := s.toks) (fun b u q => Heap.get?_push_of_some _ q) (Nat.le_refl _) ⟨_, e1⟩
  refine I1.laid (a := s.heap.objs.size + 1) (o := .ins C s.heap.objs.size []) (t' := s.toks) (fun b u q => Heap.get?_push_of_some _ q) (Nat.le_of_eq (Heap.size_push _ _)) ?_
  have ne : s.heap.objs.size ≠ s.heap.objs.size + 1 := Nat.ne_of_lt (Nat.lt_succ_self _)
  refine ⟨by rw [upd_ne ne, upd_same], Nat.zero_le _, ne, e2, fun _ => none, (Heap.Ns1.of_empty e3).at fun o q => Heap.get?_push_of_some _ q, fun _ => True.intro, fun y hy => absurd rfl hy⟩
theorem attr_of {prog : Program} {w : World} {env : Env} {e : Expr} {f : Str} {pos : Pos} {s : Shared} {Q : Value → Shared → Prop} (hb : attributeBase e f env (eval e env) = eval e env)
    (h : wpAny (model prog w) A (eval e env) (fun o s₁ => wpAny (model prog w) A (getAttr o f true) Q E s₁) E s) : wpAny (model prog w) A (eval (.Attribute e f pos) env) Q E s :=
  Attribute_any_ h (by rw [arm_eval_Attribute, hb])
end
def sFld (K : PySem.W.Frag) (ta tv : TE) (f : Str) : TS := fun D σ H => tv σ H fun y H1 => ta σ H1 fun x H2 => ∃ a C dx fs, x = .ref a ∧ H2 a = some (.ins C dx fs) ∧ Cls K C ∧ NoAttr K C f ∧ fs.length < 1000 ∧
  D.nx σ (upd H2 a (.ins C dx (putF f y fs)))
section
variable {X : Cx} {o e value : Expr} {f : Str} {pos pos' tpos : Pos} {ta tv : TE}
theorem ps_fld (ha : PE X o ta) (hv : PE X value tv) (hs : swapsWith value (some (.Attribute o f pos')) pos.line X.env = pure false) : PS X (.Assign [.Attribute o f pos'] value pos) (sFld X.K ta tv f) := by
  intro pins s σ H D I h
  refine plainObj_wpAny_Assign_Attribute (thn (hv pins s σ H _ I h) fun u s1 ⟨y, H1, I1, ry, q⟩ => thn (ha pins s1 σ H1 _ I1 q) fun ov s2 ⟨x, H2, I2, rx, a, C, dx, fs, ex, ea, c, n, l, q2⟩ => ?_) hs
  subst ex
  obtain rfl : ov = Value.ref a := rx
  exact setattr_ok I2 ea c n l ry fun s3 I3 => ⟨σ, _, I3, q2⟩
end
section
variable {X : Cx} {pins : List (Addr × Obj)} {σ : St} {H : Hp} {s : Shared} {A : Around} {E : Value → Shared → Prop} {Q : Value → Shared → Prop} {c : Value} {b : Bool}
end
end L2
namespace L2
open PySem PySem.Spec PyProof.Rows
structure Room (k : Nat) (A : Around) : Prop where
  hd : A.handled = none
  dp : A.depth + 3 * k + 5 < recursionLimit
  un : A.units + 16 * k + 200 < cLine
theorem Room.mono {j k : Nat} {A : Around} (r : Room k A) (h : j ≤ k) : Room j A := ⟨r.hd, by have := r.dp; omega, by have := r.un; omega⟩
theorem Room.deeper {k : Nat} {A : Around} (r : Room (k + 1) A) (env : Env) : Room k (A.deeper env) :=
  ⟨r.hd, by have := r.dp; show A.depth + 1 + 3 * k + 5 < _; omega, by have := r.un; show A.units + 3 + 16 * k + 200 < _; omega⟩
theorem make_depth {A : Around} {C : Addr} {us : List Value} {kw : List (Str × Value)} : (A.under (.builtin "type.__call__" ⟨.ref C :: us, kw⟩)).depth = A.depth + 1 := by
  first | rfl | simp [Around.under, Code.weight, Code.isCreation, Code.isGuard, Code.isCaller, Code.frames, Code.isFrame, guardIds]
theorem make_units {A : Around} {C : Addr} {us : List Value} {kw : List (Str × Value)} : (A.under (.builtin "type.__call__" ⟨.ref C :: us, kw⟩)).units = A.units + 1 := by
  first | rfl | simp [Around.under, Code.cUnits, Code.frames, Code.isFrame]
theorem Room.make {k : Nat} {A : Around} (r : Room (k + 1) A) (C : Addr) (us : List Value) (kw : List (Str × Value)) : Room k (A.under (.builtin "type.__call__" ⟨.ref C :: us, kw⟩)) :=
  ⟨r.hd, by have := r.dp; rw [make_depth]; omega, by have := r.un; rw [make_units]; omega⟩
theorem Room.depth {k : Nat} {A : Around} (r : Room k A) : A.depth < recursionLimit := by have := r.dp; omega
theorem Room.units {k : Nat} {A : Around} (r : Room k A) : A.units + 64 < cLine := by have := r.un; omega
def tNil : TA := fun _ H Q => Q [] H
def tCons (ta : TE) (tr : TA) : TA := fun σ H Q => ta σ H fun x H1 => tr σ H1 fun xs H2 => Q (x :: xs) H2
section
variable {X : Cx} {e : Expr} {es : List Expr} {te : TE} {t : TA} {pos : Pos}
theorem pa_nil : PA X [] tNil := fun _ _ _ _ H Q I h => Calls.spliced_nil ⟨[], H, I, .nil, h⟩
theorem pa_cons (ha : PE X e te) (hr : PA X es t) (hs : starEach (e :: es) X.env = (false, eval e X.env) :: starEach es X.env := by rfl) : PA X (e :: es) (tCons te t) := by
  intro pos pins s σ H Q I h
  rw [hs]
  show wpAny _ _ (spliced ((false, eval e X.env) :: backTo pos (starEach es X.env))) _ _ s
  refine Calls.spliced_cons (thn (ha pins s σ H _ I h) fun u s1 ⟨x, H1, I1, r1, q1⟩ => ?_)
  exact thn (hr pos pins s1 σ H1 _ I1 q1) fun us s2 ⟨xs, H2, I2, r2, q2⟩ => ⟨x :: xs, H2, I2, .cons r1 r2, q2⟩
def tTup (t : TA) : TE := fun σ H Q => t σ H fun xs H1 => xs.length ≤ sizeLine ∧ ∀ p, H1 p = none → Q (.ref p) (upd H1 p (.tup xs))
def tLst (t : TA) : TE := fun σ H Q => t σ H fun xs H1 => xs.length ≤ sizeLine ∧ ∀ p, H1 p = none → Q (.ref p) (upd H1 p (.lst xs))
theorem pe_tup {x1} (h : PA X es t) : PE X (.Tuple es x1 pos) (tTup t) := by
  intro pins s σ H Q I hq
  refine wpAny_Tuple_spliced (thn (h pos pins s σ H _ I hq) fun us s1 ⟨xs, H1, I1, r, z, q⟩ => ⟨by rw [← r.length]; exact z, ?_⟩)
  have hf : H1 s1.heap.objs.size = none := I1.hok.fresh (Nat.le_refl _)
  refine ⟨.ref s1.heap.objs.size, upd H1 s1.heap.objs.size (.tup xs), I1.laid (t' := s1.toks) (fun b u e => Heap.get?_push_of_some _ e) (Nat.le_refl _) ?_, rfl, q _ hf⟩
  exact ⟨z, us, r, ⟨_, Heap.get?_push_size _ rfl, rfl, _, rfl⟩⟩
theorem pe_lst (h : PA X es t) : PE X (.List es pos) (tLst t) := by
  intro pins s σ H Q I hq
  refine wpAny_List_spliced (thn (h pos pins s σ H _ I hq) fun us s1 ⟨xs, H1, I1, r, z, q⟩ => ⟨by rw [← r.length]; exact z, ?_⟩)
  have hf : H1 s1.heap.objs.size = none := I1.hok.fresh (Nat.le_refl _)
  refine ⟨.ref s1.heap.objs.size, upd H1 s1.heap.objs.size (.lst xs), I1.laid (t' := s1.toks) (fun b u e => Heap.get?_push_of_some _ e) (Nat.le_refl _) ?_, rfl, q _ hf⟩
  exact ⟨z, us, 0, r, Heap.get?_push_size _ rfl⟩
end
abbrev Sp := List V → Hp → VK → XK → Prop
abbrev CXT := List Env → Hp → Shared → XK → Value → Shared → Prop
structure Env0 (P : Program) (w : World) (K : PySem.W.Frag) (mg : Str → Option Value) (base : Heap) (A : Around) (outer : List Env) (s : Shared) (H : Hp) : Prop where
  frames : A.frames = some outer
  mod : Mod K mg base
  bs : ∀ b o, base.get? b = some o → s.heap.get? b = some o ∧ H b = none
  bsz : base.objs.size ≤ s.heap.objs.size
  funs : s.heap.FunFrames base outer
  frf : ∀ b ∈ frs outer, H b = none
  hok : HOk P w H s.heap
  bare : AllBare s.gens
def CE (outer : List Env) (P : Program) (w : World) (H : Hp) (s : Shared) (Q : VK) (u : Value) (s' : Shared) : Prop :=
  ∃ v H', s'.os = s.os ∧ AllBare s'.gens ∧ Un (frs outer) [] H H' s.heap s'.heap ∧ HOk P w H' s'.heap ∧ RelV v u ∧ Q v H'
def CR (CX : CXT) (outer : List Env) (P : Program) (w : World) (H : Hp) (s : Shared) (Q : VK) (E : XK) (r : Result) (s' : Shared) : Prop :=
  match r with
  | .ok (.ret u) => CE outer P w H s Q u s'
  | .ok _ => False
  | .error e => CX outer H s E e s'
structure FnOk (P : Program) (w : World) (K : PySem.W.Frag) (mg : Str → Option Value) (base : Heap) (CX : CXT) (k : Nat) (f : Addr) (fd : FuncData) (ps : List Str) (sp : Sp) : Prop where
  len : ∀ vs H Q E, sp vs H Q E → vs.length = ps.length
  run : ∀ (A : Around) (outer : List Env) (s : Shared) (H : Hp) (args : Args) (us : List Value) (vs : List V) (Q : VK) (E : XK), Room k A → Env0 P w K mg base A outer s H → BindsTo s fd args (ps.zip us) → Vals vs us → sp vs H Q E →
    codeAny (model P w) A (.call (.ref f) args) (CR CX outer P w H s Q E) s
theorem FnOk.mono {P : Program} {w : World} {K : PySem.W.Frag} {mg : Str → Option Value} {base : Heap} {CX : CXT} {j k : Nat} {f : Addr} {fd : FuncData} {ps : List Str} {sp : Sp} (F : FnOk P w K mg base CX j f fd ps sp) (h : j ≤ k) :
    FnOk P w K mg base CX k f fd ps sp := ⟨F.len, fun A outer s H args us vs Q E hr => F.run A outer s H args us vs Q E (hr.mono h)⟩
theorem Env0.make {P : Program} {w : World} {K : PySem.W.Frag} {mg : Str → Option Value} {base : Heap} {A : Around} {outer : List Env} {s : Shared} {H : Hp} (e : Env0 P w K mg base A outer s H) (C : Addr) (us : List Value) (kw : List (Str × Value)) :
    Env0 P w K mg base (A.under (.builtin "type.__call__" ⟨.ref C :: us, kw⟩)) outer s H := ⟨by first | exact e.frames | (simpa [Around.under, Code.envs, Code.isFrame, pushEnvs] using e.frames), e.mod, e.bs, e.bsz, e.funs, e.frf, e.hok, e.bare⟩
section
variable {X : Cx} {pins : List (Addr × Obj)} {σ : St} {H : Hp} {s s' : Shared}
theorem Inv.env0 (I : Inv X pins σ H s) : Env0 X.prog X.w X.K X.mg X.base X.A X.stack s H :=
  ⟨I.ok.frames, I.ok.mod, I.bs, Nat.le_trans I.ok.bsz I.sz, I.stack, I.stkFree, I.hok, I.bare⟩
theorem Inv.after {Q : VK} {u : Value} (I : Inv X pins σ H s) (h : CE X.stack X.prog X.w H s Q u s') : EP X pins σ Q u s' := by
  obtain ⟨v, H', os, bare, un, hok, r, q⟩ := h
  obtain ⟨hh, g, d, t, os'⟩ := s'
  obtain rfl : os' = s.os := os
  exact ⟨v, H', I.call (h' := hh) (g' := g) (d' := d) (t' := t) (ch := []) un hok bare (fun b z => absurd z (by simp)), r, q⟩
end
def tCall (sp : Sp) (dvs : List V) (E : XK) (t : TA) : TE := fun σ H Q => t σ H fun vs H1 => sp (vs ++ dvs) H1 Q E
def tMake (C : Addr) (sp : Sp) (dvs : List V) (E : XK) (t : TA) : TE := fun σ H Q => t σ H fun vs H1 => ∀ x dx, H1 x = none → H1 dx = none → dx ≠ x →
  sp (.ref x :: (vs ++ dvs)) (upd (upd H1 dx (.own x)) x (.ins C dx [])) (fun v H2 => v = .non ∧ Q (.ref x) H2) E
def Binds (K : PySem.W.Frag) (fd : FuncData) (ps : List Str) (ds : List Value) : Prop :=
  ∀ (s : Shared) (us : List Value), K.In s.heap → (us ++ ds).length = ps.length → BindsTo s fd ⟨us, []⟩ (ps.zip (us ++ ds))
theorem Binds.all {K : PySem.W.Frag} {fd : FuncData} {ps : List Str} (h : ∀ us : List Value, us.length = ps.length → bindArgs fd ⟨us, []⟩ = pure (ps.zip us)) : Binds K fd ps [] := fun s us _ hl => by
  rw [List.append_nil] at hl ⊢
  exact .of_eq (h us hl)
def Passes (CX : CXT) (X : Cx) (E : XK) : Prop := ∀ (pins : List (Addr × Obj)) (σ : St) (H : Hp) (s : Shared) (e : Value) (s' : Shared), Inv X pins σ H s → CX X.stack H s E e s' → X.xe e s'
section
variable {X : Cx} {CX : CXT} {k : Nat} {f C : Addr} {fd : FuncData} {ps : List Str} {sp : Sp} {dvs : List V} {ds : List Value} {E : XK} {x m : Str} {p pos apos : Pos} {e o : Expr} {es : List Expr} {ta : TE} {t : TA}
theorem run_fn {pins : List (Addr × Obj)} {σ : St} {H : Hp} {s : Shared} {Q : VK} {us : List Value} {vs : List V} (F : FnOk X.prog X.w X.K X.mg X.base CX k f fd ps sp) (hr : Room k X.A) (hb : Binds X.K fd ps ds) (hd : Vals dvs ds) (hx : Passes CX X E)
    (I : Inv X pins σ H s) (r : Vals vs us) (h : sp (vs ++ dvs) H Q E) : wpAny (model X.prog X.w) X.A (call (.ref f) us) (EP X pins σ Q) X.xe s := by
  have r2 : Vals (vs ++ dvs) (us ++ ds) := r.append hd
  have hl : (us ++ ds).length = ps.length := by rw [← r2.length]; exact F.len _ _ _ _ h
  refine wpAny_call (codeAny_mono (F.run X.A X.stack s H ⟨us, []⟩ (us ++ ds) (vs ++ dvs) Q E hr I.env0 (hb s us I.kIn hl) r2 h) fun r s' hq => ?_)
  cases r with
  | error e => exact hx pins σ H s e s' I hq
  | ok fl =>
    cases fl with
    | ret u => exact I.after hq
    | next => exact False.elim hq
    | brk => exact False.elim hq
    | cont => exact False.elim hq
theorem pe_call (F : FnOk X.prog X.w X.K X.mg X.base CX k f fd ps sp) (hr : Room k X.A) (hg : Gl X x) (hm : X.mg x = some (.ref f)) (hk : PySem.W.keepIn X.K (.ref f) = true) (hb : Binds X.K fd ps ds) (hd : Vals dvs ds) (hx : Passes CX X E)
    (ha : PA X (e :: es) t) (hdb : (x == ("__debug__" : Str)) = false := by decide) (he : starEach (e :: es) X.env = (false, eval e X.env) :: starEach es X.env := by rfl) (hpl : (backTo pos (starEach es X.env)).any (·.1) = false := by rfl) :
    PE X (.Call (.Name x p) (e :: es) [] pos) (tCall sp dvs E t) := by
  intro pins s σ H Q I h
  refine wpAny_Call_Name_kw (ld_glob I hg hm ?_ hdb)
  refine PySem.W.callWith_K (h₀ := X.base) I.ok.mod.kin hk (thn (ha pos pins s σ H _ I h) fun us s1 ⟨vs, H1, I1, r, q⟩ => ⟨I1.kIn, ?_⟩) he hpl
  exact run_fn F hr hb hd hx I1 r q
structure Mk (K : PySem.W.Frag) (C f : Addr) : Prop where
  makes : PySem.W.makesIn K C = true
  init : PySem.W.findIn K (.ref C) "__init__" = some (some (.ref f))
  fn : PySem.W.isFn K (.ref f) = true
  kp : PySem.W.keepIn K (.ref C) = true
theorem run_make {pins : List (Addr × Obj)} {σ : St} {H : Hp} {s : Shared} {Q : VK} {us : List Value} {vs : List V} (M : Mk X.K C f) (F : FnOk X.prog X.w X.K X.mg X.base CX k f fd ps sp) (hr : Room (k + 1) X.A) (hb : Binds X.K fd ps ds) (hd : Vals dvs ds)
    (hx : Passes CX X E) (I : Inv X pins σ H s) (r : Vals vs us)
    (h : ∀ x dx, H x = none → H dx = none → dx ≠ x → sp (.ref x :: (vs ++ dvs)) (upd (upd H dx (.own x)) x (.ins C dx [])) (fun v H2 => v = .non ∧ Q (.ref x) H2) E) :
    wpAny (model X.prog X.w) X.A (call (.ref C) us) (EP X pins σ Q) X.xe s := by
  have hq := h (s.heap.objs.size + 1) s.heap.objs.size (I.hok.fresh (Nat.le_succ _)) (I.hok.fresh (Nat.le_refl _)) (Nat.ne_of_lt (Nat.lt_succ_self _))
  have I2 := Inv.made (C := C) I
  have r2 : Vals (V.ref (s.heap.objs.size + 1) :: (vs ++ dvs)) (Value.ref (s.heap.objs.size + 1) :: (us ++ ds)) := .cons rfl (r.append hd)
  have hl : (Value.ref (s.heap.objs.size + 1) :: us ++ ds).length = ps.length := by
    have e := r2.length
    rw [F.len _ _ _ _ hq] at e
    exact e.symm
  refine wpAny_call (make_map (f := f) I.kIn M.makes M.init (beq_iff_eq.mp M.fn) (codeAny_mono (F.run _ X.stack _ _ ⟨Value.ref (s.heap.objs.size + 1) :: us, []⟩ (Value.ref (s.heap.objs.size + 1) :: (us ++ ds)) _ _ E (hr.make C us [])
    (I2.env0.make C us []) (hb _ (Value.ref (s.heap.objs.size + 1) :: us) I2.kIn hl) r2 hq) fun r s' hq' => ?_))
  cases r with
  | error e => exact hx pins σ _ _ e s' I2 hq'
  | ok fl =>
    cases fl with
    | ret u =>
      obtain ⟨v, H', I3, rv, ev, q3⟩ := I2.after hq'
      subst ev
      exact ⟨rv, ⟨V.ref (s.heap.objs.size + 1), H', I3, rfl, q3⟩⟩
    | next => exact False.elim hq'
    | brk => exact False.elim hq'
    | cont => exact False.elim hq'
theorem pe_make (M : Mk X.K C f) (F : FnOk X.prog X.w X.K X.mg X.base CX k f fd ps sp) (hr : Room (k + 1) X.A) (hg : Gl X x) (hm : X.mg x = some (.ref C)) (hb : Binds X.K fd ps ds) (hd : Vals dvs ds) (hx : Passes CX X E)
    (ha : PA X (e :: es) t) (hdb : (x == ("__debug__" : Str)) = false := by decide) (he : starEach (e :: es) X.env = (false, eval e X.env) :: starEach es X.env := by rfl) (hpl : (backTo pos (starEach es X.env)).any (·.1) = false := by rfl) :
    PE X (.Call (.Name x p) (e :: es) [] pos) (tMake C sp dvs E t) := by
  intro pins s σ H Q I h
  refine wpAny_Call_Name_kw (ld_glob I hg hm ?_ hdb)
  refine PySem.W.callWith_K (h₀ := X.base) I.ok.mod.kin M.kp (thn (ha pos pins s σ H _ I h) fun us s1 ⟨vs, H1, I1, r, q⟩ => ⟨I1.kIn, ?_⟩) he hpl
  exact run_make M F hr hb hd hx I1 r q
end
section
variable {X : Cx} {CX : CXT} {k : Nat} {f C : Addr} {fd : FuncData} {ps ks : List Str} {sp : Sp} {E : XK} {x m : Str} {p pos apos kpos : Pos} {e o : Expr} {es : List Expr} {kws : List Keyword} {te ta : TE} {t tk : TA} {nm : Option Str}
variable {g : List Value → List Value → List Value} {gV : List V → List V → List V}
end
structure FnScope (N P : List Str) (sc : Scope) : Prop where
  kind : sc.kind = .function
  co : sc.isCoroutine = false
  gen : sc.isGenerator = false
  nd : N.Nodup
  pre : N.take P.length = P
  par : ∀ x ∈ P, sc.names.lookup x = some .local ∨ sc.names.lookup x = some .cell
  nofree : ∀ y ∈ sc.names, y.2 ≠ .free
theorem bindL_out {kindOf : Str → Option NameKind} {x : Str} : ∀ {binds : List (Str × Value)} {m : Str → Option Value}, (∀ v, (x, v) ∉ binds) → bindL kindOf binds m x = m x
  | [], _, _ => rfl
  | (n, v) :: r, m, h => by
    unfold bindL
    rw [bindL_out fun w hw => h w (List.mem_cons_of_mem _ hw)]
    split
    · have : x ≠ n := by rintro rfl; exact h v List.mem_cons_self
      simp [this]
    · rfl
theorem bindC_out {kindOf : Str → Option NameKind} {x : Str} : ∀ {binds : List (Str × Value)} {m : Str → Option Value}, (∀ v, (x, v) ∉ binds) → bindC kindOf binds m x = m x
  | [], _, _ => rfl
  | (n, v) :: r, m, h => by
    unfold bindC
    rw [bindC_out fun w hw => h w (List.mem_cons_of_mem _ hw)]
    split
    · rfl
    · have : x ≠ n := by rintro rfl; exact h v List.mem_cons_self
      simp [this]
theorem bindL_get {kindOf : Str → Option NameKind} {x : Str} {v : Value} : ∀ {P : List Str} {vs : List Value} {i : Nat} {m : Str → Option Value}, P.Nodup → P[i]? = some x → vs[i]? = some v → kindOf x = some .local →
    bindL kindOf (P.zip vs) m x = some v
  | [], _, _, _, _, h, _, _ => by simp at h
  | _ :: _, [], _, _, _, _, h, _ => by simp at h
  | p :: P, w :: vs, 0, m, nd, h1, h2, hk => by
    simp at h1 h2; subst h1; subst h2
    show bindL kindOf ((p, w) :: P.zip vs) m p = _
    unfold bindL
    rw [bindL_out fun v hv => (List.nodup_cons.mp nd).1 (List.of_mem_zip hv).1, if_pos hk]
    simp
  | p :: P, w :: vs, i + 1, m, nd, h1, h2, hk => by
    show bindL kindOf ((p, w) :: P.zip vs) m x = _
    unfold bindL
    exact bindL_get (i := i) (List.nodup_cons.mp nd).2 (by simpa using h1) (by simpa using h2) hk
theorem bindC_get {kindOf : Str → Option NameKind} {x : Str} {v : Value} : ∀ {P : List Str} {vs : List Value} {i : Nat} {m : Str → Option Value}, P.Nodup → P[i]? = some x → vs[i]? = some v → kindOf x ≠ some .local →
    bindC kindOf (P.zip vs) m x = some v
  | [], _, _, _, _, h, _, _ => by simp at h
  | _ :: _, [], _, _, _, _, h, _ => by simp at h
  | p :: P, w :: vs, 0, m, nd, h1, h2, hk => by
    simp at h1 h2; subst h1; subst h2
    show bindC kindOf ((p, w) :: P.zip vs) m p = _
    unfold bindC
    rw [bindC_out fun v hv => (List.nodup_cons.mp nd).1 (List.of_mem_zip hv).1, if_neg hk]
    simp
  | p :: P, w :: vs, i + 1, m, nd, h1, h2, hk => by
    show bindC kindOf ((p, w) :: P.zip vs) m x = _
    unfold bindC
    exact bindC_get (i := i) (List.nodup_cons.mp nd).2 (by simpa using h1) (by simpa using h2) hk
def start (N : List Str) (vs : List V) : St := vs.map some ++ List.replicate (N.length - vs.length) none
def cxOf (CX : CXT) (P : Program) (w : World) (K : PySem.W.Frag) (mg : Str → Option Value) (base : Heap) (N : List Str) (qual : Str) (scope : Scope) (f : Addr) (cd : Value) (A : Around) (outer : List Env) (s : Shared) (H : Hp) (E : XK) : Cx where
  prog := P
  w := w
  K := K
  mg := mg
  base := base
  A := A.deeper (envOfC qual scope s.heap.objs.size f cd)
  N := N
  s₀ := s
  H₀ := H
  env := envOfC qual scope s.heap.objs.size f cd
  outer := outer
  stack := envOfC qual scope s.heap.objs.size f cd :: outer
  ex := []
  calm := true
  fn := fun _ => true
  pn := []
  xe := fun e s' => wpAny (model P w) (A.deeper (envOfC qual scope s.heap.objs.size f cd)) (leaving (envOfC qual scope s.heap.objs.size f cd) e) (fun _ s'' => CX outer H s E e s'') (fun e' s'' => CX outer H s E e' s'') s'
theorem cell_has {sc : Scope} {n : Nat} {x : Str} (h : sc.names.lookup x = some .cell) : ∃ c, (cellsFrom n sc.names []).lookup x = some c := by
  have q := PySem.W.cellsFrom_some sc.names n [] (.inl h)
  exact Option.isSome_iff_exists.mp q
theorem inv_start {CX : CXT} {P : Program} {w : World} {K : PySem.W.Frag} {mg : Str → Option Value} {base : Heap} {N ps : List Str} {qual : Str} {scope : Scope} {f : Addr} {cd : Value} {A : Around} {outer : List Env} {s s1 : Shared} {H : Hp} {E : XK} {us : List Value} {vs : List V}
    (S : FnScope N ps scope) (hd : A.handled = none) (e0 : Env0 P w K mg base A outer s H) (hl : vs.length = ps.length) (r : Vals vs us)
    (x : InCallC s s.heap.objs.size (bindL (envOfC qual scope s.heap.objs.size f cd).kindOf (ps.zip us) fun _ => none) (cellsFrom (s.heap.objs.size + 1) scope.names []) (bindC (envOfC qual scope s.heap.objs.size f cd).kindOf (ps.zip us) fun _ => none) s1) :
    Inv (cxOf CX P w K mg base N qual scope f cd A outer s H E) [] (start N vs) H s1 := by
  have hpl : ps.length ≤ N.length := by have := congrArg List.length S.pre; rw [List.length_take] at this; omega
  obtain ⟨h1, tk, rfl, hk⟩ := x.done
  have noA : ∀ b : Addr, b ∉ (cxOf CX P w K mg base N qual scope f cd A outer s H E).ex := fun b z => absurd (show b ∈ ([] : List Addr) from z) (by simp)
  refine ⟨⟨e0.mod, S.kind, rfl, rfl, Nat.le_refl _, fun y z c h1 h2 => ?_, fun y hy => ?_, fun y c _ h => ?_, fun _ => hd, Around.frames_deeper e0.frames, .inr ⟨rfl, rfl⟩, fun b z => absurd z (noA b), e0.bs, e0.bsz, fun b _ _ => noA b, fun b z => absurd z (noA b), e0.funs, e0.frf⟩,
    rfl, e0.bare, Un.kept hk, ⟨_, x.toInCall.ns, fun i y v h1 h2 h3 => ?_⟩, fun y c h => ⟨_, x.cell y c h⟩, e0.hok.fresh (Nat.le_refl _), fun y c h => ?_, fun p hp => absurd (show p ∈ ([] : List (Addr × Obj)) from hp) (by simp), e0.hok.kept hk, ?_⟩
  · exact name_of_addr x.apart (PySem.mem_of_lookup h1) (PySem.mem_of_lookup h2)
  · have hy : scope.names.lookup y = some .cell ∨ scope.names.lookup y = some .free := hy
    rcases hy with hy | hy
    · exact cell_has hy
    · exact absurd rfl (S.nofree _ (PySem.mem_of_lookup hy))
  · exact Nat.le_of_lt (x.above y c (PySem.mem_of_lookup h))
  · have hi : i < vs.length := by
      unfold start at h2
      by_cases hi : i < vs.length
      · exact hi
      · rw [List.getElem?_append_right (by simpa using hi)] at h2
        rw [List.getElem?_replicate] at h2
        split at h2 <;> cases h2
    have ha : vs[i]? = some v := by
      unfold start at h2
      rw [List.getElem?_append_left (by simpa using hi), List.getElem?_map] at h2
      cases e : vs[i]? with
      | none => rw [e] at h2; cases h2
      | some a => rw [e] at h2; cases h2; rfl
    obtain ⟨u, hu, rv⟩ := r.get ha
    have hp : ps[i]? = some y := by
      rw [← S.pre, List.getElem?_take_of_lt (by omega)]; exact h1
    have ndP : ps.Nodup := by rw [← S.pre]; exact S.nd.sublist (List.take_sublist _ _)
    refine ⟨u, rv, ?_⟩
    rcases S.par y (List.mem_of_getElem? hp) with k | k
    · exact .inl ⟨k, bindL_get ndP hp hu k⟩
    · obtain ⟨c, e⟩ := cell_has (n := s.heap.objs.size + 1) k
      refine .inr ⟨.inl k, c, e, ?_⟩
      have q := x.cell y c e
      rw [bindC_get ndP hp hu (by show scope.names.lookup y ≠ _; rw [k]; decide)] at q
      exact q
  · exact e0.hok.fresh (Nat.le_of_lt (x.above y c (PySem.mem_of_lookup h)))
  · unfold start
    show _ = N.length
    rw [List.length_append, List.length_map, List.length_replicate]
    omega
theorem fn_of {CX : CXT} {P : Program} {w : World} {K : PySem.W.Frag} {mg : Str → Option Value} {base : Heap} {k : Nat} {f : Addr} {name qual : Str} {params : Arguments} {body : List Stmt} {scope : Scope} {dV kV doc pm cdv ct oc : Value} {an od : Option Addr}
    {osl : Array (Option Value)} {N ps : List Str} {sp : Sp} (lk : K.lookup f = some ⟨oc, od, .func (PySem.W.fnOf name qual params body scope dV kV doc pm an cdv ct), osl⟩) (hcd : PySem.W.codeIn K cdv qual = true) (S : FnScope N ps scope)
    (len : ∀ vs H Q E, sp vs H Q E → vs.length = ps.length)
    (hbody : ∀ (A : Around) (outer : List Env) (s : Shared) (H : Hp) (vs : List V) (Q : VK) (E : XK), Room k (A.deeper (envOfC qual scope s.heap.objs.size f cdv)) → sp vs H Q E →
      ∃ t, PSs (cxOf CX P w K mg base N qual scope f cdv A outer s H E) body t ∧ t { nx := fun _ H' => Q .non H', rt := Q } (start N vs) H) :
    FnOk P w K mg base CX (k + 1) f (PySem.W.fnOf name qual params body scope dV kV doc pm an cdv ct) ps sp := by
  refine ⟨len, fun A outer s H args us vs Q E hr e0 hb r hsp => ?_⟩
  have hl := len _ _ _ _ hsp
  have KX : K.In s.heap := e0.mod.kin.keeps fun b o e => (e0.bs b o e).1
  have lim : s.heap.NoLimit := e0.mod.nolimit.keeps fun b o e => (e0.bs b o e).1
  have hkind : ∀ y ∈ ps.zip us, scope.names.lookup y.1 = some .local ∨ (scope.names.lookup y.1 = some .cell ∧ ((cellsFrom (s.heap.objs.size + 1) scope.names []).lookup y.1).isSome = true) := fun ⟨n, v⟩ hy => by
    rcases S.par n (List.of_mem_zip hy).1 with q | q
    · exact .inl q
    · exact .inr ⟨q, PySem.W.cellsFrom_some _ _ _ (.inl q)⟩
  refine codeAny_call_function hr.depth (KX _ _ lk) rfl S.co S.gen rfl (PySem.W.codeRec_of KX hcd) (hb _ _ _ _ ?_)
  refine wpAny_newFunctionEnv_cells S.kind hkind fun env he s1 x => ?_
  subst he
  refine ⟨lim.keeps x.toInCall.keep, codeAny_func ?_⟩
  obtain ⟨t, ht, hq⟩ := hbody A outer s H vs Q E (hr.deeper _) hsp
  have I : Inv (cxOf CX P w K mg base N qual scope f cdv A outer s H E) [] (start N vs) H s1 := inv_start S hr.hd e0 hl r x
  refine wpAny_mono (ht [] s1 (start N vs) H _ I hq) (fun fl s' hs => ?_) fun e s' hs => hs
  have fin : ∀ {σ' : St} {H' : Hp} {v : V} {u : Value}, Inv (cxOf CX P w K mg base N qual scope f cdv A outer s H E) [] σ' H' s' → RelV v u → Q v H' → CE outer P w H s Q u s' :=
    fun {σ' H' v u} J rv q => ⟨v, H', J.os, J.bare, J.base, J.hok, rv, q⟩
  cases fl with
  | ret u =>
    obtain ⟨v, σ', H', J, rv, q⟩ := hs
    exact fin J rv q
  | next =>
    obtain ⟨σ', H', J, q⟩ := hs
    exact fin (v := V.non) (u := Value.none) J rfl q
  | brk =>
    obtain ⟨_, _, _, q⟩ := hs
    exact False.elim q
  | cont =>
    obtain ⟨_, _, _, q⟩ := hs
    exact False.elim q
end L2
namespace L2
open PySem PySem.Spec PyProof.Rows
section
variable {X : Cx} {x : Str} {p pos : Pos} {e : Expr} {es : List Expr} {t : TA} {id T : String} {r : List V → Hp → VK → Prop}
def tCB (r : List V → Hp → VK → Prop) (t : TA) : TE := fun σ H Q => t σ H fun vs H1 => r vs H1 Q
theorem pe_callB (hc : CallR X (.builtin id) r) (hg : Gl X x) (hm : X.mg x = none) (hv : bootBuiltins x = some (.builtin id)) (ha : PA X (e :: es) t) (hn : x ≠ "__name__" := by decide) (hdb : (x == ("__debug__" : Str)) = false := by decide)
    (he : starEach (e :: es) X.env = (false, eval e X.env) :: starEach es X.env := by rfl) (hpl : (backTo pos (starEach es X.env)).any (·.1) = false := by rfl) : PE X (.Call (.Name x p) (e :: es) [] pos) (tCB r t) := by
  intro pins s σ H Q I h
  refine wpAny_Call_Name_kw (ld_blt I hg hm hv ?_ hn hdb)
  exact PyProof.Rows.callWith_builtin1 (thn (ha pos pins s σ H _ I h) fun us s1 ⟨vs, H1, I1, r1, q1⟩ => hc pins s1 σ H1 vs us Q I1 r1 q1) he hpl
theorem pe_callTy (hc : CallR X (.type T) r) (hg : Gl X x) (hm : X.mg x = none) (hv : bootBuiltins x = some (.type T)) (ha : PA X (e :: es) t) (hn : x ≠ "__name__" := by decide) (hdb : (x == ("__debug__" : Str)) = false := by decide)
    (he : starEach (e :: es) X.env = (false, eval e X.env) :: starEach es X.env := by rfl) (hpl : (backTo pos (starEach es X.env)).any (·.1) = false := by rfl) : PE X (.Call (.Name x p) (e :: es) [] pos) (tCB r t) := by
  intro pins s σ H Q I h
  refine wpAny_Call_Name_kw (ld_blt I hg hm hv ?_ hn hdb)
  exact PyProof.Rows.callWith_type1 (thn (ha pos pins s σ H _ I h) fun us s1 ⟨vs, H1, I1, r1, q1⟩ => hc pins s1 σ H1 vs us Q I1 r1 q1) he hpl
end
end L2
namespace HT
open PySem PyProof.Rows
section
open PySem.SeqAt
open PySem.AutoSeq1 (wpAny_loadPart')
open PySem.MeetsSeq PySem.MeetsSeq2 PySem.MeetsSeq3
end
section
variable {prog : Program} {w : World} {A : Around} {E : Value → Shared → Prop} {s : Shared}
theorem cat_tup {t b : Addr} {vs ws : List Value} {Q : Value → Shared → Prop} (ht : IsTup s.heap t vs.toArray) (hb : IsTup s.heap b ws.toArray) (hv : vs ≠ [])
    (h1 : ws = [] → Q (.ref t) s) (h2 : ws ≠ [] → Q (.ref s.heap.objs.size) { s with heap := s.heap.push { cls := .type "tuple", data := .seq (vs ++ ws).toArray } })
    (hsz : vs.length + ws.length ≤ sizeLine) : wpAny (model prog w) A (binaryOp .Add (.ref t) (.ref b)) Q E s := by
  obtain ⟨⟨cls, dd, data, sl⟩, ho, hc, n, hd⟩ := id ht
  obtain ⟨⟨cls2, dd2, data2, sl2⟩, ho2, hc2, n2, hd2⟩ := id hb
  simp only at hc hd hc2 hd2
  subst hc hd hc2 hd2
  have e : vs.toArray ++ ws.toArray = (vs ++ ws).toArray := by simp
  by_cases hw : ws = []
  · exact concat_meets ⟨_, ho, rfl⟩ ⟨_, ho2, rfl⟩ noFill_tuple_add seq_tuple_add PySem.F.slot_tuple_add PySem.F.entry_tuple_add (PySem.F.args_tuple_add_2 _ _)
      (tuple_addW1 t b vs.toArray ws.toArray n n2 dd dd2 sl sl2 (by simpa using hv) (by simp [hw])) ⟨ho, ho2, h1 hw⟩
  · refine concat_meets ⟨_, ho, rfl⟩ ⟨_, ho2, rfl⟩ noFill_tuple_add seq_tuple_add PySem.F.slot_tuple_add PySem.F.entry_tuple_add (PySem.F.args_tuple_add_2 _ _)
      (tuple_addW2 t b vs.toArray ws.toArray n n2 dd dd2 sl sl2 (by simpa using hv) (by simpa using hw) (by rw [List.size_toArray, List.size_toArray]; exact hsz)) ⟨ho, ho2, ?_⟩
    rw [e]
    exact h2 hw
def sIx (n d : Nat) : Option Int → Nat
  | none => d
  | some v => if v < 0 then (v + (n : Int)).toNat else min v.toNat n
theorem sIx_nat (n d k : Nat) : sIx n d (some (k : Int)) = min k n := by
  show (if (k : Int) < 0 then ((k : Int) + (n : Int)).toNat else min (k : Int).toNat n) = min k n
  rw [if_neg (by omega), Int.toNat_natCast]
theorem sIx_le (n d : Nat) (hd : d ≤ n) (o : Option Int) : sIx n d o ≤ n := by
  cases o with
  | none => exact hd
  | some v =>
    show (if v < 0 then (v + (n : Int)).toNat else min v.toNat n) ≤ n
    by_cases hv : v < 0
    · rw [if_pos hv]; omega
    · rw [if_neg hv]; exact Nat.min_le_right _ _
theorem clip_eq (v : Int) (n d : Nat) : (if v < 0 then max (v + (n : Int)) 0 else min v (n : Int)) = ((sIx n d (some v) : Nat) : Int) := by
  show (if v < 0 then max (v + (n : Int)) 0 else min v (n : Int)) = (((if v < 0 then (v + (n : Int)).toNat else min v.toNat n) : Nat) : Int)
  by_cases hv : v < 0
  · simp only [if_pos hv]; omega
  · simp only [if_neg hv]; omega
theorem adjust_gen (lo hi : Option Int) (n : Nat) : Builtin.Slice.sliceAdjust lo hi 1 (n : Int) = (((sIx n 0 lo : Nat) : Int), ((sIx n n hi : Nat) : Int)) := by
  have h1 : ¬ ((1 : Int) < 0) := by omega
  unfold Builtin.Slice.sliceAdjust
  simp only [h1, if_false]
  refine Prod.ext ?_ ?_
  · cases lo with
    | none => rfl
    | some v => exact clip_eq v n 0
  · cases hi with
    | none => rfl
    | some v => exact clip_eq v n n
theorem places_gen (i j : Nat) : Builtin.Slice.slicePlaces (i : Int) (j : Int) 1 = j - i := by
  unfold Builtin.Slice.slicePlaces
  have h1 : (1 : Int) > 0 := by omega
  simp only [h1, if_true, Int.ediv_one]
  split <;> omega
theorem slicePart_ {v : Value} {o : Option Int} {Q : Option Int → Shared → Prop} (p : IsPart v o) (h : Q o s) : wpAny (model prog w) A (Builtin.Slice.slicePartIndex v) Q E s := by
  cases p with
  | none => exact slicePart_none h
  | int i t => exact slicePart_int h
theorem sliceApplied_gen {sl : Addr} {vl vu : Value} {lo hi : Option Int} {n : Nat} {Q : Int × Int × Nat → Shared → Prop} (hs : s.heap.IsSliceOf sl vl vu .none) (pl : IsPart vl lo) (pu : IsPart vu hi)
    (h : Q (((sIx n 0 lo : Nat) : Int), 1, sIx n n hi - sIx n 0 lo) s) : wpAny (model prog w) A (Builtin.Slice.sliceApplied (.ref sl) (pure (n : Int))) Q E s := by
  obtain ⟨os, hos, hcs, hds⟩ := id hs
  unfold Builtin.Slice.sliceApplied Builtin.Slice.sliceFields
  refine wpAny_bind (wpAny_bind (wpAny_field hos hds (x := vl) rfl (wpAny_bind (wpAny_field hos hds (x := vu) rfl (wpAny_bind (wpAny_field hos hds (x := .none) rfl (wpAny_pure ?_)))))))
  refine wpAny_bind (slicePart_none ?_)
  show wpAny _ _ (if ((1 : Int) == 0) = true then _ else _) _ _ s
  rw [if_neg (by decide)]
  refine wpAny_bind (slicePart_ pl (wpAny_bind (slicePart_ pu (wpAny_bind (wpAny_pure ?_)))))
  show wpAny _ _ (match Builtin.Slice.sliceAdjust lo hi 1 (n : Int) with | (lo, hi) => pure (lo, (1 : Int), Builtin.Slice.slicePlaces lo hi 1)) _ _ s
  rw [adjust_gen lo hi n]
  show wpAny _ _ (pure (((sIx n 0 lo : Nat) : Int), (1 : Int), Builtin.Slice.slicePlaces ((sIx n 0 lo : Nat) : Int) ((sIx n n hi : Nat) : Int) 1)) _ _ s
  rw [places_gen]
  exact wpAny_pure h
theorem pick_gen (xs : Array Value) (i k : Nat) : ((List.range k).filterMap fun (m : Nat) => xs[((i : Int) + (m : Int) * 1).toNat]?).toArray = ((xs.toList.drop i).take k).toArray := by
  have e : (fun (m : Nat) => xs[((i : Int) + (m : Int) * 1).toNat]?) = fun m => xs[i + m]? := by
    funext m
    have : ((i : Int) + (m : Int) * 1).toNat = i + m := by omega
    rw [this]
  rw [e]
  have := pick_run xs i k
  rw [List.filterMap_map] at this
  have e2 : ((fun x => xs[x]?) ∘ fun x => i + x) = fun m => xs[i + m]? := rfl
  rw [e2] at this
  rw [this]
theorem getItem_tuple_cut {t sl : Addr} {items : Array Value} {vl vu : Value} {lo hi : Option Int} {Q : Value → Shared → Prop} (ht : IsTup s.heap t items) (hs : s.heap.IsSliceOf sl vl vu .none) (pl : IsPart vl lo) (pu : IsPart vu hi)
    (hw : ¬ (sIx items.size 0 lo = 0 ∧ sIx items.size items.size hi = items.size))
    (h : Q (.ref s.heap.objs.size) { s with heap := s.heap.push { cls := .type "tuple", data := .seq ((items.toList.drop (sIx items.size 0 lo)).take (sIx items.size items.size hi - sIx items.size 0 lo)).toArray } })
    (hsz : items.size ≤ sizeLine) : wpAny (model prog w) A (getItem (.ref t) (.ref sl)) Q E s := by
  have htake : sizeOk (.seq ((items.toList.drop (sIx items.size 0 lo)).take (sIx items.size items.size hi - sIx items.size 0 lo)).toArray) := by
    show ((items.toList.drop (sIx items.size 0 lo)).take (sIx items.size items.size hi - sIx items.size 0 lo)).toArray.size ≤ sizeLine
    rw [List.size_toArray, List.length_take, List.length_drop, Array.length_toList]
    omega
  have hj : sIx items.size items.size hi ≤ items.size := sIx_le _ _ (Nat.le_refl _) hi
  obtain ⟨os, hos, hcs, hds⟩ := id hs
  have hTs : s.TypeIs (.ref sl) "slice" := ⟨os, hos, hcs⟩
  unfold getItem
  try with_reducible refine wpAny_holding ?_
  first | refine wpAny_bind (wpAny_pure ?_) | skip
  refine wpAny_bind (wpAny_sequenceKey ht.typeIs (by decide) ?_)
  refine wpAny_bind (wpAny_callSpecial?_slot (name := Str.ofString "__getitem__") ht.typeIs PyProof.Rows.slot_tuple_getitem
    (wpAny_call_entry PyProof.Rows.slot_tuple_getitem ht.typeIs entry_tuple_getitem ?_ (args_tuple_getitem _ _)))
  show wpAny _ _ (Builtin.Tuple.tupleItemsOf (.ref t) >>= _) _ _ s
  refine wpAny_bind (tupleItemsOf_ ht ?_)
  refine wpAny_bind (wpAny_typeOf hTs ?_)
  rw [if_pos (by decide)]
  refine wpAny_bind (sliceApplied_gen hs pl pu ?_)
  have hno : ¬ ((((sIx items.size 0 lo : Nat) : Int) == 0 && (1 : Int) == 1 && (sIx items.size items.size hi - sIx items.size 0 lo) == items.size) = true) := by
    intro q
    rw [Bool.and_eq_true, Bool.and_eq_true] at q
    have q1 : ((sIx items.size 0 lo : Nat) : Int) = 0 := eq_of_beq q.1.1
    have q2 : sIx items.size items.size hi - sIx items.size 0 lo = items.size := eq_of_beq q.2
    exact hw ⟨by omega, by omega⟩
  show wpAny _ _ (if (((sIx items.size 0 lo : Nat) : Int) == 0 && (1 : Int) == 1 && (sIx items.size items.size hi - sIx items.size 0 lo) == items.size) = true then _ else _) _ _ s
  rw [if_neg hno, pick_gen]
  first
    | exact wpAny_bind (m := Builtin.Tuple.tupleExact _) (wpAny_newObj_type (wpAny_pure ⟨_, rfl, wpAny_pure h⟩) htake)
    | exact wpAny_bind (m := Builtin.Tuple.tupleExact _) (wpAny_newObj_type (wpAny_bind (wpAny_pure (wpAny_pure ⟨_, rfl, wpAny_pure h⟩))) htake)
    | exact wpAny_bind (wpAny_bind (m := Builtin.Tuple.tupleExact _) (wpAny_newObj_type (wpAny_pure (wpAny_pure ⟨_, rfl, wpAny_pure h⟩)) htake))
    | exact wpAny_bind (wpAny_bind (m := Builtin.Tuple.tupleExact _) (wpAny_newObj_type (wpAny_pure ⟨_, rfl, wpAny_pure h⟩) htake))
end
end HT
namespace L2
open PySem PySem.Spec PyProof.Rows
abbrev TO := St → Hp → (Option Int → Hp → Prop) → Prop
def PO (X : Cx) (e : Option Expr) (t : TO) : Prop :=
  ∀ (pins : List (Addr × Obj)) (s : Shared) (σ : St) (H : Hp) (Q : Option Int → Hp → Prop), Inv X pins σ H s → t σ H Q →
    wpAny (model X.prog X.w) X.A (evalPart e X.env) (fun u s' => ∃ o H', Inv X pins σ H' s' ∧ IsPart u o ∧ Q o H') X.xe s
def tNoPart : TO := fun _ H Q => Q none H
def tPart (t : TE) : TO := fun σ H Q => t σ H fun x H1 => ∃ i, x = .int i ∧ Q (some i) H1
section
variable {X : Cx} {e : Expr} {te : TE} {lo hi : Option Expr} {tl th : TO} {pos p2 : Pos}
theorem po_none : PO X none tNoPart := by
  intro pins s σ H Q I h
  rw [evalPart_none]
  exact wpAny_pure ⟨none, H, I, .none, h⟩
theorem po_some (h : PE X e te) : PO X (some e) (tPart te) := by
  intro pins s σ H Q I hw
  rw [evalPart_some]
  refine thn (h pins s σ H _ I hw) fun u s1 ⟨x, H1, I1, r1, q1⟩ => ?_
  obtain ⟨i, rfl, q⟩ := q1
  obtain ⟨t, rfl⟩ := r1
  exact ⟨some i, H1, I1, .int i t, q⟩
def SlR (X : Cx) (r : V → Option Int → Option Int → Hp → VK → Prop) : Prop :=
  ∀ (pins : List (Addr × Obj)) (s : Shared) (σ : St) (H : Hp) (x : V) (v vl vu : Value) (lo hi : Option Int) (sl : Addr) (Q : VK), Inv X pins σ H s → RelV x v → s.heap.IsSliceOf sl vl vu .none → IsPart vl lo → IsPart vu hi → r x lo hi H Q →
    ∃ T id, typeLookup (.type T) "__getitem__" = pure (some (.builtin id)) ∧ s.TypeIs v T ∧ wpAny (model X.prog X.w) X.A (getItem v (.ref sl)) (EP X pins σ Q) X.xe s
theorem SlR.or {r r' : V → Option Int → Option Int → Hp → VK → Prop} (h : SlR X r) (h' : SlR X r') : SlR X (fun x lo hi H Q => r x lo hi H Q ∨ r' x lo hi H Q) := by
  intro pins s σ H x v vl vu lo hi sl Q I rx hs pl pu q
  rcases q with q | q
  · exact h pins s σ H x v vl vu lo hi sl Q I rx hs pl pu q
  · exact h' pins s σ H x v vl vu lo hi sl Q I rx hs pl pu q
def tSl (r : V → Option Int → Option Int → Hp → VK → Prop) (te : TE) (tl th : TO) : TE := fun σ H Q => te σ H fun x H1 => tl σ H1 fun l H2 => th σ H2 fun u H3 => r x l u H3 Q
theorem pe_slice {r : V → Option Int → Option Int → Hp → VK → Prop} (hr : SlR X r) (he : PE X e te) (hl : PO X lo tl) (hu : PO X hi th) : PE X (.Subscript e (.Slice lo hi none p2) pos) (tSl r te tl th) := by
  intro pins s σ H Q I h
  refine Subscript_ (thn (he pins s σ H _ I h) fun v s1 ⟨x, H1, I1, r1, q1⟩ => ?_)
  refine wpAny_Slice (thn (hl pins s1 σ H1 _ I1 q1) fun vl s2 ⟨l, H2, I2, pl, q2⟩ => thn (hu pins s2 σ H2 _ I2 q2) fun vu s3 ⟨u, H3, I3, pu, q3⟩ => ?_)
  rw [evalPart_none]
  refine wpAny_pure ?_
  have I4 : Inv X pins σ H3 { s3 with heap := s3.heap.push { cls := .type "slice", data := .fields #[vl, vu, .none] } } := I3.kept (t' := s3.toks) fun b ob q => Heap.get?_push_of_some _ q
  obtain ⟨T, id, hT, ht, hg⟩ := hr pins { s3 with heap := s3.heap.push { cls := .type "slice", data := .fields #[vl, vu, .none] } } σ H3 x v vl vu l u s3.heap.objs.size Q I4 r1 (Heap.IsSliceOf.new ..) pl pu q3
  show wpAny (model X.prog X.w) X.A (subscriptTail e (.Slice lo hi none p2) v (.ref s3.heap.objs.size)) (EP X pins σ Q) X.xe { s3 with heap := s3.heap.push { cls := .type "slice", data := .fields #[vl, vu, .none] } }
  exact tail_any (ops := [.ref s3.heap.objs.size, v]) ht hT hg (by with_unfolding_all rfl)
def cutV (xs : List V) (lo hi : Option Int) : List V := (xs.drop (HT.sIx xs.length 0 lo)).take (HT.sIx xs.length xs.length hi - HT.sIx xs.length 0 lo)
theorem cutV_length (xs : List V) (lo hi : Option Int) : (cutV xs lo hi).length ≤ xs.length := by
  unfold cutV
  rw [List.length_take, List.length_drop]
  omega
def rSlT (K : PySem.W.Frag) : V → Option Int → Option Int → Hp → VK → Prop := fun x lo hi H Q => ∃ a xs, x = .ref a ∧ SqT K H a xs ∧
  ¬ (HT.sIx xs.length 0 lo = 0 ∧ HT.sIx xs.length xs.length hi = xs.length) ∧ ∀ p, H p = none → Q (.ref p) (upd H p (.tup (cutV xs lo hi)))
theorem sl_tup : SlR X (rSlT X.K) := by
  intro pins s σ H x v vl vu lo hi sl Q I rx hs pl pu h
  obtain ⟨a, xs, rfl, hx, hw, q⟩ := h
  cases rx
  obtain ⟨its, r, ht, hz⟩ := I.tuple hx
  have hlen : its.toArray.size = xs.length := by rw [List.size_toArray]; exact r.length.symm
  refine ⟨"tuple", _, PyProof.Rows.slot_tuple_getitem.lookup, ht.typeIs, ?_⟩
  refine HT.getItem_tuple_cut ht hs pl pu (by rw [hlen]; exact hw) ?_ (by rw [hlen]; exact hz)
  rw [hlen]
  refine ⟨.ref s.heap.objs.size, _, I.laid (t' := s.toks) (o := .tup (cutV xs lo hi)) (fun b ob q => Heap.get?_push_of_some _ q) (Nat.le_refl _) ?_, rfl, q _ (I.hok.fresh (Nat.le_refl _))⟩
  exact ⟨Nat.le_trans (cutV_length xs lo hi) hz, _, (r.drop (HT.sIx xs.length 0 lo)).take (HT.sIx xs.length xs.length hi - HT.sIx xs.length 0 lo), IsTup.new _ _⟩
def rCatT (K : PySem.W.Frag) : R2 := fun x y H Q => ∃ a b xs ys, x = .ref a ∧ y = .ref b ∧ SqT K H a xs ∧ SqT K H b ys ∧ xs ≠ [] ∧ xs.length + ys.length ≤ sizeLine ∧
  (ys = [] → Q (.ref a) H) ∧ (ys ≠ [] → ∀ p, H p = none → Q (.ref p) (upd H p (.tup (xs ++ ys))))
theorem Vals.nil_iff {xs : List V} {us : List Value} (r : Vals xs us) : us = [] ↔ xs = [] := by
  cases r with
  | nil => simp
  | cons _ _ => simp
theorem op_catT : OpR X (binaryOp .Add) (rCatT X.K) := by
  intro pins s σ H x y v u Q I rx ry h
  obtain ⟨a, b, xs, ys, rfl, rfl, ha, hb, hx, hz, q1, q2⟩ := h
  cases rx
  cases ry
  obtain ⟨its, r1, p1, _⟩ := I.tuple ha
  obtain ⟨its2, r2, p2, _⟩ := I.tuple hb
  refine HT.cat_tup p1 p2 (fun z => hx (r1.nil_iff.mp z)) (fun z => ⟨.ref a, H, I, rfl, q1 (r2.nil_iff.mp z)⟩) (fun z => ?_) (by rw [← r1.length, ← r2.length]; exact hz)
  refine ⟨.ref s.heap.objs.size, _, I.laid (t' := s.toks) (o := .tup (xs ++ ys)) (fun b ob q => Heap.get?_push_of_some _ q) (Nat.le_refl _) ?_, rfl, q2 (fun w => z (r2.nil_iff.mpr w)) _ (I.hok.fresh (Nat.le_refl _))⟩
  exact ⟨by rw [List.length_append]; exact hz, _, r1.append r2, IsTup.new _ _⟩
end
end L2
namespace L2
open PySem PySem.Spec PyProof.Rows
def ixN (n : Nat) (i : Int) : Option Nat := if 0 ≤ i then (if i < n then some i.toNat else none) else if -(n : Int) ≤ i then some (i + n).toNat else none
def atI {α : Type} (xs : List α) (i : Int) : Option α := (ixN xs.length i).bind fun j => xs[j]?
theorem ixN_seq {n : Nat} {i : Int} {j : Nat} (h : ixN n i = some j) : seqIndex? i n = some j ∧ j < n ∧ -(n : Int) ≤ i ∧ i < n := by
  unfold ixN at h
  by_cases h0 : 0 ≤ i
  · rw [if_pos h0] at h
    by_cases h1 : i < n
    · rw [if_pos h1] at h
      have e : i.toNat = j := Option.some.inj h
      exact ⟨by rw [seqIndex_of h0 h1, e], by omega, by omega, h1⟩
    · rw [if_neg h1] at h; cases h
  · rw [if_neg h0] at h
    by_cases h1 : -(n : Int) ≤ i
    · rw [if_pos h1] at h
      have e : (i + n).toNat = j := Option.some.inj h
      exact ⟨by rw [seqIndex_neg (by omega) h1, e], by omega, h1, by omega⟩
    · rw [if_neg h1] at h; cases h
theorem atI_get {α : Type} {xs : List α} {i : Int} {v : α} (h : atI xs i = some v) : ∃ j, seqIndex? i xs.length = some j ∧ xs[j]? = some v ∧ j < xs.length ∧ -(xs.length : Int) ≤ i ∧ i < xs.length := by
  unfold atI at h
  cases e : ixN xs.length i with
  | none => rw [e] at h; cases h
  | some j =>
    rw [e] at h
    obtain ⟨h1, h2, h3, h4⟩ := ixN_seq e
    exact ⟨j, h1, h, h2, h3, h4⟩
def PlainIx (b : Expr) : Prop := ∀ o i, subscripted b false o i = operate [o, i] (getItem o i)
def IxR (X : Cx) (r : R2) : Prop :=
  ∀ (value slice : Expr) (pins : List (Addr × Obj)) (s : Shared) (σ : St) (H : Hp) (x y : V) (v u : Value) (Q : VK), Inv X pins σ H s → RelV x v → RelV y u → r x y H Q →
    subscripted slice false v u = operate [v, u] (getItem v u) → wpAny (model X.prog X.w) X.A (subscriptTail value slice v u) (EP X pins σ Q) X.xe s
def MtR (X : Cx) (id : String) (r : V → List V → Hp → VK → Prop) : Prop :=
  ∀ (pins : List (Addr × Obj)) (s : Shared) (σ : St) (H : Hp) (x : V) (xs : List V) (v : Value) (us : List Value) (Q : VK), Inv X pins σ H s → RelV x v → Vals xs us → r x xs H Q →
    wpAny (model X.prog X.w) X.A (call (.builtin id) (v :: us)) (EP X pins σ Q) X.xe s
section
variable {X : Cx} {a b : Expr} {ta tb : TE} {pos : Pos}
theorem IxR.or {r r' : R2} (h : IxR X r) (h' : IxR X r') : IxR X (fun x y H Q => r x y H Q ∨ r' x y H Q) := by
  intro value slice pins s σ H x y v u Q I rx ry q hs
  rcases q with q | q
  · exact h value slice pins s σ H x y v u Q I rx ry q hs
  · exact h' value slice pins s σ H x y v u Q I rx ry q hs
theorem pe_ix {r : R2} (hr : IxR X r) (ha : PE X a ta) (hb : PE X b tb) (hs : PlainIx b) : PE X (.Subscript a b pos) (tOp r ta tb) := by
  intro pins s σ H Q I h
  exact Subscript_ (binT ha hb I h fun v u s2 x y H2 I2 rx ry q => hr a b pins s2 σ H2 x y v u Q I2 rx ry q (hs _ _))
def rIxL (K : PySem.W.Frag) : R2 := fun x y H Q => ∃ p xs i v, x = .ref p ∧ y = .int i ∧ SqL K H p xs ∧ atI xs i = some v ∧ Q v H
def rIxT (K : PySem.W.Frag) : R2 := fun x y H Q => ∃ p xs i v, x = .ref p ∧ y = .int i ∧ SqT K H p xs ∧ atI xs i = some v ∧ Q v H
def rIxS : R2 := fun x y H Q => ∃ z i c, x = .str z ∧ y = .int i ∧ z.length ≤ sizeLine ∧ atI z.cps.toList i = some c ∧ Q (.str ⟨#[c]⟩) H
theorem ix_list : IxR X (rIxL X.K) := by
  intro value slice pins s σ H x y v u Q I rx ry h hs
  obtain ⟨p, xs, i, z, rfl, rfl, hq, he, q⟩ := h
  cases rx
  obtain ⟨t, rfl⟩ := ry
  obtain ⟨its, r, pl, hz⟩ := I.list hq
  obtain ⟨j, h1, h2, h3, h4, h5⟩ := atI_get he
  obtain ⟨w, ew, rw'⟩ := r.get h2
  have hl := r.length
  have hn := line63
  have fin : EP X pins σ Q w s := ⟨z, H, I, rw', q⟩
  by_cases h0 : 0 ≤ i
  · have hj : i.toNat = j := by
      rw [seqIndex_of h0 h5] at h1
      exact Option.some.inj h1
    exact item_listR pl.isList h0 (by omega) (by rw [hj]; simpa using ew) fin hs
  · have hj : (i + (its.toArray.size : Int)).toNat = j := by
      rw [seqIndex_neg (by omega) h4] at h1
      rw [List.size_toArray, ← hl]
      exact Option.some.inj h1
    exact subscriptTail_builtinR (x := w) pl.isList.typeIs slot_list_getitem.lookup
      (wpAny_getItem_list_neg (Q := fun r s' => r = w ∧ EP X pins σ Q r s') pl.isList (by omega) (by rw [List.size_toArray] <;> omega) (by omega) (by rw [hj]; simpa using ew) ⟨rfl, fin⟩) hs
theorem ix_tup : IxR X (rIxT X.K) := by
  intro value slice pins s σ H x y v u Q I rx ry h hs
  obtain ⟨p, xs, i, z, rfl, rfl, hq, he, q⟩ := h
  cases rx
  obtain ⟨t, rfl⟩ := ry
  obtain ⟨its, r, pl, hz⟩ := I.tuple hq
  obtain ⟨j, h1, h2, h3, h4, h5⟩ := atI_get he
  obtain ⟨w, ew, rw'⟩ := r.get h2
  have hl := r.length
  have hn := line63
  have fin : EP X pins σ Q w s := ⟨z, H, I, rw', q⟩
  exact subscriptTail_builtinR (x := w) pl.typeIs slot_tuple_getitem.lookup
    (getItem_tuple (j := j) (Q := fun r s' => r = w ∧ EP X pins σ Q r s') pl (by omega) (by omega) (by rw [List.size_toArray, ← hl]; exact h1) (by simpa using ew) ⟨rfl, fin⟩) hs
theorem ix_str : IxR X rIxS := by
  intro value slice pins s σ H x y v u Q I rx ry h hs
  obtain ⟨z, i, c, rfl, rfl, hz, he, q⟩ := h
  obtain ⟨t, rfl⟩ := rx
  obtain ⟨t', rfl⟩ := ry
  obtain ⟨j, h1, h2, h3, h4, h5⟩ := atI_get he
  have hl : z.cps.toList.length = z.length := by simp [Str.length]
  rw [hl] at h1 h4 h5
  have hn := line63
  exact tail_any (typeIs_str s z t) slot_str_getitem.lookup (getItem_str (c := c) (by
    have e1 : decide (i < -(2 ^ 63 : Int)) = false := decide_eq_false (by omega)
    have e2 : decide (i ≥ 2 ^ 63) = false := decide_eq_false (by omega)
    rw [e1, e2, Bool.or_false]) (by rw [h1]; simpa using h2) ⟨.str ⟨#[c]⟩, H, I.tok _, ⟨_, rfl⟩, q⟩) hs
def rIx (K : PySem.W.Frag) : R2 := fun x y H Q => rIxL K x y H Q ∨ rIxT K x y H Q ∨ rIxS x y H Q
theorem ix_seq : IxR X (rIx X.K) := ix_list.or (ix_tup.or ix_str)
theorem slice_bounds (lo hi : Option Int) (n : Nat) : (sliceBounds lo hi none n).1 = ((HT.sIx n 0 lo : Nat) : Int) ∧ (sliceBounds lo hi none n).2.1 = ((HT.sIx n n hi : Nat) : Int) ∧ (sliceBounds lo hi none n).2.2 = 1 := by
  refine ⟨?_, ?_, rfl⟩
  · cases lo with
    | none => simp [sliceBounds, HT.sIx]
    | some i =>
      simp only [sliceBounds, HT.sIx, Option.getD_none, show (1 : Int) > 0 by decide, if_true]
      by_cases h : i < 0
      · simp only [h, if_true] <;> omega
      · simp only [h, if_false] <;> omega
  · cases hi with
    | none => simp [sliceBounds, HT.sIx]
    | some i =>
      simp only [sliceBounds, HT.sIx, Option.getD_none, show (1 : Int) > 0 by decide, if_true]
      by_cases h : i < 0
      · simp only [h, if_true] <;> omega
      · simp only [h, if_false] <;> omega
theorem slicePick_cut (its : List Value) (lo hi : Option Int) : slicePick its.toArray lo hi none = ((its.drop (HT.sIx its.length 0 lo)).take (HT.sIx its.length its.length hi - HT.sIx its.length 0 lo)).toArray := by
  obtain ⟨h1, h2, h3⟩ := slice_bounds lo hi its.toArray.size
  unfold slicePick
  rw [h1, h2, h3]
  simp only [sliceRange_one, pick_run, List.size_toArray] <;> rfl
def rSlL (K : PySem.W.Frag) : V → Option Int → Option Int → Hp → VK → Prop := fun x lo hi H Q => ∃ a xs, x = .ref a ∧ SqL K H a xs ∧ ∀ p, H p = none → Q (.ref p) (upd H p (.lst (cutV xs lo hi)))
theorem sl_list : SlR X (rSlL X.K) := by
  intro pins s σ H x v vl vu lo hi sl Q I rx hs pl pu h
  obtain ⟨a, xs, rfl, hx, q⟩ := h
  cases rx
  obtain ⟨its, r, ht, hz⟩ := I.list hx
  have hlen := r.length
  refine ⟨"list", _, slot_list_getitem.lookup, ht.isList.typeIs, ?_⟩
  refine wpAny_getItem_list_slice ht.isList hs pl pu .none (by simp) ?_ (by rw [List.size_toArray] <;> omega)
  rw [slicePick_cut, ← hlen]
  refine ⟨.ref s.heap.objs.size, _, I.laid (t' := s.toks) (o := .lst (cutV xs lo hi)) (fun b ob q => Heap.get?_push_of_some _ q) (Nat.le_refl _) ?_, rfl, q _ (I.hok.fresh (Nat.le_refl _))⟩
  exact ⟨Nat.le_trans (cutV_length xs lo hi) hz, _, 0, (r.drop (HT.sIx xs.length 0 lo)).take (HT.sIx xs.length xs.length hi - HT.sIx xs.length 0 lo), Heap.get?_push_size _ rfl⟩
def flatV : V → Bool
  | .non => true
  | .bl _ => true
  | .int _ => true
  | .str _ => true
  | _ => false
def eqV : V → V → Bool
  | .non, .non => true
  | .bl a, .bl b => a == b
  | .bl a, .int b => (if a then 1 else 0) == b
  | .int a, .bl b => a == (if b then 1 else 0)
  | .int a, .int b => a == b
  | .str a, .str b => a == b
  | _, _ => false
theorem eqAt_V {A : Around} {s : Shared} {y x : V} {u v : Value} (ry : RelV y u) (rx : RelV x v) (fy : flatV y = true) (fx : flatV x = true) : SeqAt.EqAt A s u v (eqV y x) := by
  cases y with
  | non =>
    cases ry
    cases x with
    | non => cases rx; exact SeqAt.EqAt.same _
    | bl b => cases rx; exact SeqAt.EqAt.none_bool b
    | int b => obtain ⟨t, rfl⟩ := rx; exact SeqAt.EqAt.none_int b t
    | str b => obtain ⟨t, rfl⟩ := rx; exact SeqAt.EqAt.none_str b t
    | _ => exact absurd (show false = true from fx) Bool.false_ne_true
  | bl a =>
    cases ry
    cases x with
    | non => cases rx; exact SeqAt.EqAt.bool_none a
    | bl b => cases rx; exact SeqAt.EqAt.bool_bool a b
    | int b => obtain ⟨t, rfl⟩ := rx; exact SeqAt.EqAt.bool_int a b t
    | str b => obtain ⟨t, rfl⟩ := rx; exact SeqAt.EqAt.bool_str a b t
    | _ => exact absurd (show false = true from fx) Bool.false_ne_true
  | int a =>
    obtain ⟨t', rfl⟩ := ry
    cases x with
    | non => cases rx; exact SeqAt.EqAt.int_none a t'
    | bl b => cases rx; exact SeqAt.EqAt.int_bool a t' b
    | int b => obtain ⟨t, rfl⟩ := rx; exact SeqAt.EqAt.int_int a t' b t
    | str b => obtain ⟨t, rfl⟩ := rx; exact SeqAt.EqAt.int_str a t' b t
    | _ => exact absurd (show false = true from fx) Bool.false_ne_true
  | str a =>
    obtain ⟨t', rfl⟩ := ry
    cases x with
    | non => cases rx; exact SeqAt.EqAt.str_none a t'
    | bl b => cases rx; exact SeqAt.EqAt.str_bool a t' b
    | int b => obtain ⟨t, rfl⟩ := rx; exact SeqAt.EqAt.str_int a t' b t
    | str b => obtain ⟨t, rfl⟩ := rx; exact SeqAt.EqAt.str_str a t' b t
    | _ => exact absurd (show false = true from fx) Bool.false_ne_true
  | _ => exact absurd (show false = true from fy) Bool.false_ne_true
def eqU (x : V) (u : Value) : Bool := match u with
  | .none => eqV .non x
  | .bool b => eqV (.bl b) x
  | .int i _ => eqV (.int i) x
  | .str z _ => eqV (.str z) x
  | _ => false
theorem eqU_of {x y : V} {u : Value} (r : RelV y u) (f : flatV y = true) : eqU x u = eqV y x := by
  cases y with
  | non => cases r; rfl
  | bl b => cases r; rfl
  | int i => obtain ⟨t, rfl⟩ := r; rfl
  | str z => obtain ⟨t, rfl⟩ := r; rfl
  | _ => exact absurd (show false = true from f) Bool.false_ne_true
theorem any_eqU {x : V} : ∀ {xs : List V} {us : List Value}, Vals xs us → xs.all flatV = true → us.any (eqU x) = xs.any fun y => eqV y x
  | _, _, .nil, _ => rfl
  | y :: xs, u :: us, .cons r t, f => by
    rw [List.all_cons, Bool.and_eq_true] at f
    rw [List.any_cons, List.any_cons, eqU_of r f.1, any_eqU t f.2]
theorem mem_eqAt {A : Around} {s : Shared} {x : V} {v : Value} (rx : RelV x v) (fx : flatV x = true) : ∀ {xs : List V} {us : List Value}, Vals xs us → xs.all flatV = true → ∀ u ∈ us, SeqAt.EqAt A s u v (eqU x u)
  | _, _, .nil, _ => fun u hu => by cases hu
  | y :: xs, u :: us, .cons r t, f => fun u' hu => by
    rw [List.all_cons, Bool.and_eq_true] at f
    rcases List.mem_cons.mp hu with rfl | hu
    · rw [eqU_of r f.1]; exact eqAt_V r rx f.1 fx
    · exact mem_eqAt rx fx t f.2 u' hu
def inV (x : V) (xs : List V) : Bool := xs.any fun y => eqV y x
def rIn (K : PySem.W.Frag) (neg : Bool) : R2 := fun x y H Q => ∃ p xs, y = .ref p ∧ (SqL K H p xs ∨ SqT K H p xs) ∧ flatV x = true ∧ xs.all flatV = true ∧ Q (.bl (if neg then !inV x xs else inV x xs)) H
theorem op_in_seq : OpR X (compareOp .In) (rIn X.K false) := by
  intro pins s σ H x y v u Q I rx ry h
  obtain ⟨p, xs, rfl, hq, fx, fs, q⟩ := h
  cases ry
  rcases hq with hq | hq
  · obtain ⟨its, r, pl, hz⟩ := I.list hq
    refine SeqAt.in_listAt (eqU x) pl.isList (fun w hw => mem_eqAt rx fx r fs w (by simpa using hw)) ⟨.bl _, H, I, rfl, ?_⟩
    rw [show its.toArray.any (eqU x) = its.any (eqU x) by simp, any_eqU r fs]
    exact q
  · obtain ⟨its, r, pl, hz⟩ := I.tuple hq
    refine SeqAt.in_tupleAt (eqU x) pl (fun w hw => mem_eqAt rx fx r fs w (by simpa using hw)) ⟨.bl _, H, I, rfl, ?_⟩
    rw [show its.toArray.any (eqU x) = its.any (eqU x) by simp, any_eqU r fs]
    exact q
theorem op_notIn_seq : OpR X (compareOp .NotIn) (rIn X.K true) := by
  intro pins s σ H x y v u Q I rx ry h
  obtain ⟨p, xs, rfl, hq, fx, fs, q⟩ := h
  cases ry
  rcases hq with hq | hq
  · obtain ⟨its, r, pl, hz⟩ := I.list hq
    refine SeqAt.notIn_listAt (eqU x) pl.isList (fun w hw => mem_eqAt rx fx r fs w (by simpa using hw)) ⟨.bl _, H, I, rfl, ?_⟩
    rw [show its.toArray.any (eqU x) = its.any (eqU x) by simp, any_eqU r fs]
    exact q
  · obtain ⟨its, r, pl, hz⟩ := I.tuple hq
    refine SeqAt.notIn_tupleAt (eqU x) pl (fun w hw => mem_eqAt rx fx r fs w (by simpa using hw)) ⟨.bl _, H, I, rfl, ?_⟩
    rw [show its.toArray.any (eqU x) = its.any (eqU x) by simp, any_eqU r fs]
    exact q
theorem call_tuple_of : CallR X (.type "tuple") (fun xs H Q => ∃ p ys, xs = [.ref p] ∧ ((SqL X.K H p ys ∧ ∀ l, H l = none → Q (.ref l) (upd H l (.tup ys))) ∨ (SqT X.K H p ys ∧ Q (.ref p) H))) := by
  intro pins s σ H xs us Q I r h
  obtain ⟨p, ys, rfl, h⟩ := h
  obtain ⟨u, rfl, rx⟩ := vals1 r
  cases rx
  rcases h with ⟨hq, q⟩ | ⟨hq, q⟩
  · obtain ⟨its, r', pl, hz⟩ := I.list hq
    have hlen := r'.length
    refine call_tuple_list pl.isList (fun h' kp => ?_) (by simp only [List.size_toArray] <;> omega)
    have I1 : Inv X pins σ H { s with heap := h' } := I.kept (t' := s.toks) kp
    have I2 : Inv X pins σ (upd H h'.objs.size (.tup ys)) { s with heap := h'.push { cls := .type "tuple", data := .seq its.toArray } } :=
      I1.laid (t' := s.toks) (fun b o e => Heap.get?_push_of_some _ e) (Nat.le_refl _) (show ObjOk X.prog X.w _ _ _ (.tup ys) from ⟨hz, its, r', IsTup.new _ _⟩)
    exact ⟨.ref h'.objs.size, _, I2, rfl, q _ (I1.hok.fresh (Nat.le_refl _))⟩
  · obtain ⟨its, r', pl, hz⟩ := I.tuple hq
    exact call_tuple_same pl ⟨.ref p, H, I, rfl, q⟩
def tyV (K : PySem.W.Frag) (T : String) (x : V) (H : Hp) : Prop := match x with
  | .str _ => T = "str"
  | .int _ => T = "int"
  | .ref p => (T = "list" ∧ ∃ xs, SqL K H p xs) ∨ (T = "tuple" ∧ ∃ o, K.lookup p = some o ∧ o.cls = .type "tuple" ∧ o.dict = none) ∨
      (T = "dict" ∧ ((∃ kvs, H p = some (.dK kvs)) ∨ ∃ kvs, H p = some (.dT kvs))) ∨ (T = "set" ∧ ∃ S n, H p = some (.set S n))
  | _ => False
theorem tyV_is {pins : List (Addr × Obj)} {σ : St} {H : Hp} {s : Shared} {T : String} {x : V} {v : Value} (I : Inv X pins σ H s) (r : RelV x v) (ty : tyV X.K T x H) :
    s.TypeIs v T ∧ ∀ a, v = .ref a → ∃ ob, s.heap.get? a = some ob ∧ ob.dict = none := by
  cases x with
  | str z =>
    obtain ⟨t, rfl⟩ := r
    cases (show T = "str" from ty)
    exact ⟨typeIs_str s z t, fun _ e => nomatch e⟩
  | int i =>
    obtain ⟨t, rfl⟩ := r
    cases (show T = "int" from ty)
    exact ⟨typeIs_int s i t, fun _ e => nomatch e⟩
  | ref p =>
    cases r
    rcases ty with ⟨rfl, xs, hq⟩ | ⟨rfl, o, hk, hc, hd⟩ | ⟨rfl, hk⟩ | ⟨rfl, S, n, hk⟩
    · obtain ⟨its, _, pl, _⟩ := I.list hq
      refine ⟨pl.isList.typeIs, fun a e => ?_⟩
      cases e
      obtain ⟨o, n, e, c, hd, _⟩ := pl
      exact ⟨o, e, hd⟩
    · refine ⟨⟨o, I.kIn p o hk, hc⟩, fun a e => ?_⟩
      cases e
      exact ⟨o, I.kIn _ o hk, hd⟩
    · have z : ∃ o, s.heap.get? p = some o ∧ o.ExactDict := by
        rcases hk with ⟨kvs, hk⟩ | ⟨kvs, hk⟩
        · obtain ⟨_, _, _, _, o, _, _, e, ex, _⟩ := I.hok p _ hk
          exact ⟨o, e, ex⟩
        · obtain ⟨_, _, _, _, o, _, _, e, ex, _⟩ := I.hok p _ hk
          exact ⟨o, e, ex⟩
      obtain ⟨o, e, ex⟩ := z
      refine ⟨⟨o, e, ex.1⟩, fun a e2 => ?_⟩
      cases e2
      exact ⟨o, e, ex.2.1⟩
    · obtain ⟨o, _, _, _, e, ex, _⟩ := I.hok p _ hk
      refine ⟨⟨o, e, ex.1⟩, fun a e2 => ?_⟩
      cases e2
      exact ⟨o, e, ex.2.1⟩
  | _ => exact False.elim ty
def tBM (K : PySem.W.Frag) (T : String) (r : V → List V → Hp → VK → Prop) (to : TE) (t : TA) : TE := fun σ H Q => to σ H fun x H1 => tyV K T x H1 ∧ t σ H1 fun xs H2 => r x xs H2 Q
variable {o e : Expr} {es : List Expr} {to : TE} {t : TA} {name : Str} {apos cpos : Pos} {T id : String} {r : V → List V → Hp → VK → Prop}
theorem pe_bm (pa : PlainAttrs T) (slot : Slot T name id) (hty : typeOf (.builtin id) = pure (.type "method_descriptor")) (hm : MtR X id r) (ho : PE X o to) (ha : PA X (e :: es) t)
    (hbase : attributeBase o name X.env (eval o X.env) = eval o X.env := by rfl)
    (hfew : ((backTo cpos (starEach (e :: es) X.env)).all (fun x => !x.1) && (backToKw cpos (keywordEach [] X.env)).all (fun x => x.1.isSome)
      && decide ((e :: es).length + ([] : List Keyword).length + (if ([] : List Keyword).isEmpty then 0 else 1) < 30)) = true := by rfl)
    (hline : (apos.endLine == cpos.line) = true := by rfl) (hs : starEach (e :: es) X.env = (false, eval e X.env) :: starEach es X.env := by rfl) (hplain : (backTo cpos (starEach es X.env)).any (·.1) = false := by rfl) :
    PE X (.Call (.Attribute o name apos) (e :: es) [] cpos) (tBM X.K T r to t) := by
  intro pins s σ H Q I h
  refine wpAny_Call_method_late hbase hfew hline rfl (thn (ho pins s σ H _ I h) fun v s1 ⟨x, H1, I1, r1, ty, q1⟩ => ?_)
  obtain ⟨h1, h2⟩ := tyV_is I1 r1 ty
  refine ⟨T, id, pa, slot, hty, h1, h2, ?_⟩
  have hA := ha cpos pins s1 σ H1 _ I1 q1
  rw [hs] at hA ⊢
  refine Calls.callWith_builtin (by show (false || (backTo cpos (starEach es X.env)).any (·.1)) = false; rw [hplain] <;> rfl) (Calls.evalArgs_plain ?_)
  exact thn hA fun us s2 ⟨vs, H2, I2, r2, q2⟩ => hm pins s2 σ H2 x vs v us Q I2 r1 r2 q2
end
end L2
namespace L2
open PySem PySem.Spec PyProof.Rows
def MtM (X : Cx) (id : String) (r : V → List V → Hp → VK → Prop) : Prop :=
  ∀ (pins : List (Addr × Obj)) (s : Shared) (σ : St) (H : Hp) (x : V) (xs : List V) (v : Value) (us : List Value) (Q : VK), Inv X pins σ H s → RelV x v → Vals xs us → r x xs H Q →
    wpAny (model X.prog X.w) X.A (call (.builtin id) (v :: us)) (EP X pins σ Q) X.xe s
theorem Vals.one : ∀ {x : V} {us : List Value}, Vals [x] us → ∃ u, us = [u] ∧ RelV x u
  | _, _, .cons r .nil => ⟨_, rfl, r⟩
theorem Vals.zero : ∀ {us : List Value}, Vals [] us → us = []
  | _, .nil => rfl
section
variable {X : Cx} {pins : List (Addr × Obj)} {σ : St} {H : Hp} {s : Shared} {l b : Addr} {xs ys zs : List V}
theorem Inv.lset {its its' : List Value} {n : Nat} {f : Array Value → Array Value} {t' : Nat} (I : Inv X pins σ H s) (hH : H l = some (.lst xs))
    (e : s.heap.get? l = some { cls := .type "list", data := .seq its.toArray n }) (hf : f its.toArray = its'.toArray) (hv : Vals ys its') (hz : ys.length ≤ sizeLine) :
    Inv X pins σ (upd H l (.lst ys)) { s with heap := s.heap.update l (Obj.mapSeq f), toks := t' } := by
  have q := PySem.IsL.update e f
  rw [hf] at q
  refine I.write (x := l) (e := l) (by rw [hH]; exact trivial) (.inl rfl) (fun b' u hb hu => (Heap.get?_update_other s.heap (Obj.mapSeq f) (Ne.symm hb)).trans hu) ⟨_, q⟩ ?_
  exact ⟨hz, its', _, hv, q⟩
theorem Inv.lnew {its : List Value} {t' : Nat} (I : Inv X pins σ H s) (hv : Vals ys its) (hz : ys.length ≤ sizeLine) :
    Inv X pins σ (upd H s.heap.objs.size (.lst ys)) { s with heap := s.heap.push { cls := .type "list", data := .seq its.toArray }, toks := t' } :=
  I.laid (fun _ _ q => Heap.get?_push_of_some _ q) (Nat.le_refl _) ⟨hz, its, 0, hv, Heap.get?_push_size _ rfl⟩
theorem Inv.fresh (I : Inv X pins σ H s) : H s.heap.objs.size = none := I.hok.fresh (Nat.le_refl _)
theorem Inv.lstM (I : Inv X pins σ H s) (hH : H l = some (.lst xs)) : xs.length ≤ sizeLine ∧ ∃ (its : List Value) (n : Nat), Vals xs its ∧ xs.length = its.length ∧ s.heap.get? l = some { cls := .type "list", data := .seq its.toArray n } := by
  obtain ⟨z, its, n, r, e⟩ := I.hok l _ hH
  exact ⟨z, its, n, r, r.length, e⟩
end
section
variable {X : Cx}
def rAppend : V → List V → Hp → VK → Prop := fun x vs H Q => ∃ l xs y, x = .ref l ∧ vs = [y] ∧ H l = some (.lst xs) ∧ xs.length < sizeLine ∧ Q .non (upd H l (.lst (xs ++ [y])))
theorem mt_append : MtM X "list.append" rAppend := by
  intro pins s σ H x vs v us Q I rx rv h
  obtain ⟨l, xs, y, rfl, rfl, hH, hz, q⟩ := h
  cases rx
  obtain ⟨u, rfl, ru⟩ := rv.one
  obtain ⟨z, its, n, r, hl, e⟩ := I.lstM hH
  refine call_meets F.slot_list_append ⟨_, e, rfl⟩ F.entry_list_append (F.args_list_append_2 _ _) (PySem.list_append l its.toArray n u (by rw [List.size_toArray]; omega)) ⟨e, ?_⟩
  refine ⟨.non, _, I.lset (its' := its ++ [u]) hH e (by simp) (r.append (.cons ru .nil)) ?_, rfl, q⟩
  rw [List.length_append, List.length_singleton]
  omega
end
section
variable {prog : Program} {w : World} {A : Around} {E : Value → Shared → Prop} {s : Shared}
end
section
variable {X : Cx}
end
end L2
namespace Att
open PySem PySem.W PySem.Calls PyProof.Rows
theorem ints_of_wellAll {P : Params} {h : Heap} : ∀ (ns : List Int) (vs : List Value), WellAll P h vs (ns.map WData.int) → IntsAre vs ns := by
  intro ns
  induction ns with
  | nil =>
    intro vs w
    rw [List.map_nil] at w
    cases w
    exact .nil
  | cons n ns ih =>
    intro vs w
    rw [List.map_cons] at w
    cases w with
    | cons a b =>
      cases a
      exact .cons _ _ (ih _ b)
theorem script_of {l : OpenLaw} {n : Nat} (hn : l.most = some n) {P : Params} {h : Heap} {args : List WData} {vals : List Value}
    (hpre : l.row.toRowW.claim.pre args = true) (hwl : WellAll P h vals args) :
    ∃ a vs ns, vals = [Value.ref a] ∧ args = [WData.list (ns.map WData.int)] ∧ h.get? a = some { cls := .type "list", data := .seq vs.toArray } ∧ IntsAre vs ns ∧ ns.length ≤ n := by
  have hsh : WShape.hasAll [] args [.list .int] = true := (pre_splitW hpre).1
  have hc : l.pre.holds [] { args := args } = true := (pre_splitW hpre).2
  obtain ⟨d, r, rfl, h1, h2⟩ := hasAllW_cons hsh
  obtain rfl := hasAllW_nil h2
  obtain ⟨xs, rfl, h3⟩ := hasW_list h1
  obtain ⟨ns, rfl⟩ := items_int h3
  have hlen : ns.length ≤ n := by
    unfold OpenLaw.pre at hc
    have h4 : (WTm.not (.lt (.lit (.int (n : Int))) (.len (.arg 0)))).holds [] { args := [.list (ns.map .int)] } = true := by
      have h4 := (holds_andW hc).1
      rw [hn] at h4
      exact h4
    have h5 := condW_of h4 (w_not (w_lt w_lit (w_len_list (w_arg rfl))))
    rw [List.length_map] at h5
    refine Nat.le_of_not_lt fun q => ?_
    have q' : (n : Int) < ((ns.length : Nat) : Int) := by omega
    first
      | (rw [decide_eq_true q'] at h5; exact absurd h5 (by decide))
      | (simp at h5; omega)
  cases hwl with
  | cons w1 w2 =>
    cases w2
    cases w1 with
    | list ho hall => exact ⟨_, _, ns, rfl, rfl, ho, ints_of_wellAll ns _ hall, hlen⟩
theorem post_true (l : OpenLaw) (args : List WData) : l.row.toRowW.claim.post args (.bool true) args = true :=
  postW_of (r := l.row.toRowW) (X := (true == true))
    (show WShape.has [] (.bool true) .bool = true by first | rfl | decide | simp [WShape.has, WShape.arms, WShape.armsAll])
    (show (WTm.eq .res (.lit (.bool true))).value [] { args := args, res := some (.bool true), after := args } = some (.bool (true == true)) from w_eq_bool (w_res rfl) w_lit) rfl
theorem attach_call {l : OpenLaw} {n : Nat} {q : Program} {loose : List Str} {XP : (Str → Option Value) → Heap → Prop} {YP : World → Heap → Prop} {d : DefRec}
    (hn : l.most = some n) (hdf : d.params.defaults = [])
    (call : ∀ (w : World) (s₀ s₁ : Shared) (mg mb : Str → Option Value) (fa : Addr) (o : Obj) (pm cd doc : Value) (a : Addr) (vs : List Value) (ns : List Int),
      Ground q loose [] XP w s₀ mg mb s₁.heap → YP w s₁.heap →
      s₁.heap.get? fa = some o → o.data = .func (docDef d.name d.params d.body d.scope pm cd doc) → s₁.heap.CodeRec cd d.name → mg d.name = some (.ref fa) →
      s₁.heap.get? a = some { cls := .type "list", data := .seq vs.toArray } → IntsAre vs ns → ns.length ≤ n → s₁.gens = #[] →
      codeAny (model l.prog w) callerA (.call (.ref fa) ⟨[.ref a], []⟩) (fun r s' => r = .ok (.ret (.bool true)) ∧ OldK s₁.heap s'.heap ∧ s'.os = s₁.os ∧ AllBare s'.gens) s₁) :
    WalkO q loose XP YP l.row.toRowW d [] (fun f vs => PySem.call f vs) := by
  intro w s₀ s₁ mg mb G Y fa o pm cd doc dV kV ho hd hcd hD hmg hg args vals as hpre hlay hrd hwl hlo
  obtain rfl : dV = .none := Dflts.none hD hdf
  obtain rfl : kV = .none := Dflts.noKw hD
  obtain ⟨a, vs, ns, rfl, rfl, hobj, hints, hlen⟩ := script_of hn hpre hwl
  refine enter_call (codeAny_mono (call w s₀ s₁ mg mb fa o pm cd doc a vs ns G Y ho (fd_plain hd) hcd hmg hobj hints hlen hg) fun r s' hq => ?_)
  obtain ⟨rfl, h2, h3, h4⟩ := hq
  exact ⟨.inl ⟨.bool true, .bool true, [], rfl, fun _ => rfl, .bool true, post_true l _, fun _ => ⟨List.Pairwise.nil, fun _ hm => (nomatch hm)⟩⟩, h2, h3, h4⟩
section
variable {prog : Program} {w : World} {A : Around} {E : Value → Shared → Prop} {s : Shared} {K : Frag}
end
end Att
namespace L2
open PySem PySem.Spec PyProof.Rows
theorem vals_ints : ∀ {vs : List Value} {ns : List Int}, IntsAre vs ns → Vals (ns.map V.int) vs
  | _, _, .nil => .nil
  | _, _, .cons n t h => .cons ⟨t, rfl⟩ (vals_ints h)
def Only (H : Hp) : Prop := ∀ b, H b = none ∨ ∃ o xs, H b = some (.frz o (.lst xs))
theorem law_call {P : Program} {w : World} {K : PySem.W.Frag} {mg mb : Str → Option Value} {CX : CXT} {k : Nat} {fa a : Addr} {fd : FuncData} {x : Str} {sp : Sp} {s₁ : Shared} {vs : List Value} {ns : List Int}
    (KX : K.In s₁.heap) (hns : s₁.heap.Ns mainGlobals mg) (hb : s₁.heap.Ns builtinsNs mb) (hbb : ∀ x : Str, x ≠ "__name__" → mb x = bootBuiltins x) (hlim : s₁.heap.NoLimit) (hg : s₁.gens = #[])
    (ha : s₁.heap.get? a = some { cls := .type "list", data := .seq vs.toArray }) (hi : IntsAre vs ns) (hl : ns.length ≤ sizeLine) (hr : Room k callerA)
    (F : ∀ base : Heap, K.In base → base.Ns mainGlobals mg → FnOk P w K mg base CX k fa fd [x] sp) (hbind : ∀ (s : Shared) (u : Value), BindsTo s fd ⟨[u], []⟩ [(x, u)])
    (hsp : ∀ H : Hp, Only H → SqL K H a (ns.map V.int) → sp [.ref a] H (fun v _ => v = .bl true) fun _ _ _ => False)
    (hCX : ∀ H e s', CX [] H s₁ (fun _ _ _ => False) e s' → False) :
    codeAny (model P w) callerA (.call (.ref fa) ⟨[.ref a], []⟩) (fun r s' => r = .ok (.ret (.bool true)) ∧ OldK s₁.heap s'.heap ∧ s'.os = s₁.os ∧ AllBare s'.gens) s₁ := by
  have rv := vals_ints hi
  have lenV := hi.length
  -- from an abstract heap in which nothing but the script may be tracked
  have core : ∀ H : Hp, Only H → SqL K H a (ns.map V.int) → HOk P w H s₁.heap → (∀ b, H b ≠ none → b = a) → (H a ≠ none → K.lookup a = none) →
      codeAny (model P w) callerA (.call (.ref fa) ⟨[.ref a], []⟩) (fun r s' => r = .ok (.ret (.bool true)) ∧ OldK s₁.heap s'.heap ∧ s'.os = s₁.os ∧ AllBare s'.gens) s₁ := by
    intro H hO hS hok hA hK
    have base_of : ∀ {b : Addr} {o : Obj}, s₁.heap.get? b = some o → H b = none → (hidT s₁.heap H).get? b = some o := fun e n => hidT_get e n
    have noA : ∀ {b : Addr} {o : Obj} {es : Array DictEntry} {ep : Nat}, s₁.heap.get? b = some o → o.data = .dict es ep → H b = none := fun {b o es ep} e d => by
      cases q : H b with
      | none => rfl
      | some u =>
        have e' : b = a := hA b (by rw [q]; simp)
        subst e'
        rw [ha] at e; cases e
        have d' : Data.seq vs.toArray _ = Data.dict es ep := d
        cases d'
    have nsK : ∀ {b : Addr} {m : Str → Option Value}, s₁.heap.Ns b m → (hidT s₁.heap H).Ns b m := fun {b m} ⟨o, es, ep, e, d, r⟩ => ⟨o, es, ep, base_of e (noA e d), d, r⟩
    have hKb : K.In (hidT s₁.heap H) := fun b o e => base_of (KX b o e) (by
      cases q : H b with
      | none => rfl
      | some u =>
        have e' : b = a := hA b (by rw [q]; simp)
        subst e'
        rw [hK (by rw [q]; simp)] at e; cases e)
    have hM : Mod K mg (hidT s₁.heap H) := ⟨hKb, nsK hns, ⟨mb, nsK hb, hbb⟩, let ⟨mc, h1, h2⟩ := hlim; ⟨mc, nsK h1, h2⟩⟩
    have e0 : Env0 P w K mg (hidT s₁.heap H) callerA [] s₁ H := ⟨rfl, hM, fun b o e => of_hidT e, Nat.le_of_eq (hidT_size _ _), trivial, fun b hb => absurd (show b ∈ ([] : List Addr) from hb) (by simp), hok, .of_eq hg⟩
    refine codeAny_mono ((F _ hKb (nsK hns)).run callerA [] s₁ H ⟨[.ref a], []⟩ [.ref a] [.ref a] _ _ hr e0 (hbind s₁ (.ref a)) (.cons rfl .nil) (hsp H hO hS)) fun r s' h => ?_
    cases r with
    | error e => exact (hCX H e s' h).elim
    | ok fl =>
      cases fl with
      | next => exact False.elim h
      | brk => exact False.elim h
      | cont => exact False.elim h
      | ret u =>
        obtain ⟨v, H', os, bare, un, hok', r', q⟩ := h
        have q' : v = .bl true := q
        subst q'
        obtain rfl : u = Value.bool true := r'
        refine ⟨rfl, OldK.of_keep fun b o e => ?_, os, bare⟩
        cases q : H b with
        | none => exact un.keep b o e q (by intro z; exact absurd (show b ∈ ([] : List Addr) from z) (by simp)) (by simp)
        | some u =>
          rcases hO b with z | ⟨ob, xs, z⟩
          · rw [q] at z; cases z
          · have z2 := un.frzs b ob _ z
            obtain ⟨e1, _⟩ := hok b _ z
            obtain ⟨e2, _⟩ := hok' b _ z2
            rw [e] at e1; cases e1
            exact e2
  cases hk : K.lookup a with
  | some o =>
    -- the script is one of the module's own objects
    have e := KX a o hk
    rw [ha] at e
    cases e
    refine core (fun _ => none) (fun _ => .inl rfl) (.inr ⟨_, vs.toArray, _, hk, rfl, rfl, rfl, by rw [List.size_toArray, lenV]; exact hl, by simpa using rv⟩) (fun b u z => by have z' : (none : Option HO) = some u := z; cases z') (fun b z => absurd rfl z) fun z => absurd rfl z
  | none =>
    refine core (fun b => if b = a then some (.frz { cls := .type "list", data := .seq vs.toArray } (.lst (ns.map V.int))) else none) (fun b => ?_) (.inl (.inr ⟨{ cls := .type "list", data := .seq vs.toArray }, if_pos rfl⟩)) (fun b u z => ?_) (fun b z => ?_) fun _ => hk
    · by_cases hb : b = a
      · exact .inr ⟨_, _, if_pos hb⟩
      · exact .inl (if_neg hb)
    · by_cases hb : b = a
      · have z' := (if_pos hb).symm.trans z
        cases z'
        subst hb
        exact ⟨ha, by rw [List.length_map]; exact hl, vs, _, rv, ha⟩
      · have z' := (if_neg hb).symm.trans z
        cases z'
    · by_cases hb : b = a
      · exact hb
      · exact absurd (if_neg hb) z
end L2
namespace L2
open PySem PySem.Spec PyProof.Rows
theorem walk_of {l : PySem.W.OpenLaw} {n k : Nat} {q : Program} {loose : List Str} {XP : (Str → Option Value) → Heap → Prop} {YP : World → Heap → Prop} {d : DefRec} {K : Params → PySem.W.Frag} {CX : World → CXT} {sp : World → Sp} {x : Str}
    (hn : l.most = some n) (hn2 : n ≤ sizeLine) (hdf : d.params.defaults = []) (hr : Room k callerA)
    (hY : ∀ (w : World) (h : Heap), YP w h → (K w.params).In h)
    (F : ∀ (w : World) (mg : Str → Option Value) (fa : Addr) (h : Heap), (K w.params).In h → h.Ns mainGlobals mg → mg d.name = some (.ref fa) →
      ∃ fd : FuncData, (∀ (s : Shared) (u : Value), BindsTo s fd ⟨[u], []⟩ [(x, u)]) ∧
        ∀ base : Heap, (K w.params).In base → base.Ns mainGlobals mg → FnOk l.prog w (K w.params) mg base (CX w) k fa fd [x] (sp w))
    (hsp : ∀ (w : World) (H : Hp) (a : Addr) (ns : List Int), ns.length ≤ n → Only H → SqL (K w.params) H a (ns.map V.int) → sp w [.ref a] H (fun v _ => v = .bl true) fun _ _ _ => False)
    (hCX : ∀ (w : World) (H : Hp) (s : Shared) (e : Value) (s' : Shared), CX w [] H s (fun _ _ _ => False) e s' → False) :
    PySem.W.WalkO q loose XP YP l.row.toRowW d [] (fun f vs => PySem.call f vs) := by
  refine Att.attach_call hn hdf fun w s₀ s₁ mg mb fa o pm cd doc a vs ns G Y ho hd hcd hmg hobj hints hlen hg => ?_
  have KX := hY w _ Y
  obtain ⟨fd, hb, hF⟩ := F w mg fa _ KX G.T.g hmg
  exact law_call KX G.T.g G.T.b G.T.builtins G.T.nolimit hg hobj hints (Nat.le_trans hlen hn2) hr hF hb (fun H hO hS => hsp w H a ns hlen hO hS) fun H e s' => hCX w H s₁ e s'
end L2
namespace L2
open PySem PySem.Spec PyProof.Rows
def defArgs (s : Stmt) : Arguments := match s with
  | .FunctionDef _ a _ _ _ _ _ _ _ _ => a
  | _ => { posonlyargs := [], args := [], vararg := none, kwonlyargs := [], kw_defaults := [], kwarg := none, defaults := [] }
def defBody (s : Stmt) : List Stmt := match s with
  | .FunctionDef _ _ b _ _ _ _ _ _ _ => b
  | _ => []
def defScope (s : Stmt) : Scope := match s with
  | .FunctionDef _ _ _ _ _ _ sc _ _ _ => sc
  | _ => { kind := .function, names := [], isGenerator := false, isCoroutine := false }
abbrev CX0 : CXT := fun _ _ _ _ _ _ => False
abbrev E0 : XK := fun _ _ _ => False
theorem pass0 {X : Cx} : Passes CX0 X E0 := fun _ _ _ _ _ _ _ h => h.elim
structure Fun (K : PySem.W.Frag) (x qual : Str) (st : Stmt) (f : Addr) (fd : FuncData) : Prop where
  ex : ∃ (oc : Value) (od : Option Addr) (kV doc pm : Value) (an : Option Addr) (cdv ct : Value) (osl : Array (Option Value)),
    fd = PySem.W.fnOf x qual (defArgs st) (defBody st) (defScope st) .none kV doc pm an cdv ct ∧ K.lookup f = some ⟨oc, od, .func fd, osl⟩ ∧ PySem.W.codeIn K cdv qual = true
  kp : PySem.W.keepIn K (.ref f) = true
section
variable {P : Program} {w : World} {K : PySem.W.Frag} {mg : Str → Option Value} {base : Heap}
theorem Fun.ok {x qual : Str} {st : Stmt} {f : Addr} {fd : FuncData} {N ps : List Str} {k : Nat} {sp : Sp} (F : Fun K x qual st f fd) (S : FnScope N ps (defScope st)) (len : ∀ vs H Q E, sp vs H Q E → vs.length = ps.length)
    (hbody : ∀ (cdv : Value) (A : Around) (outer : List Env) (s : Shared) (H : Hp) (vs : List V) (Q : VK) (E : XK), Room k (A.deeper (envOfC qual (defScope st) s.heap.objs.size f cdv)) → sp vs H Q E →
      ∃ t, PSs (cxOf CX0 P w K mg base N qual (defScope st) f cdv A outer s H E).nox (defBody st) t ∧ t { nx := fun _ H' => Q .non H', rt := Q } (start N vs) H) : FnOk P w K mg base CX0 (k + 1) f fd ps sp := by
  obtain ⟨oc, od, kV, doc, pm, an, cdv, ct, osl, rfl, lk, hcd⟩ := F.ex
  refine fn_of lk hcd S len fun A outer s H vs Q E hr hsp => ?_
  obtain ⟨t, h, q⟩ := hbody cdv A outer s H vs Q E hr hsp
  exact ⟨t, h.nox, q⟩
theorem Fun.binds {x qual : Str} {st : Stmt} {f : Addr} {fd : FuncData} {ps : List Str} (F : Fun K x qual st f fd)
    (h : ∀ (kV doc pm : Value) (an : Option Addr) (cdv ct : Value) (us : List Value), us.length = ps.length → bindArgs (PySem.W.fnOf x qual (defArgs st) (defBody st) (defScope st) .none kV doc pm an cdv ct) ⟨us, []⟩ = pure (ps.zip us)) : Binds K fd ps [] := by
  obtain ⟨oc, od, kV, doc, pm, an, cdv, ct, osl, rfl, lk, hcd⟩ := F.ex
  exact .all (h kV doc pm an cdv ct)
theorem fun_mk {x qual : Str} {st : Stmt} {f : Addr} {oc : Value} {od an : Option Addr} {osl : Array (Option Value)} {kV doc pm cdv ct : Value} (l : K.lookup f = some ⟨oc, od, .func (PySem.W.fnOf x qual (defArgs st) (defBody st) (defScope st) .none kV doc pm an cdv ct), osl⟩)
    (c : PySem.W.codeIn K cdv qual = true) (k : PySem.W.keepIn K (.ref f) = true) : Fun K x qual st f (PySem.W.fnOf x qual (defArgs st) (defBody st) (defScope st) .none kV doc pm an cdv ct) := ⟨⟨oc, od, kV, doc, pm, an, cdv, ct, osl, rfl, l, c⟩, k⟩
end
theorem small1000 {n : Nat} (h : n ≤ 1000) : n < sizeLine := Nat.lt_of_le_of_lt h (by decide)
section
variable {X : Cx}
theorem pv (i : Nat) {x : Str} {pos : Pos} (hN : X.N[i]? = some x := by rfl) (hv : Vis X.env.scope x := by first | exact Or.inl rfl | exact Or.inr (Or.inl rfl) | exact Or.inr (Or.inr rfl)) (hd : (x == ("__debug__" : Str)) = false := by decide)
    (hcd : (x == ("__classdict__" : Str)) = false := by decide) : PE X (.Name x pos) (tVar i) := pe_var hN hv hd hcd
end
theorem iteF {A B : Prop} (h : B) : if false = true then A else B := by
  rw [if_neg Bool.false_ne_true]
  exact h
theorem iteT {A B : Prop} (h : A) : if true = true then A else B := by
  rw [if_pos rfl]
  exact h
def Same (H H' : Hp) : Prop := ∀ b o, H b = some o → H' b = some o
theorem Same.refl (H : Hp) : Same H H := fun _ _ h => h
theorem Same.trans {H H1 H2 : Hp} (a : Same H H1) (b : Same H1 H2) : Same H H2 := fun c o h => b c o (a c o h)
theorem Same.free {H H' : Hp} (e : Same H H') {l : Addr} (h : H' l = Option.none) : H l = Option.none := by
  cases q : H l with
  | none => rfl
  | some o =>
    rw [e l o q] at h
    cases h
theorem Same.seq {K : PySem.W.Frag} {H H' : Hp} {a : Addr} {xs : List V} (e : Same H H') (h : SqL K H a xs) : SqL K H' a xs := by
  rcases h with (h | ⟨o, h⟩) | h
  · exact .inl (.inl (e _ _ h))
  · exact .inl (.inr ⟨o, e _ _ h⟩)
  · exact .inr h
end L2

set_option maxHeartbeats 4000000
namespace L2
open PySem PySem.Spec PyProof.Rows
section
variable {κ : Type} [DecidableEq κ]
end
section
variable {P : Program} {w : World} {H : Hp} {h : Heap} {a : Addr}
end
section
variable {X : Cx} {pins : List (Addr × Obj)} {σ : St} {H : Hp} {s : Shared} {a : Addr} {y v : V} {u r : Value} {o : Option V} {A : Around} {E : Value → Shared → Prop}
end
section
variable {X : Cx} {pins : List (Addr × Obj)} {σ : St} {H : Hp} {s : Shared} {a : Addr} {kvs : List (Key × V)} {k : Key} {u : Value} {A : Around} {E : Value → Shared → Prop}
end
section
variable {X : Cx} {o i e value : Expr} {pos pos' tpos : Pos} {td ty tv : TE}
end
section
variable {X : Cx} {pos : Pos}
end
section
variable {X : Cx} {pins : List (Addr × Obj)} {σ : St} {H : Hp} {s : Shared} {a : Addr} {y d : V} {u r : Value} {o : Option V} {A : Around} {E : Value → Shared → Prop}
end
section
variable {X : Cx} {o e f : Expr} {apos cpos : Pos} {td ty tx : TE}
end
section
variable {X : Cx} {pins : List (Addr × Obj)} {σ : St} {H : Hp} {s : Shared} {a : Addr} {kvs : List (Key × V)} {A : Around} {E : Value → Shared → Prop}
end
section
variable {X : Cx} {pins : List (Addr × Obj)} {σ : St} {H : Hp} {s : Shared} {a : Addr} {y : V} {u : Value} {A : Around} {E : Value → Shared → Prop}
end
end L2
namespace L2
open PySem PySem.Spec PyProof.Rows
section
variable {X : Cx}
end
section
variable {κ : Type} [DecidableEq κ]
end
end L2

set_option maxHeartbeats 4000000
namespace L2
open PySem PySem.Spec PyProof.Rows
def cxComp (X : Cx) (scope : Scope) (cl : List (Str × Addr)) (C : Addr) (N : List Str) (fp : List Addr) (s₂ : Shared) (H₂ : Hp) : Cx where
  prog := X.prog
  w := X.w
  K := X.K
  mg := X.mg
  base := X.base
  A := X.A
  N := N
  s₀ := s₂
  H₀ := H₂
  env := compEnvC scope cl C X.env
  outer := X.stack
  stack := X.stack
  ex := fp
  fn := fun _ => false
  calm := X.calm
  pn := []
  xe := fun _ _ => False
theorem relabel_free {scope : Scope} {env : Env} {y : Str} (nc : ∀ z ∈ scope.names, z.2 ≠ .cell) (h : (relabel scope env).names.lookup y = some .cell ∨ (relabel scope env).names.lookup y = some .free) : scope.names.lookup y = some .free := by
  have key : ∀ (l : List (Str × NameKind)), (∀ z ∈ l, z.2 ≠ .cell) → ((l.map fun (n, k) => if (k == NameKind.free && env.scope.kind == .function && env.kindOf n == some .cell) then (n, NameKind.cell) else (n, k)).lookup y = some .cell ∨
      (l.map fun (n, k) => if (k == NameKind.free && env.scope.kind == .function && env.kindOf n == some .cell) then (n, NameKind.cell) else (n, k)).lookup y = some .free) → l.lookup y = some .free := by
    intro l
    induction l with
    | nil => intro _ h; rcases h with h | h <;> simp at h
    | cons p r ih =>
      obtain ⟨n, k⟩ := p
      intro hn h
      have hr := ih (fun z hz => hn z (List.mem_cons_of_mem _ hz))
      have hk : k ≠ .cell := hn (n, k) List.mem_cons_self
      by_cases hc : (k == NameKind.free && env.scope.kind == .function && env.kindOf n == some .cell) = true
      · have kf : k = .free := by
          rw [Bool.and_eq_true, Bool.and_eq_true] at hc
          exact eq_of_beq hc.1.1
        subst kf
        simp only [List.map_cons, if_pos hc] at h
        cases hx : y == n with
        | true => simp only [List.lookup_cons, hx]
        | false =>
          simp only [List.lookup_cons, hx] at h ⊢
          exact hr h
      · simp only [List.map_cons, if_neg hc] at h
        cases hx : y == n with
        | true =>
          simp only [List.lookup_cons, hx] at h ⊢
          rcases h with h | h
          · cases h; exact absurd rfl hk
          · exact h
        | false =>
          simp only [List.lookup_cons, hx] at h ⊢
          exact hr h
  exact key scope.names nc h
theorem free_relabel {scope : Scope} {env : Env} {y : Str} (h : scope.names.lookup y = some .free) : (relabel scope env).names.lookup y = some .cell ∨ (relabel scope env).names.lookup y = some .free := by
  have key : ∀ (l : List (Str × NameKind)), l.lookup y = some .free → ((l.map fun (n, k) => if (k == NameKind.free && env.scope.kind == .function && env.kindOf n == some .cell) then (n, NameKind.cell) else (n, k)).lookup y = some .cell ∨
      (l.map fun (n, k) => if (k == NameKind.free && env.scope.kind == .function && env.kindOf n == some .cell) then (n, NameKind.cell) else (n, k)).lookup y = some .free) := by
    intro l
    induction l with
    | nil => intro h; simp at h
    | cons p r ih =>
      obtain ⟨n, k⟩ := p
      intro h
      by_cases hc : (k == NameKind.free && env.scope.kind == .function && env.kindOf n == some .cell) = true
      · simp only [List.map_cons, if_pos hc]
        cases hx : y == n with
        | true => simp only [List.lookup_cons, hx]; exact .inl trivial
        | false =>
          simp only [List.lookup_cons, hx] at h ⊢
          exact ih h
      · simp only [List.map_cons, if_neg hc]
        cases hx : y == n with
        | true => simp only [List.lookup_cons, hx] at h ⊢; exact .inr h
        | false =>
          simp only [List.lookup_cons, hx] at h ⊢
          exact ih h
  exact key scope.names h
structure CompScope (X : Cx) (scope : Scope) (cl : List (Str × Addr)) (T : List Str) (caps : List Nat) (cn : List Str) : Prop where
  kind : scope.kind = .function
  clos : closureFor scope X.env = pure cl
  ncell : ∀ y ∈ scope.names, y.2 ≠ .cell
  names : ∀ y ∈ scope.names, y.2 = .local → scope.names.lookup y.1 = some .local
  sub : ∀ y c, cl.lookup y = some c → X.env.cells.lookup y = some c
  has : ∀ y, scope.names.lookup y = some .free → ∃ c, cl.lookup y = some c
  cap : Paired (fun (j : Nat) (y : Str) => X.N[j]? = some y ∧ (X.env.kindOf y = some .cell ∨ X.env.kindOf y = some .free) ∧ scope.names.lookup y = some .free) caps cn
def st0 (n : Nat) (caps : List Nat) (σ : St) : St := List.replicate n none ++ caps.map fun j => (σ[j]?).getD none
def Le (σ σ' : St) : Prop := σ.length = σ'.length ∧ ∀ (i : Nat) v, σ[i]? = some (some v) → σ'[i]? = some (some v)
theorem Le.one {r : St} {x : Option V} : Le (none :: r) (x :: r) := ⟨rfl, fun i v h => by
  cases i with
  | zero => simp at h
  | succ i => simpa using h⟩
def PTs (X : Cx) (ifs : List Expr) (t : TT) : Prop :=
  ∀ (pins : List (Addr × Obj)) (s : Shared) (σ : St) (H : Hp) (Q : Bool → Hp → Prop), Inv X pins σ H s → t σ H Q →
    wpAny (model X.prog X.w) X.A (forIn ifs true fun c r => if r = true then do let ok ← isTrue c X.env (eval c X.env); pure (ForInStep.yield ok) else pure (ForInStep.yield r)) (TP X pins σ Q) X.xe s
def tYes : TT := fun _ H Q => Q true H
theorem pts_nil {X : Cx} : PTs X [] tYes := fun pins s σ H Q I h => wpAny_tests_nil ⟨H, I, h⟩
theorem pts_one {X : Cx} {c : Expr} {t : TT} (h : PT X c t) : PTs X [c] t := fun pins s σ H Q I q => wpAny_tests_one (h pins s σ H Q I q)
theorem compLoop_all {prog : Program} {w : World} {A : Around} {R : Result → Shared → Prop} {s : Shared} {elt target iter : Expr} {ifs : List Expr} {scope : Scope} {pos : Pos} {it acc : Value} {env : Env} (I : Nat → Shared → Prop)
    (turn : ∀ n s, I n s → wpAny (model prog w) A (pyNext it) (fun r s₁ => match r with
      | none => R (.ok .next) s₁
      | some v => wpAny (model prog w) A (letOwnedTupleGo target it v) (fun _ s₀ => wpAny (model prog w) A (assign target env v) (fun _ s₂ =>
          wpAny (model prog w) A (forIn ifs true fun c r => if r = true then do let ok ← isTrue c env (eval c env); pure (ForInStep.yield ok) else pure (ForInStep.yield r)) (fun ok s₃ =>
            if ok = true then wpAny (model prog w) A (eval elt env) (fun x s₄ =>
              wpAny (model prog w) A (call (.builtin "list.append") [acc, x]) (fun _ s₅ => ∃ m, m < n ∧ I m s₅) (fun _ _ => False) s₄) (fun _ _ => False) s₃
            else ∃ m, m < n ∧ I m s₃) (fun _ _ => False) s₂) (fun _ _ => False) s₀) (fun _ _ => False) s₁) (fun _ _ => False) s)
    (n : Nat) (h : I n s) :
    codeAny (model prog w) A (.compLoop (.ListComp elt [⟨target, iter, ifs, 0⟩] scope pos) 0 it acc env) R s := by
  refine codeAny_loop rfl I (fun n s hI => ?_) n h
  show wpAny _ A ((compTurn (.ListComp elt [⟨target, iter, ifs, 0⟩] scope pos) 0 it acc env).onRaise (fun x => do noteFrame x env; theTreesLotGoes x)) _ _ s
  refine wpAny_noted ?_
  rw [compTurn_list]
  refine wpAny_bind (wpAny_standAt (wpAny_bind (wpAny_mono (turn n s hI) (fun r s₁ h₁ => ?_) fun _ _ h' => h'.elim)))
  cases r with
  | none => exact wpAny_pure h₁
  | some v =>
    refine wpAny_bind (wpAny_mono h₁ (fun _ s₀ h₀ => ?_) fun _ _ h' => h'.elim)
    refine wpAny_bind (wpAny_mono h₀ (fun _ s₂ h₂ => wpAny_bind (wpAny_mono h₂ (fun ok s₃ h₃ => ?_) fun _ _ h' => h'.elim)) fun _ _ h' => h'.elim)
    cases ok with
    | false => exact wpAny_pure ⟨rfl, h₃⟩
    | true =>
      exact wpAny_bind (wpAny_bind (wpAny_mono h₃ (fun x s₄ h₄ => wpAny_bind (wpAny_mono h₄ (fun _ s₅ h₅ => wpAny_pure (wpAny_pure ⟨rfl, h₅⟩)) fun _ _ h' => h'.elim)) fun _ _ h' => h'.elim))
section
variable {X : Cx} {scope : Scope} {cl : List (Str × Addr)} {T cn : List Str} {caps : List Nat} {pins : List (Addr × Obj)} {σ : St} {H2 : Hp} {s2 : Shared} {C : Addr} {h₁ : Heap} {tk : Nat} {fp : List Addr} {ix : Addr}
theorem comp_start (S : CompScope X scope cl T caps cn) (I2 : Inv X pins σ H2 s2) (f2 : ∀ b ∈ fp, FpOk X pins H2 b) (fo : ∀ b ∈ fp, b < s2.heap.objs.size)
    (hC : C = s2.heap.objs.size + 1) (old : ∀ b o, s2.heap.get? b = some o → h₁.get? b = some o) (hacc : ∃ n, h₁.get? s2.heap.objs.size = some { cls := .type "list", data := .seq #[] n }) (hns : h₁.Ns C fun _ => none) :
    Inv (cxComp X scope cl C (T ++ cn) fp s2 H2) [] (st0 T.length caps σ) (upd H2 s2.heap.objs.size (.lst [])) { s2 with heap := h₁, toks := tk } := by
  have hfr : H2 s2.heap.objs.size = none := I2.fresh
  have lt_of : ∀ y c, cl.lookup y = some c → c < s2.heap.objs.size := fun y c e => by
    obtain ⟨v, o, ho, _⟩ := I2.cell y c (S.sub y c e)
    exact Heap.lt_size ho
  refine ⟨⟨I2.ok.mod, S.kind, I2.ok.glob, I2.ok.blt, by show s2.heap.objs.size ≤ C; rw [hC]; exact Nat.le_succ _, fun y z c h1 h2 => I2.ok.inj y z c (S.sub y c h1) (S.sub z c h2), fun y hy => S.has y (relabel_free S.ncell hy), fun y c hf _ => (Bool.false_ne_true hf).elim,
    I2.ok.hd, I2.ok.frames, .inl rfl, fun b hb => ⟨?_, fun y c e => ?_⟩, I2.bs, Nat.le_trans I2.ok.bsz I2.sz, fun b o e hb => ?_, fun b hb hs => ?_, I2.stack, I2.stkFree⟩, rfl, I2.bare, Un.laid old (Nat.le_refl _) hfr, ⟨_, hns, fun i y v e1 e2 e3 => ?_⟩, fun y c e => ?_, ?_, fun y c e => ?_, fun p hp => ?_, I2.hok.laid old (Nat.le_refl _) ?_, ?_⟩
  · show b ≠ C
    rw [hC]
    exact Nat.ne_of_lt (Nat.lt_succ_of_lt (fo b hb))
  · exact (f2 b hb).2.2.2.2.1 y c (S.sub y c e)
  · have h0 := I2.ok.bs b o e
    rcases (f2 b hb).2.2.2.1 with z | z
    · exact I2.ok.noex b o e z
    · exact absurd (Nat.lt_of_lt_of_le (Heap.lt_size h0.1) z) (Nat.lt_irrefl _)
  · rcases List.mem_cons.mp (I2.stkSub b hs) with z | z
    · exact (f2 b hb).2.1 z
    · exact (f2 b hb).2.2.1 z
  · -- the slots
    have hT : T.length ≤ i := by
      by_cases hi : i < T.length
      · unfold st0 at e2
        rw [List.getElem?_append_left (by simpa using hi), List.getElem?_replicate] at e2
        split at e2 <;> cases e2
      · omega
    obtain ⟨k, rfl⟩ : ∃ k, i = T.length + k := ⟨i - T.length, by omega⟩
    have e1' : cn[k]? = some y := by
      have q : (T ++ cn)[T.length + k]? = some y := e1
      rw [List.getElem?_append_right (by omega)] at q
      simpa using q
    have e2' : (caps.map fun j => (σ[j]?).getD none)[k]? = some (some v) := by
      unfold st0 at e2
      rw [List.getElem?_append_right (by simp)] at e2
      simpa using e2
    have pr : ∀ {cs : List Nat} {ns : List Str} {k : Nat}, Paired (fun (j : Nat) (y : Str) => X.N[j]? = some y ∧ (X.env.kindOf y = some .cell ∨ X.env.kindOf y = some .free) ∧ scope.names.lookup y = some .free) cs ns →
        ns[k]? = some y → (cs.map fun j => (σ[j]?).getD none)[k]? = some (some v) → ∃ (j : Nat), X.N[j]? = some y ∧ (X.env.kindOf y = some .cell ∨ X.env.kindOf y = some .free) ∧ scope.names.lookup y = some .free ∧ σ[j]? = some (some v) := by
      intro cs ns k p
      induction p generalizing k with
      | nil => intro q; simp at q
      | cons a t ih =>
        rename_i j0 y0 l1 l2
        cases k with
        | zero =>
          intro q1 q2
          simp at q1 q2
          subst q1
          refine ⟨j0, a.1, a.2.1, a.2.2, ?_⟩
          cases e : σ[j0]? with
          | none => rw [e] at q2; simp at q2
          | some z => rw [e] at q2; simp at q2; rw [q2]
        | succ k => intro q1 q2; exact ih (by simpa using q1) (by simpa using q2)
    obtain ⟨j, n1, kd, fr, sv⟩ := pr S.cap e1' e2'
    obtain ⟨m, hn, hl⟩ := I2.loc
    obtain ⟨u, r, lk⟩ := hl j y v n1 sv (by rcases kd with z | z; exact .inr (.inl z); exact .inr (.inr z))
    refine ⟨u, r, .inr ⟨free_relabel fr, ?_⟩⟩
    obtain ⟨c, hc⟩ := S.has y fr
    rcases lk with ⟨z, _⟩ | ⟨_, c', hc', hcell⟩
    · rcases kd with q | q <;> (rw [z] at q; cases q)
    · have : c = c' := by
        have := S.sub y c hc
        rw [hc'] at this
        exact (Option.some.inj this).symm
      subst this
      obtain ⟨o, ho, hd⟩ := hcell
      exact ⟨c, hc, o, old c o ho, hd⟩
  · obtain ⟨v, o, ho, hd⟩ := I2.cell y c (S.sub y c e)
    exact ⟨v, o, old c o ho, hd⟩
  · show upd H2 s2.heap.objs.size (.lst []) C = none
    rw [upd_ne (by rw [hC]; exact Nat.succ_ne_self _)]
    exact I2.hok.fresh (by rw [hC]; exact Nat.le_succ _)
  · rw [upd_ne (Nat.ne_of_lt (lt_of y c e))]
    exact I2.freeC y c (S.sub y c e)
  · exact absurd (show p ∈ ([] : List (Addr × Obj)) from hp) (by simp)
  · obtain ⟨n, e⟩ := hacc
    exact ⟨Nat.zero_le _, [], n, .nil, e⟩
  · have hp : ∀ {cs : List Nat} {ns : List Str} {F : Nat → Str → Prop}, Paired F cs ns → cs.length = ns.length := fun p => Paired.length p
    show (st0 T.length caps σ).length = (T ++ cn).length
    unfold st0
    rw [List.length_append, List.length_replicate, List.length_map, List.length_append, hp S.cap]
theorem comp_end (I2 : Inv X pins σ H2 s2) (f2 : ∀ b ∈ fp, FpOk X pins H2 b) (hC : s2.heap.objs.size ≤ C) {N : List Str} {σ' : St} {H' : Hp} {s' : Shared} (J : Inv (cxComp X scope cl C N fp s2 H2) [] σ' H' s') :
    ∃ oC m, s'.heap.get? C = some oC ∧ s'.heap.Ns C m ∧ Inv X (pins ++ [(C, oC)]) σ H' s' ∧ FpOk X pins H' C := by
  obtain ⟨m, hn, _⟩ := J.loc
  obtain ⟨oC, es, ep, ho, hd, hrest⟩ := id hn
  have I3 : Inv X pins σ H' s' := I2.call' (ch := fp) J.os J.base J.hok J.bare fun b hb => ⟨(f2 b hb).2.2.2.1, (f2 b hb).2.1, (f2 b hb).2.2.2.2.1, (f2 b hb).2.2.2.2.2⟩
  have fC : FpOk X pins H' C := I2.fpOk hC J.free
  refine ⟨oC, m, ho, hn, I3.pins_of fun p hp => ?_, fC⟩
  rcases List.mem_append.mp hp with z | z
  · exact I3.pin p (List.mem_append_right _ z)
  · have e : p = (C, oC) := by simpa using z
    subst e
    exact ⟨ho, fC.1, fC.2.1, fC.2.2.1, fun v q => by rw [hd] at q; cases q⟩
end
def CompW (J : It) (D : Addr) (H1 : Hp) (σ0 : St) (g : TG) (tt : TT) (te : TE) (Q : VK) : Prop := ∃ W : Nat → Nat → List V → Hp → Prop, (∃ m, W 0 m [] (upd H1 D (.lst []))) ∧
  ∀ i m ys H, W i m ys H → H D = some (.lst ys) ∧ ((J.stop i H ∧ Q (.ref D) H) ∨ (J.go i H ∧ ∀ x H', J.yld i H x H' → g x σ0 H' fun σ2 H2 => Le σ0 σ2 ∧ tt σ2 H2 fun b H3 =>
    if b = true then te σ2 H3 fun y H4 => H4 D = some (.lst ys) ∧ ys.length < sizeLine ∧ ∃ m', m' < m ∧ W (i + 1) m' (ys ++ [y]) (upd H4 D (.lst (ys ++ [y]))) else ∃ m', m' < m ∧ W (i + 1) m' ys H3))
def rComp (n : Nat) (caps : List Nat) (wi : TI) (g : TG) (tt : TT) (te : TE) : TE := fun σ H Q => wi σ H fun J H1 => ∀ D, H1 D = none → CompW J D H1 (st0 n caps σ) g tt te Q
section
variable {X : Cx} {scope : Scope} {cl : List (Str × Addr)} {T cn : List Str} {caps : List Nat} {elt tg iter : Expr} {ifs : List Expr} {wi : TI} {g : TG} {tt : TT} {te : TE} {pos : Pos}
theorem comp_block (S : CompScope X scope cl T caps cn) (hc : X.calm = true) (hg : ∀ C fp s₂ H₂, PG (cxComp X scope cl C (T ++ cn) fp s₂ H₂) tg g) (ht : ∀ C fp s₂ H₂, PTs (cxComp X scope cl C (T ++ cn) fp s₂ H₂) ifs tt)
    (he : ∀ C fp s₂ H₂, PE (cxComp X scope cl C (T ++ cn) fp s₂ H₂) elt te) {pins : List (Addr × Obj)} {σ : St} {H2 : Hp} {s2 : Shared} {it : Addr} {fp : List Addr} {tn : Nat → Heap → Prop} {J : It} {E : Value → Shared → Prop} {Q : VK}
    {RR : Value → Addr → Result → Shared → Prop} (I2 : Inv X pins σ H2 s2) (Tn : Turn X.prog X.w X.K tg J fp it tn) (st2 : tn 0 s2.heap) (f2 : ∀ b ∈ fp, FpOk X pins H2 b)
    (q : ∀ D, H2 D = none → CompW J D H2 (st0 T.length caps σ) g tt te Q)
    (fin : ∀ D C oC m H' s', Inv X (pins ++ [(C, oC)]) σ H' s' → s'.heap.get? C = some oC → s'.heap.Ns C m → FpOk X pins H' C → Q (.ref D) H' → RR (.ref D) C (.ok .next) s') :
    wpAny (model X.prog X.w) X.A (newList []) (fun acc s₃ => wpAny (model X.prog X.w) X.A (newFunctionEnv scope X.env.globals cl [] X.env.qual none .none (some X.env)) (fun cenv s₄ =>
      codeAny (model X.prog X.w) X.A (.compStart (.ListComp elt [⟨tg, iter, ifs, 0⟩] scope pos) 0 (.ref it) acc { cenv with scope := relabel scope X.env }) (RR acc cenv.locals) s₄) E s₃) E s2 := by
  refine wpAny_newObj_type (wpAny_newFunctionEnv S.ncell (by intro y hy; simp at hy) (fun h₁ hns₁ hsb₁ => ?_) S.kind)
  dsimp only at hns₁ hsb₁ ⊢
  generalize hH2 : s2.heap.push { cls := .type "list", dict := none, data := .seq ([] : List Value).toArray } = G2 at hns₁ hsb₁ ⊢
  have hC : G2.objs.size = s2.heap.objs.size + 1 := by rw [← hH2, Heap.size_push]
  have hDC : s2.heap.objs.size ≠ G2.objs.size := by omega
  have old : ∀ b o, s2.heap.get? b = some o → h₁.get? b = some o := fun b o e => hsb₁.extBut b o (by rw [hC]; exact Nat.ne_of_lt (Nat.lt_succ_of_lt (Heap.lt_size e))) (Heap.get?_push_of_some _ (hH2 ▸ Heap.get?_push_of_some _ e))
  have hacc : ∃ n, h₁.get? s2.heap.objs.size = some { cls := .type "list", data := .seq #[] n } := ⟨_, hsb₁.extBut _ _ hDC (Heap.get?_push_of_some _ (hH2 ▸ Heap.get?_push_size _ rfl))⟩
  have fo : ∀ b ∈ fp, b < s2.heap.objs.size := fun b hb => by
    obtain ⟨o, e, _⟩ := Tn.obj 0 _ st2 b hb
    exact Heap.lt_size e
  obtain ⟨W, ⟨m0, w0⟩, turn⟩ := q s2.heap.objs.size I2.fresh
  have st1 : tn 0 h₁ := Tn.keep 0 _ _ st2 fun b hb o e => old b o e
  have fr0 : ∀ b ∈ fp, upd H2 s2.heap.objs.size (.lst []) b = none := fun b hb => by rw [upd_ne (Nat.ne_of_lt (fo b hb))]; exact (f2 b hb).1
  have loop : ∀ s₃ : Shared, s₃ = { s2 with heap := h₁, toks := s2.toks + ([] : List (Str × Value)).length } →
      codeAny (model X.prog X.w) X.A (.compLoop (.ListComp elt [⟨tg, iter, ifs, 0⟩] scope pos) 0 (.ref it) (.ref s2.heap.objs.size) (compEnvC scope cl G2.objs.size X.env)) (RR (.ref s2.heap.objs.size) G2.objs.size) s₃ := by
    intro s₃ hs3
    have I0 : Inv (cxComp X scope cl G2.objs.size (T ++ cn) fp s2 H2) [] (st0 T.length caps σ) (upd H2 s2.heap.objs.size (.lst [])) s₃ := by
      rw [hs3]
      exact comp_start S I2 f2 fo hC old hacc (by simpa using hns₁)
    have st3 : tn 0 s₃.heap := by rw [hs3]; exact st1
    have stat : ∀ {H' : Hp}, (∀ b ∈ fp, H' b = none) → ∀ b ∈ fp, FpOk (cxComp X scope cl G2.objs.size (T ++ cn) fp s2 H2) [] H' b := fun {H'} hn b hb => by
      refine ⟨hn b hb, ?_, fun hs => ?_, .inl hb, fun y c e => (f2 b hb).2.2.2.2.1 y c (S.sub y c e), fun p hp => absurd (show p ∈ ([] : List (Addr × Obj)) from hp) (by simp)⟩
      · show b ≠ G2.objs.size
        rw [hC]
        exact Nat.ne_of_lt (Nat.lt_succ_of_lt (fo b hb))
      · rcases List.mem_cons.mp (I2.stkSub b hs) with z | z
        · exact (f2 b hb).2.1 z
        · exact (f2 b hb).2.2.1 z
    refine compLoop_all (fun n s' => ∃ i ys H', Inv (cxComp X scope cl G2.objs.size (T ++ cn) fp s2 H2) [] (st0 T.length caps σ) H' s' ∧ tn i s'.heap ∧ (∀ b ∈ fp, H' b = none) ∧ W i n ys H') ?_ m0 ⟨0, [], _, I0, st3, fr0, w0⟩
    rintro n s4 ⟨i, ys, H4, I4, st4, fr4, w4⟩
    obtain ⟨hD, tr⟩ := turn i n ys H4 w4
    rcases tr with ⟨stop, qn⟩ | ⟨go, step⟩
    · refine thn (Tn.done (cxComp X scope cl G2.objs.size (T ++ cn) fp s2 H2) rfl rfl rfl hc i [] s4 (st0 T.length caps σ) H4 (fun _ _ => False) I4 (stat fr4) st4 stop) fun r s5 ⟨hr, I5⟩ => ?_
      subst hr
      obtain ⟨oC, m, a1, a2, a3, a4⟩ := comp_end I2 f2 (by omega) I5
      exact fin _ _ oC m H4 s5 a3 a1 a2 a4 qn
    · refine thn (Tn.item (cxComp X scope cl G2.objs.size (T ++ cn) fp s2 H2) rfl rfl rfl hc i [] s4 (st0 T.length caps σ) H4 (fun _ _ => False) I4 (stat fr4) st4 go) fun r s5 ⟨u, hr, h5⟩ => ?_
      subst hr
      refine thn h5 fun _ s6 ⟨x, H6, I6, r6, y6, st6, fr6⟩ => ?_
      have I6' := I6.pinned (stat fr6) (Tn.obj _ _ st6)
      refine thn (hg _ fp s2 H2 _ s6 _ H6 x u _ I6' r6 (step x H6 y6)) fun _ s7 ⟨σ7, H7, I7, le7, q7⟩ => ?_
      have again : ∀ {σ8 : St} {H8 : Hp} {s8 : Shared} {zs : List V} {m' : Nat}, Le (st0 T.length caps σ) σ8 → Inv (cxComp X scope cl G2.objs.size (T ++ cn) fp s2 H2) ([] ++ pinsAt fp s6.heap) σ8 H8 s8 → m' < n → W (i + 1) m' zs H8 →
          ∃ m, m < n ∧ ∃ i ys H', Inv (cxComp X scope cl G2.objs.size (T ++ cn) fp s2 H2) [] (st0 T.length caps σ) H' s8 ∧ tn i s8.heap ∧ (∀ b ∈ fp, H' b = none) ∧ W i m ys H' := fun {σ8 H8 s8 zs m'} le I8 hm w8 => by
        refine ⟨m', hm, i + 1, zs, H8, I8.unpinned.weak le.1 le.2, Tn.keep _ _ _ st6 fun b hb o e => (I8.pin (b, o) (List.mem_append_right _ (List.mem_append_right _ (mem_pinsAt hb e)))).1, fun b hb => ?_, w8⟩
        obtain ⟨o, e, d⟩ := Tn.obj _ _ st6 b hb
        exact (I8.pin (b, o) (List.mem_append_right _ (List.mem_append_right _ (mem_pinsAt hb e)))).2.1
      refine thn (ht _ fp s2 H2 _ s7 σ7 H7 _ I7 q7) fun ok s8 ⟨H8, I8, q8⟩ => ?_
      cases ok with
      | false =>
        rw [if_neg Bool.false_ne_true] at q8 ⊢
        obtain ⟨m', hm, w8⟩ := q8
        exact again le7 I8 hm w8
      | true =>
        rw [if_pos rfl] at q8 ⊢
        refine thn (he _ fp s2 H2 _ s8 σ7 H8 _ I8 q8) fun v9 s9 ⟨y, H9, I9, r9, hD9, hz9, m', hm, w9⟩ => ?_
        refine thn (mt_append _ s9 σ7 H9 (.ref s2.heap.objs.size) [y] (.ref s2.heap.objs.size) [v9] (fun _ H => H = upd H9 s2.heap.objs.size (.lst (ys ++ [y]))) I9 rfl (.cons r9 .nil) ⟨_, ys, y, rfl, rfl, hD9, hz9, rfl⟩) fun _ s10 ⟨_, H10, I10, _, e10⟩ => ?_
        subst e10
        exact again le7 I10 hm w9
  exact codeAny_compStart_list (loop _ rfl) (Tn.self X.A 0 _ _ _ st1 (loop _ rfl))
theorem pe_comp (S : CompScope X scope cl T caps cn) (hc : X.calm = true) (hi : PI X tg iter wi) (hg : ∀ C fp s₂ H₂, PG (cxComp X scope cl C (T ++ cn) fp s₂ H₂) tg g) (ht : ∀ C fp s₂ H₂, PTs (cxComp X scope cl C (T ++ cn) fp s₂ H₂) ifs tt)
    (he : ∀ C fp s₂ H₂, PE (cxComp X scope cl C (T ++ cn) fp s₂ H₂) elt te) (hs : ∀ x, foldedSetIterable iter X.env x = pure x := by intro _; rfl) :
    PE X (.ListComp elt [⟨tg, iter, ifs, 0⟩] scope pos) (rComp T.length caps wi g tt te) := by
  intro pins s σ H Q I h
  rw [eval_ListComp]
  refine wpAny_comprehension_free (use := none) rfl hs S.clos S.kind S.names (thn (hi pins s σ H _ I h) fun v s1 h1 => thn h1 fun itv s2 h2 => ?_)
  obtain ⟨it, fp, tn, J, H2, e, I2, Tn, st2, f2, q⟩ := h2
  subst e
  refine comp_block (RR := fun acc C => compPost (model X.prog X.w) X.A X.xe none (EP X pins σ Q) acc C) S hc hg ht he I2 Tn st2 f2 q fun D C oC m H' s' I' ho hn fC qD => ?_
  refine ⟨m, hn, fun h' hs' => ⟨.ref D, H', ?_, rfl, qD⟩⟩
  obtain ⟨hp, g, d, t, os⟩ := s'
  exact I'.unpinned.turned (fun b o hb e => (hs'.2 b hb).trans e) fC.1 fC.2.1 fC.2.2.2.1 fC.2.2.2.2.1 fC.2.2.2.2.2
def sComp (i : Nat) (t : TE) : TS := fun D σ H => t σ H fun x H1 => D.nx (σ.set i (some x)) H1
theorem ps_comp {i : Nat} {y : Str} {py spos : Pos} (hN : X.N.Nodup) (hi' : X.N[i]? = some y) (hy : Loc X.env.scope y) (S : CompScope X scope cl T caps cn) (hc : X.calm = true) (hi : PI X tg iter wi)
    (hg : ∀ C fp s₂ H₂, PG (cxComp X scope cl C (T ++ cn) fp s₂ H₂) tg g) (ht : ∀ C fp s₂ H₂, PTs (cxComp X scope cl C (T ++ cn) fp s₂ H₂) ifs tt)
    (he : ∀ C fp s₂ H₂, PE (cxComp X scope cl C (T ++ cn) fp s₂ H₂) elt te) (hsw : swapsWith (.ListComp elt [⟨tg, iter, ifs, 0⟩] scope pos) (some (.Name y py)) spos.line X.env = pure true := by rfl)
    (hf : X.fn y = true ∨ X.env.scope.names.lookup y = some .local := by first | exact .inl rfl | exact .inr rfl | assumption)
    (hs : ∀ x, foldedSetIterable iter X.env x = pure x := by intro _; rfl) :
    PS X (.Assign [.Name y py] (.ListComp elt [⟨tg, iter, ifs, 0⟩] scope pos) spos) (sComp i (rComp T.length caps wi g tt te)) := by
  intro pins s σ H D I h
  rw [exec_Assign_Name_used _ _ _ _ hsw]
  refine wpAny_bind (wpAny_standAt (wpAny_bind ?_))
  show wpAny _ X.A (do let _ ← comprehension (.ListComp elt [⟨tg, iter, ifs, 0⟩] scope pos) scope X.env _ (newList []) false (eval iter X.env) (some (assign (.Name y py) X.env))) _ _ s
  refine wpAny_bind (wpAny_mono (wpAny_comprehension_free (use := some (assign (.Name y py) X.env)) (Q := fun _ s' => SP X pins D .next s') rfl hs S.clos S.kind S.names
    (thn (hi pins s σ H _ I h) fun v s1 h1 => thn h1 fun itv s2 h2 => ?_)) (fun _ s' hq => wpAny_pure (wpAny_pure hq)) fun _ _ e => e)
  obtain ⟨it, fp, tn, J, H2, e, I2, Tn, st2, f2, q⟩ := h2
  subst e
  refine comp_block (Q := fun x H1 => D.nx (σ.set i (some x)) H1) (RR := fun acc C => compPost (model X.prog X.w) X.A X.xe (some (assign (.Name y py) X.env)) (fun _ s' => SP X pins D .next s') acc C) S hc hg ht he I2 Tn st2 f2 q fun Dd C oC m H' s' I' ho hn fC qD => ?_
  show wpAny _ X.A (assign (.Name y py) X.env (.ref Dd)) _ _ s'
  refine thn (pg_name (i := i) hN hi' hy hf (pins ++ [(C, oC)]) s' σ H' (.ref Dd) (.ref Dd) (fun σ' H1 => σ' = σ.set i (some (.ref Dd)) ∧ H1 = H') I' rfl ⟨rfl, rfl⟩) fun _ s'' ⟨σ'', H'', I'', e1, e2⟩ => ?_
  subst e1 e2
  have hoC : s''.heap.get? C = some oC := (I''.pin (C, oC) (List.mem_append_right _ (List.mem_append_right _ (List.mem_singleton.mpr rfl)))).1
  obtain ⟨oC', es, ep, ho', r⟩ := hn
  rw [ho] at ho'
  cases ho'
  refine ⟨m, ⟨oC, es, ep, hoC, r⟩, fun h' hs' => ⟨σ.set i (some (.ref Dd)), H'', ?_, qD⟩⟩
  obtain ⟨hp, g, d, t, os⟩ := s''
  exact I''.unpinned.turned (fun b o hb e => (hs'.2 b hb).trans e) fC.1 fC.2.1 fC.2.2.2.1 fC.2.2.2.2.1 fC.2.2.2.2.2
end
end L2

set_option maxHeartbeats 4000000
namespace L2
open PySem PySem.Spec PyProof.Rows
section
variable {X : Cx}
theorem op_is_bl : OpR X (compareOp .Is) (fun x y H Q => ∃ a b, x = .bl a ∧ y = .bl b ∧ Q (.bl (a == b)) H) := by
  intro pins s σ H x y v u Q I rx ry h
  obtain ⟨a, b, rfl, rfl, q⟩ := h
  cases rx
  cases ry
  exact is_bool (fin_bl I q rfl)
theorem op_isnot_bl : OpR X (compareOp .IsNot) (fun x y H Q => ∃ a b, x = .bl a ∧ y = .bl b ∧ Q (.bl (a != b)) H) := by
  intro pins s σ H x y v u Q I rx ry h
  obtain ⟨a, b, rfl, rfl, q⟩ := h
  cases rx
  cases ry
  exact isnot_bool (fin_bl I q rfl)
theorem op_mulB : OpR X (binaryOp .Mult) (rI IntMulOk fun i j => .int (i * j)) := opI fun _ _ _ _ _ _ _ hc q => mul_int q hc
end
mutual
inductive DatV (K : PySem.W.Frag) (H : Hp) : V → PyData → Prop
  | non : DatV K H .non .none
  | bl (b : Bool) : DatV K H (.bl b) (.bool b)
  | int (i : Int) : DatV K H (.int i) (.int i)
  | str (x : Str) : DatV K H (.str x) (.str x)
  | lst {a : Addr} {xs : List V} {ds : List PyData} : SqL K H a xs → DatVs K H xs ds → DatV K H (.ref a) (.list ds)
  | tup {a : Addr} {xs : List V} {ds : List PyData} : SqT K H a xs → DatVs K H xs ds → DatV K H (.ref a) (.tuple ds)
inductive DatVs (K : PySem.W.Frag) (H : Hp) : List V → List PyData → Prop
  | nil : DatVs K H [] []
  | cons {x : V} {d : PyData} {xs : List V} {ds : List PyData} : DatV K H x d → DatVs K H xs ds → DatVs K H (x :: xs) (d :: ds)
end
theorem IsTup.of_get {h : Heap} {a : Addr} {its : Array Value} (p : IsTup h a its) : ∃ o n, h.get? a = some o ∧ o.cls = .type "tuple" ∧ o.data = .seq its n := by
  obtain ⟨o, h1, h2, n, h3⟩ := p
  exact ⟨o, n, h1, h2, h3⟩
mutual
theorem DatV.reads {X : Cx} {pins : List (Addr × Obj)} {σ : St} {H : Hp} {s : Shared} (I : Inv X pins σ H s) : ∀ {v : V} {d : PyData} {u : Value}, DatV X.K H v d → RelV v u → ∃ as, Reads s.heap u d as
  | _, _, u, .non, r => by cases (show u = Value.none from r); exact ⟨_, .none⟩
  | _, _, u, .bl b, r => by cases (show u = Value.bool b from r); exact ⟨_, .bool b⟩
  | _, _, u, .int i, r => by obtain ⟨t, q⟩ := (show ∃ t, u = Value.int i t from r); cases q; exact ⟨_, .int i t⟩
  | _, _, u, .str x, r => by obtain ⟨t, q⟩ := (show ∃ t, u = Value.str x t from r); cases q; exact ⟨_, .str x t⟩
  | _, _, u, @DatV.lst _ _ a xs ds h1 h2, r => by
    cases (show u = Value.ref a from r)
    obtain ⟨its, rv, pl, _⟩ := I.list h1
    obtain ⟨as, q⟩ := DatVs.reads I h2 rv
    obtain ⟨o, n, e1, e2, _, e3⟩ := pl
    exact ⟨_, reads_list_at e1 e2 e3 (by simpa using q)⟩
  | _, _, u, @DatV.tup _ _ a xs ds h1 h2, r => by
    cases (show u = Value.ref a from r)
    obtain ⟨its, rv, pl, _⟩ := I.tuple h1
    obtain ⟨as, q⟩ := DatVs.reads I h2 rv
    obtain ⟨o, n, e1, e2, e3⟩ := IsTup.of_get pl
    exact ⟨_, reads_tuple_at e1 e2 e3 (by simpa using q)⟩
theorem DatVs.reads {X : Cx} {pins : List (Addr × Obj)} {σ : St} {H : Hp} {s : Shared} (I : Inv X pins σ H s) : ∀ {vs : List V} {ds : List PyData} {us : List Value}, DatVs X.K H vs ds → Vals vs us → ∃ as, ReadsAll s.heap us ds as
  | _, _, us, .nil, r => by cases r; exact ⟨_, .nil⟩
  | _, _, us, .cons h1 h2, r => by
    cases r with
    | cons r1 r2 =>
      obtain ⟨as, q⟩ := DatV.reads I h1 r1
      obtain ⟨bs, p⟩ := DatVs.reads I h2 r2
      exact ⟨_, .cons q p⟩
end
def rEqD (K : PySem.W.Frag) (neg : Bool) : R2 := fun x y H Q => ∃ d e, DatV K H x d ∧ DatV K H y e ∧ SeqAt.shaped d = true ∧ SeqAt.shaped e = true ∧ Q (.bl (if neg then !PyData.eqv d e else PyData.eqv d e)) H
section
variable {X : Cx}
theorem op_eqD (hu : X.A.units + 64 < cLine) : OpR X (compareOp .Eq) (rEqD X.K false) := by
  intro pins s σ H x y v u Q I rx ry h
  obtain ⟨d, e, hx, hy, sx, sy, q⟩ := h
  obtain ⟨as, p1⟩ := hx.reads I rx
  obtain ⟨bs, p2⟩ := hy.reads I ry
  exact eq_dataH p1 p2 sx sy hu ⟨.bl _, H, I, rfl, q⟩
theorem op_neD (hu : X.A.units + 64 < cLine) : OpR X (compareOp .NotEq) (rEqD X.K true) := by
  intro pins s σ H x y v u Q I rx ry h
  obtain ⟨d, e, hx, hy, sx, sy, q⟩ := h
  obtain ⟨as, p1⟩ := hx.reads I rx
  obtain ⟨bs, p2⟩ := hy.reads I ry
  exact ne_dataH p1 p2 sx sy hu ⟨.bl _, H, I, rfl, q⟩
theorem bools_get {bs : List Bool} : ∀ {us : List Value}, Vals (bs.map V.bl) us → ∀ (i : Nat) (v : Value), us[i]? = some v → ∃ b, bs[i]? = some b ∧ v = .bool b := by
  intro us r i v e
  have hl := r.length
  rw [List.length_map] at hl
  have hi : i < us.length := (List.getElem?_eq_some_iff.mp e).1
  have hb : bs[i]? = some bs[i] := List.getElem?_eq_getElem (by omega)
  obtain ⟨u, h1, h2⟩ := r.get (i := i) (x := V.bl bs[i]) (by rw [List.getElem?_map, hb]; rfl)
  rw [e] at h1
  cases h1
  exact ⟨_, hb, h2⟩
theorem range_allB (bs : List Bool) : ((List.range bs.length).all fun i => (bs[i]?).getD true) = bs.all id := PyProof.Rows.LSm.range_all bs
theorem call_all : CallR X (.builtin "all") (fun xs H Q => ∃ (p : Addr) (bs : List Bool), xs = [.ref p] ∧ X.A.handled = none ∧ SqL X.K H p (bs.map V.bl) ∧ Q (.bl (bs.all id)) H) := by
  intro pins s σ H xs us Q I r h
  obtain ⟨p, bs, rfl, hh, hS, q⟩ := h
  obtain ⟨u, rfl, ru⟩ := vals1 r
  cases (show u = Value.ref p from ru)
  obtain ⟨its, rv, pl, _⟩ := I.list hS
  have hl := pl.isList
  have hlt : p < s.heap.objs.size := pl.lt
  have hb := bools_get rv
  have hlen : its.length = bs.length := by have := rv.length; rw [List.length_map] at this; exact this.symm
  refine call_all_walk (wpAny_pyIter_list hl ?_)
  refine ⟨s.heap.objs.size, [s.heap.objs.size, p], [s.heap.objs.size], its.toArray.size, _, _, fun i => (bs[i]?).getD true, rfl, Walks.list (A := X.A.in1) hh _ p (Nat.ne_of_lt hlt) its.toArray,
    ⟨⟨_, Heap.get?_push_size _ rfl, rfl, rfl⟩, hl.push _⟩, fun i v s' Q' E' hP hQ => ?_, fun h' tk hk => ?_⟩
  · obtain ⟨b, e, rfl⟩ := hb i v (by simpa using hP)
    simp only [e, Option.getD_some] at hQ
    exact wpAny_truthy_bool hQ
  · have e : ((List.range its.toArray.size).all fun i => (bs[i]?).getD true) = bs.all id := by
      rw [List.size_toArray, hlen]; exact range_allB bs
    rw [e]
    exact ⟨.bl (bs.all id), H, I.kept (PyProof.Rows.LSm.kept_iter hk), rfl, q⟩
end
end L2
namespace L2
open PySem PySem.Spec PyProof.Rows
section
variable {X : Cx} {a b c : Expr} {ta tb : TE} {pos : Pos} {k : Int} {op op' : CmpOp} {p p' : Int → Int → Bool}
end
theorem same_upd {H : Hp} {p : Addr} {o : HO} (h : H p = none) : Same H (upd H p o) := fun b u e => by
  rw [upd_ne (ne_of_none e h)]
  exact e
theorem PE.imp {X : Cx} {e : Expr} {t t' : TE} (h : PE X e t) (f : ∀ σ H Q, t' σ H Q → t σ H Q) : PE X e t' := fun pins s σ H Q I q => h pins s σ H Q I (f σ H Q q)
end L2

set_option maxHeartbeats 4000000
namespace L2
open PySem PySem.Spec PyProof.Rows
def Its (x : Str) : It := ⟨fun i _ => i < x.cps.size, fun i H v H' => H' = H ∧ ∃ c, x.cps[i]? = some c ∧ v = .str ⟨#[c]⟩, fun i _ => x.cps.size ≤ i⟩
theorem turn_strA {P : Program} {w : World} {K : PySem.W.Frag} {tg : Expr} (x : Str) (t : Tok) (it : Addr) : Turn P w K tg (Its x) [it] it (fun i h => h.IsStrIter it "str_ascii_iterator" x t i) where
  mem := by simp
  obj := fun i h st b hb => by
    have e : b = it := by simpa using hb
    subst e
    obtain ⟨o, e, c, d⟩ := st
    exact ⟨o, e, fun v z => by rw [d] at z; cases z⟩
  keep := fun i h h' st k => by
    obtain ⟨o, e, r⟩ := st
    exact ⟨o, k it (by simp) o e, r⟩
  item := by
    intro X hP hw hK hc i pins s σ H E I hf st hg
    subst hP hw hK
    obtain ⟨f0, f1, f2, f3, f4, f5⟩ := hf it (by simp)
    have hi : i < x.cps.size := hg
    refine wpAny_pyNext_ascii_item st (c := x.cps[i]) (by simp [hi]) fun h' st' sb => ?_
    have I1 : Inv X pins σ H { s with heap := h', toks := s.toks + 1 } := I.turned (fun b o hb e => (sb.2 b hb).trans e) f0 f1 f3 f4 f5
    obtain ⟨o, e, c, d⟩ := id st'
    exact ⟨_, rfl, go_of (s := { s with heap := h', toks := s.toks + 1 }) e c d (by decide) ⟨.str ⟨#[x.cps[i]]⟩, H, I1, ⟨_, rfl⟩, ⟨rfl, _, by simp [hi], rfl⟩, st', fun b hb => (hf b hb).1⟩⟩
  done := by
    intro X hP hw hK hc i pins s σ H E I hf st hg
    subst hP hw hK
    obtain ⟨f0, f1, f2, f3, f4, f5⟩ := hf it (by simp)
    have hi : x.cps.size ≤ i := hg
    exact wpAny_pyNext_ascii_end (I.ok.hd hc) st (by simp [hi]) fun h' eb => ⟨rfl, I.turned (t' := s.toks) (fun b o hb e => eb b o hb e) f0 f1 f3 f4 f5⟩
  self := fun _ _ _ _ _ st h => wpAny_pyIter_striter_ascii st h
theorem turn_strW {P : Program} {w : World} {K : PySem.W.Frag} {tg : Expr} (x : Str) (t : Tok) (it : Addr) : Turn P w K tg (Its x) [it] it (fun i h => h.IsStrIter it "str_iterator" x t i) where
  mem := by simp
  obj := fun i h st b hb => by
    have e : b = it := by simpa using hb
    subst e
    obtain ⟨o, e, c, d⟩ := st
    exact ⟨o, e, fun v z => by rw [d] at z; cases z⟩
  keep := fun i h h' st k => by
    obtain ⟨o, e, r⟩ := st
    exact ⟨o, k it (by simp) o e, r⟩
  item := by
    intro X hP hw hK hc i pins s σ H E I hf st hg
    subst hP hw hK
    obtain ⟨f0, f1, f2, f3, f4, f5⟩ := hf it (by simp)
    have hi : i < x.cps.size := hg
    refine wpAny_pyNext_wide_item st (c := x.cps[i]) (by simp [hi]) fun h' st' sb => ?_
    have I1 : Inv X pins σ H { s with heap := h', toks := s.toks + 1 } := I.turned (fun b o hb e => (sb.2 b hb).trans e) f0 f1 f3 f4 f5
    obtain ⟨o, e, c, d⟩ := id st'
    exact ⟨_, rfl, go_of (s := { s with heap := h', toks := s.toks + 1 }) e c d (by decide) ⟨.str ⟨#[x.cps[i]]⟩, H, I1, ⟨_, rfl⟩, ⟨rfl, _, by simp [hi], rfl⟩, st', fun b hb => (hf b hb).1⟩⟩
  done := by
    intro X hP hw hK hc i pins s σ H E I hf st hg
    subst hP hw hK
    obtain ⟨f0, f1, f2, f3, f4, f5⟩ := hf it (by simp)
    have hi : x.cps.size ≤ i := hg
    exact wpAny_pyNext_wide_end (I.ok.hd hc) st (by simp [hi]) fun h' eb => ⟨rfl, I.turned (t' := s.toks) (fun b o hb e => eb b o hb e) f0 f1 f3 f4 f5⟩
  self := fun _ _ _ _ _ st h => wpAny_pyIter_striter_wide st h
section
variable {X : Cx} {tg : Expr}
end
theorem vals_strs : ∀ l : List (Str × Tok), Vals ((l.map (·.1)).map V.str) (strValues l)
  | [] => .nil
  | (x, t) :: r => .cons ⟨t, rfl⟩ (vals_strs r)
theorem vals_from (tk : Nat) (ws : List Str) : Vals (ws.map V.str) (strsFrom tk ws) := by
  have h := vals_strs (numbered tk ws)
  rw [numbered_texts, ← strsFrom_eq] at h
  exact h
section
variable {X : Cx}
open Builtin Builtin.Str in
theorem mt_split : MtM X "str.split" (fun x vs H Q => ∃ z y, x = .str z ∧ vs = [.str y] ∧ (y.length == 0) = false ∧ z.length + 2 ≤ sizeLine ∧ ∀ p, H p = none → Q (.ref p) (upd H p (.lst ((Txt.split z y).map V.str)))) := by
  intro pins s σ H x vs v us Q I rx rv h
  obtain ⟨z, y, rfl, rfl, hy, hz, q⟩ := h
  obtain ⟨t, rfl⟩ := rx
  obtain ⟨w', rfl, u, rfl⟩ := rv.one
  have hle : (Txt.split z y).length ≤ sizeLine := Nat.le_trans (split_le z y) hz
  have hz0 : z.length ≤ sizeLine := by omega
  have q := q s.heap.objs.size I.fresh
  cases h1 : (decide (z.length < y.length) || decide (strKind z < strKind y)) with
  | true =>
    have e : Txt.split z y = [z] := if_pos h1
    rw [e] at q
    refine call_meets F.slot_str_split (typeIs_str _ _ _) F.entry_str_split (F.args_str_split_2 _ _) (meets_str_split_cannot_occur z y t u h1) ?_
    exact ⟨.ref s.heap.objs.size, _, I.laid (t' := s.toks) (o := .lst [.str z]) (fun b ob q => Heap.get?_push_of_some _ q) (Nat.le_refl _) ⟨by show 1 ≤ sizeLine; decide, _, 0, .cons ⟨t, rfl⟩ .nil, Heap.get?_push_size _ rfl⟩, rfl, q⟩
  | false =>
    cases hf : (occurrences z y 0 z.length (z.length + 1)).isEmpty with
    | true =>
      have e : Txt.split z y = [z] := (if_neg (ne_true_of_eq_false h1)).trans (if_pos hf)
      rw [e] at q
      refine call_meets F.slot_str_split (typeIs_str _ _ _) F.entry_str_split (F.args_str_split_2 _ _) (meets_str_split_not_found z y t u h1 hy hf) ?_
      exact ⟨.ref s.heap.objs.size, _, I.laid (t' := s.toks) (o := .lst [.str z]) (fun b ob q => Heap.get?_push_of_some _ q) (Nat.le_refl _) ⟨by show 1 ≤ sizeLine; decide, _, 0, .cons ⟨t, rfl⟩ .nil, Heap.get?_push_size _ rfl⟩, rfl, q⟩
    | false =>
      have e : Txt.split z y = partsBetween z (occurrences z y 0 z.length (z.length + 1)) y.length := (if_neg (ne_true_of_eq_false h1)).trans (if_neg (ne_true_of_eq_false hf))
      rw [e] at q hle
      refine call_meets F.slot_str_split (typeIs_str _ _ _) F.entry_str_split (F.args_str_split_2 _ _) (meets_str_split_sep z y t u h1 hy hf hz0 hle) ?_
      exact ⟨.ref s.heap.objs.size, _, I.laid (o := .lst ((partsBetween z (occurrences z y 0 z.length (z.length + 1)) y.length).map V.str)) (fun b ob q => Heap.get?_push_of_some _ q) (Nat.le_refl _)
        ⟨by rw [List.length_map]; exact hle, _, 0, vals_from _ _, Heap.get?_push_size _ rfl⟩, rfl, q⟩
theorem isPart_opt {v : Value} {o : Option Int} (p : IsPart v o) : ∃ l : Option (Int × Tok), v = partValue l ∧ o = l.map (·.1) := by
  cases p with
  | none => exact ⟨none, rfl, rfl⟩
  | int i t => exact ⟨some (i, t), rfl, rfl⟩
theorem sl_str : SlR X (fun x lo hi H Q => ∃ z, x = .str z ∧ z.length ≤ sizeLine ∧ Q (.str (Txt.slice z lo hi)) H) := by
  intro pins s σ H x v vl vu lo hi sl Q I rx hs pl pu h
  obtain ⟨z, rfl, hz, q⟩ := h
  obtain ⟨t, rfl⟩ := rx
  obtain ⟨l, rfl, rfl⟩ := isPart_opt pl
  obtain ⟨u, rfl, rfl⟩ := isPart_opt pu
  refine ⟨"str", _, F.slot_str_getitem.lookup, typeIs_str _ _ _, wpAny_getItem_str_slice (l := l) (u := u) (st := none) hs rfl ?_⟩
  exact post_val_or_str ⟨Nat.le_trans (Txt.slice_le z _ _) hz, fun t' k => ⟨.str (Txt.slice z _ _), H, I.tok _, ⟨t', rfl⟩, q⟩⟩
end
theorem mem_of_lookup {β : Type} {y : Str} {v : β} : ∀ {l : List (Str × β)}, l.lookup y = some v → (y, v) ∈ l
  | [], h => by simp at h
  | (x, u) :: r, h => by
    rw [List.lookup_cons] at h
    cases e : y == x with
    | true =>
      rw [e] at h
      have h1 := Option.some.inj h
      have h2 := eq_of_beq e
      subst h1 h2
      exact List.mem_cons_self
    | false =>
      rw [e] at h
      exact List.mem_cons_of_mem _ (mem_of_lookup h)
theorem comp0 {X : Cx} {scope : Scope} {T : List Str} (hk : scope.kind = .function) (hc : closureFor scope X.env = pure []) (h1 : ∀ y ∈ scope.names, y.2 ≠ .cell) (h2 : ∀ y ∈ scope.names, y.2 ≠ .free)
    (h3 : ∀ y ∈ scope.names, y.2 = .local → scope.names.lookup y.1 = some .local) : CompScope X scope [] T [] [] :=
  ⟨hk, hc, h1, h3, fun y c h => by simp at h, fun y h => absurd rfl (h2 _ (mem_of_lookup h)), .nil⟩
theorem compN {X : Cx} {scope : Scope} {T cn : List Str} {caps : List Nat} {cl : List (Str × Addr)} (hk : scope.kind = .function) (hc : closureFor scope X.env = pure cl) (h1 : ∀ y ∈ scope.names, y.2 ≠ .cell)
    (h2 : ∀ y ∈ scope.names, y.2 = .free → (cl.lookup y.1).isSome = true) (h3 : ∀ y ∈ scope.names, y.2 = .local → scope.names.lookup y.1 = some .local) (hs : ∀ p ∈ cl, X.env.cells.lookup p.1 = some p.2)
    (hp : Paired (fun (j : Nat) (y : Str) => X.N[j]? = some y ∧ (X.env.kindOf y = some .cell ∨ X.env.kindOf y = some .free) ∧ scope.names.lookup y = some .free) caps cn) : CompScope X scope cl T caps cn :=
  ⟨hk, hc, h1, h3, fun y c h => hs (y, c) (mem_of_lookup h), fun y h => Option.isSome_iff_exists.mp (h2 _ (mem_of_lookup h) rfl), hp⟩
end L2

set_option maxHeartbeats 4000000
namespace L2
open PySem PySem.Spec PyProof.Rows
def del (H : Hp) (a : Addr) : Hp := fun b => if b = a then none else H b
theorem del_same {H : Hp} {a : Addr} : del H a a = none := if_pos rfl
theorem del_ne {H : Hp} {a b : Addr} (h : b ≠ a) : del H a b = H b := if_neg h
section
variable {X : Cx} {pins : List (Addr × Obj)} {σ : St} {H : Hp} {s : Shared} {a : Addr} {ys : List V}
end
section
variable {X : Cx} {e : Expr} {te : TE} {tt : TT}
def tFrame (te : TE) : TE := fun σ H Q => ∃ D ys, H D = some (.lst ys) ∧ te σ (del H D) fun y H4 => H4 D = none → Q y (upd H4 D (.lst ys))
def uFrame (tt : TT) : TT := fun σ H Q => ∃ D ys, H D = some (.lst ys) ∧ tt σ (del H D) fun b H4 => H4 D = none → Q b (upd H4 D (.lst ys))
end
theorem del_upd {H : Hp} {a : Addr} {o : HO} (h : H a = none) : del (upd H a o) a = H := by
  funext b
  unfold del upd
  by_cases hb : b = a
  · rw [if_pos hb, hb, h]
  · rw [if_neg hb, if_neg hb]
end L2

set_option maxHeartbeats 4000000
namespace L2
open PySem PySem.Spec PyProof.Rows
def hid (H : Hp) (a dx : Addr) : Hp := fun b => if b = a ∨ b = dx then none else H b
def shown (H : Hp) (a dx C : Addr) (fs : List (Str × V)) : Hp := upd (upd H dx (.own a)) a (.ins C dx fs)
section
variable {X : Cx} {pins : List (Addr × Obj)} {σ : St} {H : Hp} {s : Shared} {a dx C : Addr} {fs : List (Str × V)}
theorem Inv.notfs {o : HO} (I : Inv X pins σ H s) (e : H a = some o) : a ∉ X.fs ∧ (∀ b o, X.s₀.heap.get? b = some o → X.H₀ b = none → b ∉ X.ex → b ≠ a) ∧ (∀ p ∈ X.pn ++ pins, p.1 ≠ a) ∧ ∀ x c, X.env.cells.lookup x = some c → c ≠ a := by
  refine ⟨fun hb => ?_, fun b o q n hx z => ?_, fun p hp z => ?_, fun x c q z => ?_⟩
  · have h1 := I.ok.frf a hb
    obtain ⟨_, o, ho, _⟩ := I.ok.funs.mem hb
    have hx : a ∉ X.ex := fun hx => I.ok.exfs a hx hb
    have := I.base.free a o ho h1 hx
    rw [e] at this
    cases this
  · have := I.base.free b o q n hx
    rw [z, e] at this
    cases this
  · have := (I.pin p hp).2.1
    rw [z, e] at this
    cases this
  · have := I.freeC x c q
    rw [z, e] at this
    cases this
end
section
variable {X : Cx} {e : Expr} {te : TE} {st : Stmt} {ts : TS}
def tFrameO (te : TE) : TE := fun σ H Q => ∃ a dx C fs, H a = some (.ins C dx fs) ∧ te σ (hid H a dx) fun y H4 => H4 a = none → H4 dx = none → dx ≠ a → Q y (shown H4 a dx C fs)
def sFrameO (ts : TS) : TS := fun D σ H => ∃ a dx C fs, H a = some (.ins C dx fs) ∧
  ts ⟨fun σ' H4 => H4 a = none → H4 dx = none → dx ≠ a → D.nx σ' (shown H4 a dx C fs), fun v H4 => H4 a = none → H4 dx = none → dx ≠ a → D.rt v (shown H4 a dx C fs),
    fun σ' H4 => H4 a = none → H4 dx = none → dx ≠ a → D.bk σ' (shown H4 a dx C fs), fun σ' H4 => H4 a = none → H4 dx = none → dx ≠ a → D.ct σ' (shown H4 a dx C fs)⟩ σ (hid H a dx)
theorem hid_shown {H : Hp} {a dx C : Addr} {fs : List (Str × V)} (h1 : H a = none) (h2 : H dx = none) : hid (shown H a dx C fs) a dx = H := by
  funext b
  unfold hid shown upd
  by_cases hb : b = a
  · rw [if_pos (.inl hb), hb, h1]
  · by_cases hb2 : b = dx
    · rw [if_pos (.inr hb2), hb2, h2]
    · rw [if_neg (fun z => z.elim hb hb2), if_neg hb, if_neg hb2]
theorem upd_shown {H : Hp} {a dx C : Addr} {fs fs' : List (Str × V)} : upd (shown H a dx C fs) a (.ins C dx fs') = shown H a dx C fs' := upd_upd
theorem shown_a {H : Hp} {a dx C : Addr} {fs : List (Str × V)} : shown H a dx C fs a = some (.ins C dx fs) := upd_same
end
end L2

set_option maxHeartbeats 4000000
namespace L2
open PySem PySem.Spec PyProof.Rows
def hidL (H : Hp) (L : List Addr) : Hp := fun b => if b ∈ L then none else H b
def showL (H' H : Hp) (L : List Addr) : Hp := fun b => if b ∈ L then H b else H' b
theorem hidL_in {H : Hp} {L : List Addr} {b : Addr} (h : b ∈ L) : hidL H L b = none := if_pos h
theorem hidL_out {H : Hp} {L : List Addr} {b : Addr} (h : b ∉ L) : hidL H L b = H b := if_neg h
theorem hidL_none {H : Hp} {L : List Addr} {b : Addr} (h : H b = none) : hidL H L b = none := by unfold hidL; split <;> first | rfl | exact h
theorem hidL_some {H : Hp} {L : List Addr} {b : Addr} {o : HO} (h : hidL H L b = some o) : b ∉ L ∧ H b = some o := by
  unfold hidL at h
  split at h
  · cases h
  · rename_i z; exact ⟨z, h⟩
theorem showL_in {H H' : Hp} {L : List Addr} {b : Addr} (h : b ∈ L) : showL H' H L b = H b := if_pos h
theorem showL_out {H H' : Hp} {L : List Addr} {b : Addr} (h : b ∉ L) : showL H' H L b = H' b := if_neg h
inductive HidOk (H : Hp) (L : List Addr) (a : Addr) : Prop
  | lst (xs : List V) (h : H a = some (.lst xs))
  | dK (kvs : List (Key × V)) (h : H a = some (.dK kvs))
  | ins (C dx : Addr) (fs : List (Str × V)) (h : H a = some (.ins C dx fs)) (hd : dx ∈ L)
  | own (C b : Addr) (fs : List (Str × V)) (h : H a = some (.own b)) (hb : b ∈ L) (hi : H b = some (.ins C a fs))
section
variable {X : Cx} {pins : List (Addr × Obj)} {σ : St} {H : Hp} {s : Shared} {L : List Addr}
theorem HidOk.there {a : Addr} (h : HidOk H L a) : ∃ o, H a = some o := by cases h <;> exact ⟨_, by assumption⟩
theorem HidOk.notup {a : Addr} (h : HidOk H L a) : (∀ xs, H a ≠ some (.tup xs)) ∧ (∀ o u, H a ≠ some (.frz o u)) ∧ (∀ ps, H a ≠ some (.tbl ps)) ∧ ∀ b, H a = some (.own b) → b ∈ L := by
  cases h with
  | lst xs h => rw [h]; exact ⟨fun _ q => (nomatch q), fun _ _ q => (nomatch q), fun _ q => (nomatch q), fun _ q => (nomatch q)⟩
  | dK xs h => rw [h]; exact ⟨fun _ q => (nomatch q), fun _ _ q => (nomatch q), fun _ q => (nomatch q), fun _ q => (nomatch q)⟩
  | ins C dx fs h hd => rw [h]; exact ⟨fun _ q => (nomatch q), fun _ _ q => (nomatch q), fun _ q => (nomatch q), fun _ q => (nomatch q)⟩
  | own C b fs h hb hi => rw [h]; exact ⟨fun _ q => (nomatch q), fun _ _ q => (nomatch q), fun _ q => (nomatch q), fun c q => by cases q; exact hb⟩
theorem HidOk.obj {a : Addr} (h : HidOk H L a) (I : Inv X pins σ H s) : ∃ o, s.heap.get? a = some o ∧ ∀ v, o.data ≠ .cell v := by
  cases h with
  | lst xs h =>
    obtain ⟨_, its, n, _, ho⟩ := (show ObjOk X.prog X.w H s.heap a (.lst xs) from I.hok a _ h)
    exact ⟨_, ho, fun v q => by cases q⟩
  | dK kvs h =>
    obtain ⟨_, _, vs, _, ob, es, ep, e, c⟩ := (show ObjOk X.prog X.w H s.heap a (.dK kvs) from I.hok a _ h)
    exact ⟨_, e, fun v q => by rw [c.2.1] at q; cases q⟩
  | ins C dx fs h hd =>
    obtain ⟨_, _, _, e, _⟩ := (show ObjOk X.prog X.w H s.heap a (.ins C dx fs) from I.hok a _ h)
    exact ⟨_, e, fun v q => by cases q⟩
  | own C b fs h hb hi =>
    obtain ⟨_, _, _, _, mA, ⟨od, es, ep, e2, c⟩, r⟩ := (show ObjOk X.prog X.w H s.heap b (.ins C a fs) from I.hok b _ hi)
    exact ⟨_, e2, fun v q => by rw [c.1] at q; cases q⟩
theorem frameM {G : Prop} (I : Inv X pins σ H s) (hL : ∀ a ∈ L, HidOk H L a)
    (h : ∀ pl : List (Addr × Obj), Inv X (pins ++ pl) σ (hidL H L) s → (∀ b ∈ L, ∃ o, (b, o) ∈ pl) → (∀ (σ' : St) (H' : Hp) (s' : Shared), Inv X (pins ++ pl) σ' H' s' → (∀ b ∈ L, H' b = none) ∧ Inv X pins σ' (showL H' H L) s') → G) : G := by
  have memL : ∀ {b : Addr} {o : Obj}, (b, o) ∈ pinsAt L s.heap ↔ b ∈ L ∧ s.heap.get? b = some o := fun {b o} => ⟨fun q => of_pinsAt q, fun q => mem_pinsAt q.1 q.2⟩
  refine h (pinsAt L s.heap) ?_ (fun b hb => let ⟨o, e, _⟩ := (hL b hb).obj I; ⟨o, memL.mpr ⟨hb, e⟩⟩) fun σ' H' s' J => ?_
  · refine ⟨I.ok, I.os, I.bare, ⟨I.base.keep, I.base.slot, fun b o q n hx => hidL_none (I.base.free b o q n hx), I.base.there, fun b xs q => ?_, fun b o u q => ?_, fun b ps q => ?_⟩, I.loc, I.cell, hidL_none I.free, fun x c q => hidL_none (I.freeC x c q), fun p hp => ?_, fun b o q => ?_, I.len⟩
    · have z := I.base.tups b xs q
      rw [hidL_out (fun w => (hL b w).notup.1 _ z)]; exact z
    · have z := I.base.frzs b o u q
      rw [hidL_out (fun w => (hL b w).notup.2.1 _ _ z)]; exact z
    · obtain ⟨more, z⟩ := I.base.tbls b ps q
      exact ⟨more, by rw [hidL_out (fun w => (hL b w).notup.2.2.1 _ z)]; exact z⟩
    · rw [← List.append_assoc] at hp
      rcases List.mem_append.mp hp with z | z
      · obtain ⟨p1, p2, p3, p4, p5⟩ := I.pin p z
        exact ⟨p1, hidL_none p2, p3, p4, p5⟩
      · obtain ⟨z1, z2⟩ := of_pinsAt z
        obtain ⟨o, e⟩ := (hL p.1 z1).there
        refine ⟨z2, hidL_in z1, fun w => ?_, (I.notfs e).1, fun v q => ?_⟩
        · have f := I.free
          rw [← w, e] at f
          cases f
        · obtain ⟨ob, e2, nc⟩ := (hL p.1 z1).obj I
          rw [z2] at e2
          cases e2
          exact nc v q
    · obtain ⟨hb, q⟩ := hidL_some q
      refine (I.hok b o q).stay (fun _ _ _ z => z) (fun c hc => ?_) (fun c xs hc => ?_)
      · rw [hidL_out (fun w => hb ((hL c w).notup.2.2.2 _ hc))]; exact hc
      · rw [hidL_out (fun w => (hL c w).notup.1 _ hc)]; exact hc
  · have pin : ∀ b ∈ L, H' b = none ∧ ∀ o, s.heap.get? b = some o → s'.heap.get? b = some o := fun b hb => by
      obtain ⟨o, e, _⟩ := (hL b hb).obj I
      obtain ⟨g1, g2, _⟩ := J.pin (b, o) (List.mem_append_right _ (List.mem_append_right _ (memL.mpr ⟨hb, e⟩)))
      exact ⟨g2, fun o' e' => by rw [e] at e'; cases e'; exact g1⟩
    refine ⟨fun b hb => (pin b hb).1, ⟨J.ok, J.os, J.bare, ⟨J.base.keep, J.base.slot, fun b o q n hx => ?_, J.base.there, fun b xs q => ?_, fun b o u q => ?_, fun b ps q => ?_⟩, J.loc, J.cell, ?_, fun x c q => ?_, fun p hp => ?_, fun b o q => ?_, J.len⟩⟩
    · rw [showL_out (fun w => let ⟨o', e⟩ := (hL b w).there; (I.notfs e).2.1 b o q n hx rfl)]
      exact J.base.free b o q n hx
    · have z := J.base.tups b xs q
      rw [showL_out (fun w => by rw [(pin b w).1] at z; cases z)]; exact z
    · have z := J.base.frzs b o u q
      rw [showL_out (fun w => by rw [(pin b w).1] at z; cases z)]; exact z
    · obtain ⟨more, z⟩ := J.base.tbls b ps q
      exact ⟨more, by rw [showL_out (fun w => by rw [(pin b w).1] at z; cases z)]; exact z⟩
    · rw [showL_out (fun w => let ⟨o', e⟩ := (hL _ w).there; by rw [I.free] at e; cases e)]
      exact J.free
    · rw [showL_out (fun w => let ⟨o', e⟩ := (hL _ w).there; by rw [I.freeC x c q] at e; cases e)]
      exact J.freeC x c q
    · obtain ⟨p1, p2, p3, p4, p5⟩ := J.pin p (by rw [← List.append_assoc]; exact List.mem_append_left _ hp)
      refine ⟨p1, ?_, p3, p4, p5⟩
      rw [showL_out (fun w => let ⟨o', e⟩ := (hL _ w).there; (I.notfs e).2.2.1 p hp rfl)]
      exact p2
    · by_cases hb : b ∈ L
      · rw [showL_in hb] at q
        have k := (pin b hb).2
        have w := hL b hb
        cases w with
        | lst xs h =>
          rw [h] at q; cases q
          obtain ⟨hz, its, n, hv, ho⟩ := (show ObjOk X.prog X.w H s.heap b (.lst xs) from I.hok b _ h)
          exact ⟨hz, its, n, hv, k _ ho⟩
        | dK kvs h =>
          rw [h] at q; cases q
          obtain ⟨z1, z2, vs, hv, ob, es, ep, e, c⟩ := (show ObjOk X.prog X.w H s.heap b (.dK kvs) from I.hok b _ h)
          exact ⟨z1, z2, vs, hv, ob, es, ep, k _ e, c⟩
        | ins C dx fs h hd =>
          rw [h] at q; cases q
          obtain ⟨d, z, ne, ea, mA, ⟨od, es, ep, e2, c⟩, r⟩ := (show ObjOk X.prog X.w H s.heap b (.ins C dx fs) from I.hok b _ h)
          exact ⟨by rw [showL_in hd]; exact d, z, ne, k _ ea, mA, ⟨od, es, ep, (pin dx hd).2 _ e2, c⟩, r⟩
        | own C a fs h ha hi =>
          rw [h] at q; cases q
          obtain ⟨o, e⟩ := (show ObjOk X.prog X.w H s.heap b (.own a) from I.hok b _ h)
          exact ⟨o, k _ e⟩
      · rw [showL_out hb] at q
        refine (J.hok b o q).stay (fun _ _ _ z => z) (fun c hc => ?_) (fun c xs hc => ?_)
        · rw [showL_out (fun w => by rw [(pin c w).1] at hc; cases hc)]; exact hc
        · rw [showL_out (fun w => by rw [(pin c w).1] at hc; cases hc)]; exact hc
end
section
variable {X : Cx} {e : Expr} {te : TE} {tt : TT} {st : Stmt} {ts : TS} {tg iter : Expr} {wi : TI}
def frE (te : TE) : TE := fun σ H Q => ∃ L, (∀ a ∈ L, HidOk H L a) ∧ te σ (hidL H L) fun y H4 => (∀ b ∈ L, H4 b = none) → Q y (showL H4 H L)
theorem pe_frM (he : PE X e te) : PE X e (frE te) := by
  intro pins s σ H Q I ⟨L, hL, q⟩
  refine frameM I hL fun pl I' _ back => ?_
  refine thn (he (pins ++ pl) s σ _ _ I' q) fun v s1 ⟨y, H4, I4, r, k⟩ => ?_
  obtain ⟨z, J⟩ := back _ _ _ I4
  exact ⟨y, _, J, r, k z⟩
def frT (tt : TT) : TT := fun σ H Q => ∃ L, (∀ a ∈ L, HidOk H L a) ∧ tt σ (hidL H L) fun y H4 => (∀ b ∈ L, H4 b = none) → Q y (showL H4 H L)
def frEnds (D : Ends) (H : Hp) (L : List Addr) : Ends := ⟨fun σ' H4 => (∀ b ∈ L, H4 b = none) → D.nx σ' (showL H4 H L), fun v H4 => (∀ b ∈ L, H4 b = none) → D.rt v (showL H4 H L),
  fun σ' H4 => (∀ b ∈ L, H4 b = none) → D.bk σ' (showL H4 H L), fun σ' H4 => (∀ b ∈ L, H4 b = none) → D.ct σ' (showL H4 H L)⟩
def frS (ts : TS) : TS := fun D σ H => ∃ L, (∀ a ∈ L, HidOk H L a) ∧ ts (frEnds D H L) σ (hidL H L)
theorem sp_back {pins pl : List (Addr × Obj)} {D : Ends} {H : Hp} {L : List Addr} {f : Flow} {s1 : Shared} (back : ∀ (σ' : St) (H' : Hp) (s' : Shared), Inv X (pins ++ pl) σ' H' s' → (∀ b ∈ L, H' b = none) ∧ Inv X pins σ' (showL H' H L) s')
    (hq : SP X (pins ++ pl) (frEnds D H L) f s1) : SP X pins D f s1 := by
  cases f with
  | next => obtain ⟨σ', H', J, k⟩ := hq; obtain ⟨z, J'⟩ := back _ _ _ J; exact ⟨σ', _, J', k z⟩
  | brk => obtain ⟨σ', H', J, k⟩ := hq; obtain ⟨z, J'⟩ := back _ _ _ J; exact ⟨σ', _, J', k z⟩
  | cont => obtain ⟨σ', H', J, k⟩ := hq; obtain ⟨z, J'⟩ := back _ _ _ J; exact ⟨σ', _, J', k z⟩
  | ret u => obtain ⟨v, σ', H', J, r, k⟩ := hq; obtain ⟨z, J'⟩ := back _ _ _ J; exact ⟨v, σ', _, J', r, k z⟩
theorem ps_frM (he : PS X st ts) : PS X st (frS ts) := by
  intro pins s σ H D I ⟨L, hL, q⟩
  refine frameM I hL fun pl I' _ back => ?_
  exact thn (he (pins ++ pl) s σ _ _ I' q) fun f s1 hq => sp_back back hq
end
theorem hidL_one {H : Hp} {a : Addr} : hidL H [a] = del H a := by
  funext b
  by_cases h : b = a
  · rw [h, hidL_in List.mem_cons_self, del_same]
  · rw [hidL_out (fun z => h (List.mem_singleton.mp z)), del_ne h]
theorem showL_one {H H' : Hp} {a : Addr} {o : HO} (e : H a = some o) : showL H' H [a] = upd H' a o := by
  funext b
  by_cases h : b = a
  · rw [h, showL_in List.mem_cons_self, upd_same, e]
  · rw [showL_out (fun z => h (List.mem_singleton.mp z)), upd_ne h]
theorem hidL_two {H : Hp} {a dx : Addr} : hidL H [a, dx] = hid H a dx := by
  funext b
  unfold hidL hid
  simp
theorem showL_two {H H' : Hp} {a dx C : Addr} {fs : List (Str × V)} (ea : H a = some (.ins C dx fs)) (ed : H dx = some (.own a)) : showL H' H [a, dx] = shown H' a dx C fs := by
  funext b
  unfold shown
  by_cases h : b = a
  · rw [h, showL_in List.mem_cons_self, upd_same, ea]
  · rw [upd_ne h]
    by_cases h2 : b = dx
    · rw [h2, showL_in (List.mem_cons_of_mem _ List.mem_cons_self), upd_same, ed]
    · rw [showL_out (fun z => by simp at z; exact z.elim h h2), upd_ne h2]
section
variable {X : Cx} {e : Expr} {te : TE} {tt : TT} {st : Stmt} {ts : TS}
theorem pe_frameN (he : PE X e te) : PE X e (tFrame te) := fun pins s σ H Q I ⟨D, ys, hD, q⟩ =>
  pe_frM he pins s σ H Q I ⟨[D], fun a ha => by rw [List.mem_singleton.mp ha]; exact .lst ys hD, by rw [hidL_one]; simpa only [showL_one hD, List.mem_singleton, forall_eq] using q⟩
theorem pts_frM {ifs : List Expr} (he : PTs X ifs tt) : PTs X ifs (frT tt) := by
  intro pins s σ H Q I ⟨L, hL, q⟩
  refine frameM I hL fun pl I' _ back => ?_
  refine thn (he (pins ++ pl) s σ _ _ I' q) fun v s1 ⟨H4, I4, k⟩ => ?_
  obtain ⟨z, J⟩ := back _ _ _ I4
  exact ⟨_, J, k z⟩
theorem pts_frameN {ifs : List Expr} (he : PTs X ifs tt) : PTs X ifs (uFrame tt) := fun pins s σ H Q I ⟨D, ys, hD, q⟩ =>
  pts_frM he pins s σ H Q I ⟨[D], fun a ha => by rw [List.mem_singleton.mp ha]; exact .lst ys hD, by rw [hidL_one]; simpa only [showL_one hD, List.mem_singleton, forall_eq] using q⟩
theorem two_ok {pins : List (Addr × Obj)} {σ : St} {H : Hp} {s : Shared} {a dx C : Addr} {fs : List (Str × V)} (I : Inv X pins σ H s) (ha : H a = some (.ins C dx fs)) : H dx = some (.own a) ∧ dx ≠ a ∧ ∀ b ∈ [a, dx], HidOk H [a, dx] b := by
  obtain ⟨d, _, ne, _⟩ := (show ObjOk X.prog X.w H s.heap a (.ins C dx fs) from I.hok a _ ha)
  refine ⟨d, ne, fun b hb => ?_⟩
  rcases List.mem_cons.mp hb with rfl | hb
  · exact .ins C dx fs ha (by simp)
  · rw [List.mem_singleton.mp hb]; exact .own C a fs d (by simp) ha
theorem pe_frameNO (he : PE X e te) : PE X e (tFrameO te) := fun pins s σ H Q I ⟨a, dx, C, fs, ha, q⟩ => by
  obtain ⟨d, ne, ok⟩ := two_ok I ha
  refine pe_frM he pins s σ H Q I ⟨[a, dx], ok, ?_⟩
  rw [hidL_two]
  simp only [showL_two ha d, List.mem_cons, List.not_mem_nil, or_false, forall_eq_or_imp, forall_eq]
  exact (show (fun y H4 => H4 a = none → H4 dx = none → dx ≠ a → Q y (shown H4 a dx C fs)) = fun y H4 => H4 a = none ∧ H4 dx = none → Q y (shown H4 a dx C fs) by funext y H4; simp [ne]) ▸ q
theorem ps_frameNO (he : PS X st ts) : PS X st (sFrameO ts) := fun pins s σ H D I ⟨a, dx, C, fs, ha, q⟩ => by
  obtain ⟨d, ne, ok⟩ := two_ok I ha
  refine ps_frM he pins s σ H D I ⟨[a, dx], ok, ?_⟩
  rw [hidL_two]
  have e : frEnds D H [a, dx] = ⟨fun σ' H4 => H4 a = none → H4 dx = none → dx ≠ a → D.nx σ' (shown H4 a dx C fs), fun v H4 => H4 a = none → H4 dx = none → dx ≠ a → D.rt v (shown H4 a dx C fs),
    fun σ' H4 => H4 a = none → H4 dx = none → dx ≠ a → D.bk σ' (shown H4 a dx C fs), fun σ' H4 => H4 a = none → H4 dx = none → dx ≠ a → D.ct σ' (shown H4 a dx C fs)⟩ := by
    unfold frEnds
    simp [showL_two ha d, ne]
  rw [e]
  exact q
end
end L2

set_option maxHeartbeats 4000000
namespace DC
open PySem PySem.Spec PyProof.Rows L2
inductive D where
  | non | bl (b : Bool) | int (i : Int) | str (x : Str)
  | lst (xs : List D) | tup (xs : List D)
  | obj (C : Addr) (fs : List (Str × D))
  | dK (kvs : List (Key × D)) | dT (kvs : List (List Key × D))
  | adr (a : Addr)
  | exc (a C : Addr) (fs : List (Str × D))
def ExcO (a C : Addr) (dx : Option Addr) : HO := .ext fun h => ∃ oe vs, h.get? a = some oe ∧ oe.cls = .ref C ∧ oe.dict = dx ∧ oe.data = .fields vs ∧ vs[2]? = some .none
def XdO (d : Addr) (fs : List (Str × V)) : HO := .ext fun h => ∃ mA, h.Ns1 d mA ∧ (∀ f, RelO (fs.lookup f) (mA f)) ∧ PySem.Within mA (fs.map (·.1))
def XDict (H : Hp) (dx : Option Addr) (fs : List (Str × V)) : Prop := match dx with
  | none => fs = []
  | some d => Rd H d (XdO d fs)
theorem rd_same {H H' : Hp} {a : Addr} {u : HO} (s : Same H H') (r : Rd H a u) : Rd H' a u := by
  rcases r with r | ⟨o, r⟩
  · exact .inl (s _ _ r)
  · exact .inr ⟨o, s _ _ r⟩
theorem XDict.same {H H' : Hp} {dx : Option Addr} {fs : List (Str × V)} (s : Same H H') (h : XDict H dx fs) : XDict H' dx fs := by
  cases dx with
  | none => exact h
  | some d => exact rd_same s h
mutual
inductive Dv (K : PySem.W.Frag) (H : Hp) : V → D → Prop
  | non : Dv K H .non .non
  | bl (b : Bool) : Dv K H (.bl b) (.bl b)
  | int (i : Int) : Dv K H (.int i) (.int i)
  | str (x : Str) : Dv K H (.str x) (.str x)
  | lst {a : Addr} {xs : List V} {ds : List D} : SqL K H a xs → Dvs K H xs ds → Dv K H (.ref a) (.lst ds)
  | tup {a : Addr} {xs : List V} {ds : List D} : SqT K H a xs → Dvs K H xs ds → Dv K H (.ref a) (.tup ds)
  | obj {a C dx : Addr} {fs : List (Str × V)} {gs : List (Str × D)} : Rd H a (.ins C dx fs) → Dvf K H fs gs → Dv K H (.ref a) (.obj C gs)
  | dK {a : Addr} {kvs : List (Key × V)} {gs : List (Key × D)} : Rd H a (.dK kvs) → Dvk K H kvs gs → Dv K H (.ref a) (.dK gs)
  | dT {a : Addr} {kvs : List (List Key × V)} {gs : List (List Key × D)} : Rd H a (.dT kvs) → Dvt K H kvs gs → Dv K H (.ref a) (.dT gs)
  | adr (a : Addr) : Dv K H (.ref a) (.adr a)
  | exc {a C : Addr} {dx : Option Addr} {fs : List (Str × V)} {gs : List (Str × D)} : Rd H a (ExcO a C dx) → XDict H dx fs → Dvf K H fs gs → Dv K H (.ref a) (.exc a C gs)
inductive Dvs (K : PySem.W.Frag) (H : Hp) : List V → List D → Prop
  | nil : Dvs K H [] []
  | cons {x : V} {d : D} {xs : List V} {ds : List D} : Dv K H x d → Dvs K H xs ds → Dvs K H (x :: xs) (d :: ds)
inductive Dvf (K : PySem.W.Frag) (H : Hp) : List (Str × V) → List (Str × D) → Prop
  | nil : Dvf K H [] []
  | cons {k : Str} {x : V} {d : D} {xs : List (Str × V)} {ds : List (Str × D)} : Dv K H x d → Dvf K H xs ds → Dvf K H ((k, x) :: xs) ((k, d) :: ds)
inductive Dvk (K : PySem.W.Frag) (H : Hp) : List (Key × V) → List (Key × D) → Prop
  | nil : Dvk K H [] []
  | cons {k : Key} {x : V} {d : D} {xs : List (Key × V)} {ds : List (Key × D)} : Dv K H x d → Dvk K H xs ds → Dvk K H ((k, x) :: xs) ((k, d) :: ds)
inductive Dvt (K : PySem.W.Frag) (H : Hp) : List (List Key × V) → List (List Key × D) → Prop
  | nil : Dvt K H [] []
  | cons {k : List Key} {x : V} {d : D} {xs : List (List Key × V)} {ds : List (List Key × D)} : Dv K H x d → Dvt K H xs ds → Dvt K H ((k, x) :: xs) ((k, d) :: ds)
end
theorem sameT {K : PySem.W.Frag} {H H' : Hp} {a : Addr} {xs : List V} (e : Same H H') (h : SqT K H a xs) : SqT K H' a xs := by
  rcases h with (h | ⟨o, h⟩) | h
  · exact .inl (.inl (e _ _ h))
  · exact .inl (.inr ⟨o, e _ _ h⟩)
  · exact .inr h
section
variable {K : PySem.W.Frag} {H H' : Hp}
mutual
theorem Dv.same (s : Same H H') : ∀ {v : V} {d : D}, Dv K H v d → Dv K H' v d
  | _, _, .non => .non
  | _, _, .bl b => .bl b
  | _, _, .int i => .int i
  | _, _, .str x => .str x
  | _, _, .lst h1 h2 => .lst (s.seq h1) (Dvs.same s h2)
  | _, _, .tup h1 h2 => .tup (sameT s h1) (Dvs.same s h2)
  | _, _, .obj h1 h2 => .obj (rd_same s h1) (Dvf.same s h2)
  | _, _, .dK h1 h2 => .dK (rd_same s h1) (Dvk.same s h2)
  | _, _, .dT h1 h2 => .dT (rd_same s h1) (Dvt.same s h2)
  | _, _, .adr a => .adr a
  | _, _, .exc h1 h2 h3 => .exc (rd_same s h1) (h2.same s) (Dvf.same s h3)
theorem Dvs.same (s : Same H H') : ∀ {vs : List V} {ds : List D}, Dvs K H vs ds → Dvs K H' vs ds
  | _, _, .nil => .nil
  | _, _, .cons h1 h2 => .cons (Dv.same s h1) (Dvs.same s h2)
theorem Dvf.same (s : Same H H') : ∀ {vs : List (Str × V)} {ds : List (Str × D)}, Dvf K H vs ds → Dvf K H' vs ds
  | _, _, .nil => .nil
  | _, _, .cons h1 h2 => .cons (Dv.same s h1) (Dvf.same s h2)
theorem Dvk.same (s : Same H H') : ∀ {vs : List (Key × V)} {ds : List (Key × D)}, Dvk K H vs ds → Dvk K H' vs ds
  | _, _, .nil => .nil
  | _, _, .cons h1 h2 => .cons (Dv.same s h1) (Dvk.same s h2)
theorem Dvt.same (s : Same H H') : ∀ {vs : List (List Key × V)} {ds : List (List Key × D)}, Dvt K H vs ds → Dvt K H' vs ds
  | _, _, .nil => .nil
  | _, _, .cons h1 h2 => .cons (Dv.same s h1) (Dvt.same s h2)
end
theorem Dvs.length : ∀ {vs : List V} {ds : List D}, Dvs K H vs ds → vs.length = ds.length
  | _, _, .nil => rfl
  | _, _, .cons _ h => congrArg (· + 1) (Dvs.length h)
theorem Dvs.get : ∀ {vs : List V} {ds : List D} {i : Nat} {d : D}, Dvs K H vs ds → ds[i]? = some d → ∃ v, vs[i]? = some v ∧ Dv K H v d
  | _, _, _, _, .nil, e => by simp at e
  | _, _, 0, _, .cons h _, e => by simp at e; subst e; exact ⟨_, rfl, h⟩
  | _, _, i + 1, d, .cons _ h, e => by
    obtain ⟨v, h1, h2⟩ := Dvs.get (i := i) (d := d) h (by simpa using e)
    exact ⟨v, by simpa using h1, h2⟩
theorem Dvs.getV : ∀ {vs : List V} {ds : List D} {i : Nat} {v : V}, Dvs K H vs ds → vs[i]? = some v → ∃ d, ds[i]? = some d ∧ Dv K H v d
  | _, _, _, _, .nil, e => by simp at e
  | _, _, 0, _, .cons h _, e => by simp at e; subst e; exact ⟨_, rfl, h⟩
  | _, _, i + 1, v, .cons _ h, e => by
    obtain ⟨d, h1, h2⟩ := Dvs.getV (i := i) (v := v) h (by simpa using e)
    exact ⟨d, by simpa using h1, h2⟩
theorem Dvs.append : ∀ {vs ws : List V} {ds es : List D}, Dvs K H vs ds → Dvs K H ws es → Dvs K H (vs ++ ws) (ds ++ es)
  | _, _, _, _, .nil, h => h
  | _, _, _, _, .cons a r, h => .cons a (Dvs.append r h)
theorem Dvs.take : ∀ {vs : List V} {ds : List D} (n : Nat), Dvs K H vs ds → Dvs K H (vs.take n) (ds.take n)
  | _, _, 0, _ => .nil
  | _, _, _ + 1, .nil => .nil
  | _, _, n + 1, .cons r t => .cons r (Dvs.take n t)
theorem Dvs.drop : ∀ {vs : List V} {ds : List D} (n : Nat), Dvs K H vs ds → Dvs K H (vs.drop n) (ds.drop n)
  | _, _, 0, r => r
  | _, _, _ + 1, .nil => .nil
  | _, _, n + 1, .cons _ t => Dvs.drop n t
theorem Dvf.look : ∀ {fs : List (Str × V)} {gs : List (Str × D)} {f : Str} {d : D}, Dvf K H fs gs → gs.lookup f = some d → ∃ v, fs.lookup f = some v ∧ Dv K H v d
  | _, _, _, _, .nil, e => by simp at e
  | _, _, f, d, .cons (k := k) h r, e => by
    rw [List.lookup_cons] at e ⊢
    cases q : f == k with
    | true =>
      rw [q] at e
      cases e
      exact ⟨_, rfl, h⟩
    | false =>
      rw [q] at e
      exact Dvf.look r e
theorem Dvf.none : ∀ {fs : List (Str × V)} {gs : List (Str × D)} {f : Str}, Dvf K H fs gs → gs.lookup f = Option.none → fs.lookup f = Option.none
  | _, _, _, .nil, _ => rfl
  | _, _, f, .cons (k := k) h r, e => by
    rw [List.lookup_cons] at e ⊢
    cases q : f == k with
    | true => rw [q] at e; cases e
    | false =>
      rw [q] at e
      exact Dvf.none r e
end
section
variable {X : Cx} {pins : List (Addr × Obj)} {σ : L2.St} {H : Hp} {s : Shared} {a C dx : Addr} {fs : List (Str × V)} {f : Str} {v : V} {A : Around} {E : Value → Shared → Prop}
theorem ins_getR {P : Program} {w : World} {h : Heap} (hok : HOk P w H h) (e : Rd H a (.ins C dx fs)) : ∃ mA, ObjM h a dx C mA ∧ (∀ f, RelO (fs.lookup f) (mA f)) ∧ PySem.Within mA (fs.map (·.1)) ∧ fs.length ≤ 1000 ∧ H dx = some (.own a) := by
  obtain ⟨d, z, ne, ob, mA, n, r, q⟩ := (show ObjOk P w H h a (.ins C dx fs) from e.ok hok)
  exact ⟨mA, ⟨ob, n, ne⟩, r, q, z, d⟩
theorem getattr_okR {b : Bool} {Q : Value → Shared → Prop} (I : Inv X pins σ H s) (e : Rd H a (.ins C dx fs)) (c : Cls X.K C) (n : NoAttr X.K C f) (l : fs.lookup f = some v)
    (h : ∀ u s', Inv X pins σ H s' → RelV v u → Q u s') : wpAny (model X.prog X.w) A (getAttr (.ref a) f b) Q E s := by
  obtain ⟨mA, O, r, _, _, _⟩ := ins_getR I.hok e
  obtain ⟨u, hu, ru⟩ := RelO.some_of (v := v) (o := mA f) (by rw [← l]; exact r f)
  exact get_map I.kIn O (c.get f) c.hd n hu (handed_of ru) (h u _ (I.tok _) ru)
theorem getmeth_okR {m : Str} {g : Addr} {pl : Sem Bool} {Q : Value × List Value → Shared → Prop} (I : Inv X pins σ H s) (e : Rd H a (.ins C dx fs)) (c : Cls X.K C) (k : Meth X.K C m g) (l : fs.lookup m = none)
    (h : Q (.ref g, [.ref a]) s) : wpAny (model X.prog X.w) A (getMethod (.ref a) m pl) Q E s := by
  obtain ⟨mA, O, r, _, _, _⟩ := ins_getR I.hok e
  have hn : mA m = none := RelO.none_of (by rw [← l]; exact r m)
  exact get_meth I.kIn O (c.get m) k.at_ k.fn hn h
def tFldR (K : PySem.W.Frag) (ta : TE) (f : Str) : TE := fun σ H Q => ta σ H fun x H1 => ∃ a C dx fs v, x = .ref a ∧ Rd H1 a (.ins C dx fs) ∧ Cls K C ∧ NoAttr K C f ∧ fs.lookup f = some v ∧ Q v H1
theorem pe_fldR {e : Expr} {ta : TE} {pos : Pos} (he : PE X e ta) (hb : attributeBase e f X.env (eval e X.env) = eval e X.env) : PE X (.Attribute e f pos) (tFldR X.K ta f) := by
  intro pins s σ H Q I h
  refine attr_of hb (thn (he pins s σ H _ I h) fun u s1 ⟨x, H1, I1, rx, a, C, dx, fs, v, ex, ea, c, n, l, q⟩ => ?_)
  subst ex
  obtain rfl : u = Value.ref a := rx
  exact getattr_okR I1 ea c n l fun u' s2 I2 ru => ⟨v, H1, I2, ru, q⟩
end
abbrev SD := List (Option D)
abbrev ED := SD → (D → Prop) → Prop
abbrev TD := SD → (Bool → Prop) → Prop
abbrev AD := SD → (List D → Prop) → Prop
structure RelS (K : PySem.W.Frag) (H : Hp) (σ : L2.St) (δ : SD) : Prop where
  len : σ.length = δ.length
  get : ∀ (i : Nat) (d : D), δ[i]? = some (some d) → ∃ v, σ[i]? = some (some v) ∧ Dv K H v d
theorem RelS.same {K : PySem.W.Frag} {H H' : Hp} {σ : L2.St} {δ : SD} (r : RelS K H σ δ) (s : Same H H') : RelS K H' σ δ :=
  ⟨r.len, fun i d h => let ⟨v, h1, h2⟩ := r.get i d h; ⟨v, h1, h2.same s⟩⟩
theorem RelS.set {K : PySem.W.Frag} {H : Hp} {σ : L2.St} {δ : SD} (r : RelS K H σ δ) {v : V} {d : D} (i : Nat) (h : Dv K H v d) : RelS K H (σ.set i (some v)) (δ.set i (some d)) := by
  refine ⟨by rw [List.length_set, List.length_set]; exact r.len, fun j e hj => ?_⟩
  rw [List.getElem?_set] at hj ⊢
  split at hj
  · rename_i q
    subst q
    have hl := r.len
    split at hj
    · rename_i q2
      cases hj
      exact ⟨v, by rw [if_pos rfl, if_pos (by omega)], h⟩
    · cases hj
  · rename_i q
    rw [if_neg q]
    exact r.get j e hj
def kD (K : PySem.W.Frag) (H : Hp) (Q : VK) : D → Prop := fun d => ∀ v H', Same H H' → Dv K H' v d → Q v H'
def kB (H : Hp) (Q : Bool → Hp → Prop) : Bool → Prop := fun b => ∀ H', Same H H' → Q b H'
def kA (K : PySem.W.Frag) (H : Hp) (Q : List V → Hp → Prop) : List D → Prop := fun ds => ∀ vs H', Same H H' → Dvs K H' vs ds → Q vs H'
theorem kD.on {K : PySem.W.Frag} {H H1 : Hp} {Q : VK} {d : D} (s : Same H H1) (h : kD K H Q d) : kD K H1 Q d := fun v H' s' dv => h v H' (s.trans s') dv
theorem kB.on {H H1 : Hp} {Q : Bool → Hp → Prop} {b : Bool} (s : Same H H1) (h : kB H Q b) : kB H1 Q b := fun H' s' => h H' (s.trans s')
def oE (K : PySem.W.Frag) (t : ED) : TE := fun σ H Q => ∃ δ, RelS K H σ δ ∧ t δ (kD K H Q)
def oT (K : PySem.W.Frag) (t : TD) : TT := fun σ H Q => ∃ δ, RelS K H σ δ ∧ t δ (kB H Q)
def oA (K : PySem.W.Frag) (t : AD) : TA := fun σ H Q => ∃ δ, RelS K H σ δ ∧ t δ (kA K H Q)
abbrev MonoE (t : ED) : Prop := ∀ δ (P P' : D → Prop), (∀ d, P d → P' d) → t δ P → t δ P'
structure PD (X : Cx) (e : Expr) (t : ED) : Prop where
  pe : PE X e (oE X.K t)
  mono : MonoE t
structure PTd (X : Cx) (e : Expr) (t : TD) : Prop where
  pt : PT X e (oT X.K t)
  mono : ∀ δ (P P' : Bool → Prop), (∀ d, P d → P' d) → t δ P → t δ P'
structure PWd (X : Cx) (e : Expr) (t : TD) : Prop where
  pw : PW X e (oT X.K t)
  mono : ∀ δ (P P' : Bool → Prop), (∀ d, P d → P' d) → t δ P → t δ P'
structure PAd (X : Cx) (es : List Expr) (t : AD) : Prop where
  pa : PA X es (oA X.K t)
  mono : ∀ δ (P P' : List D → Prop), (∀ d, P d → P' d) → t δ P → t δ P'
theorem PT.imp {X : Cx} {e : Expr} {t t' : TT} (h : PT X e t) (f : ∀ σ H Q, t' σ H Q → t σ H Q) : PT X e t' := fun pins s σ H Q I q => h pins s σ H Q I (f σ H Q q)
theorem PW.imp {X : Cx} {e : Expr} {t t' : TT} (h : PW X e t) (f : ∀ σ H Q, t' σ H Q → t σ H Q) : PW X e t' := fun wh pins s σ H Q I q => h wh pins s σ H Q I (f σ H Q q)
theorem PA.imp {X : Cx} {es : List Expr} {t t' : TA} (h : PA X es t) (f : ∀ σ H Q, t' σ H Q → t σ H Q) : PA X es t' := fun p pins s σ H Q I q => h p pins s σ H Q I (f σ H Q q)
section
variable {X : Cx} {e a b c : Expr} {es rest : List Expr} {pos : Pos} {ta tb tc : ED}
def vVar (i : Nat) : ED := fun δ Q => ∃ d, δ[i]? = some (some d) ∧ Q d
def vC (d : D) : ED := fun _ Q => Q d
theorem d_pe {i : Nat} (h : PE X e (tVar i)) : PD X e (vVar i) :=
  ⟨h.imp fun σ H Q ⟨δ, r, d, hd, k⟩ => let ⟨v, hv, dv⟩ := r.get i d hd; ⟨v, hv, k v H (Same.refl _) dv⟩, fun δ P P' f ⟨d, hd, k⟩ => ⟨d, hd, f d k⟩⟩
theorem dv (i : Nat) {x : Str} {pos : Pos} (hN : X.N[i]? = some x := by rfl) (hv : Vis X.env.scope x := by first | exact Or.inl rfl | exact Or.inr (Or.inl rfl) | exact Or.inr (Or.inr rfl)) (hd : (x == ("__debug__" : Str)) = false := by decide)
    (hcd : (x == ("__classdict__" : Str)) = false := by decide) : PD X (.Name x pos) (vVar i) := d_pe (pv i hN hv hd hcd)
theorem d_c {v : V} {d : D} (h : PE X e (tC v)) (hv : ∀ H, Dv X.K H v d) : PD X e (vC d) :=
  ⟨h.imp fun σ H Q ⟨δ, r, k⟩ => k v H (Same.refl _) (hv H), fun δ P P' f k => f d k⟩
theorem d_int {i j pos} : PD X (.Constant (.int i) j pos) (vC (.int i)) := d_c pe_int fun _ => .int i
theorem d_bl {i j pos} : PD X (.Constant (.bool i) j pos) (vC (.bl i)) := d_c pe_bl fun _ => .bl i
theorem d_str {i j pos} : PD X (.Constant (.str i) j pos) (vC (.str i)) := d_c pe_str fun _ => .str i
theorem d_non {j pos} : PD X (.Constant .none j pos) (vC .non) := d_c pe_non fun _ => .non
theorem d_glob {x : Str} {v : V} {u : Value} {d : D} {pos : Pos} (hg : Gl X x) (hm : X.mg x = some u) (r : RelV v u) (hv : ∀ H, Dv X.K H v d) (hd : (x == ("__debug__" : Str)) = false := by decide) : PD X (.Name x pos) (vC d) := d_c (pe_glob hg hm r hd) hv
abbrev F2 := D → D → (D → Prop) → Prop
abbrev MonoF (f : F2) : Prop := ∀ d e (P P' : D → Prop), (∀ r, P r → P' r) → f d e P → f d e P'
def vOp (f : F2) (ta tb : ED) : ED := fun δ Q => ta δ fun d => tb δ fun e => f d e Q
def Does (K : PySem.W.Frag) (r : R2) (f : F2) : Prop := ∀ H x y d e Q, Dv K H x d → Dv K H y e → f d e (kD K H Q) → r x y H Q
theorem d_bin {t : TE} {r : R2} {f : F2} (hp : PE X e (tOp r (oE X.K ta) (oE X.K tb))) (ma : MonoE ta) (mb : MonoE tb) (hd : Does X.K r f) (hf : MonoF f) : PD X e (vOp f ta tb) := by
  refine ⟨hp.imp fun σ H Q ⟨δ, r, h⟩ => ⟨δ, r, ma _ _ _ (fun d hd' v H1 s1 dv => ⟨δ, r.same s1, mb _ _ _ (fun e he w H2 s2 ew => hd H2 v w d e Q (dv.same s2) ew (hf d e _ _ (fun z hz => hz.on (s1.trans s2)) he)) hd'⟩) h⟩, ?_⟩
  exact fun δ P P' g h => ma _ _ _ (fun d h' => mb _ _ _ (fun e h'' => hf d e _ _ g h'') h') h
theorem d_op {op : Operator} {r : R2} {f : F2} (ho : OpR X (binaryOp op) r) (hd : Does X.K r f) (hf : MonoF f) (ha : PD X a ta) (hb : PD X b tb) : PD X (.BinOp a op b pos) (vOp f ta tb) :=
  d_bin (t := oE X.K ta) (pe_op ho ha.pe hb.pe) ha.mono hb.mono hd hf
theorem d_cmp {op : CmpOp} {r : R2} {f : F2} (ho : OpR X (compareOp op) r) (hd : Does X.K r f) (hf : MonoF f) (ha : PD X a ta) (hb : PD X b tb) (hm : behindInMarks op b = false) : PD X (.Compare a [op] [b] pos) (vOp f ta tb) :=
  d_bin (t := oE X.K ta) (pe_cmpR ho ha.pe hb.pe hm) ha.mono hb.mono hd hf
end
end DC

set_option maxHeartbeats 4000000
namespace DC
open PySem PySem.Spec PyProof.Rows L2
section
variable {X : Cx}
theorem op_catL : OpR X (binaryOp .Add) (fun x y H Q => ∃ a b xs ys, x = .ref a ∧ y = .ref b ∧ SqL X.K H a xs ∧ SqL X.K H b ys ∧ xs.length + ys.length ≤ sizeLine ∧ ∀ p, H p = none → Q (.ref p) (upd H p (.lst (xs ++ ys)))) := by
  intro pins s σ H x y v u Q I rx ry h
  obtain ⟨a, b, xs, ys, rfl, rfl, ha, hb, hz, q⟩ := h
  cases (show v = Value.ref a from rx)
  cases (show u = Value.ref b from ry)
  obtain ⟨its, r1, p1, _⟩ := I.list ha
  obtain ⟨its2, r2, p2, _⟩ := I.list hb
  have hl1 := r1.length
  have hl2 := r2.length
  obtain ⟨⟨cls, dd, data, sl⟩, ho, hc, n, hd⟩ := id p1.isList
  obtain ⟨⟨cls2, dd2, data2, sl2⟩, ho2, hc2, n2, hd2⟩ := id p2.isList
  simp only at hc hd hc2 hd2
  subst hc hd hc2 hd2
  have e : its.toArray ++ its2.toArray = (its ++ its2).toArray := by simp
  refine concat_meets ⟨_, ho, rfl⟩ ⟨_, ho2, rfl⟩ noFill_list_add seq_list_add PySem.F.slot_list_add PySem.F.entry_list_add (PySem.F.args_list_add_2 _ _)
    (list_addW a b its.toArray its2.toArray n n2 dd dd2 sl sl2 (by rw [List.size_toArray, List.size_toArray]; omega)) ⟨ho, ho2, ?_⟩
  rw [e]
  exact ⟨.ref _, _, I.lnew (t' := s.toks) (r1.append r2) (by rw [List.length_append]; omega), rfl, q _ I.fresh⟩
theorem op_catN : OpR X (binaryOp .Add) (fun x y H Q => ∃ a b ys, x = .ref a ∧ y = .ref b ∧ SqT X.K H a [] ∧ SqT X.K H b ys ∧ Q (.ref b) H) := by
  intro pins s σ H x y v u Q I rx ry h
  obtain ⟨a, b, ys, rfl, rfl, ha, hb, q⟩ := h
  cases (show v = Value.ref a from rx)
  cases (show u = Value.ref b from ry)
  obtain ⟨its, r1, p1, _⟩ := I.tuple ha
  obtain ⟨its2, r2, p2, _⟩ := I.tuple hb
  have e1 : its = [] := r1.zero
  subst e1
  obtain ⟨⟨cls, dd, data, sl⟩, ho, hc, n, hd⟩ := id p1
  obtain ⟨⟨cls2, dd2, data2, sl2⟩, ho2, hc2, n2, hd2⟩ := id p2
  simp only at hc hd hc2 hd2
  subst hc hd hc2 hd2
  exact concat_meets ⟨_, ho, rfl⟩ ⟨_, ho2, rfl⟩ noFill_tuple_add seq_tuple_add PySem.F.slot_tuple_add PySem.F.entry_tuple_add (PySem.F.args_tuple_add_2 _ _)
    (tuple_addW0 a b #[] its2.toArray n n2 dd dd2 sl sl2 rfl) ⟨ho, ho2, ⟨.ref b, H, I, rfl, q⟩⟩
end
section
variable {K : PySem.W.Frag}
def fAdd : F2 := fun d e Q => match d, e with
  | .int i, .int j => Q (.int (i + j))
  | .str x, .str y => x.length + y.length ≤ sizeLine ∧ Q (.str (x ++ y))
  | .lst xs, .lst ys => xs.length + ys.length ≤ sizeLine ∧ Q (.lst (xs ++ ys))
  | .tup xs, .tup ys => xs.length + ys.length ≤ sizeLine ∧ Q (.tup (xs ++ ys))
  | _, _ => False
theorem m_add : MonoF fAdd := by
  intro d e P P' g h
  unfold fAdd at h ⊢
  split at h
  · exact g _ h
  · exact ⟨h.1, g _ h.2⟩
  · exact ⟨h.1, g _ h.2⟩
  · exact ⟨h.1, g _ h.2⟩
  · exact h.elim
def rAddU (K : PySem.W.Frag) : R2 := fun x y H Q => (∃ i j, x = .int i ∧ y = .int j ∧ Q (.int (i + j)) H) ∨ (∃ i j, x = .str i ∧ y = .str j ∧ i.length + j.length ≤ sizeLine ∧ Q (.str (i ++ j)) H) ∨
  (∃ a b xs ys, x = .ref a ∧ y = .ref b ∧ SqL K H a xs ∧ SqL K H b ys ∧ xs.length + ys.length ≤ sizeLine ∧ ∀ p, H p = none → Q (.ref p) (upd H p (.lst (xs ++ ys)))) ∨
  rCatT K x y H Q ∨ (∃ a b ys, x = .ref a ∧ y = .ref b ∧ SqT K H a [] ∧ SqT K H b ys ∧ Q (.ref b) H)
theorem op_addU {X : Cx} : OpR X (binaryOp .Add) (rAddU X.K) := op_add.or (op_add_str.or (op_catL.or (op_catT.or op_catN)))
theorem does_add : Does K (rAddU K) fAdd := by
  intro H x y d e Q hx hy h
  cases hx with
  | int i => cases hy with
    | int j => exact .inl ⟨i, j, rfl, rfl, h _ H (Same.refl _) (.int _)⟩
    | _ => exact h.elim
  | str i => cases hy with
    | str j => exact .inr (.inl ⟨i, j, rfl, rfl, h.1, h.2 _ H (Same.refl _) (.str _)⟩)
    | _ => exact h.elim
  | lst h1 h2 => cases hy with
    | lst g1 g2 =>
      refine .inr (.inr (.inl ⟨_, _, _, _, rfl, rfl, h1, g1, ?_, fun p hp => ?_⟩))
      · rw [h2.length, g2.length]; exact h.1
      · exact h.2 _ _ (same_upd hp) (.lst (SqL.of upd_same) ((h2.append g2).same (same_upd hp)))
    | _ => exact h.elim
  | tup h1 h2 => cases hy with
    | tup g1 g2 =>
      have z := h.1
      rw [← h2.length, ← g2.length] at z
      cases h2 with
      | nil => exact .inr (.inr (.inr (.inr ⟨_, _, _, rfl, rfl, h1, g1, h.2 _ H (Same.refl _) (.tup g1 g2)⟩)))
      | cons a r =>
        refine .inr (.inr (.inr (.inl ⟨_, _, _, _, rfl, rfl, h1, g1, (fun q => nomatch q), z, fun e => ?_, fun e p hp => ?_⟩)))
        · subst e
          cases g2
          have q := h.2
          rw [List.append_nil] at q
          exact q _ H (Same.refl _) (.tup h1 (.cons a r))
        · exact h.2 _ _ (same_upd hp) (.tup (SqT.of upd_same) (((Dvs.cons a r).append g2).same (same_upd hp)))
    | _ => exact h.elim
  | _ => exact h.elim
def fI (C : Int → Int → Prop) (g : Int → Int → D) : F2 := fun d e Q => match d, e with
  | .int i, .int j => C i j ∧ Q (g i j)
  | _, _ => False
theorem m_I {C : Int → Int → Prop} {g : Int → Int → D} : MonoF (fI C g) := by
  intro d e P P' f h
  unfold fI at h ⊢
  split at h
  · exact ⟨h.1, f _ h.2⟩
  · exact h.elim
theorem does_I {C : Int → Int → Prop} {g : Int → Int → V} {g' : Int → Int → D} (hg : ∀ H i j, Dv K H (g i j) (g' i j)) : Does K (rI C g) (fI C g') := by
  intro H x y d e Q hx hy h
  cases hx with
  | int i => cases hy with
    | int j => exact ⟨i, j, rfl, rfl, h.1, h.2 _ H (Same.refl _) (hg H i j)⟩
    | _ => exact h.elim
  | _ => exact h.elim
def fI0 (g : Int → Int → D) : F2 := fun d e Q => match d, e with
  | .int i, .int j => Q (g i j)
  | _, _ => False
theorem m_I0 {g : Int → Int → D} : MonoF (fI0 g) := by
  intro d e P P' f h
  unfold fI0 at h ⊢
  split at h
  · exact f _ h
  · exact h.elim
theorem does_I0 {g : Int → Int → V} {g' : Int → Int → D} (hg : ∀ H i j, Dv K H (g i j) (g' i j)) : Does K (rI0 g) (fI0 g') := by
  intro H x y d e Q hx hy h
  cases hx with
  | int i => cases hy with
    | int j => exact ⟨i, j, rfl, rfl, h _ H (Same.refl _) (hg H i j)⟩
    | _ => exact h.elim
  | _ => exact h.elim
end
section
variable {X : Cx} {a b c : Expr} {es rest : List Expr} {pos : Pos} {ta tb tc : ED}
def vAdd : ED → ED → ED := vOp fAdd
def vSub : ED → ED → ED := vOp (fI0 fun i j => .int (i - j))
def vMul : ED → ED → ED := vOp (fI IntMulOk fun i j => .int (i * j))
def vMod : ED → ED → ED := vOp (fI (fun _ j => 0 < j) fun i j => .int (i % j))
def vDiv : ED → ED → ED := vOp (fI CDiv fun i j => .int (i / j))
theorem d_add (ha : PD X a ta) (hb : PD X b tb) : PD X (.BinOp a .Add b pos) (vAdd ta tb) := d_op op_addU does_add m_add ha hb
theorem d_sub (ha : PD X a ta) (hb : PD X b tb) : PD X (.BinOp a .Sub b pos) (vSub ta tb) := d_op op_sub (does_I0 fun _ _ _ => .int _) m_I0 ha hb
theorem d_mul (ha : PD X a ta) (hb : PD X b tb) : PD X (.BinOp a .Mult b pos) (vMul ta tb) := d_op op_mulB (does_I fun _ _ _ => .int _) m_I ha hb
theorem d_mod (ha : PD X a ta) (hb : PD X b tb) : PD X (.BinOp a .Mod b pos) (vMod ta tb) := d_op op_mod (does_I fun _ _ _ => .int _) m_I ha hb
theorem d_div (ha : PD X a ta) (hb : PD X b tb) : PD X (.BinOp a .FloorDiv b pos) (vDiv ta tb) := d_op op_fdiv (does_I fun _ _ _ => .int _) m_I ha hb
def vNeg (ta : ED) : ED := fun δ Q => ta δ fun d => ∃ i, d = .int i ∧ Q (.int (-i))
theorem d_neg (ha : PD X a ta) : PD X (.UnaryOp .USub a pos) (vNeg ta) :=
  ⟨(pe_un un_neg ha.pe).imp fun σ H Q ⟨δ, r, h⟩ => ⟨δ, r, ha.mono _ _ _ (fun d ⟨i, e, k⟩ v H1 s1 dv => by subst e; cases dv; exact ⟨i, rfl, k _ H1 s1 (.int _)⟩) h⟩,
   fun δ P P' g h => ha.mono _ _ _ (fun d ⟨i, e, k⟩ => ⟨i, e, g _ k⟩) h⟩
def vLt : ED → ED → ED := vOp (fI0 fun i j => .bl (decide (i < j)))
def vLe : ED → ED → ED := vOp (fI0 fun i j => .bl (decide (i ≤ j)))
def vGt : ED → ED → ED := vOp (fI0 fun i j => .bl (decide (j < i)))
theorem d_lt (ha : PD X a ta) (hb : PD X b tb) : PD X (.Compare a [.Lt] [b] pos) (vLt ta tb) := d_cmp op_lt (does_I0 fun _ _ _ => .bl _) m_I0 ha hb (nomark _)
theorem d_le (ha : PD X a ta) (hb : PD X b tb) : PD X (.Compare a [.LtE] [b] pos) (vLe ta tb) := d_cmp op_le (does_I0 fun _ _ _ => .bl _) m_I0 ha hb (nomark _)
theorem d_gt (ha : PD X a ta) (hb : PD X b tb) : PD X (.Compare a [.Gt] [b] pos) (vGt ta tb) := d_cmp op_gt (does_I0 fun _ _ _ => .bl _) m_I0 ha hb (nomark _)
end
end DC

set_option maxHeartbeats 4000000
namespace DC
open PySem PySem.Spec PyProof.Rows L2
mutual
def toP : D → PyData
  | .non => .none
  | .bl b => .bool b
  | .int i => .int i
  | .str x => .str x
  | .lst xs => .list (toPs xs)
  | .tup xs => .tuple (toPs xs)
  | .obj _ _ => .none
  | .dK _ => .none
  | .dT _ => .none
  | .adr _ => .none
  | .exc _ _ _ => .none
def toPs : List D → List PyData
  | [] => []
  | d :: ds => toP d :: toPs ds
end
mutual
def plain : D → Bool
  | .lst xs => plains xs
  | .tup xs => plains xs
  | .obj _ _ => false
  | .dK _ => false
  | .dT _ => false
  | .adr _ => false
  | .exc _ _ _ => false
  | _ => true
def plains : List D → Bool
  | [] => true
  | d :: ds => plain d && plains ds
end
section
variable {K : PySem.W.Frag} {H : Hp}
mutual
theorem Dv.dat : ∀ {v : V} {d : D}, plain d = true → Dv K H v d → DatV K H v (toP d)
  | _, _, _, .non => by rw [toP]; exact .non
  | _, _, _, .bl b => by rw [toP]; exact .bl b
  | _, _, _, .int i => by rw [toP]; exact .int i
  | _, _, _, .str x => by rw [toP]; exact .str x
  | _, _, p, .lst h1 h2 => by rw [toP]; rw [plain] at p; exact .lst h1 (Dvs.dat p h2)
  | _, _, p, .tup h1 h2 => by rw [toP]; rw [plain] at p; exact .tup h1 (Dvs.dat p h2)
  | _, _, p, .obj _ _ => by rw [plain] at p; cases p
  | _, _, p, .dK _ _ => by rw [plain] at p; cases p
  | _, _, p, .dT _ _ => by rw [plain] at p; cases p
  | _, _, p, .adr _ => by rw [plain] at p; cases p
  | _, _, p, .exc _ _ _ => by rw [plain] at p; cases p
theorem Dvs.dat : ∀ {vs : List V} {ds : List D}, plains ds = true → Dvs K H vs ds → DatVs K H vs (toPs ds)
  | _, _, _, .nil => by rw [toPs]; exact .nil
  | _, _, p, .cons h1 h2 => by
    rw [toPs]
    rw [plains, Bool.and_eq_true] at p
    exact .cons (Dv.dat p.1 h1) (Dvs.dat p.2 h2)
end
end
def eqScal : D → D → Option Bool
  | .non, .non => some true
  | .bl a, .bl b => some (decide (a = b))
  | .int i, .int j => some (decide (i = j))
  | .str x, .str y => some (decide (x = y))
  | .non, .bl _ => some false
  | .non, .int _ => some false
  | .non, .str _ => some false
  | .bl _, .non => some false
  | .bl _, .str _ => some false
  | .int _, .non => some false
  | .int _, .str _ => some false
  | .str _, .non => some false
  | .str _, .bl _ => some false
  | .str _, .int _ => some false
  | _, _ => none
def fEq (neg : Bool) : F2 := fun d e Q => match eqScal d e with
  | some b => Q (.bl (if neg then !b else b))
  | none => plain d = true ∧ plain e = true ∧ SeqAt.shaped (toP d) = true ∧ SeqAt.shaped (toP e) = true ∧ Q (.bl (if neg then !PyData.eqv (toP d) (toP e) else PyData.eqv (toP d) (toP e)))
theorem m_eq {neg : Bool} : MonoF (fEq neg) := by
  intro d e P P' f h
  unfold fEq at h ⊢
  split at h
  · exact f _ h
  · exact ⟨h.1, h.2.1, h.2.2.1, h.2.2.2.1, f _ h.2.2.2.2⟩
theorem does_eq {K : PySem.W.Frag} : Does K (fun x y H Q => rEq x y H Q ∨ rEqD K false x y H Q) (fEq false) := by
  intro H x y d e Q hx hy h
  unfold fEq at h
  split at h
  · rename_i b hb
    left
    have q := h _ H (Same.refl _) (.bl _)
    cases hx <;> cases hy <;> simp only [eqScal, Option.some.injEq, reduceCtorEq] at hb <;> subst hb <;> refine ⟨rfl, ?_⟩ <;> simpa using q
  · obtain ⟨p1, p2, s1, s2, q⟩ := h
    exact .inr ⟨_, _, hx.dat p1, hy.dat p2, s1, s2, q _ H (Same.refl _) (.bl _)⟩
theorem does_ne {K : PySem.W.Frag} : Does K (fun x y H Q => rNe x y H Q ∨ rEqD K true x y H Q) (fEq true) := by
  intro H x y d e Q hx hy h
  unfold fEq at h
  split at h
  · rename_i b hb
    left
    have q := h _ H (Same.refl _) (.bl _)
    cases hx <;> cases hy <;> simp only [eqScal, Option.some.injEq, reduceCtorEq] at hb <;> subst hb <;> refine ⟨rfl, ?_⟩ <;> simpa using q
  · obtain ⟨p1, p2, s1, s2, q⟩ := h
    exact .inr ⟨_, _, hx.dat p1, hy.dat p2, s1, s2, q _ H (Same.refl _) (.bl _)⟩
def fIs (neg : Bool) : F2 := fun d e Q => match e with
  | .non => Q (.bl (match d with | .non => !neg | _ => neg))
  | .bl b => ∃ a, d = .bl a ∧ Q (.bl (if neg then a != b else a == b))
  | _ => False
theorem m_is {neg : Bool} : MonoF (fIs neg) := by
  intro d e P P' f h
  unfold fIs at h ⊢
  split at h
  · exact f _ h
  · obtain ⟨a, ha, q⟩ := h; exact ⟨a, ha, f _ q⟩
  · exact h.elim
theorem does_is {K : PySem.W.Frag} : Does K (fun x y H Q => (y = .non ∧ Q (.bl (decide (x = .non))) H) ∨ ∃ a b, x = .bl a ∧ y = .bl b ∧ Q (.bl (a == b)) H) (fIs false) := by
  intro H x y d e Q hx hy h
  cases hy with
  | non =>
    refine .inl ⟨rfl, ?_⟩
    have q := h _ H (Same.refl _) (.bl _)
    cases hx <;> exact q
  | bl b =>
    obtain ⟨a, rfl, q⟩ := h
    cases hx
    exact .inr ⟨a, b, rfl, rfl, q _ H (Same.refl _) (.bl _)⟩
  | _ => exact h.elim
theorem does_isnot {K : PySem.W.Frag} : Does K (fun x y H Q => (y = .non ∧ Q (.bl (!decide (x = .non))) H) ∨ ∃ a b, x = .bl a ∧ y = .bl b ∧ Q (.bl (a != b)) H) (fIs true) := by
  intro H x y d e Q hx hy h
  cases hy with
  | non =>
    refine .inl ⟨rfl, ?_⟩
    have q := h _ H (Same.refl _) (.bl _)
    cases hx <;> exact q
  | bl b =>
    obtain ⟨a, rfl, q⟩ := h
    cases hx
    exact .inr ⟨a, b, rfl, rfl, q _ H (Same.refl _) (.bl _)⟩
  | _ => exact h.elim
def flatD : D → Bool
  | .non => true
  | .bl _ => true
  | .int _ => true
  | .str _ => true
  | _ => false
def eqFlat : D → D → Bool
  | .non, .non => true
  | .bl a, .bl b => a == b
  | .bl a, .int j => (if a then 1 else 0) == j
  | .int i, .bl b => i == (if b then 1 else 0)
  | .int i, .int j => i == j
  | .str x, .str y => x == y
  | _, _ => false
def inD (x : D) (xs : List D) : Bool := xs.any fun y => eqFlat y x
def subStr (x y : Str) : Bool := !(Builtin.Str.occurrences y x 0 y.length 1).isEmpty
def fIn (neg : Bool) : F2 := fun d e Q => match e with
  | .lst xs => flatD d = true ∧ xs.all flatD = true ∧ Q (.bl (if neg then !inD d xs else inD d xs))
  | .tup xs => flatD d = true ∧ xs.all flatD = true ∧ Q (.bl (if neg then !inD d xs else inD d xs))
  | .str y => ∃ x, d = .str x ∧ Q (.bl (if neg then !subStr x y else subStr x y))
  | _ => False
theorem m_in {neg : Bool} : MonoF (fIn neg) := by
  intro d e P P' f h
  unfold fIn at h ⊢
  split at h
  · exact ⟨h.1, h.2.1, f _ h.2.2⟩
  · exact ⟨h.1, h.2.1, f _ h.2.2⟩
  · obtain ⟨a, ha, q⟩ := h; exact ⟨a, ha, f _ q⟩
  · exact h.elim
section
variable {K : PySem.W.Frag} {H : Hp}
theorem Dv.flat {v : V} {d : D} (h : Dv K H v d) (f : flatD d = true) : flatV v = true := by
  cases h <;> first | rfl | cases f
theorem Dv.eqFlat {v w : V} {d e : D} (h : Dv K H v d) (g : Dv K H w e) (f : flatD d = true) (f' : flatD e = true) : eqV v w = DC.eqFlat d e := by
  cases h <;> cases g <;> first | rfl | cases f | cases f'
theorem Dvs.flat : ∀ {vs : List V} {ds : List D}, Dvs K H vs ds → ds.all flatD = true → vs.all flatV = true
  | _, _, .nil, _ => rfl
  | _, _, .cons h r, f => by
    rw [List.all_cons, Bool.and_eq_true] at f ⊢
    exact ⟨h.flat f.1, Dvs.flat r f.2⟩
theorem Dvs.inV {w : V} {e : D} (g : Dv K H w e) (f' : flatD e = true) : ∀ {vs : List V} {ds : List D}, Dvs K H vs ds → ds.all flatD = true → L2.inV w vs = inD e ds
  | _, _, .nil, _ => rfl
  | _, _, .cons h r, f => by
    rw [List.all_cons, Bool.and_eq_true] at f
    have q := Dvs.inV g f' r f.2
    unfold L2.inV inD at q ⊢
    rw [List.any_cons, List.any_cons, q, h.eqFlat g f.1 f']
end
theorem does_in {K : PySem.W.Frag} : Does K (fun x y H Q => rIn K false x y H Q ∨ ∃ i j, x = .str i ∧ y = .str j ∧ Q (.bl (!(Builtin.Str.occurrences j i 0 j.length 1).isEmpty)) H) (fIn false) := by
  intro H x y d e Q hx hy h
  cases hy with
  | lst g1 g2 => exact .inl ⟨_, _, rfl, .inl g1, hx.flat h.1, g2.flat h.2.1, by rw [Dvs.inV hx h.1 g2 h.2.1]; exact h.2.2 _ H (Same.refl _) (.bl _)⟩
  | tup g1 g2 => exact .inl ⟨_, _, rfl, .inr g1, hx.flat h.1, g2.flat h.2.1, by rw [Dvs.inV hx h.1 g2 h.2.1]; exact h.2.2 _ H (Same.refl _) (.bl _)⟩
  | str j =>
    obtain ⟨i, rfl, q⟩ := h
    cases hx
    exact .inr ⟨i, j, rfl, rfl, q _ H (Same.refl _) (.bl _)⟩
  | _ => exact h.elim
theorem does_notIn {K : PySem.W.Frag} : Does K (fun x y H Q => rIn K true x y H Q ∨ ∃ i j, x = .str i ∧ y = .str j ∧ Q (.bl (!(!(Builtin.Str.occurrences j i 0 j.length 1).isEmpty))) H) (fIn true) := by
  intro H x y d e Q hx hy h
  cases hy with
  | lst g1 g2 => exact .inl ⟨_, _, rfl, .inl g1, hx.flat h.1, g2.flat h.2.1, by rw [Dvs.inV hx h.1 g2 h.2.1]; exact h.2.2 _ H (Same.refl _) (.bl _)⟩
  | tup g1 g2 => exact .inl ⟨_, _, rfl, .inr g1, hx.flat h.1, g2.flat h.2.1, by rw [Dvs.inV hx h.1 g2 h.2.1]; exact h.2.2 _ H (Same.refl _) (.bl _)⟩
  | str j =>
    obtain ⟨i, rfl, q⟩ := h
    cases hx
    exact .inr ⟨i, j, rfl, rfl, q _ H (Same.refl _) (.bl _)⟩
  | _ => exact h.elim
section
variable {X : Cx} {a b c : Expr} {es rest : List Expr} {pos : Pos} {ta tb tc : ED}
def vEq : ED → ED → ED := vOp (fEq false)
def vNe : ED → ED → ED := vOp (fEq true)
def vIs : ED → ED → ED := vOp (fIs false)
def vIsNot : ED → ED → ED := vOp (fIs true)
def vIn : ED → ED → ED := vOp (fIn false)
def vNotIn : ED → ED → ED := vOp (fIn true)
theorem d_eq (hu : X.A.units + 64 < cLine) (ha : PD X a ta) (hb : PD X b tb) : PD X (.Compare a [.Eq] [b] pos) (vEq ta tb) := d_cmp (op_eq.or (op_eqD hu)) does_eq m_eq ha hb (nomark _)
theorem d_ne (hu : X.A.units + 64 < cLine) (ha : PD X a ta) (hb : PD X b tb) : PD X (.Compare a [.NotEq] [b] pos) (vNe ta tb) := d_cmp (op_ne.or (op_neD hu)) does_ne m_eq ha hb (nomark _)
theorem d_is (ha : PD X a ta) (hb : PD X b tb) : PD X (.Compare a [.Is] [b] pos) (vIs ta tb) := d_cmp (op_isN.or op_is_bl) does_is m_is ha hb (nomark _)
theorem d_in (ha : PD X a ta) (hb : PD X b tb) (hm : behindInMarks .In b = false) : PD X (.Compare a [.In] [b] pos) (vIn ta tb) := d_cmp (op_in_seq.or op_in_str) does_in m_in ha hb hm
theorem d_notin (ha : PD X a ta) (hb : PD X b tb) (hm : behindInMarks .NotIn b = false) : PD X (.Compare a [.NotIn] [b] pos) (vNotIn ta tb) := d_cmp (op_notIn_seq.or op_notin_str) does_notIn m_in ha hb hm
end
end DC

set_option maxHeartbeats 4000000
namespace DC
open PySem PySem.Spec PyProof.Rows L2
abbrev MonoT (t : TD) : Prop := ∀ δ (P P' : Bool → Prop), (∀ d, P d → P' d) → t δ P → t δ P'
abbrev MonoA (t : AD) : Prop := ∀ δ (P P' : List D → Prop), (∀ d, P d → P' d) → t δ P → t δ P'
def vTest (t : ED) : TD := fun δ Q => t δ fun d => ∃ b, d = .bl b ∧ Q b
theorem m_test {t : ED} (m : MonoE t) : MonoT (vTest t) := fun δ P P' g h => m _ _ _ (fun d ⟨b, e, q⟩ => ⟨b, e, g b q⟩) h
theorem test_of {K : PySem.W.Frag} {t : ED} (m : MonoE t) {δ : SD} {H : Hp} {Q : Bool → Hp → Prop} (h : vTest t δ (kB H Q)) : t δ (kD K H fun x H' => ∃ k, x = .bl k ∧ Q k H') :=
  m _ _ _ (fun d ⟨b, e, q⟩ v H' s dv => by subst e; cases dv; exact ⟨b, rfl, q H' s⟩) h
section
variable {X : Cx} {a b c e : Expr} {es rest : List Expr} {pos : Pos} {ta tb tc : ED} {ua ub : TD}
theorem PTd.of {t : TE} {v : ED} (h : PT X e (tTest t)) (p : ∀ σ H Q, oE X.K v σ H Q → t σ H Q) (m : MonoE v) : PTd X e (vTest v) :=
  ⟨PT.imp h fun σ H Q ⟨δ, r, q⟩ => p σ H _ ⟨δ, r, test_of m q⟩, m_test m⟩
theorem bin_of {r : R2} {f : F2} (ma : MonoE ta) (mb : MonoE tb) (hd : Does X.K r f) (hf : MonoF f) : (∀ σ H Q, oE X.K (vOp f ta tb) σ H Q → tOp r (oE X.K ta) (oE X.K tb) σ H Q) ∧ MonoE (vOp f ta tb) := by
  refine ⟨fun σ H Q ⟨δ, r, h⟩ => ⟨δ, r, ma _ _ _ (fun d hd' v H1 s1 dv => ⟨δ, r.same s1, mb _ _ _ (fun e he w H2 s2 ew => hd H2 v w d e Q (dv.same s2) ew (hf d e _ _ (fun z hz => hz.on (s1.trans s2)) he)) hd'⟩) h⟩, ?_⟩
  exact fun δ P P' g h => ma _ _ _ (fun d h' => mb _ _ _ (fun e h'' => hf d e _ _ g h'') h') h
theorem t_cmp {op : CmpOp} {r : R2} {f : F2} (ho : OpR X (compareOp op) r) (hd : Does X.K r f) (hf : MonoF f) (ha : PD X a ta) (hb : PD X b tb) (hm : behindInMarks op b = false) : PTd X (.Compare a [op] [b] pos) (vTest (vOp f ta tb)) :=
  let q := bin_of ha.mono hb.mono hd hf
  PTd.of (pt_cmpR ho ha.pe hb.pe hm) q.1 q.2
theorem t_lt (ha : PD X a ta) (hb : PD X b tb) : PTd X (.Compare a [.Lt] [b] pos) (vTest (vLt ta tb)) := t_cmp op_lt (does_I0 fun _ _ _ => .bl _) m_I0 ha hb (nomark _)
theorem t_gt (ha : PD X a ta) (hb : PD X b tb) : PTd X (.Compare a [.Gt] [b] pos) (vTest (vGt ta tb)) := t_cmp op_gt (does_I0 fun _ _ _ => .bl _) m_I0 ha hb (nomark _)
theorem t_eq (hu : X.A.units + 64 < cLine) (ha : PD X a ta) (hb : PD X b tb) : PTd X (.Compare a [.Eq] [b] pos) (vTest (vEq ta tb)) := t_cmp (op_eq.or (op_eqD hu)) does_eq m_eq ha hb (nomark _)
theorem t_ne (hu : X.A.units + 64 < cLine) (ha : PD X a ta) (hb : PD X b tb) : PTd X (.Compare a [.NotEq] [b] pos) (vTest (vNe ta tb)) := t_cmp (op_ne.or (op_neD hu)) does_ne m_eq ha hb (nomark _)
theorem t_isnot (ha : PD X a ta) (hb : PD X b tb) : PTd X (.Compare a [.IsNot] [b] pos) (vTest (vIsNot ta tb)) := t_cmp (op_notN.or op_isnot_bl) does_isnot m_is ha hb (nomark _)
theorem t_in (ha : PD X a ta) (hb : PD X b tb) (hm : behindInMarks .In b = false) : PTd X (.Compare a [.In] [b] pos) (vTest (vIn ta tb)) := t_cmp (op_in_seq.or op_in_str) does_in m_in ha hb hm
theorem t_notin (ha : PD X a ta) (hb : PD X b tb) (hm : behindInMarks .NotIn b = false) : PTd X (.Compare a [.NotIn] [b] pos) (vTest (vNotIn ta tb)) := t_cmp (op_notIn_seq.or op_notin_str) does_notIn m_in ha hb hm
def truD : D → Option Bool
  | .non => some false
  | .bl b => some b
  | .int i => some (i != 0)
  | .str y => if y.length ≤ sizeLine then some ((y.length : Int) != 0) else none
  | .lst xs => some (!xs.isEmpty)
  | .tup xs => some (!xs.isEmpty)
  | _ => none
def vTru (t : ED) : TD := fun δ Q => t δ fun d => ∃ b, truD d = some b ∧ Q b
theorem Dvs.isEmpty {K : PySem.W.Frag} {H : Hp} {vs : List V} {ds : List D} (h : Dvs K H vs ds) : vs.isEmpty = ds.isEmpty := by cases h <;> rfl
theorem Dv.tru {K : PySem.W.Frag} {H : Hp} {v : V} {d : D} {b : Bool} (h : Dv K H v d) (e : truD d = some b) : TruV K v H b := by
  cases h with
  | non => cases e; rfl
  | bl x => cases e; rfl
  | int i => cases e; rfl
  | str x =>
    have e' : (if x.length ≤ sizeLine then some ((x.length : Int) != 0) else none) = some b := e
    by_cases hz : x.length ≤ sizeLine
    · rw [if_pos hz] at e'
      exact ⟨hz, (Option.some.inj e').symm⟩
    · rw [if_neg hz] at e'
      cases e'
  | lst h1 h2 => cases e; exact .inl ⟨_, h1, by rw [h2.isEmpty]⟩
  | tup h1 h2 => cases e; exact .inr (.inl ⟨_, h1, by rw [h2.isEmpty]⟩)
  | dK _ _ => cases e
  | exc _ _ _ => cases e
  | obj _ _ => cases e
  | dT _ _ => cases e
  | adr _ => cases e
theorem t_tru (ha : PD X a ta) (he : ∀ whole, isTrue a X.env whole = (do let v ← whole; standAt a.pos; holding [v] (truthy v)) := by intro _; rfl) : PTd X a (vTru ta) :=
  ⟨PT.imp (pt_truth ha.pe he) fun σ H Q ⟨δ, r, h⟩ => ⟨δ, r, ha.mono _ _ _ (fun d ⟨b, e, q⟩ v H1 s1 dv => ⟨b, dv.tru e, q H1 s1⟩) h⟩, fun δ P P' g h => ha.mono _ _ _ (fun d ⟨b, e, q⟩ => ⟨b, e, g b q⟩) h⟩
def uNot (t : TD) : TD := fun δ Q => t δ fun b => Q (!b)
def uOr (t u : TD) : TD := fun δ Q => t δ fun b => if b = true then Q true else u δ Q
theorem t_not (ha : PTd X a ua) : PTd X (.UnaryOp .Not a pos) (uNot ua) :=
  ⟨PT.imp (pt_not ha.pt) fun σ H Q ⟨δ, r, h⟩ => ⟨δ, r, ha.mono _ _ _ (fun b q H' s => q H' s) h⟩, fun δ P P' g h => ha.mono _ _ _ (fun b q => g _ q) h⟩
theorem m_or (ma : MonoT ua) (mb : MonoT ub) : MonoT (uOr ua ub) := fun δ P P' g h => ma _ _ _ (fun b q => by
  cases b with
  | true => rw [if_pos rfl] at q ⊢; exact g _ q
  | false => rw [if_neg Bool.false_ne_true] at q ⊢; exact mb _ _ _ g q) h
theorem PWd.td (h : PWd X e ua) : PTd X e ua := ⟨h.pw.pt, h.mono⟩
theorem w_or1 (ha : PTd X a ua) : PWd X (.BoolOp .Or [a] pos) ua := ⟨pw_or1 ha.pt, ha.mono⟩
theorem w_or (ha : PTd X a ua) (hb : PWd X (.BoolOp .Or (b :: rest) pos) ub) : PWd X (.BoolOp .Or (a :: b :: rest) pos) (uOr ua ub) := by
  refine ⟨PW.imp (pw_or ha.pt hb.pw) fun σ H Q ⟨δ, r, h⟩ => ⟨δ, r, ha.mono _ _ _ (fun b q H' s => ?_) h⟩, m_or ha.mono hb.mono⟩
  cases b with
  | true => rw [if_pos rfl] at q ⊢; exact q H' s
  | false => rw [if_neg Bool.false_ne_true] at q ⊢; exact ⟨δ, r.same s, hb.mono _ _ _ (fun b k => k.on s) q⟩
def vAnd (ta tb : ED) : ED := fun δ Q => ta δ fun d => ∃ b, d = .bl b ∧ if b = true then tb δ Q else Q (.bl false)
def vOr (ta tb : ED) : ED := fun δ Q => ta δ fun d => ∃ b, d = .bl b ∧ if b = true then Q (.bl true) else tb δ Q
def vNot (ta : ED) : ED := fun δ Q => ta δ fun d => ∃ b, d = .bl b ∧ Q (.bl (!b))
theorem d_one {op} (h : PD X a ta) : PD X (.BoolOp op [a] pos) ta := ⟨pe_one h.pe, h.mono⟩
theorem d_and (ha : PD X a ta) (hb : PD X (.BoolOp .And (b :: rest) pos) tb) : PD X (.BoolOp .And (a :: b :: rest) pos) (vAnd ta tb) := by
  refine ⟨(pe_and ha.pe hb.pe).imp fun σ H Q ⟨δ, r, h⟩ => ⟨δ, r, ha.mono _ _ _ (fun d ⟨b, e, q⟩ v H1 s1 dv => ?_) h⟩, fun δ P P' g h => ha.mono _ _ _ (fun d ⟨b, e, q⟩ => ⟨b, e, ?_⟩) h⟩
  · subst e
    cases dv
    refine ⟨b, rfl, ?_⟩
    cases b with
    | true => rw [if_pos rfl] at q ⊢; exact ⟨δ, r.same s1, hb.mono _ _ _ (fun b k => k.on s1) q⟩
    | false => rw [if_neg Bool.false_ne_true] at q ⊢; exact q _ H1 s1 (.bl _)
  · cases b with
    | true => rw [if_pos rfl] at q ⊢; exact hb.mono _ _ _ g q
    | false => rw [if_neg Bool.false_ne_true] at q ⊢; exact g _ q
theorem d_or (ha : PD X a ta) (hb : PD X (.BoolOp .Or (b :: rest) pos) tb) : PD X (.BoolOp .Or (a :: b :: rest) pos) (vOr ta tb) := by
  refine ⟨(pe_or ha.pe hb.pe).imp fun σ H Q ⟨δ, r, h⟩ => ⟨δ, r, ha.mono _ _ _ (fun d ⟨b, e, q⟩ v H1 s1 dv => ?_) h⟩, fun δ P P' g h => ha.mono _ _ _ (fun d ⟨b, e, q⟩ => ⟨b, e, ?_⟩) h⟩
  · subst e
    cases dv
    refine ⟨b, rfl, ?_⟩
    cases b with
    | true => rw [if_pos rfl] at q ⊢; exact q _ H1 s1 (.bl _)
    | false => rw [if_neg Bool.false_ne_true] at q ⊢; exact ⟨δ, r.same s1, hb.mono _ _ _ (fun b k => k.on s1) q⟩
  · cases b with
    | true => rw [if_pos rfl] at q ⊢; exact g _ q
    | false => rw [if_neg Bool.false_ne_true] at q ⊢; exact hb.mono _ _ _ g q
theorem d_not (ha : PD X a ta) : PD X (.UnaryOp .Not a pos) (vNot ta) :=
  ⟨(pe_not ha.pe).imp fun σ H Q ⟨δ, r, h⟩ => ⟨δ, r, ha.mono _ _ _ (fun d ⟨b, e, q⟩ v H1 s1 dv => by subst e; cases dv; exact ⟨b, rfl, q _ H1 s1 (.bl _)⟩) h⟩,
   fun δ P P' g h => ha.mono _ _ _ (fun d ⟨b, e, q⟩ => ⟨b, e, g _ q⟩) h⟩
def vIf (u : TD) (ta tb : ED) : ED := fun δ Q => u δ fun b => if b = true then ta δ Q else tb δ Q
theorem d_if (hc : PTd X c ua) (ha : PD X a ta) (hb : PD X b tb) : PD X (.IfExp c a b pos) (vIf ua ta tb) := by
  refine ⟨(pe_ifExp hc.pt ha.pe hb.pe).imp fun σ H Q ⟨δ, r, h⟩ => ⟨δ, r, hc.mono _ _ _ (fun k q H1 s1 => ?_) h⟩, fun δ P P' g h => hc.mono _ _ _ (fun k q => ?_) h⟩
  · cases k with
    | true => rw [if_pos rfl] at q ⊢; exact ⟨δ, r.same s1, ha.mono _ _ _ (fun b k => k.on s1) q⟩
    | false => rw [if_neg Bool.false_ne_true] at q ⊢; exact ⟨δ, r.same s1, hb.mono _ _ _ (fun b k => k.on s1) q⟩
  · cases k with
    | true => rw [if_pos rfl] at q ⊢; exact ha.mono _ _ _ g q
    | false => rw [if_neg Bool.false_ne_true] at q ⊢; exact hb.mono _ _ _ g q
def vChain (f f' : F2) (ta tb tc : ED) : ED := fun δ Q => ta δ fun x => tb δ fun y => f x y fun z => ∃ k, z = .bl k ∧ if k = true then tc δ fun w => f' y w Q else Q (.bl false)
theorem chain_of {r r' : R2} {f f' : F2} (ma : MonoE ta) (mb : MonoE tb) (mc : MonoE tc) (hd : Does X.K r f) (hf : MonoF f) (hd' : Does X.K r' f') (hf' : MonoF f') :
    (∀ σ H Q, oE X.K (vChain f f' ta tb tc) σ H Q → tChain r r' (oE X.K ta) (oE X.K tb) (oE X.K tc) σ H Q) ∧ MonoE (vChain f f' ta tb tc) := by
  refine ⟨fun σ H Q ⟨δ, r, h⟩ => ⟨δ, r, ma _ _ _ (fun d h1 v H1 s1 dv => ⟨δ, r.same s1, mb _ _ _ (fun e h2 w H2 s2 ew => hd H2 v w d e _ (dv.same s2) ew (hf d e _ _ (fun z hz u H3 s3 du => ?_) h2)) h1⟩) h⟩, ?_⟩
  · obtain ⟨k, rfl, q⟩ := hz
    cases du
    refine ⟨k, rfl, ?_⟩
    have s := s1.trans (s2.trans s3)
    cases k with
    | true =>
      rw [if_pos rfl] at q ⊢
      exact ⟨δ, r.same s, mc _ _ _ (fun d h3 u H4 s4 du => hd' H4 w u e d Q (ew.same (s3.trans s4)) du (hf' _ _ _ _ (fun z hz => hz.on (s.trans s4)) h3)) q⟩
    | false =>
      rw [if_neg Bool.false_ne_true] at q ⊢
      exact q _ H3 s (.bl _)
  · intro δ P P' g h
    refine ma _ _ _ (fun d h1 => mb _ _ _ (fun e h2 => hf _ _ _ _ (fun z ⟨k, ez, q⟩ => ⟨k, ez, ?_⟩) h2) h1) h
    cases k with
    | true => rw [if_pos rfl] at q ⊢; exact mc _ _ _ (fun d h3 => hf' _ _ _ _ g h3) q
    | false => rw [if_neg Bool.false_ne_true] at q ⊢; exact g _ q
def fLe : F2 := fI0 fun i j => .bl (decide (i ≤ j))
theorem d_lele (ha : PD X a ta) (hb : PD X b tb) (hc : PD X c tc) (hm : lastMarks [.LtE, .LtE] [b, c] = false := by with_unfolding_all rfl) : PD X (.Compare a [.LtE, .LtE] [b, c] pos) (vChain fLe fLe ta tb tc) :=
  let q := chain_of (X := X) ha.mono hb.mono hc.mono (r := rI0 fun i j => .bl (decide (i ≤ j))) (r' := rI0 fun i j => .bl (decide (i ≤ j))) (f := fLe) (f' := fLe) (does_I0 fun _ _ _ => .bl _) m_I0 (does_I0 fun _ _ _ => .bl _) m_I0
  ⟨(pe_chain op_le op_le ha.pe hb.pe hc.pe hm).imp q.1, q.2⟩
end
end DC

set_option maxHeartbeats 4000000
namespace DC
open PySem PySem.Spec PyProof.Rows L2
section
variable {X : Cx} {a b c e : Expr} {es rest : List Expr} {pos : Pos} {ta tb tc : ED} {ua ub : TD} {t : AD}
def aNil : AD := fun _ Q => Q []
def aCons (ta : ED) (t : AD) : AD := fun δ Q => ta δ fun d => t δ fun ds => Q (d :: ds)
theorem a_nil : PAd X [] aNil := ⟨PA.imp pa_nil fun σ H Q ⟨δ, r, h⟩ => h [] H (Same.refl _) .nil, fun δ P P' g h => g _ h⟩
theorem a_cons (ha : PD X e ta) (hr : PAd X es t) (hs : starEach (e :: es) X.env = (false, eval e X.env) :: starEach es X.env := by rfl) : PAd X (e :: es) (aCons ta t) :=
  ⟨PA.imp (pa_cons ha.pe hr.pa hs) fun σ H Q ⟨δ, r, h⟩ => ⟨δ, r, ha.mono _ _ _ (fun d h1 v H1 s1 dv => ⟨δ, r.same s1, hr.mono _ _ _ (fun ds h2 vs H2 s2 dvs => h2 (v :: vs) H2 (s1.trans s2) (.cons (dv.same s2) dvs)) h1⟩) h⟩,
   fun δ P P' g h => ha.mono _ _ _ (fun d h1 => hr.mono _ _ _ (fun ds h2 => g _ h2) h1) h⟩
def vTup (t : AD) : ED := fun δ Q => t δ fun ds => ds.length ≤ sizeLine ∧ Q (.tup ds)
def vLst (t : AD) : ED := fun δ Q => t δ fun ds => ds.length ≤ sizeLine ∧ Q (.lst ds)
theorem d_tup {x1} (h : PAd X es t) : PD X (.Tuple es x1 pos) (vTup t) :=
  ⟨(pe_tup h.pa).imp fun σ H Q ⟨δ, r, q⟩ => ⟨δ, r, h.mono _ _ _ (fun ds ⟨hl, k⟩ vs H1 s1 dvs => ⟨by rw [dvs.length]; exact hl, fun p hp => k _ _ (s1.trans (same_upd hp)) (.tup (SqT.of upd_same) (dvs.same (same_upd hp)))⟩) q⟩,
   fun δ P P' g q => h.mono _ _ _ (fun ds ⟨hl, k⟩ => ⟨hl, g _ k⟩) q⟩
theorem d_lst (h : PAd X es t) : PD X (.List es pos) (vLst t) :=
  ⟨(pe_lst h.pa).imp fun σ H Q ⟨δ, r, q⟩ => ⟨δ, r, h.mono _ _ _ (fun ds ⟨hl, k⟩ vs H1 s1 dvs => ⟨by rw [dvs.length]; exact hl, fun p hp => k _ _ (s1.trans (same_upd hp)) (.lst (SqL.of upd_same) (dvs.same (same_upd hp)))⟩) q⟩,
   fun δ P P' g q => h.mono _ _ _ (fun ds ⟨hl, k⟩ => ⟨hl, g _ k⟩) q⟩
def constD : Expr → Option D
  | .Constant (.str x) _ _ => some (.str x)
  | .Constant (.int i) _ _ => some (.int i)
  | .Constant (.bool b) _ _ => some (.bl b)
  | .Constant .none _ _ => some .non
  | .UnaryOp .USub (.Constant (.int i) _ _) _ => some (.int (-i))
  | _ => none
def constDs : List Expr → List D
  | [] => []
  | e :: es => (constD e).getD .non :: constDs es
def aVals (ds : List D) : AD := fun _ Q => Q ds
theorem a_ck : ∀ {es : List Expr} (_ : es.all (fun e => (constD e).isSome) = true), PAd X es (aVals (constDs es))
  | [], _ => ⟨a_nil.pa, fun δ P P' g h => g _ h⟩
  | e :: es, h => by
    rw [List.all_cons, Bool.and_eq_true] at h
    have ih := a_ck h.2
    obtain ⟨v, hv⟩ := Option.isSome_iff_exists.mp h.1
    have e1 : constDs (e :: es) = v :: constDs es := by
      show (constD e).getD .non :: constDs es = _
      rw [hv]
      rfl
    rw [e1]
    refine ⟨?_, fun δ P P' g h => g _ h⟩
    have one : PAd X (e :: es) (aCons (vC v) (aVals (constDs es))) := by
      unfold constD at hv
      split at hv
      · cases hv; exact a_cons d_str ih rfl
      · cases hv; exact a_cons d_int ih rfl
      · cases hv; exact a_cons d_bl ih rfl
      · cases hv; exact a_cons d_non ih rfl
      · cases hv
        refine a_cons ⟨(d_neg d_int).pe.imp ?_, fun δ P P' g h => g _ h⟩ ih rfl
        exact fun σ H Q ⟨δ, r, q⟩ => ⟨δ, r, _, rfl, q⟩
      · cases hv
    exact one.pa
def fIx : F2 := fun d e Q => match d, e with
  | .lst xs, .int i => ∃ r, atI xs i = some r ∧ Q r
  | .tup xs, .int i => ∃ r, atI xs i = some r ∧ Q r
  | .str z, .int i => z.length ≤ sizeLine ∧ ∃ c, atI z.cps.toList i = some c ∧ Q (.str ⟨#[c]⟩)
  | _, _ => False
theorem m_ix : MonoF fIx := by
  intro d e P P' f h
  unfold fIx at h ⊢
  split at h
  · obtain ⟨r, hr, q⟩ := h; exact ⟨r, hr, f _ q⟩
  · obtain ⟨r, hr, q⟩ := h; exact ⟨r, hr, f _ q⟩
  · obtain ⟨hz, r, hr, q⟩ := h; exact ⟨hz, r, hr, f _ q⟩
  · exact h.elim
theorem Dvs.atI {K : PySem.W.Frag} {H : Hp} {vs : List V} {ds : List D} {i : Int} {d : D} (h : Dvs K H vs ds) (e : L2.atI ds i = some d) : ∃ v, L2.atI vs i = some v ∧ Dv K H v d := by
  unfold L2.atI at e ⊢
  rw [h.length]
  cases q : ixN ds.length i with
  | none => rw [q] at e; cases e
  | some j =>
    rw [q] at e
    exact h.get e
theorem does_ix {K : PySem.W.Frag} : Does K (rIx K) fIx := by
  intro H x y d e Q hx hy h
  cases hy with
  | int i => cases hx with
    | lst h1 h2 =>
      obtain ⟨r, hr, q⟩ := h
      obtain ⟨v, hv, dv⟩ := h2.atI hr
      exact .inl ⟨_, _, i, v, rfl, rfl, h1, hv, q _ H (Same.refl _) dv⟩
    | tup h1 h2 =>
      obtain ⟨r, hr, q⟩ := h
      obtain ⟨v, hv, dv⟩ := h2.atI hr
      exact .inr (.inl ⟨_, _, i, v, rfl, rfl, h1, hv, q _ H (Same.refl _) dv⟩)
    | str z =>
      obtain ⟨hz, c, hc, q⟩ := h
      exact .inr (.inr ⟨z, i, c, rfl, rfl, hz, hc, q _ H (Same.refl _) (.str _)⟩)
    | _ => exact h.elim
  | _ => cases hx <;> exact h.elim
def vIx : ED → ED → ED := vOp fIx
theorem d_ix (ha : PD X a ta) (hb : PD X b tb) (hs : PlainIx b) : PD X (.Subscript a b pos) (vIx ta tb) := d_bin (t := oE X.K ta) (pe_ix ix_seq ha.pe hb.pe hs) ha.mono hb.mono does_ix m_ix
def cutD (xs : List D) (lo hi : Option Int) : List D := (xs.drop (HT.sIx xs.length 0 lo)).take (HT.sIx xs.length xs.length hi - HT.sIx xs.length 0 lo)
theorem Dvs.cut {K : PySem.W.Frag} {H : Hp} {vs : List V} {ds : List D} (h : Dvs K H vs ds) (lo hi : Option Int) : Dvs K H (cutV vs lo hi) (cutD ds lo hi) := by
  unfold cutV cutD
  rw [h.length]
  exact (h.drop _).take _
def fSl (d : D) (lo hi : Option Int) (Q : D → Prop) : Prop := match d with
  | .lst xs => Q (.lst (cutD xs lo hi))
  | .tup xs => ¬ (HT.sIx xs.length 0 lo = 0 ∧ HT.sIx xs.length xs.length hi = xs.length) ∧ Q (.tup (cutD xs lo hi))
  | .str z => z.length ≤ sizeLine ∧ Q (.str (Txt.slice z lo hi))
  | _ => False
theorem m_sl {d : D} {lo hi : Option Int} {P P' : D → Prop} (f : ∀ r, P r → P' r) (h : fSl d lo hi P) : fSl d lo hi P' := by
  unfold fSl at h ⊢
  split at h
  · exact f _ h
  · exact ⟨h.1, f _ h.2⟩
  · exact ⟨h.1, f _ h.2⟩
  · exact h.elim
theorem sl_U : SlR X (fun x lo hi H Q => rSlL X.K x lo hi H Q ∨ rSlT X.K x lo hi H Q ∨ ∃ z, x = .str z ∧ z.length ≤ sizeLine ∧ Q (.str (Txt.slice z lo hi)) H) := sl_list.or (sl_tup.or sl_str)
abbrev OD := SD → (Option Int → Prop) → Prop
structure POd (X : Cx) (e : Option Expr) (t : OD) : Prop where
  po : PO X e (fun σ H Q => ∃ δ, RelS X.K H σ δ ∧ t δ fun o => ∀ H', Same H H' → Q o H')
  mono : ∀ δ (P P' : Option Int → Prop), (∀ d, P d → P' d) → t δ P → t δ P'
def oNone : OD := fun _ Q => Q none
def oSome (t : ED) : OD := fun δ Q => t δ fun d => ∃ i, d = .int i ∧ Q (some i)
theorem PO.imp {e : Option Expr} {t t' : TO} (h : PO X e t) (f : ∀ σ H Q, t' σ H Q → t σ H Q) : PO X e t' := fun pins s σ H Q I q => h pins s σ H Q I (f σ H Q q)
theorem o_none : POd X none oNone := ⟨PO.imp po_none fun σ H Q ⟨δ, r, h⟩ => h H (Same.refl _), fun δ P P' g h => g _ h⟩
theorem o_some (h : PD X e ta) : POd X (some e) (oSome ta) :=
  ⟨PO.imp (po_some h.pe) fun σ H Q ⟨δ, r, q⟩ => ⟨δ, r, h.mono _ _ _ (fun d ⟨i, ed, k⟩ v H1 s1 dv => by subst ed; cases dv; exact ⟨i, rfl, k H1 s1⟩) q⟩, fun δ P P' g q => h.mono _ _ _ (fun d ⟨i, ed, k⟩ => ⟨i, ed, g _ k⟩) q⟩
def vSl (ta : ED) (tl th : OD) : ED := fun δ Q => ta δ fun d => tl δ fun lo => th δ fun hi => fSl d lo hi Q
theorem d_slice {lo hi : Option Expr} {tl th : OD} {p2 : Pos} (he : PD X e ta) (hl : POd X lo tl) (hh : POd X hi th) : PD X (.Subscript e (.Slice lo hi none p2) pos) (vSl ta tl th) := by
  refine ⟨(pe_slice sl_U he.pe hl.po hh.po).imp fun σ H Q ⟨δ, r, h⟩ => ⟨δ, r, he.mono _ _ _ (fun d h1 v H1 s1 dv => ⟨δ, r.same s1, hl.mono _ _ _ (fun lo h2 H2 s2 => ⟨δ, r.same (s1.trans s2), hh.mono _ _ _ (fun hi h3 H3 s3 => ?_) h2⟩) h1⟩) h⟩,
    fun δ P P' g h => he.mono _ _ _ (fun d h1 => hl.mono _ _ _ (fun lo h2 => hh.mono _ _ _ (fun hi h3 => m_sl g h3) h2) h1) h⟩
  have s := s1.trans (s2.trans s3)
  have dv3 := dv.same (s2.trans s3)
  clear h1 h2 dv
  cases dv3 with
  | lst h1 h2 => exact .inl ⟨_, _, rfl, h1, fun p hp => h3 _ _ (s.trans (same_upd hp)) (.lst (SqL.of upd_same) ((h2.cut lo hi).same (same_upd hp)))⟩
  | tup h1 h2 => exact .inr (.inl ⟨_, _, rfl, h1, by rw [h2.length]; exact h3.1, fun p hp => h3.2 _ _ (s.trans (same_upd hp)) (.tup (SqT.of upd_same) ((h2.cut lo hi).same (same_upd hp)))⟩)
  | str z => exact .inr (.inr ⟨z, rfl, h3.1, h3.2 _ H3 s (.str _)⟩)
  | _ => exact h3.elim
def vFld (K : PySem.W.Frag) (ta : ED) (f : Str) : ED := fun δ Q => ta δ fun d => ∃ C gs r, d = .obj C gs ∧ Cls K C ∧ NoAttr K C f ∧ gs.lookup f = some r ∧ Q r
theorem d_fld {f : Str} (he : PD X e ta) (hb : attributeBase e f X.env (eval e X.env) = eval e X.env) : PD X (.Attribute e f pos) (vFld X.K ta f) :=
  ⟨(pe_fldR he.pe hb).imp fun σ H Q ⟨δ, r, h⟩ => ⟨δ, r, he.mono _ _ _ (fun d ⟨C, gs, r, ed, hc, hn, hl, k⟩ v H1 s1 dv => by
      subst ed
      cases dv with
      | obj h1 h2 =>
        obtain ⟨w, hw, dw⟩ := h2.look hl
        exact ⟨_, _, _, _, w, rfl, h1, hc, hn, hw, k _ H1 s1 dw⟩) h⟩,
   fun δ P P' g h => he.mono _ _ _ (fun d ⟨C, gs, r, ed, hc, hn, hl, k⟩ => ⟨C, gs, r, ed, hc, hn, hl, g _ k⟩) h⟩
abbrev SpD := List D → (D → Prop) → Prop
abbrev MonoS (sd : SpD) : Prop := ∀ ds (P P' : D → Prop), (∀ d, P d → P' d) → sd ds P → sd ds P'
def spOf (K : PySem.W.Frag) (sd : SpD) : Sp := fun vs H Q _ => ∃ ds, Dvs K H vs ds ∧ sd ds (kD K H Q)
def vCall (sd : SpD) (t : AD) : ED := fun δ Q => t δ fun ds => sd ds Q
theorem d_call {k : Nat} {f : Addr} {fd : FuncData} {ps : List Str} {x : Str} {p : Pos} {sd : SpD} (F : FnOk X.prog X.w X.K X.mg X.base CX0 k f fd ps (spOf X.K sd)) (ms : MonoS sd) (hr : Room k X.A) (hg : Gl X x) (hm : X.mg x = some (.ref f))
    (hk : PySem.W.keepIn X.K (.ref f) = true) (hb : Binds X.K fd ps []) (ha : PAd X (e :: es) t) (hdb : (x == ("__debug__" : Str)) = false := by decide)
    (hp : PE X (.Call (.Name x p) (e :: es) [] pos) (tCall (spOf X.K sd) [] E0 (oA X.K t)) := by exact pe_call F hr hg hm hk hb .nil pass0 ha.pa) : PD X (.Call (.Name x p) (e :: es) [] pos) (vCall sd t) :=
  ⟨hp.imp fun σ H Q ⟨δ, r, h⟩ => ⟨δ, r, ha.mono _ _ _ (fun ds h1 vs H1 s1 dvs => ⟨ds, by rw [List.append_nil]; exact dvs, ms _ _ _ (fun d k => k.on s1) h1⟩) h⟩, fun δ P P' g h => ha.mono _ _ _ (fun ds h1 => ms _ _ _ g h1) h⟩
def vB (sd : SpD) (t : AD) : ED := fun δ Q => t δ fun ds => sd ds Q
def DoesB (K : PySem.W.Frag) (r : List V → Hp → VK → Prop) (sd : SpD) : Prop := ∀ H vs ds Q, Dvs K H vs ds → sd ds (kD K H Q) → r vs H Q
theorem d_cb {r : List V → Hp → VK → Prop} {sd : SpD} (hp : PE X e (tCB r (oA X.K t))) (ha : MonoA t) (hd : DoesB X.K r sd) (ms : MonoS sd) : PD X e (vB sd t) :=
  ⟨hp.imp fun σ H Q ⟨δ, r, h⟩ => ⟨δ, r, ha _ _ _ (fun ds h1 vs H1 s1 dvs => hd H1 vs ds Q dvs (ms _ _ _ (fun d k => k.on s1) h1)) h⟩, fun δ P P' g h => ha _ _ _ (fun ds h1 => ms _ _ _ g h1) h⟩
end
end DC

set_option maxHeartbeats 4000000
namespace DC
open PySem PySem.Spec PyProof.Rows L2
structure EndsD where
  nx : SD → Prop
  rt : D → Prop
  bk : SD → Prop := fun _ => False
  ct : SD → Prop := fun _ => False
abbrev TSD := EndsD → SD → Prop
structure EndsD.Le (E E' : EndsD) : Prop where
  nx : ∀ δ, E.nx δ → E'.nx δ
  rt : ∀ d, E.rt d → E'.rt d
  bk : ∀ δ, E.bk δ → E'.bk δ
  ct : ∀ δ, E.ct δ → E'.ct δ
abbrev MonoQ (t : TSD) : Prop := ∀ E E' δ, EndsD.Le E E' → t E δ → t E' δ
def kS (K : PySem.W.Frag) (H : Hp) (Q : L2.St → Hp → Prop) : SD → Prop := fun δ => ∀ σ H', Same H H' → RelS K H' σ δ → Q σ H'
def endsOf (K : PySem.W.Frag) (H : Hp) (D : Ends) : EndsD := ⟨kS K H D.nx, kD K H D.rt, kS K H D.bk, kS K H D.ct⟩
theorem kS.on {K : PySem.W.Frag} {H H1 : Hp} {Q : L2.St → Hp → Prop} {δ : SD} (s : Same H H1) (h : kS K H Q δ) : kS K H1 Q δ := fun σ H' s' r => h σ H' (s.trans s') r
theorem ends_on {K : PySem.W.Frag} {H H1 : Hp} {D : Ends} (s : Same H H1) : EndsD.Le (endsOf K H D) (endsOf K H1 D) := ⟨fun _ h => h.on s, fun _ h => h.on s, fun _ h => h.on s, fun _ h => h.on s⟩
def oS (K : PySem.W.Frag) (t : TSD) : TS := fun D σ H => ∃ δ, RelS K H σ δ ∧ t (endsOf K H D) δ
structure PSd (X : Cx) (st : Stmt) (t : TSD) : Prop where
  ps : PS X st (oS X.K t)
  mono : MonoQ t
structure PSsd (X : Cx) (st : List Stmt) (t : TSD) : Prop where
  ps : PSs X st (oS X.K t)
  mono : MonoQ t
section
variable {X : Cx} {st : Stmt} {rest body els : List Stmt} {t u : TSD} {e c : Expr} {te : ED} {uc : TD} {pos : Pos}
theorem PS.imp {t t' : TS} (h : PS X st t) (f : ∀ D σ H, t' D σ H → t D σ H) : PS X st t' := fun pins s σ H D I q => h pins s σ H D I (f D σ H q)
theorem PSs.imp {t t' : TS} (h : PSs X rest t) (f : ∀ D σ H, t' D σ H → t D σ H) : PSs X rest t' := fun pins s σ H D I q => h pins s σ H D I (f D σ H q)
def qNext : TSD := fun E δ => E.nx δ
def qSeq (t u : TSD) : TSD := fun E δ => t { E with nx := u E } δ
theorem ss_nil : PSsd X [] qNext := ⟨PSs.imp pss_nil fun D σ H ⟨δ, r, h⟩ => h σ H (Same.refl _) r, fun E E' δ l h => l.nx _ h⟩
theorem ss_cons (h1 : PSd X st t) (h2 : PSsd X rest u) : PSsd X (st :: rest) (qSeq t u) :=
  ⟨PSs.imp (pss_cons h1.ps h2.ps) fun D σ H ⟨δ, r, h⟩ => ⟨δ, r, h1.mono { endsOf X.K H D with nx := u (endsOf X.K H D) } _ _ ⟨fun δ' q σ' H' s' r' => ⟨δ', r', h2.mono _ _ _ (ends_on s') q⟩, fun _ q => q, fun _ q => q, fun _ q => q⟩ h⟩,
   fun E E' δ l h => h1.mono { E with nx := u E } _ _ ⟨fun δ' q => h2.mono _ _ _ l q, l.rt, l.bk, l.ct⟩ h⟩
theorem ss_one (h1 : PSd X st t) : PSsd X [st] t := ⟨pss_one h1.ps, h1.mono⟩
def qRet (te : ED) : TSD := fun E δ => te δ E.rt
theorem s_ret (he : PD X e te) : PSd X (.Return (some e) pos) (qRet te) := ⟨PS.imp (ps_ret he.pe) fun D σ H ⟨δ, r, h⟩ => ⟨δ, r, h⟩, fun E E' δ l h => he.mono _ _ _ l.rt h⟩
def qDrop (te : ED) : TSD := fun E δ => te δ fun _ => E.nx δ
theorem s_expr (he : PD X e te) (hs : swapsWith e none pos.line X.env = pure false := by rfl) : PSd X (.Expr e pos) (qDrop te) :=
  ⟨PS.imp (ps_expr he.pe hs) fun D σ H ⟨δ, r, h⟩ => ⟨δ, r, he.mono _ _ _ (fun d q v H1 s1 dv => q σ H1 s1 (r.same s1)) h⟩, fun E E' δ l h => he.mono _ _ _ (fun d q => l.nx _ q) h⟩
def qSet (i : Nat) (te : ED) : TSD := fun E δ => te δ fun d => E.nx (δ.set i (some d))
theorem s_set {i : Nat} {x : Str} {pos' : Pos} (hN : X.N.Nodup) (hi : X.N[i]? = some x) (hx : Loc X.env.scope x) (he : PD X e te) (hs : swapsWith e (some (.Name x pos')) pos.line X.env = pure false := by rfl)
    (hf : X.fn x = true ∨ X.env.scope.names.lookup x = some .local := by first | exact .inl rfl | exact .inr rfl | assumption) : PSd X (.Assign [.Name x pos'] e pos) (qSet i te) :=
  ⟨PS.imp (ps_set hN hi hx he.pe hs hf) fun D σ H ⟨δ, r, h⟩ => ⟨δ, r, he.mono _ _ _ (fun d q v H1 s1 dv => q _ H1 s1 ((r.same s1).set i dv)) h⟩, fun E E' δ l h => he.mono _ _ _ (fun d q => l.nx _ q) h⟩
def qIf (uc : TD) (t u : TSD) : TSD := fun E δ => uc δ fun b => if b = true then t E δ else u E δ
theorem s_if (hc : PTd X c uc) (ha : PSsd X body t) (hb : PSsd X els u) : PSd X (.If c body els pos) (qIf uc t u) := by
  refine ⟨PS.imp (ps_if hc.pt ha.ps hb.ps) fun D σ H ⟨δ, r, h⟩ => ⟨δ, r, hc.mono _ _ _ (fun k q H1 s1 => ?_) h⟩, fun E E' δ l h => hc.mono _ _ _ (fun k q => ?_) h⟩
  · cases k with
    | true => rw [if_pos rfl] at q ⊢; exact ⟨δ, r.same s1, ha.mono _ _ _ (ends_on s1) q⟩
    | false => rw [if_neg Bool.false_ne_true] at q ⊢; exact ⟨δ, r.same s1, hb.mono _ _ _ (ends_on s1) q⟩
  · cases k with
    | true => rw [if_pos rfl] at q ⊢; exact ha.mono _ _ _ l q
    | false => rw [if_neg Bool.false_ne_true] at q ⊢; exact hb.mono _ _ _ l q
def qNever : TSD := fun _ _ => False
theorem s_never : PSd X st qNever := ⟨PS.imp ps_never fun D σ H ⟨δ, r, h⟩ => h, fun E E' δ l h => h⟩
theorem ss_never : PSsd X rest qNever := ⟨PSs.imp pss_never fun D σ H ⟨δ, r, h⟩ => h, fun E E' δ l h => h⟩
end
def startD (N : List Str) (ds : List D) : SD := ds.map some ++ List.replicate (N.length - ds.length) none
theorem start_rel {K : PySem.W.Frag} {H : Hp} {N : List Str} {vs : List V} {ds : List D} (h : Dvs K H vs ds) : RelS K H (L2.start N vs) (startD N ds) := by
  unfold L2.start startD
  have hl := h.length
  refine ⟨by rw [List.length_append, List.length_append, List.length_map, List.length_map, List.length_replicate, List.length_replicate, hl], fun i d e => ?_⟩
  by_cases hi : i < ds.length
  · rw [List.getElem?_append_left (by rw [List.length_map]; exact hi), List.getElem?_map] at e
    cases q : ds[i]? with
    | none => rw [q] at e; cases e
    | some d' =>
      rw [q] at e
      cases e
      obtain ⟨v, hv, dv⟩ := h.get q
      exact ⟨v, by rw [List.getElem?_append_left (by rw [List.length_map]; omega), List.getElem?_map, hv]; rfl, dv⟩
  · rw [List.getElem?_append_right (by rw [List.length_map]; omega), List.getElem?_replicate] at e
    split at e <;> cases e
section
variable {P : Program} {w : World} {K : PySem.W.Frag} {mg : Str → Option Value} {base : Heap}
abbrev Bx (P : Program) (w : World) (K : PySem.W.Frag) (mg : Str → Option Value) (base : Heap) (N : List Str) (qual : Str) (st : Stmt) (f : Addr) (cdv : Value) (A : Around) (outer : List Env) (s : Shared) (H : Hp) (E : XK) : Cx := (cxOf CX0 P w K mg base N qual (defScope st) f cdv A outer s H E).nox
theorem okD {x qual : Str} {st : Stmt} {f : Addr} {fd : FuncData} {N ps : List Str} {k : Nat} {sd : SpD} {t : TSD} (F : Fun K x qual st f fd) (S : FnScope N ps (defScope st)) (len : ∀ ds Q, sd ds Q → ds.length = ps.length)
    (hb : ∀ (cdv : Value) (A : Around) (outer : List Env) (s : Shared) (H : Hp) (E : XK), Room k (A.deeper (envOfC qual (defScope st) s.heap.objs.size f cdv)) → PSsd (Bx P w K mg base N qual st f cdv A outer s H E) (defBody st) t)
    (hr : ∀ ds Q, sd ds Q → t { nx := fun _ => Q .non, rt := Q } (startD N ds)) : FnOk P w K mg base CX0 (k + 1) f fd ps (spOf K sd) := by
  refine F.ok S (fun vs H Q E ⟨ds, dvs, h⟩ => by rw [dvs.length]; exact len ds _ h) (fun cdv A outer s H vs Q E hroom ⟨ds, dvs, h⟩ => ?_)
  have B := hb cdv A outer s H E hroom
  refine ⟨_, B.ps, startD N ds, start_rel dvs, ?_⟩
  refine B.mono { nx := fun _ => kD K H Q .non, rt := kD K H Q } _ _ ⟨fun δ q σ H' s' r => q _ H' s' .non, fun d q => q, fun _ q => q.elim, fun _ q => q.elim⟩ (hr ds _ h)
end
end DC

set_option maxHeartbeats 4000000
namespace DC
open PySem PySem.Spec PyProof.Rows L2
structure ItD (K : PySem.W.Frag) (J : It) (H1 : Hp) (ds : List D) : Prop where
  go : ∀ i H', Same H1 H' → i < ds.length → J.go i H'
  stop : ∀ H', Same H1 H' → J.stop ds.length H'
  yld : ∀ i H' x H'', Same H1 H' → i < ds.length → J.yld i H' x H'' → Same H' H'' ∧ ∃ d, ds[i]? = some d ∧ ∃ Hx, Same H1 Hx ∧ Dv K Hx x d ∧ (∀ a o, Hx a = some o → H1 a = some o ∨ H' a = none) ∧ Same Hx H''
structure PId (X : Cx) (tg iter : Expr) (ti : AD) : Prop where
  pi : PI X tg iter (fun σ H R => ∃ δ, RelS X.K H σ δ ∧ ti δ fun ds => ∀ J H1, Same H H1 → ItD X.K J H1 ds → R J H1)
  mono : MonoA ti
def itemsD : D → Option (List D)
  | .lst xs => some xs
  | .tup xs => some xs
  | .str y => some (y.cps.toList.map fun c => .str ⟨#[c]⟩)
  | _ => none
def aItems (te : ED) : AD := fun δ Q => te δ fun d => ∃ ds, itemsD d = some ds ∧ Q ds
section
variable {X : Cx} {tg : Expr} {l : Expr} {te : ED}
theorem PI.imp {wi wi' : TI} (h : PI X tg l wi) (f : ∀ σ H R, wi' σ H R → wi σ H R) : PI X tg l wi' := fun pins s σ H R I q => h pins s σ H R I (f σ H R q)
theorem pi_any {tl : TE} (hl : PE X l tl) : PI X tg l (fun σ H R => tl σ H fun x H1 => (∃ a, x = .ref a ∧ (∃ xs, SqL X.K H1 a xs) ∧ R (Itl X.K a) H1) ∨ (∃ a, x = .ref a ∧ (∃ xs, SqT X.K H1 a xs) ∧ R (Itt X.K a) H1) ∨ ∃ y, x = .str y ∧ R (Its y) H1) := by
  intro pins s σ H R I h
  refine thn (hl pins s σ H _ I h) fun v s1 ⟨x, H1, I1, r1, q1⟩ => ?_
  have hf : ∀ b ∈ [s1.heap.objs.size], FpOk X pins H1 b := fun b hb => by
    have e : b = s1.heap.objs.size := by simpa using hb
    subst e
    exact I1.fpOk (Nat.le_refl _) (I1.hok.fresh (Nat.le_refl _))
  rcases q1 with ⟨a, e, ⟨xs, hq⟩, q⟩ | ⟨a, e, ⟨xs, hq⟩, q⟩ | ⟨y, e, q⟩
  · subst e
    cases (show v = Value.ref a from r1)
    obtain ⟨its, rv, p, hz⟩ := I1.list hq
    exact wpAny_pyIter_list p.isList ⟨s1.heap.objs.size, [s1.heap.objs.size], _, _, H1, rfl, I1.kept (t' := s1.toks) fun b o e => Heap.get?_push_of_some _ e, turn_list a _, ⟨_, Heap.get?_push_size _ rfl, rfl, rfl⟩, hf, q⟩
  · subst e
    cases (show v = Value.ref a from r1)
    obtain ⟨its, rv, p, hz⟩ := I1.tuple hq
    exact wpAny_pyIter_tuple (show s1.heap.IsTuple a its.toArray from p) ⟨s1.heap.objs.size, [s1.heap.objs.size], _, _, H1, rfl, I1.kept (t' := s1.toks) fun b o e => Heap.get?_push_of_some _ e, turn_tuple a _, ⟨_, Heap.get?_push_size _ rfl, rfl, rfl⟩, hf, q⟩
  · subst e
    obtain ⟨t, rfl⟩ := r1
    cases ha : y.cps.all (· < 128)
    · exact wpAny_pyIter_wide ha ⟨s1.heap.objs.size, [s1.heap.objs.size], _, _, H1, rfl, I1.kept (t' := s1.toks) fun b o e => Heap.get?_push_of_some _ e, turn_strW y t _, ⟨_, Heap.get?_push_size _ rfl, rfl, rfl⟩, hf, q⟩
    · exact wpAny_pyIter_ascii ha ⟨s1.heap.objs.size, [s1.heap.objs.size], _, _, H1, rfl, I1.kept (t' := s1.toks) fun b o e => Heap.get?_push_of_some _ e, turn_strA y t _, ⟨_, Heap.get?_push_size _ rfl, rfl, rfl⟩, hf, q⟩
theorem i_any (he : PD X l te) : PId X tg l (aItems te) := by
  refine ⟨PI.imp (pi_any he.pe) fun σ H R ⟨δ, r, h⟩ => ⟨δ, r, he.mono _ _ _ (fun d ⟨ds, e, q⟩ v H1 s1 dv => ?_) h⟩, fun δ P P' g h => he.mono _ _ _ (fun d ⟨ds, e, q⟩ => ⟨ds, e, g _ q⟩) h⟩
  cases dv with
  | lst h1 h2 =>
    cases e
    refine .inl ⟨_, rfl, ⟨_, h1⟩, q _ H1 s1 ⟨fun i H' s' hi => ?_, fun H' s' => ⟨_, s'.seq h1, by rw [h2.length]; exact Nat.le_refl _⟩, fun i H' x H'' s' hi y => ?_⟩⟩
    · obtain ⟨v, hv, _⟩ := h2.get (List.getElem?_eq_getElem hi)
      exact ⟨_, v, s'.seq h1, hv⟩
    · obtain ⟨rfl, y2⟩ := y
      obtain ⟨d, hd, dv⟩ := h2.getV (y2 _ (s'.seq h1))
      exact ⟨Same.refl _, d, hd, H1, Same.refl _, dv, fun _ _ z => .inl z, s'⟩
  | tup h1 h2 =>
    cases e
    refine .inr (.inl ⟨_, rfl, ⟨_, h1⟩, q _ H1 s1 ⟨fun i H' s' hi => ?_, fun H' s' => ⟨_, sameT s' h1, by rw [h2.length]; exact Nat.le_refl _⟩, fun i H' x H'' s' hi y => ?_⟩⟩)
    · obtain ⟨v, hv, _⟩ := h2.get (List.getElem?_eq_getElem hi)
      exact ⟨_, v, sameT s' h1, hv⟩
    · obtain ⟨rfl, y2⟩ := y
      obtain ⟨d, hd, dv⟩ := h2.getV (y2 _ (sameT s' h1))
      exact ⟨Same.refl _, d, hd, H1, Same.refl _, dv, fun _ _ z => .inl z, s'⟩
  | str y =>
    cases e
    refine .inr (.inr ⟨_, rfl, q _ H1 s1 ⟨fun i H' s' hi => ?_, fun H' s' => ?_, fun i H' x H'' s' hi y => ?_⟩⟩)
    · have hi' : i < y.cps.size := by simpa using hi
      exact hi'
    · show y.cps.size ≤ _
      simp
    · obtain ⟨rfl, c, hc, rfl⟩ := y
      refine ⟨Same.refl _, .str ⟨#[c]⟩, ?_, H1, Same.refl _, .str _, fun _ _ z => .inl z, s'⟩
      rw [List.getElem?_map, Array.getElem?_toList, hc]
      rfl
  | _ => cases e
def aRange1 (t : AD) : AD := fun δ Q => t δ fun ds => ∃ n : Int, ds = [.int n] ∧ -(2 ^ 62) ≤ n ∧ n < 2 ^ 62 ∧ Q ((List.range n.toNat).map fun i : Nat => .int (0 + (i : Int)))
theorem it_range {K : PySem.W.Frag} {H : Hp} (lo : Int) (n : Nat) : ItD K (Itr lo n) H ((List.range n).map fun i : Nat => .int (lo + (i : Int))) := by
  refine ⟨fun i H' s' hi => ?_, fun H' s' => ?_, fun i H' x H'' s' hi y => ?_⟩
  · have hi' : i < n := by simpa using hi
    exact hi'
  · show n ≤ _
    simp
  · obtain ⟨rfl, rfl⟩ := y
    have hi' : i < n := by simpa using hi
    exact ⟨Same.refl _, .int (lo + i), by rw [List.getElem?_map, List.getElem?_range hi']; rfl, H, Same.refl _, .int _, fun _ _ z => .inl z, s'⟩
theorem i_range1 {a : Expr} {ta : AD} {p pos : Pos} (hg : Gl X "range") (hm : X.mg "range" = none) (ha : PAd X [a] ta) (hs : starEach [a] X.env = [(false, eval a X.env)] := by rfl) : PId X tg (.Call (.Name "range" p) [a] [] pos) (aRange1 ta) := by
  refine ⟨PI.imp (pi_range1 hg hm ha.pa hs) fun σ H R ⟨δ, r, h⟩ => ⟨δ, r, ha.mono _ _ _ (fun ds ⟨n, e, h1, h2, q⟩ vs H1 s1 dvs => ?_) h⟩, fun δ P P' g h => ha.mono _ _ _ (fun ds ⟨n, e, h1, h2, q⟩ => ⟨n, e, h1, h2, g _ q⟩) h⟩
  subst e
  cases dvs with
  | cons a b =>
    cases a
    cases b
    exact ⟨n, rfl, h1, h2, q _ H1 s1 (it_range 0 n.toNat)⟩
end
abbrev TGD := D → SD → (SD → Prop) → Prop
structure PGd (X : Cx) (tg : Expr) (g : TGD) : Prop where
  pg : PG X tg (fun v σ H Q => ∃ d δ, Dv X.K H v d ∧ RelS X.K H σ δ ∧ g d δ (kS X.K H Q))
  mono : ∀ d δ (P P' : SD → Prop), (∀ δ, P δ → P' δ) → g d δ P → g d δ P'
def hName (i : Nat) : TGD := fun d δ Q => Q (δ.set i (some d))
section
variable {X : Cx} {tg iter : Expr} {body : List Stmt} {ti : AD} {g : TGD} {tb : TSD} {pos : Pos}
theorem PG.imp {t t' : TG} (h : PG X tg t) (f : ∀ v σ H Q, t' v σ H Q → t v σ H Q) : PG X tg t' := fun pins s σ H v u Q I r q => h pins s σ H v u Q I r (f v σ H Q q)
theorem g_name {i : Nat} {x : Str} (hN : X.N.Nodup) (hi : X.N[i]? = some x) (hx : Loc X.env.scope x) (hf : X.fn x = true ∨ X.env.scope.names.lookup x = some .local := by first | exact .inl rfl | exact .inr rfl | assumption) : PGd X (.Name x pos) (hName i) :=
  ⟨PG.imp (pg_name hN hi hx hf) fun v σ H Q ⟨d, δ, dv, r, q⟩ => q _ H (Same.refl _) (r.set i dv), fun d δ P P' f q => f _ q⟩
def qFor (ti : AD) (g : TGD) (tb : TSD) : TSD := fun E δ => ti δ fun ds => ∃ inv : Nat → SD → Prop, inv 0 δ ∧
  (∀ i d δ', ds[i]? = some d → inv i δ' → g d δ' fun δ2 => tb { E with nx := inv (i + 1), ct := inv (i + 1), bk := E.nx } δ2) ∧ ∀ δ', inv ds.length δ' → E.nx δ'
theorem s_for (hp : PassesOwn (model X.prog X.w) X.A X.env X.xe) (hc : X.calm = true) (hi : PId X tg iter ti) (hg : PGd X tg g) (hb : PSsd X body tb) (hs : ∀ x, foldedSetIterable iter X.env x = pure x := by intro _; rfl) :
    PSd X (.For tg iter body [] pos) (qFor ti g tb) := by
  refine ⟨PS.imp (ps_for hp hc hi.pi hg.pg hb.ps hs) fun D σ H ⟨δ, r, h⟩ => ⟨δ, r, hi.mono _ _ _ (fun ds ⟨inv, i0, step, fin⟩ J H1 s1 it => ?_) h⟩, fun E E' δ l h => hi.mono _ _ _ (fun ds ⟨inv, i0, step, fin⟩ => ⟨inv, i0, fun i d δ' hd hin => hg.mono _ _ _ _ (fun δ2 q => hb.mono { E with nx := inv (i + 1), ct := inv (i + 1), bk := E.nx } _ _ ⟨fun _ q => q, l.rt, l.nx, fun _ q => q⟩ q) (step i d δ' hd hin), fun δ' q => l.nx _ (fin δ' q)⟩) h⟩
  refine ⟨fun i m σ' H' => m = ds.length - i ∧ i ≤ ds.length ∧ Same H1 H' ∧ ∃ δ', RelS X.K H' σ' δ' ∧ inv i δ', ⟨ds.length, rfl, Nat.zero_le _, Same.refl _, δ, r.same s1, i0⟩, ?_⟩
  rintro i m σ' H' ⟨rfl, hle, s', δ', r', hin⟩
  by_cases hlt : i < ds.length
  · refine .inr ⟨it.go i H' s' hlt, fun σ2 H2 => Same H1 H2 ∧ ∃ δ2, RelS X.K H2 σ2 δ2 ∧ inv (i + 1) δ2, fun σ2 H2 ⟨s2, δ2, r2, h2⟩ => ⟨ds.length - (i + 1), by omega, rfl, hlt, s2, δ2, r2, h2⟩, fun x H'' y => ?_⟩
    obtain ⟨s2, d, hd, Hx, _, dvx, _, sx⟩ := it.yld i H' x H'' s' hlt y
    have dv := dvx.same sx
    have sA := s'.trans s2
    refine ⟨d, δ', dv, r'.same s2, hg.mono _ _ _ _ (fun δ2 q σ3 H3 s3 r3 => ⟨δ2, r3, hb.mono { endsOf X.K H D with nx := inv (i + 1), ct := inv (i + 1), bk := (endsOf X.K H D).nx } _ _ ?_ q⟩) (step i d δ' hd hin)⟩
    have sB := s1.trans (sA.trans s3)
    exact ⟨fun δ3 q3 σ4 H4 s4 r4 => ⟨sA.trans (s3.trans s4), δ3, r4, q3⟩, fun _ q3 => q3.on sB, fun _ q3 => q3.on sB, fun δ3 q3 σ4 H4 s4 r4 => ⟨sA.trans (s3.trans s4), δ3, r4, q3⟩⟩
  · have e : i = ds.length := by omega
    subst e
    exact .inl ⟨it.stop H' s', fin δ' hin σ' H' (s1.trans s') r'⟩
end
end DC

set_option maxHeartbeats 4000000
namespace DC
open PySem PySem.Spec PyProof.Rows L2
structure PTsd (X : Cx) (ifs : List Expr) (t : TD) : Prop where
  pts : PTs X ifs (oT X.K t)
  mono : MonoT t
def uYes : TD := fun _ Q => Q true
section
variable {X : Cx} {c : Expr} {ut : TD}
theorem PTs.imp {ifs : List Expr} {t t' : TT} (h : PTs X ifs t) (f : ∀ σ H Q, t' σ H Q → t σ H Q) : PTs X ifs t' := fun pins s σ H Q I q => h pins s σ H Q I (f σ H Q q)
theorem ts_nil : PTsd X [] uYes := ⟨PTs.imp pts_nil fun σ H Q ⟨δ, r, h⟩ => h H (Same.refl _), fun δ P P' g h => g _ h⟩
theorem ts_one (h : PTd X c ut) : PTsd X [c] ut := ⟨pts_one h.pt, h.mono⟩
end
def capD (caps : List Nat) (δ : SD) : SD := caps.map fun j => (δ[j]?).getD none
def vComp (caps : List Nat) (ti : AD) (tt : TD) (te : ED) : ED := fun δ Q => ti δ fun ds => ∃ outs : List (Option D), outs.length = ds.length ∧
  (∀ (i : Nat) (d : D) (o : Option D), ds[i]? = some d → outs[i]? = some o → tt (some d :: capD caps δ) fun b => b = o.isSome ∧ (b = true → te (some d :: capD caps δ) fun y => o = some y)) ∧ ds.length < sizeLine ∧ Q (.lst (outs.filterMap id))
theorem cap_rel {K : PySem.W.Frag} {H : Hp} {σ : L2.St} {δ : SD} (r : RelS K H σ δ) {x : V} {d : D} (dv : Dv K H x d) (caps : List Nat) : RelS K H (some x :: caps.map fun j => (σ[j]?).getD none) (some d :: capD caps δ) := by
  refine ⟨by unfold capD; simp, fun i e h => ?_⟩
  cases i with
  | zero => simp at h; subst h; exact ⟨x, rfl, dv⟩
  | succ i =>
    unfold capD at h
    simp only [List.getElem?_cons_succ, List.getElem?_map] at h ⊢
    cases q : caps[i]? with
    | none => rw [q] at h; cases h
    | some j =>
      rw [q] at h
      have h' : (δ[j]?).getD none = some e := by simpa using h
      have h2 : δ[j]? = some (some e) := by
        cases z : δ[j]? with
        | none => rw [z] at h'; cases h'
        | some o => rw [z] at h'; exact congrArg some h'
      obtain ⟨v, hv, dv⟩ := r.get j e h2
      exact ⟨v, by simp [hv], dv⟩
theorem comp_imp {K : PySem.W.Frag} {caps : List Nat} {ti : AD} {tt : TD} {te : ED} (mi : MonoA ti) (mt : MonoT tt) (me : MonoE te) {σ : L2.St} {H : Hp} {Q : VK} (h : oE K (vComp caps ti tt te) σ H Q) :
    rComp 1 caps (fun σ H R => ∃ δ, RelS K H σ δ ∧ ti δ fun ds => ∀ J H1, Same H H1 → ItD K J H1 ds → R J H1) (gName 0) (uFrame (oT K tt)) (tFrame (oE K te)) σ H Q := by
  obtain ⟨δ, r, h⟩ := h
  refine ⟨δ, r, mi _ _ _ (fun ds ⟨outs, hol, each, hlen, q⟩ J H1 s1 it D hD => ?_) h⟩
  refine ⟨fun i m ys H' => m = ds.length - i ∧ i ≤ ds.length ∧ ∃ H0, H0 D = none ∧ Same H1 H0 ∧ Dvs K H0 ys ((outs.take i).filterMap id) ∧ H' = upd H0 D (.lst ys), ⟨ds.length, rfl, Nat.zero_le _, H1, hD, Same.refl _, .nil, rfl⟩, ?_⟩
  rintro i m ys H' ⟨rfl, hle, H0, h0, s0, dys, rfl⟩
  refine ⟨upd_same, ?_⟩
  have sU : Same H1 (upd H0 D (.lst ys)) := s0.trans (same_upd h0)
  by_cases hlt : i < ds.length
  · refine .inr ⟨it.go i _ sU hlt, fun x H'' y => ?_⟩
    obtain ⟨s2, d, hd, Hx, sx1, dvx, only, sx⟩ := it.yld i _ x H'' sU hlt y
    have hD2 : H'' D = some (.lst ys) := s2 _ _ upd_same
    have ne1 : ∀ a o, H1 a = some o → a ≠ D := fun a o z => ne_of_none z hD
    have nex : ∀ a o, Hx a = some o → a ≠ D := fun a o z w => by
      rcases only a o z with z1 | z1
      · exact ne1 a o z1 w
      · rw [w, upd_same] at z1; cases z1
    have sd1 : Same H0 (del H'' D) := fun a o z => by
      rw [del_ne (ne_of_none z h0)]
      exact s2 a o (same_upd h0 a o z)
    have sdx : Same Hx (del H'' D) := fun a o z => by
      rw [del_ne (nex a o z)]
      exact sx a o z
    obtain ⟨o, ho⟩ : ∃ o, outs[i]? = some o := ⟨_, List.getElem?_eq_getElem (show i < outs.length by omega)⟩
    have rel : RelS K (del H'' D) (some x :: caps.map fun j => (σ[j]?).getD none) (some d :: capD caps δ) := cap_rel (r.same (s1.trans (s0.trans sd1))) (dvx.same sdx) caps
    refine ⟨Le.one, D, ys, hD2, _, rel, mt _ _ _ (fun b ⟨eb, hb⟩ H3 s3 h3 => ?_) (each i d o hd ho)⟩
    have ht : outs.take (i + 1) = outs.take i ++ [o] := by rw [List.take_succ, ho]; rfl
    have s03 : Same H0 H3 := sd1.trans s3
    cases b with
    | false =>
      refine iteF ?_
      refine ⟨ds.length - (i + 1), by omega, rfl, hlt, H3, h3, s0.trans s03, ?_, rfl⟩
      have on : o = none := by cases o with | none => rfl | some z => cases eb
      rw [ht, on, List.filterMap_append]
      simpa using dys.same s03
    | true =>
      refine iteT ?_
      refine ⟨D, ys, upd_same, ?_⟩
      rw [del_upd h3]
      refine ⟨_, rel.same s3, me _ _ _ (fun y ey v H4 s4 dv h4 => ⟨upd_same, ?_, ds.length - (i + 1), by omega, rfl, hlt, H4, h4, s0.trans (s03.trans s4), ?_, upd_upd⟩) (hb rfl)⟩
      · rw [dys.length]
        exact Nat.lt_of_le_of_lt (Nat.le_trans (List.length_filterMap_le _ _) (List.length_take_le' _ _)) (by rw [hol]; exact hlen)
      · rw [ht, ey, List.filterMap_append]
        exact (dys.same (s03.trans s4)).append (.cons dv .nil)
  · have e : i = ds.length := by omega
    subst e
    refine .inl ⟨it.stop _ sU, ?_⟩
    rw [← hol, List.take_length] at dys
    exact q _ _ (s1.trans sU) (.lst (SqL.of upd_same) (dys.same (same_upd h0)))
section
variable {X : Cx} {scope : Scope} {cl : List (Str × Addr)} {x : Str} {cn : List Str} {caps : List Nat} {elt tg iter : Expr} {ifs : List Expr} {ti : AD} {tt : TD} {te : ED} {pos : Pos}
theorem m_comp (mi : MonoA ti) : MonoE (vComp caps ti tt te) := fun δ P P' g h => mi _ _ _ (fun ds ⟨outs, hol, each, hlen, q⟩ => ⟨outs, hol, each, hlen, g _ q⟩) h
theorem d_comp (S : CompScope X scope cl [x] caps cn) (hc : X.calm = true) (hi : PId X tg iter ti) (hg : ∀ C fp s₂ H₂, PG (cxComp X scope cl C ([x] ++ cn) fp s₂ H₂) tg (gName 0)) (ht : ∀ C fp s₂ H₂, PTsd (cxComp X scope cl C ([x] ++ cn) fp s₂ H₂) ifs tt)
    (he : ∀ C fp s₂ H₂, PD (cxComp X scope cl C ([x] ++ cn) fp s₂ H₂) elt te) (mt : MonoT tt) (me : MonoE te) (hs : ∀ x, foldedSetIterable iter X.env x = pure x := by intro _; rfl) : PD X (.ListComp elt [⟨tg, iter, ifs, 0⟩] scope pos) (vComp caps ti tt te) :=
  ⟨(pe_comp S hc hi.pi hg (fun C fp s₂ H₂ => pts_frameN (ht C fp s₂ H₂).pts) (fun C fp s₂ H₂ => pe_frameN (he C fp s₂ H₂).pe) hs).imp fun σ H Q h => comp_imp hi.mono mt me h, m_comp hi.mono⟩
theorem s_comp {i : Nat} {y : Str} {py spos : Pos} (hN : X.N.Nodup) (hi' : X.N[i]? = some y) (hy : Loc X.env.scope y) (S : CompScope X scope cl [x] caps cn) (hc : X.calm = true) (hi : PId X tg iter ti)
    (hg : ∀ C fp s₂ H₂, PG (cxComp X scope cl C ([x] ++ cn) fp s₂ H₂) tg (gName 0)) (ht : ∀ C fp s₂ H₂, PTsd (cxComp X scope cl C ([x] ++ cn) fp s₂ H₂) ifs tt) (he : ∀ C fp s₂ H₂, PD (cxComp X scope cl C ([x] ++ cn) fp s₂ H₂) elt te) (mt : MonoT tt) (me : MonoE te)
    (hsw : swapsWith (.ListComp elt [⟨tg, iter, ifs, 0⟩] scope pos) (some (.Name y py)) spos.line X.env = pure true := by rfl) (hf : X.fn y = true ∨ X.env.scope.names.lookup y = some .local := by first | exact .inl rfl | exact .inr rfl | assumption)
    (hs : ∀ x, foldedSetIterable iter X.env x = pure x := by intro _; rfl) : PSd X (.Assign [.Name y py] (.ListComp elt [⟨tg, iter, ifs, 0⟩] scope pos) spos) (qSet i (vComp caps ti tt te)) :=
  ⟨PS.imp (ps_comp hN hi' hy S hc hi.pi hg (fun C fp s₂ H₂ => pts_frameN (ht C fp s₂ H₂).pts) (fun C fp s₂ H₂ => pe_frameN (he C fp s₂ H₂).pe) hsw hf hs) fun D σ H ⟨δ, r, h⟩ =>
     comp_imp hi.mono mt me ⟨δ, r, m_comp hi.mono _ _ _ (fun d q v H1 s1 dv => q _ H1 s1 ((r.same s1).set i dv)) h⟩,
   fun E E' δ l h => m_comp hi.mono _ _ _ (fun d q => l.nx _ q) h⟩
end
end DC

set_option maxHeartbeats 4000000
namespace DC
open PySem PySem.Spec PyProof.Rows L2
def kindD : D → Option String
  | .non => some "NoneType"
  | .bl _ => some "bool"
  | .int _ => some "int"
  | .str _ => some "str"
  | .lst _ => some "list"
  | .tup _ => some "tuple"
  | .dK _ => some "dict"
  | .dT _ => some "dict"
  | .obj _ _ => none
  | .adr _ => none
  | .exc _ _ _ => none
structure OwnTy (K : PySem.W.Frag) (C : Addr) : Prop where
  cl : Cls K C
  ha : PySem.W.findIn K (.ref C) "__class__" = some (some (.builtin "object.__class__"))
  hn : PySem.W.specialIn K (.builtin "object.__class__") "__get__" = some (some (.builtin "getset_descriptor.__get__"))
  htk : PySem.W.takesIn K (.builtin "object.__class__") = some true
  hm : PySem.W.mroIn K C (.type "object") = some true
inductive TyD (K : PySem.W.Frag) : D → Value → Prop
  | k {d : D} {T : String} (h : kindD d = some T) : TyD K d (.type T)
  | o {C : Addr} {gs : List (Str × D)} (h : OwnTy K C) : TyD K (.obj C gs) (.ref C)
section
variable {X : Cx} {pins : List (Addr × Obj)} {σ : L2.St} {H : Hp} {s : Shared}
theorem isi_run {x : V} {u t : Value} {d : D} (I : Inv X pins σ H s) (rx : RelV x u) (dv : Dv X.K H x d) (ty : TyD X.K d t) : ∃ Hh, PySem.W.KitX X.K u t Hh ∧ Hh s.heap ∧ u ≠ .builtin "__main__.__loader__#opaque" := by
  cases ty with
  | k h =>
    cases dv with
    | non => cases h; cases (show u = Value.none from rx); exact ⟨_, PySem.W.kitx_none, True.intro, fun z => nomatch z⟩
    | bl y => cases h; cases (show u = Value.bool y from rx); exact ⟨_, PySem.W.kitx_bool, True.intro, fun z => nomatch z⟩
    | int i => cases h; obtain ⟨t, q⟩ := (show ∃ t, u = Value.int i t from rx); cases q; exact ⟨_, PySem.W.kitx_int, True.intro, fun z => nomatch z⟩
    | str y => cases h; obtain ⟨t, q⟩ := (show ∃ t, u = Value.str y t from rx); cases q; exact ⟨_, PySem.W.kitx_str, True.intro, fun z => nomatch z⟩
    | @lst a xs ds h1 h2 =>
      cases h
      cases (show u = Value.ref a from rx)
      obtain ⟨its, _, pl, _⟩ := I.list h1
      obtain ⟨o, n, e1, e2, _⟩ := pl
      exact ⟨_, PySem.W.kitx_list, ⟨o, e1, e2⟩, fun z => nomatch z⟩
    | @tup a xs ds h1 h2 =>
      cases h
      cases (show u = Value.ref a from rx)
      obtain ⟨its, _, pl, _⟩ := I.tuple h1
      obtain ⟨o, n, e1, e2, _⟩ := IsTup.of_get pl
      exact ⟨_, PySem.W.kitx_tuple, ⟨o, e1, e2⟩, fun z => nomatch z⟩
    | @dK a kvs gs h1 h2 =>
      cases h
      cases (show u = Value.ref a from rx)
      obtain ⟨_, _, vs, _, p⟩ := (show ObjOk X.prog X.w H s.heap a (.dK kvs) from h1.ok I.hok)
      obtain ⟨o, es, ep, g1, g2, _⟩ := p
      exact ⟨_, PySem.W.kitx_dict, ⟨o, g1, g2.1⟩, fun z => nomatch z⟩
    | @dT a kvs gs h1 h2 =>
      cases h
      cases (show u = Value.ref a from rx)
      obtain ⟨_, _, xs, _, o, es, ep, g1, g2, _⟩ := (show ObjOk X.prog X.w H s.heap a (.dT kvs) from h1.ok I.hok)
      exact ⟨_, PySem.W.kitx_dict, ⟨o, g1, g2.1⟩, fun z => nomatch z⟩
    | obj h1 h2 => cases h
    | adr _ => cases h
    | exc _ _ _ => cases h
  | o h =>
    cases dv with
    | @obj a C dx fs gs h1 h2 =>
      cases (show u = Value.ref a from rx)
      obtain ⟨mA, O, _⟩ := ins_getR I.hok h1
      obtain ⟨od, J, _⟩ := O.look
      exact ⟨_, PySem.W.kitx_own (h.cl.get _) h.cl.hd h.ha h.hn h.htk h.hm, J, fun z => nomatch z⟩
end
section
variable {X : Cx} {e : Expr} {te : ED} {pos p p2 : Pos}
theorem call_isiD {c : Value} {vc : V} (rc : ∀ u, RelV vc u → u = c) : CallR X (.builtin "isinstance") (fun xs H Q => ∃ x d t b, xs = [x, vc] ∧ Dv X.K H x d ∧ TyD X.K d t ∧ PySem.W.kitOne X.K t c = some b ∧ Q (.bl b) H) := by
  intro pins s σ H xs us Q I r h
  obtain ⟨x, d, t, b, rfl, dv, ty, e, q⟩ := h
  obtain ⟨u, w', rfl, r1, r2⟩ := vals2 r
  obtain rfl := rc w' r2
  obtain ⟨Hh, Z, hh, hx⟩ := isi_run I r1 dv ty
  exact PySem.W.kia_one Z I.kIn hh e hx fun tk => ⟨.bl b, H, I.tok _, rfl, q⟩
def vIsi (K : PySem.W.Frag) (c : Value) (te : ED) : ED := fun δ Q => te δ fun d => ∃ t b, TyD K d t ∧ PySem.W.kitOne K t c = some b ∧ Q (.bl b)
theorem d_isi_of {c : Value} {vc : V} (he : PD X e te) {ec : Expr} (hp : PE X (.Call (.Name "isinstance" p) [e, ec] [] pos) (tCB (fun xs H Q => ∃ x d t b, xs = [x, vc] ∧ Dv X.K H x d ∧ TyD X.K d t ∧ PySem.W.kitOne X.K t c = some b ∧ Q (.bl b) H) (tCons (oE X.K te) (tCons (tC vc) tNil)))) :
    PD X (.Call (.Name "isinstance" p) [e, ec] [] pos) (vIsi X.K c te) :=
  ⟨hp.imp fun σ H Q ⟨δ, r, h⟩ => ⟨δ, r, he.mono _ _ _ (fun d ⟨t, b, ty, ek, k⟩ v H1 s1 dv => ⟨v, d, t, b, rfl, dv, ty, ek, k _ H1 s1 (.bl _)⟩) h⟩, fun δ P P' g h => he.mono _ _ _ (fun d ⟨t, b, ty, ek, k⟩ => ⟨t, b, ty, ek, g _ k⟩) h⟩
theorem d_isiT {T : String} {x : Str} (he : PD X e te) (hg : Gl X "isinstance") (hm : X.mg "isinstance" = none) (hg2 : Gl X x) (hm2 : X.mg x = none) (hv2 : bootBuiltins x = some (.type T)) (hn : x ≠ "__name__" := by decide) (hd : (x == ("__debug__" : Str)) = false := by decide)
    (hs : starEach [e, .Name x p2] X.env = (false, eval e X.env) :: starEach [.Name x p2] X.env := by rfl) : PD X (.Call (.Name "isinstance" p) [e, .Name x p2] [] pos) (vIsi X.K (.type T) te) :=
  d_isi_of (vc := .ty T) he (pe_callB (call_isiD fun u z => z) hg hm boot_isinstance (pa_cons he.pe (pa_cons (pe_bltn (v := .ty T) hg2 hm2 hv2 rfl hn hd) pa_nil) hs) (he := hs))
end
def isiT (T : String) (d : D) : Option Bool := (kindD d).map fun k => k == T || (k == "bool" && T == "int")
theorem kit_tbl {K : PySem.W.Frag} {d : D} {k T : String} (hk : kindD d = some k) (hT : T ∈ ["bool", "int", "str", "list", "tuple", "dict"]) : PySem.W.kitOne K (.type k) (.type T) = some (k == T || (k == "bool" && T == "int")) := by
  have hk' : k ∈ ["NoneType", "bool", "int", "str", "list", "tuple", "dict"] := by cases d <;> cases hk <;> simp
  simp only [List.mem_cons, List.not_mem_nil, or_false] at hk' hT
  rcases hk' with rfl | rfl | rfl | rfl | rfl | rfl | rfl <;> rcases hT with rfl | rfl | rfl | rfl | rfl | rfl <;> kernel_rfl
def vIsiT (T : String) (te : ED) : ED := fun δ Q => te δ fun d => ∃ b, isiT T d = some b ∧ Q (.bl b)
theorem PD.isiT {X : Cx} {e : Expr} {te : ED} {T : String} (h : PD X e (vIsi X.K (.type T) te)) (m : MonoE te) (hT : T ∈ ["bool", "int", "str", "list", "tuple", "dict"]) : PD X e (vIsiT T te) :=
  ⟨h.pe.imp fun σ H Q ⟨δ, r, q⟩ => ⟨δ, r, m _ _ _ (fun d ⟨b, eb, k⟩ => by
      unfold DC.isiT at eb
      cases hk : kindD d with
      | none => rw [hk] at eb; cases eb
      | some kk =>
        rw [hk] at eb
        have e1 : (kk == T || (kk == "bool" && T == "int")) = b := by simpa using eb
        exact ⟨_, b, .k hk, by rw [kit_tbl hk hT, e1], k⟩) q⟩, fun δ P P' g q => m _ _ _ (fun d ⟨b, eb, k⟩ => ⟨b, eb, g _ k⟩) q⟩
def lenD : D → Option Int
  | .str x => if x.length ≤ sizeLine then some x.length else none
  | .lst xs => some xs.length
  | .tup xs => some xs.length
  | _ => none
def sdLen : SpD := fun ds Q => ∃ d n, ds = [d] ∧ lenD d = some n ∧ Q (.int n)
theorem m_len : MonoS sdLen := fun ds P P' g ⟨d, n, e, h, q⟩ => ⟨d, n, e, h, g _ q⟩
theorem does_len {K : PySem.W.Frag} : DoesB K (fun xs H Q => ∃ x n, xs = [x] ∧ LenV K x H n ∧ Q (.int n) H) sdLen := by
  intro H vs ds Q dvs ⟨d, n, e, h, q⟩
  subst e
  cases dvs with
  | cons dv r =>
    cases r
    cases dv with
    | str x =>
      have h' : (if x.length ≤ sizeLine then some (x.length : Int) else none) = some n := h
      by_cases hz : x.length ≤ sizeLine
      · rw [if_pos hz] at h'
        cases h'
        exact ⟨_, x.length, rfl, ⟨hz, rfl⟩, q _ H (Same.refl _) (.int _)⟩
      · rw [if_neg hz] at h'
        cases h'
    | lst h1 h2 => cases h; exact ⟨_, _, rfl, .inl ⟨_, h1, rfl⟩, by rw [h2.length]; exact q _ H (Same.refl _) (.int _)⟩
    | tup h1 h2 => cases h; exact ⟨_, _, rfl, .inr ⟨_, h1, rfl⟩, by rw [h2.length]; exact q _ H (Same.refl _) (.int _)⟩
    | _ => cases h
section
variable {X : Cx} {e : Expr} {es : List Expr} {t : AD} {pos p : Pos}
theorem d_len (hg : Gl X "len") (hm : X.mg "len" = none) (ha : PAd X (e :: es) t) (h1 : starEach (e :: es) X.env = (false, eval e X.env) :: starEach es X.env := by rfl) (h2 : (backTo pos (starEach es X.env)).any (·.1) = false := by rfl) :
    PD X (.Call (.Name "len" p) (e :: es) [] pos) (vB sdLen t) := d_cb (pe_callB call_len hg hm PySem.boot_len ha.pa (he := h1) (hpl := h2)) ha.mono does_len m_len
theorem boot_str : bootBuiltins "str" = some (.type "str") := by decide +kernel
theorem boot_intT : bootBuiltins "int" = some (.type "int") := by decide +kernel
theorem boot_boolT : bootBuiltins "bool" = some (.type "bool") := by decide +kernel
theorem boot_tuple : bootBuiltins "tuple" = some (.type "tuple") := by decide +kernel
theorem boot_list : bootBuiltins "list" = some (.type "list") := by decide +kernel
theorem boot_allB : bootBuiltins "all" = some (.builtin "all") := by decide +kernel
def sdInt : SpD := fun ds Q => (∃ i, ds = [.int i] ∧ Q (.int i)) ∨ ∃ k : Bool, ds = [.bl k] ∧ Q (.int (if k then 1 else 0))
theorem m_int : MonoS sdInt := fun ds P P' g h => h.elim (fun ⟨i, e, q⟩ => .inl ⟨i, e, g _ q⟩) fun ⟨k, e, q⟩ => .inr ⟨k, e, g _ q⟩
theorem does_int {K : PySem.W.Frag} : DoesB K (fun xs H Q => (∃ i, xs = [.int i] ∧ Q (.int i) H) ∨ ∃ k, xs = [.bl k] ∧ Q (.int (if k then 1 else 0)) H) sdInt := by
  intro H vs ds Q dvs h
  rcases h with ⟨i, e, q⟩ | ⟨k, e, q⟩
  · subst e
    cases dvs with
    | cons dv r => cases r; cases dv; exact .inl ⟨i, rfl, q _ H (Same.refl _) (.int _)⟩
  · subst e
    cases dvs with
    | cons dv r => cases r; cases dv; exact .inr ⟨k, rfl, q _ H (Same.refl _) (.int _)⟩
theorem d_int_of (hg : Gl X "int") (hm : X.mg "int" = none) (ha : PAd X (e :: es) t) (h1 : starEach (e :: es) X.env = (false, eval e X.env) :: starEach es X.env := by rfl) (h2 : (backTo pos (starEach es X.env)).any (·.1) = false := by rfl) : PD X (.Call (.Name "int" p) (e :: es) [] pos) (vB sdInt t) := d_cb (pe_callTy call_int1 hg hm boot_intT ha.pa (he := h1) (hpl := h2)) ha.mono does_int m_int
def sdAll : SpD := fun ds Q => ∃ (bs : List Bool), ds = [.lst (bs.map D.bl)] ∧ Q (.bl (bs.all id))
theorem m_all : MonoS sdAll := fun ds P P' g ⟨bs, e, q⟩ => ⟨bs, e, g _ q⟩
theorem vals_bl {K : PySem.W.Frag} {H : Hp} : ∀ {vs : List V} {bs : List Bool}, Dvs K H vs (bs.map D.bl) → vs = bs.map V.bl
  | [], [], _ => rfl
  | _, _ :: _, .cons (.bl _) r => by rw [vals_bl r]; rfl
theorem does_all {K : PySem.W.Frag} {A : Around} (hh : A.handled = none) : DoesB K (fun xs H Q => ∃ (p : Addr) (bs : List Bool), xs = [.ref p] ∧ A.handled = none ∧ SqL K H p (bs.map V.bl) ∧ Q (.bl (bs.all id)) H) sdAll := by
  intro H vs ds Q dvs ⟨bs, e, q⟩
  subst e
  cases dvs with
  | cons dv r =>
    cases r
    cases dv with
    | lst h1 h2 =>
      rw [vals_bl h2] at h1
      exact ⟨_, bs, rfl, hh, h1, q _ H (Same.refl _) (.bl _)⟩
theorem d_all (hh : X.A.handled = none) (hg : Gl X "all") (hm : X.mg "all" = none) (ha : PAd X (e :: es) t) (h1 : starEach (e :: es) X.env = (false, eval e X.env) :: starEach es X.env := by rfl) (h2 : (backTo pos (starEach es X.env)).any (·.1) = false := by rfl) : PD X (.Call (.Name "all" p) (e :: es) [] pos) (vB sdAll t) := d_cb (pe_callB call_all hg hm boot_allB ha.pa (he := h1) (hpl := h2)) ha.mono (does_all hh) m_all
end
end DC

set_option maxHeartbeats 4000000
namespace DC
open PySem PySem.Spec PyProof.Rows L2
structure MOk (X : Cx) (C : Addr) (m : Str) (sd : SpD) (dd : List D) (k : Nat) (f : Addr) (fd : FuncData) (ps : List Str) (dvs : List V) (ds : List Value) : Prop where
  cls : Cls X.K C
  meth : Meth X.K C m f
  fn : FnOk X.prog X.w X.K X.mg X.base CX0 k f fd ps (spOf X.K sd)
  mono : MonoS sd
  room : Room k X.A
  binds : Binds X.K fd ps ds
  vals : Vals dvs ds
  dflt : ∀ H, Dvs X.K H dvs dd
structure MH (X : Cx) (C : Addr) (m : Str) (sd : SpD) (dd : List D) : Prop where
  ex : ∃ k f fd ps dvs ds, MOk X C m sd dd k f fd ps dvs ds
def vMeth (ok : Addr → Prop) (m : Str) (sd : Addr → SpD) (dd : List D) (ta : ED) (t : AD) : ED := fun δ Q => ta δ fun d => ∃ C gs, d = .obj C gs ∧ gs.lookup m = none ∧ ok C ∧ t δ fun ds => sd C (d :: (ds ++ dd)) Q
section
variable {X : Cx} {ok : Addr → Prop} {o e : Expr} {es : List Expr} {m : Str} {sd : Addr → SpD} {dd : List D} {ta : ED} {t : AD} {pos apos : Pos}
def tMethD (X : Cx) (m : Str) (sd : Addr → SpD) (dd : List D) (ta : TE) (t : TA) : TE := fun σ H Q => ta σ H fun x H1 => ∃ a C dx fs, x = .ref a ∧ Rd H1 a (.ins C dx fs) ∧ fs.lookup m = none ∧ MH X C m (sd C) dd ∧
  ∀ dvs, (∀ H, Dvs X.K H dvs dd) → t σ H1 fun vs H2 => spOf X.K (sd C) (x :: (vs ++ dvs)) H2 Q E0
theorem pe_methD0 {ta : TE} {pl : Sem Bool} (he : PE X o ta)
    (ht : eval (.Call (.Attribute o m apos) [] [] pos) X.env = (do
      let ov ← eval o X.env
      standAt apos.atName
      let (f, first) ← holding [ov] (getMethod ov m pl)
      callWith pos f first (backTo pos (starEach [] X.env)) (backToKw pos (keywordEach [] X.env))) := by rfl) :
    PE X (.Call (.Attribute o m apos) [] [] pos) (tMethD X m sd dd ta tNil) := by
  intro pins s σ H Q I h
  refine PySem.W.methodCall_KW (pl := pl) (thn (he pins s σ H _ I h) fun u s1 ⟨x, H1, I1, rx, a, C, dx, fs, ex, ea, l, ⟨k, f, fd, ps, dvs, ds, M⟩, q⟩ => ?_) ht
  subst ex
  obtain rfl : u = Value.ref a := rx
  refine getmeth_okR I1 ea M.cls M.meth l ?_
  exact PySem.W.callWith_K0 (first := [.ref a]) I1.kIn M.meth.kp (run_fn (us := [.ref a]) (vs := [.ref a]) M.fn M.room M.binds M.vals pass0 I1 (.cons rfl .nil) (q dvs M.dflt))
theorem m_meth (hM : ∀ C, ok C → MH X C m (sd C) dd) (ma : MonoE ta) (mt : MonoA t) : MonoE (vMeth ok m sd dd ta t) := fun δ P P' g h => ma _ _ _ (fun d ⟨C, gs, e, l, M, q⟩ => ⟨C, gs, e, l, M, mt _ _ _ (fun ds k => by
  obtain ⟨_, _, _, _, _, _, M'⟩ := hM C M
  exact M'.mono _ _ _ g k) q⟩) h
theorem meth_of (hM : ∀ C, ok C → MH X C m (sd C) dd) (ma : MonoE ta) (mt : MonoA t) {σ : L2.St} {H : Hp} {Q : VK} (h : oE X.K (vMeth ok m sd dd ta t) σ H Q) : tMethD X m sd dd (oE X.K ta) (oA X.K t) σ H Q := by
  obtain ⟨δ, r, h⟩ := h
  refine ⟨δ, r, ma _ _ _ (fun d ⟨C, gs, ed, l, M, q⟩ v H1 s1 dv => ?_) h⟩
  subst ed
  cases dv with
  | @obj a C dx fs gs h1 h2 =>
    refine ⟨_, C, dx, fs, rfl, h1, h2.none l, hM C M, fun dvs hd => ⟨δ, r.same s1, mt _ _ _ (fun ds k vs H2 s2 dvs' => ?_) q⟩⟩
    obtain ⟨_, _, _, _, _, _, M'⟩ := hM C M
    exact ⟨_, .cons (Dv.same s2 (.obj h1 h2)) (dvs'.append (hd H2)), M'.mono _ _ _ (fun d k => k.on (s1.trans s2)) k⟩
theorem d_meth0 {pl : Sem Bool} (hM : ∀ C, ok C → MH X C m (sd C) dd) (he : PD X o ta)
    (ht : eval (.Call (.Attribute o m apos) [] [] pos) X.env = (do
      let ov ← eval o X.env
      standAt apos.atName
      let (f, first) ← holding [ov] (getMethod ov m pl)
      callWith pos f first (backTo pos (starEach [] X.env)) (backToKw pos (keywordEach [] X.env))) := by rfl) :
    PD X (.Call (.Attribute o m apos) [] [] pos) (vMeth ok m sd dd ta aNil) :=
  ⟨(pe_methD0 he.pe ht).imp fun σ H Q h => by
      have q := meth_of (t := aNil) hM he.mono (fun δ P P' g h => g _ h) h
      obtain ⟨δ, r, h'⟩ := q
      refine ⟨δ, r, he.mono _ _ _ (fun d k v H1 s1 dv => ?_) h'⟩
      obtain ⟨a, C, dx, fs, e1, e2, l, M, z⟩ := k v H1 s1 dv
      refine ⟨a, C, dx, fs, e1, e2, l, M, fun dvs hd => ?_⟩
      obtain ⟨δ', r', z'⟩ := z dvs hd
      exact z' [] H1 (Same.refl _) .nil, m_meth hM he.mono fun δ P P' g h => g _ h⟩
end
end DC

set_option maxHeartbeats 4000000
namespace DC
open PySem PySem.Spec PyProof.Rows L2
abbrev FD := List (Str × D)
structure EndsI where
  nx : SD → FD → Prop
  rt : FD → Prop
  fin : FD → Prop
abbrev TID := EndsI → SD → FD → Prop
structure EndsI.Le (E E' : EndsI) : Prop where
  nx : ∀ δ gs, E.nx δ gs → E'.nx δ gs
  rt : ∀ gs, E.rt gs → E'.rt gs
  fin : ∀ gs, E.fin gs → E'.fin gs
abbrev MonoI (t : TID) : Prop := ∀ E E' δ gs, EndsI.Le E E' → t E δ gs → t E' δ gs
def putD (f : Str) (d : D) : FD → FD
  | [] => [(f, d)]
  | (g, e) :: r => if g = f then (g, d) :: r else (g, e) :: putD f d r
structure AtI (K : PySem.W.Frag) (C a dx : Addr) (H : Hp) (gs : FD) : Prop where
  ex : ∃ fs, H a = some (.ins C dx fs) ∧ Dvf K (hid H a dx) fs gs
  ne : dx ≠ a
def endI (K : PySem.W.Frag) (C a dx : Addr) (H : Hp) (D : Ends) : EndsI :=
  ⟨fun δ gs => ∀ σ H', Same (hid H a dx) (hid H' a dx) → RelS K (hid H' a dx) σ δ → AtI K C a dx H' gs → D.nx σ H', fun gs => ∀ H', Same (hid H a dx) (hid H' a dx) → AtI K C a dx H' gs → D.rt .non H', fun gs => ∀ σ H', Same (hid H a dx) (hid H' a dx) → AtI K C a dx H' gs → D.nx σ H'⟩
def oI (K : PySem.W.Frag) (C : Addr) (t : Addr → TID) : TS := fun D σ H => ∃ a dx δ gs, RelS K (hid H a dx) σ δ ∧ AtI K C a dx H gs ∧ t a (endI K C a dx H D) δ gs
structure PIs (X : Cx) (C : Addr) (st : List Stmt) (t : Addr → TID) : Prop where
  ps : PSs X st (oI X.K C t)
  mono : ∀ a, MonoI (t a)
structure PIn (X : Cx) (C : Addr) (st : Stmt) (t : Addr → TID) : Prop where
  ps : PS X st (oI X.K C t)
  mono : ∀ a, MonoI (t a)
section
variable {X : Cx} {C : Addr} {st : Stmt} {rest : List Stmt} {t u : Addr → TID} {e : Expr} {te : ED} {pos pos' p : Pos} {f : Str}
theorem endI_on {K : PySem.W.Frag} {a dx : Addr} {H H1 : Hp} {D : Ends} (s : Same (hid H a dx) (hid H1 a dx)) : EndsI.Le (endI K C a dx H D) (endI K C a dx H1 D) :=
  ⟨fun _ _ h σ H' s' r g => h σ H' (s.trans s') r g, fun _ h H' s' g => h H' (s.trans s') g, fun _ h σ H' s' g => h σ H' (s.trans s') g⟩
def iSeq (t u : Addr → TID) : Addr → TID := fun a E δ gs => t a { nx := u a E, rt := E.rt, fin := fun _ => False } δ gs
theorem i_cons (h1 : PIn X C st t) (h2 : PIs X C rest u) : PIs X C (st :: rest) (iSeq t u) :=
  ⟨PSs.imp (pss_cons h1.ps h2.ps) fun D σ H ⟨a, dx, δ, gs, r, g, h⟩ => ⟨a, dx, δ, gs, r, g, h1.mono a { nx := u a (endI X.K C a dx H D), rt := (endI X.K C a dx H D).rt, fin := fun _ => False } _ _ _
     ⟨fun δ' gs' q σ' H' s' r' g' => ⟨a, dx, δ', gs', r', g', h2.mono a _ _ _ _ (endI_on s') q⟩, fun gs' q => q, fun gs' q => q.elim⟩ h⟩,
   fun a E E' δ gs l h => h1.mono a { nx := u a E, rt := E.rt, fin := fun _ => False } _ _ _ ⟨fun δ' gs' q => h2.mono a _ _ _ _ l q, l.rt, fun _ q => q.elim⟩ h⟩
def iEnd : Addr → TID := fun a E δ gs => E.fin gs
theorem i_nil : PIs X C [] iEnd := ⟨PSs.imp pss_nil fun D σ H ⟨a, dx, δ, gs, r, g, h⟩ => h σ H (Same.refl _) g, fun a E E' δ gs l h => l.fin _ h⟩
def iFree (t : TSD) : Addr → TID := fun a E δ gs => t { nx := fun δ' => E.nx δ' gs, rt := fun d => d = .non ∧ E.rt gs } δ
theorem i_free {t : TSD} (h : PSd X st t) : PIn X C st (iFree t) := by
  refine ⟨PS.imp (ps_frameNO h.ps) fun D σ H ⟨a, dx, δ, gs, r, ⟨⟨fs, ha, hf⟩, ne⟩, q⟩ => ⟨a, dx, C, fs, ha, δ, r, ?_⟩, fun a E E' δ gs l q => h.mono { nx := fun δ' => E.nx δ' gs, rt := fun d => d = .non ∧ E.rt gs } _ _ ⟨fun δ' k => l.nx _ _ k, fun d k => ⟨k.1, l.rt _ k.2⟩, fun _ k => k, fun _ k => k⟩ q⟩
  refine h.mono { nx := fun δ' => (endI X.K C a dx H D).nx δ' gs, rt := fun d => d = .non ∧ (endI X.K C a dx H D).rt gs } _ _ ⟨fun δ' k σ' H' s' r' z1 z2 _ => ?_, fun d k v H' s' dv z1 z2 _ => ?_, fun _ k => k.elim, fun _ k => k.elim⟩ q
  · have hs : hid (shown H' a dx C fs) a dx = H' := hid_shown z1 z2
    exact k σ' _ (by rw [hs]; exact s') (by rw [hs]; exact r') ⟨⟨fs, shown_a, by rw [hs]; exact Dvf.same s' hf⟩, ne⟩
  · have hs : hid (shown H' a dx C fs) a dx = H' := hid_shown z1 z2
    obtain ⟨e, k⟩ := k
    subst e
    cases dv
    exact k _ (by rw [hs]; exact s') ⟨⟨fs, shown_a, by rw [hs]; exact Dvf.same s' hf⟩, ne⟩
theorem Dvf.put {K : PySem.W.Frag} {H : Hp} {v : V} {d : D} (dv : Dv K H v d) : ∀ {fs : List (Str × V)} {gs : FD}, Dvf K H fs gs → Dvf K H (putF f v fs) (putD f d gs)
  | _, _, .nil => .cons dv .nil
  | _, _, .cons (k := k) h r => by
    unfold putF putD
    by_cases q : k = f
    · rw [if_pos q, if_pos q]; exact .cons dv r
    · rw [if_neg q, if_neg q]; exact .cons h (Dvf.put dv r)
theorem Dvf.length {K : PySem.W.Frag} {H : Hp} : ∀ {fs : List (Str × V)} {gs : FD}, Dvf K H fs gs → fs.length = gs.length
  | _, _, .nil => rfl
  | _, _, .cons _ r => congrArg (· + 1) (Dvf.length r)
def iSet (K : PySem.W.Frag) (C : Addr) (f : Str) (te : ED) : Addr → TID := fun a E δ gs => te δ fun d => δ[0]? = some (some (.adr a)) ∧ Cls K C ∧ NoAttr K C f ∧ gs.length < 1000 ∧ E.nx δ (putD f d gs)
theorem i_set {x : Str} (hN : X.N[0]? = some x) (hv : Vis X.env.scope x) (he : PD X e te) (hs : swapsWith e (some (.Attribute (.Name x p) f pos')) pos.line X.env = pure false := by rfl) (hd : (x == ("__debug__" : Str)) = false := by decide)
    (hcd : (x == ("__classdict__" : Str)) = false := by decide) : PIn X C (.Assign [.Attribute (.Name x p) f pos'] e pos) (iSet X.K C f te) := by
  refine ⟨PS.imp (ps_fld (pe_var hN hv hd hcd) (pe_frameNO he.pe) hs) fun D σ H ⟨a, dx, δ, gs, r, ⟨⟨fs, ha, hf⟩, ne⟩, q⟩ => ⟨a, dx, C, fs, ha, δ, r, ?_⟩, fun a E E' δ gs l q => he.mono _ _ _ (fun d ⟨k0, k1, k2, k3, k⟩ => ⟨k0, k1, k2, k3, l.nx _ _ k⟩) q⟩
  refine he.mono _ _ _ (fun d ⟨k0, k1, k2, k3, k⟩ v H' s' dv z1 z2 _ => ?_) q
  obtain ⟨w, hw, dw⟩ := r.get 0 _ k0
  cases dw
  refine ⟨_, hw, a, C, dx, fs, rfl, shown_a, k1, k2, by rw [hf.length]; exact k3, ?_⟩
  rw [upd_shown]
  have hs : hid (shown H' a dx C (putF f v fs)) a dx = H' := hid_shown z1 z2
  exact k σ _ (by rw [hs]; exact s') (by rw [hs]; exact r.same s') ⟨⟨_, shown_a, by rw [hs]; exact (Dvf.same s' hf).put dv⟩, ne⟩
theorem hid_same {H : Hp} {a dx : Addr} : Same (hid H a dx) H := fun b o h => by
  unfold hid at h
  split at h
  · cases h
  · exact h
theorem AtI.dv {K : PySem.W.Frag} {a dx : Addr} {H : Hp} {gs : FD} (g : AtI K C a dx H gs) : Dv K H (.ref a) (.obj C gs) := by
  obtain ⟨⟨fs, h, hf⟩, _⟩ := g
  exact .obj (.of h) (Dvf.same hid_same hf)
end
abbrev SpI := List D → (FD → Prop) → Prop
abbrev MonoSI (sd : SpI) : Prop := ∀ ds (P P' : FD → Prop), (∀ d, P d → P' d) → sd ds P → sd ds P'
def spI (K : PySem.W.Frag) (C : Addr) (sd : SpI) : Sp := fun vs H Q _ => ∃ a dx vs' ds, vs = .ref a :: vs' ∧ AtI K C a dx H [] ∧ Dvs K (hid H a dx) vs' ds ∧ sd ds fun gs => ∀ H', Same (hid H a dx) (hid H' a dx) → AtI K C a dx H' gs → Q .non H'
section
variable {P : Program} {w : World} {K : PySem.W.Frag} {mg : Str → Option Value} {base : Heap}
structure FunV (K : PySem.W.Frag) (x qual : Str) (st : Stmt) (f : Addr) (fd : FuncData) : Prop where
  ex : ∃ (oc : Value) (od : Option Addr) (dV kV doc pm : Value) (an : Option Addr) (cdv ct : Value) (osl : Array (Option Value)),
    fd = PySem.W.fnOf x qual (defArgs st) (defBody st) (defScope st) dV kV doc pm an cdv ct ∧ K.lookup f = some ⟨oc, od, .func fd, osl⟩ ∧ PySem.W.codeIn K cdv qual = true
  kp : PySem.W.keepIn K (.ref f) = true
theorem FunV.ok {P : Program} {w : World} {K : PySem.W.Frag} {mg : Str → Option Value} {base : Heap} {x qual : Str} {st : Stmt} {f : Addr} {fd : FuncData} {N ps : List Str} {k : Nat} {sp : Sp} (F : FunV K x qual st f fd) (S : FnScope N ps (defScope st)) (len : ∀ vs H Q E, sp vs H Q E → vs.length = ps.length)
    (hbody : ∀ (cdv : Value) (A : Around) (outer : List Env) (s : Shared) (H : Hp) (vs : List V) (Q : VK) (E : XK), Room k (A.deeper (envOfC qual (defScope st) s.heap.objs.size f cdv)) → sp vs H Q E →
      ∃ t, PSs (cxOf CX0 P w K mg base N qual (defScope st) f cdv A outer s H E).nox (defBody st) t ∧ t { nx := fun _ H' => Q .non H', rt := Q } (L2.start N vs) H) : FnOk P w K mg base CX0 (k + 1) f fd ps sp := by
  obtain ⟨oc, od, dV, kV, doc, pm, an, cdv, ct, osl, rfl, lk, hcd⟩ := F.ex
  refine fn_of lk hcd S len fun A outer s H vs Q E hr hsp => ?_
  obtain ⟨t, h, q⟩ := hbody cdv A outer s H vs Q E hr hsp
  exact ⟨t, h.nox, q⟩
theorem okI {x qual : Str} {st : Stmt} {f C : Addr} {fd : FuncData} {N ps : List Str} {k : Nat} {sd : SpI} {t : Addr → TID} (F : FunV K x qual st f fd) (S : FnScope N ps (defScope st)) (len : ∀ ds Q, sd ds Q → ds.length + 1 = ps.length)
    (hb : ∀ (cdv : Value) (A : Around) (outer : List Env) (s : Shared) (H : Hp) (E : XK), Room k (A.deeper (envOfC qual (defScope st) s.heap.objs.size f cdv)) → PIs (Bx P w K mg base N qual st f cdv A outer s H E) C (defBody st) t)
    (hr : ∀ a ds Q, sd ds Q → t a { nx := fun _ => Q, rt := Q, fin := Q } (startD N (.adr a :: ds)) []) : FnOk P w K mg base CX0 (k + 1) f fd ps (spI K C sd) := by
  refine F.ok S (fun vs H Q E ⟨a, dx, vs', ds, e, g, dvs, h⟩ => by rw [e, List.length_cons, dvs.length]; exact len ds _ h) (fun cdv A outer s H vs Q E hroom ⟨a, dx, vs', ds, e, g, dvs, h⟩ => ?_)
  have B := hb cdv A outer s H E hroom
  subst e
  refine ⟨_, B.ps, a, dx, startD N (.adr a :: ds), [], start_rel (.cons (.adr a) dvs), g, ?_⟩
  let Q' : FD → Prop := fun gs => ∀ H', Same (hid H a dx) (hid H' a dx) → AtI K C a dx H' gs → Q .non H'
  exact B.mono a { nx := fun _ => Q', rt := Q', fin := Q' } _ _ _ ⟨fun δ gs q σ H' s' r' g' => q H' s' g', fun gs q H' s' g' => q H' s' g', fun gs q σ H' s' g' => q H' s' g'⟩ (hr a ds _ h)
end
section
variable {X : Cx} {C f : Addr} {fd : FuncData} {ps : List Str} {sd : SpI} {dd : List D} {dvs : List V} {dls : List Value} {k : Nat} {x : Str} {e : Expr} {es : List Expr} {t : AD} {p pos : Pos}
def vMake (C : Addr) (sd : SpI) (dd : List D) (t : AD) : ED := fun δ Q => t δ fun ds => sd (ds ++ dd) fun gs => Q (.obj C gs)
theorem d_make (M : Mk X.K C f) (F : FnOk X.prog X.w X.K X.mg X.base CX0 k f fd ps (spI X.K C sd)) (ms : MonoSI sd) (hr : Room (k + 1) X.A) (hg : Gl X x) (hm : X.mg x = some (.ref C)) (hb : Binds X.K fd ps dls) (hv : Vals dvs dls) (hd : ∀ H, Dvs X.K H dvs dd)
    (ha : PAd X (e :: es) t) (hdb : (x == ("__debug__" : Str)) = false := by decide) (he : starEach (e :: es) X.env = (false, eval e X.env) :: starEach es X.env := by rfl) (hpl : (backTo pos (starEach es X.env)).any (·.1) = false := by rfl) :
    PD X (.Call (.Name x p) (e :: es) [] pos) (vMake C sd dd t) := by
  refine ⟨(pe_make M F hr hg hm hb hv pass0 ha.pa hdb he hpl).imp fun σ H Q ⟨δ, r, h⟩ => ⟨δ, r, ha.mono _ _ _ (fun ds q vs H1 s1 dvs' y dx hy hdx ne => ?_) h⟩, fun δ P P' g h => ha.mono _ _ _ (fun ds q => ms _ _ _ (fun gs z => g _ z) q) h⟩
  have hs : hid (shown H1 y dx C []) y dx = H1 := hid_shown hy hdx
  refine ⟨y, dx, _, _, rfl, ⟨⟨[], shown_a, .nil⟩, ne⟩, ?_, ms _ _ _ (fun gs z H' s' g' => ⟨rfl, z _ H' ?_ g'.dv⟩) q⟩
  · show Dvs X.K (hid (shown H1 y dx C []) y dx) _ _
    rw [hs]
    exact dvs'.append (hd H1)
  · have s2 : Same (hid (shown H1 y dx C []) y dx) (hid H' y dx) := s'
    rw [hs] at s2
    exact s1.trans (s2.trans hid_same)
end
end DC

set_option maxHeartbeats 4000000
namespace L2
open PySem PySem.Spec PyProof.Rows
section
variable {X : Cx}
end
section
variable {prog : Program} {w : World} {A : Around} {R : Result → Shared → Prop} {I : Addr} {fp wr : List Addr} {n : Nat} {P : Nat → Value → Prop} {St : Nat → Heap → Prop} {E : Value → Shared → Prop} {s : Shared} {Q : Value → Shared → Prop}
end
end L2

set_option maxHeartbeats 4000000
namespace L2
open PySem PySem.Spec PyProof.Rows
section
variable {X : Cx}
end
end L2

set_option maxHeartbeats 4000000
namespace L2
open PySem PySem.Spec PyProof.Rows
section
variable {X : Cx} {e c : Expr} {te tc : TE} {p pos kp : Pos}
end
end L2
namespace DC
open PySem PySem.Spec PyProof.Rows L2
section
variable {X : Cx} {e c : Expr} {te tc : ED} {p pos kp : Pos} {es : List Expr} {t : AD}
end
end DC

set_option maxHeartbeats 4000000
namespace DC
open PySem PySem.Spec PyProof.Rows L2
section
variable {K : PySem.W.Frag} {H H1 H4 : Hp} {μ : Mu} {L : List Addr}
end
section
variable {X : Cx} {st : Stmt} {rest body els : List Stmt} {t u : TMD} {e c : Expr} {te : ED} {uc : TD} {pos : Pos}
end
end DC

set_option maxHeartbeats 4000000
namespace DC
open PySem PySem.Spec PyProof.Rows L2
section
variable {K : PySem.W.Frag} {H : Hp} {μ : Mu} {L : List Addr} {a : Addr} {vs ys : List V} {ds : List D}
end
section
variable {X : Cx} {e : Expr} {te : ED} {es : List Expr} {t : AD} {i : Nat} {x : Str} {p pos pos' apos cpos : Pos}
end
end DC

set_option maxHeartbeats 4000000
namespace L2
open PySem PySem.Spec PyProof.Rows
section
variable {X : Cx} {tg : Expr} {g : TG}
end
end L2
namespace DC
open PySem PySem.Spec PyProof.Rows L2
section
variable {X : Cx} {tg iter : Expr} {body : List Stmt} {ti : AD} {g : TGD} {tb : TMD} {pos : Pos}
end
section
variable {P : Program} {w : World} {K : PySem.W.Frag} {mg : Str → Option Value} {base : Heap}
end
end DC

set_option maxHeartbeats 4000000
namespace DC
open PySem PySem.Spec PyProof.Rows L2
structure Cal (P : Program) (w : World) (K : PySem.W.Frag) (mg : Str → Option Value) (base : Heap) (k : Nat) (x : Str) (ps : List Str) (sd : SpD) : Prop where
  ex : ∃ f fd, FnOk P w K mg base CX0 k f fd ps (spOf K sd) ∧ mg x = some (.ref f) ∧ PySem.W.keepIn K (.ref f) = true ∧ Binds K fd ps []
  ms : MonoS sd
section
variable {P : Program} {w : World} {K : PySem.W.Frag} {mg : Str → Option Value} {base : Heap}
theorem Cal.up {j k : Nat} {x : Str} {ps : List Str} {sd : SpD} (c : Cal P w K mg base j x ps sd) (h : j ≤ k) : Cal P w K mg base k x ps sd :=
  ⟨let ⟨f, fd, F, r⟩ := c.ex; ⟨f, fd, F.mono h, r⟩, c.ms⟩
structure Df (K : PySem.W.Frag) (mg : Str → Option Value) (x : Str) (st : Stmt) (ps : List Str) : Prop where
  ex : ∃ f fd, Fun K x x st f fd ∧ mg x = some (.ref f) ∧ Binds K fd ps []
theorem Df.cal {k : Nat} {x : Str} {st : Stmt} {ps N : List Str} {sd : SpD} {t : TSD} (d : Df K mg x st ps) (S : FnScope N ps (defScope st)) (ms : MonoS sd) (len : ∀ ds Q, sd ds Q → ds.length = ps.length)
    (hb : ∀ (f : Addr) (cdv : Value) (A : Around) (outer : List Env) (s : Shared) (H : Hp) (E : XK), Room k (A.deeper (envOfC x (defScope st) s.heap.objs.size f cdv)) → PSsd (Bx P w K mg base N x st f cdv A outer s H E) (defBody st) t)
    (hr : ∀ ds Q, sd ds Q → t { nx := fun _ => Q .non, rt := Q } (startD N ds)) : Cal P w K mg base (k + 1) x ps sd := by
  obtain ⟨f, fd, F, m, b⟩ := d.ex
  exact ⟨⟨f, fd, okD F S len (hb f) hr, m, F.kp, b⟩, ms⟩
end
section
variable {X : Cx} {e : Expr} {es : List Expr} {t : AD} {j k : Nat} {x : Str} {ps : List Str} {sd : SpD} {p pos : Pos}
theorem d_cal (c : Cal X.prog X.w X.K X.mg X.base j x ps sd) (hr : Room k X.A) (hj : j ≤ k) (hg : Gl X x) (ha : PAd X (e :: es) t) (hdb : (x == ("__debug__" : Str)) = false := by decide)
    (h1 : starEach (e :: es) X.env = (false, eval e X.env) :: starEach es X.env := by rfl) (h2 : (backTo pos (starEach es X.env)).any (·.1) = false := by rfl) : PD X (.Call (.Name x p) (e :: es) [] pos) (vCall sd t) := by
  obtain ⟨f, fd, F, m, kp, b⟩ := c.ex
  exact d_call F c.ms (hr.mono hj) hg m kp b ha hdb (pe_call F (hr.mono hj) hg m kp b .nil pass0 ha.pa hdb h1 h2)
end
end DC

set_option maxHeartbeats 4000000
namespace DC
open PySem PySem.Spec PyProof.Rows L2
section
variable {X : Cx} {scope : Scope} {cl : List (Str × Addr)} {x : Str} {caps : List Nat} {cn : List Str} {tg iter elt : Expr} {ifs : List Expr} {ti : AD} {tt : TD} {te : ED} {pos : Pos}
theorem d_lc (S : CompScope X scope cl [x] caps cn) (hc : X.calm = true) (hi : PId X tg iter ti) (hg : ∀ C fp s₂ H₂, PG (cxComp X scope cl C ([x] ++ cn) fp s₂ H₂) tg (gName 0)) (ht : ∀ C fp s₂ H₂, PTsd (cxComp X scope cl C ([x] ++ cn) fp s₂ H₂) ifs tt)
    (he : ∀ C fp s₂ H₂, PD (cxComp X scope cl C ([x] ++ cn) fp s₂ H₂) elt te) (hs : ∀ x, foldedSetIterable iter X.env x = pure x := by intro _; rfl) : PD X (.ListComp elt [⟨tg, iter, ifs, 0⟩] scope pos) (vComp caps ti tt te) :=
  d_comp S hc hi hg ht he (ht 0 [] X.s₀ X.H₀).mono (he 0 [] X.s₀ X.H₀).mono hs
theorem s_lc {i : Nat} {y : Str} {py spos : Pos} (hN : X.N.Nodup) (hi' : X.N[i]? = some y) (hy : Loc X.env.scope y) (S : CompScope X scope cl [x] caps cn) (hc : X.calm = true) (hi : PId X tg iter ti)
    (hg : ∀ C fp s₂ H₂, PG (cxComp X scope cl C ([x] ++ cn) fp s₂ H₂) tg (gName 0)) (ht : ∀ C fp s₂ H₂, PTsd (cxComp X scope cl C ([x] ++ cn) fp s₂ H₂) ifs tt) (he : ∀ C fp s₂ H₂, PD (cxComp X scope cl C ([x] ++ cn) fp s₂ H₂) elt te)
    (hsw : swapsWith (.ListComp elt [⟨tg, iter, ifs, 0⟩] scope pos) (some (.Name y py)) spos.line X.env = pure true := by rfl) (hf : X.fn y = true ∨ X.env.scope.names.lookup y = some .local := by first | exact .inl rfl | exact .inr rfl | assumption)
    (hs : ∀ x, foldedSetIterable iter X.env x = pure x := by intro _; rfl) : PSd X (.Assign [.Name y py] (.ListComp elt [⟨tg, iter, ifs, 0⟩] scope pos) spos) (qSet i (vComp caps ti tt te)) :=
  s_comp hN hi' hy S hc hi hg ht he (ht 0 [] X.s₀ X.H₀).mono (he 0 [] X.s₀ X.H₀).mono hsw hf hs
theorem isSome_of {cl : List (Str × Addr)} {y : Str} : y ∈ cl.map (·.1) → (cl.lookup y).isSome = true := by
  induction cl with
  | nil => intro h; cases h
  | cons p r ih =>
    intro h
    rw [List.lookup_cons]
    cases q : y == p.1 with
    | true => rfl
    | false =>
      rw [List.map_cons, List.mem_cons] at h
      rcases h with h | h
      · rw [h] at q; simp at q
      · exact ih h
theorem free_of {cl : List (Str × Addr)} (ks : List Str) (hk : cl.map (·.1) = ks) (h : ∀ y ∈ scope.names, y.2 = .free → y.1 ∈ ks) : ∀ y ∈ scope.names, y.2 = .free → (cl.lookup y.1).isSome = true := fun y hy e => isSome_of (by rw [hk]; exact h y hy e)
theorem cells_nil {f : Str × Addr → Prop} : ∀ p ∈ ([] : List (Str × Addr)), f p := fun p h => nomatch h
theorem cells_cons {f : Str × Addr → Prop} {a : Str × Addr} {r : List (Str × Addr)} (h : f a) (hr : ∀ p ∈ r, f p) : ∀ p ∈ a :: r, f p := List.forall_mem_cons.mpr ⟨h, hr⟩
end
section
variable {X : Cx} {e : Expr} {te : ED} {p p2 pos : Pos}
theorem isi_bool (hg : Gl X "isinstance") (hm : X.mg "isinstance" = none) (hg2 : Gl X "bool") (hm2 : X.mg "bool" = none) (he : PD X e te) (hs : starEach [e, .Name "bool" p2] X.env = (false, eval e X.env) :: starEach [.Name "bool" p2] X.env := by rfl) : PD X (.Call (.Name "isinstance" p) [e, .Name "bool" p2] [] pos) (vIsiT "bool" te) := (d_isiT he hg hm hg2 hm2 boot_boolT (by decide) (by decide) hs).isiT he.mono (by decide)
theorem isi_int (hg : Gl X "isinstance") (hm : X.mg "isinstance" = none) (hg2 : Gl X "int") (hm2 : X.mg "int" = none) (he : PD X e te) (hs : starEach [e, .Name "int" p2] X.env = (false, eval e X.env) :: starEach [.Name "int" p2] X.env := by rfl) : PD X (.Call (.Name "isinstance" p) [e, .Name "int" p2] [] pos) (vIsiT "int" te) := (d_isiT he hg hm hg2 hm2 boot_intT (by decide) (by decide) hs).isiT he.mono (by decide)
theorem isi_str (hg : Gl X "isinstance") (hm : X.mg "isinstance" = none) (hg2 : Gl X "str") (hm2 : X.mg "str" = none) (he : PD X e te) (hs : starEach [e, .Name "str" p2] X.env = (false, eval e X.env) :: starEach [.Name "str" p2] X.env := by rfl) : PD X (.Call (.Name "isinstance" p) [e, .Name "str" p2] [] pos) (vIsiT "str" te) := (d_isiT he hg hm hg2 hm2 boot_str (by decide) (by decide) hs).isiT he.mono (by decide)
theorem isi_tuple (hg : Gl X "isinstance") (hm : X.mg "isinstance" = none) (hg2 : Gl X "tuple") (hm2 : X.mg "tuple" = none) (he : PD X e te) (hs : starEach [e, .Name "tuple" p2] X.env = (false, eval e X.env) :: starEach [.Name "tuple" p2] X.env := by rfl) : PD X (.Call (.Name "isinstance" p) [e, .Name "tuple" p2] [] pos) (vIsiT "tuple" te) := (d_isiT he hg hm hg2 hm2 boot_tuple (by decide) (by decide) hs).isiT he.mono (by decide)
theorem isi_list (hg : Gl X "isinstance") (hm : X.mg "isinstance" = none) (hg2 : Gl X "list") (hm2 : X.mg "list" = none) (he : PD X e te) (hs : starEach [e, .Name "list" p2] X.env = (false, eval e X.env) :: starEach [.Name "list" p2] X.env := by rfl) : PD X (.Call (.Name "isinstance" p) [e, .Name "list" p2] [] pos) (vIsiT "list" te) := (d_isiT he hg hm hg2 hm2 boot_list (by decide) (by decide) hs).isiT he.mono (by decide)
end
end DC

set_option maxHeartbeats 4000000
namespace DC
open PySem PySem.Spec PyProof.Rows L2
structure Mcal (P : Program) (w : World) (K : PySem.W.Frag) (mg : Str → Option Value) (base : Heap) (j : Nat) (C : Addr) (m : Str) (sd : SpD) (dd : List D) : Prop where
  ex : ∃ f fd ps dvs ds, Cls K C ∧ Meth K C m f ∧ FnOk P w K mg base CX0 j f fd ps (spOf K sd) ∧ Binds K fd ps ds ∧ Vals dvs ds ∧ ∀ H, Dvs K H dvs dd
  ms : MonoS sd
theorem Mcal.mh {X : Cx} {j k : Nat} {C : Addr} {m : Str} {sd : SpD} {dd : List D} (c : Mcal X.prog X.w X.K X.mg X.base j C m sd dd) (hr : Room k X.A) (hj : j ≤ k) : MH X C m sd dd :=
  let ⟨f, fd, ps, dvs, ds, h1, h2, h3, h4, h5, h6⟩ := c.ex
  ⟨j, f, fd, ps, dvs, ds, h1, h2, h3, c.ms, hr.mono hj, h4, h5, h6⟩
theorem Mcal.up {P : Program} {w : World} {K : PySem.W.Frag} {mg : Str → Option Value} {base : Heap} {i j : Nat} {C : Addr} {m : Str} {sd : SpD} {dd : List D} (c : Mcal P w K mg base i C m sd dd) (h : i ≤ j) : Mcal P w K mg base j C m sd dd :=
  ⟨let ⟨f, fd, ps, dvs, ds, h1, h2, h3, r⟩ := c.ex; ⟨f, fd, ps, dvs, ds, h1, h2, h3.mono h, r⟩, c.ms⟩
structure Dm (K : PySem.W.Frag) (C : Addr) (m qual : Str) (st : Stmt) (ps : List Str) : Prop where
  ex : ∃ f fd, Fun K m qual st f fd ∧ Meth K C m f ∧ Cls K C ∧ Binds K fd ps []
section
variable {P : Program} {w : World} {K : PySem.W.Frag} {mg : Str → Option Value} {base : Heap}
theorem Dm.cal {k : Nat} {C : Addr} {m qual : Str} {st : Stmt} {ps N : List Str} {sd : SpD} {t : TSD} (d : Dm K C m qual st ps) (S : FnScope N ps (defScope st)) (ms : MonoS sd) (len : ∀ ds Q, sd ds Q → ds.length = ps.length)
    (hb : ∀ (f : Addr) (cdv : Value) (A : Around) (outer : List Env) (s : Shared) (H : Hp) (E : XK), Room k (A.deeper (envOfC qual (defScope st) s.heap.objs.size f cdv)) → PSsd (Bx P w K mg base N qual st f cdv A outer s H E) (defBody st) t)
    (hr : ∀ ds Q, sd ds Q → t { nx := fun _ => Q .non, rt := Q } (startD N ds)) : Mcal P w K mg base (k + 1) C m sd [] := by
  obtain ⟨f, fd, F, M, c, b⟩ := d.ex
  exact ⟨⟨f, fd, ps, [], [], c, M, okD F S len (hb f) hr, b, .nil, fun _ => .nil⟩, ms⟩
structure Mkr (P : Program) (w : World) (K : PySem.W.Frag) (mg : Str → Option Value) (base : Heap) (j : Nat) (x : Str) (C : Addr) (sd : SpI) (dd : List D) : Prop where
  ex : ∃ f fd ps dvs ds, Mk K C f ∧ FnOk P w K mg base CX0 j f fd ps (spI K C sd) ∧ mg x = some (.ref C) ∧ Binds K fd ps ds ∧ Vals dvs ds ∧ ∀ H, Dvs K H dvs dd
  ms : MonoSI sd
structure Di (K : PySem.W.Frag) (mg : Str → Option Value) (x : Str) (C : Addr) (qual : Str) (st : Stmt) (ps : List Str) (dd : List D) : Prop where
  ex : ∃ f fd dvs ds, FunV K "__init__" qual st f fd ∧ Mk K C f ∧ mg x = some (.ref C) ∧ Binds K fd ps ds ∧ Vals dvs ds ∧ ∀ H, Dvs K H dvs dd
theorem Di.mkr {k : Nat} {x : Str} {C : Addr} {qual : Str} {st : Stmt} {ps N : List Str} {dd : List D} {sd : SpI} {t : Addr → TID} (d : Di K mg x C qual st ps dd) (S : FnScope N ps (defScope st)) (ms : MonoSI sd) (len : ∀ ds Q, sd ds Q → ds.length + 1 = ps.length)
    (hb : ∀ (f : Addr) (cdv : Value) (A : Around) (outer : List Env) (s : Shared) (H : Hp) (E : XK), Room k (A.deeper (envOfC qual (defScope st) s.heap.objs.size f cdv)) → PIs (Bx P w K mg base N qual st f cdv A outer s H E) C (defBody st) t)
    (hr : ∀ a ds Q, sd ds Q → t a { nx := fun _ => Q, rt := Q, fin := Q } (startD N (.adr a :: ds)) []) : Mkr P w K mg base (k + 1) x C sd dd := by
  obtain ⟨f, fd, dvs, ds, F, M, m, b, v, h⟩ := d.ex
  exact ⟨⟨f, fd, ps, dvs, ds, M, okI F S len (hb f) hr, m, b, v, h⟩, ms⟩
end
section
variable {X : Cx} {ok : Addr → Prop} {o e : Expr} {es : List Expr} {m x : Str} {sd : Addr → SpD} {dd : List D} {ta : ED} {t : AD} {pos apos p : Pos} {j k : Nat} {C : Addr} {si : SpI}
theorem d_m0 {pl : Sem Bool} (hM : ∀ C, ok C → Mcal X.prog X.w X.K X.mg X.base j C m (sd C) dd) (hr : Room k X.A) (hj : j ≤ k) (he : PD X o ta)
    (ht : eval (.Call (.Attribute o m apos) [] [] pos) X.env = (do
      let ov ← eval o X.env
      standAt apos.atName
      let (f, first) ← holding [ov] (getMethod ov m pl)
      callWith pos f first (backTo pos (starEach [] X.env)) (backToKw pos (keywordEach [] X.env))) := by rfl) :
    PD X (.Call (.Attribute o m apos) [] [] pos) (vMeth ok m sd dd ta aNil) := d_meth0 (fun C h => (hM C h).mh hr hj) he ht
theorem d_mk (c : Mkr X.prog X.w X.K X.mg X.base j x C si dd) (hr : Room k X.A) (hj : j + 1 ≤ k) (hg : Gl X x) (ha : PAd X (e :: es) t) (hdb : (x == ("__debug__" : Str)) = false := by decide)
    (h1 : starEach (e :: es) X.env = (false, eval e X.env) :: starEach es X.env := by rfl) (h2 : (backTo pos (starEach es X.env)).any (·.1) = false := by rfl) : PD X (.Call (.Name x p) (e :: es) [] pos) (vMake C si dd t) := by
  obtain ⟨f, fd, ps, dvs, ds, M, F, m, b, v, h⟩ := c.ex
  exact d_make M F c.ms (hr.mono hj) hg m b v h ha hdb h1 h2
end
section
variable {X : Cx} {e : Expr} {te : ED} {p p2 pos pos' : Pos} {f x : Str} {C : Addr}
theorem d_fldK (K : PySem.W.Frag) (hK : X.K = K) (he : PD X e te) (hb : attributeBase e f X.env (eval e X.env) = eval e X.env) : PD X (.Attribute e f pos) (vFld K te f) := by subst hK; exact d_fld he hb
theorem i_setK (K : PySem.W.Frag) (hK : X.K = K) (hN : X.N[0]? = some x) (hv : Vis X.env.scope x) (he : PD X e te) (hs : swapsWith e (some (.Attribute (.Name x p) f pos')) pos.line X.env = pure false := by rfl) (hd : (x == ("__debug__" : Str)) = false := by decide)
    (hcd : (x == ("__classdict__" : Str)) = false := by decide) : PIn X C (.Assign [.Attribute (.Name x p) f pos'] e pos) (iSet K C f te) := by subst hK; exact i_set hN hv he hs hd hcd
end
end DC

set_option maxHeartbeats 4000000
namespace DC
open PySem PySem.Spec PyProof.Rows L2
section
variable {X : Cx} {o e : Expr} {es : List Expr} {to te : ED} {t : AD} {p p1 p2 tp pos apos cpos : Pos}
def vIsi2 (T U : String) (te : ED) : ED := fun δ Q => te δ fun d => ∃ a b, isiT T d = some a ∧ isiT U d = some b ∧ Q (.bl (a || b))
theorem call_isi2 {T U : String} : CallR X (.builtin "isinstance") (fun xs H Q => ∃ x q d t b, xs = [x, .ref q] ∧ H q = some (.tup [.ty T, .ty U]) ∧ Dv X.K H x d ∧ TyD X.K d t ∧ PySem.W.kitAny X.K t [.type T, .type U] = some b ∧ Q (.bl b) H) := by
  intro pins s σ H xs us Q I r h
  obtain ⟨x, q, d, t, b, rfl, hq, dv, ty, e, k⟩ := h
  obtain ⟨u, w', rfl, r1, r2⟩ := vals2 r
  cases (show w' = Value.ref q from r2)
  obtain ⟨Hh, Z, hh, hx⟩ := isi_run I r1 dv ty
  obtain ⟨its, rv, ht, _⟩ := I.tuple (SqT.of hq)
  obtain ⟨ob, ho, hc, n, hd⟩ := id ht
  obtain ⟨y1, y2, rfl, z1, z2⟩ := vals2 rv
  cases (show y1 = Value.type T from z1)
  cases (show y2 = Value.type U from z2)
  obtain ⟨cls, dd, data, sl⟩ := ob
  simp only at hc hd
  subst hc hd
  exact PySem.W.kia_tup Z I.kIn hh ho e hx fun tk => ⟨.bl b, H, I.tok _, rfl, k⟩
theorem kit_two {K : PySem.W.Frag} {d : D} {T U : String} {a b : Bool} (hT : T ∈ ["bool", "int", "str", "list", "tuple", "dict"]) (hU : U ∈ ["bool", "int", "str", "list", "tuple", "dict"]) (h1 : isiT T d = some a) (h2 : isiT U d = some b) :
    ∃ t, TyD K d t ∧ PySem.W.kitAny K t [.type T, .type U] = some (a || b) := by
  unfold DC.isiT at h1 h2
  cases hk : kindD d with
  | none => rw [hk] at h1; cases h1
  | some kk =>
    rw [hk] at h1 h2
    have e1 : (kk == T || (kk == "bool" && T == "int")) = a := by simpa using h1
    have e2 : (kk == U || (kk == "bool" && U == "int")) = b := by simpa using h2
    refine ⟨_, .k hk, ?_⟩
    unfold PySem.W.kitAny
    rw [kit_tbl hk hT, e1]
    cases a with
    | true => rfl
    | false =>
      unfold PySem.W.kitAny
      rw [kit_tbl hk hU, e2]
      cases b <;> rfl
theorem d_isi2 {T U : String} {x y : Str} {c : Nat} (he : PD X e te) (hg : Gl X "isinstance") (hm : X.mg "isinstance" = none) (g1 : Gl X x) (m1 : X.mg x = none) (b1 : bootBuiltins x = some (.type T)) (g2 : Gl X y) (m2 : X.mg y = none) (b2 : bootBuiltins y = some (.type U))
    (hT : T ∈ ["bool", "int", "str", "list", "tuple", "dict"]) (hU : U ∈ ["bool", "int", "str", "list", "tuple", "dict"]) (n1 : x ≠ "__name__" := by decide) (n2 : y ≠ "__name__" := by decide) (d1 : (x == ("__debug__" : Str)) = false := by decide) (d2 : (y == ("__debug__" : Str)) = false := by decide)
    (hs : starEach [e, .Tuple [.Name x p1, .Name y p2] c tp] X.env = (false, eval e X.env) :: starEach [.Tuple [.Name x p1, .Name y p2] c tp] X.env := by rfl) :
    PD X (.Call (.Name "isinstance" p) [e, .Tuple [.Name x p1, .Name y p2] c tp] [] pos) (vIsi2 T U te) := by
  refine ⟨(pe_callB (call_isi2 (T := T) (U := U)) hg hm boot_isinstance (pa_cons he.pe (pa_cons (pe_tup (pa_cons (pe_bltn (v := .ty T) g1 m1 b1 rfl n1 d1) (pa_cons (pe_bltn (v := .ty U) g2 m2 b2 rfl n2 d2) pa_nil))) pa_nil) hs) (he := hs)).imp
    fun σ H Q ⟨δ, r, h⟩ => ⟨δ, r, he.mono _ _ _ (fun d ⟨a, b, ea, eb, k⟩ v H1 s1 dv => ⟨(show 2 ≤ sizeLine by decide), fun q hq => ?_⟩) h⟩, fun δ P P' g h => he.mono _ _ _ (fun d ⟨a, b, ea, eb, k⟩ => ⟨a, b, ea, eb, g _ k⟩) h⟩
  obtain ⟨t, ty, ek⟩ := kit_two (K := X.K) hT hU ea eb
  exact ⟨v, q, d, t, _, rfl, upd_same, dv.same (same_upd hq), ty, ek, k _ _ (s1.trans (same_upd hq)) (.bl _)⟩
def sdSplit (z : D) : SpD := fun ds Q => ∃ x y, z = .str x ∧ ds = [.str y] ∧ (y.length == 0) = false ∧ x.length + 2 ≤ sizeLine ∧ Q (.lst ((Txt.split x y).map D.str))
theorem dvs_strs {K : PySem.W.Frag} {H : Hp} : ∀ (ws : List Str), Dvs K H (ws.map V.str) (ws.map D.str)
  | [] => .nil
  | w :: ws => .cons (.str w) (dvs_strs ws)
def isStr : D → Prop := fun d => ∃ x, d = .str x
def vBmS (sd : D → SpD) (to : ED) (t : AD) : ED := fun δ Q => to δ fun z => isStr z ∧ t δ fun ds => sd z ds Q
theorem d_split (ho : PD X o to) (ha : PAd X (e :: es) t) (hbase : attributeBase o "split" X.env (eval o X.env) = eval o X.env := by rfl)
    (hfew : ((backTo cpos (starEach (e :: es) X.env)).all (fun x => !x.1) && (backToKw cpos (keywordEach [] X.env)).all (fun x => x.1.isSome) && decide ((e :: es).length + ([] : List Keyword).length + (if ([] : List Keyword).isEmpty then 0 else 1) < 30)) = true := by rfl)
    (hline : (apos.endLine == cpos.line) = true := by rfl) (hs : starEach (e :: es) X.env = (false, eval e X.env) :: starEach es X.env := by rfl) (hplain : (backTo cpos (starEach es X.env)).any (·.1) = false := by rfl) :
    PD X (.Call (.Attribute o "split" apos) (e :: es) [] cpos) (vBmS sdSplit to t) := by
  refine ⟨(pe_bm PySem.F.plainAttrs_str PySem.F.slot_str_split PySem.F.type_str_split mt_split ho.pe ha.pa hbase hfew hline hs hplain).imp fun σ H Q ⟨δ, r, h⟩ => ⟨δ, r, ho.mono _ _ _ (fun z ⟨⟨x, ez⟩, q⟩ v H1 s1 dv => ?_) h⟩,
    fun δ P P' g h => ho.mono _ _ _ (fun z ⟨i, q⟩ => ⟨i, ha.mono _ _ _ (fun ds ⟨x, y, e1, e2, c1, c2, k⟩ => ⟨x, y, e1, e2, c1, c2, g _ k⟩) q⟩) h⟩
  subst ez
  cases dv
  refine ⟨rfl, δ, r.same s1, ha.mono _ _ _ (fun ds ⟨x', y, e1, e2, c1, c2, k⟩ vs H2 s2 dvs => ?_) q⟩
  cases e1
  subst e2
  cases dvs with
  | cons a b =>
    cases a
    cases b
    exact ⟨_, y, rfl, rfl, c1, c2, fun p hp => k _ _ ((s1.trans s2).trans (same_upd hp)) (.lst (SqL.of upd_same) (dvs_strs _))⟩
end
end DC

set_option maxHeartbeats 4000000
namespace L2
open PySem PySem.Spec PyProof.Rows
section
variable {X : Cx}
end
end L2
namespace DC
open PySem PySem.Spec PyProof.Rows L2
section
variable {X : Cx} {e : Expr} {es : List Expr} {t : AD} {p pos : Pos}
end
end DC

set_option maxHeartbeats 4000000
namespace L2
open PySem PySem.Spec PyProof.Rows
section
variable {prog : Program} {w : World} {A : Around} {E : Value → Shared → Prop} {s : Shared}
theorem nextTup_item {it t : Addr} {i : Nat} {items : Array Value} {x : Value} {Q : Value → Shared → Prop} (hit : s.heap.IsTupleIter it t i) (ht : s.heap.IsTuple t items) (hx : items[i]? = some x)
    (hQ : ∀ h', h'.IsTupleIter it t (i + 1) → Heap.SameBut it s.heap h' → Q x { s with heap := h' }) : wpAny (model prog w) A (Builtin.SmallTypes.nextOf (.ref it)) Q E s := by
  obtain ⟨o, ho, hc, hd⟩ := id hit
  obtain ⟨ol, hol, _, nl, hdl⟩ := ht
  unfold Builtin.SmallTypes.nextOf
  refine wpAny_bind (wpAny_callSpecial?_slot (name := Str.ofString "__next__") hit.typeIs F.slot_tuple_iterator_next (wpAny_call_entry F.slot_tuple_iterator_next hit.typeIs F.entry_tuple_iterator_next ?_ (F.args_tuple_iterator_next_1 _)))
  show wpAny _ _ (field (.ref it) 0 >>= _) _ _ s
  refine wpAny_bind (wpAny_field ho hd (x := .ref t) rfl ?_)
  show wpAny _ _ (if (Value.ref t == Value.none) = true then _ else _) _ _ s
  rw [if_neg (show ¬ ((Value.ref t == Value.none) = true) from Bool.false_ne_true)]
  show wpAny _ _ (field (.ref it) 1 >>= _) _ _ s
  refine wpAny_bind (wpAny_field ho hd (x := .int i 0) rfl ?_)
  show wpAny _ _ (seqItems? (.ref t) >>= _) _ _ s
  refine wpAny_bind (wpAny_seqItems hol hdl ?_)
  simp only [Int.toNat_natCast, hx]
  refine wpAny_bind (wpAny_setField ho hd (by simp) (wpAny_pure ⟨x, rfl, wpAny_pure (hQ _ ?_ (Heap.SameBut.update ..))⟩))
  exact ⟨_, Heap.get?_update_self _ ho (Obj.isFreed_of_fields (Obj.data_mapFields hd _)), (Obj.cls_mapFields ..).trans hc, by rw [Obj.data_mapFields hd]; simp [rawInt]⟩
theorem nextTup_end {it t : Addr} {i : Nat} {items : Array Value} {Q : Value → Shared → Prop} (hh : A.handled = none) (hit : s.heap.IsTupleIter it t i) (ht : s.heap.IsTuple t items) (hx : items[i]? = none)
    (hE : ∀ h' e, Heap.ExtBut it s.heap h' → (∃ o, h'.get? e = some o ∧ o.cls = .type "StopIteration") → E (.ref e) { s with heap := h' }) : wpAny (model prog w) A (Builtin.SmallTypes.nextOf (.ref it)) Q E s := by
  obtain ⟨o, ho, hc, hd⟩ := id hit
  obtain ⟨ol, hol, _, nl, hdl⟩ := ht
  unfold Builtin.SmallTypes.nextOf
  refine wpAny_bind (wpAny_callSpecial?_slot (name := Str.ofString "__next__") hit.typeIs F.slot_tuple_iterator_next (wpAny_call_entry F.slot_tuple_iterator_next hit.typeIs F.entry_tuple_iterator_next ?_ (F.args_tuple_iterator_next_1 _)))
  show wpAny _ _ (field (.ref it) 0 >>= _) _ _ s
  refine wpAny_bind (wpAny_field ho hd (x := .ref t) rfl ?_)
  show wpAny _ _ (if (Value.ref t == Value.none) = true then _ else _) _ _ s
  rw [if_neg (show ¬ ((Value.ref t == Value.none) = true) from Bool.false_ne_true)]
  show wpAny _ _ (field (.ref it) 1 >>= _) _ _ s
  refine wpAny_bind (wpAny_field ho hd (x := .int i 0) rfl ?_)
  show wpAny _ _ (seqItems? (.ref t) >>= _) _ _ s
  refine wpAny_bind (wpAny_seqItems hol hdl ?_)
  simp only [Int.toNat_natCast, hx]
  refine wpAny_bind (wpAny_rule (wpAny_bind (wpAny_setField ho hd (by simp) ?_)))
  show wpAny _ _ (newExc (.type "StopIteration") [] >>= _) _ _ _
  refine wpAny_bind ?_
  simp only [newExc, newTuple]
  refine wpAny_bind (wpAny_newObj_type ?_ (by size_fits))
  refine wpAny_bind (m := firstArgMember _ _) (wpAny_of_eq (a := Value.none) (by first | rfl | (simp only [firstArgMember]; rfl)) ?_)
  refine wpAny_newObj_type ?_ (by size_fits)
  simp only [raiseNew]
  refine wpAny_bind (wpAny_handled ?_)
  first | rw [show A.in1.handled = none from hh] | rw [hh]
  refine wpAny_bind (wpAny_pure (wpAny_throw ?_))
  exact hE _ _ (((Heap.SameBut.update ..).extBut.push _).push _) ⟨_, Heap.get?_push_size _ rfl, rfl⟩
end
structure Sq (prog : Program) (w : World) (A : Around) (i l : Addr) (xs : Array Value) (S : Nat → Heap → Prop) : Prop where
  item : ∀ (k : Nat) (s : Shared) (x : Value) (Q : Value → Shared → Prop) (E : Value → Shared → Prop), S k s.heap → xs[k]? = some x → (∀ h', S (k + 1) h' → Heap.SameBut i s.heap h' → Q x { s with heap := h' }) → wpAny (model prog w) A (Builtin.SmallTypes.nextOf (.ref i)) Q E s
  stop : ∀ (k : Nat) (s : Shared) (Q : Value → Shared → Prop) (E : Value → Shared → Prop), S k s.heap → xs[k]? = none → (∀ h' e, Heap.ExtBut i s.heap h' → (∃ o, h'.get? e = some o ∧ o.cls = .type "StopIteration") → E (.ref e) { s with heap := h' }) → wpAny (model prog w) A (Builtin.SmallTypes.nextOf (.ref i)) Q E s
  keep : ∀ (k : Nat) (h h' : Heap), S k h → (∀ o, h.get? i = some o → h'.get? i = some o) → (∀ o, h.get? l = some o → h'.get? l = some o) → S k h'
  there : ∀ (k : Nat) (h : Heap), S k h → ∃ o, h.get? i = some o ∧ ∀ v, o.data ≠ .cell v
section
variable {prog : Program} {w : World} {A : Around}
theorem sq_list (hh : A.handled = none) (i l : Addr) (hne : l ≠ i) (xs : Array Value) : Sq prog w A i l xs (fun k h => h.IsListIter i l k ∧ h.IsList l xs) where
  item := fun k s x Q E ⟨h1, h2⟩ hx hQ => wpAny_nextOf_list_item h1 h2 hx fun h' h1' sb => hQ h' ⟨h1', h2.extBut sb.extBut hne⟩ sb
  stop := fun k s Q E ⟨h1, h2⟩ hx hE => wpAny_nextOf_list_end hh h1 h2 hx hE
  keep := fun k h h' ⟨h1, h2⟩ a b => ⟨h1.at a, h2.at b⟩
  there := fun k h ⟨⟨o, e, c, d⟩, _⟩ => ⟨o, e, fun v z => by rw [d] at z; cases z⟩
theorem sq_tup (hh : A.handled = none) (i l : Addr) (hne : l ≠ i) (xs : Array Value) : Sq prog w A i l xs (fun k h => h.IsTupleIter i l k ∧ h.IsTuple l xs) where
  item := fun k s x Q E ⟨h1, h2⟩ hx hQ => nextTup_item h1 h2 hx fun h' h1' sb => hQ h' ⟨h1', by obtain ⟨o, e, r⟩ := h2; exact ⟨o, sb.extBut _ _ hne e, r⟩⟩ sb
  stop := fun k s Q E ⟨h1, h2⟩ hx hE => nextTup_end hh h1 h2 hx hE
  keep := fun k h h' ⟨h1, h2⟩ a b => ⟨h1.at a, by obtain ⟨o, e, r⟩ := h2; exact ⟨o, b _ e, r⟩⟩
  there := fun k h ⟨⟨o, e, c, d⟩, _⟩ => ⟨o, e, fun v z => by rw [d] at z; cases z⟩
end
section
variable {prog : Program} {w : World} {A : Around} {E : Value → Shared → Prop} {s : Shared} {z TI TO i1 i2 l1 l2 : Addr} {k1 k2 : Nat} {xs ys : Array Value} {x y a b : Value} {S1 S2 : Nat → Heap → Prop}
theorem zipNext_item {Q : Value → Shared → Prop} (D : ZipApart z TI TO i1 i2 l1 l2) (q1 : Sq prog w A i1 l1 xs S1) (q2 : Sq prog w A i2 l2 ys S2)
    (hz : IsZip s.heap z TI TO .none) (hTI : IsPair s.heap TI (.ref i1) (.ref i2)) (hTO : IsPair s.heap TO a b) (h1 : S1 k1 s.heap) (h2 : S2 k2 s.heap) (hx : xs[k1]? = some x) (hy : ys[k2]? = some y)
    (hQ : ∀ h', IsZip h' z TI TO (rawInt s.heap.objs.size) → IsPair h' TO x y → S1 (k1 + 1) h' → S2 (k2 + 1) h' → IsPair h' s.heap.objs.size x y → h'.objs.size = s.heap.objs.size + 1 →
      (∀ c o, c ≠ z → c ≠ TO → c ≠ i1 → c ≠ i2 → s.heap.get? c = some o → h'.get? c = some o) → Q (.ref s.heap.objs.size) { s with heap := h' }) :
    wpAny (model prog w) A (Builtin.«zip.__next__» ⟨[.ref z], []⟩) (fun fin s' => ∃ v, fin = .done (.ret v) ∧ Q v s') E s := by
  show wpAny _ _ (field (.ref z) 2 >>= _) _ _ _
  refine wpAny_bind (wpAny_field hz rfl (x := .bool false) rfl ?_)
  show wpAny _ _ (field (.ref z) 3 >>= _) _ _ _
  refine wpAny_bind (wpAny_field hz rfl (x := .ref TI) rfl ?_)
  refine wpAny_bind (wpAny_seqItems hTI rfl ?_)
  show wpAny _ _ (Builtin.SmallTypes.ownedTupleIsFree (.ref z) >>= _) _ _ _
  refine wpAny_bind ?_
  unfold Builtin.SmallTypes.ownedTupleIsFree
  refine wpAny_bind (wpAny_field hz rfl (x := .none) rfl (wpAny_pure ?_))
  simp only [if_true]
  refine wpAny_bind (wpAny_rule (wpAny_bind (wpAny_field hz rfl (x := .ref TO) rfl (wpAny_bind (wpAny_setField_rec hz (by simp) fun g1 hz1 e1 => ?_)))))
  replace hz1 : IsZip g1 z TI TO .ellipsis := hz1
  refine wpAny_bind ?_
  simp only [List.zipIdx_cons, List.zipIdx_nil, List.forIn_cons, List.forIn_nil]
  refine wpAny_bind (wpAny_bind (wpAny_onRaise ?_))
  show wpAny _ _ (Builtin.SmallTypes.nextOf (.ref i1) >>= _) _ _ _
  have s11 : S1 k1 g1 := q1.keep _ _ _ h1 (fun o q => e1.extBut _ _ D.i1z q) (fun o q => e1.extBut _ _ D.l1z q)
  refine wpAny_bind (q1.item k1 _ x _ _ s11 hx fun g2 s12 e2 => wpAny_pure ?_)
  have p2 : IsPair g2 TO a b := e2.extBut _ _ D.TOi1 (e1.extBut _ _ D.TOz hTO)
  refine wpAny_bind (wpAny_seqItems p2 rfl (wpAny_bind (wpAny_updateSeq_pair p2 fun g3 p3 e3 => ?_)))
  replace p3 : IsPair g3 TO x b := p3
  refine wpAny_bind (wpAny_letGo (wpAny_pure ?_))
  refine wpAny_bind (wpAny_bind (wpAny_onRaise ?_))
  show wpAny _ _ (Builtin.SmallTypes.nextOf (.ref i2) >>= _) _ _ _
  have s23 : S2 k2 g3 := q2.keep _ _ _ h2 (fun o q => e3.extBut _ _ D.TOi2.symm (e2.extBut _ _ D.i12.symm (e1.extBut _ _ D.i2z q))) (fun o q => e3.extBut _ _ D.l2TO (e2.extBut _ _ D.l2i1 (e1.extBut _ _ D.l2z q)))
  refine wpAny_bind (q2.item k2 _ y _ _ s23 hy fun g4 s24 e4 => wpAny_pure ?_)
  have p4 : IsPair g4 TO x b := e4.extBut _ _ D.TOi2 p3
  refine wpAny_bind (wpAny_seqItems p4 rfl (wpAny_bind (wpAny_updateSeq_pair p4 fun g5 p5 e5 => ?_)))
  replace p5 : IsPair g5 TO x y := p5
  refine wpAny_bind (wpAny_letGo (wpAny_pure (wpAny_pure ?_)))
  refine wpAny_bind (wpAny_seqItems p5 rfl (wpAny_bind (wpAny_newTuple ?_)))
  have hsz : g5.objs.size = s.heap.objs.size := by rw [e5.1, e4.1, e3.1, e2.1, e1.1]
  have z5 : IsZip g5 z TI TO .ellipsis := e5.extBut _ _ D.TOz.symm (e4.extBut _ _ D.i2z.symm (e3.extBut _ _ D.TOz.symm (e2.extBut _ _ D.i1z.symm hz1)))
  have zlt : z < g5.objs.size := Heap.lt_size z5
  show wpAny _ _ (Builtin.SmallTypes.ownedTupleHandOut (.ref z) (.ref g5.objs.size) >>= _) _ _ _
  refine wpAny_bind ?_
  unfold Builtin.SmallTypes.ownedTupleHandOut
  have z6 : IsZip (g5.push { cls := .type "tuple", data := .seq #[x, y] }) z TI TO .ellipsis := Heap.get?_push_of_some _ z5
  refine wpAny_bind (wpAny_setField_rec z6 (by simp) fun g7 z7 e7 => ?_)
  replace z7 : IsZip g7 z TI TO (rawInt g5.objs.size) := z7
  refine wpAny_setField_rec z7 (by simp) fun g8 z8 e8 => ?_
  replace z8 : IsZip g8 z TI TO (rawInt g5.objs.size) := z8
  have up : ∀ c o, c ≠ z → g5.get? c = some o → g8.get? c = some o := fun c o c1 q => e8.extBut _ _ c1 (e7.extBut _ _ c1 (Heap.get?_push_of_some _ q))
  have t8 : IsPair g8 g5.objs.size x y := e8.extBut _ _ (Nat.ne_of_gt zlt) (e7.extBut _ _ (Nat.ne_of_gt zlt) (Heap.get?_push_size _ rfl))
  have n8 : g8.objs.size = g5.objs.size + 1 := by rw [e8.1, e7.1, Heap.size_push]
  have f1 : S1 (k1 + 1) g8 := q1.keep _ _ _ s12 (fun o q => up _ _ D.i1z (e5.extBut _ _ D.TOi1.symm (e4.extBut _ _ D.i12 (e3.extBut _ _ D.TOi1.symm q)))) (fun o q => up _ _ D.l1z (e5.extBut _ _ D.l1TO (e4.extBut _ _ D.l1i2 (e3.extBut _ _ D.l1TO q))))
  have f2 : S2 (k2 + 1) g8 := q2.keep _ _ _ s24 (fun o q => up _ _ D.i2z (e5.extBut _ _ D.TOi2.symm q)) (fun o q => up _ _ D.l2z (e5.extBut _ _ D.l2TO q))
  rw [hsz] at z8 t8 n8
  refine wpAny_pure ⟨_, rfl, ?_⟩
  show Q (.ref g5.objs.size) _
  rw [hsz]
  exact hQ g8 z8 (up _ _ D.TOz p5) f1 f2 t8 n8 fun c o c1 c2 c3 c4 q => up c o c1 (e5.extBut _ _ c2 (e4.extBut _ _ c4 (e3.extBut _ _ c2 (e2.extBut _ _ c3 (e1.extBut _ _ c1 q)))))
theorem zipNext_end {Q : Fin → Shared → Prop} (D : ZipApart z TI TO i1 i2 l1 l2) (q1 : Sq prog w A i1 l1 xs S1) (q2 : Sq prog w A i2 l2 ys S2)
    (hz : IsZip s.heap z TI TO .none) (hTI : IsPair s.heap TI (.ref i1) (.ref i2)) (hTO : IsPair s.heap TO a b) (h1 : S1 k1 s.heap) (h2 : S2 k2 s.heap) (hend : xs[k1]? = none ∨ ys[k2]? = none)
    (hE : ∀ h' e, (∀ c o, c ≠ z → c ≠ TO → c ≠ i1 → c ≠ i2 → s.heap.get? c = some o → h'.get? c = some o) → (∃ o, h'.get? e = some o ∧ o.cls = .type "StopIteration") → E (.ref e) { s with heap := h' }) :
    wpAny (model prog w) A (Builtin.«zip.__next__» ⟨[.ref z], []⟩) Q E s := by
  show wpAny _ _ (field (.ref z) 2 >>= _) _ _ _
  refine wpAny_bind (wpAny_field hz rfl (x := .bool false) rfl ?_)
  show wpAny _ _ (field (.ref z) 3 >>= _) _ _ _
  refine wpAny_bind (wpAny_field hz rfl (x := .ref TI) rfl ?_)
  refine wpAny_bind (wpAny_seqItems hTI rfl ?_)
  show wpAny _ _ (Builtin.SmallTypes.ownedTupleIsFree (.ref z) >>= _) _ _ _
  refine wpAny_bind ?_
  unfold Builtin.SmallTypes.ownedTupleIsFree
  refine wpAny_bind (wpAny_field hz rfl (x := .none) rfl (wpAny_pure ?_))
  simp only [if_true]
  refine wpAny_bind (wpAny_rule (wpAny_bind (wpAny_field hz rfl (x := .ref TO) rfl (wpAny_bind (wpAny_setField_rec hz (by simp) fun g1 hz1 e1 => ?_)))))
  replace hz1 : IsZip g1 z TI TO .ellipsis := hz1
  refine wpAny_bind ?_
  simp only [List.zipIdx_cons, List.zipIdx_nil, List.forIn_cons, List.forIn_nil]
  refine wpAny_bind (wpAny_bind (wpAny_onRaise ?_))
  show wpAny _ _ (Builtin.SmallTypes.nextOf (.ref i1) >>= _) _ _ _
  have s11 : S1 k1 g1 := q1.keep _ _ _ h1 (fun o q => e1.extBut _ _ D.i1z q) (fun o q => e1.extBut _ _ D.l1z q)
  cases hx : xs[k1]? with
  | none =>
    refine wpAny_bind (q1.stop k1 _ _ _ s11 hx fun g2 e e2 he => ?_)
    obtain ⟨oe, hoe, hce⟩ := he
    have z2 : IsZip g2 z TI TO .ellipsis := e2 _ _ D.i1z.symm hz1
    have hez : e ≠ z := fun q => by subst q; rw [z2] at hoe; cases hoe; simp at hce
    exact wpAny_setField_rec z2 (by simp) fun g3 _ e3 => hE g3 e (fun c o c1 _ c3 _ q => e3.extBut _ _ c1 (e2 _ _ c3 (e1.extBut _ _ c1 q))) ⟨oe, e3.extBut _ _ hez hoe, hce⟩
  | some x =>
    have hy : ys[k2]? = none := by rcases hend with h | h; rw [hx] at h; cases h; exact h
    refine wpAny_bind (q1.item k1 _ x _ _ s11 hx fun g2 s12 e2 => wpAny_pure ?_)
    have p2 : IsPair g2 TO a b := e2.extBut _ _ D.TOi1 (e1.extBut _ _ D.TOz hTO)
    refine wpAny_bind (wpAny_seqItems p2 rfl (wpAny_bind (wpAny_updateSeq_pair p2 fun g3 p3 e3 => ?_)))
    refine wpAny_bind (wpAny_letGo (wpAny_pure ?_))
    refine wpAny_bind (wpAny_bind (wpAny_onRaise ?_))
    show wpAny _ _ (Builtin.SmallTypes.nextOf (.ref i2) >>= _) _ _ _
    have s23 : S2 k2 g3 := q2.keep _ _ _ h2 (fun o q => e3.extBut _ _ D.TOi2.symm (e2.extBut _ _ D.i12.symm (e1.extBut _ _ D.i2z q))) (fun o q => e3.extBut _ _ D.l2TO (e2.extBut _ _ D.l2i1 (e1.extBut _ _ D.l2z q)))
    refine wpAny_bind (q2.stop k2 _ _ _ s23 hy fun g4 e e4 he => ?_)
    obtain ⟨oe, hoe, hce⟩ := he
    have z4 : IsZip g4 z TI TO .ellipsis := e4 _ _ D.i2z.symm (e3.extBut _ _ D.TOz.symm (e2.extBut _ _ D.i1z.symm hz1))
    have hez : e ≠ z := fun q => by subst q; rw [z4] at hoe; cases hoe; simp at hce
    exact wpAny_setField_rec z4 (by simp) fun g5 _ e5 => hE g5 e (fun c o c1 c2 c3 c4 q => e5.extBut _ _ c1 (e4 _ _ c4 (e3.extBut _ _ c2 (e2.extBut _ _ c3 (e1.extBut _ _ c1 q))))) ⟨oe, e5.extBut _ _ hez hoe, hce⟩
end
end L2

set_option maxHeartbeats 4000000
namespace L2
open PySem PySem.Spec PyProof.Rows
section
variable {prog : Program} {w : World} {A : Around} {E : Value → Shared → Prop} {s : Shared} {z TI TO i1 i2 l1 l2 : Addr} {k1 k2 : Nat} {xs ys : Array Value} {x y a b : Value} {S1 S2 : Nat → Heap → Prop}
theorem pyNextZip_item {Q : Option Value → Shared → Prop} (D : ZipApart z TI TO i1 i2 l1 l2) (q1 : ∀ A : Around, A.handled = none → Sq prog w A i1 l1 xs S1) (q2 : ∀ A : Around, A.handled = none → Sq prog w A i2 l2 ys S2) (hh : A.handled = none)
    (hz : IsZip s.heap z TI TO .none) (hTI : IsPair s.heap TI (.ref i1) (.ref i2)) (hTO : IsPair s.heap TO a b) (h1 : S1 k1 s.heap) (h2 : S2 k2 s.heap) (hx : xs[k1]? = some x) (hy : ys[k2]? = some y)
    (hQ : ∀ h', IsZip h' z TI TO (rawInt s.heap.objs.size) → IsPair h' TO x y → S1 (k1 + 1) h' → S2 (k2 + 1) h' → IsPair h' s.heap.objs.size x y → h'.objs.size = s.heap.objs.size + 1 →
      (∀ c o, c ≠ z → c ≠ TO → c ≠ i1 → c ≠ i2 → s.heap.get? c = some o → h'.get? c = some o) → Q (some (.ref s.heap.objs.size)) { s with heap := h' }) :
    wpAny (model prog w) A (pyNext (.ref z)) Q E s := by
  have hT : s.TypeIs (.ref z) "zip" := ⟨_, hz, rfl⟩
  unfold pyNext
  exact wpAny_bind (wpAny_attempt (wpAny_callSpecial?_slot (name := Str.ofString "__next__") hT F.slot_zip_next
    (wpAny_call_entry F.slot_zip_next hT F.entry_zip_next
      (zipNext_item D (q1 _ hh) (q2 _ hh) hz hTI hTO h1 h2 hx hy fun h' a1 a2 a3 a4 a5 a6 a7 => wpAny_pure (hQ h' a1 a2 a3 a4 a5 a6 a7)) (F.args_zip_next_1 _))))
theorem pyNextZip_end {Q : Option Value → Shared → Prop} (D : ZipApart z TI TO i1 i2 l1 l2) (q1 : ∀ A : Around, A.handled = none → Sq prog w A i1 l1 xs S1) (q2 : ∀ A : Around, A.handled = none → Sq prog w A i2 l2 ys S2) (hh : A.handled = none)
    (hz : IsZip s.heap z TI TO .none) (hTI : IsPair s.heap TI (.ref i1) (.ref i2)) (hTO : IsPair s.heap TO a b) (h1 : S1 k1 s.heap) (h2 : S2 k2 s.heap) (hend : xs[k1]? = none ∨ ys[k2]? = none)
    (hQ : ∀ h', (∀ c o, c ≠ z → c ≠ TO → c ≠ i1 → c ≠ i2 → s.heap.get? c = some o → h'.get? c = some o) → Q none { s with heap := h' }) : wpAny (model prog w) A (pyNext (.ref z)) Q E s := by
  have hT : s.TypeIs (.ref z) "zip" := ⟨_, hz, rfl⟩
  unfold pyNext
  refine wpAny_bind (wpAny_attempt (wpAny_callSpecial?_slot (name := Str.ofString "__next__") hT F.slot_zip_next
    (wpAny_call_entry F.slot_zip_next hT F.entry_zip_next (zipNext_end D (q1 _ hh) (q2 _ hh) hz hTI hTO h1 h2 hend fun h' e hk he => ?_) (F.args_zip_next_1 _))))
  obtain ⟨o, ho, hc⟩ := he
  refine wpAny_bind (wpAny_isInstance (T := "StopIteration") (b := true) ⟨o, ho, hc⟩ isSubtype_stop ?_)
  exact wpAny_pure (hQ _ hk)
end
def ItLays (v : Value) (o : Obj) (P : Heap → Prop) : Prop := ∀ (prog : Program) (w : World) (A : Around) (s : Shared) (Q : Value → Shared → Prop) (E : Value → Shared → Prop), P s.heap → Q (.ref s.heap.objs.size) { s with heap := s.heap.push o } → wpAny (model prog w) A (pyIter v) Q E s
abbrev zp1 (h : Heap) (o1 : Obj) : Heap := h.push o1
abbrev zp2 (h : Heap) (o1 o2 : Obj) : Heap := (zp1 h o1).push o2
abbrev zp3 (h : Heap) (o1 o2 : Obj) : Heap := (zp2 h o1 o2).push { cls := .type "tuple", data := .seq #[.ref h.objs.size, .ref (zp1 h o1).objs.size] }
abbrev zp4 (h : Heap) (o1 o2 : Obj) : Heap := (zp3 h o1 o2).push { cls := .type "tuple", data := .seq #[.none, .none] }
abbrev zp5 (h : Heap) (o1 o2 : Obj) : Heap := (zp4 h o1 o2).push { cls := .type "zip", data := .fields #[.none, .bool false, .bool false, .ref (zp2 h o1 o2).objs.size, .ref (zp3 h o1 o2).objs.size] }
theorem meets_zip (v1 v2 : Value) (o1 o2 : Obj) {P1 P2 : Heap → Prop} (p1 : ItLays v1 o1 P1) (p2 : ItLays v2 o2 P2) :
    Meets (Builtin.«zip.__new__» ⟨[.type "zip", v1, v2], []⟩) (fun _ R s => P1 s.heap ∧ P2 (s.heap.push o1) ∧ R (.ok (.ret (.ref (zp4 s.heap o1 o2).objs.size))) { s with heap := zp5 s.heap o1 o2 }) :=
  .of_wp fun prog w A R s h => by
    obtain ⟨hp, g, d, tk, os⟩ := s; obtain ⟨hl1, hl2, h⟩ := h
    have hsub := sub_zip
    have q1 := fun {A : Around} {Q : Value → Shared → Prop} {E : Value → Shared → Prop} => p1 prog w A ⟨hp, g, d, tk, os⟩ Q E hl1
    have q2 := fun {A : Around} {Q : Value → Shared → Prop} {E : Value → Shared → Prop} => p2 prog w A ⟨hp.push o1, g, d, tk, os⟩ Q E hl2
    wp_walk using q1, q2
    exact ⟨_, rfl, h⟩
end L2

set_option maxHeartbeats 4000000
namespace L2
open PySem PySem.Spec PyProof.Rows
def Sqb (K : PySem.W.Frag) (isL : Bool) (H : Hp) (a : Addr) (xs : List V) : Prop := if isL = true then SqL K H a xs else SqT K H a xs
def itObj (isL : Bool) (l : Addr) : Obj := { cls := .type (if isL then "list_iterator" else "tuple_iterator"), data := .fields #[.ref l, .int 0 0] }
def ItAt (isL : Bool) (i l : Addr) (k : Nat) (h : Heap) : Prop := if isL = true then h.IsListIter i l k else h.IsTupleIter i l k
def SeqIs (isL : Bool) (l : Addr) (xs : Array Value) (h : Heap) : Prop := if isL = true then h.IsList l xs else h.IsTuple l xs
section
variable {X : Cx} {pins : List (Addr × Obj)} {σ : St} {H : Hp} {s : Shared} {a : Addr} {xs ys : List V}
theorem Inv.sqb {isL : Bool} (I : Inv X pins σ H s) (h : Sqb X.K isL H a xs) : ∃ its : List Value, Vals xs its ∧ SeqIs isL a its.toArray s.heap := by
  cases isL with
  | true => obtain ⟨its, r, p, _⟩ := I.list h; exact ⟨its, r, p.isList⟩
  | false => obtain ⟨its, r, p, _⟩ := I.tuple h; exact ⟨its, r, p⟩
theorem Inv.sqb_inj {isL : Bool} (I : Inv X pins σ H s) (h : Sqb X.K isL H a xs) (h' : Sqb X.K isL H a ys) : xs = ys := by
  cases isL with
  | true => exact I.list_inj h h'
  | false => exact I.tuple_inj h h'
theorem sq_any {prog : Program} {w : World} {A : Around} {isL : Bool} (hh : A.handled = none) (i l : Addr) (hne : l ≠ i) (xs : Array Value) : Sq prog w A i l xs (fun k h => ItAt isL i l k h ∧ SeqIs isL l xs h) := by
  cases isL with
  | true => exact sq_list hh i l hne xs
  | false => exact sq_tup hh i l hne xs
theorem ItAt.keep {isL : Bool} {i l : Addr} {k : Nat} {h h' : Heap} (q : ItAt isL i l k h) (e : ∀ o, h.get? i = some o → h'.get? i = some o) : ItAt isL i l k h' := by
  cases isL with
  | true => exact Heap.IsListIter.at q e
  | false => exact Heap.IsTupleIter.at q e
theorem ItAt.obj {isL : Bool} {i l : Addr} {k : Nat} {h : Heap} (q : ItAt isL i l k h) : ∃ o, h.get? i = some o ∧ ∀ v, o.data ≠ .cell v := by
  cases isL with
  | true => obtain ⟨o, e, c, d⟩ := (show h.IsListIter i l k from q); exact ⟨o, e, fun v z => by rw [d] at z; cases z⟩
  | false => obtain ⟨o, e, c, d⟩ := (show h.IsTupleIter i l k from q); exact ⟨o, e, fun v z => by rw [d] at z; cases z⟩
theorem Inv.turnedT {h' : Heap} {t' : Nat} {ch : List Addr} {T : Addr} {u1 u2 : Value} {x y : V} (I : Inv X pins σ H s) (hk : ∀ b o, b ∉ ch → s.heap.get? b = some o → h'.get? b = some o) (hf : ∀ b ∈ ch, FpOk X pins H b)
    (hT : s.heap.objs.size ≤ T) (hp : IsPair h' T u1 u2) (r1 : RelV x u1) (r2 : RelV y u2) : Inv X pins σ (upd H T (.tup [x, y])) { s with heap := h', toks := t' } := by
  have hn : H T = none := I.hok.fresh hT
  have nT : ∀ {b : Addr} {o : Obj}, s.heap.get? b = some o → b ≠ T := fun e => Nat.ne_of_lt (Nat.lt_of_lt_of_le (Heap.lt_size e) hT)
  have nch : ∀ {b : Addr} {o : HO}, H b = some o → b ∉ ch := fun e hb => by rw [(hf _ hb).1] at e; cases e
  refine I.call' (ch := ch) rfl ⟨fun b o e n hb hc => hk b o hc e, fun b o e n hb hc => ⟨o.slots, hk b o hc e⟩, fun b o e n hc => by rw [upd_ne (nT e)]; exact n, fun b o e hc => ⟨o, hk b o hc e⟩,
    fun b zs e => by rw [upd_ne (ne_of_none e hn)]; exact e, fun b o u e => by rw [upd_ne (ne_of_none e hn)]; exact e, fun b ps e => ⟨#[], by rw [upd_ne (ne_of_none e hn), e]; simp⟩⟩ (fun b o e => ?_) I.bare fun b hb => ?_
  · by_cases hb : b = T
    · rw [hb, upd_same] at e
      cases e
      rw [hb]
      exact ⟨(show 2 ≤ sizeLine by decide), [u1, u2], .cons r1 (.cons r2 .nil), _, hp, rfl, _, rfl⟩
    · rw [upd_ne hb] at e
      refine (I.hok b o e).stay (fun c u hc q => hk c u ?_ q) (fun c hc => by rw [upd_ne (ne_of_none hc hn)]; exact hc) (fun c zs hc => by rw [upd_ne (ne_of_none hc hn)]; exact hc)
      rcases hc with rfl | hc
      · exact nch e
      · exact nch hc
  · obtain ⟨_, f2, f3, f4, f5, f6⟩ := hf b hb
    exact ⟨f4, f2, f5, f6⟩
theorem Inv.turnedS {h' : Heap} {t' : Nat} {ch : List Addr} (I : Inv X pins σ H s) (hk : ∀ b o, b ∉ ch → s.heap.get? b = some o → h'.get? b = some o) (hf : ∀ b ∈ ch, FpOk X pins H b) : Inv X pins σ H { s with heap := h', toks := t' } := by
  have nch : ∀ {b : Addr} {o : HO}, H b = some o → b ∉ ch := fun e hb => by rw [(hf _ hb).1] at e; cases e
  refine I.call' (ch := ch) rfl ⟨fun b o e n hb hc => hk b o hc e, fun b o e n hb hc => ⟨o.slots, hk b o hc e⟩, fun b o e n hc => n, fun b o e hc => ⟨o, hk b o hc e⟩, fun b zs e => e, fun b o u e => e, fun b ps e => ⟨#[], by rw [e]; simp⟩⟩ (fun b o e => ?_) I.bare fun b hb => ?_
  · refine (I.hok b o e).stay (fun c u hc q => hk c u ?_ q) (fun c hc => hc) (fun c zs hc => hc)
    rcases hc with rfl | hc
    · exact nch e
    · exact nch hc
  · obtain ⟨_, f2, f3, f4, f5, f6⟩ := hf b hb
    exact ⟨f4, f2, f5, f6⟩
end
def Itz (K : PySem.W.Frag) (b1 b2 : Bool) (l1 l2 : Addr) : It where
  go := fun i H => ∃ xs ys x y, Sqb K b1 H l1 xs ∧ Sqb K b2 H l2 ys ∧ xs[i]? = some x ∧ ys[i]? = some y
  yld := fun i H v H' => ∃ p x y, H p = none ∧ v = .ref p ∧ H' = upd H p (.tup [x, y]) ∧ (∀ xs, Sqb K b1 H l1 xs → xs[i]? = some x) ∧ ∀ ys, Sqb K b2 H l2 ys → ys[i]? = some y
  stop := fun i H => ∃ xs ys, Sqb K b1 H l1 xs ∧ Sqb K b2 H l2 ys ∧ (xs[i]? = none ∨ ys[i]? = none)
theorem turn_zip {P : Program} {w : World} {K : PySem.W.Frag} {elts : List Expr} {c : Nat} {tp : Pos} {b1 b2 : Bool} {z TI TO i1 i2 l1 l2 : Addr} (D : ZipApart z TI TO i1 i2 l1 l2) :
    Turn P w K (.Tuple elts c tp) (Itz K b1 b2 l1 l2) [z, TI, TO, i1, i2] z (fun i h => IsZip h z TI TO .none ∧ IsPair h TI (.ref i1) (.ref i2) ∧ (∃ a b, IsPair h TO a b) ∧ ItAt b1 i1 l1 i h ∧ ItAt b2 i2 l2 i h) where
  mem := by simp
  obj := fun i h ⟨hz, hTI, ⟨a, b, hTO⟩, h1, h2⟩ q hq => by
    simp only [List.mem_cons, List.not_mem_nil, or_false] at hq
    rcases hq with rfl | rfl | rfl | rfl | rfl
    · exact ⟨_, hz, fun v e => by cases e⟩
    · exact ⟨_, hTI, fun v e => by cases e⟩
    · exact ⟨_, hTO, fun v e => by cases e⟩
    · exact h1.obj
    · exact h2.obj
  keep := fun i h h' ⟨hz, hTI, ⟨a, b, hTO⟩, h1, h2⟩ k => ⟨k _ (by simp) _ hz, k _ (by simp) _ hTI, ⟨a, b, k _ (by simp) _ hTO⟩, h1.keep (k _ (by simp)), h2.keep (k _ (by simp))⟩
  item := by
    intro X hP hw hK hc i pins s σ H E I hf st hg
    subst hP hw hK
    obtain ⟨hz, hTI, ⟨a, b, hTO⟩, h1, h2⟩ := st
    obtain ⟨xs, ys, x, y, hq1, hq2, hx, hy⟩ := hg
    obtain ⟨its1, rv1, p1⟩ := I.sqb hq1
    obtain ⟨its2, rv2, p2⟩ := I.sqb hq2
    obtain ⟨u1, hu1, ru1⟩ := rv1.get hx
    obtain ⟨u2, hu2, ru2⟩ := rv2.get hy
    refine pyNextZip_item D (fun A hh => sq_any (isL := b1) hh i1 l1 D.l1i1 its1.toArray) (fun A hh => sq_any (isL := b2) hh i2 l2 D.l2i2 its2.toArray) (I.ok.hd hc) hz hTI hTO ⟨h1, p1⟩ ⟨h2, p2⟩ (x := u1) (y := u2) (by simpa using hu1) (by simpa using hu2) fun h' a1 a2 a3 a4 a5 a6 a7 => ?_
    refine ⟨_, rfl, wpAny_letOwnedTupleGo_zip a1 fun h'' z2 sb => ?_⟩
    have zlt : z < s.heap.objs.size := Heap.lt_size hz
    have up : ∀ c o, c ≠ z → h'.get? c = some o → h''.get? c = some o := fun c o c1 q => sb.extBut _ _ c1 q
    have I' := I.turnedT (h' := h'') (t' := s.toks) (ch := [z, TI, TO, i1, i2]) (T := s.heap.objs.size) (u1 := u1) (u2 := u2) (x := x) (y := y)
      (fun b o hb e => by
        simp only [List.mem_cons, List.not_mem_nil, or_false, not_or] at hb
        exact up b o hb.1 (a7 b o hb.1 hb.2.2.1 hb.2.2.2.1 hb.2.2.2.2 e)) hf (Nat.le_refl _) (up _ _ (Nat.ne_of_gt zlt) a5) ru1 ru2
    refine ⟨.ref s.heap.objs.size, _, I', rfl, ⟨_, x, y, I.fresh, rfl, rfl, fun zs hz' => by rw [I.sqb_inj hz' hq1]; exact hx, fun zs hz' => by rw [I.sqb_inj hz' hq2]; exact hy⟩,
      ⟨z2, up _ _ D.TIz (a7 _ _ D.TIz D.TITO D.TIi1 D.TIi2 hTI), ⟨_, _, up _ _ D.TOz a2⟩, a3.1.keep fun o e => up _ _ D.i1z e, a4.1.keep fun o e => up _ _ D.i2z e⟩, fun b hb => ?_⟩
    have hfb := (hf b hb).1
    rw [upd_ne]
    · exact hfb
    · intro e
      have lt : b < s.heap.objs.size := by
        simp only [List.mem_cons, List.not_mem_nil, or_false] at hb
        rcases hb with rfl | rfl | rfl | rfl | rfl
        · exact zlt
        · exact Heap.lt_size hTI
        · exact Heap.lt_size hTO
        · obtain ⟨o, e, _⟩ := h1.obj; exact Heap.lt_size e
        · obtain ⟨o, e, _⟩ := h2.obj; exact Heap.lt_size e
      rw [e] at lt
      exact Nat.lt_irrefl _ lt
  done := by
    intro X hP hw hK hc i pins s σ H E I hf st hg
    subst hP hw hK
    obtain ⟨hz, hTI, ⟨a, b, hTO⟩, h1, h2⟩ := st
    obtain ⟨xs, ys, hq1, hq2, hend⟩ := hg
    obtain ⟨its1, rv1, p1⟩ := I.sqb hq1
    obtain ⟨its2, rv2, p2⟩ := I.sqb hq2
    have e1 := rv1.length
    have e2 := rv2.length
    refine pyNextZip_end D (fun A hh => sq_any (isL := b1) hh i1 l1 D.l1i1 its1.toArray) (fun A hh => sq_any (isL := b2) hh i2 l2 D.l2i2 its2.toArray) (I.ok.hd hc) hz hTI hTO ⟨h1, p1⟩ ⟨h2, p2⟩ ?_ fun h' hk => ⟨rfl, I.turnedS (t' := s.toks) (ch := [z, TI, TO, i1, i2]) (fun b o hb e => ?_) hf⟩
    · rcases hend with q | q
      · left; simp only [List.getElem?_toArray]; rw [List.getElem?_eq_none_iff] at q ⊢; omega
      · right; simp only [List.getElem?_toArray]; rw [List.getElem?_eq_none_iff] at q ⊢; omega
    · simp only [List.mem_cons, List.not_mem_nil, or_false, not_or] at hb
      exact hk b o hb.1 hb.2.2.1 hb.2.2.2.1 hb.2.2.2.2 e
  self := fun _ _ _ _ _ st h => wpAny_pyIter_zip st.1 h
end L2

set_option maxHeartbeats 4000000
namespace L2
open PySem PySem.Spec PyProof.Rows
theorem boot_zip : bootBuiltins "zip" = some (.type "zip") := by decide +kernel
theorem itLays {isL : Bool} {l : Addr} {xs : Array Value} : ItLays (.ref l) (itObj isL l) (SeqIs isL l xs) := by
  intro prog w A s Q E h q
  cases isL with
  | true => exact wpAny_pyIter_list (show s.heap.IsList l xs from h) q
  | false => exact wpAny_pyIter_tuple (show s.heap.IsTuple l xs from h) q
theorem SeqIs.push {isL : Bool} {l : Addr} {xs : Array Value} {h : Heap} (q : SeqIs isL l xs h) (o : Obj) : SeqIs isL l xs (h.push o) := by
  cases isL with
  | true => exact Heap.IsList.push q o
  | false => obtain ⟨ob, e, r⟩ := (show h.IsTuple l xs from q); exact ⟨ob, Heap.get?_push_of_some _ e, r⟩
theorem SeqIs.lt {isL : Bool} {l : Addr} {xs : Array Value} {h : Heap} (q : SeqIs isL l xs h) : l < h.objs.size := by
  cases isL with
  | true => obtain ⟨ob, e, r⟩ := (show h.IsList l xs from q); exact Heap.lt_size e
  | false => obtain ⟨ob, e, r⟩ := (show h.IsTuple l xs from q); exact Heap.lt_size e
theorem itAt0 {isL : Bool} {i l : Addr} {h : Heap} (e : h.get? i = some (itObj isL l)) : ItAt isL i l 0 h := by
  cases isL with
  | true => exact ⟨_, e, rfl, rfl⟩
  | false => exact ⟨_, e, rfl, rfl⟩
theorem call_zipG {prog : Program} {w : World} {A : Around} {E : Value → Shared → Prop} {s : Shared} {Q : Value → Shared → Prop} {b1 b2 : Bool} {l1 l2 : Addr} {xs ys : Array Value} (h1 : SeqIs b1 l1 xs s.heap) (h2 : SeqIs b2 l2 ys s.heap)
    (h : ∀ h', IsZip h' (s.heap.objs.size + 4) (s.heap.objs.size + 2) (s.heap.objs.size + 3) .none → IsPair h' (s.heap.objs.size + 2) (.ref s.heap.objs.size) (.ref (s.heap.objs.size + 1)) →
      IsPair h' (s.heap.objs.size + 3) .none .none → ItAt b1 s.heap.objs.size l1 0 h' → ItAt b2 (s.heap.objs.size + 1) l2 0 h' → h'.objs.size = s.heap.objs.size + 5 →
      (∀ c o, s.heap.get? c = some o → h'.get? c = some o) → Q (.ref (s.heap.objs.size + 4)) { s with heap := h' }) : wpAny (model prog w) A (call (.type "zip") [.ref l1, .ref l2]) Q E s := by
  refine callType_new F.called_zip (by decide) (F.typeCall_zip_2 _ _) (F.newCall_zip_2 _ _) (fun obj => F.args_object_init_3 obj _ _) F.entry_zip_new (meets_zip (.ref l1) (.ref l2) (itObj b1 l1) (itObj b2 l2) (itLays (xs := xs)) (itLays (xs := ys))) ⟨h1, h2.push _, ?_⟩
  have z1 : (zp1 s.heap (itObj b1 l1)).objs.size = s.heap.objs.size + 1 := Heap.size_push ..
  have z2 : (zp2 s.heap (itObj b1 l1) (itObj b2 l2)).objs.size = s.heap.objs.size + 2 := by rw [Heap.size_push, z1]
  have z3 : (zp3 s.heap (itObj b1 l1) (itObj b2 l2)).objs.size = s.heap.objs.size + 3 := by rw [Heap.size_push, z2]
  have z4 : (zp4 s.heap (itObj b1 l1) (itObj b2 l2)).objs.size = s.heap.objs.size + 4 := by rw [Heap.size_push, z3]
  have z5 : (zp5 s.heap (itObj b1 l1) (itObj b2 l2)).objs.size = s.heap.objs.size + 5 := by rw [Heap.size_push, z4]
  have f1 : (itObj b1 l1).isFreed = false := by cases b1 <;> rfl
  have f2 : (itObj b2 l2).isFreed = false := by cases b2 <;> rfl
  have g5 : (zp5 s.heap (itObj b1 l1) (itObj b2 l2)).get? (zp4 s.heap (itObj b1 l1) (itObj b2 l2)).objs.size = some _ := Heap.get?_push_size _ rfl
  have g4 : (zp5 s.heap (itObj b1 l1) (itObj b2 l2)).get? (zp3 s.heap (itObj b1 l1) (itObj b2 l2)).objs.size = some _ := Heap.get?_push_of_some _ (Heap.get?_push_size _ rfl)
  have g3 : (zp5 s.heap (itObj b1 l1) (itObj b2 l2)).get? (zp2 s.heap (itObj b1 l1) (itObj b2 l2)).objs.size = some _ := Heap.get?_push_of_some _ (Heap.get?_push_of_some _ (Heap.get?_push_size _ rfl))
  have g2 : (zp5 s.heap (itObj b1 l1) (itObj b2 l2)).get? (zp1 s.heap (itObj b1 l1)).objs.size = some (itObj b2 l2) := Heap.get?_push_of_some _ (Heap.get?_push_of_some _ (Heap.get?_push_of_some _ (Heap.get?_push_size _ f2)))
  have g1 : (zp5 s.heap (itObj b1 l1) (itObj b2 l2)).get? s.heap.objs.size = some (itObj b1 l1) := Heap.get?_push_of_some _ (Heap.get?_push_of_some _ (Heap.get?_push_of_some _ (Heap.get?_push_of_some _ (Heap.get?_push_size _ f1))))
  show _ ∧ _
  rw [z2, z3, z4] at g5
  rw [z1, z2] at g3
  rw [z3] at g4
  rw [z1] at g2
  rw [z4]
  exact ⟨⟨_, g5, rfl⟩, h _ g5 g3 g4 (itAt0 g1) (itAt0 g2) z5 fun c o q => Heap.get?_push_of_some _ (Heap.get?_push_of_some _ (Heap.get?_push_of_some _ (Heap.get?_push_of_some _ (Heap.get?_push_of_some _ q))))⟩
theorem zip_apart {n l1 l2 : Nat} (h1 : l1 < n) (h2 : l2 < n) : ZipApart (n + 4) (n + 2) (n + 3) n (n + 1) l1 l2 := by
  constructor <;> (show ¬ (_ : Nat) = _) <;> omega
section
variable {X : Cx} {e1 e2 : Expr} {ta : TA} {p pos tp : Pos} {elts : List Expr} {c : Nat}
def iZip (K : PySem.W.Frag) (ta : TA) : TI := fun σ H R => ta σ H fun vs H1 => ∃ b1 b2 l1 l2 xs ys, vs = [.ref l1, .ref l2] ∧ Sqb K b1 H1 l1 xs ∧ Sqb K b2 H1 l2 ys ∧ R (Itz K b1 b2 l1 l2) H1
theorem pi_zip (hg : Gl X "zip") (hm : X.mg "zip" = none) (ha : PA X [e1, e2] ta) (hs : starEach [e1, e2] X.env = [(false, eval e1 X.env), (false, eval e2 X.env)] := by rfl) (hs2 : starEach [e2] X.env = [(false, eval e2 X.env)] := by rfl) :
    PI X (.Tuple elts c tp) (.Call (.Name "zip" p) [e1, e2] [] pos) (iZip X.K ta) := by
  intro pins s σ H R I h
  refine Call_ (ld_blt I hg hm boot_zip (PyProof.Rows.callWith_type1 (thn (ha pos pins s σ H _ I h) fun us s1 ⟨vs, H1, I1, r1, q1⟩ => ?_) (by rw [hs, hs2]) (by rw [hs2]; rfl)))
  obtain ⟨b1, b2, l1, l2, xs, ys, e, hq1, hq2, q⟩ := q1
  subst e
  obtain ⟨u, w', rfl, z1, z2⟩ := vals2 r1
  cases (show u = Value.ref l1 from z1)
  cases (show w' = Value.ref l2 from z2)
  obtain ⟨its1, rv1, p1⟩ := I1.sqb hq1
  obtain ⟨its2, rv2, p2⟩ := I1.sqb hq2
  refine call_zipG p1 p2 fun h' a1 a2 a3 a4 a5 a6 a7 => wpAny_pyIter_zip a1 ?_
  have I2 : Inv X pins σ H1 { s1 with heap := h' } := I1.kept (t' := s1.toks) a7
  refine ⟨_, [s1.heap.objs.size + 4, s1.heap.objs.size + 2, s1.heap.objs.size + 3, s1.heap.objs.size, s1.heap.objs.size + 1], _, _, H1, rfl, I2, turn_zip (zip_apart p1.lt p2.lt), ⟨a1, a2, ⟨_, _, a3⟩, a4, a5⟩, fun b hb => ?_, q⟩
  have hb' : s1.heap.objs.size ≤ b := by
    simp only [List.mem_cons, List.not_mem_nil, or_false] at hb
    rcases hb with rfl | rfl | rfl | rfl | rfl
    · exact Nat.le_add_right _ _
    · exact Nat.le_add_right _ _
    · exact Nat.le_add_right _ _
    · exact Nat.le_refl _
    · exact Nat.le_add_right _ _
  exact I1.fpOk hb' (I1.hok.fresh hb')
end
end L2
namespace DC
open PySem PySem.Spec PyProof.Rows L2
section
variable {X : Cx} {e1 e2 : Expr} {ta : AD} {p pos tp : Pos} {elts : List Expr} {c : Nat}
def seqD : D → Option (Bool × List D)
  | .lst xs => some (true, xs)
  | .tup xs => some (false, xs)
  | _ => none
def aZip (ta : AD) : AD := fun δ Q => ta δ fun ds => ∃ d e b1 b2 xs ys, ds = [d, e] ∧ seqD d = some (b1, xs) ∧ seqD e = some (b2, ys) ∧ Q (List.zipWith (fun x y => .tup [x, y]) xs ys)
theorem Dv.sqb {K : PySem.W.Frag} {H : Hp} {v : V} {d : D} {b : Bool} {ds : List D} (h : Dv K H v d) (e : seqD d = some (b, ds)) : ∃ l xs, v = .ref l ∧ Sqb K b H l xs ∧ Dvs K H xs ds := by
  cases h with
  | lst h1 h2 => cases e; exact ⟨_, _, rfl, h1, h2⟩
  | tup h1 h2 => cases e; exact ⟨_, _, rfl, h1, h2⟩
  | _ => cases e
theorem sqb_same {K : PySem.W.Frag} {H H' : Hp} {b : Bool} {l : Addr} {xs : List V} (s : Same H H') (h : Sqb K b H l xs) : Sqb K b H' l xs := by
  cases b with
  | true => exact s.seq h
  | false => exact sameT s h
theorem it_zip {K : PySem.W.Frag} {H : Hp} {b1 b2 : Bool} {l1 l2 : Addr} {xs ys : List V} {ds es : List D} (h1 : Sqb K b1 H l1 xs) (h2 : Sqb K b2 H l2 ys) (d1 : Dvs K H xs ds) (d2 : Dvs K H ys es) :
    ItD K (Itz K b1 b2 l1 l2) H (List.zipWith (fun x y => .tup [x, y]) ds es) := by
  have hl : (List.zipWith (fun x y => D.tup [x, y]) ds es).length = min ds.length es.length := List.length_zipWith
  refine ⟨fun i H' s' hi => ?_, fun H' s' => ⟨xs, ys, sqb_same s' h1, sqb_same s' h2, ?_⟩, fun i H' x H'' s' hi y => ?_⟩
  · rw [hl] at hi
    obtain ⟨v1, g1, _⟩ := d1.get (List.getElem?_eq_getElem (show i < ds.length by omega))
    obtain ⟨v2, g2, _⟩ := d2.get (List.getElem?_eq_getElem (show i < es.length by omega))
    exact ⟨xs, ys, v1, v2, sqb_same s' h1, sqb_same s' h2, g1, g2⟩
  · rw [hl, List.getElem?_eq_none_iff, List.getElem?_eq_none_iff, d1.length, d2.length]
    omega
  · obtain ⟨q, u, v, hn, rfl, rfl, y1, y2⟩ := y
    obtain ⟨a1, g1, v1⟩ := d1.getV (y1 _ (sqb_same s' h1))
    obtain ⟨a2, g2, v2⟩ := d2.getV (y2 _ (sqb_same s' h2))
    have hnH : H q = none := s'.free hn
    refine ⟨same_upd hn, .tup [a1, a2], by rw [List.getElem?_zipWith, g1, g2], upd H q (.tup [u, v]), same_upd hnH, .tup (SqT.of upd_same) (.cons (v1.same (same_upd hnH)) (.cons (v2.same (same_upd hnH)) .nil)), fun a o z => ?_, fun a o z => ?_⟩
    · by_cases ha : a = q
      · rw [ha]; exact .inr hn
      · rw [upd_ne ha] at z; exact .inl z
    · by_cases ha : a = q
      · rw [ha] at z ⊢; rw [upd_same] at z ⊢; exact z
      · rw [upd_ne ha] at z ⊢; exact s' _ _ z
theorem i_zip (hg : Gl X "zip") (hm : X.mg "zip" = none) (ha : PAd X [e1, e2] ta) (hs : starEach [e1, e2] X.env = [(false, eval e1 X.env), (false, eval e2 X.env)] := by rfl) (hs2 : starEach [e2] X.env = [(false, eval e2 X.env)] := by rfl) :
    PId X (.Tuple elts c tp) (.Call (.Name "zip" p) [e1, e2] [] pos) (aZip ta) := by
  refine ⟨PI.imp (pi_zip hg hm ha.pa hs hs2) fun σ H R ⟨δ, r, h⟩ => ⟨δ, r, ha.mono _ _ _ (fun ds ⟨d, e, b1, b2, xs, ys, ed, s1, s2, q⟩ vs H1 sm dvs => ?_) h⟩, fun δ P P' g h => ha.mono _ _ _ (fun ds ⟨d, e, b1, b2, xs, ys, ed, s1, s2, q⟩ => ⟨d, e, b1, b2, xs, ys, ed, s1, s2, g _ q⟩) h⟩
  subst ed
  cases dvs with
  | cons a r =>
    cases r with
    | cons b r =>
      cases r
      obtain ⟨l1, us, rfl, g1, v1⟩ := a.sqb s1
      obtain ⟨l2, ws, rfl, g2, v2⟩ := b.sqb s2
      exact ⟨b1, b2, l1, l2, us, ws, rfl, g1, g2, q _ H1 sm (it_zip g1 g2 v1 v2)⟩
end
end DC

set_option maxHeartbeats 4000000
namespace DC
open PySem PySem.Spec PyProof.Rows L2
def vComp2 (caps : List Nat) (ti : AD) (tt : TD) (te : ED) : ED := fun δ Q => ti δ fun ds => ∃ outs : List (Option D), outs.length = ds.length ∧
  (∀ (i : Nat) (d : D) (o : Option D), ds[i]? = some d → outs[i]? = some o → ∃ x y, d = .tup [x, y] ∧ tt (some x :: some y :: capD caps δ) fun b => b = o.isSome ∧ (b = true → te (some x :: some y :: capD caps δ) fun r => o = some r)) ∧ ds.length < sizeLine ∧ Q (.lst (outs.filterMap id))
theorem le_two {r : L2.St} {x y : Option V} : Le (none :: none :: r) (x :: y :: r) := ⟨rfl, fun i v h => by
  cases i with
  | zero => cases h
  | succ i =>
    cases i with
    | zero => cases h
    | succ i => exact h⟩
theorem rel_cons {K : PySem.W.Frag} {H : Hp} {σ : L2.St} {δ : SD} (r : RelS K H σ δ) {x : V} {d : D} (dv : Dv K H x d) : RelS K H (some x :: σ) (some d :: δ) := by
  refine ⟨by rw [List.length_cons, List.length_cons, r.len], fun i e h => ?_⟩
  cases i with
  | zero => simp at h; subst h; exact ⟨x, rfl, dv⟩
  | succ i => simpa using r.get i e (by simpa using h)
theorem cap_rel0 {K : PySem.W.Frag} {H : Hp} {σ : L2.St} {δ : SD} (r : RelS K H σ δ) (caps : List Nat) : RelS K H (caps.map fun j => (σ[j]?).getD none) (capD caps δ) := by
  have q := cap_rel r (Dv.non) caps
  refine ⟨by simpa using q.len, fun i d h => ?_⟩
  simpa using q.get (i + 1) d (by simpa using h)
theorem comp_imp2 {K : PySem.W.Frag} {caps : List Nat} {ti : AD} {tt : TD} {te : ED} (mi : MonoA ti) (mt : MonoT tt) (me : MonoE te) {σ : L2.St} {H : Hp} {Q : VK} (h : oE K (vComp2 caps ti tt te) σ H Q) :
    rComp 2 caps (fun σ H R => ∃ δ, RelS K H σ δ ∧ ti δ fun ds => ∀ J H1, Same H H1 → ItD K J H1 ds → R J H1) (gTup K 2 (gCons (gName 0) (gCons (gName 1) gNil))) (uFrame (oT K tt)) (tFrame (oE K te)) σ H Q := by
  obtain ⟨δ, r, h⟩ := h
  refine ⟨δ, r, mi _ _ _ (fun ds ⟨outs, hol, each, hlen, q⟩ J H1 s1 it D hD => ?_) h⟩
  refine ⟨fun i m ys H' => m = ds.length - i ∧ i ≤ ds.length ∧ ∃ H0, H0 D = none ∧ Same H1 H0 ∧ Dvs K H0 ys ((outs.take i).filterMap id) ∧ H' = upd H0 D (.lst ys), ⟨ds.length, rfl, Nat.zero_le _, H1, hD, Same.refl _, .nil, rfl⟩, ?_⟩
  rintro i m ys H' ⟨rfl, hle, H0, h0, s0, dys, rfl⟩
  refine ⟨upd_same, ?_⟩
  have sU : Same H1 (upd H0 D (.lst ys)) := s0.trans (same_upd h0)
  by_cases hlt : i < ds.length
  · refine .inr ⟨it.go i _ sU hlt, fun x H'' y => ?_⟩
    obtain ⟨s2, d, hd, Hx, sx1, dvx, only, sx⟩ := it.yld i _ x H'' sU hlt y
    have hD2 : H'' D = some (.lst ys) := s2 _ _ upd_same
    have ne1 : ∀ a o, H1 a = some o → a ≠ D := fun a o z => ne_of_none z hD
    have nex : ∀ a o, Hx a = some o → a ≠ D := fun a o z w => by
      rcases only a o z with z1 | z1
      · exact ne1 a o z1 w
      · rw [w, upd_same] at z1; cases z1
    have sd1 : Same H0 (del H'' D) := fun a o z => by
      rw [del_ne (ne_of_none z h0)]
      exact s2 a o (same_upd h0 a o z)
    have sdx : Same Hx (del H'' D) := fun a o z => by
      rw [del_ne (nex a o z)]
      exact sx a o z
    obtain ⟨o, ho⟩ : ∃ o, outs[i]? = some o := ⟨_, List.getElem?_eq_getElem (show i < outs.length by omega)⟩
    obtain ⟨d1, d2, ed, eachd⟩ := each i d o hd ho
    have dvx' := ed ▸ dvx
    cases dvx' with
    | tup g1 g2 =>
      cases g2 with
      | @cons v1 _ _ _ w1 g2 =>
        cases g2 with
        | @cons v2 _ _ _ w2 g2 =>
          cases g2
          have rel : RelS K (del H'' D) (some v1 :: some v2 :: caps.map fun j => (σ[j]?).getD none) (some d1 :: some d2 :: capD caps δ) := rel_cons (rel_cons (cap_rel0 (r.same (s1.trans (s0.trans sd1))) caps) (w2.same sdx)) (w1.same sdx)
          refine ⟨_, [v1, v2], rfl, sameT sx g1, rfl, v1, [v2], rfl, v2, [], rfl, rfl, le_two, D, ys, hD2, _, rel, mt _ _ _ (fun b ⟨eb, hb⟩ H3 s3 h3 => ?_) eachd⟩
          have ht : outs.take (i + 1) = outs.take i ++ [o] := by rw [List.take_succ, ho]; rfl
          have s03 : Same H0 H3 := sd1.trans s3
          cases b with
          | false =>
            refine iteF ?_
            refine ⟨ds.length - (i + 1), by omega, rfl, hlt, H3, h3, s0.trans s03, ?_, rfl⟩
            have on : o = none := by cases o with | none => rfl | some z => cases eb
            rw [ht, on, List.filterMap_append]
            simpa using dys.same s03
          | true =>
            refine iteT ?_
            refine ⟨D, ys, upd_same, ?_⟩
            rw [del_upd h3]
            refine ⟨_, rel.same s3, me _ _ _ (fun y ey v H4 s4 dv h4 => ⟨upd_same, ?_, ds.length - (i + 1), by omega, rfl, hlt, H4, h4, s0.trans (s03.trans s4), ?_, upd_upd⟩) (hb rfl)⟩
            · rw [dys.length]
              exact Nat.lt_of_le_of_lt (Nat.le_trans (List.length_filterMap_le _ _) (List.length_take_le' _ _)) (by rw [hol]; exact hlen)
            · rw [ht, ey, List.filterMap_append]
              exact (dys.same (s03.trans s4)).append (.cons dv .nil)
  · have e : i = ds.length := by omega
    subst e
    refine .inl ⟨it.stop _ sU, ?_⟩
    rw [← hol, List.take_length] at dys
    exact q _ _ (s1.trans sU) (.lst (SqL.of upd_same) (dys.same (same_upd h0)))
section
variable {X : Cx} {scope : Scope} {cl : List (Str × Addr)} {x y : Str} {cn : List Str} {caps : List Nat} {elt tg iter : Expr} {ifs : List Expr} {ti : AD} {tt : TD} {te : ED} {pos px py tp : Pos} {c : Nat}
theorem m_comp2 (mi : MonoA ti) : MonoE (vComp2 caps ti tt te) := fun δ P P' g h => mi _ _ _ (fun ds ⟨outs, hol, each, hlen, q⟩ => ⟨outs, hol, each, hlen, g _ q⟩) h
theorem d_lc2 (S : CompScope X scope cl [x, y] caps cn) (hc : X.calm = true) (hi : PId X (.Tuple [.Name x px, .Name y py] c tp) iter ti)
    (hg : ∀ C fp s₂ H₂, PG (cxComp X scope cl C ([x, y] ++ cn) fp s₂ H₂) (.Tuple [.Name x px, .Name y py] c tp) (gTup X.K 2 (gCons (gName 0) (gCons (gName 1) gNil))))
    (ht : ∀ C fp s₂ H₂, PTsd (cxComp X scope cl C ([x, y] ++ cn) fp s₂ H₂) ifs tt) (he : ∀ C fp s₂ H₂, PD (cxComp X scope cl C ([x, y] ++ cn) fp s₂ H₂) elt te) (hs : ∀ x, foldedSetIterable iter X.env x = pure x := by intro _; rfl) :
    PD X (.ListComp elt [⟨.Tuple [.Name x px, .Name y py] c tp, iter, ifs, 0⟩] scope pos) (vComp2 caps ti tt te) :=
  ⟨(pe_comp S hc hi.pi hg (fun C fp s₂ H₂ => pts_frameN (ht C fp s₂ H₂).pts) (fun C fp s₂ H₂ => pe_frameN (he C fp s₂ H₂).pe) hs).imp fun σ H Q h => comp_imp2 hi.mono (ht 0 [] X.s₀ X.H₀).mono (he 0 [] X.s₀ X.H₀).mono h, m_comp2 hi.mono⟩
end
end DC

set_option maxHeartbeats 4000000
namespace DC
open PySem PySem.Spec PyProof.Rows L2
section
variable {K : PySem.W.Frag} {H H' : Hp} {μ μ' : Mu} {L L' : List Addr}
end
section
variable {P : Program} {w : World} {K : PySem.W.Frag} {mg : Str → Option Value} {base : Heap}
end
section
variable {X : Cx} {o e : Expr} {es : List Expr} {ta : ED} {t : AD} {tf : EF} {j k : Nat} {x m : Str} {ps : List Str} {sd : SpF} {sm : Addr → SpF} {ok : Addr → Prop} {p pos pos' apos : Pos} {i : Nat}
end
end DC

set_option maxHeartbeats 4000000
namespace DC
open PySem PySem.Spec PyProof.Rows L2
inductive Ents : List (Str × V) → List DictEntry → Prop
  | nil : Ents [] []
  | cons {x : Str} {t : Tok} {v : V} {e : DictEntry} {kvs : List (Str × V)} {es : List DictEntry} : e.key = .str x t → RelV v e.val → Ents kvs es → Ents ((x, v) :: kvs) (e :: es)
structure KTab (w : World) (K : PySem.W.Frag) (a : Addr) (kvs : List (Str × V)) : Prop where
  ex : ∃ (es : Array DictEntry) (n : Nat), K.lookup a = some ⟨.type "dict", none, .dict es n, #[]⟩ ∧ PySem.W.KeysLit w.params es.toList ∧ Ents kvs es.toList
  sys : (a == sysModules) = false
theorem Ents.has {x : Str} : ∀ {kvs : List (Str × V)} {es : List DictEntry}, Ents kvs es → ((es.find? fun d => Value.isStrOf x d.key).map (·.val)).isSome = kvs.any fun p => p.1 == x
  | _, _, .nil => rfl
  | _, _, .cons (x := y) (e := e) hk hv r => by
    have ih := Ents.has (x := x) r
    rw [List.find?_cons, hk, List.any_cons]
    show (Option.map (·.val) (match (y == x) with | true => some e | false => _)).isSome = (y == x || _)
    cases h : (y == x) with
    | true => rfl
    | false => exact ih
theorem Ents.get {x : Str} {v : V} : ∀ {kvs : List (Str × V)} {es : List DictEntry}, Ents kvs es → kvs.lookup x = some v → ∃ u, (es.find? fun d => Value.isStrOf x d.key).map (·.val) = some u ∧ RelV v u
  | _, _, .nil, h => by cases h
  | _, _, .cons (x := y) (e := e) hk hv r, h => by
    rw [List.lookup_cons] at h
    rw [List.find?_cons, hk]
    show ∃ u, Option.map (·.val) (match (y == x) with | true => some e | false => _) = some u ∧ RelV v u
    rw [show (y == x) = (x == y) from Bool.beq_comm]
    cases q : (x == y) with
    | true => rw [q] at h; cases h; exact ⟨_, rfl, hv⟩
    | false => rw [q] at h; exact Ents.get r h
section
variable {X : Cx} {a : Addr} {kvs : List (Str × V)}
theorem op_inK (T : KTab X.w X.K a kvs) : OpR X (compareOp .In) (fun x y H Q => ∃ z, x = .str z ∧ y = .ref a ∧ Q (.bl (kvs.any fun p => p.1 == z)) H) := by
  intro pins s σ H x y v u Q I rx ry h
  obtain ⟨z, rfl, rfl, q⟩ := h
  obtain ⟨t, rfl⟩ := (show ∃ t, v = Value.str z t from rx)
  cases (show u = Value.ref a from ry)
  obtain ⟨es, n, hl, hk, he⟩ := T.ex
  refine wpAny_in_of (strKind_is X.prog X.w z t) T.sys (PySem.W.mapOf_K (prog := X.prog) I.kIn hl hk) ?_
  have e : (findBy Value.isStrOf es z).isSome = kvs.any fun p => p.1 == z := by
    unfold findBy
    obtain ⟨l⟩ := es
    rw [List.find?_toArray]
    exact he.has
  rw [e]
  exact ⟨.bl _, H, I.tok _, rfl, q⟩
theorem ix_getK (T : KTab X.w X.K a kvs) : IxR X (fun x y H Q => ∃ z r, x = .ref a ∧ y = .str z ∧ kvs.lookup z = some r ∧ Q r H) := by
  intro value slice pins s σ H x y v u Q I rx ry h hs
  obtain ⟨z, r, rfl, rfl, hr, q⟩ := h
  obtain ⟨t, rfl⟩ := (show ∃ t, u = Value.str z t from ry)
  cases (show v = Value.ref a from rx)
  obtain ⟨es, n, hl, hk, he⟩ := T.ex
  have hm := PySem.W.mapOf_K (prog := X.prog) (w := X.w) I.kIn hl hk
  obtain ⟨b, hb, rb⟩ := he.get hr
  have e : findBy Value.isStrOf es z = some b := by
    unfold findBy
    obtain ⟨l⟩ := es
    rw [List.find?_toArray]
    exact hb
  exact tail_any hm.typeIs slot_dict_getitem.lookup (wpAny_getItem_of (strKind_is X.prog X.w z t) hm e ⟨r, H, I.tok _, rb, q⟩) hs
end
inductive Tb (K : PySem.W.Frag) : List (Str × V) → List (Str × D) → Prop
  | nil : Tb K [] []
  | cons {x : Str} {v : V} {d : D} {kvs : List (Str × V)} {tab : List (Str × D)} : (∀ H, Dv K H v d) → Tb K kvs tab → Tb K ((x, v) :: kvs) ((x, d) :: tab)
structure KTd (w : World) (K : PySem.W.Frag) (mg : Str → Option Value) (x : Str) (a : Addr) (tab : List (Str × D)) : Prop where
  at_ : mg x = some (.ref a)
  ex : ∃ kvs, KTab w K a kvs ∧ Tb K kvs tab
theorem Tb.any {K : PySem.W.Frag} {z : Str} : ∀ {kvs : List (Str × V)} {tab : List (Str × D)}, Tb K kvs tab → (kvs.any fun p => p.1 == z) = tab.any fun p => p.1 == z
  | _, _, .nil => rfl
  | _, _, .cons h r => by rw [List.any_cons, List.any_cons, Tb.any r]
theorem Tb.look {K : PySem.W.Frag} {z : Str} {d : D} : ∀ {kvs : List (Str × V)} {tab : List (Str × D)}, Tb K kvs tab → tab.lookup z = some d → ∃ v, kvs.lookup z = some v ∧ ∀ H, Dv K H v d
  | _, _, .nil, h => by cases h
  | _, _, .cons (x := x) h r, e => by
    rw [List.lookup_cons] at e ⊢
    cases q : z == x with
    | true => rw [q] at e; cases e; exact ⟨_, rfl, h⟩
    | false => rw [q] at e; exact Tb.look r e
theorem PD.weak {X : Cx} {e : Expr} {t t' : ED} (h : PD X e t) (m : MonoE t') (f : ∀ δ Q, t' δ Q → t δ Q) : PD X e t' := ⟨h.pe.imp fun σ H Q ⟨δ, r, q⟩ => ⟨δ, r, f _ _ q⟩, m⟩
def vInK (neg : Bool) (tab : List (Str × D)) (te : ED) : ED := fun δ Q => te δ fun d => ∃ z, d = .str z ∧ Q (.bl (if neg then !tab.any fun p => p.1 == z else tab.any fun p => p.1 == z))
theorem m_inK {neg : Bool} {tab : List (Str × D)} {te : ED} (m : MonoE te) : MonoE (vInK neg tab te) := fun δ P P' g h => m _ _ _ (fun d ⟨z, e, q⟩ => ⟨z, e, g _ q⟩) h
def fInK (neg : Bool) (a : Addr) (tab : List (Str × D)) : F2 := fun d e Q => ∃ z, d = .str z ∧ e = .adr a ∧ Q (.bl (if neg then !tab.any fun p => p.1 == z else tab.any fun p => p.1 == z))
theorem m_fInK {neg : Bool} {a : Addr} {tab : List (Str × D)} : MonoF (fInK neg a tab) := fun d e P P' g ⟨z, e1, e2, q⟩ => ⟨z, e1, e2, g _ q⟩
def vGetK (tab : List (Str × D)) (te : ED) : ED := fun δ Q => te δ fun d => ∃ z r, d = .str z ∧ tab.lookup z = some r ∧ Q r
def fGetK (a : Addr) (tab : List (Str × D)) : F2 := fun e d Q => ∃ z r, e = .adr a ∧ d = .str z ∧ tab.lookup z = some r ∧ Q r
theorem m_fGetK {a : Addr} {tab : List (Str × D)} : MonoF (fGetK a tab) := fun d e P P' g ⟨z, r, e1, e2, l, q⟩ => ⟨z, r, e1, e2, l, g _ q⟩
section
variable {X : Cx} {a : Addr} {tab : List (Str × D)} {kvs : List (Str × V)} {x : Str} {p pos : Pos} {e : Expr} {te : ED}
theorem does_inK (t : Tb X.K kvs tab) : Does X.K (fun x y H Q => ∃ z, x = .str z ∧ y = .ref a ∧ Q (.bl (kvs.any fun p => p.1 == z)) H) (fInK false a tab) := by
  rintro H v u d e Q hv hu ⟨z, rfl, rfl, q⟩
  cases hv
  cases hu
  exact ⟨z, rfl, rfl, by rw [t.any]; exact q _ H (Same.refl _) (.bl _)⟩
theorem does_getK (t : Tb X.K kvs tab) : Does X.K (fun x y H Q => ∃ z r, x = .ref a ∧ y = .str z ∧ kvs.lookup z = some r ∧ Q r H) (fGetK a tab) := by
  rintro H v u d e Q hv hu ⟨z, r, rfl, rfl, l, q⟩
  cases hv
  cases hu
  obtain ⟨b, hb, db⟩ := t.look l
  exact ⟨z, b, rfl, rfl, hb, q _ H (Same.refl _) (db H)⟩
theorem d_inK (T : KTd X.w X.K X.mg x a tab) (hg : Gl X x) (he : PD X e te) (hm : behindInMarks .In (.Name x p) = false := by rfl) (hd : (x == ("__debug__" : Str)) = false := by decide) : PD X (.Compare e [.In] [.Name x p] pos) (vInK false tab te) := by
  obtain ⟨kvs, k, t⟩ := T.ex
  exact (d_cmp (op_inK k) (does_inK t) m_fInK he (d_glob (v := .ref a) hg T.at_ rfl (fun _ => .adr a) hd) hm).weak (m_inK he.mono) fun δ Q h => he.mono _ _ _ (fun d ⟨z, e1, q⟩ => ⟨z, e1, rfl, q⟩) h
theorem d_getK (T : KTd X.w X.K X.mg x a tab) (hg : Gl X x) (he : PD X e te) (hs : PlainIx e) (hd : (x == ("__debug__" : Str)) = false := by decide) : PD X (.Subscript (.Name x p) e pos) (vGetK tab te) := by
  obtain ⟨kvs, k, t⟩ := T.ex
  have q := d_glob (X := X) (pos := p) (v := .ref a) hg T.at_ rfl (fun _ => .adr a) hd
  exact (d_bin (t := oE X.K (vC (.adr a))) (pe_ix (ix_getK k) q.pe he.pe hs) q.mono he.mono (does_getK t) m_fGetK).weak (fun δ P P' g h => he.mono _ _ _ (fun d ⟨z, r, e, l, q⟩ => ⟨z, r, e, l, g _ q⟩) h) fun δ Q h => he.mono _ _ _ (fun d ⟨z, r, e1, l, q⟩ => ⟨z, r, rfl, e1, l, q⟩) h
end
def mO (g : D → D) (ds : List D) : List (Option D) := ds.map fun d => some (g d)
theorem mO_len {g : D → D} {ds : List D} : (mO g ds).length = ds.length := by simp [mO]
theorem mO_at {g : D → D} {ds : List D} {i : Nat} {d : D} {o : Option D} (h1 : ds[i]? = some d) (h2 : (mO g ds)[i]? = some o) : d ∈ ds ∧ o = some (g d) := by
  unfold mO at h2
  rw [List.getElem?_map, h1] at h2
  exact ⟨List.mem_of_getElem? h1, by simpa using h2.symm⟩
theorem mO_out {g : D → D} : ∀ {ds : List D}, (mO g ds).filterMap id = ds.map g
  | [] => rfl
  | d :: ds => by
    have ih := mO_out (g := g) (ds := ds)
    unfold mO at ih ⊢
    rw [List.map_cons, List.map_cons, ← ih]
    rfl
end DC
namespace DC
open PySem PySem.Spec PyProof.Rows L2
section
variable {X : Cx} {e : Expr} {tf : EF} {x : Str} {pos pos' : Pos} {i : Nat}
end
end DC

set_option maxHeartbeats 4000000
namespace L2
open PySem PySem.Spec PyProof.Rows
section
variable {X : Cx} {es : List Expr} {t : TA}
end
end L2
namespace DC
open PySem PySem.Spec PyProof.Rows L2
section
variable {P : Program} {w : World} {K : PySem.W.Frag} {mg : Str → Option Value} {base : Heap}
end
section
variable {P : Program} {w : World} {K : PySem.W.Frag} {mg : Str → Option Value} {base : Heap}
end
section
variable {X : Cx} {o e : Expr} {es : List Expr} {ta : ED} {t : AD} {j k : Nat} {x y m : Str} {ps : List Str} {sd : SpM} {sm : Addr → SpM} {ok : Addr → Prop} {p pos pos' pos2 apos : Pos} {i : Nat}
end
end DC

set_option maxHeartbeats 4000000
namespace L2
open PySem PySem.Spec PyProof.Rows
def ExAt (B : Heap) (e C : Addr) (dx : Option Addr) (fl : Option Value) (h : Heap) : Prop := ∃ oe vs, h.get? e = some oe ∧ oe.cls = .ref C ∧ oe.dict = dx ∧ oe.data = .fields vs ∧ 1 < vs.size ∧ vs[2]? = some .none ∧
  match fl with
  | none => vs[1]? = some .none
  | some v => ∃ T oT ts, vs[1]? = some (.ref T) ∧ B.get? T = none ∧ T ≠ e ∧ h.get? T = some oT ∧ oT.data = .fields ts ∧ ts[3]? = some v
structure Air (B : Heap) (l : List Env) (e : Addr) (h : Heap) : Prop where
  st : B.StaysIn h
  ne : B.get? e = none
  fr : h.FunFrames B l
theorem dict_mapFields (o : Obj) (f : Array Value → Array Value) : (o.mapFields f).dict = o.dict := by
  obtain ⟨c, d, dt, sl⟩ := o
  cases dt <;> rfl
section
variable {M : Model} {A : Around} {E : Value → Shared → Prop} {s : Shared} {B : Heap} {env : Env} {outer : List Env} {L e C : Addr} {dx : Option Addr} {Q : Unit → Shared → Prop}
theorem entry_x {oe : Obj} {vs : Array Value} {head : Value} {b : Bool} (hfr : A.frames = some (env :: outer)) (hf : env.frame = some L) (a : Air B (env :: outer) e s.heap) (he : s.heap.get? e = some oe) (hc : oe.cls = .ref C)
    (hdx : oe.dict = dx) (hd : oe.data = .fields vs) (hz : 1 < vs.size) (hy : vs[2]? = some .none) (h : ∀ h', Air B (env :: outer) e h' → s.heap.UpToSlots h' → ExAt B e C dx (some (rawInt L)) h' → Q () { s with heap := h' }) :
    wpAny M A (do let a ← frameOf env; let pl ← entryPlaceOf L b; let z ← EntryCells.newEntry head a .none (rawInt L) .none pl; setField (.ref e) 1 z) Q E s := by
  have nfr : e ∉ (env :: outer).filterMap (·.frame) := fun hm => by
    obtain ⟨_, o, ho, hn⟩ := a.fr.mem hm
    rw [he] at ho
    cases ho
    exact hn vs hd
  refine wpAny_bind (wpAny_frameOf_fun hfr a.fr hf fun h1 s1 => wpAny_bind (wpAny_entryPlaceOf fun pl hpl => ?_))
  unfold EntryCells.newEntry newFields
  refine wpAny_bind (wpAny_newObj_type ?_ (hpl.sizeOk5 _ _ _ _ _))
  have e1 : h1.get? e = some oe := (s1.2.1 e nfr).trans he
  have b1 : B.StaysIn h1 := fun c o q => (s1.2.1 c fun hm => by rw [(a.fr.mem hm).1] at q; cases q).trans (a.st c o q)
  generalize hob : ({ cls := .type "traceback", dict := none, data := .fields ([head, .ref L, .none, rawInt L, .none] ++ (if pl.isEmpty then List.replicate 6 Value.none else pl)).toArray } : Obj) = ob
  have e2 := Heap.get?_push_of_some (h := h1) ob e1
  have hTe : h1.objs.size ≠ e := Nat.ne_of_gt (Heap.lt_size e1)
  have d3 := Obj.data_mapFields hd (·.setIfInBounds 1 (Value.ref h1.objs.size))
  have e3 := Heap.get?_update_self (Obj.mapFields (·.setIfInBounds 1 (Value.ref h1.objs.size))) e2 (Obj.isFreed_of_fields d3)
  have t3 := (Heap.get?_update_other (h1.push ob) (Obj.mapFields (·.setIfInBounds 1 (Value.ref h1.objs.size))) (Ne.symm hTe)).trans (Heap.get?_push_size h1 (by rw [← hob]; rfl))
  have kp : ∀ c o, c ≠ e → h1.get? c = some o → ((h1.push ob).update e (Obj.mapFields (·.setIfInBounds 1 (Value.ref h1.objs.size)))).get? c = some o := fun c o n q => by
    rw [Heap.get?_update_other _ _ (Ne.symm n)]
    exact Heap.get?_push_of_some _ q
  have nr : ∀ c o, s.heap.get? c = some o → (∀ ws, o.data ≠ .fields ws) → c ≠ e := fun c o q n z => by
    rw [z, he] at q
    cases q
    exact n vs hd
  refine wpAny_setField e2 hd hz (h _ ⟨fun c o q => kp c o (fun z => by rw [z, a.ne] at q; cases q) (b1 c o q), a.ne, a.fr.of_keeps fun c o q n => ?_⟩ (fun c o q n => ?_) ⟨_, _, e3, ?_, ?_, d3, ?_, ?_, ?_⟩)
  · obtain ⟨sl, z⟩ := s1.2.2 c o q
    exact ⟨_, kp c _ (nr c o q n) z, rfl⟩
  · obtain ⟨sl, z⟩ := s1.2.2 c o q
    exact ⟨sl, kp c _ (nr c o q n) z⟩
  · rw [Obj.cls_mapFields]; exact hc
  · rw [dict_mapFields]; exact hdx
  · rw [Array.size_setIfInBounds]; exact hz
  · rw [Array.getElem?_setIfInBounds_ne (by decide)]; exact hy
  · refine ⟨h1.objs.size, ob, _, by simp [hz], b1.fresh, hTe, t3, by rw [← hob], ?_⟩
    first | (simp; done) | (rcases hpl with rfl | ⟨_, _, _, _, _, _, _, rfl⟩ <;> simp)
theorem upd_T {T : Addr} {oT : Obj} {ts : Array Value} {k : Nat} {v : Value} {h : Heap} {l : List Env} (a : Air B l e h) (hT : h.get? T = some oT) (hd : oT.data = .fields ts) (hn : B.get? T = none) :
    Air B l e (h.update T (Obj.mapFields (·.setIfInBounds k v))) ∧ h.UpToSlots (h.update T (Obj.mapFields (·.setIfInBounds k v))) := by
  have other : ∀ b, b ≠ T → (h.update T (Obj.mapFields (·.setIfInBounds k v))).get? b = h.get? b := fun b n => Heap.get?_update_other _ _ (Ne.symm n)
  have nr : ∀ c o, h.get? c = some o → (∀ ws, o.data ≠ .fields ws) → c ≠ T := fun c o q n z => by
    rw [z, hT] at q
    cases q
    exact n ts hd
  exact ⟨⟨fun b o q => (other b fun z => by rw [z, hn] at q; cases q).trans (a.st b o q), a.ne, a.fr.of_keeps fun c o q n => ⟨o, (other c (nr c o q n)).trans q, rfl⟩⟩, fun c o q n => ⟨o.slots, (other c (nr c o q n)).trans q⟩⟩
theorem note_x {fl : Option Value} (hfr : A.frames = some (env :: outer)) (hf : env.frame = some L) (a : Air B (env :: outer) e s.heap) (x : ExAt B e C dx fl s.heap)
    (h : ∀ h', Air B (env :: outer) e h' → s.heap.UpToSlots h' → ExAt B e C dx (some (rawInt L)) h' → Q () { s with heap := h' }) : wpAny M A (noteFrame (.ref e) env) Q E s := by
  obtain ⟨oe, vs, he, hc, hdx, hd, hz, hy, x⟩ := x
  unfold noteFrame
  simp only [hf]
  cases fl with
  | none =>
    refine wpAny_bind (wpAny_field he hd x ?_)
    rw [if_neg (by decide)]
    exact entry_x hfr hf a he hc hdx hd hz hy h
  | some v =>
    obtain ⟨T, oT, ts, h1, hn, hTe, hT, hdT, h3⟩ := x
    refine wpAny_bind (wpAny_field he hd h1 ?_)
    rw [if_pos (show (Value.ref T != Value.none) = true from by simp)]
    refine wpAny_bind (wpAny_field hT hdT h3 ?_)
    by_cases q : (v == rawInt L) = true
    · rw [if_pos q]
      have ev : v = rawInt L := eq_of_beq q
      subst ev
      exact wpAny_pure (h _ a (.refl _) ⟨oe, vs, he, hc, hdx, hd, hz, hy, T, oT, ts, h1, hn, hTe, hT, hdT, h3⟩)
    · rw [if_neg q]
      refine wpAny_bind (wpAny_setField hT hdT (Array.getElem?_eq_some_iff.mp h3).1 ?_)
      obtain ⟨a2, u2⟩ := upd_T (k := 3) (v := Value.none) a hT hdT hn
      have e2 : (s.heap.update T (Obj.mapFields (·.setIfInBounds 3 Value.none))).get? e = some oe := (Heap.get?_update_other _ _ hTe).trans he
      exact entry_x (s := { s with heap := s.heap.update T (Obj.mapFields (·.setIfInBounds 3 Value.none)) }) hfr hf a2 e2 hc hdx hd hz hy fun h' a' u' x' => h h' a' (u2.trans u') x'
theorem flight_x {v : Value} {f : Option Addr} {l : List Env} (a : Air B l e s.heap) (x : ExAt B e C dx (some v) s.heap)
    (h : ∀ h', Air B l e h' → s.heap.UpToSlots h' → ExAt B e C dx (some (f.elim .none fun f => rawInt f)) h' → Q () { s with heap := h' }) : wpAny M A (setFlight (.ref e) f) Q E s := by
  obtain ⟨oe, vs, he, hc, hdx, hd, hz, hy, T, oT, ts, h1, hn, hTe, hT, hdT, h3⟩ := x
  unfold setFlight
  refine wpAny_bind (wpAny_field he hd h1 ?_)
  rw [if_pos (show (Value.ref T != Value.none) = true from by simp)]
  have hz3 : 3 < ts.size := (Array.getElem?_eq_some_iff.mp h3).1
  obtain ⟨a2, u2⟩ := upd_T (k := 3) (v := f.elim Value.none fun f => rawInt f) a hT hdT hn
  refine wpAny_setField hT hdT hz3 (h _ a2 u2 ⟨oe, vs, (Heap.get?_update_other _ _ hTe).trans he, hc, hdx, hd, hz, hy, T, _, _, h1, hn, hTe, Heap.get?_update_self _ hT (Obj.isFreed_of_fields (Obj.data_mapFields hdT _)), Obj.data_mapFields hdT _, by simp [hz3]⟩)
theorem leave_x {fl : Option Value} (hfr : A.frames = some (env :: outer)) (hf : env.frame = some L) (a : Air B (env :: outer) e s.heap) (x : ExAt B e C dx fl s.heap)
    (h : ∀ h', Air B outer e h' → s.heap.UpToSlots h' → ExAt B e C dx (some .none) h' → Q () { s with heap := h' }) : wpAny M A (leaving env (.ref e)) Q E s := by
  unfold leaving
  refine wpAny_bind (note_x hfr hf a x fun h1 a1 u1 x1 => ?_)
  refine flight_x (s := { s with heap := h1 }) a1 x1 fun h2 a2 u2 x2 => h h2 ⟨a2.st, a2.ne, a2.fr.2.2⟩ (u1.trans u2) x2
end
end L2

set_option maxHeartbeats 4000000
namespace L2
open PySem PySem.Spec PyProof.Rows
def HO.dx? : HO → Option Addr
  | .ins _ dx _ => some dx
  | .frz _ u => u.dx?
  | _ => none
section
variable {P : Program} {w : World} {H H' : Hp} {h h' : Heap} {a d : Addr} {u : HO}
theorem ObjOk.there (x : ObjOk P w H h a u) : ∃ o, h.get? a = some o := by
  cases u with
  | lst xs => obtain ⟨_, _, _, _, e⟩ := x; exact ⟨_, e⟩
  | tup xs => obtain ⟨_, _, _, o, e, _⟩ := x; exact ⟨_, e⟩
  | dK kvs => obtain ⟨_, _, _, _, o, _, _, e, _⟩ := x; exact ⟨_, e⟩
  | dT kvs => obtain ⟨_, _, _, _, o, _, _, e, _⟩ := x; exact ⟨_, e⟩
  | set S n => obtain ⟨o, _, _, _, e, _⟩ := x; exact ⟨_, e⟩
  | ins C dx fs => obtain ⟨_, _, _, e, _⟩ := x; exact ⟨_, e⟩
  | own y => exact x
  | xd fs => obtain ⟨_, ⟨o, _, _, e, _⟩, _⟩ := x; exact ⟨_, e⟩
  | rng lo hi => obtain ⟨_, _, _, e⟩ := x; exact ⟨_, e⟩
  | frz ob u => obtain ⟨e, _⟩ := x; exact ⟨_, e⟩
  | tbl ps => exact ⟨_, x⟩
  | met f y => exact ⟨_, x⟩
  | ext φ => obtain ⟨_, e, _⟩ := x; exact e
theorem ObjOk.own_of (x : ObjOk P w H h a u) (e : u.dx? = some d) : H d = some (.own a) := by
  induction u with
  | ins C dx fs => cases e; exact x.1
  | frz o u ih => exact ih x.2 e
  | _ => cases e
theorem ObjOk.swap (ht : ∀ b xs, H b = some (.tup xs) → H' b = some (.tup xs)) (ho : ∀ d, u.dx? = some d → H' d = some (.own a)) (x : ObjOk P w H h a u) : ObjOk P w H' h a u := by
  induction u with
  | dT _ =>
    obtain ⟨z, y, xs, r, c⟩ := x
    exact ⟨z, y, xs, Paired.mapP r fun p q z => ⟨z.1, ht _ _ z.2.1, z.2.2⟩, c⟩
  | ins _ dx _ => exact ⟨ho dx rfl, x.2⟩
  | frz _ u ih => exact ⟨x.1, ih ho x.2⟩
  | _ => exact x
end
open Classical in
noncomputable def frzH (h : Heap) (H : Hp) : Hp := fun b => match H b with
  | none => none
  | some (.tup xs) => some (.tup xs)
  | some (.frz o u) => some (.frz o u)
  | some (.own x) => if ∃ u, H x = some u ∧ u.dx? = some b then some (.own x) else (h.get? b).map fun o => .frz o (.own x)
  | some u => (h.get? b).map fun o => .frz o u
def thaw (H H' : Hp) : Hp := fun b => match H b with
  | some u => some u
  | none => H' b
theorem thaw_same (H H' : Hp) : Same H (thaw H H') := fun b o e => by unfold thaw; rw [e]
theorem thaw_none {H H' : Hp} {b : Addr} (e : H b = none) : thaw H H' b = H' b := by unfold thaw; rw [e]
theorem thaw_some {H H' : Hp} {b : Addr} {u : HO} (e : H b = some u) : thaw H H' b = some u := by unfold thaw; rw [e]
section
variable {P : Program} {w : World} {H H' : Hp} {h h' : Heap} {b : Addr} {u : HO} {fs : List Addr}
theorem frz_none (e : H b = none) : frzH h H b = none := by unfold frzH; rw [e]
theorem frz_tup {xs : List V} (e : H b = some (.tup xs)) : frzH h H b = some (.tup xs) := by unfold frzH; rw [e]
theorem frz_frz {o : Obj} {u : HO} (e : H b = some (.frz o u)) : frzH h H b = some (.frz o u) := by unfold frzH; rw [e]
theorem frz_own {x : Addr} {u : HO} (e : H b = some (.own x)) (hu : H x = some u) (hd : u.dx? = some b) : frzH h H b = some (.own x) := by
  unfold frzH
  rw [e]
  exact if_pos ⟨u, hu, hd⟩
theorem frz_cases (ok : HOk P w H h) (e : H b = some u) : (frzH h H b = some u ∧ ((∃ xs, u = .tup xs) ∨ (∃ o v, u = .frz o v) ∨ ∃ x v, u = .own x ∧ H x = some v ∧ v.dx? = some b)) ∨ ∃ o, h.get? b = some o ∧ frzH h H b = some (.frz o u) := by
  obtain ⟨o, ho⟩ := (ok b u e).there
  cases u with
  | tup xs => exact .inl ⟨frz_tup e, .inl ⟨xs, rfl⟩⟩
  | frz o v => exact .inl ⟨frz_frz e, .inr (.inl ⟨o, v, rfl⟩)⟩
  | own x =>
    by_cases q : ∃ u, H x = some u ∧ u.dx? = some b
    · obtain ⟨v, hv, hd⟩ := q
      exact .inl ⟨frz_own e hv hd, .inr (.inr ⟨x, v, rfl, hv, hd⟩)⟩
    · refine .inr ⟨o, ho, ?_⟩
      unfold frzH
      rw [e]
      show (if _ then _ else _) = _
      rw [if_neg q, ho]
      rfl
  | _ => exact .inr ⟨o, ho, by unfold frzH; rw [e]; show (h.get? b).map _ = _; rw [ho]; rfl⟩
theorem frz_owned (ok : HOk P w H h) {a d : Addr} (ea : H a = some u) (hd : u.dx? = some d) : frzH h H d = some (.own a) ∧ H d = some (.own a) := by
  have z := ObjOk.own_of (ok a u ea) hd
  exact ⟨frz_own z ea hd, z⟩
theorem HOk.frz (ok : HOk P w H h) : HOk P w (frzH h H) h := fun b v e => by
  have ht : ∀ b xs, H b = some (.tup xs) → frzH h H b = some (.tup xs) := fun b xs q => frz_tup q
  cases q : H b with
  | none => rw [frz_none q] at e; cases e
  | some y =>
    have own : ∀ d, y.dx? = some d → frzH h H d = some (.own b) := fun d hd => (frz_owned ok q hd).1
    rcases frz_cases ok q with ⟨z, _⟩ | ⟨o, ho, z⟩
    · rw [z] at e
      cases e
      exact ObjOk.swap ht own (ok b _ q)
    · rw [z] at e
      cases e
      exact ⟨ho, ObjOk.swap ht own (ok b _ q)⟩
structure Thw (h : Heap) (H H' : Hp) : Prop where
  tups : ∀ b xs, frzH h H b = some (.tup xs) → H' b = some (.tup xs)
  frzs : ∀ b o u, frzH h H b = some (.frz o u) → H' b = some (.frz o u)
theorem thaw_cases (ok : HOk P w H h) (un : Thw h H H') (ok' : HOk P w H' h') (e : H b = some u) : ((∃ xs, u = .tup xs) ∧ H' b = some u) ∨ ((∃ o v, u = .frz o v) ∧ H' b = some u) ∨ ((∃ x v, u = .own x ∧ H x = some v ∧ v.dx? = some b) ∧ H' b = some u) ∨ ∃ o, H' b = some (.frz o u) := by
  rcases frz_cases ok e with ⟨z, q⟩ | ⟨o, ho, z⟩
  · rcases q with ⟨xs, rfl⟩ | ⟨o, v, rfl⟩ | ⟨x, v, rfl, hx, hd⟩
    · exact .inl ⟨⟨xs, rfl⟩, un.tups _ _ z⟩
    · exact .inr (.inl ⟨⟨o, v, rfl⟩, un.frzs _ _ _ z⟩)
    · refine .inr (.inr (.inl ⟨⟨x, v, rfl, hx, hd⟩, ?_⟩))
      rcases frz_cases ok hx with ⟨y, r⟩ | ⟨o', _, y⟩
      · rcases r with ⟨xs, rfl⟩ | ⟨o, v', rfl⟩ | ⟨x', v', rfl, _⟩
        · cases hd
        · exact ObjOk.own_of (ok' x _ (un.frzs _ _ _ y)) hd
        · cases hd
      · exact ObjOk.own_of (u := .frz o' v) (ok' x _ (un.frzs _ _ _ y)) hd
  · exact .inr (.inr (.inr ⟨o, un.frzs _ _ _ z⟩))
theorem thaw_tup (ok : HOk P w H h) (un : Thw h H H') (ok' : HOk P w H' h') {xs : List V} (e : H' b = some (.tup xs)) : thaw H H' b = some (.tup xs) := by
  cases q : H b with
  | none => rw [thaw_none q]; exact e
  | some u =>
    rw [thaw_some q]
    rcases thaw_cases ok un ok' q with ⟨_, z⟩ | ⟨⟨o, v, rfl⟩, z⟩ | ⟨⟨x, v, rfl, _⟩, z⟩ | ⟨o, z⟩
    · rw [z] at e; exact e
    · rw [z] at e; cases e
    · rw [z] at e; cases e
    · rw [z] at e; cases e
theorem HOk.thaw (ok : HOk P w H h) (un : Thw h H H') (ok' : HOk P w H' h') : HOk P w (thaw H H') h' := fun b v e => by
  have ht : ∀ b xs, H' b = some (.tup xs) → L2.thaw H H' b = some (.tup xs) := fun b xs q => thaw_tup ok un ok' q
  cases q : H b with
  | some y =>
    rw [thaw_some q] at e
    cases e
    have own : ∀ d, v.dx? = some d → L2.thaw H H' d = some (.own b) := fun d hd => thaw_some (frz_owned ok q hd).2
    rcases thaw_cases ok un ok' q with ⟨_, z⟩ | ⟨_, z⟩ | ⟨⟨x, v, rfl, _⟩, z⟩ | ⟨o, z⟩
    · exact ObjOk.swap ht own (ok' b _ z)
    · exact ObjOk.swap ht own (ok' b _ z)
    · exact ok' b _ z
    · exact ObjOk.swap ht own (ok' b _ z).2
  | none =>
    rw [thaw_none q] at e
    refine ObjOk.swap ht (fun d hd => ?_) (ok' b v e)
    have hd' := ObjOk.own_of (ok' b v e) hd
    cases r : H d with
    | none => rw [thaw_none r]; exact hd'
    | some u =>
      exfalso
      rcases thaw_cases ok un ok' r with ⟨⟨xs, rfl⟩, z⟩ | ⟨⟨o, v, rfl⟩, z⟩ | ⟨⟨x, v, rfl, hx, _⟩, z⟩ | ⟨o, z⟩
      · rw [z] at hd'; cases hd'
      · rw [z] at hd'; cases hd'
      · rw [z] at hd'
        cases hd'
        rw [q] at hx
        cases hx
      · rw [z] at hd'; cases hd'
theorem Un.thaw (ok : HOk P w H h) (un : Un fs [] (frzH h H) H' h h') : Un fs [] H (thaw H H') h h' where
  keep := fun b o e n hb hx => un.keep b o e (frz_none n) hb hx
  slot := fun b o e n hb hx => un.slot b o e (frz_none n) hb hx
  free := fun b o e n hx => by rw [thaw_none n]; exact un.free b o e (frz_none n) hx
  there := un.there
  tups := fun b xs e => thaw_some e
  frzs := fun b o u e => thaw_some e
  tbls := fun b ps e => ⟨#[], by rw [thaw_some e]; simp⟩
def HO.data : HO → Prop
  | .own _ => False
  | .frz _ _ => False
  | _ => True
theorem Rd.frz (ok : HOk P w H h) (hu : u.data) (r : Rd H b u) : Rd (frzH h H) b u := by
  rcases r with r | ⟨o, r⟩
  · rcases frz_cases ok r with ⟨z, _⟩ | ⟨o, _, z⟩
    · exact .inl z
    · exact .inr ⟨o, z⟩
  · exact .inr ⟨o, frz_frz r⟩
theorem Rd.thaw (ok : HOk P w H h) (un : Thw h H H') (ok' : HOk P w H' h') (hu : u.data) (r : Rd H' b u) : Rd (thaw H H') b u := by
  cases q : H b with
  | none => unfold Rd; rw [thaw_none q]; exact r
  | some v =>
    unfold Rd
    rw [thaw_some q]
    rcases thaw_cases ok un ok' q with ⟨_, z⟩ | ⟨⟨o, v', rfl⟩, z⟩ | ⟨⟨x, v', rfl, _⟩, z⟩ | ⟨o, z⟩
    · rcases r with r | ⟨o, r⟩
      · rw [z] at r; exact .inl r
      · rw [z] at r; exact .inr ⟨o, r⟩
    · rcases r with r | ⟨o, r⟩
      · rw [z] at r; cases r; exact hu.elim
      · rw [z] at r; exact .inr ⟨o, r⟩
    · rcases r with r | ⟨o, r⟩
      · rw [z] at r; cases r; exact hu.elim
      · rw [z] at r; cases r
    · rcases r with r | ⟨o, r⟩
      · rw [z] at r; cases r; exact hu.elim
      · rw [z] at r; cases r; exact .inl rfl
end
end L2

set_option maxHeartbeats 1000000
namespace L2
open PySem PySem.Spec PyProof.Rows
structure Beneath (fs ex : List Addr) (H : Hp) (h B : Heap) : Prop where
  kp : ∀ b o, h.get? b = some o → H b = none → b ∉ fs → b ∉ ex → B.get? b = some o
  th : ∀ b o, h.get? b = some o → b ∉ fs → b ∉ ex → ∃ o', B.get? b = some o'
def CXD (P : Program) (w : World) : CXT := fun outer H s E e s' => ∃ ea C dx H' B, e = .ref ea ∧ s'.os = s.os ∧ AllBare s'.gens ∧ Un (frs outer) [] H H' s.heap s'.heap ∧ Air B outer ea s'.heap ∧ HOk P w H' B ∧ Beneath (frs outer) [] H s.heap B ∧
  ExAt B ea C dx (some .none) s'.heap ∧ E (.ref C) dx H'
def InAir (X : Cx) (H : Hp) (s : Shared) (ea C : Addr) (dx : Option Addr) : Prop := ∃ B fl, Air B X.stack ea s.heap ∧ HOk X.prog X.w H B ∧ Beneath X.fs X.ex X.H₀ X.s₀.heap B ∧ ExAt B ea C dx fl s.heap ∧ ∀ p ∈ X.pn, B.get? p.1 = some p.2
section
variable {X : Cx} {pins : List (Addr × Obj)} {σ : St} {H : Hp} {s s' : Shared} {E : XK} {e : Value}
theorem Inv.nost (I : Inv X pins σ H s) {b : Addr} {o : Obj} (q : X.s₀.heap.get? b = some o) (hb : b ∉ X.fs) : b ∉ frs X.stack := fun z => by
  rcases List.mem_cons.mp (I.stkSub b z) with y | y
  · exact absurd (Heap.lt_size q) (by rw [y]; exact Nat.not_lt.mpr I.ok.above)
  · exact hb y
theorem Inv.pinOut (I : Inv X pins σ H s) {p : Addr × Obj} (hp : p ∈ X.pn) : p.1 ∉ frs X.stack := fun z => by
  obtain ⟨_, _, n1, n2, _⟩ := I.pin p (List.mem_append_left _ hp)
  rcases List.mem_cons.mp (I.stkSub _ z) with y | y
  · exact n1 y
  · exact n2 y
theorem Inv.beneath (I : Inv X pins σ H s) {B : Heap} (b : Beneath (frs X.stack) [] H s.heap B) : Beneath X.fs X.ex X.H₀ X.s₀.heap B :=
  ⟨fun c o q n hb hx => b.kp c o (I.base.keep c o q n hb hx) (I.base.free c o q n hx) (I.nost q hb) (by simp), fun c o q hb hx => let ⟨o', z⟩ := I.base.there c o q hx; b.th c o' z (I.nost q hb) (by simp)⟩
theorem flown_in (I : Inv X pins σ H s) (h : CXD X.prog X.w X.stack H s E e s') : ∃ ea C dx H', e = .ref ea ∧ Inv X pins σ H' s' ∧ InAir X H' s' ea C dx ∧ E (.ref C) dx H' := by
  obtain ⟨ea, C, dx, H', B, rfl, os, bare, un, a, ok, bn, x, hE⟩ := h
  exact ⟨ea, C, dx, H', rfl, I.call' (ch := []) os un (ok.kept a.st) bare (fun b z => absurd z (by simp)), ⟨B, some .none, a, ok, I.beneath bn, x, fun p hp => bn.kp p.1 p.2 (I.pin p (List.mem_append_left _ hp)).1 (I.pin p (List.mem_append_left _ hp)).2.1 (I.pinOut hp) (by simp)⟩, hE⟩
theorem raised_in {ea C : Addr} {dx : Option Addr} {oe : Obj} {vs : Array Value} (I : Inv X pins σ H s) (he : s.heap.get? ea = some oe) (hc : oe.cls = .ref C) (hd : oe.dict = dx) (hv : oe.data = .fields vs) (hz : 1 < vs.size) (h2 : vs[2]? = some .none) (h1 : vs[1]? = some .none)
    (hn : H ea = none) (h0 : X.s₀.heap.get? ea = none) (hp0 : ∀ p ∈ X.pn, p.1 ≠ ea) : InAir X H s ea C dx := by
  have nin : ∀ b u, H b = some u → b ∉ ea :: frs X.stack := fun b u q z => by
    rcases List.mem_cons.mp z with y | y
    · rw [y, hn] at q; cases q
    · rw [I.stkFree b y] at q; cases q
  refine ⟨PySem.W.hideAll s.heap (ea :: frs X.stack), none, ⟨fun b o q => PySem.W.of_hideAll _ q, PySem.W.hideAll_none _ (List.mem_cons_self ..), ?_⟩, fun a o q => ?_, ⟨fun b o q n hb hx => ?_, fun b o q hb hx => ?_⟩, ⟨oe, vs, he, hc, hd, hv, hz, h2, h1⟩, fun p hp => PySem.W.hideAll_get _ (I.pin p (List.mem_append_left _ hp)).1 fun z => ?_⟩
  · exact PySem.W.funFrames_hide I.stack fun env hm b q => List.mem_cons_of_mem _ (List.mem_filterMap.mpr ⟨env, hm, q⟩)
  · refine (I.hok a o q).stay (fun b u hb z => PySem.W.hideAll_get _ z ?_) (fun _ z => z) fun _ _ z => z
    rcases hb with rfl | hb
    · exact nin _ _ q
    · exact nin _ _ hb
  · refine PySem.W.hideAll_get _ (I.base.keep b o q n hb hx) fun z => ?_
    rcases List.mem_cons.mp z with y | y
    · rw [y, h0] at q; cases q
    · exact I.nost q hb y
  · obtain ⟨o', z⟩ := I.base.there b o q hx
    refine ⟨o', PySem.W.hideAll_get _ z fun y => ?_⟩
    rcases List.mem_cons.mp y with y | y
    · rw [y, h0] at q; cases q
    · exact I.nost q hb y
  · rcases List.mem_cons.mp z with y | y
    · exact hp0 p hp y
    · exact I.pinOut hp y
end
theorem acc_def {P : Program} {w : World} {K : PySem.W.Frag} {mg : Str → Option Value} {base : Heap} {N : List Str} {qual : Str} {scope : Scope} {f : Addr} {cd : Value} {A : Around} {outer : List Env} {s s1 : Shared} {H H1 : Hp} {E : XK} {pins : List (Addr × Obj)} {σ : St} {ea C : Addr} {dx : Option Addr}
    (I : Inv (cxOf (CXD P w) P w K mg base N qual scope f cd A outer s H E) pins σ H1 s1) (a : InAir (cxOf (CXD P w) P w K mg base N qual scope f cd A outer s H E) H1 s1 ea C dx) (h : E (.ref C) dx H1) :
    (cxOf (CXD P w) P w K mg base N qual scope f cd A outer s H E).xe (.ref ea) s1 := by
  obtain ⟨B, fl, a, ok, bn, x, _⟩ := a
  have fr := a.fr
  refine leave_x (env := envOfC qual scope s.heap.objs.size f cd) (outer := outer) (L := s.heap.objs.size) I.ok.frames rfl a x fun h' a' u' x' => ?_
  have noA : ∀ b : Addr, b ∉ ([] : List Addr) := fun b z => absurd z (by simp)
  have up : ∀ b o, b ∈ frs outer → s1.heap.get? b = some o → ∃ sl, h'.get? b = some { o with slots := sl } := fun b o hb q => by
    have hm : b ∈ ((envOfC qual scope s.heap.objs.size f cd) :: outer).filterMap (·.frame) := by
      obtain ⟨env, hm, hf⟩ := List.mem_filterMap.mp hb
      exact List.mem_filterMap.mpr ⟨env, List.mem_cons_of_mem _ hm, hf⟩
    obtain ⟨_, o', ho', nf⟩ := fr.mem hm
    rw [q] at ho'
    cases ho'
    exact u' b o q nf
  refine ⟨ea, C, dx, H1, B, rfl, I.os, I.bare, ⟨fun b o q n hb hx => a'.st b o (bn.kp b o q n hb hx), fun b o q n hb hx => ?_, I.base.free, fun b o q hx => ?_, I.base.tups, I.base.frzs, I.base.tbls⟩, a', ok, bn, x', h⟩
  · obtain ⟨sl, z⟩ := I.base.slot b o q n hb hx
    obtain ⟨sl', z'⟩ := up b _ hb z
    exact ⟨sl', z'⟩
  · by_cases hb : b ∈ frs outer
    · obtain ⟨o', z⟩ := I.base.there b o q hx
      obtain ⟨sl', z'⟩ := up b _ hb z
      exact ⟨_, z'⟩
    · obtain ⟨o', z⟩ := bn.th b o q hb hx
      exact ⟨o', a'.st b o' z⟩
theorem CXD.thaw {P : Program} {w : World} {l : List Env} {H : Hp} {s s' : Shared} {E : XK} {e : Value} (ok : HOk P w H s.heap) (h : CXD P w l (frzH s.heap H) s E e s') :
    CXD P w l H s (fun cls dx H'' => ∃ H', H'' = L2.thaw H H' ∧ (∀ b u, HO.data u → Rd H' b u → Rd (L2.thaw H H') b u) ∧ E cls dx H') e s' := by
  obtain ⟨ea, C, dx, H', B, rfl, os, bare, un, a, ok', bn, x, hE⟩ := h
  have t : Thw s.heap H H' := ⟨un.tups, un.frzs⟩
  exact ⟨ea, C, dx, L2.thaw H H', B, rfl, os, bare, un.thaw ok, a, ok.thaw t ok', ⟨fun b o q n hb hx => bn.kp b o q (frz_none n) hb hx, bn.th⟩, x, H', rfl, fun b u hu r => r.thaw ok t ok' hu, hE⟩
theorem Env0.frz {P : Program} {w : World} {K : PySem.W.Frag} {mg : Str → Option Value} {base : Heap} {A : Around} {outer : List Env} {s : Shared} {H : Hp} (e : Env0 P w K mg base A outer s H) : Env0 P w K mg base A outer s (frzH s.heap H) :=
  ⟨e.frames, e.mod, fun b o q => ⟨(e.bs b o q).1, frz_none (e.bs b o q).2⟩, e.bsz, e.funs, fun b hb => frz_none (e.frf b hb), e.hok.frz, e.bare⟩
section
variable {X : Cx} {k : Nat} {f C : Addr} {fd : FuncData} {ps : List Str} {sp : Sp} {dvs : List V} {ds : List Value}
theorem run_fnX {pins : List (Addr × Obj)} {σ : St} {H : Hp} {s : Shared} {Q Q' : VK} {E : XK} {us : List Value} {vs : List V} (F : FnOk X.prog X.w X.K X.mg X.base (CXD X.prog X.w) k f fd ps sp) (hr : Room k X.A) (hb : Binds X.K fd ps ds) (hd : Vals dvs ds)
    (I : Inv X pins σ H s) (r : Vals vs us) (h : sp (vs ++ dvs) (frzH s.heap H) Q' E) (hQ : ∀ v H', (∀ b u, HO.data u → Rd H' b u → Rd (thaw H H') b u) → Q' v H' → Q v (thaw H H'))
    (hE : ∀ ea C dx H' s', Inv X pins σ (thaw H H') s' → InAir X (thaw H H') s' ea C dx → (∀ b u, HO.data u → Rd H' b u → Rd (thaw H H') b u) → E (.ref C) dx H' → X.xe (.ref ea) s') : wpAny (model X.prog X.w) X.A (call (.ref f) us) (EP X pins σ Q) X.xe s := by
  have r2 : Vals (vs ++ dvs) (us ++ ds) := r.append hd
  have hl : (us ++ ds).length = ps.length := by rw [← r2.length]; exact F.len _ _ _ _ h
  refine wpAny_call (codeAny_mono (F.run X.A X.stack s _ ⟨us, []⟩ (us ++ ds) (vs ++ dvs) Q' E hr I.env0.frz (hb s us I.kIn hl) r2 h) fun r s' hq => ?_)
  cases r with
  | error e =>
    obtain ⟨ea, C, dx, H'', rfl, I', a', H', rfl, rd, he⟩ := flown_in I (CXD.thaw I.hok hq)
    exact hE ea C dx H' s' I' a' rd he
  | ok fl =>
    cases fl with
    | ret u =>
      obtain ⟨v, H', os, bare, un, hok, rv, q⟩ := (show CE X.stack X.prog X.w (frzH s.heap H) s Q' u s' from hq)
      have t : Thw s.heap H H' := ⟨un.tups, un.frzs⟩
      exact ⟨v, thaw H H', I.call' (ch := []) os (un.thaw I.hok) (I.hok.thaw t hok) bare (fun b z => absurd z (by simp)), rv, hQ v H' (fun b u hu r => r.thaw I.hok t hok hu) q⟩
    | next => exact False.elim hq
    | brk => exact False.elim hq
    | cont => exact False.elim hq
end
end L2

set_option maxHeartbeats 1000000
namespace L2
open PySem PySem.Spec PyProof.Rows
theorem exc_open {K : PySem.W.Frag} {h : Heap} {C : Addr} {bmB : List Value} {newId : String} (X : K.In h) (q : PySem.W.excIn K C bmB newId = true) :
    ∃ bm N nm qn bs hdct sn sub ab col dd k0 k1 k2 k3 k5 mN, h.get? C = some (excClassObj nm qn C N bs bm hdct sn sub ab col dd k0 k1 k2 k3 k5 newId) ∧ h.Ns N mN ∧ mN "__init__" = none ∧ OwnTail h bmB bm := by
  unfold PySem.W.excIn at q
  split at q
  · rename_i dd cd sl ho
    split at q
    · rename_i C2 bm k0 k1 k2 k3 n k5 hm hs
      simp only [Bool.and_eq_true, beq_iff_eq, Bool.not_eq_true'] at q
      obtain ⟨⟨⟨⟨⟨e1, e2⟩, hdel⟩, ht⟩, hok⟩, hni⟩ := q
      subst e1 e2
      obtain ⟨nm, bs, mro, ns, qn, hd, sn, sub, ab, col, del⟩ := cd
      have hm' : mro = .ref C2 :: bm := hm
      have hdel' : del = false := hdel
      subst hm' hdel'
      obtain ⟨l⟩ := sl
      have hl : l = [k0, k1, k2, k3, some (.builtin n), k5] := hs
      subst hl
      exact ⟨bm, ns, nm, qn, bs, hd, sn, sub, ab, col, dd, k0, k1, k2, k3, k5, _, X _ _ ho, .of_isNs (PySem.W.isNs_of_in X hok), PySem.W.nsMap_none_of_in X hok hni, PySem.W.tail_of_in X ht⟩
    · cases q
  · cases q
theorem SqL.rd {K : PySem.W.Frag} {H H' : Hp} {a : Addr} {xs : List V} (f : ∀ b u, HO.data u → Rd H b u → Rd H' b u) (h : SqL K H a xs) : SqL K H' a xs := by
  rcases h with h | h
  · exact .inl (f _ _ True.intro h)
  · exact .inr h
theorem SqT.rd {K : PySem.W.Frag} {H H' : Hp} {a : Addr} {xs : List V} (f : ∀ b u, HO.data u → Rd H b u → Rd H' b u) (h : SqT K H a xs) : SqT K H' a xs := by
  rcases h with h | h
  · exact .inl (f _ _ True.intro h)
  · exact .inr h
end L2
namespace DC
open PySem PySem.Spec PyProof.Rows L2
section
variable {K : PySem.W.Frag} {H H' : Hp}
theorem XDict.rd (f : ∀ b u, HO.data u → Rd H b u → Rd H' b u) {dx : Option Addr} {fs : List (Str × V)} (h : XDict H dx fs) : XDict H' dx fs := by
  cases dx with
  | none => exact h
  | some d => exact f _ _ True.intro h
mutual
theorem Dv.rd (f : ∀ b u, HO.data u → Rd H b u → Rd H' b u) : ∀ {v : V} {d : D}, Dv K H v d → Dv K H' v d
  | _, _, .non => .non
  | _, _, .bl b => .bl b
  | _, _, .int i => .int i
  | _, _, .str x => .str x
  | _, _, .lst h1 h2 => .lst (h1.rd f) (Dvs.rd f h2)
  | _, _, .tup h1 h2 => .tup (h1.rd f) (Dvs.rd f h2)
  | _, _, .obj h1 h2 => .obj (f _ _ True.intro h1) (Dvf.rd f h2)
  | _, _, .dK h1 h2 => .dK (f _ _ True.intro h1) (Dvk.rd f h2)
  | _, _, .dT h1 h2 => .dT (f _ _ True.intro h1) (Dvt.rd f h2)
  | _, _, .adr a => .adr a
  | _, _, .exc h1 h2 h3 => .exc (f _ _ True.intro h1) (XDict.rd f h2) (Dvf.rd f h3)
theorem Dvs.rd (f : ∀ b u, HO.data u → Rd H b u → Rd H' b u) : ∀ {vs : List V} {ds : List D}, Dvs K H vs ds → Dvs K H' vs ds
  | _, _, .nil => .nil
  | _, _, .cons h1 h2 => .cons (Dv.rd f h1) (Dvs.rd f h2)
theorem Dvf.rd (f : ∀ b u, HO.data u → Rd H b u → Rd H' b u) : ∀ {vs : List (Str × V)} {ds : List (Str × D)}, Dvf K H vs ds → Dvf K H' vs ds
  | _, _, .nil => .nil
  | _, _, .cons h1 h2 => .cons (Dv.rd f h1) (Dvf.rd f h2)
theorem Dvk.rd (f : ∀ b u, HO.data u → Rd H b u → Rd H' b u) : ∀ {vs : List (Key × V)} {ds : List (Key × D)}, Dvk K H vs ds → Dvk K H' vs ds
  | _, _, .nil => .nil
  | _, _, .cons h1 h2 => .cons (Dv.rd f h1) (Dvk.rd f h2)
theorem Dvt.rd (f : ∀ b u, HO.data u → Rd H b u → Rd H' b u) : ∀ {vs : List (List Key × V)} {ds : List (List Key × D)}, Dvt K H vs ds → Dvt K H' vs ds
  | _, _, .nil => .nil
  | _, _, .cons h1 h2 => .cons (Dv.rd f h1) (Dvt.rd f h2)
end
end
abbrev XR := Addr → List (Str × D) → Prop
abbrev SpX := List D → (D → Prop) → XR → Prop
abbrev MonoX (sx : SpX) : Prop := ∀ ds (P P' : D → Prop) (R R' : XR), (∀ d, P d → P' d) → (∀ C g, R C g → R' C g) → sx ds P R → sx ds P' R'
def kX (K : PySem.W.Frag) (E : XK) : XR := fun C gs => ∀ dx fs H', XDict H' dx fs → Dvf K H' fs gs → E (.ref C) dx H'
def spX (K : PySem.W.Frag) (sx : SpX) : Sp := fun vs H Q E => ∃ ds, Dvs K H vs ds ∧ sx ds (fun d => ∀ v H', Dv K H' v d → Q v H') (kX K E)
def XAcc (X : Cx) (xk : SD → XR) : Prop := ∀ pins σ δ H s ea C dx fs gs, Inv X pins σ H s → RelS X.K H σ δ → InAir X H s ea C dx → XDict H dx fs → Dvf X.K H fs gs → xk δ C gs → X.xe (.ref ea) s
def wishX (K : PySem.W.Frag) (R : XR) : XK := fun cls dx H' => ∃ C gs fs, cls = .ref C ∧ XDict H' dx fs ∧ Dvf K H' fs gs ∧ R C gs
theorem kX_wish {K : PySem.W.Frag} {R : XR} {C : Addr} {gs : List (Str × D)} (h : R C gs) : kX K (wishX K R) C gs := fun dx fs H' xd df => ⟨C, gs, fs, rfl, xd, df, h⟩
def backX (K : PySem.W.Frag) (P : D → Prop) : VK := fun v H' => ∃ d, Dv K H' v d ∧ P d
section
variable {X : Cx} {e : Expr} {es : List Expr} {t : AD} {pos p : Pos} {x : Str} {k : Nat} {f : Addr} {fd : FuncData} {ps : List Str} {sx : SpX} {xk : SD → XR} {dvs : List V} {dls : List Value} {dd : List D}
theorem run_X {pins : List (Addr × Obj)} {σ : L2.St} {δ : SD} {H H1 : Hp} {s : Shared} {Q : VK} {us : List Value} {vs : List V} {ds : List D} (hx : XAcc X xk) (F : FnOk X.prog X.w X.K X.mg X.base (CXD X.prog X.w) k f fd ps (spX X.K sx)) (ms : MonoX sx) (hr : Room k X.A) (hb : Binds X.K fd ps dls) (hd : Vals dvs dls) (hdd : ∀ H, Dvs X.K H dvs dd)
    (I : Inv X pins σ H1 s) (rs : RelS X.K H σ δ) (s1 : Same H H1) (r : Vals vs us) (dv : Dvs X.K H1 vs ds) (h : sx (ds ++ dd) (kD X.K H Q) (xk δ)) : wpAny (model X.prog X.w) X.A (call (.ref f) us) (EP X pins σ Q) X.xe s := by
  refine run_fnX (Q' := backX X.K (kD X.K H Q)) (E := wishX X.K (xk δ)) F hr hb hd I r ⟨ds ++ dd, ((dv.append (hdd H1)).rd fun b u hu z => z.frz I.hok hu), ms _ _ _ _ _ (fun d q v H' dv => ⟨d, dv, q⟩) (fun C g q => kX_wish q) h⟩ ?_ ?_
  · rintro v H' rd ⟨d, dv, q⟩
    exact q v _ (s1.trans (thaw_same _ _)) (dv.rd rd)
  · rintro ea C dx H' s' I' a rd ⟨C', gs, fs, e, xd, df, q⟩
    cases e
    exact hx pins σ δ _ s' ea C dx fs gs I' (rs.same (s1.trans (thaw_same _ _))) a (XDict.rd rd xd) (Dvf.rd rd df) q
def vCallX (xk : SD → XR) (sx : SpX) (dd : List D) (t : AD) : ED := fun δ Q => t δ fun ds => sx (ds ++ dd) Q (xk δ)
theorem d_callX (hx : XAcc X xk) (F : FnOk X.prog X.w X.K X.mg X.base (CXD X.prog X.w) k f fd ps (spX X.K sx)) (ms : MonoX sx) (hr : Room k X.A) (hg : Gl X x) (hm : X.mg x = some (.ref f)) (hk : PySem.W.keepIn X.K (.ref f) = true) (hb : Binds X.K fd ps dls) (hv : Vals dvs dls) (hdd : ∀ H, Dvs X.K H dvs dd)
    (ha : PAd X (e :: es) t) (hdb : (x == ("__debug__" : Str)) = false := by decide) (he : starEach (e :: es) X.env = (false, eval e X.env) :: starEach es X.env := by rfl) (hpl : (backTo pos (starEach es X.env)).any (·.1) = false := by rfl) :
    PD X (.Call (.Name x p) (e :: es) [] pos) (vCallX xk sx dd t) := by
  refine ⟨fun pins s σ H Q I ⟨δ, r, h⟩ => ?_, fun δ P P' g h => ha.mono _ _ _ (fun ds q => ms _ _ _ _ _ g (fun _ _ z => z) q) h⟩
  refine wpAny_Call_Name_kw (ld_glob I hg hm ?_ hdb)
  refine PySem.W.callWith_K (h₀ := X.base) I.ok.mod.kin hk (thn (ha.pa pos pins s σ H (fun vs H1 => Same H H1 ∧ ∃ ds, Dvs X.K H1 vs ds ∧ sx (ds ++ dd) (kD X.K H Q) (xk δ)) I ⟨δ, r, ha.mono _ _ _ (fun ds q vs H1 s1 dv => ⟨s1, ds, dv, q⟩) h⟩) fun us s1 ⟨vs, H1, I1, r1, sm, ds, dv, q⟩ => ⟨I1.kIn, ?_⟩) he hpl
  exact run_X hx F ms hr hb hv hdd I1 r sm r1 dv q
def qRaise (xk : SD → XR) (C : Addr) (t : AD) : TSD := fun _ δ => t δ fun ds => ds.length ≤ sizeLine ∧ xk δ C []
theorem s_raise {C : Addr} {np cpos : Pos} (hx : XAcc X xk) (hc : X.calm = true) (hex : X.ex = []) (hg : Gl X x) (hm : X.mg x = some (.ref C)) (hq : PySem.W.excIn X.K C [.type "ValueError", .type "Exception", .type "BaseException", .type "object"] "ValueError.__new__" = true)
    (ha : PAd X (e :: es) t) (hdb : (x == ("__debug__" : Str)) = false := by decide) (he : starEach (e :: es) X.env = (false, eval e X.env) :: starEach es X.env := by rfl) (hpl : (backTo cpos (starEach es X.env)).any (·.1) = false := by rfl) :
    PSd X (.Raise (some (.Call (.Name x np) (e :: es) [] cpos)) none pos) (qRaise xk C t) := by
  refine ⟨fun pins s σ H D I ⟨δ, r, h⟩ => ?_, fun E E' δ l h => h⟩
  have FB := PySem.F.excBase_ValueError
  obtain ⟨bm, N, nm, qn, bs, hdct, sn, sub, ab, col, dd, k0, k1, k2, k3, k5, mN, hC, hN, hni, T⟩ := exc_open I.ok.mod.kin hq
  refine wpAny_Raise_call_subT (C := C) (nm := nm) (q := qn) (N := N) (bs := bs) (bm := bm) (hdct := hdct) (sn := sn) (sub := sub) (ab := ab) (col := col) (dd := dd) (k0 := k0) (k1 := k1) (k2 := k2) (k3 := k3) (k5 := k5) FB (mN := mN) (T.hasType FB.hasBase) (I.ok.hd hc) (by rw [he]; show (false || (backTo cpos (starEach es X.env)).any (·.1)) = false; rw [hpl]; rfl) hni (ld_glob I hg hm ⟨rfl, ?_⟩ hdb)
  have z := ha.pa cpos pins s σ H (fun vs H1 => Same H H1 ∧ vs.length ≤ sizeLine ∧ xk δ C []) I ⟨δ, r, ha.mono _ _ _ (fun ds q vs H1 s1 dv => ⟨s1, by rw [dv.length]; exact q.1, q.2⟩) h⟩
  rw [he] at z ⊢
  refine Calls.evalArgs_plain (wpAny_mono z (fun us s2 ⟨vs, H1, I1, rv, sm, hl, q⟩ => ⟨rfl, by rw [← rv.length]; exact hl, I1.bk _ _ hC, hN.keeps I1.bk, T.keeps I1.bk, fun h' ea me => ?_⟩) fun _ _ y => y)
  obtain ⟨tt, ho, _, _⟩ := me.there
  obtain ⟨hh, gg, d2, tk, os⟩ := s2
  have I2 := I1.kept (t' := tk) (h' := h') me.keeps
  have none_of : H1 ea = none := by
    cases q2 : H1 ea with
    | none => rfl
    | some u =>
      obtain ⟨o, z⟩ := (I1.hok ea u q2).there
      have := me.new
      rw [z] at this
      cases this
  have h0 : X.s₀.heap.get? ea = none := by
    cases q2 : X.s₀.heap.get? ea with
    | none => rfl
    | some o =>
      obtain ⟨o', z⟩ := I1.base.there ea o q2 (by rw [hex]; simp)
      have := me.new
      rw [z] at this
      cases this
  exact hx pins σ δ H1 _ ea C none [] [] I2 (r.same sm) (raised_in I2 ho rfl rfl rfl (show 1 < 6 by decide) rfl rfl none_of h0 fun p hp z => by
    have y := (I1.pin p (List.mem_append_left _ hp)).1
    rw [z, me.new] at y
    cases y) rfl .nil q
end
section
variable {P : Program} {w : World} {K : PySem.W.Frag} {mg : Str → Option Value} {base : Heap}
abbrev BxX (P : Program) (w : World) (K : PySem.W.Frag) (mg : Str → Option Value) (base : Heap) (N : List Str) (qual : Str) (st : Stmt) (f : Addr) (cdv : Value) (A : Around) (outer : List Env) (s : Shared) (H : Hp) (E : XK) : Cx := cxOf (CXD P w) P w K mg base N qual (defScope st) f cdv A outer s H E
theorem acc_X {N : List Str} {qual : Str} {st : Stmt} {f : Addr} {cdv : Value} {A : Around} {outer : List Env} {s : Shared} {H : Hp} {E : XK} : XAcc (BxX P w K mg base N qual st f cdv A outer s H E) (fun _ => kX K E) :=
  fun pins σ δ H1 s1 ea C dx fs gs I r a xd df hk => acc_def I a (hk dx fs H1 xd df)
theorem okX {x qual : Str} {st : Stmt} {f : Addr} {fd : FuncData} {N ps : List Str} {k : Nat} {sx : SpX} {t : XR → TSD} (F : FunV K x qual st f fd) (S : FnScope N ps (defScope st)) (len : ∀ ds Q R, sx ds Q R → ds.length = ps.length)
    (hb : ∀ (cdv : Value) (A : Around) (outer : List Env) (s : Shared) (H : Hp) (E : XK) (R : XR), Room k (A.deeper (envOfC qual (defScope st) s.heap.objs.size f cdv)) → XAcc (BxX P w K mg base N qual st f cdv A outer s H E) (fun _ => R) → PSsd (BxX P w K mg base N qual st f cdv A outer s H E) (defBody st) (t R))
    (hr : ∀ ds Q R, sx ds Q R → t R { nx := fun _ => Q .non, rt := Q } (startD N ds)) : FnOk P w K mg base (CXD P w) (k + 1) f fd ps (spX K sx) := by
  obtain ⟨oc, od, dV, kV, doc, pm, an, cdv, ct, osl, rfl, lk, hcd⟩ := F.ex
  refine fn_of lk hcd S (fun vs H Q E ⟨ds, dvs, h⟩ => by rw [dvs.length]; exact len ds _ _ h) fun A outer s H vs Q E hroom ⟨ds, dvs, h⟩ => ?_
  have B := hb cdv A outer s H E (kX K E) hroom acc_X
  refine ⟨_, B.ps, startD N ds, start_rel dvs, ?_⟩
  let Q' : D → Prop := fun d => ∀ v H', Dv K H' v d → Q v H'
  exact B.mono { nx := fun _ => Q' .non, rt := Q' } _ _ ⟨fun δ q σ H' s' r => q _ H' .non, fun d q v H' s' dv => q v H' dv, fun _ q => q.elim, fun _ q => q.elim⟩ (hr ds _ _ h)
structure CalX (P : Program) (w : World) (K : PySem.W.Frag) (mg : Str → Option Value) (base : Heap) (k : Nat) (x : Str) (ps : List Str) (sx : SpX) : Prop where
  ex : ∃ f fd, FnOk P w K mg base (CXD P w) k f fd ps (spX K sx) ∧ mg x = some (.ref f) ∧ PySem.W.keepIn K (.ref f) = true ∧ Binds K fd ps []
  ms : MonoX sx
end
end DC

set_option maxHeartbeats 1000000
namespace L2
open PySem PySem.Spec PyProof.Rows
section
variable {P : Program} {w : World} {H : Hp} {h : Heap} {C : Addr} {fs ex : List Addr}
abbrev madeH (H : Hp) (h : Heap) (C : Addr) : Hp := upd (upd H h.objs.size (.own (h.objs.size + 1))) (h.objs.size + 1) (.ins C h.objs.size [])
abbrev madeIn (h : Heap) (C : Addr) : Heap := (h.push PySem.W.emptyDict).push (PySem.W.instObj C h.objs.size)
theorem HOk.made1 (ok : HOk P w H h) : HOk P w (upd H h.objs.size (.own (h.objs.size + 1))) (h.push PySem.W.emptyDict) :=
  ok.laid (fun b u q => Heap.get?_push_of_some _ q) (Nat.le_refl _) ⟨_, Heap.get?_push_size h rfl⟩
theorem HOk.made (ok : HOk P w H h) : HOk P w (madeH H h C) (madeIn h C) := by
  have g1 : (h.push PySem.W.emptyDict).get? h.objs.size = some PySem.W.emptyDict := Heap.get?_push_size h rfl
  have g2 : (madeIn h C).get? (h.objs.size + 1) = some (PySem.W.instObj C h.objs.size) := by
    have z := Heap.get?_push_size (h.push PySem.W.emptyDict) (o := PySem.W.instObj C h.objs.size) rfl
    rwa [Heap.size_push] at z
  have g3 : (h.push PySem.W.emptyDict).Ns h.objs.size (fun _ => none) := ⟨PySem.W.emptyDict, #[], _, g1, rfl, (fun e he => absurd he (by simp)), fun _ => rfl⟩
  have n : h.objs.size ≠ h.objs.size + 1 := Nat.ne_of_lt (Nat.lt_succ_self _)
  refine ok.made1.laid (fun b u q => Heap.get?_push_of_some _ q) (Nat.le_of_eq (Heap.size_push _ _)) ?_
  exact ⟨by rw [upd_ne n, upd_same], Nat.zero_le _, n, g2, fun _ => none, (Heap.Ns1.of_empty g3).at fun o q => Heap.get?_push_of_some _ q, fun _ => True.intro, fun y hy => absurd rfl hy⟩
theorem Un.made (ok : HOk P w H h) : Un fs ex H (madeH H h C) h (madeIn h C) :=
  (Un.laid (fun b u q => Heap.get?_push_of_some _ q) (Nat.le_refl _) (ok.fresh (Nat.le_refl _))).trans (Un.laid (fun b u q => Heap.get?_push_of_some _ q) (Nat.le_of_eq (Heap.size_push _ _)) (ok.made1.fresh (Nat.le_of_eq (Heap.size_push _ _))))
theorem made_in {b : Addr} (h1 : b ≠ h.objs.size + 1) (h2 : b ≠ h.objs.size) : madeH H h C b = H b := by
  show upd _ _ _ b = _
  rw [upd_ne h1, upd_ne h2]
theorem made_out {b : Addr} (e : madeH H h C b = none) : b ≠ h.objs.size + 1 ∧ b ≠ h.objs.size := by
  refine ⟨fun z => ?_, fun z => ?_⟩
  · subst z
    have e' : upd (upd H h.objs.size (.own (h.objs.size + 1))) (h.objs.size + 1) (.ins C h.objs.size []) (h.objs.size + 1) = none := e
    rw [upd_same] at e'
    cases e'
  · subst z
    have e' : upd (upd H h.objs.size (.own (h.objs.size + 1))) (h.objs.size + 1) (.ins C h.objs.size []) h.objs.size = none := e
    rw [upd_ne (Nat.ne_of_lt (Nat.lt_succ_self _)), upd_same] at e'
    cases e'
theorem made_of {b : Addr} {o : Obj} (q : h.get? b = some o) : madeH H h C b = H b := by
  have z := Heap.lt_size q
  exact made_in (Nat.ne_of_lt (Nat.lt_succ_of_lt z)) (Nat.ne_of_lt z)
theorem made_at {b : Addr} {o : Obj} (q : h.get? b = some o) : (madeIn h C).get? b = some o := Heap.get?_push_of_some _ (Heap.get?_push_of_some _ q)
end
section
variable {X : Cx} {k : Nat} {f C : Addr} {fd : FuncData} {ps : List Str} {sp : Sp} {dvs : List V} {ds : List Value}
theorem run_makeX {pins : List (Addr × Obj)} {σ : St} {H : Hp} {s : Shared} {Q Q' : VK} {E : XK} {us : List Value} {vs : List V} (M : Mk X.K C f) (F : FnOk X.prog X.w X.K X.mg X.base (CXD X.prog X.w) k f fd ps sp) (hr : Room (k + 1) X.A) (hb : Binds X.K fd ps ds) (hd : Vals dvs ds)
    (I : Inv X pins σ H s) (r : Vals vs us) (h : ∀ x dx, H x = none → H dx = none → dx ≠ x → sp (.ref x :: (vs ++ dvs)) (upd (upd (frzH s.heap H) dx (.own x)) x (.ins C dx [])) (fun v H2 => v = .non ∧ Q' (.ref x) H2) E)
    (hQ : ∀ v H', (∀ b u, HO.data u → Rd H' b u → Rd (thaw H H') b u) → Q' v H' → Q v (thaw H H'))
    (hE : ∀ ea C dx H' s', Inv X pins σ (thaw H H') s' → InAir X (thaw H H') s' ea C dx → (∀ b u, HO.data u → Rd H' b u → Rd (thaw H H') b u) → E (.ref C) dx H' → X.xe (.ref ea) s') : wpAny (model X.prog X.w) X.A (call (.ref C) us) (EP X pins σ Q) X.xe s := by
  have hq := h (s.heap.objs.size + 1) s.heap.objs.size (I.hok.fresh (Nat.le_succ _)) (I.hok.fresh (Nat.le_refl _)) (Nat.ne_of_lt (Nat.lt_succ_self _))
  have I2 := Inv.made (C := C) I
  have ok2 : HOk X.prog X.w (madeH (frzH s.heap H) s.heap C) (madeIn s.heap C) := I.hok.frz.made
  have un1 : Un (frs X.stack) [] (frzH s.heap H) (madeH (frzH s.heap H) s.heap C) s.heap (madeIn s.heap C) := Un.made I.hok.frz
  have nn : ∀ b, madeH H s.heap C b = none → madeH (frzH s.heap H) s.heap C b = none := fun b e => by
    obtain ⟨h1, h2⟩ := made_out e
    rw [made_in h1 h2] at e ⊢
    exact frz_none e
  have e0 := I2.env0
  have e2 : Env0 X.prog X.w X.K X.mg X.base X.A X.stack { s with heap := madeIn s.heap C } (madeH (frzH s.heap H) s.heap C) :=
    ⟨e0.frames, e0.mod, fun b o q => ⟨(e0.bs b o q).1, nn b (e0.bs b o q).2⟩, e0.bsz, e0.funs, fun b hb => nn b (e0.frf b hb), ok2, e0.bare⟩
  have r2 : Vals (V.ref (s.heap.objs.size + 1) :: (vs ++ dvs)) (Value.ref (s.heap.objs.size + 1) :: (us ++ ds)) := .cons rfl (r.append hd)
  have hl : (Value.ref (s.heap.objs.size + 1) :: us ++ ds).length = ps.length := by
    have e := r2.length
    rw [F.len _ _ _ _ hq] at e
    exact e.symm
  refine wpAny_call (make_map (f := f) I.kIn M.makes M.init (beq_iff_eq.mp M.fn) (codeAny_mono (F.run _ X.stack _ _ ⟨Value.ref (s.heap.objs.size + 1) :: us, []⟩ (Value.ref (s.heap.objs.size + 1) :: (us ++ ds)) _ _ E (hr.make C us [])
    (e2.make C us []) (hb _ (Value.ref (s.heap.objs.size + 1) :: us) I2.kIn hl) r2 hq) fun r s' hq' => ?_))
  cases r with
  | error e =>
    have hc : CXD X.prog X.w X.stack (frzH s.heap H) s E e s' := by
      obtain ⟨ea, C', dx, H', B, rfl, os, bare, un, a, ok', bn, x, hE'⟩ := (show CXD X.prog X.w X.stack (madeH (frzH s.heap H) s.heap C) { s with heap := madeIn s.heap C } E e s' from hq')
      exact ⟨ea, C', dx, H', B, rfl, os, bare, un1.trans un, a, ok', ⟨fun b o q n hb hx => bn.kp b o (made_at q) (by rw [made_of q]; exact n) hb hx, fun b o q hb hx => bn.th b o (made_at q) hb hx⟩, x, hE'⟩
    obtain ⟨ea, C', dx, H'', rfl, I', a', H', rfl, rd, he⟩ := flown_in I (CXD.thaw I.hok hc)
    exact hE ea C' dx H' s' I' a' rd he
  | ok fl =>
    cases fl with
    | ret u =>
      obtain ⟨v, H', os, bare, un, hok, rv, ev, q⟩ := (show CE X.stack X.prog X.w (madeH (frzH s.heap H) s.heap C) { s with heap := madeIn s.heap C } (fun v H2 => v = .non ∧ Q' (.ref (s.heap.objs.size + 1)) H2) u s' from hq')
      subst ev
      have un2 := un1.trans un
      have t : Thw s.heap H H' := ⟨un2.tups, un2.frzs⟩
      exact ⟨rv, ⟨V.ref (s.heap.objs.size + 1), thaw H H', I.call' (ch := []) os (un2.thaw I.hok) (I.hok.thaw t hok) bare (fun b z => absurd z (by simp)), rfl, hQ _ H' (fun b u hu r => r.thaw I.hok t hok hu) q⟩⟩
    | next => exact False.elim hq'
    | brk => exact False.elim hq'
    | cont => exact False.elim hq'
end
end L2
namespace DC
open PySem PySem.Spec PyProof.Rows L2
abbrev SpIX := List D → (FD → Prop) → XR → Prop
abbrev MonoIX (sx : SpIX) : Prop := ∀ ds (P P' : FD → Prop) (R R' : XR), (∀ g, P g → P' g) → (∀ C g, R C g → R' C g) → sx ds P R → sx ds P' R'
def spIX (K : PySem.W.Frag) (C : Addr) (sx : SpIX) : Sp := fun vs H Q E => ∃ a dx vs' ds, vs = .ref a :: vs' ∧ AtI K C a dx H [] ∧ Dvs K (hid H a dx) vs' ds ∧ sx ds (fun gs => ∀ H', Same (hid H a dx) (hid H' a dx) → AtI K C a dx H' gs → Q .non H') (kX K E)
section
variable {X : Cx} {o e : Expr} {es : List Expr} {ta : ED} {t : AD} {pos p apos : Pos} {x m : Str} {j k : Nat} {f C : Addr} {fd : FuncData} {ps : List Str} {sx : SpIX} {sm : Addr → SpX} {ok : Addr → Prop} {xk : SD → XR} {dvs : List V} {dls : List Value} {dd : List D}
theorem run_mkX {pins : List (Addr × Obj)} {σ : L2.St} {δ : SD} {H H1 : Hp} {s : Shared} {Q : VK} {us : List Value} {vs : List V} {ds : List D} (hx : XAcc X xk) (M : Mk X.K C f) (F : FnOk X.prog X.w X.K X.mg X.base (CXD X.prog X.w) k f fd ps (spIX X.K C sx)) (ms : MonoIX sx) (hr : Room (k + 1) X.A) (hb : Binds X.K fd ps dls) (hd : Vals dvs dls) (hdd : ∀ H, Dvs X.K H dvs dd)
    (I : Inv X pins σ H1 s) (rs : RelS X.K H σ δ) (s1 : Same H H1) (r : Vals vs us) (dv : Dvs X.K H1 vs ds) (h : sx (ds ++ dd) (fun gs => kD X.K H Q (.obj C gs)) (xk δ)) : wpAny (model X.prog X.w) X.A (call (.ref C) us) (EP X pins σ Q) X.xe s := by
  refine run_makeX (Q' := backX X.K (kD X.K H Q)) (E := wishX X.K (xk δ)) M F hr hb hd I r (fun y dx hy hdx ne => ?_) ?_ ?_
  · have hs : hid (shown (frzH s.heap H1) y dx C []) y dx = frzH s.heap H1 := hid_shown (frz_none hy) (frz_none hdx)
    refine ⟨y, dx, vs ++ dvs, ds ++ dd, rfl, ⟨⟨[], shown_a, .nil⟩, ne⟩, ?_, ms _ _ _ _ _ (fun gs z H' s' g' => ⟨rfl, .obj C gs, g'.dv, z⟩) (fun C g q => kX_wish q) h⟩
    show Dvs X.K (hid (shown (frzH s.heap H1) y dx C []) y dx) _ _
    rw [hs]
    exact ((dv.append (hdd H1)).rd fun b u hu z => z.frz I.hok hu)
  · rintro v H' rd ⟨d, dv, q⟩
    exact q v _ (s1.trans (thaw_same _ _)) (dv.rd rd)
  · rintro ea C dx H' s' I' a rd ⟨C', gs, fs, e, xd, df, q⟩
    cases e
    exact hx pins σ δ _ s' ea C dx fs gs I' (rs.same (s1.trans (thaw_same _ _))) a (XDict.rd rd xd) (Dvf.rd rd df) q
def vMakeX (xk : SD → XR) (C : Addr) (sx : SpIX) (dd : List D) (t : AD) : ED := fun δ Q => t δ fun ds => sx (ds ++ dd) (fun gs => Q (.obj C gs)) (xk δ)
theorem d_makeX (hx : XAcc X xk) (M : Mk X.K C f) (F : FnOk X.prog X.w X.K X.mg X.base (CXD X.prog X.w) k f fd ps (spIX X.K C sx)) (ms : MonoIX sx) (hr : Room (k + 1) X.A) (hg : Gl X x) (hm : X.mg x = some (.ref C)) (hb : Binds X.K fd ps dls) (hv : Vals dvs dls) (hdd : ∀ H, Dvs X.K H dvs dd)
    (ha : PAd X (e :: es) t) (hdb : (x == ("__debug__" : Str)) = false := by decide) (he : starEach (e :: es) X.env = (false, eval e X.env) :: starEach es X.env := by rfl) (hpl : (backTo pos (starEach es X.env)).any (·.1) = false := by rfl) :
    PD X (.Call (.Name x p) (e :: es) [] pos) (vMakeX xk C sx dd t) := by
  refine ⟨fun pins s σ H Q I ⟨δ, r, h⟩ => ?_, fun δ P P' g h => ha.mono _ _ _ (fun ds q => ms _ _ _ _ _ (fun gs z => g _ z) (fun _ _ z => z) q) h⟩
  refine wpAny_Call_Name_kw (ld_glob I hg hm ?_ hdb)
  refine PySem.W.callWith_K (h₀ := X.base) I.ok.mod.kin M.kp (thn (ha.pa pos pins s σ H (fun vs H1 => Same H H1 ∧ ∃ ds, Dvs X.K H1 vs ds ∧ sx (ds ++ dd) (fun gs => kD X.K H Q (.obj C gs)) (xk δ)) I ⟨δ, r, ha.mono _ _ _ (fun ds q vs H1 s1 dv => ⟨s1, ds, dv, q⟩) h⟩) fun us s1 ⟨vs, H1, I1, r1, sm, ds, dv, q⟩ => ⟨I1.kIn, ?_⟩) he hpl
  exact run_mkX hx M F ms hr hb hv hdd I1 r sm r1 dv q
structure MkrX (P : Program) (w : World) (K : PySem.W.Frag) (mg : Str → Option Value) (base : Heap) (j : Nat) (x : Str) (C : Addr) (sx : SpIX) (dd : List D) : Prop where
  ex : ∃ f fd ps dvs ds, Mk K C f ∧ FnOk P w K mg base (CXD P w) j f fd ps (spIX K C sx) ∧ mg x = some (.ref C) ∧ Binds K fd ps ds ∧ Vals dvs ds ∧ ∀ H, Dvs K H dvs dd
  ms : MonoIX sx
theorem d_mkX (hx : XAcc X xk) (c : MkrX X.prog X.w X.K X.mg X.base j x C sx dd) (hr : Room k X.A) (hj : j + 1 ≤ k) (hg : Gl X x) (ha : PAd X (e :: es) t) (hdb : (x == ("__debug__" : Str)) = false := by decide)
    (h1 : starEach (e :: es) X.env = (false, eval e X.env) :: starEach es X.env := by rfl) (h2 : (backTo pos (starEach es X.env)).any (·.1) = false := by rfl) : PD X (.Call (.Name x p) (e :: es) [] pos) (vMakeX xk C sx dd t) := by
  obtain ⟨f, fd, ps, dvs, ds, M, F, m, b, v, h⟩ := c.ex
  exact d_makeX hx M F c.ms (hr.mono hj) hg m b v h ha hdb h1 h2
theorem d_calX (hx : XAcc X xk) {sx : SpX} (c : CalX X.prog X.w X.K X.mg X.base j x ps sx) (hr : Room k X.A) (hj : j ≤ k) (hg : Gl X x) (ha : PAd X (e :: es) t) (hdb : (x == ("__debug__" : Str)) = false := by decide)
    (h1 : starEach (e :: es) X.env = (false, eval e X.env) :: starEach es X.env := by rfl) (h2 : (backTo pos (starEach es X.env)).any (·.1) = false := by rfl) : PD X (.Call (.Name x p) (e :: es) [] pos) (vCallX xk sx [] t) := by
  obtain ⟨f, fd, F, m, kp, b⟩ := c.ex
  exact d_callX (dvs := []) (dls := []) hx F c.ms (hr.mono hj) hg m kp b .nil (fun _ => .nil) ha hdb h1 h2
end
section
variable {P : Program} {w : World} {K : PySem.W.Frag} {mg : Str → Option Value} {base : Heap}
theorem fun_v {x qual : Str} {st : Stmt} {f : Addr} {fd : FuncData} (F : Fun K x qual st f fd) : FunV K x qual st f fd :=
  let ⟨oc, od, kV, doc, pm, an, cdv, ct, osl, h1, h2, h3⟩ := F.ex
  ⟨⟨oc, od, .none, kV, doc, pm, an, cdv, ct, osl, h1, h2, h3⟩, F.kp⟩
theorem Df.calX {k : Nat} {x : Str} {st : Stmt} {ps N : List Str} {sx : SpX} {t : XR → TSD} (d : Df K mg x st ps) (S : FnScope N ps (defScope st)) (ms : MonoX sx) (len : ∀ ds Q R, sx ds Q R → ds.length = ps.length)
    (hb : ∀ (f : Addr) (cdv : Value) (A : Around) (outer : List Env) (s : Shared) (H : Hp) (E : XK) (R : XR), Room k (A.deeper (envOfC x (defScope st) s.heap.objs.size f cdv)) → XAcc (BxX P w K mg base N x st f cdv A outer s H E) (fun _ => R) → PSsd (BxX P w K mg base N x st f cdv A outer s H E) (defBody st) (t R))
    (hr : ∀ ds Q R, sx ds Q R → t R { nx := fun _ => Q .non, rt := Q } (startD N ds)) : CalX P w K mg base (k + 1) x ps sx := by
  obtain ⟨f, fd, F, m, b⟩ := d.ex
  exact ⟨⟨f, fd, okX (fun_v F) S len (hb f) hr, m, F.kp, b⟩, ms⟩
theorem okIX {x qual : Str} {st : Stmt} {f C : Addr} {fd : FuncData} {N ps : List Str} {k : Nat} {sx : SpIX} {t : XR → Addr → TID} (F : FunV K x qual st f fd) (S : FnScope N ps (defScope st)) (len : ∀ ds Q R, sx ds Q R → ds.length + 1 = ps.length)
    (hb : ∀ (cdv : Value) (A : Around) (outer : List Env) (s : Shared) (H : Hp) (E : XK) (R : XR), Room k (A.deeper (envOfC qual (defScope st) s.heap.objs.size f cdv)) → XAcc (BxX P w K mg base N qual st f cdv A outer s H E) (fun _ => R) → PIs (BxX P w K mg base N qual st f cdv A outer s H E) C (defBody st) (t R))
    (hr : ∀ a ds Q R, sx ds Q R → t R a { nx := fun _ => Q, rt := Q, fin := Q } (startD N (.adr a :: ds)) []) : FnOk P w K mg base (CXD P w) (k + 1) f fd ps (spIX K C sx) := by
  obtain ⟨oc, od, dV, kV, doc, pm, an, cdv, ct, osl, rfl, lk, hcd⟩ := F.ex
  refine fn_of lk hcd S (fun vs H Q E ⟨a, dx, vs', ds, e, g, dvs, h⟩ => by rw [e, List.length_cons, dvs.length]; exact len ds _ _ h) fun A outer s H vs Q E hroom ⟨a, dx, vs', ds, e, g, dvs, h⟩ => ?_
  have B := hb cdv A outer s H E (kX K E) hroom acc_X
  subst e
  refine ⟨_, B.ps, a, dx, startD N (.adr a :: ds), [], start_rel (.cons (.adr a) dvs), g, ?_⟩
  let Q' : FD → Prop := fun gs => ∀ H', Same (hid H a dx) (hid H' a dx) → AtI K C a dx H' gs → Q .non H'
  exact B.mono a { nx := fun _ => Q', rt := Q', fin := Q' } _ _ _ ⟨fun δ gs q σ H' s' r' g' => q H' s' g', fun gs q H' s' g' => q H' s' g', fun gs q σ H' s' g' => q H' s' g'⟩ (hr a ds _ _ h)
theorem Di.mkrX {k : Nat} {x : Str} {C : Addr} {qual : Str} {st : Stmt} {ps N : List Str} {dd : List D} {sx : SpIX} {t : XR → Addr → TID} (d : Di K mg x C qual st ps dd) (S : FnScope N ps (defScope st)) (ms : MonoIX sx) (len : ∀ ds Q R, sx ds Q R → ds.length + 1 = ps.length)
    (hb : ∀ (f : Addr) (cdv : Value) (A : Around) (outer : List Env) (s : Shared) (H : Hp) (E : XK) (R : XR), Room k (A.deeper (envOfC qual (defScope st) s.heap.objs.size f cdv)) → XAcc (BxX P w K mg base N qual st f cdv A outer s H E) (fun _ => R) → PIs (BxX P w K mg base N qual st f cdv A outer s H E) C (defBody st) (t R))
    (hr : ∀ a ds Q R, sx ds Q R → t R a { nx := fun _ => Q, rt := Q, fin := Q } (startD N (.adr a :: ds)) []) : MkrX P w K mg base (k + 1) x C sx dd := by
  obtain ⟨f, fd, dvs, ds, F, M, m, b, v, h⟩ := d.ex
  exact ⟨⟨f, fd, ps, dvs, ds, M, okIX F S len (hb f) hr, m, b, v, h⟩, ms⟩
end
end DC

set_option maxHeartbeats 1000000
namespace L2
open PySem PySem.Spec PyProof.Rows
end L2
namespace DC
open PySem PySem.Spec PyProof.Rows L2
section
variable {X : Cx} {scope : Scope} {cl : List (Str × Addr)} {N : List Str} {R : XR} {C : Addr} {fp : List Addr} {pins : List (Addr × Obj)} {σ : L2.St} {H2 : Hp} {s s2 : Shared}
end
section
variable {X : Cx} {scope : Scope} {cl : List (Str × Addr)} {T cn : List Str} {caps : List Nat} {elt tg iter : Expr} {ifs : List Expr} {wi : TI} {g : TG} {tt : TT} {te : TE} {pos : Pos} {R : XR}
end
section
variable {X : Cx} {scope : Scope} {cl : List (Str × Addr)} {x : Str} {cn : List Str} {caps : List Nat} {elt tg iter : Expr} {ifs : List Expr} {ti : AD} {tt : TD} {te : ED} {pos : Pos} {R : XR}
end
end DC

set_option maxHeartbeats 1000000
namespace L2
open PySem PySem.Spec PyProof.Rows
abbrev Cx.hush (X : Cx) (A : Around) : Cx := { X with A := A, calm := false, xe := fun _ _ => False }
abbrev Cx.pinIn (X : Cx) (pins : List (Addr × Obj)) (E : Value → Shared → Prop) : Cx := { X with pn := X.pn ++ pins, xe := E }
section
variable {X : Cx} {pins : List (Addr × Obj)} {σ : St} {H : Hp} {s : Shared} {A : Around} {E : Value → Shared → Prop}
theorem Inv.hush (I : Inv X pins σ H s) (hf : A.frames = X.A.frames) : Inv (X.hush A) pins σ H s :=
  ⟨⟨I.ok.mod, I.ok.kind, I.ok.glob, I.ok.blt, I.ok.above, I.ok.inj, I.ok.has, I.ok.cab, (fun h => Bool.noConfusion h), hf.trans I.ok.frames, I.ok.stk, I.ok.exf, I.ok.bs, I.ok.bsz, I.ok.noex, I.ok.exfs, I.ok.funs, I.ok.frf⟩, I.os, I.bare, I.base, I.loc, I.cell, I.free, I.freeC, I.pin, I.hok, I.len⟩
theorem Inv.unhush (ok : X.Ok) (I : Inv (X.hush A) pins σ H s) : Inv X pins σ H s := ⟨ok, I.os, I.bare, I.base, I.loc, I.cell, I.free, I.freeC, I.pin, I.hok, I.len⟩
theorem Inv.pinIn (I : Inv X pins σ H s) : Inv (X.pinIn pins E) [] σ H s :=
  ⟨⟨I.ok.mod, I.ok.kind, I.ok.glob, I.ok.blt, I.ok.above, I.ok.inj, I.ok.has, I.ok.cab, I.ok.hd, I.ok.frames, I.ok.stk, I.ok.exf, I.ok.bs, I.ok.bsz, I.ok.noex, I.ok.exfs, I.ok.funs, I.ok.frf⟩, I.os, I.bare, I.base, I.loc, I.cell, I.free, I.freeC,
    fun p hp => I.pin p (by simpa using hp), I.hok, I.len⟩
theorem Inv.pinBack {l : List (Addr × Obj)} (I : Inv (X.pinIn pins E) l σ H s) : Inv X pins σ H s :=
  ⟨⟨I.ok.mod, I.ok.kind, I.ok.glob, I.ok.blt, I.ok.above, I.ok.inj, I.ok.has, I.ok.cab, I.ok.hd, I.ok.frames, I.ok.stk, I.ok.exf, I.ok.bs, I.ok.bsz, I.ok.noex, I.ok.exfs, I.ok.funs, I.ok.frf⟩, I.os, I.bare, I.base, I.loc, I.cell, I.free, I.freeC,
    fun p hp => I.pin p (List.mem_append_left _ hp), I.hok, I.len⟩
theorem ns_up {h h' : Heap} {a : Addr} {m : Str → Option Value} (u : h.UpToSlots h') (hn : h.Ns a m) : h'.Ns a m := by
  obtain ⟨o, es, ep, ho, hd, r⟩ := hn
  obtain ⟨sl, z⟩ := u a o ho (fun vs q => by rw [hd] at q; cases q)
  exact ⟨_, es, ep, z, hd, r⟩
theorem cell_up {h h' : Heap} {a : Addr} {v : Option Value} (u : h.UpToSlots h') (hn : h.IsCell a v) : h'.IsCell a v := by
  obtain ⟨o, ho, hd⟩ := hn
  obtain ⟨sl, z⟩ := u a o ho (fun vs q => by rw [hd] at q; cases q)
  exact ⟨_, z, hd⟩
theorem look_up {env : Env} {h h' : Heap} {m : Str → Option Value} {x : Str} {v : Value} (u : h.UpToSlots h') (l : Look env h m x v) : Look env h' m x v := by
  rcases l with l | ⟨k, c, e, i⟩
  · exact .inl l
  · exact .inr ⟨k, c, e, cell_up u i⟩
theorem Inv.air {l : List (Addr × Obj)} {B h1 : Heap} {ea : Addr} (I : Inv X l σ H s) (u : s.heap.UpToSlots h1) (a : Air B X.stack ea h1) (ok : HOk X.prog X.w H B) (bn : Beneath X.fs X.ex X.H₀ X.s₀.heap B) (pn : ∀ p ∈ X.pn, B.get? p.1 = some p.2) : Inv X [] σ H { s with heap := h1 } := by
  obtain ⟨m, hn, lk⟩ := I.loc
  have up : ∀ b o, b ∈ X.fs → s.heap.get? b = some o → ∃ sl, h1.get? b = some { o with slots := sl } := fun b o hb q => by
    obtain ⟨_, o', q', nf⟩ := I.funs.mem hb
    rw [q] at q'
    cases q'
    exact u b o q nf
  refine ⟨I.ok, I.os, I.bare, ⟨fun b o q n hb hx => a.st b o (bn.kp b o q n hb hx), fun b o q n hb hx => ?_, I.base.free, fun b o q hx => ?_, I.base.tups, I.base.frzs, I.base.tbls⟩,
    ⟨m, ns_up u hn, fun i x v e1 e2 e3 => let ⟨w, r, k⟩ := lk i x v e1 e2 e3; ⟨w, r, look_up u k⟩⟩, fun x c e => let ⟨v, k⟩ := I.cell x c e; ⟨v, cell_up u k⟩, I.free, I.freeC, fun p hp => ?_, ok.kept a.st, I.len⟩
  · obtain ⟨sl, z⟩ := I.base.slot b o q n hb hx
    obtain ⟨sl2, z2⟩ := up b _ hb z
    exact ⟨sl2, z2⟩
  · by_cases hb : b ∈ X.fs
    · obtain ⟨o', z⟩ := I.base.there b o q hx
      obtain ⟨sl2, z2⟩ := up b _ hb z
      exact ⟨_, z2⟩
    · obtain ⟨o', z⟩ := bn.th b o q hb hx
      exact ⟨o', a.st b o' z⟩
  · have hp' : p ∈ X.pn := by simpa using hp
    exact ⟨a.st _ _ (pn p hp'), (I.pin p (List.mem_append_left _ hp')).2⟩
theorem HOk.track {P : Program} {w : World} {h : Heap} {a : Addr} {o : HO} (x : HOk P w H h) (hn : H a = none) (new : ObjOk P w (upd H a o) h a o) : HOk P w (upd H a o) h := fun b u e => by
  by_cases hb : b = a
  · subst hb; rw [upd_same] at e; cases e; exact new
  · rw [upd_ne hb] at e
    exact (x b u e).stay (fun c v _ q => q) (fun c q => by rw [upd_ne (ne_of_none q hn)]; exact q) fun c xs q => by rw [upd_ne (ne_of_none q hn)]; exact q
theorem Inv.track {ea : Addr} {u : HO} (I : Inv X pins σ H s) (hn : H ea = none) (h0 : X.s₀.heap.get? ea = none) (hl : ea ≠ X.env.locals) (hc : ∀ x c, X.env.cells.lookup x = some c → c ≠ ea) (hp : ∀ p ∈ X.pn ++ pins, p.1 ≠ ea) (new : ObjOk X.prog X.w (upd H ea u) s.heap ea u) : Inv X pins σ (upd H ea u) s := by
  have ne : ∀ b v, H b = some v → b ≠ ea := fun b v q => ne_of_none q hn
  refine ⟨I.ok, I.os, I.bare, ⟨I.base.keep, I.base.slot, fun b o q n hx => ?_, I.base.there, fun b xs q => ?_, fun b o v q => ?_, fun b ps q => ?_⟩, I.loc, I.cell, by rw [upd_ne (Ne.symm hl)]; exact I.free, fun x c e => by rw [upd_ne (hc x c e)]; exact I.freeC x c e, fun p hp' => ?_, I.hok.track hn new, I.len⟩
  · rw [upd_ne (fun z => by rw [z, h0] at q; cases q)]
    exact I.base.free b o q n hx
  · have z := I.base.tups b xs q
    rw [upd_ne (ne _ _ z)]; exact z
  · have z := I.base.frzs b o v q
    rw [upd_ne (ne _ _ z)]; exact z
  · obtain ⟨more, z⟩ := I.base.tbls b ps q
    exact ⟨more, by rw [upd_ne (ne _ _ z)]; exact z⟩
  · obtain ⟨y1, y2, y3⟩ := I.pin p hp'
    exact ⟨y1, by rw [upd_ne (hp p hp')]; exact y2, y3⟩
theorem Inv.goes {i : Nat} {n : Str} {pos : Pos} {M : Model} {A : Around} {Q : Unit → Shared → Prop} (I : Inv X pins σ H s) (hN : X.N.Nodup) (hi : X.N[i]? = some n) (hl : X.env.kindOf n = some .local) (h : ∀ s', Inv X pins (σ.set i none) H s' → Q () s') : wpAny M A (do bindName X.env n .none; unbindBehindTheSuite X.env n pos) Q E s := by
  obtain ⟨m, hn, lk⟩ := I.loc
  refine wpAny_nameGoes_keeps hl hn (by rw [I.ok.kind]; rfl) fun h' v hn' sb => h _ ?_
  have cne := I.cne
  have ho := hn
  obtain ⟨o, es, ep, go, gd, _⟩ := ho
  have keep : ∀ b ob, b ≠ X.env.locals → s.heap.get? b = some ob → h'.get? b = some ob := fun b ob nb q => (sb.2 b nb).trans q
  obtain ⟨o', es', ep', go', _⟩ := id hn'
  have above := I.ok.above
  refine ⟨I.ok, I.os, I.bare, ⟨fun b ob q nb hb hx => ?_, fun b ob q nb hb hx => ?_, I.base.free, fun b ob q hx => ?_, I.base.tups, I.base.frzs, I.base.tbls⟩, ⟨_, hn', fun j x w e1 e2 e3 => ?_⟩, fun x c e => ?_, I.free, I.freeC, fun p hp => ?_, fun b u q => ?_, by rw [List.length_set]; exact I.len⟩
  · exact keep b ob (fun z => by have y := Heap.lt_size q; rw [z] at y; exact absurd above (Nat.not_le.mpr y)) (I.base.keep b ob q nb hb hx)
  · obtain ⟨sl, z⟩ := I.base.slot b ob q nb hb hx
    exact ⟨sl, keep b _ (fun y => by have y2 := Heap.lt_size q; rw [y] at y2; exact absurd above (Nat.not_le.mpr y2)) z⟩
  · obtain ⟨o2, z⟩ := I.base.there b ob q hx
    exact ⟨o2, keep b _ (fun y => by have y2 := Heap.lt_size q; rw [y] at y2; exact absurd above (Nat.not_le.mpr y2)) z⟩
  · rw [List.getElem?_set] at e2
    split at e2
    · split at e2 <;> cases e2
    · rename_i ji
      obtain ⟨w', r, k⟩ := lk j x w e1 e2 e3
      have xn : x ≠ n := fun z => ji (by
        subst z
        exact (List.getElem?_inj (List.getElem?_eq_some_iff.mp hi).1 hN).mp (hi.trans e1.symm))
      refine ⟨w', r, ?_⟩
      rcases k with ⟨k1, k2⟩ | ⟨k1, c, k2, k3⟩
      · exact .inl ⟨k1, by show (if x = n then v else m x) = _; rw [if_neg xn]; exact k2⟩
      · exact .inr ⟨k1, c, k2, k3.sameBut sb (cne x c k2)⟩
  · obtain ⟨v, k⟩ := I.cell x c e
    exact ⟨v, k.sameBut sb (cne x c e)⟩
  · obtain ⟨y1, y2, y3, y4⟩ := I.pin p hp
    exact ⟨keep _ _ y3 y1, y2, y3, y4⟩
  · refine (I.hok b u q).stay (fun c w hc z => keep c w (fun y => ?_) z) (fun _ z => z) fun _ _ z => z
    rcases hc with rfl | hc
    · rw [y, I.free] at q; cases q
    · rw [y, I.free] at hc; cases hc
end
theorem exc_hit {prog : Program} {w : World} {A : Around} {E : Value → Shared → Prop} {K : PySem.W.Frag} {e C Cx : Addr} {oe : Obj} {Q : Bool → Shared → Prop} {s : Shared} (X : K.In s.heap) (hk : PySem.W.kitCls K (.ref C) (.ref Cx) = some true) (hb : PySem.W.mroIn K Cx (.type "BaseException") = some true)
    (he : s.heap.get? e = some oe) (hc : oe.cls = .ref C) (hq : Q true s) : wpAny (model prog w) A (excMatches (.ref e) (.ref Cx)) Q E s := by
  obtain ⟨h, g, d, tk, os⟩ := s
  obtain ⟨LY, LT, LS⟩ := PySem.W.kit_cls (M := model prog w) X hk
  have LB := PySem.W.looks_mroIn (M := model prog w) X hb
  have LE : PySem.W.Looks (model prog w) h (typeOf (.ref e)) (.ref C) := hc ▸ (PySem.W.Looks.ld he).andThen .now
  have LI : PySem.W.Looks (model prog w) h (isInstance (.ref Cx) (.type "tuple")) false := LY.andThen (.of_pure tc_notTuple)
  unfold excMatches
  repeat (first | with_reducible refine LI.at ?_ | with_reducible refine LT.at ?_ | with_reducible refine LB.at ?_ | with_reducible refine LE.at ?_ | with_reducible refine LS.at ?_ | wp_step)
  exact hq
end L2
namespace DC
open PySem PySem.Spec PyProof.Rows L2
def endsF (K : PySem.W.Frag) (D : Ends) : EndsD := ⟨fun δ => ∀ σ H', RelS K H' σ δ → D.nx σ H', fun d => ∀ v H', Dv K H' v d → D.rt v H', fun δ => ∀ σ H', RelS K H' σ δ → D.bk σ H', fun δ => ∀ σ H', RelS K H' σ δ → D.ct σ H'⟩
theorem endsF_le {K : PySem.W.Frag} {H : Hp} {D : Ends} : EndsD.Le (endsF K D) (endsOf K H D) := ⟨fun δ q σ H' _ r => q σ H' r, fun d q v H' _ dv => q v H' dv, fun δ q σ H' _ r => q σ H' r, fun δ q σ H' _ r => q σ H' r⟩
def oF (K : PySem.W.Frag) (t : TSD) : TS := fun D σ H => ∃ δ, RelS K H σ δ ∧ t (endsF K D) δ
structure PFd (X : Cx) (st : Stmt) (t : TSD) : Prop where
  ps : PS X st (oF X.K t)
  mono : MonoQ t
structure PFs (X : Cx) (st : List Stmt) (t : TSD) : Prop where
  ps : PSs X st (oF X.K t)
  mono : MonoQ t
section
variable {X : Cx} {st : Stmt} {rest : List Stmt} {t u : TSD}
theorem ff_lift (h : PSd X st t) : PFd X st t := ⟨PS.imp h.ps fun D σ H ⟨δ, r, q⟩ => ⟨δ, r, h.mono _ _ _ endsF_le q⟩, h.mono⟩
theorem ff_all (h : PSsd X rest t) : PFs X rest t := ⟨PSs.imp h.ps fun D σ H ⟨δ, r, q⟩ => ⟨δ, r, h.mono _ _ _ endsF_le q⟩, h.mono⟩
theorem ff_cons (h1 : PFd X st t) (h2 : PFs X rest u) : PFs X (st :: rest) (qSeq t u) :=
  ⟨PSs.imp (pss_cons h1.ps h2.ps) fun D σ H ⟨δ, r, q⟩ => ⟨δ, r, h1.mono { endsF X.K D with nx := u (endsF X.K D) } _ _ ⟨fun δ' q σ' H' r' => ⟨δ', r', q⟩, fun _ q => q, fun _ q => q, fun _ q => q⟩ q⟩,
   fun E E' δ l q => h1.mono { E with nx := u E } _ _ ⟨fun δ' q => h2.mono _ _ _ l q, l.rt, l.bk, l.ct⟩ q⟩
theorem RelS.unset {K : PySem.W.Frag} {H : Hp} {σ : L2.St} {δ : SD} {i : Nat} (r : RelS K H σ δ) : RelS K H (σ.set i none) (δ.set i none) := by
  refine ⟨by rw [List.length_set, List.length_set]; exact r.len, fun j d h => ?_⟩
  rw [List.getElem?_set] at h ⊢
  split at h
  · split at h <;> cases h
  · rename_i n
    rw [if_neg n]
    exact r.get j d h
def qTry (i : Nat) (hit : Addr → Prop) (tb : (SD → XR) → TSD) (th : Addr → TSD) : TSD := fun E δ => ∃ xk : SD → XR, (∀ δ' C gs, xk δ' C gs → hit C ∧ ∀ a, th a { nx := fun δ'' => E.nx (δ''.set i none), rt := E.rt } (δ'.set i (some (.exc a C gs)))) ∧ tb xk E δ
theorem ff_try {i : Nat} {n cx : Str} {cp hp pos : Pos} {b₀ : Stmt} {suite body : List Stmt} {Cx : Addr} {tb : (SD → XR) → TSD} {th : Addr → TSD} {hit : Addr → Prop} (hst : X.stack = X.env :: X.outer) (hfr : X.env.frame = some X.env.locals) (hex : X.ex = []) (hN : X.N.Nodup) (hi : X.N[i]? = some n) (hl : X.env.scope.names.lookup n = some .local)
    (hg : Gl X cx) (hm : X.mg cx = some (.ref Cx)) (hhit : ∀ C, hit C → PySem.W.kitCls X.K (.ref C) (.ref Cx) = some true) (hbe : PySem.W.mroIn X.K Cx (.type "BaseException") = some true)
    (hb : ∀ pins E' xk, XAcc (X.pinIn pins E') xk → PSsd (X.pinIn pins E') body (tb xk)) (hs : ∀ ea, PSsd (X.hush (X.A.mark (some (.ref ea)))) (b₀ :: suite) (th ea)) (hd : (cx == ("__debug__" : Str)) = false := by decide) :
    PFd X (.Try body [.ExceptHandler (some (.Name cx cp)) (some n) (b₀ :: suite) hp] [] [] pos) (qTry i hit tb th) := by
  refine ⟨fun pins s σ H D I ⟨δ, r, xk, himp, hq⟩ => ?_, fun E E' δ l ⟨xk, h1, h2⟩ => ⟨xk, fun δ' C gs q => ⟨(h1 δ' C gs q).1, fun a => (hs a).mono { nx := fun δ'' => E.nx (δ''.set i none), rt := E.rt } _ _ ⟨fun _ z => l.nx _ z, l.rt, fun _ z => z, fun _ z => z⟩ ((h1 δ' C gs q).2 a)⟩,
    (hb [] (fun _ _ => True) xk (fun _ _ _ _ _ _ _ _ _ _ _ _ _ _ _ _ => True.intro)).mono _ _ _ l h2⟩⟩
  refine wpAny_Try_except ?_
  have hx : XAcc (X.pinIn pins (fun e s₁ => wpAny (model X.prog X.w) X.A (noteFrame e X.env) (fun _ s₂ => wpAny (model X.prog X.w) X.A (setFlight e none) (fun _ s₃ => wpAny (model X.prog X.w) X.A (handleBy e X.env [.ExceptHandler (some (.Name cx cp)) (some n) (b₀ :: suite) hp]) (SP X pins D) X.xe s₃) X.xe s₂) X.xe s₁)) xk := by
    intro l σ1 δ1 H1 s1 ea C dx fs gs I1 r1 ⟨B, fl, a, ok, bn, x, pn⟩ xd df k
    obtain ⟨hitC, hth⟩ := himp δ1 C gs k
    have a0 : Air B (X.env :: X.outer) ea s1.heap := hst ▸ (show Air B X.stack ea s1.heap from a)
    refine note_x (env := X.env) (outer := X.outer) (L := X.env.locals) (by rw [← hst]; exact I.ok.frames) hfr a0 x fun h2 a2 u2 x2 => ?_
    refine flight_x (s := { s1 with heap := h2 }) (f := none) a2 x2 fun h3 a3 u3 x3 => ?_
    have I3 : Inv X pins σ1 H1 { s1 with heap := h3 } := (I1.air (u2.trans u3) (hst ▸ a3) ok bn pn).pinBack
    have he3 := x3
    obtain ⟨oe, vs, he, hc, _⟩ := he3
    have I3h := I3.hush (A := X.A.mark (some (.ref ea))) rfl
    refine wpAny_handleBy_cons (codeAny_handlers_test (ld_glob I3h hg hm ?_ hd)) (by intro q; cases q)
    refine exc_hit I3.kIn (hhit C hitC) hbe he hc ?_
    refine codeAny_handlers_suite_as (flight_x (s := { s1 with heap := h3 }) (f := none) a3 x3 fun h4 a4 u4 x4 => ?_)
    have I4 := I1.air (h1 := h4) (u2.trans (u3.trans u4)) (hst ▸ a4) ok bn pn
    obtain ⟨oe, vs, he, hc, hdx, hdv, hz, hy, _⟩ := x4
    have hn : H1 ea = none := by
      cases q : H1 ea with
      | none => rfl
      | some u =>
        obtain ⟨o, z⟩ := (ok ea u q).there
        rw [a.ne] at z
        cases z
    have h0 : X.s₀.heap.get? ea = none := by
      cases q : X.s₀.heap.get? ea with
      | none => rfl
      | some o =>
        by_cases hb' : ea ∈ X.fs
        · obtain ⟨_, o', q', nf⟩ := I4.funs.mem hb'
          have q2 : h4.get? ea = some o' := q'
          rw [he] at q2
          cases q2
          exact absurd hdv (nf vs)
        · obtain ⟨o', z⟩ := bn.th ea o q hb' (by show ea ∉ X.ex; rw [hex]; simp)
          rw [a.ne] at z
          cases z
    have hlo : ea ≠ X.env.locals := fun z => by
      obtain ⟨m, ⟨o, es, ep, go, gd, _⟩, _⟩ := I4.loc
      have go2 : h4.get? X.env.locals = some o := go
      rw [← z, he] at go2
      cases go2
      rw [hdv] at gd
      cases gd
    have hce : ∀ x c, X.env.cells.lookup x = some c → c ≠ ea := fun x c e z => by
      obtain ⟨v, o, go, gd⟩ := I4.cell x c e
      have go2 : h4.get? c = some o := go
      rw [z, he] at go2
      cases go2
      rw [hdv] at gd
      cases gd
    have hpn : ∀ p ∈ X.pn ++ pins, p.1 ≠ ea := fun p hp z => by
      have y := pn p hp
      rw [z, a.ne] at y
      cases y
    have new : ObjOk X.prog X.w (upd H1 ea (ExcO ea C dx)) h4 ea (ExcO ea C dx) := by
      unfold ExcO
      exact ⟨⟨oe, vs, he, hc, hdx, hdv, hy⟩, ⟨oe, he⟩, fun g1 g2 ⟨oe', vs', e1, rr⟩ kk => ⟨oe', vs', kk _ e1, rr⟩⟩
    have I5 : Inv X pins σ1 (upd H1 ea (ExcO ea C dx)) { s1 with heap := h4 } := (I4.track hn h0 hlo hce (fun p hp => hpn p (by simpa using hp)) new).pinBack
    have sm : Same H1 (upd H1 ea (ExcO ea C dx)) := same_upd hn
    have dv : Dv X.K (upd H1 ea (ExcO ea C dx)) (.ref ea) (.exc ea C gs) := .exc (.of upd_same) (xd.same sm) (Dvf.same sm df)
    have I5h := I5.hush (A := X.A.mark (some (.ref ea))) rfl
    refine store_ok (X := X.hush (X.A.mark (some (.ref ea)))) (v := .ref ea) I5h hN hi (.inl hl) rfl (fun s6 I6 => ?_) (.inr hl)
    have r6 := (RelS.same r1 sm).set i dv
    refine wpAny_mono ((hs ea).ps pins s6 _ _ { nx := fun σ'' H'' => D.nx (σ''.set i none) H'', rt := D.rt } I6 ⟨_, r6, (hs ea).mono { nx := fun δ'' => (endsF X.K D).nx (δ''.set i none), rt := (endsF X.K D).rt } _ _ ⟨fun δ'' q σ'' H'' _ r'' => q _ _ r''.unset, fun d q v H'' _ dv => q v H'' dv, fun _ q => q.elim, fun _ q => q.elim⟩ (hth ea)⟩) (fun f s7 h7 => ?_) fun _ _ z => z.elim
    cases f with
    | next =>
      obtain ⟨σ', H', I', q⟩ := h7
      exact (I'.unhush I.ok).goes hN hi hl fun s8 I8 => ⟨_, H', I8, q⟩
    | ret w =>
      obtain ⟨v, σ', H', I', rv, q⟩ := h7
      exact (I'.unhush I.ok).goes hN hi hl fun s8 I8 => ⟨v, _, H', I8, rv, q⟩
    | brk =>
      obtain ⟨σ', H', I', q⟩ := h7
      exact q.elim
    | cont =>
      obtain ⟨σ', H', I', q⟩ := h7
      exact q.elim
  have B := hb pins _ xk hx
  refine wpAny_mono (B.ps [] s σ H D I.pinIn ⟨δ, r, B.mono _ _ _ endsF_le hq⟩) (fun f s1 h1 => ?_) fun e s1 h => h
  cases f with
  | next =>
    obtain ⟨σ', H', I', q⟩ := h1
    exact wpAny_execs_nil ⟨σ', H', I'.pinBack, q⟩
  | ret w =>
    obtain ⟨v, σ', H', I', rv, q⟩ := h1
    exact ⟨v, σ', H', I'.pinBack, rv, q⟩
  | brk =>
    obtain ⟨σ', H', I', q⟩ := h1
    exact ⟨σ', H', I'.pinBack, q⟩
  | cont =>
    obtain ⟨σ', H', I', q⟩ := h1
    exact ⟨σ', H', I'.pinBack, q⟩
end
end DC

set_option maxHeartbeats 1000000
namespace L2
open PySem PySem.Spec PyProof.Rows
structure RoomU (k : Nat) (A : Around) : Prop where
  dp : A.depth + 3 * k + 5 < recursionLimit
  un : A.units + 16 * k + 200 < cLine
theorem RoomU.deeper {k : Nat} {A : Around} (r : RoomU (k + 1) A) (env : Env) : RoomU k (A.deeper env) :=
  ⟨by have := r.dp; show A.depth + 1 + 3 * k + 5 < _; omega, by have := r.un; show A.units + 3 + 16 * k + 200 < _; omega⟩
theorem RoomU.mono {j k : Nat} {A : Around} (r : RoomU k A) (h : j ≤ k) : RoomU j A := ⟨by have := r.dp; omega, by have := r.un; omega⟩
theorem Room.mark {k : Nat} {A : Around} (r : Room k A) (v : Option Value) : RoomU k (A.mark v) := ⟨r.dp, r.un⟩
def HandOk (A : Around) (H : Hp) : Prop := A.handled = none ∨ ∃ ea o u vs, A.handled = some (.ref ea) ∧ H ea = some (.frz o u) ∧ o.data = .fields vs ∧ vs[2]? = some .none
structure FnOkU (P : Program) (w : World) (K : PySem.W.Frag) (mg : Str → Option Value) (base : Heap) (k : Nat) (f : Addr) (fd : FuncData) (ps : List Str) (sp : Sp) : Prop where
  len : ∀ vs H Q E, sp vs H Q E → vs.length = ps.length
  run : ∀ (A : Around) (outer : List Env) (s : Shared) (H : Hp) (args : Args) (us : List Value) (vs : List V) (Q : VK) (E : XK), RoomU k A → HandOk A H → Env0 P w K mg base A outer s H → BindsTo s fd args (ps.zip us) → Vals vs us → sp vs H Q E →
    codeAny (model P w) A (.call (.ref f) args) (CR CX0 outer P w H s Q E) s
abbrev cxU (P : Program) (w : World) (K : PySem.W.Frag) (mg : Str → Option Value) (base : Heap) (N : List Str) (qual : Str) (scope : Scope) (f : Addr) (cd : Value) (A : Around) (outer : List Env) (s : Shared) (H : Hp) (E : XK) : Cx :=
  (cxOf CX0 P w K mg base N qual scope f cd { A with handled := none } outer s H E).hush (A.deeper (envOfC qual scope s.heap.objs.size f cd))
theorem fn_ofU {P : Program} {w : World} {K : PySem.W.Frag} {mg : Str → Option Value} {base : Heap} {k : Nat} {f : Addr} {name qual : Str} {params : Arguments} {body : List Stmt} {scope : Scope} {dV kV doc pm cdv ct oc : Value} {an od : Option Addr}
    {osl : Array (Option Value)} {N ps : List Str} {sp : Sp} (lk : K.lookup f = some ⟨oc, od, .func (PySem.W.fnOf name qual params body scope dV kV doc pm an cdv ct), osl⟩) (hcd : PySem.W.codeIn K cdv qual = true) (S : FnScope N ps scope)
    (len : ∀ vs H Q E, sp vs H Q E → vs.length = ps.length)
    (hbody : ∀ (A : Around) (outer : List Env) (s : Shared) (H : Hp) (vs : List V) (Q : VK) (E : XK), RoomU k (A.deeper (envOfC qual scope s.heap.objs.size f cdv)) → HandOk A H → sp vs H Q E →
      ∃ t, PSs (cxU P w K mg base N qual scope f cdv A outer s H E) body t ∧ t { nx := fun _ H' => Q .non H', rt := Q } (start N vs) H) :
    FnOkU P w K mg base (k + 1) f (PySem.W.fnOf name qual params body scope dV kV doc pm an cdv ct) ps sp := by
  refine ⟨len, fun A outer s H args us vs Q E hr hh e0 hb r hsp => ?_⟩
  have hl := len _ _ _ _ hsp
  have KX : K.In s.heap := e0.mod.kin.keeps fun b o e => (e0.bs b o e).1
  have lim : s.heap.NoLimit := e0.mod.nolimit.keeps fun b o e => (e0.bs b o e).1
  have hkind : ∀ y ∈ ps.zip us, scope.names.lookup y.1 = some .local ∨ (scope.names.lookup y.1 = some .cell ∧ ((cellsFrom (s.heap.objs.size + 1) scope.names []).lookup y.1).isSome = true) := fun ⟨n, v⟩ hy => by
    rcases S.par n (List.of_mem_zip hy).1 with q | q
    · exact .inl q
    · exact .inr ⟨q, PySem.W.cellsFrom_some _ _ _ (.inl q)⟩
  refine codeAny_call_function (by have := hr.dp; omega) (KX _ _ lk) rfl S.co S.gen rfl (PySem.W.codeRec_of KX hcd) (hb _ _ _ _ ?_)
  refine wpAny_newFunctionEnv_cells S.kind hkind fun env he s1 x => ?_
  subst he
  refine ⟨lim.keeps x.toInCall.keep, codeAny_func ?_⟩
  obtain ⟨t, ht, hq⟩ := hbody A outer s H vs Q E (hr.deeper _) hh hsp
  have e1 : Env0 P w K mg base { A with handled := none } outer s H := ⟨e0.frames, e0.mod, e0.bs, e0.bsz, e0.funs, e0.frf, e0.hok, e0.bare⟩
  have I0 : Inv (cxOf CX0 P w K mg base N qual scope f cdv { A with handled := none } outer s H E) [] (start N vs) H s1 := inv_start S rfl e1 hl r x
  have I : Inv (cxU P w K mg base N qual scope f cdv A outer s H E) [] (start N vs) H s1 := I0.hush (by first | rfl | (show (A.deeper _).frames = ({ A with handled := none }.deeper _).frames; rfl))
  refine wpAny_mono (ht [] s1 (start N vs) H _ I hq) (fun fl s' hs => ?_) fun e s' hs => False.elim hs
  have fin : ∀ {σ' : St} {H' : Hp} {v : V} {u : Value}, Inv (cxU P w K mg base N qual scope f cdv A outer s H E) [] σ' H' s' → RelV v u → Q v H' → CE outer P w H s Q u s' :=
    fun {σ' H' v u} J rv q => ⟨v, H', J.os, J.bare, J.base, J.hok, rv, q⟩
  cases fl with
  | ret u =>
    obtain ⟨v, σ', H', J, rv, q⟩ := hs
    exact fin J rv q
  | next =>
    obtain ⟨σ', H', J, q⟩ := hs
    exact fin (v := V.non) (u := Value.none) J rfl q
  | brk =>
    obtain ⟨σ', H', J, q⟩ := hs
    exact False.elim q
  | cont =>
    obtain ⟨σ', H', J, q⟩ := hs
    exact False.elim q
section
variable {X : Cx} {k : Nat} {f : Addr} {fd : FuncData} {ps : List Str} {sp : Sp}
theorem run_fnU {pins : List (Addr × Obj)} {σ : St} {H : Hp} {s : Shared} {Q Q' : VK} {us : List Value} {vs : List V} (F : FnOkU X.prog X.w X.K X.mg X.base k f fd ps sp) (hr : RoomU k X.A) (hh : HandOk X.A (frzH s.heap H)) (hb : Binds X.K fd ps [])
    (I : Inv X pins σ H s) (r : Vals vs us) (h : sp vs (frzH s.heap H) Q' E0) (hQ : ∀ v H', (∀ b u, HO.data u → Rd H' b u → Rd (thaw H H') b u) → Q' v H' → Q v (thaw H H')) : wpAny (model X.prog X.w) X.A (call (.ref f) us) (EP X pins σ Q) X.xe s := by
  have hl : us.length = ps.length := by rw [← r.length]; exact F.len _ _ _ _ h
  have hb' := hb s us I.kIn (by rw [List.append_nil]; exact hl)
  rw [List.append_nil] at hb'
  refine wpAny_call (codeAny_mono (F.run X.A X.stack s _ ⟨us, []⟩ us vs Q' E0 hr hh I.env0.frz hb' r h) fun r s' hq => ?_)
  cases r with
  | error e => exact False.elim hq
  | ok fl =>
    cases fl with
    | ret u =>
      obtain ⟨v, H', os, bare, un, hok, rv, q⟩ := (show CE X.stack X.prog X.w (frzH s.heap H) s Q' u s' from hq)
      have t : Thw s.heap H H' := ⟨un.tups, un.frzs⟩
      exact ⟨v, thaw H H', I.call' (ch := []) os (un.thaw I.hok) (I.hok.thaw t hok) bare (fun b z => absurd z (by simp)), rv, hQ v H' (fun b u hu r => r.thaw I.hok t hok hu) q⟩
    | next => exact False.elim hq
    | brk => exact False.elim hq
    | cont => exact False.elim hq
end
end L2
namespace DC
open PySem PySem.Spec PyProof.Rows L2
def spU (K : PySem.W.Frag) (sd : SpD) : Sp := fun vs H Q _ => ∃ ds, Dvs K H vs ds ∧ sd ds (fun d => ∀ v H', Dv K H' v d → Q v H')
abbrev BxU (P : Program) (w : World) (K : PySem.W.Frag) (mg : Str → Option Value) (base : Heap) (N : List Str) (qual : Str) (st : Stmt) (f : Addr) (cdv : Value) (A : Around) (outer : List Env) (s : Shared) (H : Hp) (E : XK) : Cx := cxU P w K mg base N qual (defScope st) f cdv A outer s H E
section
variable {P : Program} {w : World} {K : PySem.W.Frag} {mg : Str → Option Value} {base : Heap}
theorem okU {x qual : Str} {st : Stmt} {f : Addr} {fd : FuncData} {N ps : List Str} {k : Nat} {sd : SpD} {t : TSD} (F : FunV K x qual st f fd) (S : FnScope N ps (defScope st)) (len : ∀ ds Q, sd ds Q → ds.length = ps.length)
    (hb : ∀ (cdv : Value) (A : Around) (outer : List Env) (s : Shared) (H : Hp) (E : XK), RoomU k (A.deeper (envOfC qual (defScope st) s.heap.objs.size f cdv)) → HandOk (BxU P w K mg base N qual st f cdv A outer s H E).A (BxU P w K mg base N qual st f cdv A outer s H E).H₀ → PSsd (BxU P w K mg base N qual st f cdv A outer s H E) (defBody st) t)
    (hr : ∀ ds Q, sd ds Q → t { nx := fun _ => Q .non, rt := Q } (startD N ds)) : FnOkU P w K mg base (k + 1) f fd ps (spU K sd) := by
  obtain ⟨oc, od, dV, kV, doc, pm, an, cdv, ct, osl, rfl, lk, hcd⟩ := F.ex
  refine fn_ofU lk hcd S (fun vs H Q E ⟨ds, dvs, h⟩ => by rw [dvs.length]; exact len ds _ h) fun A outer s H vs Q E hroom hh ⟨ds, dvs, h⟩ => ?_
  have B := hb cdv A outer s H E hroom hh
  refine ⟨_, B.ps, startD N ds, start_rel dvs, ?_⟩
  let Q' : D → Prop := fun d => ∀ v H', Dv K H' v d → Q v H'
  exact B.mono { nx := fun _ => Q' .non, rt := Q' } _ _ ⟨fun δ q σ H' s' r => q _ H' .non, fun d q v H' s' dv => q v H' dv, fun _ q => q.elim, fun _ q => q.elim⟩ (hr ds _ h)
structure CalU (P : Program) (w : World) (K : PySem.W.Frag) (mg : Str → Option Value) (base : Heap) (k : Nat) (x : Str) (ps : List Str) (sd : SpD) : Prop where
  ex : ∃ f fd, FnOkU P w K mg base k f fd ps (spU K sd) ∧ mg x = some (.ref f) ∧ PySem.W.keepIn K (.ref f) = true ∧ Binds K fd ps []
  ms : MonoS sd
theorem Df.calU {k : Nat} {x : Str} {st : Stmt} {ps N : List Str} {sd : SpD} {t : TSD} (d : Df K mg x st ps) (S : FnScope N ps (defScope st)) (ms : MonoS sd) (len : ∀ ds Q, sd ds Q → ds.length = ps.length)
    (hb : ∀ (f : Addr) (cdv : Value) (A : Around) (outer : List Env) (s : Shared) (H : Hp) (E : XK), RoomU k (A.deeper (envOfC x (defScope st) s.heap.objs.size f cdv)) → HandOk (BxU P w K mg base N x st f cdv A outer s H E).A (BxU P w K mg base N x st f cdv A outer s H E).H₀ → PSsd (BxU P w K mg base N x st f cdv A outer s H E) (defBody st) t)
    (hr : ∀ ds Q, sd ds Q → t { nx := fun _ => Q .non, rt := Q } (startD N ds)) : CalU P w K mg base (k + 1) x ps sd := by
  obtain ⟨f, fd, F, m, b⟩ := d.ex
  exact ⟨⟨f, fd, okU (fun_v F) S len (hb f) hr, m, F.kp, b⟩, ms⟩
theorem okXF {x qual : Str} {st : Stmt} {f : Addr} {fd : FuncData} {N ps : List Str} {k : Nat} {sx : SpX} {t : XR → TSD} (F : FunV K x qual st f fd) (S : FnScope N ps (defScope st)) (len : ∀ ds Q R, sx ds Q R → ds.length = ps.length)
    (hb : ∀ (cdv : Value) (A : Around) (outer : List Env) (s : Shared) (H : Hp) (E : XK) (R : XR), Room k (A.deeper (envOfC qual (defScope st) s.heap.objs.size f cdv)) → XAcc (BxX P w K mg base N qual st f cdv A outer s H E) (fun _ => R) → PFs (BxX P w K mg base N qual st f cdv A outer s H E) (defBody st) (t R))
    (hr : ∀ ds Q R, sx ds Q R → t R { nx := fun _ => Q .non, rt := Q } (startD N ds)) : FnOk P w K mg base (CXD P w) (k + 1) f fd ps (spX K sx) := by
  obtain ⟨oc, od, dV, kV, doc, pm, an, cdv, ct, osl, rfl, lk, hcd⟩ := F.ex
  refine fn_of lk hcd S (fun vs H Q E ⟨ds, dvs, h⟩ => by rw [dvs.length]; exact len ds _ _ h) fun A outer s H vs Q E hroom ⟨ds, dvs, h⟩ => ?_
  have B := hb cdv A outer s H E (kX K E) hroom acc_X
  refine ⟨_, B.ps, startD N ds, start_rel dvs, ?_⟩
  let Q' : D → Prop := fun d => ∀ v H', Dv K H' v d → Q v H'
  exact B.mono { nx := fun _ => Q' .non, rt := Q' } _ _ ⟨fun δ q σ H' r => q _ H' .non, fun d q v H' dv => q v H' dv, fun _ q => q.elim, fun _ q => q.elim⟩ (hr ds _ _ h)
theorem Df.calXF {k : Nat} {x : Str} {st : Stmt} {ps N : List Str} {sx : SpX} {t : XR → TSD} (d : Df K mg x st ps) (S : FnScope N ps (defScope st)) (ms : MonoX sx) (len : ∀ ds Q R, sx ds Q R → ds.length = ps.length)
    (hb : ∀ (f : Addr) (cdv : Value) (A : Around) (outer : List Env) (s : Shared) (H : Hp) (E : XK) (R : XR), Room k (A.deeper (envOfC x (defScope st) s.heap.objs.size f cdv)) → XAcc (BxX P w K mg base N x st f cdv A outer s H E) (fun _ => R) → PFs (BxX P w K mg base N x st f cdv A outer s H E) (defBody st) (t R))
    (hr : ∀ ds Q R, sx ds Q R → t R { nx := fun _ => Q .non, rt := Q } (startD N ds)) : CalX P w K mg base (k + 1) x ps sx := by
  obtain ⟨f, fd, F, m, b⟩ := d.ex
  exact ⟨⟨f, fd, okXF (fun_v F) S len (hb f) hr, m, F.kp, b⟩, ms⟩
end
section
variable {X : Cx} {e : Expr} {es : List Expr} {t : AD} {pos p : Pos} {x : Str} {j k : Nat} {ps : List Str} {sd : SpD} {ea : Addr}
def vCallU (ea : Addr) (sd : SpD) (t : AD) : ED := fun δ Q => t δ fun ds => (∃ C gs, D.exc ea C gs ∈ ds) ∧ sd ds Q
theorem exc_in {K : PySem.W.Frag} {H : Hp} {C : Addr} {gs : List (Str × D)} : ∀ {vs : List V} {ds : List D}, Dvs K H vs ds → D.exc ea C gs ∈ ds → ∃ dx, Rd H ea (ExcO ea C dx)
  | _, _, .cons dv r, h => by
    rcases List.mem_cons.mp h with h | h
    · subst h
      cases dv with
      | exc h1 _ _ => exact ⟨_, h1⟩
    · exact exc_in r h
theorem hand_frz {P : Program} {w : World} {A : Around} {H : Hp} {h : Heap} {C : Addr} {dx : Option Addr} (hA : A.handled = some (.ref ea)) (ok : HOk P w H h) (r : Rd H ea (ExcO ea C dx)) : HandOk A (frzH h H) := by
  have z := r.frz ok (show HO.data (ExcO ea C dx) from True.intro)
  obtain ⟨⟨oe, vs, e1, _, _, e2, e3⟩, _⟩ := (show ObjOk P w (frzH h H) h ea (ExcO ea C dx) from z.ok ok.frz)
  rcases z with z | ⟨o, z⟩
  · exfalso
    rcases r with r | ⟨o, r⟩
    · rcases frz_cases ok r with ⟨_, q⟩ | ⟨o, _, q⟩
      · rcases q with ⟨_, q⟩ | ⟨_, _, q⟩ | ⟨_, _, q, _⟩ <;> cases q
      · rw [q] at z; cases z
    · rw [frz_frz r] at z; cases z
  · have g := (ok.frz ea _ z).1
    rw [e1] at g
    cases g
    exact .inr ⟨ea, oe, _, vs, hA, z, e2, e3⟩
theorem d_calU (hA : X.A.handled = some (.ref ea)) (c : CalU X.prog X.w X.K X.mg X.base j x ps sd) (hr : RoomU k X.A) (hj : j ≤ k) (hg : Gl X x) (ha : PAd X (e :: es) t) (hdb : (x == ("__debug__" : Str)) = false := by decide)
    (he : starEach (e :: es) X.env = (false, eval e X.env) :: starEach es X.env := by rfl) (hpl : (backTo pos (starEach es X.env)).any (·.1) = false := by rfl) : PD X (.Call (.Name x p) (e :: es) [] pos) (vCallU ea sd t) := by
  obtain ⟨f, fd, F, hm, hk, hb⟩ := c.ex
  refine ⟨fun pins s σ H Q I ⟨δ, r, h⟩ => ?_, fun δ P P' g h => ha.mono _ _ _ (fun ds ⟨q0, q⟩ => ⟨q0, c.ms _ _ _ g q⟩) h⟩
  refine wpAny_Call_Name_kw (ld_glob I hg hm ?_ hdb)
  refine PySem.W.callWith_K (h₀ := X.base) I.ok.mod.kin hk (thn (ha.pa pos pins s σ H (fun vs H1 => Same H H1 ∧ ∃ ds, Dvs X.K H1 vs ds ∧ (∃ C gs, D.exc ea C gs ∈ ds) ∧ sd ds (kD X.K H Q)) I ⟨δ, r, ha.mono _ _ _ (fun ds q vs H1 s1 dv => ⟨s1, ds, dv, q⟩) h⟩) fun us s1 ⟨vs, H1, I1, r1, sm, ds, dv, ⟨C, gs, q0⟩, q⟩ => ⟨I1.kIn, ?_⟩) he hpl
  obtain ⟨dx, rd⟩ := exc_in dv q0
  refine run_fnU (Q' := backX X.K (kD X.K H Q)) F (hr.mono hj) (hand_frz hA I1.hok rd) hb I1 r1 ⟨ds, (dv.rd fun b u hu z => z.frz I1.hok hu), c.ms _ _ _ (fun d q v H' dv => ⟨d, dv, q⟩) q⟩ ?_
  rintro v H' rd ⟨d, dv, q⟩
  exact q v _ (sm.trans (thaw_same _ _)) (dv.rd rd)
end
end DC

set_option maxHeartbeats 1000000
namespace L2
open PySem PySem.Spec PyProof.Rows
section
variable {prog : Program} {w : World} {A : Around} {E : Value → Shared → Prop} {s : Shared}
end
end L2

set_option maxHeartbeats 4000000
namespace L2
open PySem PySem.Spec PyProof.Rows
structure ExcGet (K : PySem.W.Frag) (C : Addr) : Prop where
  ga : PySem.W.findIn K (.ref C) "__getattribute__" = some (some (.builtin "BaseException.__getattribute__"))
  na : PySem.W.findIn K (.ref C) "__getattr__" = some none
  be : PySem.W.mroIn K C (.type "BaseException") = some true
section
variable {prog : Program} {w : World} {A : Around} {E : Value → Shared → Prop} {s : Shared} {K : PySem.W.Frag} {x C : Addr} {ox : Obj} {od : Option Obj} {name : Str} {tk : Tok}
theorem check_ga {Q : Unit → Shared → Prop} {nv : Value} (X : K.In s.heap) (I : PySem.W.InstAt s.heap x ox C od) (g : ExcGet K C) (hq : Q () s) : wpAny (model prog w) A (checkBuiltinCall "BaseException.__getattribute__" ⟨[.ref x, nv], []⟩) Q E s := by
  have hk : builtinKind "BaseException.__getattribute__" = some .slot := by decide +kernel
  have hsplit : splitId "BaseException.__getattribute__" = some ("BaseException", "__getattribute__") := by decide +kernel
  have ha := PySem.F.args_bexc_ga (.ref x) nv
  have L0 := I.type (M := model prog w)
  have L1 := PySem.W.looks_mroIn (M := model prog w) X g.be
  simp only [checkBuiltinCall, hk, hsplit]
  unfold isInstance
  refine wpAny_bind (wpAny_bind (L0.at (L1.at ?_)))
  unfold argsOk at ha
  simp only [Bool.not_true, Bool.false_eq_true, if_false]
  generalize Manifest.signature? "BaseException.__getattribute__" = o at ha ⊢
  cases o with
  | none => exact wpAny_pure hq
  | some sig =>
    have ha' : Bind.checkArgs "BaseException.__getattribute__" sig { pos := [Value.ref x, nv] } = pure () := ha
    show wpAny _ _ (Bind.checkArgs "BaseException.__getattribute__" sig { pos := [Value.ref x, nv] }) _ _ _
    rw [ha']
    exact wpAny_pure hq
theorem own_bind {fin : Fin → Shared → Prop} {g a : Value} (X : K.In s.heap) (I : PySem.W.InstAt s.heap x ox C od) (hf : PySem.W.findObj K C od name = some (.bind g a)) (h : wpAny (model prog w) A (call g [a, .ref x, .ref C]) (fun v s' => fin (.done (.ret v)) s') E s) : wpAny (model prog w) A (Builtin.«object.__getattribute__» ⟨[.ref x, .str name tk], []⟩) fin E s := by
  have L0 := I.type (M := model prog w)
  have L1 := PySem.W.looks_find (M := model prog w) X I hf
  refine wpAny_bind (wpAny_pure (wpAny_bind (wpAny_pure (wpAny_bind (L0.at (wpAny_bind (L1.at ?_)))))))
  show wpAny _ _ (holding [a] (call g [a, .ref x, .ref C]) >>= ret) _ _ _
  exact wpAny_bind (wpAny_holding (wpAny_mono h (fun v s' z => wpAny_pure z) fun _ _ z => z))
theorem by_exc {fill expr : Bool} {Q : Value → Shared → Prop} (X : K.In s.heap) (I : PySem.W.InstAt s.heap x ox C od) (g : ExcGet K C)
    (h : wpAny (model prog w) A.in1 (Builtin.«object.__getattribute__» ⟨[.ref x, .str name tk], []⟩) (fun fin s' => match fin with | .done (.ret v) => wpAny (model prog w) A (handedOut v) Q E s' | _ => False) (fun _ _ => False) s) :
    wpAny (model prog w) A (getAttrBy (.ref x) (.str name tk) fill expr) Q E s := by
  have L0 := I.type (M := model prog w)
  have L1 := PySem.W.looks_findIn (M := model prog w) X g.ga
  have L2 := PySem.W.looks_findIn (M := model prog w) X g.na
  have f3 := PySem.F.attr_ValueError.ga.bind (.ref x)
  have hx0 : (expr && onTheHeap (Value.builtin "BaseException.__getattribute__")) = false := by cases expr <;> rfl
  have hx2 : (Value.builtin "BaseException.__getattribute__" == Value.builtin "object.__getattribute__") = false := by decide +kernel
  have hx1 : (onTheHeap (Value.ref C) && Value.builtin "BaseException.__getattribute__" == Value.builtin "object.__getattribute__") = false := by rw [hx2]; rfl
  unfold getAttrBy
  refine wpAny_holding (wpAny_bind (L0.at (wpAny_bind (L1.at ?_))))
  simp only [hx1]
  show wpAny _ _ (getAttrByItsOwn (.ref x) (.str name tk) (.ref C) (.builtin "BaseException.__getattribute__") fill expr) _ _ _
  unfold getAttrByItsOwn hookBefore
  refine wpAny_bind (L2.at (wpAny_bind (wpAny_attempt (wpAny_holding ?_))))
  unfold callGetattribute
  rw [hx0]
  show wpAny _ _ (boundAndCalled _ _ _) _ _ _
  unfold boundAndCalled
  rw [f3]
  refine wpAny_bind (wpAny_pure (wpAny_call (codeAny_call_builtin PySem.F.attr_ValueError.ga.plain PySem.F.entry_bexc_ga (check_ga X I g (wpAny_mono h (fun fin s' z => ?_) fun _ _ z => z.elim)))))
  rcases fin with (_ | _ | _ | _) | _ <;> first | exact z | exact z.elim
theorem cls_exc {Q : Option Value → Shared → Prop} (X : K.In s.heap) (I : PySem.W.InstAt s.heap x ox C od) (g : ExcGet K C) (hf : PySem.W.findObj K C od "__class__" = some (.bind (.builtin "getset_descriptor.__get__") (.builtin "object.__class__"))) (hm : PySem.W.mroIn K C (.type "object") = some true) (h : Q (some (.ref C)) { s with toks := s.toks + 1 }) : wpAny (model prog w) A (getAttr? (.ref x) "__class__") Q E s := by
  obtain ⟨hp, gg, d, t, os⟩ := s
  unfold getAttr? getAttrBy?
  refine wpAny_bind (wpAny_mkText (wpAny_bind (wpAny_attempt (by_exc (s := ⟨hp, gg, d, t + 1, os⟩) X I g (own_bind (s := ⟨hp, gg, d, t + 1, os⟩) X I hf (wpAny_call (PySem.W.class_get (s := ⟨hp, gg, d, t + 1, os⟩) (ox := ox) (od := od) X I hm ?_)))))))
  exact PySem.W.handed_on rfl (wpAny_pure h)
end
end L2

set_option maxHeartbeats 1000000
namespace L2
open PySem PySem.Spec PyProof.Rows
structure ExcTy (K : PySem.W.Frag) (C : Addr) : Prop where
  pg : ExcGet K C
  cl : (PySem.W.clsIn K C).isSome = true
  ha : PySem.W.findIn K (.ref C) "__class__" = some (some (.builtin "object.__class__"))
  hn : PySem.W.specialIn K (.builtin "object.__class__") "__get__" = some (some (.builtin "getset_descriptor.__get__"))
  htk : PySem.W.takesIn K (.builtin "object.__class__") = some true
  hm : PySem.W.mroIn K C (.type "object") = some true
theorem ExcTy.look {K : PySem.W.Frag} {C : Addr} (t : ExcTy K C) : ∃ c d cd sl, K.lookup C = some ⟨c, d, .cls cd, sl⟩ := by
  obtain ⟨cd, a⟩ := Option.isSome_iff_exists.mp t.cl
  unfold PySem.W.clsIn at a
  split at a
  · exact ⟨_, _, _, _, by assumption⟩
  · cases a
theorem kitx_exc {K : PySem.W.Frag} {x C : Addr} {ox : Obj} {od : Option Obj} (t : ExcTy K C) : PySem.W.KitX K (.ref x) (.ref C) (fun h => PySem.W.InstAt h x ox C od) where
  ty := fun _ _ _ I => I.type
  it := fun _ _ X _ A' Q' E' s' k q => by
    obtain ⟨c, d, cd, sl, ho⟩ := t.look
    unfold isType loadHead; exact wpAny_bind (wpAny_loadPart (k _ _ (X _ _ ho)) (wpAny_pure q))
  ne := fun h tp dd its n sl X htp => by
    obtain ⟨c, d, cd, sl', ho⟩ := t.look
    refine Bool.eq_false_iff.mpr fun q => ?_
    rw [← Value.ref.inj (beq_iff_eq.mp q), X _ _ ho] at htp
    cases htp
  ca := fun {prog w A E Q s} X I k => by
    obtain ⟨cd, hcd⟩ := Option.isSome_iff_exists.mp t.cl
    have hf : PySem.W.findObj K C od "__class__" = some (.bind (.builtin "getset_descriptor.__get__") (.builtin "object.__class__")) := by
      unfold PySem.W.findObj; rw [hcd, Option.bind_some, t.ha, Option.bind_some]; simp [t.hn, t.htk]
    exact cls_exc X I t.pg hf t.hm k
theorem exc_inst {P : Program} {w : World} {H : Hp} {h : Heap} {a C : Addr} {dx : Option Addr} {fs : List (Str × V)} (ok : HOk P w H h) (r : Rd H a (DC.ExcO a C dx)) (xd : DC.XDict H dx fs) : ∃ ox od, PySem.W.InstAt h a ox C od := by
  obtain ⟨⟨oe, vs, e1, hc, hdx, hd, _⟩, _⟩ := (show ObjOk P w H h a (DC.ExcO a C dx) from r.ok ok)
  cases dx with
  | none => exact ⟨oe, none, e1, hc, by unfold PySem.W.notCls; rw [hd], by rw [hdx]; exact True.intro⟩
  | some d =>
    obtain ⟨⟨mA, ⟨od, es, ep, e, c⟩, rr⟩, _⟩ := (show ObjOk P w H h d (DC.XdO d fs) from Rd.ok xd ok)
    exact ⟨oe, some od, e1, hc, by unfold PySem.W.notCls; rw [hd], by rw [hdx]; exact e⟩
theorem bools_of : ∀ {bs : List Bool} {us : List Value}, Vals (bs.map V.bl) us → us = bs.map Value.bool
  | [], _, .nil => rfl
  | b :: bs, _, .cons h r => by
    rw [List.map_cons, ← bools_of r]
    exact congrArg (· :: _) h
section
variable {X : Cx}
theorem mt_countT : MtR X "list.count" (fun x xs H Q => ∃ (a : Addr) (bs : List Bool), x = .ref a ∧ xs = [.bl true] ∧ SqL X.K H a (bs.map V.bl) ∧ Q (.int ((bs.countP id : Nat) : Int)) H) := by
  intro pins s σ H x xs v us Q I rx rs h
  obtain ⟨a, bs, rfl, rfl, hS, q⟩ := h
  cases rx
  obtain ⟨u, rfl, ru⟩ := rs.one
  cases (show u = Value.bool true from ru)
  obtain ⟨its, rv, ⟨o, n, e, ec, _, d⟩, _⟩ := I.list hS
  obtain ⟨oc, od, oda, osl⟩ := o
  cases (show oc = Value.type "list" from ec)
  cases (show oda = Data.seq its.toArray n from d)
  have ei := bools_of rv
  refine call_meets F.slot_list_count ⟨_, e, rfl⟩ F.entry_list_count (F.args_list_count_2 _ _) (SeqAt.list_countAt a its.toArray n od osl (.bool true) (fun y => y == Value.bool true)) ⟨e, fun y hy => ?_, ?_⟩
  · rw [ei] at hy
    obtain ⟨b, _, rfl⟩ := List.mem_map.mp (List.mem_toArray.mp hy)
    cases b <;> exact SeqAt.EqAt.bool_bool _ _
  · refine ⟨.int ((bs.countP id : Nat) : Int), H, I.tok _, ⟨s.toks, ?_⟩, q⟩
    rw [ei]
    congr 2
    rw [show (List.map Value.bool bs).toArray.toList = List.map Value.bool bs from rfl, List.countP_map]
    congr 1
    funext b
    cases b <;> rfl
theorem mt_indexT : MtR X "list.index" (fun x xs H Q => ∃ (a : Addr) (bs : List Bool) (j : Nat), x = .ref a ∧ xs = [.bl true] ∧ SqL X.K H a (bs.map V.bl) ∧ bs[j]? = some true ∧ (∀ m, m < j → bs[m]? = some false) ∧ j < 1000 ∧ Q (.int (j : Int)) H) := by
  intro pins s σ H x xs v us Q I rx rs h
  obtain ⟨a, bs, j, rfl, rfl, hS, h1, h2, h3, q⟩ := h
  cases rx
  obtain ⟨u, rfl, ru⟩ := rs.one
  cases (show u = Value.bool true from ru)
  obtain ⟨its, rv, ⟨o, n, e, ec, _, d⟩, _⟩ := I.list hS
  obtain ⟨oc, od, oda, osl⟩ := o
  cases (show oc = Value.type "list" from ec)
  cases (show oda = Data.seq its.toArray n from d)
  have ei := bools_of rv
  subst ei
  have hj : j < bs.length := (List.getElem?_eq_some_iff.mp h1).1
  refine call_meets F.slot_list_index ⟨_, e, rfl⟩ F.entry_list_index (F.args_list_index_2 _ _) (SeqAt.list_indexAt a _ n od osl (.bool true) (fun y => y == Value.bool true) j (by simpa using hj) (by omega) ?_ ?_) ⟨e, fun y hy => ?_, ?_⟩
  · have z := (List.getElem?_eq_some_iff.mp h1).2
    simp [z]
  · intro m hm hmj
    have z := (List.getElem?_eq_some_iff.mp (h2 m hmj)).2
    simp [z]
  · obtain ⟨b, _, rfl⟩ := List.mem_map.mp (List.mem_toArray.mp hy)
    cases b <;> exact SeqAt.EqAt.bool_bool _ _
  · exact ⟨.int (j : Int), H, I.tok _, ⟨s.toks, rfl⟩, q⟩
end
end L2
namespace DC
open PySem PySem.Spec PyProof.Rows L2
section
variable {X : Cx} {o e : Expr} {es : List Expr} {te to : ED} {t : AD} {pos p p2 apos cpos : Pos}
theorem call_isiE {c : Value} {vc : V} (rc : ∀ u, RelV vc u → u = c) : CallR X (.builtin "isinstance") (fun xs H Q => ∃ x a C gs b, xs = [x, vc] ∧ Dv X.K H x (.exc a C gs) ∧ ExcTy X.K C ∧ PySem.W.kitOne X.K (.ref C) c = some b ∧ Q (.bl b) H) := by
  intro pins s σ H xs us Q I r h
  obtain ⟨x, a, C, gs, b, rfl, dv, ty, e, q⟩ := h
  obtain ⟨u, w', rfl, r1, r2⟩ := vals2 r
  obtain rfl := rc w' r2
  cases dv with
  | exc h1 h2 h3 =>
    cases (show u = Value.ref a from r1)
    obtain ⟨ox, od, J⟩ := exc_inst I.hok h1 h2
    exact PySem.W.kia_one (kitx_exc (ox := ox) (od := od) ty) I.kIn J e (fun z => nomatch z) fun tk => ⟨.bl b, H, I.tok _, rfl, q⟩
def vIsiE (K : PySem.W.Frag) (c : Value) (te : ED) : ED := fun δ Q => te δ fun d => ∃ a C gs b, d = .exc a C gs ∧ ExcTy K C ∧ PySem.W.kitOne K (.ref C) c = some b ∧ Q (.bl b)
theorem d_isiE_of {c : Value} {vc : V} (he : PD X e te) {ec : Expr} (hp : PE X (.Call (.Name "isinstance" p) [e, ec] [] pos) (tCB (fun xs H Q => ∃ x a C gs b, xs = [x, vc] ∧ Dv X.K H x (.exc a C gs) ∧ ExcTy X.K C ∧ PySem.W.kitOne X.K (.ref C) c = some b ∧ Q (.bl b) H) (tCons (oE X.K te) (tCons (tC vc) tNil)))) :
    PD X (.Call (.Name "isinstance" p) [e, ec] [] pos) (vIsiE X.K c te) :=
  ⟨hp.imp fun σ H Q ⟨δ, r, h⟩ => ⟨δ, r, he.mono _ _ _ (fun d ⟨a, C, gs, b, ed, ty, ek, k⟩ v H1 s1 dv => ⟨v, a, C, gs, b, rfl, ed ▸ dv, ty, ek, k _ H1 s1 (.bl _)⟩) h⟩, fun δ P P' g h => he.mono _ _ _ (fun d ⟨a, C, gs, b, ed, ty, ek, k⟩ => ⟨a, C, gs, b, ed, ty, ek, g _ k⟩) h⟩
theorem d_isiEC (K : PySem.W.Frag) (hK : X.K = K) {C : Addr} {x : Str} (he : PD X e te) (hg : Gl X "isinstance") (hm : X.mg "isinstance" = none) (hg2 : Gl X x) (hm2 : X.mg x = some (.ref C)) (hd : (x == ("__debug__" : Str)) = false := by decide)
    (hs : starEach [e, .Name x p2] X.env = (false, eval e X.env) :: starEach [.Name x p2] X.env := by rfl) : PD X (.Call (.Name "isinstance" p) [e, .Name x p2] [] pos) (vIsiE K (.ref C) te) := by
  subst hK
  exact d_isiE_of (vc := .ref C) he (pe_callB (call_isiE fun u z => z) hg hm boot_isinstance (pa_cons he.pe (pa_cons (pe_glob (v := .ref C) hg2 hm2 rfl hd) pa_nil) hs) (he := hs))
theorem d_isiET (K : PySem.W.Frag) (hK : X.K = K) {T : String} {x : Str} (he : PD X e te) (hg : Gl X "isinstance") (hm : X.mg "isinstance" = none) (hg2 : Gl X x) (hm2 : X.mg x = none) (hv2 : bootBuiltins x = some (.type T)) (hn : x ≠ "__name__" := by decide) (hd : (x == ("__debug__" : Str)) = false := by decide)
    (hs : starEach [e, .Name x p2] X.env = (false, eval e X.env) :: starEach [.Name x p2] X.env := by rfl) : PD X (.Call (.Name "isinstance" p) [e, .Name x p2] [] pos) (vIsiE K (.type T) te) := by
  subst hK
  exact d_isiE_of (vc := .ty T) he (pe_callB (call_isiE fun u z => z) hg hm boot_isinstance (pa_cons he.pe (pa_cons (pe_bltn (v := .ty T) hg2 hm2 hv2 rfl hn hd) pa_nil) hs) (he := hs))
theorem vals_blx {K : PySem.W.Frag} {H : Hp} : ∀ {vs : List V} {bs : List Bool}, Dvs K H vs (bs.map D.bl) → vs = bs.map V.bl
  | [], [], _ => rfl
  | _, _ :: _, .cons (.bl _) r => by rw [vals_blx r]; rfl
def vCountT (to : ED) (t : AD) : ED := fun δ Q => to δ fun d => ∃ bs : List Bool, d = .lst (bs.map D.bl) ∧ t δ fun ds => ds = [.bl true] ∧ Q (.int ((bs.countP id : Nat) : Int))
theorem d_countT (ho : PD X o to) (ha : PAd X (e :: es) t) (hbase : attributeBase o "count" X.env (eval o X.env) = eval o X.env := by rfl)
    (hfew : ((backTo cpos (starEach (e :: es) X.env)).all (fun x => !x.1) && (backToKw cpos (keywordEach [] X.env)).all (fun x => x.1.isSome) && decide ((e :: es).length + ([] : List Keyword).length + (if ([] : List Keyword).isEmpty then 0 else 1) < 30)) = true := by rfl)
    (hline : (apos.endLine == cpos.line) = true := by rfl) (hs : starEach (e :: es) X.env = (false, eval e X.env) :: starEach es X.env := by rfl) (hplain : (backTo cpos (starEach es X.env)).any (·.1) = false := by rfl) :
    PD X (.Call (.Attribute o "count" apos) (e :: es) [] cpos) (vCountT to t) := by
  refine ⟨(pe_bm PySem.F.plainAttrs_list PySem.F.slot_list_count PySem.F.type_list_count mt_countT ho.pe ha.pa hbase hfew hline hs hplain).imp fun σ H Q ⟨δ, r, h⟩ => ⟨δ, r, ho.mono _ _ _ (fun z ⟨bs, ez, q⟩ v H1 s1 dv => ?_) h⟩,
    fun δ P P' g h => ho.mono _ _ _ (fun z ⟨bs, ez, q⟩ => ⟨bs, ez, ha.mono _ _ _ (fun ds ⟨e1, k⟩ => ⟨e1, g _ k⟩) q⟩) h⟩
  subst ez
  cases dv with
  | lst h1 h2 =>
    rw [vals_blx h2] at h1
    refine ⟨.inl ⟨rfl, _, h1⟩, δ, r.same s1, ha.mono _ _ _ (fun ds ⟨e1, k⟩ vs H2 s2 dvs => ?_) q⟩
    subst e1
    cases dvs with
    | cons a b =>
      cases a
      cases b
      exact ⟨_, bs, rfl, rfl, s2.seq h1, k _ _ (s1.trans s2) (.int _)⟩
def vIndexT (to : ED) (t : AD) : ED := fun δ Q => to δ fun d => ∃ bs : List Bool, d = .lst (bs.map D.bl) ∧ t δ fun ds => ds = [.bl true] ∧ ∃ j : Nat, bs[j]? = some true ∧ (∀ m, m < j → bs[m]? = some false) ∧ j < 1000 ∧ Q (.int (j : Int))
theorem d_indexT (ho : PD X o to) (ha : PAd X (e :: es) t) (hbase : attributeBase o "index" X.env (eval o X.env) = eval o X.env := by rfl)
    (hfew : ((backTo cpos (starEach (e :: es) X.env)).all (fun x => !x.1) && (backToKw cpos (keywordEach [] X.env)).all (fun x => x.1.isSome) && decide ((e :: es).length + ([] : List Keyword).length + (if ([] : List Keyword).isEmpty then 0 else 1) < 30)) = true := by rfl)
    (hline : (apos.endLine == cpos.line) = true := by rfl) (hs : starEach (e :: es) X.env = (false, eval e X.env) :: starEach es X.env := by rfl) (hplain : (backTo cpos (starEach es X.env)).any (·.1) = false := by rfl) :
    PD X (.Call (.Attribute o "index" apos) (e :: es) [] cpos) (vIndexT to t) := by
  refine ⟨(pe_bm PySem.F.plainAttrs_list PySem.F.slot_list_index PySem.F.type_list_index mt_indexT ho.pe ha.pa hbase hfew hline hs hplain).imp fun σ H Q ⟨δ, r, h⟩ => ⟨δ, r, ho.mono _ _ _ (fun z ⟨bs, ez, q⟩ v H1 s1 dv => ?_) h⟩,
    fun δ P P' g h => ho.mono _ _ _ (fun z ⟨bs, ez, q⟩ => ⟨bs, ez, ha.mono _ _ _ (fun ds ⟨e1, j, k1, k2, k3, k⟩ => ⟨e1, j, k1, k2, k3, g _ k⟩) q⟩) h⟩
  subst ez
  cases dv with
  | lst h1 h2 =>
    rw [vals_blx h2] at h1
    refine ⟨.inl ⟨rfl, _, h1⟩, δ, r.same s1, ha.mono _ _ _ (fun ds ⟨e1, j, k1, k2, k3, k⟩ vs H2 s2 dvs => ?_) q⟩
    subst e1
    cases dvs with
    | cons a b =>
      cases a
      cases b
      exact ⟨_, bs, j, rfl, rfl, s2.seq h1, k1, k2, k3, k _ _ (s1.trans s2) (.int _)⟩
end
end DC

set_option maxHeartbeats 1000000
namespace L2
open PySem PySem.Spec PyProof.Rows
open Builtin Builtin.ObjectAttr
section
variable {prog : Program} {w : World} {A : Around} {E : Value → Shared → Prop} {s : Shared} {K : PySem.W.Frag} {x C : Addr} {R : Result → Shared → Prop} {name : Str} {v : Value} {o : Obj}
end
end L2

set_option maxHeartbeats 1000000
namespace L2
open PySem PySem.Spec PyProof.Rows
open DC (ExcO XdO)
section
variable {X : Cx} {pins : List (Addr × Obj)} {σ : St} {H : Hp} {s : Shared} {a C d : Addr} {f : Str} {v : V} {u : Value} {Q : Unit → Shared → Prop} {E : Value → Shared → Prop} {A : Around} {fs : List (Str × V)} {p : Array Value → Prop}
end
end L2

set_option maxHeartbeats 1000000
namespace L2
open PySem PySem.Spec PyProof.Rows
open DC (ExcO XdO)
section
variable {prog : Program} {w : World} {A : Around} {E : Value → Shared → Prop} {h : Heap} {g : Array GenState} {d : Drawn} {t : Nat} {os : OsState}
variable {nm q : Str} {C N : Addr} {bs bm : List Value} {hdct : Bool} {sn : List Str} {sub : List Value} {ab : Bool} {col : Option Bool} {dd : Option Addr} {k0 k1 k2 k3 k5 : Option Value}
end
end L2

set_option maxHeartbeats 1000000
namespace DC
open PySem PySem.Spec PyProof.Rows L2
section
variable {X : Cx} {x p f : Str} {j : Nat} {pa pv pos pos' : Pos}
end
section
variable {P : Program} {w : World} {K : PySem.W.Frag} {mg : Str → Option Value} {base : Heap}
end
section
variable {X : Cx} {e : Expr} {es : List Expr} {t : AD} {pos p : Pos} {x : Str} {j k : Nat} {C : Addr} {fl : List Str}
end
end DC

set_option maxHeartbeats 1000000
namespace DC
open PySem PySem.Spec PyProof.Rows L2
section
variable {X : Cx} {c e : Expr} {es : List Expr} {body : List Stmt} {uc : TD} {te : ED} {tb : TSD} {g : TGD} {pos tp : Pos} {k : Nat}
end
theorem roomU_units {k : Nat} {A : Around} (r : RoomU k A) : A.units + 64 < cLine := by have := r.un; omega
end DC

set_option maxHeartbeats 4000000
namespace DC
open PySem PySem.Spec PyProof.Rows L2
section
variable {X : Cx} {a b : Expr} {rest : List Expr} {pos : Pos} {ta tb : TE}
end
section
variable {X : Cx} {a b : Expr} {rest : List Expr} {pos : Pos} {ta tb : ED}
end
end DC

set_option maxHeartbeats 4000000
namespace L2
open PySem PySem.Spec PyProof.Rows
section
variable {X : Cx} {pins : List (Addr × Obj)} {σ : St} {H : Hp} {s : Shared} {a C d : Addr} {t : Heap → Prop}
end
section
variable {prog : Program} {w : World} {A : Around} {E : Value → Shared → Prop} {s : Shared} {K : PySem.W.Frag} {env : Env}
end
end L2
namespace DC
open PySem PySem.Spec PyProof.Rows L2
section
variable {X : Cx} {e : Expr} {es : List Expr} {t : AD} {pos cpos p : Pos} {x : Str} {j k : Nat} {C : Addr} {fl : List Str} {xk : SD → XR}
end
end DC

set_option maxHeartbeats 4000000
namespace L2
open PySem PySem.Spec PyProof.Rows
section
variable {X : Cx} {e1 : Expr} {ta : TA} {p pos tp : Pos} {elts : List Expr} {c : Nat}
end
end L2
namespace DC
open PySem PySem.Spec PyProof.Rows L2
section
variable {X : Cx} {e1 : Expr} {ta : AD} {p pos tp : Pos} {elts : List Expr} {c : Nat}
end
end DC

set_option maxHeartbeats 4000000
namespace DC
open PySem PySem.Spec PyProof.Rows L2
section
variable {X : Cx} {scope : Scope} {cl : List (Str × Addr)} {x y : Str} {cn : List Str} {caps : List Nat} {elt iter : Expr} {ifs : List Expr} {ti : AD} {tt : TD} {te : ED} {pos px py tp : Pos} {c : Nat} {R : XR}
end
end DC

set_option maxHeartbeats 4000000
namespace DC
open PySem PySem.Spec PyProof.Rows L2
section
variable {X : Cx} {o i : Expr} {pos : Pos} {td ty : ED}
end
end DC

set_option maxHeartbeats 4000000
namespace DC
open PySem PySem.Spec PyProof.Rows L2
section
variable {X : Cx} {rest : List Stmt} {st : Stmt} {t : TMD}
end
section
variable {K : PySem.W.Frag} {H : Hp} {μ : Mu} {L : List Addr} {a : Addr} {vs ys : List (Key × V)} {ds : List (Key × D)}
end
section
variable {K : PySem.W.Frag} {H : Hp}
end
section
variable {X : Cx} {e ke : Expr} {te tk : ED} {i : Nat} {x : Str} {p pos pos' : Pos}
end
end DC

set_option maxHeartbeats 4000000
namespace DC
open PySem PySem.Spec PyProof.Rows L2
section
variable {X : Cx} {scope : Scope} {cl : List (Str × Addr)} {x : Str} {cn : List Str} {caps : List Nat} {elt tg iter : Expr} {ifs : List Expr} {ti : AD} {tt : TD} {te : ED} {pos : Pos}
end
section
variable {X : Cx} {e ke : Expr} {te tk : ED} {i : Nat} {x : Str} {p pos pos' : Pos}
end
def sdTuple : SpD := fun ds Q => ∃ xs, (ds = [.lst xs] ∨ ds = [.tup xs]) ∧ Q (.tup xs)
theorem m_tuple : MonoS sdTuple := fun ds P P' g ⟨xs, e, q⟩ => ⟨xs, e, g _ q⟩
theorem does_tuple {K : PySem.W.Frag} : DoesB K (fun xs H Q => ∃ p ys, xs = [.ref p] ∧ ((SqL K H p ys ∧ ∀ l, H l = none → Q (.ref l) (upd H l (.tup ys))) ∨ (SqT K H p ys ∧ Q (.ref p) H))) sdTuple := by
  intro H vs ds Q dvs ⟨xs, e, q⟩
  rcases e with e | e
  · subst e
    cases dvs with
    | cons dv r =>
      cases r
      cases dv with
      | lst h1 h2 => exact ⟨_, _, rfl, .inl ⟨h1, fun l hl => q _ _ (same_upd hl) (.tup (SqT.of upd_same) (h2.same (same_upd hl)))⟩⟩
  · subst e
    cases dvs with
    | cons dv r =>
      cases r
      cases dv with
      | tup h1 h2 => exact ⟨_, _, rfl, .inr ⟨h1, q _ H (Same.refl _) (.tup h1 h2)⟩⟩
theorem boot_dict : bootBuiltins "dict" = some (.type "dict") := by decide +kernel
section
variable {X : Cx} {o e : Expr} {es : List Expr} {t : AD} {to te : ED} {pos p p1 p2 tp apos cpos : Pos}
theorem d_tuple_of (hg : Gl X "tuple") (hm : X.mg "tuple" = none) (ha : PAd X (e :: es) t) (h1 : starEach (e :: es) X.env = (false, eval e X.env) :: starEach es X.env := by rfl) (h2 : (backTo pos (starEach es X.env)).any (·.1) = false := by rfl) : PD X (.Call (.Name "tuple" p) (e :: es) [] pos) (vB sdTuple t) := d_cb (pe_callTy call_tuple_of hg hm boot_tuple ha.pa (he := h1) (hpl := h2)) ha.mono does_tuple m_tuple
end
section
variable {X : Cx} {a b : Expr} {ta tb : ED} {pos : Pos} {k : Nat}
end
end DC

set_option maxHeartbeats 4000000
namespace L2
open PySem PySem.Spec PyProof.Rows
open AutoSeq1 (wpAny_loadPart')
section
variable {prog : Program} {w : World} {A : Around} {E : Value → Shared → Prop} {s : Shared}
end
section
variable {X : Cx} {e1 : Expr} {ta : TA} {p pos tp : Pos} {elts : List Expr} {c : Nat}
end
end L2
namespace DC
open PySem PySem.Spec PyProof.Rows L2
section
variable {X : Cx} {e1 : Expr} {ta : AD} {p pos tp : Pos} {elts : List Expr} {c : Nat}
end
end DC

set_option maxHeartbeats 4000000
namespace DC
open PySem PySem.Spec PyProof.Rows L2
section
variable {P : Program} {w : World} {K : PySem.W.Frag} {mg : Str → Option Value} {base : Heap}
end
section
variable {X : Cx} {scope : Scope} {cl : List (Str × Addr)} {x : Str} {cn : List Str} {caps : List Nat} {elt tg iter : Expr} {ifs : List Expr} {ti : AD} {tt : TD} {te : ED} {pos : Pos}
end
end DC

set_option maxHeartbeats 4000000
namespace K11
open PySem PySem.Spec PyProof.Rows L2 DC
def top (i : Nat) : Stmt := PySem.Challenge.pw_runrows_k11_lines.main.body.getD i (.Pass ⟨0, 0, 0, 0⟩)
def cbody : Stmt → List Stmt
  | .ClassDef _ _ _ b _ _ _ _ _ _ _ => b
  | _ => []
theorem scM {N P : List Str} {sc : Scope} (a : sc.kind = .function := by rfl) (b : sc.isCoroutine = false := by rfl) (c : sc.isGenerator = false := by rfl) (d : N.Nodup := by decide +kernel) (e : N.take P.length = P := by rfl)
    (f : ∀ x ∈ P, sc.names.lookup x = some .local ∨ sc.names.lookup x = some .cell := by decide +kernel) (g : ∀ y ∈ sc.names, y.2 ≠ .free := by decide +kernel) : FnScope N P sc := ⟨a, b, c, d, e, f, g⟩
abbrev s_has_letters : Stmt := top 21
theorem sc_has_letters : FnScope ["text"] ["text"] (defScope s_has_letters) := scM
abbrev s_has_word_form : Stmt := top 22
theorem sc_has_word_form : FnScope ["text"] ["text"] (defScope s_has_word_form) := scM
abbrev s_is_word : Stmt := top 23
theorem sc_is_word : FnScope ["thing"] ["thing"] (defScope s_is_word) := scM
abbrev s_is_name : Stmt := top 24
theorem sc_is_name : FnScope ["thing", "words"] ["thing"] (defScope s_is_name) := scM
abbrev s_is_number : Stmt := top 25
theorem sc_is_number : FnScope ["thing"] ["thing"] (defScope s_is_number) := scM
abbrev s_is_value : Stmt := top 26
theorem sc_is_value : FnScope ["thing"] ["thing"] (defScope s_is_value) := scM
abbrev s_need_name : Stmt := top 32
theorem sc_need_name : FnScope ["name"] ["name"] (defScope s_need_name) := scM
abbrev s_need_sheet : Stmt := top 41
theorem sc_need_sheet : FnScope ["holds", "words"] ["holds", "words"] (defScope s_need_sheet) := scM
abbrev s_need_word : Stmt := top 42
theorem sc_need_word : FnScope ["word"] ["word"] (defScope s_need_word) := scM
abbrev s_need_on : Stmt := top 43
theorem sc_need_on : FnScope ["on"] ["on"] (defScope s_need_on) := scM
abbrev s_is_plain_kind : Stmt := top 44
theorem sc_is_plain_kind : FnScope ["kind"] ["kind"] (defScope s_is_plain_kind) := scM
abbrev s_is_stretch : Stmt := top 45
theorem sc_is_stretch : FnScope ["kind"] ["kind"] (defScope s_is_stretch) := scM
abbrev s_has_shape : Stmt := top 58
theorem sc_has_shape : FnScope ["told"] ["told"] (defScope s_has_shape) := scM
abbrev s_plain_by : Stmt := top 59
theorem sc_plain_by : FnScope ["told", "inner", "word"] ["told", "inner"] (defScope s_plain_by) := scM
abbrev s_many_within : Stmt := top 61
theorem sc_many_within : FnScope ["told"] ["told"] (defScope s_many_within) := scM
abbrev s_part_of : Stmt := top 62
theorem sc_part_of : FnScope ["told", "inner"] ["told"] (defScope s_part_of) := scM
abbrev s__law_cell_at : Stmt := top 64
theorem sc__law_cell_at : FnScope ["_law_script", "_law_k"] ["_law_script", "_law_k"] (defScope s__law_cell_at) := scM
abbrev s__law_mixed : Stmt := top 65
theorem sc__law_mixed : FnScope ["_law_cell", "_law_k", "_law_mix"] ["_law_cell", "_law_k"] (defScope s__law_mixed) := scM
abbrev s__law_same : Stmt := top 68
theorem sc__law_same : FnScope ["_law_found", "_law_due_here"] ["_law_found", "_law_due_here"] (defScope s__law_same) := scM
abbrev s__law_marks : Stmt := top 69
theorem sc__law_marks : FnScope ["_law_e", "_law_marks_here", "_law_words"] ["_law_e"] (defScope s__law_marks) := scM
abbrev s__law_is_word : Stmt := top 70
theorem sc__law_is_word : FnScope ["_law_text", "_law_fixed"] ["_law_text"] (defScope s__law_is_word) := scM
abbrev s__law_is_lettered : Stmt := top 71
theorem sc__law_is_lettered : FnScope ["_law_text", "_law_sign"] ["_law_text"] (defScope s__law_is_lettered) := scM
abbrev s__law_is_name : Stmt := top 72
theorem sc__law_is_name : FnScope ["_law_text", "_law_words"] ["_law_text"] (defScope s__law_is_name) := scM
abbrev s__law_odd_name : Stmt := top 73
theorem sc__law_odd_name : FnScope ["_law_mix", "_law_some"] ["_law_mix"] (defScope s__law_odd_name) := scM
abbrev s__law_name : Stmt := top 74
theorem sc__law_name : FnScope ["_law_mix"] ["_law_mix"] (defScope s__law_name) := scM
abbrev s__law_kind : Stmt := top 75
theorem sc__law_kind : FnScope ["_law_mix", "_law_way", "_law_low", "_law_high"] ["_law_mix"] (defScope s__law_kind) := scM
abbrev s__law_due : Stmt := top 76
theorem sc__law_due : FnScope ["_law_names", "_law_module", "_law_sheet", "_law_name_here"] ["_law_names", "_law_module", "_law_sheet"] (defScope s__law_due) := scM
abbrev s__law_is_kind : Stmt := top 77
theorem sc__law_is_kind : FnScope ["_law_kind_here", "_law_only"] ["_law_kind_here", "_law_only"] (defScope s__law_is_kind) := scM
abbrev s__law_right : Stmt := top 78
theorem sc__law_right : FnScope ["_law_cell", "_law_name_here", "_law_on", "_law_kind_here", "_law_names", "_law_way", "_law_parts", "_law_binds", "_law_module", "_law_due_here", "_law_module_good", "_law_found", "_law_e"] ["_law_cell"] (defScope s__law_right) := scM
abbrev s_law : Stmt := top 79
theorem sc_law : FnScope ["_law_script", "_law_k"] ["_law_script"] (defScope s_law) := scM
abbrev s_Given___init__ : Stmt := (cbody (top 34)).getD 0 (.Pass ⟨0, 0, 0, 0⟩)
theorem sc_Given___init__ : FnScope ["self", "value"] ["self", "value"] (defScope s_Given___init__) := scM
abbrev s_Given_told : Stmt := (cbody (top 34)).getD 2 (.Pass ⟨0, 0, 0, 0⟩)
theorem sc_Given_told : FnScope ["self"] ["self"] (defScope s_Given_told) := scM
abbrev s_Named___init__ : Stmt := (cbody (top 35)).getD 0 (.Pass ⟨0, 0, 0, 0⟩)
theorem sc_Named___init__ : FnScope ["self", "name"] ["self", "name"] (defScope s_Named___init__) := scM
abbrev s_Named_told : Stmt := (cbody (top 35)).getD 4 (.Pass ⟨0, 0, 0, 0⟩)
theorem sc_Named_told : FnScope ["self"] ["self"] (defScope s_Named_told) := scM
abbrev s_Input___init__ : Stmt := (cbody (top 46)).getD 0 (.Pass ⟨0, 0, 0, 0⟩)
theorem sc_Input___init__ : FnScope ["self", "name", "kind", "on"] ["self", "name", "kind", "on"] (defScope s_Input___init__) := scM
abbrev s_Row___init__ : Stmt := (cbody (top 47)).getD 0 (.Pass ⟨0, 0, 0, 0⟩)
theorem sc_Row___init__ : FnScope ["self", "name", "kind", "part", "on"] ["self", "name", "kind", "part", "on"] (defScope s_Row___init__) := scM
abbrev s_Use___init__ : Stmt := (cbody (top 48)).getD 0 (.Pass ⟨0, 0, 0, 0⟩)
theorem sc_Use___init__ : FnScope ["self", "binds", "module", "parts", "on", "name"] ["self", "binds", "module", "parts", "on"] (defScope s_Use___init__) := scM
end K11

set_option maxHeartbeats 4000000
namespace K11
open PySem PySem.Spec PyProof.Rows L2 DC
inductive Pt where
  | given (v : D) | named (n : Str)
structure Adr where
  given : Addr
  named : Addr
def Pt.cls (A : Adr) : Pt → Addr
  | .given _ => A.given | .named _ => A.named
def Pt.d (A : Adr) : Pt → D
  | .given v => .obj A.given [("value", v)]
  | .named n => .obj A.named [("name", .str n)]
def Pt.depth : Pt → Nat
  | .given _ => 1 | .named _ => 1
def Pt.size : Pt → Nat
  | .given _ => 1 | .named _ => 1
def Pt.told : Pt → D
  | .given v => .tup [.str "given", v]
  | .named n => .tup [.str "named", .str n]
structure AOk (K : PySem.W.Frag) (A : Adr) : Prop where
  nd : A.given ≠ A.named
  cl : ∀ C ∈ [A.given, A.named], Cls K C
  nof : ∀ C ∈ [A.given, A.named], ∀ f ∈ (["value", "name"] : List Str), NoAttr K C f
theorem Pt.cls_in (A : Adr) (p : Pt) : p.cls A ∈ [A.given, A.named] := by cases p <;> simp [Pt.cls]
theorem is_given {K : PySem.W.Frag} {A : Adr} (hA : AOk K A) {p : Pt} (h : p.cls A = A.given) : ∃ v, p = .given v := by
  cases p with
  | given v => exact ⟨v, rfl⟩
  | named n => exact absurd h.symm hA.nd
theorem is_named {K : PySem.W.Frag} {A : Adr} (hA : AOk K A) {p : Pt} (h : p.cls A = A.named) : ∃ n, p = .named n := by
  cases p with
  | given v => exact absurd h hA.nd
  | named n => exact ⟨n, rfl⟩
def sdP (A : Adr) (n : Nat) (g : Pt → D) (C : Addr) : SpD := fun ds Q => ∃ p : Pt, ds = [p.d A] ∧ p.cls A = C ∧ p.depth ≤ n ∧ Q (g p)
theorem m_P {A : Adr} {n : Nat} {g : Pt → D} {C : Addr} : MonoS (sdP A n g C) := fun ds P P' f ⟨p, e, c, h, q⟩ => ⟨p, e, c, h, f _ q⟩
theorem l_P {A : Adr} {n : Nat} {g : Pt → D} {C : Addr} (ds : List D) (Q : D → Prop) (h : sdP A n g C ds Q) : ds.length = 1 := by obtain ⟨p, e, _⟩ := h; rw [e]; rfl
def isP (A : Adr) (C : Addr) : Prop := ∃ p : Pt, p.cls A = C
def noM (m : Str) : Prop := ∀ f ∈ (["value", "name"] : List Str), (m == f) = false
theorem no_meth (A : Adr) {m : Str} (h : noM m) (p : Pt) : ∃ gs, p.d A = .obj (p.cls A) gs ∧ gs.lookup m = none := by
  have l : ∀ {f : Str} {d : D} {r : List (Str × D)}, f ∈ (["value", "name"] : List Str) → r.lookup m = none → ((f, d) :: r).lookup m = none := fun hf hr => by
    rw [List.lookup_cons, h _ hf]
    exact hr
  cases p <;> refine ⟨_, rfl, ?_⟩ <;> repeat (first | rfl | refine l (by decide) ?_)
theorem vFld_of {K : PySem.W.Frag} {δ : SD} {i : Nat} {C : Addr} {gs : List (Str × D)} {f : Str} {r : D} {Q : D → Prop} (h : δ[i]? = some (some (.obj C gs))) (c : Cls K C) (n : NoAttr K C f) (l : gs.lookup f = some r) (q : Q r) : vFld K (vVar i) f δ Q := ⟨_, h, C, gs, r, rfl, c, n, l, q⟩
theorem m_fld {K : PySem.W.Frag} {i : Nat} {f : Str} : MonoE (vFld K (vVar i) f) := fun δ P P' g ⟨d, h, C, gs, r, ed, hc, hn, hl, k⟩ => ⟨d, h, C, gs, r, ed, hc, hn, hl, g _ k⟩
theorem vMeth_of {A : Adr} {n : Nat} {g : Pt → D} {m : Str} {ta : ED} {δ : SD} {p : Pt} {Q : D → Prop} (mt : MonoE ta) (hm : noM m) (h : ta δ fun d => d = p.d A) (hd : p.depth ≤ n) (q : Q (g p)) :
    vMeth (isP A) m (sdP A n g) [] ta aNil δ Q := mt _ _ _ (fun d e => by
  obtain ⟨gs, e1, e2⟩ := no_meth A hm p
  exact ⟨p.cls A, gs, e.trans e1, e2, ⟨p, rfl⟩, p, by rw [List.append_nil, e], rfl, hd, q⟩) h
theorem noM_told : noM "told" := by unfold noM; decide +kernel
def isVal (d : D) : Prop := (∃ b, d = .bl b) ∨ ∃ i : Int, d = .int i ∧ -128 ≤ i ∧ i ≤ 127
section
seal wpAny
variable {P : Program} {w : World} {K : PySem.W.Frag} {mg : Str → Option Value} {base : Heap} {A : Adr} {n j : Nat}
abbrev MP (P : Program) (w : World) (K : PySem.W.Frag) (mg : Str → Option Value) (base : Heap) (A : Adr) (j : Nat) (m : Str) (n : Nat) (g : Pt → D) : Prop := ∀ C, isP A C → Mcal P w K mg base j C m (sdP A n g C) []
theorem told_given (hA : AOk K A) (d : Dm K A.given "told" "Given.told" s_Given_told ["self"]) : Mcal P w K mg base (j + 1) A.given "told" (sdP A (n + 1) Pt.told A.given) [] := by
  refine d.cal sc_Given_told m_P l_P (fun f cdv A outer s H E hr => have hu := hr.units; have hh := hr.hd; have sc := sc_Given_told
    (ss_one (s_ret (d_tup (a_cons d_str (a_cons (d_fldK K rfl (dv 0) (by rfl)) a_nil)))))) ?_
  rintro ds Q ⟨p, rfl, hc, hd, q⟩
  have c := hA.cl _ (Pt.cls_in A p)
  have no := hA.nof _ (Pt.cls_in A p)
  obtain ⟨v, rfl⟩ := is_given hA hc
  exact vFld_of rfl c (no _ (by decide)) (by kernel_rfl) ⟨(show 2 ≤ sizeLine by decide), q⟩
theorem told_named (hA : AOk K A) (d : Dm K A.named "told" "Named.told" s_Named_told ["self"]) : Mcal P w K mg base (j + 1) A.named "told" (sdP A (n + 1) Pt.told A.named) [] := by
  refine d.cal sc_Named_told m_P l_P (fun f cdv A outer s H E hr => have hu := hr.units; have hh := hr.hd; have sc := sc_Named_told
    (ss_one (s_ret (d_tup (a_cons d_str (a_cons (d_fldK K rfl (dv 0) (by rfl)) a_nil)))))) ?_
  rintro ds Q ⟨p, rfl, hc, hd, q⟩
  have c := hA.cl _ (Pt.cls_in A p)
  have no := hA.nof _ (Pt.cls_in A p)
  obtain ⟨s, rfl⟩ := is_named hA hc
  simp only [Pt.depth] at hd
  exact (vFld_of rfl c (no _ (by decide)) (by kernel_rfl) ⟨(show 2 ≤ sizeLine by decide), q⟩)
structure DTold (K : PySem.W.Frag) (A : Adr) : Prop where
  given : Dm K A.given "told" "Given.told" s_Given_told ["self"]
  named : Dm K A.named "told" "Named.told" s_Named_told ["self"]
theorem told_all (hA : AOk K A) (d : DTold K A) : MP P w K mg base A 1 "told" 1 Pt.told := fun C ⟨p, e⟩ => by
  subst e
  cases p
  · exact told_given hA d.given
  · exact told_named hA d.named
end
end K11

set_option maxHeartbeats 4000000
namespace K11
open PySem PySem.Spec PyProof.Rows L2 DC
structure GI (mg : Str → Option Value) (x : Str) (i : Int) : Prop where
  ex : ∃ t, mg x = some (.int i t)
def sdNum : SpD := fun ds Q => ∃ i : Int, ds = [.int i] ∧ Q (.bl (decide (-128 ≤ i) && decide (i ≤ 127)))
def sdVal : SpD := fun ds Q => (∃ i : Int, ds = [.int i] ∧ Q (.bl (decide (-128 ≤ i) && decide (i ≤ 127)))) ∨ ∃ b, ds = [.bl b] ∧ Q (.bl true)
theorem m_var {i : Nat} : MonoE (vVar i) := fun δ P P' f ⟨d, hd, k⟩ => ⟨d, hd, f d k⟩
def okB (p : Pt) : Prop := p.depth ≤ 10 ∧ p.size ≤ 40
section
seal wpAny
variable {P : Program} {w : World} {K : PySem.W.Frag} {mg : Str → Option Value} {base : Heap} {A : Adr} {n j : Nat}
theorem c_is_number (d : Df K mg "is_number" s_is_number ["thing"]) (n_isinstance : mg "isinstance" = none) (n_bool : mg "bool" = none) (n_int : mg "int" = none) (g1 : GI mg "LOWEST" (-128)) (g2 : GI mg "HIGHEST" 127) : Cal P w K mg base (j + 1) "is_number" ["thing"] sdNum := by
  obtain ⟨t1, q_LOWEST⟩ := g1.ex
  obtain ⟨t2, q_HIGHEST⟩ := g2.ex
  have r_LOWEST : RelV (.int (-128)) (.int (-128) t1) := ⟨_, rfl⟩
  have r_HIGHEST : RelV (.int 127) (.int 127 t2) := ⟨_, rfl⟩
  have v_LOWEST : ∀ H, Dv K H (.int (-128)) (.int (-128)) := fun _ => .int _
  have v_HIGHEST : ∀ H, Dv K H (.int 127) (.int 127) := fun _ => .int _
  refine d.cal sc_is_number (fun ds P P' g ⟨i, e, q⟩ => ⟨i, e, g _ q⟩) (fun ds Q ⟨d, e, _⟩ => by rw [e]; rfl) (fun f cdv A outer s H E hr => have hu := hr.units; have hh := hr.hd; have sc := sc_is_number
    (ss_cons (s_if (PWd.td (w_or (t_tru (isi_bool (by rfl) n_isinstance (by rfl) n_bool (dv 0))) (w_or1 (t_not (t_tru (isi_int (by rfl) n_isinstance (by rfl) n_int (dv 0))))))) (ss_one (s_ret d_bl)) ss_nil)
  (ss_one (s_ret (d_lele (d_glob (by rfl) q_LOWEST r_LOWEST v_LOWEST) (dv 0) (d_glob (by rfl) q_HIGHEST r_HIGHEST v_HIGHEST)))))) ?_
  rintro ds Q ⟨i, rfl, q⟩
  refine ⟨_, rfl, false, rfl, _, rfl, iteF ⟨_, rfl, true, rfl, _, rfl, iteF ⟨_, rfl, _, rfl, ?_⟩⟩⟩
  by_cases h : (-128 : Int) ≤ i
  · rw [decide_eq_true h] at q ⊢
    exact iteT q
  · rw [decide_eq_false h] at q ⊢
    exact iteF q
theorem c_is_value (d : Df K mg "is_value" s_is_value ["thing"]) (n_isinstance : mg "isinstance" = none) (n_bool : mg "bool" = none) (c_is_number : Cal P w K mg base j "is_number" ["thing"] sdNum) : Cal P w K mg base (j + 1) "is_value" ["thing"] sdVal := by
  refine d.cal sc_is_value (fun ds P P' g h => h.elim (fun ⟨i, e, q⟩ => .inl ⟨i, e, g _ q⟩) fun ⟨i, e, q⟩ => .inr ⟨i, e, g _ q⟩) (fun ds Q h => h.elim (fun ⟨d, e, _⟩ => by rw [e]; rfl) fun ⟨d, e, _⟩ => by rw [e]; rfl) (fun f cdv A outer s H E hr => have hu := hr.units; have hh := hr.hd; have sc := sc_is_value
    (ss_one (s_ret (d_or (isi_bool (by rfl) n_isinstance (by rfl) n_bool (dv 0)) (d_one (d_cal c_is_number hr (by omega) (by rfl) (a_cons (dv 0) a_nil))))))) ?_
  rintro ds Q (⟨i, rfl, q⟩ | ⟨b, rfl, q⟩)
  · exact ⟨_, rfl, false, rfl, _, rfl, iteF ⟨_, rfl, i, rfl, q⟩⟩
  · exact ⟨_, rfl, true, rfl, _, rfl, iteT q⟩
theorem init_given (hc : Cls K A.given) (hn : NoAttr K A.given "value") (d : Di K mg "Given" A.given "Given.__init__" s_Given___init__ ["self", "value"] []) (c_is_value : Cal P w K mg base j "is_value" ["thing"] sdVal) :
    Mkr P w K mg base (j + 1) "Given" A.given (fun ds Q => ∃ v, ds = [v] ∧ isVal v ∧ Q [("value", v)]) [] := by
  refine d.mkr sc_Given___init__ (fun ds P P' g ⟨v, e, h, q⟩ => ⟨v, e, h, g _ q⟩) (fun ds Q ⟨v, e, _⟩ => by rw [e]; rfl) (fun f cdv A outer s H E hr => have hu := hr.units; have hh := hr.hd; have sc := sc_Given___init__
    (i_cons (i_free (s_if (t_not (t_tru (d_cal c_is_value hr (by omega) (by rfl) (a_cons (dv 1) a_nil)))) (ss_one s_never) ss_nil))
  (i_cons (i_setK K rfl rfl (Or.inl rfl) (dv 1))
  i_nil))) ?_
  rintro a ds Q ⟨v, rfl, hv, q⟩
  rcases hv with ⟨b, rfl⟩ | ⟨i, rfl, h1, h2⟩
  · exact ⟨_, rfl, .inr ⟨b, rfl, _, rfl, ⟨_, rfl, rfl, hc, hn, (by decide), q⟩⟩⟩
  · refine ⟨_, rfl, .inl ⟨i, rfl, true, by simp [truD, h1, h2], ⟨_, rfl, rfl, hc, hn, (by decide), q⟩⟩⟩
end
end K11

set_option maxHeartbeats 4000000
namespace K11
open PySem PySem.Spec PyProof.Rows L2 DC
theorem putD_len (f : Str) (d : D) : ∀ gs : FD, (putD f d gs).length ≤ gs.length + 1
  | [] => Nat.le_refl _
  | (g, e) :: r => by
    unfold putD
    split
    · exact Nat.le_succ _
    · exact Nat.succ_le_succ (putD_len f d r)
theorem pl0 : ([] : FD).length < 1000 := by decide
theorem pl1 {f : Str} {d : D} : (putD f d []).length < 1000 := Nat.lt_of_le_of_lt (putD_len f d []) (by decide)
theorem pl2 {f g : Str} {d e : D} : (putD f d (putD g e [])).length < 1000 := Nat.lt_of_le_of_lt (Nat.le_trans (putD_len f d _) (Nat.succ_le_succ (putD_len g e []))) (by decide)
end K11

set_option maxHeartbeats 4000000
namespace K11
open PySem PySem.Spec PyProof.Rows L2 DC
theorem in_strs (n : Str) (l : List Str) : inD (.str n) (l.map D.str) = l.contains n := by
  unfold inD
  rw [List.any_map, List.contains_eq_any_beq]
  congr 1
  funext x
  show (x == n) = (n == x)
  exact Bool.beq_comm
theorem flat_strs (l : List Str) : (l.map D.str).all flatD = true := by
  rw [List.all_eq_true]
  intro d hd
  obtain ⟨x, _, rfl⟩ := List.mem_map.mp hd
  rfl
def letters : Str := "abcdefghijklmnopqrstuvwxyz"
def signs (x : Str) : List Str := x.cps.toList.map fun c => ⟨#[c]⟩
def inL (c : Str) : Bool := subStr c letters
def letB (x : Str) : Bool := decide ((0 : Int) < (x.length : Int)) && (signs x).all inL
def formB (x : Str) : Bool := decide ((x.length : Int) ≤ 8) && letB x
def keptL : List Str := ["module", "in", "out", "row", "use", "end", "number", "truth", "on", "yes", "no", "not", "and", "or", "if", "before", "then", "when", "held"]
def wordB (x : Str) : Bool := formB x && !keptL.contains x
def dot : Str := "."
def nameB (x : Str) : Bool := if decide (((Txt.split x dot).length : Int) = 1) = true then wordB x else decide (((Txt.split x dot).length : Int) ≤ 4) && (Txt.split x dot).all formB
structure GD (K : PySem.W.Frag) (mg : Str → Option Value) (x : Str) (d : D) : Prop where
  ex : ∃ v u, mg x = some u ∧ RelV v u ∧ ∀ H, Dv K H v d
def sdS (g : Str → D) : SpD := fun ds Q => ∃ x : Str, ds = [.str x] ∧ x.length ≤ 100000 ∧ Q (g x)
theorem m_S {g : Str → D} : MonoS (sdS g) := fun ds P P' f ⟨x, e, h, q⟩ => ⟨x, e, h, f _ q⟩
theorem l_S {g : Str → D} (ds : List D) (Q : D → Prop) (h : sdS g ds Q) : ds.length = 1 := by obtain ⟨x, e, _⟩ := h; rw [e]; rfl
theorem str_len {x : Str} (h : x.length ≤ 100000) : x.length ≤ sizeLine := Nat.le_trans h (by decide)
theorem castB {Q : D → Prop} {a b : Bool} (e : a = b) (q : Q (.bl a)) : Q (.bl b) := e ▸ q
theorem le_sum : ∀ {l : List Nat} {a : Nat}, a ∈ l → a ≤ l.sum
  | b :: l, a, h => by
    rw [List.sum_cons]
    rcases List.mem_cons.mp h with rfl | h
    · exact Nat.le_add_right _ _
    · exact Nat.le_trans (le_sum h) (Nat.le_add_left _ _)
def gLet : D → D
  | .str z => .bl (inL z)
  | _ => .non
def gForm : D → D
  | .str z => .bl (formB z)
  | _ => .non
section
seal wpAny
variable {P : Program} {w : World} {K : PySem.W.Frag} {mg : Str → Option Value} {base : Heap} {A : Adr} {n j : Nat}
theorem c_has_letters (d : Df K mg "has_letters" s_has_letters ["text"]) (n_len : mg "len" = none) (n_all : mg "all" = none) (gl : GD K mg "LETTERS" (.str letters)) : Cal P w K mg base (j + 1) "has_letters" ["text"] (sdS fun x => .bl (letB x)) := by
  obtain ⟨y_LETTERS, u_LETTERS, q_LETTERS, r_LETTERS, v_LETTERS⟩ := gl.ex
  refine d.cal sc_has_letters m_S l_S (fun f cdv A outer s H E hr => have hu := hr.units; have hh := hr.hd; have sc := sc_has_letters
    (ss_one (s_ret (d_and (d_gt (d_len (by rfl) n_len (a_cons (dv 0) a_nil)) d_int) (d_one (d_all hh (by rfl) n_all (a_cons (d_lc (x := "sign") (caps := []) (cn := []) (cl := []) (comp0 (by rfl) (by rfl) (by decide +kernel) (by decide +kernel) (by decide +kernel)) rfl (i_any (dv 0)) (fun C fp s₂ H₂ => pg_name (i := 0) (show (["sign"] : List Str).Nodup by decide +kernel) rfl (Or.inl rfl) (.inr rfl)) (fun C fp s₂ H₂ => ts_nil) (fun C fp s₂ H₂ => (d_in (dv 0) (d_glob (by rfl) q_LETTERS r_LETTERS v_LETTERS) (by rfl)))) a_nil))))))) ?_
  rintro ds Q ⟨x, rfl, hx, q⟩
  refine ⟨_, rfl, _, _, rfl, if_pos (str_len hx), _, rfl, ?_⟩
  cases h : decide ((0 : Int) < (x.length : Int)) with
  | false =>
    have e : letB x = false := by unfold letB; rw [h]; rfl
    exact iteF (castB e q)
  | true =>
    have e : letB x = ((signs x).map inL).all id := by unfold letB; rw [h, List.all_map]; rfl
    refine iteT ⟨_, rfl, _, rfl, mO gLet (x.cps.toList.map fun c => .str ⟨#[c]⟩), mO_len, fun i d o h1 h2 => ?_, ?_, ?_⟩
    · obtain ⟨hd, rfl⟩ := mO_at h1 h2
      obtain ⟨c, _, rfl⟩ := List.mem_map.mp hd
      exact ⟨rfl, fun _ => ⟨_, rfl, _, rfl, rfl⟩⟩
    · rw [List.length_map, Array.length_toList]
      exact Nat.lt_of_le_of_lt hx (by decide)
    · rw [mO_out]
      refine ⟨(signs x).map inL, ?_, castB e q⟩
      unfold signs
      rw [List.map_map, List.map_map, List.map_map]
      rfl
theorem c_has_word_form (d : Df K mg "has_word_form" s_has_word_form ["text"]) (n_len : mg "len" = none) (g : GI mg "LONGEST_WORD" 8) (c_has_letters : Cal P w K mg base j "has_letters" ["text"] (sdS fun x => .bl (letB x))) :
    Cal P w K mg base (j + 1) "has_word_form" ["text"] (sdS fun x => .bl (formB x)) := by
  obtain ⟨t1, q_LONGEST_WORD⟩ := g.ex
  have r_LONGEST_WORD : RelV (.int 8) (.int 8 t1) := ⟨_, rfl⟩
  have v_LONGEST_WORD : ∀ H, Dv K H (.int 8) (.int 8) := fun _ => .int _
  refine d.cal sc_has_word_form m_S l_S (fun f cdv A outer s H E hr => have hu := hr.units; have hh := hr.hd; have sc := sc_has_word_form
    (ss_one (s_ret (d_and (d_le (d_len (by rfl) n_len (a_cons (dv 0) a_nil)) (d_glob (by rfl) q_LONGEST_WORD r_LONGEST_WORD v_LONGEST_WORD)) (d_one (d_cal c_has_letters hr (by omega) (by rfl) (a_cons (dv 0) a_nil))))))) ?_
  rintro ds Q ⟨x, rfl, hx, q⟩
  refine ⟨_, rfl, _, _, rfl, if_pos (str_len hx), _, rfl, ?_⟩
  cases h : decide ((x.length : Int) ≤ 8) with
  | false =>
    have e : formB x = false := by unfold formB; rw [h]; rfl
    exact iteF (castB e q)
  | true =>
    have e : formB x = letB x := by unfold formB; rw [h]; rfl
    exact iteT ⟨_, rfl, x, rfl, hx, castB e q⟩
theorem c_is_word (d : Df K mg "is_word" s_is_word ["thing"]) (gk : GD K mg "KEPT_WORDS" (.tup (keptL.map D.str))) (c_has_word_form : Cal P w K mg base j "has_word_form" ["text"] (sdS fun x => .bl (formB x))) :
    Cal P w K mg base (j + 1) "is_word" ["thing"] (sdS fun x => .bl (wordB x)) := by
  obtain ⟨y_KEPT_WORDS, u_KEPT_WORDS, q_KEPT_WORDS, r_KEPT_WORDS, v_KEPT_WORDS⟩ := gk.ex
  refine d.cal sc_is_word m_S l_S (fun f cdv A outer s H E hr => have hu := hr.units; have hh := hr.hd; have sc := sc_is_word
    (ss_one (s_ret (d_and (d_cal c_has_word_form hr (by omega) (by rfl) (a_cons (dv 0) a_nil)) (d_one (d_notin (dv 0) (d_glob (by rfl) q_KEPT_WORDS r_KEPT_WORDS v_KEPT_WORDS) (by rfl))))))) ?_
  rintro ds Q ⟨x, rfl, hx, q⟩
  refine ⟨_, rfl, x, rfl, hx, _, rfl, ?_⟩
  cases h : formB x with
  | false =>
    have e : wordB x = false := by unfold wordB; rw [h]; rfl
    exact iteF (castB e q)
  | true =>
    have e : wordB x = !inD (.str x) (keptL.map D.str) := by unfold wordB; rw [h, in_strs]; rfl
    exact iteT ⟨_, rfl, rfl, flat_strs _, castB e q⟩
theorem c_is_name (d : Df K mg "is_name" s_is_name ["thing"]) (n_len : mg "len" = none) (n_all : mg "all" = none) (g : GI mg "MOST_WORDS" 4) (c_is_word : Cal P w K mg base j "is_word" ["thing"] (sdS fun x => .bl (wordB x)))
    (c_has_word_form : Cal P w K mg base j "has_word_form" ["text"] (sdS fun x => .bl (formB x))) : Cal P w K mg base (j + 1) "is_name" ["thing"] (sdS fun x => .bl (nameB x)) := by
  obtain ⟨t1, q_MOST_WORDS⟩ := g.ex
  have r_MOST_WORDS : RelV (.int 4) (.int 4 t1) := ⟨_, rfl⟩
  have v_MOST_WORDS : ∀ H, Dv K H (.int 4) (.int 4) := fun _ => .int _
  refine d.cal sc_is_name m_S l_S (fun f cdv A outer s H E hr => have hu := hr.units; have hh := hr.hd; have sc := sc_is_name
    (ss_cons (s_set (i := 1) sc.nd rfl (Or.inl rfl) (d_split (dv 0) (a_cons d_str a_nil)))
  (ss_cons (s_if (t_eq hu (d_len (by rfl) n_len (a_cons (dv 1) a_nil)) d_int) (ss_one (s_ret (d_cal c_is_word hr (by omega) (by rfl) (a_cons (dv 0) a_nil)))) ss_nil)
  (ss_one (s_ret (d_and (d_le (d_len (by rfl) n_len (a_cons (dv 1) a_nil)) (d_glob (by rfl) q_MOST_WORDS r_MOST_WORDS v_MOST_WORDS)) (d_one (d_all hh (by rfl) n_all (a_cons (d_lc (x := "word") (caps := []) (cn := []) (cl := []) (comp0 (by rfl) (by rfl) (by decide +kernel) (by decide +kernel) (by decide +kernel)) rfl (i_any (dv 1)) (fun C fp s₂ H₂ => pg_name (i := 0) (show (["word"] : List Str).Nodup by decide +kernel) rfl (Or.inl rfl) (.inr rfl)) (fun C fp s₂ H₂ => ts_nil) (fun C fp s₂ H₂ => (d_cal c_has_word_form hr (by omega) (by rfl) (a_cons (dv 0) a_nil)))) a_nil))))))))) ?_
  rintro ds Q ⟨x, rfl, hx, q⟩
  have hs := split_le x dot
  refine ⟨_, rfl, ⟨x, rfl⟩, x, dot, rfl, rfl, rfl, Nat.le_trans (Nat.add_le_add_right hx 2) (by decide), ?_⟩
  refine ⟨_, rfl, _, _, rfl, rfl, _, rfl, ?_⟩
  show if decide ((((Txt.split x dot).map D.str).length : Int) = 1) = true then _ else _
  rw [List.length_map]
  cases h : decide (((Txt.split x dot).length : Int) = 1) with
  | true =>
    have e : nameB x = wordB x := by unfold nameB; rw [h]; rfl
    exact iteT ⟨_, rfl, x, rfl, hx, castB e q⟩
  | false =>
    refine iteF ⟨_, rfl, _, _, rfl, rfl, _, rfl, ?_⟩
    show if decide ((((Txt.split x dot).map D.str).length : Int) ≤ 4) = true then _ else _
    rw [List.length_map]
    cases h2 : decide (((Txt.split x dot).length : Int) ≤ 4) with
    | false =>
      have e : nameB x = false := by unfold nameB; rw [h, h2]; rfl
      exact iteF (castB e q)
    | true =>
      have e : nameB x = ((Txt.split x dot).map formB).all id := by unfold nameB; rw [h, h2, List.all_map]; rfl
      refine iteT ⟨_, rfl, _, rfl, mO gForm ((Txt.split x dot).map D.str), mO_len, fun i d o h1 h2 => ?_, ?_, ?_⟩
      · obtain ⟨hd, rfl⟩ := mO_at h1 h2
        obtain ⟨c, hc, rfl⟩ := List.mem_map.mp hd
        refine ⟨rfl, fun _ => ⟨_, rfl, c, rfl, ?_, rfl⟩⟩
        have hw := split_weight x dot (by decide)
        have hc2 : c.length ∈ (Txt.split x dot).map (·.length) := List.mem_map.mpr ⟨c, hc, rfl⟩
        have := le_sum hc2
        have hp := split_pos x dot
        omega
      · rw [List.length_map]
        exact Nat.lt_of_le_of_lt hs (Nat.lt_of_le_of_lt (Nat.add_le_add_right hx 2) (by decide))
      · rw [mO_out]
        refine ⟨(Txt.split x dot).map formB, ?_, castB e q⟩
        rw [List.map_map, List.map_map]
        rfl
def sdNm : SpD := fun ds Q => ∃ x : Str, ds = [.str x] ∧ x.length ≤ 100000 ∧ nameB x = true ∧ Q .non
theorem c_need_name (d : Df K mg "need_name" s_need_name ["name"]) (c_is_name : Cal P w K mg base j "is_name" ["thing"] (sdS fun x => .bl (nameB x))) : Cal P w K mg base (j + 1) "need_name" ["name"] sdNm := by
  refine d.cal sc_need_name (fun ds P P' f ⟨x, e, h, z, q⟩ => ⟨x, e, h, z, f _ q⟩) (fun ds Q ⟨x, e, _⟩ => by rw [e]; rfl) (fun f cdv A outer s H E hr => have hu := hr.units; have hh := hr.hd; have sc := sc_need_name
    (ss_one (s_if (t_not (t_tru (d_cal c_is_name hr (by omega) (by rfl) (a_cons (dv 0) a_nil)))) (ss_one s_never) ss_nil))) ?_
  rintro ds Q ⟨x, rfl, hx, hn, q⟩
  exact ⟨_, rfl, x, rfl, hx, true, congrArg some hn, iteF q⟩
end
end K11

set_option maxHeartbeats 4000000
namespace K11
open PySem PySem.Spec PyProof.Rows L2 DC
def okNm (x : Str) : Prop := nameB x = true ∧ x.length ≤ 100 ∧ PyData.strOk x = true
section
seal wpAny
variable {P : Program} {w : World} {K : PySem.W.Frag} {mg : Str → Option Value} {base : Heap} {A : Adr} {n j : Nat}
theorem init_named (hA : AOk K A) (d : Di K mg "Named" A.named "Named.__init__" s_Named___init__ ["self", "name"] []) (c_need_name : Cal P w K mg base j "need_name" ["name"] sdNm) :
    Mkr P w K mg base (j + 1) "Named" A.named (fun ds Q => ∃ x : Str, ds = [.str x] ∧ okNm x ∧ Q [("name", .str x)]) [] := by
  have hc := hA.cl A.named (by simp)
  have hn := hA.nof A.named (by simp)
  refine d.mkr sc_Named___init__ (fun ds P P' g ⟨v, e, h, q⟩ => ⟨v, e, h, g _ q⟩) (fun ds Q ⟨v, e, _⟩ => by rw [e]; rfl) (fun f cdv A outer s H E hr => have hu := hr.units; have hh := hr.hd; have sc := sc_Named___init__
    (i_cons (i_free (s_expr (d_cal c_need_name hr (by omega) (by rfl) (a_cons (dv 1) a_nil))))
  (i_cons (i_setK K rfl rfl (Or.inl rfl) (dv 1))
  i_nil))) ?_
  rintro a ds Q ⟨x, rfl, ⟨h1, h2, h3⟩, q⟩
  exact ⟨_, rfl, x, rfl, Nat.le_trans h2 (by decide), h1, _, rfl, rfl, hc, hn _ (by decide), (by first | exact pl0 | exact pl1 | exact pl2), q⟩
end
end K11

-- gen set deadb plain_by:2 plain_by:ret part_of:0 part_of:ret
set_option maxHeartbeats 4000000
namespace K11
open PySem PySem.Spec PyProof.Rows L2 DC
def sh (a b : Int) : D := .tup [.int a, .int b]
def shapesT : List (Str × D) := [("given", sh 2 0), ("named", sh 2 0), ("not", sh 2 1), ("if", sh 4 3), ("before", sh 3 1), ("then", sh 3 2), ("when", sh 3 1), ("held", sh 4 1)]
def Pt.ok : Pt → Prop
  | .given v => isVal v
  | .named s => okNm s
def sdTd (ok : Pt → Prop) (g : Pt → D) : SpD := fun ds Q => ∃ p : Pt, ds = [p.told] ∧ ok p ∧ Q (g p)
theorem m_Td {ok : Pt → Prop} {g : Pt → D} : MonoS (sdTd ok g) := fun ds P P' f ⟨p, e, h, q⟩ => ⟨p, e, h, f _ q⟩
theorem l_Td {ok : Pt → Prop} {g : Pt → D} (ds : List D) (Q : D → Prop) (h : sdTd ok g ds Q) : ds.length = 1 := by obtain ⟨x, e, _⟩ := h; rw [e]; rfl
def sdBy (A : Adr) : SpD := fun ds Q => ∃ p : Pt, ds = [p.told, .lst []] ∧ p.ok ∧ Q (p.d A)
def sdOf (A : Adr) (n : Nat) : SpD := fun ds Q => ∃ p : Pt, ds = [p.told] ∧ p.depth ≤ n ∧ p.ok ∧ okB p ∧ Q (p.d A)
theorem m_Of {A : Adr} {n : Nat} : MonoS (sdOf A n) := fun ds P P' f ⟨p, e, h, o, b, q⟩ => ⟨p, e, h, o, b, f _ q⟩
theorem m_By {A : Adr} : MonoS (sdBy A) := fun ds P P' f ⟨p, e, h, q⟩ => ⟨p, e, h, f _ q⟩
def sdNo : SpD := fun _ _ => False
section
seal wpAny
variable {P : Program} {w : World} {K : PySem.W.Frag} {mg : Str → Option Value} {base : Heap} {A : Adr} {n j : Nat}
theorem c_has_shape {sa : Addr} (d : Df K mg "has_shape" s_has_shape ["told"]) (n_len : mg "len" = none) (kd_SHAPES : KTd w K mg "SHAPES" sa shapesT) : Cal P w K mg base (j + 1) "has_shape" ["told"] (sdTd Pt.ok fun _ => .bl true) := by
  refine d.cal sc_has_shape m_Td l_Td (fun f cdv A outer s H E hr => have hu := hr.units; have hh := hr.hd; have sc := sc_has_shape
    (ss_one (s_ret (d_and (d_inK kd_SHAPES (by rfl) (d_ix (dv 0) d_int (fun _ _ => rfl))) (d_one (d_eq hu (d_len (by rfl) n_len (a_cons (dv 0) a_nil)) (d_ix (d_getK kd_SHAPES (by rfl) (d_ix (dv 0) d_int (fun _ _ => rfl)) (fun _ _ => rfl)) d_int (fun _ _ => rfl)))))))) ?_
  rintro ds Q ⟨p, rfl, ho, q⟩
  cases p with
  | given v => exact ⟨_, rfl, _, rfl, "given", rfl, true, congrArg D.bl (by decide +kernel), iteT ⟨_, rfl, _, _, rfl, rfl, _, rfl, _, rfl, "given", sh 2 0, rfl, (by kernel_rfl), _, rfl, q⟩⟩
  | named s => exact ⟨_, rfl, _, rfl, "named", rfl, true, congrArg D.bl (by decide +kernel), iteT ⟨_, rfl, _, _, rfl, rfl, _, rfl, _, rfl, "named", sh 2 0, rfl, (by kernel_rfl), _, rfl, q⟩⟩
theorem c_plain_by (d : Df K mg "plain_by" s_plain_by ["told", "inner"])
    {i : Nat} (hi : i + 1 ≤ j)
    (k_Given_1 : Mkr P w K mg base i "Given" A.given (fun ds Q => ∃ v, ds = [v] ∧ isVal v ∧ Q [("value", v)]) [])
    (k_Named_1 : Mkr P w K mg base i "Named" A.named (fun ds Q => ∃ x : Str, ds = [.str x] ∧ okNm x ∧ Q [("name", .str x)]) [])
    : Cal P w K mg base (j + 1) "plain_by" ["told", "inner"] (sdBy A) := by
  refine d.cal sc_plain_by m_By (fun ds Q ⟨x, e, _⟩ => by rw [e]; rfl) (fun f cdv A outer s H E hr => have hu := hr.units; have hh := hr.hd; have sc := sc_plain_by
    (ss_cons (s_set (i := 2) sc.nd rfl (Or.inl rfl) (d_ix (dv 0) d_int (fun _ _ => rfl)))
  (ss_cons (s_if (t_eq hu (dv 2) d_str) (ss_one (s_ret (d_mk k_Given_1 hr (by omega) (by rfl) (a_cons (d_ix (dv 0) d_int (fun _ _ => rfl)) a_nil)))) ss_nil)
  (ss_cons (s_if (t_eq hu (dv 2) d_str) (ss_one (s_ret (d_mk k_Named_1 hr (by omega) (by rfl) (a_cons (d_ix (dv 0) d_int (fun _ _ => rfl)) a_nil)))) ss_nil)
  (ss_cons (s_if (t_eq hu (dv 2) d_str) ss_never ss_nil)
  (ss_one s_never)))))) ?_
  rintro ds Q ⟨p, rfl, ho, q⟩
  cases p with
  | given v => exact ⟨_, rfl, _, rfl, ⟨_, rfl, true, congrArg D.bl (by decide +kernel), iteT ⟨_, rfl, _, rfl, v, rfl, ho, q⟩⟩⟩
  | named s => exact ⟨_, rfl, _, rfl, ⟨_, rfl, false, congrArg D.bl (by decide +kernel), iteF ⟨_, rfl, true, congrArg D.bl (by decide +kernel), iteT ⟨_, rfl, _, rfl, s, rfl, ho, q⟩⟩⟩⟩
theorem six1 (x : D) (xs : List D) : HT.sIx (x :: xs).length 0 (some 1) = 1 := by
  rw [show (1 : Int) = ((1 : Nat) : Int) from rfl, HT.sIx_nat, List.length_cons]
  omega
theorem nwhole {x : D} {xs : List D} {R : Prop} : ¬ (HT.sIx (x :: xs).length 0 (some 1) = 0 ∧ R) := fun z => by
  rw [six1] at z
  exact absurd z.1 (by decide)
theorem c_many_within {sa : Addr} (d : Df K mg "many_within" s_many_within ["told"]) (kd_SHAPES : KTd w K mg "SHAPES" sa shapesT) (c_has_shape : Cal P w K mg base j "has_shape" ["told"] (sdTd Pt.ok fun _ => .bl true)) : Cal P w K mg base (j + 1) "many_within" ["told"] (sdTd Pt.ok fun _ => .int 0) := by
  refine d.cal sc_many_within m_Td l_Td (fun f cdv A outer s H E hr => have hu := hr.units; have hh := hr.hd; have sc := sc_many_within
    (ss_one (s_ret (d_if (t_tru (d_cal c_has_shape hr (by omega) (by rfl) (a_cons (dv 0) a_nil))) (d_ix (d_getK kd_SHAPES (by rfl) (d_ix (dv 0) d_int (fun _ _ => rfl)) (fun _ _ => rfl)) d_int (fun _ _ => rfl)) d_int)))) ?_
  rintro ds Q ⟨p, rfl, ho, q⟩
  cases p with
  | given v => exact ⟨_, rfl, .given v, rfl, ho, _, rfl, iteT ⟨_, rfl, _, rfl, "given", sh 2 0, rfl, (by kernel_rfl), _, rfl, q⟩⟩
  | named s => exact ⟨_, rfl, .named s, rfl, ho, _, rfl, iteT ⟨_, rfl, _, rfl, "named", sh 2 0, rfl, (by kernel_rfl), _, rfl, q⟩⟩
theorem part_all (d : Df K mg "part_of" s_part_of ["told"]) (c_many_within : Cal P w K mg base j "many_within" ["told"] (sdTd Pt.ok fun _ => .int 0)) (c_has_shape : Cal P w K mg base j "has_shape" ["told"] (sdTd Pt.ok fun _ => .bl true))
    (c_part_of : Cal P w K mg base j "part_of" ["told"] sdNo)
    (c_plain_by : Cal P w K mg base j "plain_by" ["told", "inner"] (sdBy A))
    : Cal P w K mg base (j + 1) "part_of" ["told"] (sdOf A n) := by
  refine d.cal sc_part_of m_Of (fun ds Q ⟨x, e, _⟩ => by rw [e]; rfl) (fun f cdv A outer s H E hr => have hu := hr.units; have hh := hr.hd; have sc := sc_part_of
    (ss_cons (s_lc (i := 1) sc.nd rfl (Or.inl rfl) (x := "one") (caps := []) (cn := []) (cl := []) (comp0 (by rfl) (by rfl) (by decide +kernel) (by decide +kernel) (by decide +kernel)) rfl (i_any (d_slice (dv 0) (o_some d_int) (o_some (d_add d_int (d_cal c_many_within hr (by omega) (by rfl) (a_cons (dv 0) a_nil)))))) (fun C fp s₂ H₂ => pg_name (i := 0) (show (["one"] : List Str).Nodup by decide +kernel) rfl (Or.inl rfl) (.inr rfl)) (fun C fp s₂ H₂ => ts_nil) (fun C fp s₂ H₂ => (d_cal c_part_of hr (by omega) (by rfl) (a_cons (dv 0) a_nil))))
  (ss_cons (s_if (t_not (t_tru (d_cal c_has_shape hr (by omega) (by rfl) (a_cons (dv 0) a_nil)))) ss_never ss_nil)
  (ss_cons (s_if (t_in (d_ix (dv 0) d_int (fun _ _ => rfl)) (d_tup (a_ck (by rfl))) (by rfl)) (ss_one (s_ret (d_cal c_plain_by hr (by omega) (by rfl) (a_cons (dv 0) (a_cons (dv 1) a_nil))))) ss_nil)
  (ss_one s_never))))) ?_
  rintro ds Q ⟨p, rfl, hd, ho, hb, q⟩
  cases p with
  | given v =>
    refine ⟨_, rfl, _, rfl, _, rfl, .given v, rfl, ho, _, rfl, nwhole, [], rfl, [], rfl, (fun i d o h1 h2 => by cases h1), (by decide), ?_⟩
    exact ⟨_, rfl, .given v, rfl, ho, _, rfl, iteF ⟨_, rfl, _, rfl, (by decide), rfl, (by decide), true, congrArg D.bl (by decide +kernel), iteT ⟨_, rfl, _, rfl, .given v, rfl, ho, q⟩⟩⟩
  | named s =>
    refine ⟨_, rfl, _, rfl, _, rfl, .named s, rfl, ho, _, rfl, nwhole, [], rfl, [], rfl, (fun i d o h1 h2 => by cases h1), (by decide), ?_⟩
    exact ⟨_, rfl, .named s, rfl, ho, _, rfl, iteF ⟨_, rfl, _, rfl, (by decide), rfl, (by decide), true, congrArg D.bl (by decide +kernel), iteT ⟨_, rfl, _, rfl, .named s, rfl, ho, q⟩⟩⟩
end
end K11

set_option maxHeartbeats 4000000
namespace K11
open PySem PySem.Spec PyProof.Rows L2
theorem atI_in {α : Type} {xs : List α} {i : Int} (h0 : 0 ≤ i) (h1 : i < xs.length) : ∃ r, r ∈ xs ∧ L2.atI xs i = some r := by
  unfold L2.atI L2.ixN
  rw [if_pos h0, if_pos h1]
  have h : i.toNat < xs.length := by omega
  exact ⟨xs[i.toNat], List.getElem_mem h, by simp [List.getElem?_eq_getElem h]⟩
theorem atI_nat {α : Type} {xs : List α} {i : Nat} {x : α} (h : xs[i]? = some x) : L2.atI xs (i : Int) = some x := by
  unfold L2.atI L2.ixN
  have hl : i < xs.length := (List.getElem?_eq_some_iff.mp h).1
  rw [if_pos (by omega), if_pos (by omega), Int.toNat_natCast]
  exact h
end K11

set_option maxHeartbeats 4000000
namespace K11
open PySem PySem.Spec PyProof.Rows L2 DC
end K11

set_option maxHeartbeats 4000000
namespace K11
open PySem PySem.Spec PyProof.Rows L2 DC
def mix1 (c k : Int) : Int := (c + 7919 * k + 11) * 48271 % 2147483647
def mixed (c k : Int) : Int := (mix1 c k * mix1 c k + 40692 * mix1 c k) % 2147483399
theorem mix1_lt (c k : Int) : 0 ≤ mix1 c k ∧ mix1 c k < 2147483647 := ⟨Int.emod_nonneg _ (by decide), Int.emod_lt_of_pos _ (by decide)⟩
def sdMix : SpD := fun ds Q => ∃ c k : Int, ds = [.int c, .int k] ∧ Q (.int (mixed c k))
theorem m_Mix : MonoS sdMix := fun ds P P' f ⟨c, k, e, q⟩ => ⟨c, k, e, f _ q⟩
def sdCell : SpD := fun ds Q => ∃ (ns : List Int) (k : Nat), ds = [.lst (ns.map D.int), .int (k : Int)] ∧ k ≤ 10 ∧ ∀ c : Int, Q (.int c)
theorem cd {i j : Int} (h : 0 < j) (h2 : j < 1073741824) : CDiv i j := ⟨h, h2⟩
theorem mod_lo (a : Int) {b : Int} (h : 0 < b) : 0 ≤ a % b := Int.emod_nonneg _ (by omega)
theorem mod_hi (a : Int) {b : Int} (h : 0 < b) : a % b < b := Int.emod_lt_of_pos _ h
section
seal wpAny
variable {P : Program} {w : World} {K : PySem.W.Frag} {mg : Str → Option Value} {base : Heap} {A : Adr} {n j : Nat}
theorem c_mixed (d : Df K mg "_law_mixed" s__law_mixed ["_law_cell", "_law_k"]) : Cal P w K mg base (j + 1) "_law_mixed" ["_law_cell", "_law_k"] sdMix := by
  refine d.cal sc__law_mixed m_Mix (fun ds Q ⟨c, k, e, _⟩ => by rw [e]; rfl) (fun f cdv A outer s H E hr => have hu := hr.units; have hh := hr.hd; have sc := sc__law_mixed
    (ss_cons (s_set (i := 2) sc.nd rfl (Or.inl rfl) (d_mod (d_mul (d_add (d_add (dv 0) (d_mul d_int (dv 1))) d_int) d_int) d_int))
  (ss_one (s_ret (d_mod (d_add (d_mul (dv 2) (dv 2)) (d_mul d_int (dv 2))) d_int))))) ?_
  rintro ds Q ⟨c, k, rfl, q⟩
  have hb := mix1_lt c k
  refine ⟨_, rfl, _, rfl, CMul.ok (.inl ⟨by decide, by decide⟩), CMul.ok (.inr ⟨by decide, by decide⟩), (show (0 : Int) < 2147483647 by decide), ?_⟩
  exact ⟨_, rfl, _, rfl, CMul.ok (i := mix1 c k) (j := mix1 c k) (.inl ⟨by omega, by omega⟩), _, rfl, CMul.ok (.inl ⟨by decide, by decide⟩), (show (0 : Int) < 2147483399 by decide), q⟩
seal mixed
theorem c_cell (d : Df K mg "_law_cell_at" s__law_cell_at ["_law_script", "_law_k"]) (n_len : mg "len" = none) : Cal P w K mg base (j + 1) "_law_cell_at" ["_law_script", "_law_k"] sdCell := by
  refine d.cal sc__law_cell_at (fun ds P P' f ⟨c, k, e, h, q⟩ => ⟨c, k, e, h, fun c => f _ (q c)⟩) (fun ds Q ⟨c, k, e, _⟩ => by rw [e]; rfl) (fun f cdv A outer s H E hr => have hu := hr.units; have hh := hr.hd; have sc := sc__law_cell_at
    (ss_cons (s_if (t_lt (dv 1) (d_len (by rfl) n_len (a_cons (dv 0) a_nil))) (ss_one (s_ret (d_ix (dv 0) (dv 1) (fun _ _ => rfl)))) ss_nil)
  (ss_one (s_ret (d_mul (d_mul (d_add (dv 1) d_int) (d_add (dv 1) d_int)) d_int))))) ?_
  rintro ds Q ⟨ns, k, rfl, hk, q⟩
  refine ⟨_, rfl, _, rfl, _, _, rfl, rfl, _, rfl, ?_⟩
  show if decide ((k : Int) < ((ns.map D.int).length : Int)) = true then _ else _
  rw [List.length_map]
  cases h : decide ((k : Int) < (ns.length : Int)) with
  | true =>
    have hk' : k < ns.length := by have := of_decide_eq_true h; omega
    exact iteT ⟨_, rfl, _, rfl, .int ns[k], atI_nat (by rw [List.getElem?_map, List.getElem?_eq_getElem hk']; rfl), q _⟩
  | false =>
    exact iteF ⟨_, rfl, _, rfl, CMul.ok (i := (k : Int) + 3) (.inl ⟨by omega, by omega⟩), CMul.ok (.inr ⟨by decide, by decide⟩), q _⟩
end
end K11

set_option maxHeartbeats 4000000
namespace DC
open PySem PySem.Spec PyProof.Rows L2
section
variable {X : Cx} {e : Expr} {te : ED} {p p2 pos : Pos}
theorem isi_dict (hg : Gl X "isinstance") (hm : X.mg "isinstance" = none) (hg2 : Gl X "dict") (hm2 : X.mg "dict" = none) (he : PD X e te) (hs : starEach [e, .Name "dict" p2] X.env = (false, eval e X.env) :: starEach [.Name "dict" p2] X.env := by rfl) : PD X (.Call (.Name "isinstance" p) [e, .Name "dict" p2] [] pos) (vIsiT "dict" te) := (d_isiT he hg hm hg2 hm2 boot_dict (by decide) (by decide) hs).isiT he.mono (by decide)
end
def isStrV : V → Bool
  | .str _ => true
  | _ => false
def rInT (K : PySem.W.Frag) : R2 := fun x y H Q => ∃ p xs q ws, x = .ref q ∧ SqT K H q ws ∧ y = .ref p ∧ SqT K H p xs ∧ xs.all isStrV = true ∧ Q (.bl false) H
theorem strV_of : ∀ {xs : List V} {us : List Value}, Vals xs us → xs.all isStrV = true → ∀ u ∈ us, ∃ b t, u = .str b t
  | _, _, .nil, _ => fun u hu => by cases hu
  | y :: xs, u :: us, .cons r t, f => fun u' hu => by
    rw [List.all_cons, Bool.and_eq_true] at f
    rcases List.mem_cons.mp hu with rfl | hu
    · cases y with
      | str z => obtain ⟨t, rfl⟩ := r; exact ⟨z, t, rfl⟩
      | _ => exact absurd (show false = true from f.1) Bool.false_ne_true
    · exact strV_of t f.2 u' hu
section
variable {X : Cx} {a b : Expr} {pos : Pos} {ta tb : ED}
theorem op_inT (hu : X.A.units + 64 < cLine) : OpR X (compareOp .In) (rInT X.K) := by
  intro pins s σ H x y v u Q I rx ry h
  obtain ⟨p, xs, q, ws, rfl, hx, rfl, hy, fs, k⟩ := h
  cases ry
  cases rx
  obtain ⟨its, r, pl, hz⟩ := I.tuple hy
  obtain ⟨its2, r2, pl2, hz2⟩ := I.tuple hx
  refine SeqAt.in_tupleAt (fun _ => false) pl (fun w hw => ?_) ⟨.bl _, H, I, rfl, ?_⟩
  · obtain ⟨b, t, rfl⟩ := strV_of r fs w (by simpa using hw)
    exact SeqAt.EqAt.str_tuple b t pl2 (by show X.A.units + 1 < cLine; omega)
  · rw [show its.toArray.any (fun _ => false) = false by simp]
    exact k
def fInT : F2 := fun d e Q => fIn false d e Q ∨ ∃ (xs : List D) (ys : List Str), d = .tup xs ∧ e = .tup (ys.map D.str) ∧ Q (.bl false)
theorem m_inT : MonoF fInT := fun d e P P' f h => h.elim (fun h => .inl (m_in d e P P' f h)) fun ⟨xs, ys, e1, e2, q⟩ => .inr ⟨xs, ys, e1, e2, f _ q⟩
theorem dvs_str {K : PySem.W.Frag} {H : Hp} : ∀ {vs : List V} {ys : List Str}, Dvs K H vs (ys.map D.str) → vs.all isStrV = true
  | [], _, _ => rfl
  | v :: vs, [], h => by cases h
  | v :: vs, y :: ys, h => by
    cases h with
    | cons a b =>
      rw [List.all_cons, dvs_str b]
      cases a
      rfl
theorem does_inT {K : PySem.W.Frag} : Does K (fun x y H Q => (rIn K false x y H Q ∨ ∃ i j, x = .str i ∧ y = .str j ∧ Q (.bl (!(Builtin.Str.occurrences j i 0 j.length 1).isEmpty)) H) ∨ rInT K x y H Q) fInT := by
  intro H x y d e Q hx hy h
  rcases h with h | ⟨xs, ys, rfl, rfl, q⟩
  · exact .inl (does_in H x y d e Q hx hy h)
  · cases hx with
    | tup g1 g2 =>
      cases hy with
      | tup g3 g4 => exact .inr ⟨_, _, _, _, rfl, g1, rfl, g3, dvs_str g4, q _ H (Same.refl _) (.bl _)⟩
theorem d_inT (hu : X.A.units + 64 < cLine) (ha : PD X a ta) (hb : PD X b tb) (hm : behindInMarks .In b = false) : PD X (.Compare a [.In] [b] pos) (vOp fInT ta tb) := d_cmp ((op_in_seq.or op_in_str).or (op_inT hu)) does_inT m_inT ha hb hm
end
end DC

-- gen set Xf need_name need_sheet need_word need_on _law_right
-- gen set Xc Input Row Use
-- gen set U _law_marks
-- gen set dead _law_same
-- gen set inT is_plain_kind
set_option maxHeartbeats 4000000
namespace K11
open PySem PySem.Spec PyProof.Rows L2 DC
def smD : Nat → D → Prop
  | _, .non => True
  | _, .bl _ => True
  | _, .int _ => True
  | _, .str _ => True
  | n + 1, .lst xs => xs.length < 1000 ∧ ∀ x ∈ xs, smD n x
  | n + 1, .tup xs => xs.length < 1000 ∧ ∀ x ∈ xs, smD n x
  | _, _ => False
theorem sm_str {s : Str} {n : Nat} : smD n (.str s) := by cases n <;> trivial
def sdSame (n : Nat) : SpD := fun ds Q => ∃ d k, ds = [d, d] ∧ k < n ∧ smD k d ∧ Q (.bl true)
theorem m_Same {n : Nat} : MonoS (sdSame n) := fun ds P P' f ⟨d, k, e, l, h, q⟩ => ⟨d, k, e, l, h, f _ q⟩
theorem zip_self (xs : List D) (i : Nat) (d : D) (h : (List.zipWith (fun x y => D.tup [x, y]) xs xs)[i]? = some d) : ∃ x ∈ xs, d = .tup [x, x] := by
  rw [List.getElem?_zipWith] at h
  cases e : xs[i]? with
  | none => rw [e] at h; cases h
  | some x =>
    rw [e] at h
    exact ⟨x, List.mem_of_getElem? e, by simpa using h.symm⟩
section
seal wpAny
variable {P : Program} {w : World} {K : PySem.W.Frag} {mg : Str → Option Value} {base : Heap} {A : Adr} {n j : Nat}
theorem same_seq {xs : List D} {Q : D → Prop} {caps : List Nat} {δ : SD} {k : Nat} (hk : k < n) (hl : xs.length < 1000) (h : ∀ x ∈ xs, smD k x) (q : Q (.bl true)) :
    ∃ outs : List (Option D), outs.length = (List.zipWith (fun x y => D.tup [x, y]) xs xs).length ∧
      (∀ (i : Nat) (d : D) (o : Option D), (List.zipWith (fun x y => D.tup [x, y]) xs xs)[i]? = some d → outs[i]? = some o → ∃ x y, d = .tup [x, y] ∧ uYes (some x :: some y :: capD caps δ) fun b => b = o.isSome ∧ (b = true → vCall (sdSame n) (aCons (vVar 0) (aCons (vVar 1) aNil)) (some x :: some y :: capD caps δ) fun r => o = some r)) ∧
      (List.zipWith (fun x y => D.tup [x, y]) xs xs).length < sizeLine ∧ aNil δ (fun ds => sdAll (D.lst (outs.filterMap id) :: ds) Q) := by
  have hz : (List.zipWith (fun x y => D.tup [x, y]) xs xs).length = xs.length := by rw [List.length_zipWith, Nat.min_self]
  refine ⟨List.replicate xs.length (some (.bl true)), by rw [hz, List.length_replicate], fun i d o h1 h2 => ?_, by rw [hz]; exact Nat.lt_of_lt_of_le hl (by decide), List.replicate xs.length true, ?_, ?_⟩
  · obtain ⟨x, hx, rfl⟩ := zip_self xs i d h1
    have ho : o = some (.bl true) := by
      have := List.mem_of_getElem? h2
      exact (List.mem_replicate.mp this).2
    subst ho
    exact ⟨x, x, rfl, rfl, fun _ => ⟨_, rfl, _, rfl, x, k, rfl, hk, h x hx, rfl⟩⟩
  · rw [List.map_replicate]
    congr 2
    generalize xs.length = k
    induction k with
    | zero => rfl
    | succ k ih => rw [List.replicate_succ, List.replicate_succ, List.filterMap_cons]; exact congrArg _ ih
  · have e : (List.replicate xs.length true).all id = true := by
      rw [List.all_eq_true]
      intro b hb
      exact (List.mem_replicate.mp hb).2
    rw [e]
    exact q
theorem Df.never {x : Str} {st : Stmt} {ps : List Str} {sd : SpD} (d : Df K mg x st ps) (h : ∀ ds Q, ¬ sd ds Q) : Cal P w K mg base j x ps sd := by
  obtain ⟨f, fd, F, m, b⟩ := d.ex
  exact ⟨⟨f, fd, ⟨fun vs H Q E ⟨ds, _, q⟩ => (h _ _ q).elim, fun A outer s H args us vs Q E _ _ _ _ ⟨ds, _, q⟩ => (h _ _ q).elim⟩, m, F.kp, b⟩, fun ds P P' g q => (h _ _ q).elim⟩
theorem c_same (d : Df K mg "_law_same" s__law_same ["_law_found", "_law_due_here"]) (n_isinstance : mg "isinstance" = none) (n_tuple : mg "tuple" = none) (n_list : mg "list" = none) (n_len : mg "len" = none) (n_all : mg "all" = none) (n_zip : mg "zip" = none) (n_bool : mg "bool" = none) (n_dict : mg "dict" = none)
    (c__law_same : Cal P w K mg base j "_law_same" ["_law_found", "_law_due_here"] (sdSame n)) : Cal P w K mg base (j + 1) "_law_same" ["_law_found", "_law_due_here"] (sdSame (n + 1)) := by
  refine d.cal sc__law_same m_Same (fun ds Q ⟨p, _, e, _⟩ => by rw [e]; rfl) (fun f cdv A outer s H E hr => have hu := hr.units; have hh := hr.hd; have sc := sc__law_same
    (ss_cons (s_if (t_tru (isi_dict (by rfl) n_isinstance (by rfl) n_dict (dv 1))) ss_never ss_nil)
  (ss_cons (s_if (t_tru (d_isi2 (dv 1) (by rfl) n_isinstance (by rfl) n_tuple DC.boot_tuple (by rfl) n_list DC.boot_list (by decide) (by decide))) (ss_cons (s_if (PWd.td (w_or (t_ne hu (isi_tuple (by rfl) n_isinstance (by rfl) n_tuple (dv 1)) (isi_tuple (by rfl) n_isinstance (by rfl) n_tuple (dv 0))) (w_or1 (t_ne hu (isi_list (by rfl) n_isinstance (by rfl) n_list (dv 1)) (isi_list (by rfl) n_isinstance (by rfl) n_list (dv 0)))))) (ss_one (s_ret d_bl)) ss_nil)
  (ss_one (s_ret (d_and (d_eq hu (d_len (by rfl) n_len (a_cons (dv 0) a_nil)) (d_len (by rfl) n_len (a_cons (dv 1) a_nil))) (d_one (d_all hh (by rfl) n_all (a_cons (d_lc2 (x := "_law_one") (y := "_law_other") (caps := []) (cn := []) (cl := []) (comp0 (by rfl) (by rfl) (by decide +kernel) (by decide +kernel) (by decide +kernel)) rfl (i_zip (by rfl) n_zip (a_cons (dv 0) (a_cons (dv 1) a_nil))) (fun C fp s₂ H₂ => pg_tup rfl (pgs_cons (pg_name (i := 0) (show (["_law_one", "_law_other"] : List Str).Nodup by decide +kernel) rfl (Or.inl rfl) (.inr rfl)) (pgs_cons (pg_name (i := 1) (show (["_law_one", "_law_other"] : List Str).Nodup by decide +kernel) rfl (Or.inl rfl) (.inr rfl)) pgs_nil))) (fun C fp s₂ H₂ => ts_nil) (fun C fp s₂ H₂ => (d_cal c__law_same hr (by omega) (by rfl) (a_cons (dv 0) (a_cons (dv 1) a_nil))))) a_nil))))))) ss_nil)
  (ss_one (s_ret (d_and (d_eq hu (isi_bool (by rfl) n_isinstance (by rfl) n_bool (dv 0)) (isi_bool (by rfl) n_isinstance (by rfl) n_bool (dv 1))) (d_one (d_eq hu (dv 0) (dv 1))))))))) ?_
  rintro ds Q ⟨d, k, rfl, hk, hs, q⟩
  cases d with
  | lst xs =>
    obtain ⟨k, rfl⟩ : ∃ m, k = m + 1 := by
      cases k with
      | zero => exact hs.elim
      | succ k => exact ⟨k, rfl⟩
    refine ⟨_, rfl, false, rfl, false, rfl, iteF ⟨_, rfl, _, _, rfl, rfl, _, rfl, iteT ⟨_, rfl, _, rfl, _, rfl, _, rfl, false, rfl, iteF ⟨_, rfl, _, rfl, _, rfl, _, rfl, false, rfl, iteF ?_⟩⟩⟩⟩
    exact ⟨_, rfl, _, _, rfl, rfl, _, rfl, _, _, rfl, rfl, true, congrArg D.bl (by simp), iteT ⟨_, rfl, _, rfl, _, _, _, _, xs, xs, rfl, rfl, rfl, same_seq (by omega) hs.1 hs.2 q⟩⟩
  | tup xs =>
    obtain ⟨k, rfl⟩ : ∃ m, k = m + 1 := by
      cases k with
      | zero => exact hs.elim
      | succ k => exact ⟨k, rfl⟩
    refine ⟨_, rfl, false, rfl, false, rfl, iteF ⟨_, rfl, _, _, rfl, rfl, _, rfl, iteT ⟨_, rfl, _, rfl, _, rfl, _, rfl, false, rfl, iteF ⟨_, rfl, _, rfl, _, rfl, _, rfl, false, rfl, iteF ?_⟩⟩⟩⟩
    exact ⟨_, rfl, _, _, rfl, rfl, _, rfl, _, _, rfl, rfl, true, congrArg D.bl (by simp), iteT ⟨_, rfl, _, rfl, _, _, _, _, xs, xs, rfl, rfl, rfl, same_seq (by omega) hs.1 hs.2 q⟩⟩
  | non => exact ⟨_, rfl, false, rfl, false, rfl, iteF ⟨_, rfl, _, _, rfl, rfl, _, rfl, iteF ⟨_, rfl, _, rfl, _, rfl, _, rfl, true, rfl, iteT ⟨_, rfl, _, rfl, q⟩⟩⟩⟩
  | bl b => exact ⟨_, rfl, false, rfl, false, rfl, iteF ⟨_, rfl, _, _, rfl, rfl, _, rfl, iteF ⟨_, rfl, _, rfl, _, rfl, _, rfl, true, rfl, iteT ⟨_, rfl, _, rfl, by simpa [eqScal, fEq] using q⟩⟩⟩⟩
  | int b => exact ⟨_, rfl, false, rfl, false, rfl, iteF ⟨_, rfl, _, _, rfl, rfl, _, rfl, iteF ⟨_, rfl, _, rfl, _, rfl, _, rfl, true, rfl, iteT ⟨_, rfl, _, rfl, by simpa [eqScal, fEq] using q⟩⟩⟩⟩
  | str b => exact ⟨_, rfl, false, rfl, false, rfl, iteF ⟨_, rfl, _, _, rfl, rfl, _, rfl, iteF ⟨_, rfl, _, rfl, _, rfl, _, rfl, true, rfl, iteT ⟨_, rfl, _, rfl, by simpa [eqScal, fEq] using q⟩⟩⟩⟩
  | _ => cases k <;> exact hs.elim
theorem same_all (d : Df K mg "_law_same" s__law_same ["_law_found", "_law_due_here"]) (n_isinstance : mg "isinstance" = none) (n_tuple : mg "tuple" = none) (n_list : mg "list" = none) (n_len : mg "len" = none) (n_all : mg "all" = none) (n_zip : mg "zip" = none) (n_bool : mg "bool" = none) (n_dict : mg "dict" = none) :
    ∀ n, Cal P w K mg base n "_law_same" ["_law_found", "_law_due_here"] (sdSame n)
  | 0 => Df.never d fun ds Q ⟨_, _, _, h, _⟩ => absurd h (by omega)
  | n + 1 => c_same d n_isinstance n_tuple n_list n_len n_all n_zip n_bool n_dict (same_all d n_isinstance n_tuple n_list n_len n_all n_zip n_bool n_dict n)
end
end K11

-- gen set Xf need_name need_sheet need_word need_on _law_right
-- gen set Xc Input Row Use
-- gen set U _law_marks
-- gen set inT is_plain_kind
set_option maxHeartbeats 4000000
namespace K11
open PySem PySem.Spec PyProof.Rows L2 DC
structure EA where
  noName : Addr
  noSheet : Addr
inductive Er where
  | name | sheet
def EA.c (e : EA) : Er → Addr
  | .name => e.noName
  | .sheet => e.noSheet
def EA.r (e : EA) (R : XR) (k : Er) : Prop := R (e.c k) []
theorem EA.mono {e : EA} {R R' : XR} (g : ∀ C gs, R C gs → R' C gs) {k : Er} (h : e.r R k) : e.r R' k := g _ _ h
structure EOk (K : PySem.W.Frag) (mg : Str → Option Value) (e : EA) : Prop where
  iN : mg "NoName" = some (.ref e.noName)
  iS : mg "NoSheet" = some (.ref e.noSheet)
  eN : PySem.W.excIn K e.noName [.type "ValueError", .type "Exception", .type "BaseException", .type "object"] "ValueError.__new__" = true
  eS : PySem.W.excIn K e.noSheet [.type "ValueError", .type "Exception", .type "BaseException", .type "object"] "ValueError.__new__" = true
theorem ifM {b : Bool} {A A' B B' : Prop} (h : if b = true then A else B) (f : A → A') (g : B → B') : if b = true then A' else B' := by
  cases b with
  | true => exact iteT (f (by simpa using h))
  | false => exact iteF (g (by simpa using h))
theorem ofT {A B : Prop} (h : if true = true then A else B) : A := by simpa using h
theorem ofF {A B : Prop} (h : if false = true then A else B) : B := by simpa using h
def outN (ea : EA) (b : Bool) (k : Er) (Q : Prop) (R : XR) : Prop := if b = true then Q else ea.r R k
theorem outN.mono {ea : EA} {b : Bool} {k : Er} {Q Q' : Prop} {R R' : XR} (h : outN ea b k Q R) (f : Q → Q') (g : ∀ C gs, R C gs → R' C gs) : outN ea b k Q' R' := ifM h f (EA.mono g)
def onD : Option Str → D
  | none => .non
  | some x => .str x
def onB : Option Str → Bool
  | none => true
  | some x => nameB x
def lenO : Option Str → Prop
  | none => True
  | some x => x.length ≤ 100000
inductive Kd where
  | s (x : Str)
  | t (a b : Int)
def Kd.d : Kd → D
  | .s x => .str x
  | .t a b => .tup [.int a, .int b]
def Kd.plainB : Kd → Bool
  | .s x => (["truth", "number"] : List Str).contains x
  | .t _ _ => false
def inB (a : Int) : Bool := decide (-128 ≤ a) && decide (a ≤ 127)
def Kd.stretchB : Kd → Bool
  | .s _ => false
  | .t a b => inB a && (inB b && decide (a ≤ b))
def sxNm (ea : EA) : SpX := fun ds Q R => ∃ x : Str, ds = [.str x] ∧ x.length ≤ 100000 ∧ outN ea (nameB x) .name (Q .non) R
def sxWord (ea : EA) : SpX := fun ds Q R => ∃ x : Str, ds = [.str x] ∧ x.length ≤ 100000 ∧ outN ea (wordB x) .name (Q .non) R
def sxOn (ea : EA) : SpX := fun ds Q R => ∃ o : Option Str, ds = [onD o] ∧ lenO o ∧ outN ea (onB o) .name (Q .non) R
def sxSh (ea : EA) : SpX := fun ds Q R => ∃ (b : Bool) (z : Str), ds = [.bl b, .str z] ∧ outN ea b .sheet (Q .non) R
theorem m_sxNm {ea : EA} : MonoX (sxNm ea) := fun ds P P' R R' f g ⟨x, e, hx, h⟩ => ⟨x, e, hx, h.mono (f _) g⟩
theorem m_sxWord {ea : EA} : MonoX (sxWord ea) := fun ds P P' R R' f g ⟨x, e, hx, h⟩ => ⟨x, e, hx, h.mono (f _) g⟩
theorem m_sxOn {ea : EA} : MonoX (sxOn ea) := fun ds P P' R R' f g ⟨x, e, hx, h⟩ => ⟨x, e, hx, h.mono (f _) g⟩
theorem m_sxSh {ea : EA} : MonoX (sxSh ea) := fun ds P P' R R' f g ⟨x, z, e, h⟩ => ⟨x, z, e, h.mono (f _) g⟩
def sdKd (g : Kd → D) : SpD := fun ds Q => ∃ k : Kd, ds = [k.d] ∧ Q (g k)
theorem m_Kd {g : Kd → D} : MonoS (sdKd g) := fun ds P P' f ⟨x, e, q⟩ => ⟨x, e, f _ q⟩
theorem l_Kd {g : Kd → D} (ds : List D) (Q : D → Prop) (h : sdKd g ds Q) : ds.length = 1 := by obtain ⟨x, e, _⟩ := h; rw [e]; rfl
section
seal wpAny
variable {P : Program} {w : World} {K : PySem.W.Frag} {mg : Str → Option Value} {base : Heap} {A : Adr} {n j : Nat} {ea : EA}
theorem cx_need_name (d : Df K mg "need_name" s_need_name ["name"]) (eo : EOk K mg ea) (c_is_name : Cal P w K mg base j "is_name" ["thing"] (sdS fun x => .bl (nameB x))) : CalX P w K mg base (j + 1) "need_name" ["name"] (sxNm ea) := by
  have i_NoName := eo.iN
  have e_NoName := eo.eN
  refine d.calX sc_need_name m_sxNm (fun ds Q R ⟨x, e, _⟩ => by rw [e]; rfl) (fun f cdv A outer s H E R hr hx => have hu := hr.units; have hh := hr.hd; have sc := sc_need_name
    (ss_one (s_if (t_not (t_tru (d_cal c_is_name hr (by omega) (by rfl) (a_cons (dv 0) a_nil)))) (ss_one (s_raise hx rfl rfl (by rfl) i_NoName e_NoName (a_cons d_str a_nil))) ss_nil))) ?_
  rintro ds Q R ⟨x, rfl, hx, h⟩
  cases hn : nameB x with
  | true => rw [hn] at h; exact ⟨_, rfl, x, rfl, hx, true, congrArg some hn, iteF (ofT h)⟩
  | false => rw [hn] at h; exact ⟨_, rfl, x, rfl, hx, false, congrArg some hn, iteT ⟨(show 1 ≤ sizeLine by decide), ofF h⟩⟩
theorem cx_need_word (d : Df K mg "need_word" s_need_word ["word"]) (eo : EOk K mg ea) (c_is_word : Cal P w K mg base j "is_word" ["thing"] (sdS fun x => .bl (wordB x))) : CalX P w K mg base (j + 1) "need_word" ["word"] (sxWord ea) := by
  have i_NoName := eo.iN
  have e_NoName := eo.eN
  refine d.calX sc_need_word m_sxWord (fun ds Q R ⟨x, e, _⟩ => by rw [e]; rfl) (fun f cdv A outer s H E R hr hx => have hu := hr.units; have hh := hr.hd; have sc := sc_need_word
    (ss_one (s_if (t_not (t_tru (d_cal c_is_word hr (by omega) (by rfl) (a_cons (dv 0) a_nil)))) (ss_one (s_raise hx rfl rfl (by rfl) i_NoName e_NoName (a_cons d_str a_nil))) ss_nil))) ?_
  rintro ds Q R ⟨x, rfl, hx, h⟩
  cases hn : wordB x with
  | true => rw [hn] at h; exact ⟨_, rfl, x, rfl, hx, true, congrArg some hn, iteF (ofT h)⟩
  | false => rw [hn] at h; exact ⟨_, rfl, x, rfl, hx, false, congrArg some hn, iteT ⟨(show 1 ≤ sizeLine by decide), ofF h⟩⟩
theorem cx_need_sheet (d : Df K mg "need_sheet" s_need_sheet ["holds", "words"]) (eo : EOk K mg ea) : CalX P w K mg base (j + 1) "need_sheet" ["holds", "words"] (sxSh ea) := by
  have i_NoSheet := eo.iS
  have e_NoSheet := eo.eS
  refine d.calX sc_need_sheet m_sxSh (fun ds Q R ⟨x, _, e, _⟩ => by rw [e]; rfl) (fun f cdv A outer s H E R hr hx => have hu := hr.units; have hh := hr.hd; have sc := sc_need_sheet
    (ss_one (s_if (t_not (t_tru (dv 0))) (ss_one (s_raise hx rfl rfl (by rfl) i_NoSheet e_NoSheet (a_cons (dv 1) a_nil))) ss_nil))) ?_
  rintro ds Q R ⟨b, z, rfl, h⟩
  cases b with
  | true => exact ⟨_, rfl, true, rfl, iteF (ofT h)⟩
  | false => exact ⟨_, rfl, false, rfl, iteT ⟨_, rfl, (show 1 ≤ sizeLine by decide), ofF h⟩⟩
theorem cx_need_on (d : Df K mg "need_on" s_need_on ["on"]) (cx_need_name : CalX P w K mg base j "need_name" ["name"] (sxNm ea)) : CalX P w K mg base (j + 1) "need_on" ["on"] (sxOn ea) := by
  refine d.calX sc_need_on m_sxOn (fun ds Q R ⟨x, e, _⟩ => by rw [e]; rfl) (fun f cdv A outer s H E R hr hx => have hu := hr.units; have hh := hr.hd; have sc := sc_need_on
    (ss_one (s_if (t_isnot (dv 0) d_non) (ss_one (s_expr (d_calX hx cx_need_name hr (by omega) (by rfl) (a_cons (dv 0) a_nil)))) ss_nil))) ?_
  rintro ds Q R ⟨o, rfl, hx, h⟩
  cases o with
  | none => exact ⟨_, rfl, false, rfl, iteF (ofT h)⟩
  | some x => exact ⟨_, rfl, true, rfl, iteT ⟨_, rfl, x, rfl, hx, h⟩⟩
theorem c_is_plain_kind (d : Df K mg "is_plain_kind" s_is_plain_kind ["kind"]) : Cal P w K mg base (j + 1) "is_plain_kind" ["kind"] (sdKd fun k => .bl k.plainB) := by
  refine d.cal sc_is_plain_kind m_Kd l_Kd (fun f cdv A outer s H E hr => have hu := hr.units; have hh := hr.hd; have sc := sc_is_plain_kind
    (ss_one (s_ret (d_inT hu (dv 0) (d_tup (a_ck (by rfl))) (by rfl))))) ?_
  rintro ds Q ⟨k, rfl, q⟩
  cases k with
  | s x =>
    refine ⟨_, rfl, (show 2 ≤ sizeLine by decide), .inl ⟨rfl, rfl, ?_⟩⟩
    have e := in_strs x ["truth", "number"]
    show Q (.bl (inD (.str x) [.str "truth", .str "number"]))
    exact castB e.symm q
  | t a b => exact ⟨_, rfl, (show 2 ≤ sizeLine by decide), .inr ⟨_, ["truth", "number"], rfl, rfl, q⟩⟩
theorem c_is_stretch (d : Df K mg "is_stretch" s_is_stretch ["kind"]) (n_isinstance : mg "isinstance" = none) (n_tuple : mg "tuple" = none) (n_len : mg "len" = none) (c_is_number : Cal P w K mg base j "is_number" ["thing"] sdNum) : Cal P w K mg base (j + 1) "is_stretch" ["kind"] (sdKd fun k => .bl k.stretchB) := by
  refine d.cal sc_is_stretch m_Kd l_Kd (fun f cdv A outer s H E hr => have hu := hr.units; have hh := hr.hd; have sc := sc_is_stretch
    (ss_cons (s_if (PWd.td (w_or (t_not (t_tru (isi_tuple (by rfl) n_isinstance (by rfl) n_tuple (dv 0)))) (w_or1 (t_ne hu (d_len (by rfl) n_len (a_cons (dv 0) a_nil)) d_int)))) (ss_one (s_ret d_bl)) ss_nil)
  (ss_one (s_ret (d_and (d_cal c_is_number hr (by omega) (by rfl) (a_cons (d_ix (dv 0) d_int (fun _ _ => rfl)) a_nil)) (d_and (d_cal c_is_number hr (by omega) (by rfl) (a_cons (d_ix (dv 0) d_int (fun _ _ => rfl)) a_nil)) (d_one (d_le (d_ix (dv 0) d_int (fun _ _ => rfl)) (d_ix (dv 0) d_int (fun _ _ => rfl)))))))))) ?_
  rintro ds Q ⟨k, rfl, q⟩
  cases k with
  | s x => exact ⟨_, rfl, false, rfl, false, rfl, iteT q⟩
  | t a b =>
    refine ⟨_, rfl, true, rfl, true, rfl, iteF ⟨_, rfl, _, _, rfl, rfl, false, rfl, iteF ?_⟩⟩
    refine ⟨_, rfl, _, rfl, a, rfl, inB a, rfl, ?_⟩
    have q' : Q (.bl (inB a && (inB b && decide (a ≤ b)))) := q
    cases ha : inB a with
    | false => rw [ha] at q'; exact iteF q'
    | true =>
      rw [ha] at q'
      refine iteT ⟨_, rfl, _, rfl, b, rfl, inB b, rfl, ?_⟩
      cases hb : inB b with
      | false => rw [hb] at q'; exact iteF q'
      | true =>
        rw [hb] at q'
        exact iteT ⟨_, rfl, _, rfl, _, rfl, _, rfl, q'⟩
end
end K11

-- gen set Xf need_name need_sheet need_word need_on _law_right
-- gen set Xc Input Row Use
-- gen set U _law_marks
-- gen set inT is_plain_kind
set_option maxHeartbeats 4000000
namespace K11
open PySem PySem.Spec PyProof.Rows L2 DC
def lfs : List Str := ["name", "kind", "part", "on", "binds", "module", "parts"]
structure LOk (K : PySem.W.Frag) (C : Addr) : Prop where
  cl : Cls K C
  nof : ∀ f ∈ lfs, NoAttr K C f
theorem pl3 {f g h : Str} {d e i : D} : (putD f d (putD g e (putD h i []))).length < 1000 := Nat.lt_of_le_of_lt (Nat.le_trans (putD_len f d _) (Nat.succ_le_succ (Nat.le_trans (putD_len g e _) (Nat.succ_le_succ (putD_len h i []))))) (by decide)
def fIn_ (x : Str) (k : Kd) (o : Option Str) : FD := [("name", .str x), ("kind", k.d), ("on", onD o)]
def fRow_ (x : Str) (k : Kd) (p : D) (o : Option Str) : FD := [("name", .str x), ("kind", k.d), ("part", p), ("on", onD o)]
def fUse_ (bs : List Str) (m : Str) (ps : List D) (o : Option Str) : FD := [("binds", .tup (bs.map D.str)), ("module", .str m), ("parts", .tup ps), ("on", onD o)]
def useB (bs : List Str) : Bool := decide ((1 : Int) ≤ (bs.length : Int)) && decide ((bs.length : Int) ≤ 8)
def outI (ea : EA) (x : Str) (k : Kd) (o : Option Str) (Q : Prop) (R : XR) : Prop := outN ea (nameB x) .name (outN ea (onB o) .name (outN ea (k.plainB || k.stretchB) .sheet Q R) R) R
def outR (ea : EA) (x : Str) (k : Kd) (o : Option Str) (Q : Prop) (R : XR) : Prop := outN ea (nameB x) .name (outN ea (onB o) .name (outN ea k.plainB .sheet Q R) R) R
def outU (ea : EA) (bs : List Str) (m : Str) (o : Option Str) (Q : Prop) (R : XR) : Prop := outN ea (bs.all nameB) .name (outN ea (onB o) .name (outN ea (wordB m) .name (outN ea (useB bs) .sheet Q R) R) R) R
def sxIn (ea : EA) : SpIX := fun ds Q R => ∃ (x : Str) (k : Kd) (o : Option Str), ds = [.str x, k.d, onD o] ∧ x.length ≤ 100000 ∧ lenO o ∧ outI ea x k o (Q (fIn_ x k o)) R
def sxRow (ea : EA) : SpIX := fun ds Q R => ∃ (x : Str) (k : Kd) (p : D) (o : Option Str), ds = [.str x, k.d, p, onD o] ∧ x.length ≤ 100000 ∧ lenO o ∧ outR ea x k o (Q (fRow_ x k p o)) R
def sxUse (ea : EA) : SpIX := fun ds Q R => ∃ (bs : List Str) (m : Str) (ps : List D) (o : Option Str), ds = [.lst (bs.map D.str), .str m, .lst ps, onD o] ∧ (∀ x ∈ bs, x.length ≤ 100000) ∧ m.length ≤ 100000 ∧ lenO o ∧ outU ea bs m o (Q (fUse_ bs m ps o)) R
theorem m_sxIn {ea : EA} : MonoIX (sxIn ea) := fun ds P P' R R' f g ⟨x, k, o, e, h1, h2, h⟩ => ⟨x, k, o, e, h1, h2, h.mono (fun h => h.mono (fun h => h.mono (f _) g) g) g⟩
theorem m_sxRow {ea : EA} : MonoIX (sxRow ea) := fun ds P P' R R' f g ⟨x, k, p, o, e, h1, h2, h⟩ => ⟨x, k, p, o, e, h1, h2, h.mono (fun h => h.mono (fun h => h.mono (f _) g) g) g⟩
theorem m_sxUse {ea : EA} : MonoIX (sxUse ea) := fun ds P P' R R' f g ⟨x, k, p, o, e, h1, h2, h3, h⟩ => ⟨x, k, p, o, e, h1, h2, h3, h.mono (fun h => h.mono (fun h => h.mono (fun h => h.mono (f _) g) g) g) g⟩
theorem same_r {R : XR} : ∀ C gs, R C gs → R C gs := fun _ _ z => z
section
seal wpAny
variable {P : Program} {w : World} {K : PySem.W.Frag} {mg : Str → Option Value} {base : Heap} {A : Adr} {n j : Nat} {ea : EA} {C : Addr} {dd : List D}
theorem kx_input (l : LOk K C) (d : Di K mg "Input" C "Input.__init__" s_Input___init__ ["self", "name", "kind", "on"] dd) (cx_need_name : CalX P w K mg base j "need_name" ["name"] (sxNm ea)) (cx_need_on : CalX P w K mg base j "need_on" ["on"] (sxOn ea)) (cx_need_sheet : CalX P w K mg base j "need_sheet" ["holds", "words"] (sxSh ea))
    (c_is_plain_kind : Cal P w K mg base j "is_plain_kind" ["kind"] (sdKd fun k => .bl k.plainB)) (c_is_stretch : Cal P w K mg base j "is_stretch" ["kind"] (sdKd fun k => .bl k.stretchB)) : MkrX P w K mg base (j + 1) "Input" C (sxIn ea) dd := by
  have hc := l.cl
  have hn := l.nof
  refine d.mkrX sc_Input___init__ m_sxIn (fun ds Q R ⟨_, _, _, e, _⟩ => by rw [e]; rfl) (fun f cdv A outer s H E R hr hx => have hu := hr.units; have hh := hr.hd; have sc := sc_Input___init__
    (i_cons (i_free (s_expr (d_calX hx cx_need_name hr (by omega) (by rfl) (a_cons (dv 1) a_nil))))
  (i_cons (i_free (s_expr (d_calX hx cx_need_on hr (by omega) (by rfl) (a_cons (dv 3) a_nil))))
  (i_cons (i_free (s_expr (d_calX hx cx_need_sheet hr (by omega) (by rfl) (a_cons (d_or (d_cal c_is_plain_kind hr (by omega) (by rfl) (a_cons (dv 2) a_nil)) (d_one (d_cal c_is_stretch hr (by omega) (by rfl) (a_cons (dv 2) a_nil)))) (a_cons d_str a_nil)))))
  (i_cons (i_setK K rfl rfl (Or.inl rfl) (dv 1))
  (i_cons (i_setK K rfl rfl (Or.inl rfl) (dv 2))
  (i_cons (i_setK K rfl rfl (Or.inl rfl) (dv 3))
  i_nil))))))) ?_
  rintro a ds Q R ⟨x, k, o, rfl, hx, ho, h⟩
  refine ⟨_, rfl, x, rfl, hx, h.mono (fun h => ⟨_, rfl, o, rfl, ho, h.mono (fun h => ?_) same_r⟩) same_r⟩
  refine ⟨_, rfl, k, rfl, k.plainB, rfl, ?_⟩
  cases hp : k.plainB with
  | true =>
    rw [hp] at h
    exact iteT ⟨true, _, rfl, h.mono (fun q => ⟨_, rfl, rfl, hc, hn _ (by decide), pl0, _, rfl, rfl, hc, hn _ (by decide), pl1, _, rfl, rfl, hc, hn _ (by decide), pl2, q⟩) same_r⟩
  | false =>
    rw [hp] at h
    exact iteF ⟨_, rfl, k, rfl, k.stretchB, _, rfl, h.mono (fun q => ⟨_, rfl, rfl, hc, hn _ (by decide), pl0, _, rfl, rfl, hc, hn _ (by decide), pl1, _, rfl, rfl, hc, hn _ (by decide), pl2, q⟩) same_r⟩
theorem kx_row (l : LOk K C) (d : Di K mg "Row" C "Row.__init__" s_Row___init__ ["self", "name", "kind", "part", "on"] dd) (cx_need_name : CalX P w K mg base j "need_name" ["name"] (sxNm ea)) (cx_need_on : CalX P w K mg base j "need_on" ["on"] (sxOn ea)) (cx_need_sheet : CalX P w K mg base j "need_sheet" ["holds", "words"] (sxSh ea))
    (c_is_plain_kind : Cal P w K mg base j "is_plain_kind" ["kind"] (sdKd fun k => .bl k.plainB)) : MkrX P w K mg base (j + 1) "Row" C (sxRow ea) dd := by
  have hc := l.cl
  have hn := l.nof
  refine d.mkrX sc_Row___init__ m_sxRow (fun ds Q R ⟨_, _, _, _, e, _⟩ => by rw [e]; rfl) (fun f cdv A outer s H E R hr hx => have hu := hr.units; have hh := hr.hd; have sc := sc_Row___init__
    (i_cons (i_free (s_expr (d_calX hx cx_need_name hr (by omega) (by rfl) (a_cons (dv 1) a_nil))))
  (i_cons (i_free (s_expr (d_calX hx cx_need_on hr (by omega) (by rfl) (a_cons (dv 4) a_nil))))
  (i_cons (i_free (s_expr (d_calX hx cx_need_sheet hr (by omega) (by rfl) (a_cons (d_cal c_is_plain_kind hr (by omega) (by rfl) (a_cons (dv 2) a_nil)) (a_cons d_str a_nil)))))
  (i_cons (i_setK K rfl rfl (Or.inl rfl) (dv 1))
  (i_cons (i_setK K rfl rfl (Or.inl rfl) (dv 2))
  (i_cons (i_setK K rfl rfl (Or.inl rfl) (dv 3))
  (i_cons (i_setK K rfl rfl (Or.inl rfl) (dv 4))
  i_nil)))))))) ?_
  rintro a ds Q R ⟨x, k, p, o, rfl, hx, ho, h⟩
  refine ⟨_, rfl, x, rfl, hx, h.mono (fun h => ⟨_, rfl, o, rfl, ho, h.mono (fun h => ?_) same_r⟩) same_r⟩
  exact ⟨_, rfl, k, rfl, k.plainB, _, rfl, h.mono (fun q => ⟨_, rfl, rfl, hc, hn _ (by decide), pl0, _, rfl, rfl, hc, hn _ (by decide), pl1, _, rfl, rfl, hc, hn _ (by decide), pl2, _, rfl, rfl, hc, hn _ (by decide), pl3, q⟩) same_r⟩
theorem kx_use (l : LOk K C) (d : Di K mg "Use" C "Use.__init__" s_Use___init__ ["self", "binds", "module", "parts", "on"] dd) (n_len : mg "len" = none) (n_tuple : mg "tuple" = none) (g : GI mg "MOST_OUTPUTS" 8) (cx_need_name : CalX P w K mg base j "need_name" ["name"] (sxNm ea)) (cx_need_on : CalX P w K mg base j "need_on" ["on"] (sxOn ea)) (cx_need_sheet : CalX P w K mg base j "need_sheet" ["holds", "words"] (sxSh ea))
    (cx_need_word : CalX P w K mg base j "need_word" ["word"] (sxWord ea)) : MkrX P w K mg base (j + 1) "Use" C (sxUse ea) dd := by
  have hc := l.cl
  have hn := l.nof
  obtain ⟨t1, q_MOST_OUTPUTS⟩ := g.ex
  have r_MOST_OUTPUTS : RelV (.int 8) (.int 8 t1) := ⟨_, rfl⟩
  have v_MOST_OUTPUTS : ∀ H, Dv K H (.int 8) (.int 8) := fun _ => .int _
  refine d.mkrX sc_Use___init__ m_sxUse (fun ds Q R ⟨_, _, _, _, e, _⟩ => by rw [e]; rfl) (fun f cdv A outer s H E R hr hx => have hu := hr.units; have hh := hr.hd; have sc := sc_Use___init__
    (i_cons (i_free (s_for PassesOwn.leaving rfl (i_any (dv 1)) (g_name (i := 5) sc.nd rfl (Or.inl rfl)) (ss_one (s_expr (d_calX hx cx_need_name hr (by omega) (by rfl) (a_cons (dv 5) a_nil))))))
  (i_cons (i_free (s_expr (d_calX hx cx_need_on hr (by omega) (by rfl) (a_cons (dv 4) a_nil))))
  (i_cons (i_free (s_expr (d_calX hx cx_need_word hr (by omega) (by rfl) (a_cons (dv 2) a_nil))))
  (i_cons (i_free (s_expr (d_calX hx cx_need_sheet hr (by omega) (by rfl) (a_cons (d_lele d_int (d_len (by rfl) n_len (a_cons (dv 1) a_nil)) (d_glob (by rfl) q_MOST_OUTPUTS r_MOST_OUTPUTS v_MOST_OUTPUTS)) (a_cons d_str a_nil)))))
  (i_cons (i_setK K rfl rfl (Or.inl rfl) (d_tuple_of (by rfl) n_tuple (a_cons (dv 1) a_nil)))
  (i_cons (i_setK K rfl rfl (Or.inl rfl) (dv 2))
  (i_cons (i_setK K rfl rfl (Or.inl rfl) (d_tuple_of (by rfl) n_tuple (a_cons (dv 3) a_nil)))
  (i_cons (i_setK K rfl rfl (Or.inl rfl) (dv 4))
  i_nil))))))))) ?_
  rintro a ds Q R ⟨bs, m, ps, o, rfl, hx, hm, ho, h⟩
  refine ⟨_, rfl, _, rfl, fun i δ => (bs.take i).all nameB = true ∧ ∃ x5, δ = [some (.adr a), some (.lst (bs.map D.str)), some (.str m), some (.lst ps), some (onD o), x5], ⟨rfl, none, rfl⟩, ?_, ?_⟩
  · rintro i dx δ hd ⟨hi, x5, rfl⟩
    rw [List.getElem?_map] at hd
    cases hb : bs[i]? with
    | none => rw [hb] at hd; cases hd
    | some x =>
      rw [hb] at hd
      cases hd
      have hin : x ∈ bs := List.mem_of_getElem? hb
      refine ⟨_, rfl, x, rfl, hx x hin, ?_⟩
      cases hnm : nameB x with
      | true =>
        refine iteT ⟨?_, some (.str x), rfl⟩
        rw [List.take_add_one, hb, List.all_append, hi]
        simp [hnm]
      | false =>
        refine iteF ?_
        have hall : bs.all nameB = false := by
          rw [List.all_eq_false]
          exact ⟨x, hin, by simp [hnm]⟩
        have h2 := h
        unfold outU at h2
        rw [hall] at h2
        exact ofF h2
  · rintro δ ⟨hi, x5, rfl⟩
    have hall : bs.all nameB = true := by rwa [List.length_map, List.take_length] at hi
    unfold outU at h
    rw [hall] at h
    refine ⟨_, rfl, o, rfl, ho, (ofT h).mono (fun h => ⟨_, rfl, m, rfl, hm, h.mono (fun h => ?_) same_r⟩) same_r⟩
    refine ⟨_, rfl, _, _, rfl, rfl, _, rfl, ?_⟩
    rw [List.length_map]
    unfold useB at h
    by_cases h1 : (1 : Int) ≤ (bs.length : Int)
    · rw [decide_eq_true h1] at h ⊢
      exact iteT ⟨_, _, rfl, h.mono (fun q => ⟨_, rfl, _, .inl rfl, rfl, hc, hn _ (by decide), pl0, _, rfl, rfl, hc, hn _ (by decide), pl1, _, rfl, _, .inl rfl, rfl, hc, hn _ (by decide), pl2, _, rfl, rfl, hc, hn _ (by decide), pl3, q⟩) same_r⟩
    · rw [decide_eq_false h1] at h ⊢
      exact iteF ⟨_, _, rfl, h.mono (fun q => ⟨_, rfl, _, .inl rfl, rfl, hc, hn _ (by decide), pl0, _, rfl, rfl, hc, hn _ (by decide), pl1, _, rfl, _, .inl rfl, rfl, hc, hn _ (by decide), pl2, _, rfl, rfl, hc, hn _ (by decide), pl3, q⟩) same_r⟩
end
end K11

-- gen set Xf need_name need_sheet need_word need_on _law_right
-- gen set Xc Input Row Use
-- gen set U _law_marks
-- gen set inT is_plain_kind
set_option maxHeartbeats 4000000
namespace K11
open PySem PySem.Spec PyProof.Rows L2 DC
theorem str_empty (x : Str) : (x == ("" : Str)) = !decide ((0 : Int) < (x.length : Int)) := by
  cases hx : decide ((0 : Int) < (x.length : Int)) with
  | true =>
    have h := of_decide_eq_true hx
    refine beq_eq_false_iff_ne.mpr fun e => ?_
    rw [e] at h
    exact absurd h (by decide)
  | false =>
    have h := of_decide_eq_false hx
    refine beq_iff_eq.mpr ?_
    cases x with
    | mk cps =>
      have h2 : cps.size = 0 := by
        have : ((cps.size : Nat) : Int) ≤ 0 := by
          have := h
          simp only [Str.length] at this
          omega
        omega
      have h3 : cps = #[] := Array.eq_empty_of_size_eq_zero h2
      rw [h3]
      decide
def lawLet (x : Str) : Bool := (signs x).all inL && ((!(x == ("" : Str))) && decide ((x.length : Int) < 9))
theorem lawLet_form (x : Str) : lawLet x = formB x := by
  unfold lawLet formB letB
  rw [str_empty, Bool.not_not]
  have e : decide ((x.length : Int) < 9) = decide ((x.length : Int) ≤ 8) := by
    by_cases h : (x.length : Int) ≤ 8
    · rw [decide_eq_true h, decide_eq_true (by omega)]
    · rw [decide_eq_false h, decide_eq_false (by omega)]
  rw [e]
  generalize (signs x).all inL = a
  generalize decide ((0 : Int) < (x.length : Int)) = b
  generalize decide ((x.length : Int) ≤ 8) = c
  cases a <;> cases b <;> cases c <;> rfl
def fixedS : Str := "module in out row use end number truth on yes no not and or if before then when held"
def blank : Str := " "
theorem fixed_split : Txt.split fixedS blank = keptL := by decide +kernel
def oddNs : List Str := ["a", "abcdefgh", "abcdefghi", "in", "a.b", "a..b", "a.b.c.d", "a.b.c.d.e", "", "A", "a1", "on.x", "row.in", ".a", "a.", "held", "heldx", "z.abcdefghi", "z.abcdefgh", "a b", "yes", "yes.no", "modules", "use"]
def goodL : List Str := ["go", "a.in", "abcdefgh", "x", "row.row.row.row"]
theorem odd_len : ∀ x ∈ oddNs, x.length ≤ 20 := by decide +kernel
theorem good_len : ∀ x ∈ goodL, x.length ≤ 20 := by decide +kernel
theorem at_str {xs : List Str} {i : Int} (h0 : 0 ≤ i) (h1 : i < xs.length) : L2.atI (xs.map D.str) i = some (.str (xs.getD i.toNat "")) := by
  unfold L2.atI L2.ixN
  rw [List.length_map, if_pos h0, if_pos h1]
  have h : i.toNat < xs.length := by omega
  simp [List.getElem?_eq_getElem h]
theorem getD_len {xs : List Str} {n i : Nat} (h : ∀ x ∈ xs, x.length ≤ n) : (xs.getD i "").length ≤ n := by
  rw [List.getD_eq_getElem?_getD]
  cases e : xs[i]? with
  | none => exact Nat.zero_le _
  | some x => exact h x (List.mem_of_getElem? e)
def oddOf (m : Int) : Str := oddNs.getD (m / 7 % 24).toNat ""
def nameOf (m : Int) : Str := if decide ((0 : Int) < m / 5 % 4) = true then goodL.getD (m / 20 % 5).toNat "" else oddOf (m / 100)
theorem name_len (m : Int) : (nameOf m).length ≤ 20 := by
  unfold nameOf oddOf
  split
  · exact getD_len good_len
  · exact getD_len odd_len
def sdOdd : SpD := fun ds Q => ∃ m : Int, ds = [.int m] ∧ Q (.str (oddOf m))
def sdLn : SpD := fun ds Q => ∃ m : Int, ds = [.int m] ∧ Q (.str (nameOf m))
theorem m_Odd : MonoS sdOdd := fun ds P P' f ⟨m, e, q⟩ => ⟨m, e, f _ q⟩
theorem l_Odd (ds : List D) (Q : D → Prop) (h : sdOdd ds Q) : ds.length = 1 := by obtain ⟨x, e, _⟩ := h; rw [e]; rfl
theorem m_Ln : MonoS sdLn := fun ds P P' f ⟨m, e, q⟩ => ⟨m, e, f _ q⟩
theorem l_Ln (ds : List D) (Q : D → Prop) (h : sdLn ds Q) : ds.length = 1 := by obtain ⟨x, e, _⟩ := h; rw [e]; rfl
def sdAnyK : SpD := fun ds Q => ∃ m : Int, ds = [.int m] ∧ ∀ k : Kd, Q k.d
def dueS (xs : List Str) (bm bs : Bool) : Str := if xs.all nameB = true then (if bm = true then (if bs = true then "" else "sheet") else "name") else "name"
def sdDue : SpD := fun ds Q => ∃ (xs : List Str) (bm bs : Bool), ds = [.lst (xs.map D.str), .bl bm, .bl bs] ∧ (∀ x ∈ xs, x.length ≤ 100000) ∧ Q (.str (dueS xs bm bs))
def kindB (k : Kd) (b : Bool) : Bool := if b = true then k.plainB else k.plainB || k.stretchB
def sdIsK : SpD := fun ds Q => ∃ (k : Kd) (b : Bool), ds = [k.d, .bl b] ∧ Q (.bl (kindB k b))
section
seal wpAny
variable {P : Program} {w : World} {K : PySem.W.Frag} {mg : Str → Option Value} {base : Heap} {A : Adr} {n j : Nat} {ea : EA} {C : Addr} {dd : List D}
theorem c_lettered (d : Df K mg "_law_is_lettered" s__law_is_lettered ["_law_text"]) (n_len : mg "len" = none) : Cal P w K mg base (j + 1) "_law_is_lettered" ["_law_text"] (sdS fun x => .bl (formB x)) := by
  refine d.cal sc__law_is_lettered m_S l_S (fun f cdv A outer s H E hr => have hu := hr.units; have hh := hr.hd; have sc := sc__law_is_lettered
    (ss_cons (s_for PassesOwn.never rfl (i_any (dv 0)) (g_name (i := 1) sc.nd rfl (Or.inl rfl)) (ss_one (s_if (t_notin (dv 1) d_str (by rfl)) (ss_one (s_ret d_bl)) ss_nil)))
  (ss_one (s_ret (d_and (d_ne hu (dv 0) d_str) (d_one (d_lt (d_len (by rfl) n_len (a_cons (dv 0) a_nil)) d_int))))))) ?_
  rintro ds Q ⟨x, rfl, hx, q⟩
  have q : Q (.bl (formB x)) := q
  rw [← lawLet_form] at q
  refine ⟨_, rfl, (signs x).map D.str, ?_, fun i δ => ((signs x).take i).all inL = true ∧ ∃ y, δ = [some (.str x), y], ⟨rfl, none, rfl⟩, ?_, ?_⟩
  · unfold signs
    rw [List.map_map]
    rfl
  · rintro i dx δ hd ⟨hi, y, rfl⟩
    rw [List.getElem?_map] at hd
    cases hb : (signs x)[i]? with
    | none => rw [hb] at hd; cases hd
    | some c =>
      rw [hb] at hd
      cases hd
      refine ⟨_, rfl, c, rfl, ?_⟩
      show ∃ b, _ ∧ _
      cases hc : inL c with
      | true =>
        refine ⟨false, congrArg D.bl (show (if true = true then !subStr c letters else subStr c letters) = false by rw [show subStr c letters = true from hc]; rfl), iteF ⟨?_, some (.str c), rfl⟩⟩
        rw [List.take_add_one, hb, List.all_append, hi]
        simp [hc]
      | false =>
        refine ⟨true, congrArg D.bl (show (if true = true then !subStr c letters else subStr c letters) = true by rw [show subStr c letters = false from hc]; rfl), iteT ?_⟩
        have hall : (signs x).all inL = false := by
          rw [List.all_eq_false]
          exact ⟨c, List.mem_of_getElem? hb, by simp [hc]⟩
        unfold lawLet at q
        rw [hall] at q
        exact q
  · rintro δ ⟨hi, y, rfl⟩
    have hall : (signs x).all inL = true := by rwa [List.length_map, List.take_length] at hi
    unfold lawLet at q
    rw [hall] at q
    have q : Q (.bl ((!(x == ("" : Str))) && decide ((x.length : Int) < 9))) := q
    refine ⟨_, rfl, (!(x == ("" : Str))), ?_, ?_⟩
    · show D.bl (if true = true then !(x == ("" : Str)) else (x == ("" : Str))) = _
      rfl
    cases he : (x == ("" : Str)) with
    | true => rw [he] at q; exact iteF q
    | false => rw [he] at q; exact iteT ⟨_, rfl, _, _, rfl, if_pos (str_len hx), q⟩
theorem c_lword (d : Df K mg "_law_is_word" s__law_is_word ["_law_text"]) (c__law_is_lettered : Cal P w K mg base j "_law_is_lettered" ["_law_text"] (sdS fun x => .bl (formB x))) : Cal P w K mg base (j + 1) "_law_is_word" ["_law_text"] (sdS fun x => .bl (wordB x)) := by
  refine d.cal sc__law_is_word m_S l_S (fun f cdv A outer s H E hr => have hu := hr.units; have hh := hr.hd; have sc := sc__law_is_word
    (ss_cons (s_set (i := 1) sc.nd rfl (Or.inl rfl) d_str)
  (ss_one (s_ret (d_and (d_cal c__law_is_lettered hr (by omega) (by rfl) (a_cons (dv 0) a_nil)) (d_one (d_notin (dv 0) (d_split (dv 1) (a_cons d_str a_nil)) (by rfl)))))))) ?_
  rintro ds Q ⟨x, rfl, hx, q⟩
  have q : Q (.bl (wordB x)) := q
  unfold wordB at q
  refine ⟨_, rfl, x, rfl, hx, formB x, rfl, ?_⟩
  cases hf : formB x with
  | false => rw [hf] at q; exact iteF q
  | true =>
    rw [hf] at q
    refine iteT ⟨_, rfl, _, rfl, ⟨_, rfl⟩, fixedS, blank, rfl, rfl, rfl, (by decide), ?_⟩
    rw [fixed_split]
    refine ⟨rfl, flat_strs keptL, ?_⟩
    rw [in_strs]
    exact q
theorem c_lname (d : Df K mg "_law_is_name" s__law_is_name ["_law_text"]) (n_len : mg "len" = none) (n_all : mg "all" = none) (c__law_is_word : Cal P w K mg base j "_law_is_word" ["_law_text"] (sdS fun x => .bl (wordB x)))
    (c__law_is_lettered : Cal P w K mg base j "_law_is_lettered" ["_law_text"] (sdS fun x => .bl (formB x))) : Cal P w K mg base (j + 1) "_law_is_name" ["_law_text"] (sdS fun x => .bl (nameB x)) := by
  refine d.cal sc__law_is_name m_S l_S (fun f cdv A outer s H E hr => have hu := hr.units; have hh := hr.hd; have sc := sc__law_is_name
    (ss_cons (s_set (i := 1) sc.nd rfl (Or.inl rfl) (d_split (dv 0) (a_cons d_str a_nil)))
  (ss_cons (s_if (t_eq hu (d_len (by rfl) n_len (a_cons (dv 1) a_nil)) d_int) (ss_one (s_ret (d_cal c__law_is_word hr (by omega) (by rfl) (a_cons (dv 0) a_nil)))) ss_nil)
  (ss_one (s_ret (d_and (d_lt (d_len (by rfl) n_len (a_cons (dv 1) a_nil)) d_int) (d_one (d_all hh (by rfl) n_all (a_cons (d_lc (x := "_law_word") (caps := []) (cn := []) (cl := []) (comp0 (by rfl) (by rfl) (by decide +kernel) (by decide +kernel) (by decide +kernel)) rfl (i_any (dv 1)) (fun C fp s₂ H₂ => pg_name (i := 0) (show (["_law_word"] : List Str).Nodup by decide +kernel) rfl (Or.inl rfl) (.inr rfl)) (fun C fp s₂ H₂ => ts_nil) (fun C fp s₂ H₂ => (d_cal c__law_is_lettered hr (by omega) (by rfl) (a_cons (dv 0) a_nil)))) a_nil))))))))) ?_
  rintro ds Q ⟨x, rfl, hx, q⟩
  have hs := split_le x dot
  refine ⟨_, rfl, ⟨x, rfl⟩, x, dot, rfl, rfl, rfl, Nat.le_trans (Nat.add_le_add_right hx 2) (by decide), ?_⟩
  refine ⟨_, rfl, _, _, rfl, rfl, _, rfl, ?_⟩
  show if decide ((((Txt.split x dot).map D.str).length : Int) = 1) = true then _ else _
  rw [List.length_map]
  cases h : decide (((Txt.split x dot).length : Int) = 1) with
  | true =>
    have e : nameB x = wordB x := by unfold nameB; rw [h]; rfl
    exact iteT ⟨_, rfl, x, rfl, hx, castB e q⟩
  | false =>
    refine iteF ⟨_, rfl, _, _, rfl, rfl, _, rfl, ?_⟩
    show if decide ((((Txt.split x dot).map D.str).length : Int) < 5) = true then _ else _
    rw [List.length_map]
    have e54 : decide (((Txt.split x dot).length : Int) < 5) = decide (((Txt.split x dot).length : Int) ≤ 4) := by
      by_cases h : (((Txt.split x dot).length : Nat) : Int) ≤ 4
      · rw [decide_eq_true h, decide_eq_true (by omega)]
      · rw [decide_eq_false h, decide_eq_false (by omega)]
    rw [e54]
    cases h2 : decide (((Txt.split x dot).length : Int) ≤ 4) with
    | false =>
      have e : nameB x = false := by unfold nameB; rw [h, h2]; rfl
      exact iteF (castB e q)
    | true =>
      have e : nameB x = ((Txt.split x dot).map formB).all id := by unfold nameB; rw [h, h2, List.all_map]; rfl
      refine iteT ⟨_, rfl, _, rfl, mO gForm ((Txt.split x dot).map D.str), mO_len, fun i d o h1 h2 => ?_, ?_, ?_⟩
      · obtain ⟨hd, rfl⟩ := mO_at h1 h2
        obtain ⟨c, hc, rfl⟩ := List.mem_map.mp hd
        refine ⟨rfl, fun _ => ⟨_, rfl, c, rfl, ?_, rfl⟩⟩
        have hw := split_weight x dot (by decide)
        have hc2 : c.length ∈ (Txt.split x dot).map (·.length) := List.mem_map.mpr ⟨c, hc, rfl⟩
        have := le_sum hc2
        have hp := split_pos x dot
        omega
      · rw [List.length_map]
        exact Nat.lt_of_le_of_lt hs (Nat.lt_of_le_of_lt (Nat.add_le_add_right hx 2) (by decide))
      · rw [mO_out]
        refine ⟨(Txt.split x dot).map formB, ?_, castB e q⟩
        rw [List.map_map, List.map_map]
        rfl
theorem c_odd (d : Df K mg "_law_odd_name" s__law_odd_name ["_law_mix"]) (n_len : mg "len" = none) : Cal P w K mg base (j + 1) "_law_odd_name" ["_law_mix"] sdOdd := by
  refine d.cal sc__law_odd_name m_Odd l_Odd (fun f cdv A outer s H E hr => have hu := hr.units; have hh := hr.hd; have sc := sc__law_odd_name
    (ss_cons (s_set (i := 1) sc.nd rfl (Or.inl rfl) (d_lst (a_ck (by rfl))))
  (ss_cons (s_set (i := 1) sc.nd rfl (Or.inl rfl) (d_add (dv 1) (d_lst (a_ck (by rfl)))))
  (ss_one (s_ret (d_ix (dv 1) (d_mod (d_div (dv 0) d_int) (d_len (by rfl) n_len (a_cons (dv 1) a_nil))) (fun _ _ => rfl))))))) ?_
  rintro ds Q ⟨m, rfl, q⟩
  exact ⟨(show 13 ≤ sizeLine by decide), _, rfl, (show 11 ≤ sizeLine by decide), (show 24 ≤ sizeLine by decide), _, rfl, _, rfl, cd (by decide) (by decide), _, rfl, _, _, rfl, rfl, (show (0 : Int) < 24 by decide), _, at_str (xs := oddNs) (i := m / 7 % 24) (mod_lo _ (by decide)) (mod_hi _ (by decide)), q⟩
theorem c_lnam (d : Df K mg "_law_name" s__law_name ["_law_mix"]) (c__law_odd_name : Cal P w K mg base j "_law_odd_name" ["_law_mix"] sdOdd) : Cal P w K mg base (j + 1) "_law_name" ["_law_mix"] sdLn := by
  refine d.cal sc__law_name m_Ln l_Ln (fun f cdv A outer s H E hr => have hu := hr.units; have hh := hr.hd; have sc := sc__law_name
    (ss_cons (s_if (t_gt (d_mod (d_div (dv 0) d_int) d_int) d_int) (ss_one (s_ret (d_ix (d_lst (a_ck (by rfl))) (d_mod (d_div (dv 0) d_int) d_int) (fun _ _ => rfl)))) ss_nil)
  (ss_one (s_ret (d_cal c__law_odd_name hr (by omega) (by rfl) (a_cons (d_div (dv 0) d_int) a_nil)))))) ?_
  rintro ds Q ⟨m, rfl, q⟩
  refine ⟨_, rfl, cd (by decide) (by decide), (show (0 : Int) < 4 by decide), _, rfl, ?_⟩
  unfold nameOf at q
  cases h : decide ((0 : Int) < m / 5 % 4) with
  | true =>
    rw [h] at q
    exact iteT ⟨(show 5 ≤ sizeLine by decide), _, rfl, cd (by decide) (by decide), (show (0 : Int) < 5 by decide), _, at_str (xs := goodL) (i := m / 20 % 5) (mod_lo _ (by decide)) (mod_hi _ (by decide)), q⟩
  | false => rw [h] at q; exact iteF ⟨_, rfl, cd (by decide) (by decide), _, rfl, q⟩
theorem c_lkind (d : Df K mg "_law_kind" s__law_kind ["_law_mix"]) : Cal P w K mg base (j + 1) "_law_kind" ["_law_mix"] sdAnyK := by
  refine d.cal sc__law_kind (fun ds P P' f ⟨m, e, q⟩ => ⟨m, e, fun k => f _ (q k)⟩) (fun ds Q ⟨m, e, _⟩ => by rw [e]; rfl) (fun f cdv A outer s H E hr => have hu := hr.units; have hh := hr.hd; have sc := sc__law_kind
    (ss_cons (s_set (i := 1) sc.nd rfl (Or.inl rfl) (d_mod (d_div (dv 0) d_int) d_int))
  (ss_cons (s_if (t_lt (dv 1) d_int) (ss_one (s_ret (d_ix (d_lst (a_ck (by rfl))) (d_mod (dv 1) d_int) (fun _ _ => rfl)))) ss_nil)
  (ss_cons (s_set (i := 2) sc.nd rfl (Or.inl rfl) (d_ix (d_lst (a_cons (d_neg d_int) (a_cons (d_neg d_int) (a_cons d_int (a_cons d_int (a_cons (d_neg d_int) (a_cons (d_sub (d_mod (d_div (dv 0) d_int) d_int) d_int) a_nil))))))) (d_mod (d_div (dv 0) d_int) d_int) (fun _ _ => rfl)))
  (ss_cons (s_set (i := 3) sc.nd rfl (Or.inl rfl) (d_add (dv 2) (d_ix (d_lst (a_cons d_int (a_cons d_int (a_cons (d_neg d_int) (a_cons d_int (a_cons d_int (a_cons (d_mod (d_div (dv 0) d_int) d_int) a_nil))))))) (d_mod (d_div (dv 0) d_int) d_int) (fun _ _ => rfl))))
  (ss_one (s_ret (d_ix (d_lst (a_cons (d_tup (a_cons (dv 2) (a_cons (dv 3) a_nil))) (a_cons (d_tup (a_cons (dv 2) (a_cons (dv 3) a_nil))) (a_cons (d_tup (a_cons (dv 2) (a_cons (dv 3) a_nil))) (a_cons (d_ix (d_lst (a_ck (by rfl))) (d_mod (d_div (dv 0) d_int) d_int) (fun _ _ => rfl)) a_nil))))) (d_sub (dv 1) d_int) (fun _ _ => rfl))))))))) ?_
  rintro ds Q ⟨m, rfl, q⟩
  have lo := mod_lo (m / 7) (show (0 : Int) < 8 by decide)
  have hi := mod_hi (m / 7) (show (0 : Int) < 8 by decide)
  refine ⟨_, rfl, cd (by decide) (by decide), (show (0 : Int) < 8 by decide), _, rfl, _, rfl, ?_⟩
  cases h : decide (m / 7 % 8 < 4) with
  | true =>
    obtain ⟨r, hr, e⟩ := atI_in (xs := (["truth", "number"] : List Str).map D.str) (i := m / 7 % 8 % 2) (mod_lo _ (by decide)) (mod_hi _ (by decide))
    obtain ⟨x, hx, rfl⟩ := List.mem_map.mp hr
    exact iteT ⟨(show 2 ≤ sizeLine by decide), _, rfl, (show (0 : Int) < 2 by decide), _, e, q (.s x)⟩
  | false =>
    have h4 := of_decide_eq_false h
    obtain ⟨r1, hr1, e1⟩ := atI_in (xs := ([-128, -129, 127, 5, -7, m / 900 % 300 - 150] : List Int).map D.int) (i := m / 56 % 6) (mod_lo _ (by decide)) (mod_hi _ (by decide))
    obtain ⟨low, _, rfl⟩ := List.mem_map.mp hr1
    obtain ⟨r2, hr2, e2⟩ := atI_in (xs := ([0, 1, -1, 255, 256, m / 900 % 40] : List Int).map D.int) (i := m / 336 % 6) (mod_lo _ (by decide)) (mod_hi _ (by decide))
    obtain ⟨up, _, rfl⟩ := List.mem_map.mp hr2
    obtain ⟨r3, hr3, e3⟩ := atI_in (xs := (["number ", "Truth", "", "truths", "row"] : List Str).map D.str) (i := m / 400 % 5) (mod_lo _ (by decide)) (mod_hi _ (by decide))
    obtain ⟨wd, _, rfl⟩ := List.mem_map.mp hr3
    refine iteF ⟨_, rfl, _, rfl, _, rfl, _, rfl, cd (by decide) (by decide), (show (0 : Int) < 300 by decide), (show 6 ≤ sizeLine by decide), _, rfl, cd (by decide) (by decide), (show (0 : Int) < 6 by decide), _, e1, ?_⟩
    refine ⟨_, rfl, _, rfl, _, rfl, cd (by decide) (by decide), (show (0 : Int) < 40 by decide), (show 6 ≤ sizeLine by decide), _, rfl, cd (by decide) (by decide), (show (0 : Int) < 6 by decide), _, e2, ?_⟩
    obtain ⟨r4, hr4, e4⟩ := atI_in (xs := [(Kd.t low (low + up)).d, (Kd.t low (low + up)).d, (Kd.t low (low + up)).d, (Kd.s wd).d]) (i := m / 7 % 8 - 4) (by omega) (by show m / 7 % 8 - 4 < 4; omega)
    refine ⟨_, rfl, _, rfl, (show 2 ≤ sizeLine by decide), _, rfl, _, rfl, (show 2 ≤ sizeLine by decide), _, rfl, _, rfl, (show 2 ≤ sizeLine by decide), (show 5 ≤ sizeLine by decide), _, rfl, cd (by decide) (by decide), (show (0 : Int) < 5 by decide), _, e3, (show 4 ≤ sizeLine by decide), _, rfl, _, e4, ?_⟩
    simp only [List.mem_cons, List.not_mem_nil, or_false] at hr4
    rcases hr4 with rfl | rfl | rfl | rfl
    · exact q _
    · exact q _
    · exact q _
    · exact q _
theorem c_ldue (d : Df K mg "_law_due" s__law_due ["_law_names", "_law_module", "_law_sheet"]) (n_int : mg "int" = none) (c__law_is_name : Cal P w K mg base j "_law_is_name" ["_law_text"] (sdS fun x => .bl (nameB x))) : Cal P w K mg base (j + 1) "_law_due" ["_law_names", "_law_module", "_law_sheet"] sdDue := by
  refine d.cal sc__law_due (fun ds P P' f ⟨xs, a, b, e, h, q⟩ => ⟨xs, a, b, e, h, f _ q⟩) (fun ds Q ⟨_, _, _, e, _⟩ => by rw [e]; rfl) (fun f cdv A outer s H E hr => have hu := hr.units; have hh := hr.hd; have sc := sc__law_due
    (ss_cons (s_for PassesOwn.never rfl (i_any (dv 0)) (g_name (i := 3) sc.nd rfl (Or.inl rfl)) (ss_one (s_if (t_not (t_tru (d_cal c__law_is_name hr (by omega) (by rfl) (a_cons (dv 3) a_nil)))) (ss_one (s_ret d_str)) ss_nil)))
  (ss_cons (s_if (t_not (t_tru (dv 1))) (ss_one (s_ret d_str)) ss_nil)
  (ss_one (s_ret (d_ix (d_lst (a_ck (by rfl))) (d_int_of (by rfl) n_int (a_cons (d_not (dv 2)) a_nil)) (fun _ _ => rfl))))))) ?_
  rintro ds Q ⟨xs, bm, bs, rfl, hx, q⟩
  refine ⟨_, rfl, _, rfl, fun i δ => (xs.take i).all nameB = true ∧ ∃ y, δ = [some (.lst (xs.map D.str)), some (.bl bm), some (.bl bs), y], ⟨rfl, none, rfl⟩, ?_, ?_⟩
  · rintro i dx δ hd ⟨hi, y, rfl⟩
    rw [List.getElem?_map] at hd
    cases hb : xs[i]? with
    | none => rw [hb] at hd; cases hd
    | some c =>
      rw [hb] at hd
      cases hd
      have hin : c ∈ xs := List.mem_of_getElem? hb
      refine ⟨_, rfl, c, rfl, hx c hin, nameB c, rfl, ?_⟩
      cases hc : nameB c with
      | true =>
        refine iteF ⟨?_, some (.str c), rfl⟩
        rw [List.take_add_one, hb, List.all_append, hi]
        simp [hc]
      | false =>
        refine iteT ?_
        have hall : xs.all nameB = false := by
          rw [List.all_eq_false]
          exact ⟨c, hin, by simp [hc]⟩
        unfold dueS at q
        rw [hall] at q
        exact q
  · rintro δ ⟨hi, y, rfl⟩
    have hall : xs.all nameB = true := by rwa [List.length_map, List.take_length] at hi
    unfold dueS at q
    rw [hall] at q
    cases bm with
    | false => exact ⟨_, rfl, false, rfl, iteT q⟩
    | true =>
      cases bs with
      | false => exact ⟨_, rfl, true, rfl, iteF ⟨(show 2 ≤ sizeLine by decide), _, rfl, _, rfl, .inr ⟨true, rfl, _, rfl, q⟩⟩⟩
      | true => exact ⟨_, rfl, true, rfl, iteF ⟨(show 2 ≤ sizeLine by decide), _, rfl, _, rfl, .inr ⟨false, rfl, _, rfl, q⟩⟩⟩
theorem c_iskind (d : Df K mg "_law_is_kind" s__law_is_kind ["_law_kind_here", "_law_only"]) (n_isinstance : mg "isinstance" = none) (n_str : mg "str" = none) : Cal P w K mg base (j + 1) "_law_is_kind" ["_law_kind_here", "_law_only"] sdIsK := by
  refine d.cal sc__law_is_kind (fun ds P P' f ⟨k, b, e, q⟩ => ⟨k, b, e, f _ q⟩) (fun ds Q ⟨_, _, e, _⟩ => by rw [e]; rfl) (fun f cdv A outer s H E hr => have hu := hr.units; have hh := hr.hd; have sc := sc__law_is_kind
    (ss_cons (s_if (t_tru (isi_str (by rfl) n_isinstance (by rfl) n_str (dv 0))) (ss_one (s_ret (d_in (dv 0) (d_tup (a_ck (by rfl))) (by rfl)))) ss_nil)
  (ss_one (s_ret (d_and (d_not (dv 1)) (d_and (d_le (d_neg d_int) (d_ix (dv 0) d_int (fun _ _ => rfl))) (d_and (d_le (d_ix (dv 0) d_int (fun _ _ => rfl)) (d_ix (dv 0) d_int (fun _ _ => rfl))) (d_one (d_le (d_ix (dv 0) d_int (fun _ _ => rfl)) d_int))))))))) ?_
  rintro ds Q ⟨k, b, rfl, q⟩
  cases k with
  | s x =>
    refine ⟨_, rfl, true, rfl, true, rfl, iteT ⟨_, rfl, (show 2 ≤ sizeLine by decide), rfl, rfl, ?_⟩⟩
    have e := in_strs x ["truth", "number"]
    show Q (.bl (inD (.str x) [.str "truth", .str "number"]))
    refine castB e.symm (castB ?_ q)
    unfold kindB Kd.plainB Kd.stretchB
    cases b <;> simp
  | t a c =>
    refine ⟨_, rfl, false, rfl, false, rfl, iteF ⟨_, rfl, _, rfl, !b, rfl, ?_⟩⟩
    cases b with
    | true => exact iteF q
    | false =>
      have q : Q (.bl (false || (inB a && (inB c && decide (a ≤ c))))) := q
      refine iteT ⟨_, rfl, _, rfl, _, rfl, _, rfl, ?_⟩
      by_cases h1 : (-128 : Int) ≤ a
      · rw [decide_eq_true h1]
        refine iteT ⟨_, rfl, _, rfl, _, rfl, _, rfl, _, rfl, ?_⟩
        by_cases h2 : a ≤ c
        · rw [decide_eq_true h2]
          refine iteT ⟨_, rfl, _, rfl, ?_⟩
          refine castB ?_ q
          unfold inB
          by_cases h3 : c ≤ 127
          · simp only [decide_eq_true h1, decide_eq_true h2, decide_eq_true h3, decide_eq_true (show a ≤ 127 by omega), decide_eq_true (show (-128 : Int) ≤ c by omega), Bool.false_or, Bool.and_true]
          · simp only [decide_eq_true h1, decide_eq_true h2, decide_eq_false h3, Bool.and_false, Bool.false_and, Bool.false_or]
        · rw [decide_eq_false h2]
          refine iteF (castB ?_ q)
          simp only [decide_eq_false h2, Bool.and_false, Bool.false_or]
      · rw [decide_eq_false h1]
        refine iteF (castB ?_ q)
        unfold inB
        simp only [decide_eq_false h1, Bool.false_and, Bool.false_or]
end
end K11

-- gen set Xf need_name need_sheet need_word need_on _law_right
-- gen set Xc Input Row Use
-- gen set U _law_marks
-- gen set inT is_plain_kind
set_option maxHeartbeats 4000000
namespace K11
open PySem PySem.Spec PyProof.Rows L2 DC
structure KindOf (K : PySem.W.Frag) (C : Addr) (cs : List Addr) (bs : List Bool) : Prop where
  ty : ExcTy K C
  at_ : ∀ (i : Nat) (c : Addr) (b : Bool), cs[i]? = some c → bs[i]? = some b → PySem.W.kitOne K (.ref C) (.ref c) = some b
  ve : PySem.W.kitOne K (.ref C) (.type "ValueError") = some true
def nameBs : List Bool := [true, false, false, false, false, false, false, false, false, false, false]
def sheetBs : List Bool := [false, false, false, true, false, false, false, false, false, false, false]
def erStr : Er → Str
  | .name => "name"
  | .sheet => "sheet"
def sdMarks (ea : EA) : SpD := fun ds Q => ∃ (a : Addr) (k : Er), ds = [.exc a (ea.c k) []] ∧ Q (.str (erStr k))
theorem m_marks {ea : EA} : MonoS (sdMarks ea) := fun ds P P' f ⟨a, k, e, q⟩ => ⟨a, k, e, f _ q⟩
structure KAll (K : PySem.W.Frag) (mg : Str → Option Value) (ea : EA) : Prop where
  ex : ∃ c2 c3 c5 c6 c7 c8 c9 c10 c11 : Addr, mg "NoPart" = some (.ref c2) ∧ mg "NoText" = some (.ref c3) ∧ mg "NoKind" = some (.ref c5) ∧ mg "NoBeat" = some (.ref c6) ∧ mg "Ring" = some (.ref c7) ∧ mg "NoInput" = some (.ref c8) ∧ mg "NoState" = some (.ref c9) ∧ mg "NoClaim" = some (.ref c10) ∧ mg "TooMany" = some (.ref c11) ∧
    KindOf K ea.noName [ea.noName, c2, c3, ea.noSheet, c5, c6, c7, c8, c9, c10, c11] nameBs ∧ KindOf K ea.noSheet [ea.noName, c2, c3, ea.noSheet, c5, c6, c7, c8, c9, c10, c11] sheetBs
theorem boot_ValueError : bootBuiltins "ValueError" = some (.type "ValueError") := by kernel_rfl
section
seal wpAny
variable {P : Program} {w : World} {K : PySem.W.Frag} {mg : Str → Option Value} {base : Heap} {A : Adr} {n j : Nat} {ea : EA} {C : Addr} {dd : List D}
theorem cu_marks (d : Df K mg "_law_marks" s__law_marks ["_law_e"]) (n_isinstance : mg "isinstance" = none) (n_ValueError : mg "ValueError" = none) (eo : EOk K mg ea) (k11 : KAll K mg ea) : CalU P w K mg base (j + 1) "_law_marks" ["_law_e"] (sdMarks ea) := by
  have i_NoName := eo.iN
  have i_NoSheet := eo.iS
  obtain ⟨c2, c3, c5, c6, c7, c8, c9, c10, c11, i_NoPart, i_NoText, i_NoKind, i_NoBeat, i_Ring, i_NoInput, i_NoState, i_NoClaim, i_TooMany, kn, ks⟩ := k11.ex
  refine d.calU sc__law_marks m_marks (fun ds Q ⟨a, k, e, _⟩ => by rw [e]; rfl) (fun f cdv A outer s H E hr hho => have hu := roomU_units hr; have sc := sc__law_marks
    (ss_cons (s_set (i := 1) sc.nd rfl (Or.inl rfl) (d_lst (a_cons (d_isiEC K rfl (dv 0) (by rfl) n_isinstance (by rfl) i_NoName) (a_cons (d_isiEC K rfl (dv 0) (by rfl) n_isinstance (by rfl) i_NoPart) (a_cons (d_isiEC K rfl (dv 0) (by rfl) n_isinstance (by rfl) i_NoText) (a_cons (d_isiEC K rfl (dv 0) (by rfl) n_isinstance (by rfl) i_NoSheet) a_nil))))))
  (ss_cons (s_set (i := 1) sc.nd rfl (Or.inl rfl) (d_add (dv 1) (d_lst (a_cons (d_isiEC K rfl (dv 0) (by rfl) n_isinstance (by rfl) i_NoKind) (a_cons (d_isiEC K rfl (dv 0) (by rfl) n_isinstance (by rfl) i_NoBeat) (a_cons (d_isiEC K rfl (dv 0) (by rfl) n_isinstance (by rfl) i_Ring) (a_cons (d_isiEC K rfl (dv 0) (by rfl) n_isinstance (by rfl) i_NoInput) a_nil)))))))
  (ss_cons (s_set (i := 1) sc.nd rfl (Or.inl rfl) (d_add (dv 1) (d_lst (a_cons (d_isiEC K rfl (dv 0) (by rfl) n_isinstance (by rfl) i_NoState) (a_cons (d_isiEC K rfl (dv 0) (by rfl) n_isinstance (by rfl) i_NoClaim) (a_cons (d_isiEC K rfl (dv 0) (by rfl) n_isinstance (by rfl) i_TooMany) a_nil))))))
  (ss_cons (s_if (PWd.td (w_or (t_ne hu (d_countT (dv 1) (a_ck (by rfl))) d_int) (w_or1 (t_not (t_tru (d_isiET K rfl (dv 0) (by rfl) n_isinstance (by rfl) n_ValueError boot_ValueError)))))) (ss_one (s_ret d_str)) ss_nil)
  (ss_cons (s_set (i := 2) sc.nd rfl (Or.inl rfl) (d_lst (a_ck (by rfl))))
  (ss_one (s_ret (d_ix (dv 2) (d_indexT (dv 1) (a_ck (by rfl))) (fun _ _ => rfl)))))))))) ?_
  rintro ds Q ⟨a, k, rfl, q⟩
  cases k with
  | name =>
    refine ⟨_, rfl, a, _, _, true, rfl, kn.ty, kn.at_ 0 _ _ rfl rfl, _, rfl, a, _, _, false, rfl, kn.ty, kn.at_ 1 _ _ rfl rfl, _, rfl, a, _, _, false, rfl, kn.ty, kn.at_ 2 _ _ rfl rfl, _, rfl, a, _, _, false, rfl, kn.ty, kn.at_ 3 _ _ rfl rfl, (show 4 ≤ sizeLine by decide), ?_⟩
    refine ⟨_, rfl, _, rfl, a, _, _, false, rfl, kn.ty, kn.at_ 4 _ _ rfl rfl, _, rfl, a, _, _, false, rfl, kn.ty, kn.at_ 5 _ _ rfl rfl, _, rfl, a, _, _, false, rfl, kn.ty, kn.at_ 6 _ _ rfl rfl, _, rfl, a, _, _, false, rfl, kn.ty, kn.at_ 7 _ _ rfl rfl, (show 4 ≤ sizeLine by decide), (show 8 ≤ sizeLine by decide), ?_⟩
    refine ⟨_, rfl, _, rfl, a, _, _, false, rfl, kn.ty, kn.at_ 8 _ _ rfl rfl, _, rfl, a, _, _, false, rfl, kn.ty, kn.at_ 9 _ _ rfl rfl, _, rfl, a, _, _, false, rfl, kn.ty, kn.at_ 10 _ _ rfl rfl, (show 3 ≤ sizeLine by decide), (show 11 ≤ sizeLine by decide), ?_⟩
    refine ⟨_, rfl, [true, false, false, false, false, false, false, false, false, false, false], rfl, rfl, _, rfl, iteF ⟨_, rfl, a, _, _, true, rfl, kn.ty, kn.ve, true, rfl, iteF ?_⟩⟩
    exact ⟨(show 11 ≤ sizeLine by decide), _, rfl, _, rfl, [true, false, false, false, false, false, false, false, false, false, false], rfl, rfl, 0, rfl, (fun m hm => by omega), (by decide), _, rfl, q⟩
  | sheet =>
    refine ⟨_, rfl, a, _, _, false, rfl, ks.ty, ks.at_ 0 _ _ rfl rfl, _, rfl, a, _, _, false, rfl, ks.ty, ks.at_ 1 _ _ rfl rfl, _, rfl, a, _, _, false, rfl, ks.ty, ks.at_ 2 _ _ rfl rfl, _, rfl, a, _, _, true, rfl, ks.ty, ks.at_ 3 _ _ rfl rfl, (show 4 ≤ sizeLine by decide), ?_⟩
    refine ⟨_, rfl, _, rfl, a, _, _, false, rfl, ks.ty, ks.at_ 4 _ _ rfl rfl, _, rfl, a, _, _, false, rfl, ks.ty, ks.at_ 5 _ _ rfl rfl, _, rfl, a, _, _, false, rfl, ks.ty, ks.at_ 6 _ _ rfl rfl, _, rfl, a, _, _, false, rfl, ks.ty, ks.at_ 7 _ _ rfl rfl, (show 4 ≤ sizeLine by decide), (show 8 ≤ sizeLine by decide), ?_⟩
    refine ⟨_, rfl, _, rfl, a, _, _, false, rfl, ks.ty, ks.at_ 8 _ _ rfl rfl, _, rfl, a, _, _, false, rfl, ks.ty, ks.at_ 9 _ _ rfl rfl, _, rfl, a, _, _, false, rfl, ks.ty, ks.at_ 10 _ _ rfl rfl, (show 3 ≤ sizeLine by decide), (show 11 ≤ sizeLine by decide), ?_⟩
    refine ⟨_, rfl, [false, false, false, true, false, false, false, false, false, false, false], rfl, rfl, _, rfl, iteF ⟨_, rfl, a, _, _, true, rfl, ks.ty, ks.ve, true, rfl, iteF ?_⟩⟩
    exact ⟨(show 11 ≤ sizeLine by decide), _, rfl, _, rfl, [false, false, false, true, false, false, false, false, false, false, false], rfl, rfl, 3, rfl, (fun m hm => by match m, hm with | 0, _ => rfl | 1, _ => rfl | 2, _ => rfl), (by decide), _, rfl, q⟩
end
end K11

-- gen set Xf need_name need_sheet need_word need_on _law_right
-- gen set Xc Input Row Use
-- gen set U _law_marks
-- gen set inT is_plain_kind
set_option maxHeartbeats 4000000
namespace K11
open PySem PySem.Spec PyProof.Rows L2 DC
def erS : Option Er → Str
  | none => ""
  | some e => erStr e
def outE (ea : EA) (r : Option Er) (Q : Prop) (R : XR) : Prop := match r with
  | none => Q
  | some e => R (ea.c e) []
def resI (x : Str) (k : Kd) (o : Option Str) : Option Er := if nameB x = true then (if onB o = true then (if (k.plainB || k.stretchB) = true then none else some .sheet) else some .name) else some .name
def resR (x : Str) (k : Kd) (o : Option Str) : Option Er := if nameB x = true then (if onB o = true then (if k.plainB = true then none else some .sheet) else some .name) else some .name
def resU (bs : List Str) (m : Str) (o : Option Str) : Option Er := if bs.all nameB = true then (if onB o = true then (if wordB m = true then (if useB bs = true then none else some .sheet) else some .name) else some .name) else some .name
section
variable {ea : EA} {x m : Str} {k : Kd} {o : Option Str} {bs : List Str} {Q : Prop} {R : XR}
theorem outI_of (h : outE ea (resI x k o) Q R) : outI ea x k o Q R := by
  unfold resI at h
  unfold outI outN EA.r
  generalize (k.plainB || k.stretchB) = z at h ⊢
  cases h1 : nameB x <;> cases h2 : onB o <;> cases z <;> simp only [h1, h2, if_true, if_false, Bool.false_eq_true] at h ⊢ <;> exact h
theorem outR_of (h : outE ea (resR x k o) Q R) : outR ea x k o Q R := by
  unfold resR at h
  unfold outR outN EA.r
  cases h1 : nameB x <;> cases h2 : onB o <;> cases h3 : k.plainB <;> simp only [h1, h2, h3, if_true, if_false, Bool.false_eq_true] at h ⊢ <;> exact h
theorem outU_of (h : outE ea (resU bs m o) Q R) : outU ea bs m o Q R := by
  unfold resU at h
  unfold outU outN EA.r
  cases h1 : bs.all nameB <;> cases h2 : onB o <;> cases h3 : wordB m <;> cases h4 : useB bs <;> simp only [h1, h2, h3, h4, if_true, if_false, Bool.false_eq_true] at h ⊢ <;> exact h
theorem all_on (xs : List Str) (o : Option Str) : (xs ++ o.toList).all nameB = (xs.all nameB && onB o) := by
  rw [List.all_append]
  cases o with
  | none => rfl
  | some y => simp [onB]
theorem due_I : dueS ([x] ++ o.toList) true (kindB k false) = erS (resI x k o) := by
  unfold dueS resI
  rw [all_on, show kindB k false = (k.plainB || k.stretchB) from rfl, show [x].all nameB = nameB x by simp]
  cases nameB x <;> cases onB o <;> cases (k.plainB || k.stretchB) <;> rfl
theorem due_R : dueS ([x] ++ o.toList) true (kindB k true) = erS (resR x k o) := by
  unfold dueS resR
  rw [all_on, show kindB k true = k.plainB from rfl, show [x].all nameB = nameB x by simp]
  cases nameB x <;> cases onB o <;> cases k.plainB <;> rfl
def useL (bs : List Str) : Bool := decide ((0 : Int) < (bs.length : Int)) && decide ((bs.length : Int) < 9)
theorem useL_B : useL bs = useB bs := by
  unfold useL useB
  have e1 : decide ((0 : Int) < (bs.length : Int)) = decide ((1 : Int) ≤ (bs.length : Int)) := by
    by_cases h : (1 : Int) ≤ (bs.length : Int)
    · rw [decide_eq_true h, decide_eq_true (by omega)]
    · rw [decide_eq_false h, decide_eq_false (by omega)]
  have e2 : decide ((bs.length : Int) < 9) = decide ((bs.length : Int) ≤ 8) := by
    by_cases h : (bs.length : Int) ≤ 8
    · rw [decide_eq_true h, decide_eq_true (by omega)]
    · rw [decide_eq_false h, decide_eq_false (by omega)]
  rw [e1, e2]
theorem due_U : dueS (bs ++ o.toList) (wordB m) (useL bs) = erS (resU bs m o) := by
  unfold dueS resU
  rw [all_on, useL_B]
  cases bs.all nameB <;> cases onB o <;> cases wordB m <;> cases useB bs <;> rfl
end
theorem on_at (y : Str) (hy : y.length ≤ 20) (i : Int) (h0 : 0 ≤ i) (h2 : i < 2) : ∃ o : Option Str, lenO o ∧ L2.atI [D.non, D.str y] i = some (onD o) := by
  have h : i = 0 ∨ i = 1 := by omega
  rcases h with rfl | rfl
  · exact ⟨none, trivial, rfl⟩
  · exact ⟨some y, Nat.le_trans hy (by decide), rfl⟩
def hitE (ea : EA) (C : Addr) : Prop := ∃ k, C = ea.c k
structure ROk (K : PySem.W.Frag) (mg : Str → Option Value) (ea : EA) : Prop where
  ex : ∃ c, mg "RowError" = some (.ref c) ∧ (∀ k, PySem.W.kitCls K (.ref (ea.c k)) (.ref c) = some true) ∧ PySem.W.mroIn K c (.type "BaseException") = some true
def gP (A : Adr) : D → D
  | .int i => (Pt.given (.int i)).d A
  | _ => .non
def gB (c : Int) : D → D
  | .int i => .str (nameOf (mixed c (30 + i)))
  | _ => .non
def gT : D → D
  | .obj _ [(_, v)] => .tup [.str "given", v]
  | _ => .non
theorem rng_ints (n : Int) (h0 : 0 ≤ n) (b : Nat) (h : n ≤ b) : ∃ is : List Int, ((List.range n.toNat).map fun i : Nat => D.int (0 + (i : Int))) = is.map D.int ∧ is.length ≤ b ∧ ∀ i ∈ is, 0 ≤ i ∧ i < n := by
  refine ⟨(List.range n.toNat).map fun i : Nat => (0 + (i : Int)), by rw [List.map_map]; rfl, by rw [List.length_map, List.length_range]; omega, fun i hi => ?_⟩
  obtain ⟨k, hk, rfl⟩ := List.mem_map.mp hi
  have := List.mem_range.mp hk
  omega
theorem sm_kind (k : Kd) : smD 1 k.d := by
  cases k with
  | s x => trivial
  | t a b => exact ⟨(by decide : 2 < 1000), fun x hx => by simp only [List.mem_cons, List.not_mem_nil, or_false] at hx; rcases hx with rfl | rfl <;> trivial⟩
def sxRight : SpX := fun ds Q _ => ∃ c : Int, ds = [.int c] ∧ Q (.bl true)
theorem m_sxRight : MonoX sxRight := fun ds P P' R R' f g ⟨c, e, h⟩ => ⟨c, e, f _ h⟩
end K11

-- gen set Xf need_name need_sheet need_word need_on _law_right
-- gen set Xc Input Row Use
-- gen set U _law_marks
-- gen set inT is_plain_kind
set_option maxHeartbeats 4000000
namespace K11
open PySem PySem.Spec PyProof.Rows L2 DC
theorem go_ok : (Pt.named "go").ok := ⟨by decide +kernel, by decide +kernel, by decide +kernel⟩
theorem self_eq {neg : Bool} {d : D} {Q : D → Prop} (e : eqScal d d = none) (p : DC.plain d = true) (c : (toP d).canLay0 = true) (hs : Nat.ble (toP d).depth 64 = true) (q : Q (.bl (!neg))) : fEq neg d d Q := by
  have s : SeqAt.shaped (toP d) = true := by unfold SeqAt.shaped; rw [c, decide_eq_true (Nat.le_of_ble_eq_true hs)]; rfl
  have ev : PyData.eqv (toP d) (toP d) = true := SeqAt.eqv_refl _ c
  unfold fEq
  rw [e]
  refine ⟨p, p, s, s, ?_⟩
  rw [ev]
  cases neg <;> exact q
theorem names_tail {x : Str} {o : Option Str} : cutD ([D.str x] ++ o.toList.map D.str) (some 1) none = o.toList.map D.str := by cases o <;> rfl
theorem sl_names {x : Str} {o : Option Str} {bs : List Str} {P : D → Prop} (hl : bs.length + o.toList.length ≤ sizeLine) (h : P (.lst (bs.map D.str ++ o.toList.map D.str))) : fSl (.lst ([.str x] ++ o.toList.map D.str)) (some 1) none fun e => fAdd (.lst (bs.map D.str)) e P := by
  show fAdd (.lst (bs.map D.str)) (.lst (cutD ([.str x] ++ o.toList.map D.str) (some 1) none)) P
  rw [names_tail]
  exact ⟨by rw [List.length_map, List.length_map]; exact hl, h⟩
theorem use_and {δ : SD} {bs : List Str} {P : D → Prop} (h7 : δ[7]? = some (some (.lst (bs.map D.str)))) (h : P (.bl (useL bs))) : vAnd (vLt (vC (.int 0)) (vB sdLen (aCons (vVar 7) aNil))) (vLt (vB sdLen (aCons (vVar 7) aNil)) (vC (.int 9))) δ P := by
  unfold useL at h
  refine ⟨_, h7, _, _, rfl, rfl, _, rfl, ?_⟩
  rw [List.length_map]
  by_cases h1 : (0 : Int) < (bs.length : Int)
  · rw [decide_eq_true h1] at h ⊢
    refine iteT ⟨_, h7, _, _, rfl, rfl, ?_⟩
    show P (.bl (decide (((bs.map D.str).length : Int) < 9)))
    rw [List.length_map]
    exact h
  · rw [decide_eq_false h1] at h ⊢
    exact iteF h
theorem sm_strs {bs : List Str} (h : bs.length ≤ 10) : smD 1 (.tup (bs.map D.str)) := ⟨by rw [List.length_map]; omega, fun x hx => by obtain ⟨y, _, rfl⟩ := List.mem_map.mp hx; exact sm_str⟩
theorem str_ne2 {x : Str} {Q : D → Prop} (h : Q (.bl false)) : fEq true (.str x) (.str x) Q := by
  show Q (.bl (if true = true then !(x == x) else (x == x)))
  rw [beq_self_eq_true]
  exact h
theorem told_len {A : Adr} {is : List Int} (h : is.length ≤ 3) : (is.map (gP A ∘ D.int)).length < sizeLine := by
  rw [List.length_map]
  exact Nat.lt_of_le_of_lt h (by decide)
theorem sm_tolds {A : Adr} {is : List Int} (h : is.length ≤ 3) : smD 2 (.lst ((mO gT (is.map (gP A ∘ D.int))).filterMap id)) := by
  rw [mO_out, List.map_map]
  refine ⟨by rw [List.length_map]; omega, fun x hx => ?_⟩
  obtain ⟨v, _, rfl⟩ := List.mem_map.mp hx
  exact ⟨(by decide : 2 < 1000), fun y hy => by simp only [List.mem_cons, List.not_mem_nil, or_false] at hy; rcases hy with rfl | rfl <;> trivial⟩
theorem told_each {A : Adr} {is : List Int} {caps : List Nat} {δ : SD} (i : Nat) (d : D) (o : Option D) (h1 : (is.map (gP A ∘ D.int))[i]? = some d) (h2 : (mO gT (is.map (gP A ∘ D.int)))[i]? = some o) :
    uYes (some d :: capD caps δ) fun b => b = o.isSome ∧ (b = true → vMeth (isP A) "told" (sdP A 1 Pt.told) [] (vVar 0) aNil (some d :: capD caps δ) fun r => o = some r) := by
  obtain ⟨hd, rfl⟩ := mO_at h1 h2
  obtain ⟨v, _, rfl⟩ := List.mem_map.mp hd
  exact ⟨rfl, fun _ => vMeth_of (p := .given (.int v)) m_var noM_told ⟨_, rfl, rfl⟩ (by show 1 ≤ 1; decide) rfl⟩
theorem on_ne {o : Option Str} {Q : D → Prop} (h : Q (.bl false)) : fEq true (onD o) (onD o) Q := by
  cases o with
  | none => exact h
  | some x =>
    show Q (.bl (if true = true then !(x == x) else (x == x)))
    rw [beq_self_eq_true]
    exact h
theorem str_eq {x : Str} {Q : D → Prop} (h : Q (.bl true)) : fEq false (.str x) (.str x) Q := by
  show Q (.bl (if false = true then !(x == x) else (x == x)))
  rw [beq_self_eq_true]
  exact h
section
seal wpAny
variable {P : Program} {w : World} {K : PySem.W.Frag} {mg : Str → Option Value} {base : Heap} {A : Adr} {n j : Nat} {ea : EA} {cI cR cU : Addr}
theorem cx_right {i : Nat} (hi : i + 1 ≤ j) (d : Df K mg "_law_right" s__law_right ["_law_cell"]) (ro : ROk K mg ea) (hA : AOk K A) (lI : LOk K cI) (lR : LOk K cR) (lU : LOk K cU) (n_range : mg "range" = none) (n_len : mg "len" = none) (n_tuple : mg "tuple" = none) (n_isinstance : mg "isinstance" = none)
    (c__law_mixed : Cal P w K mg base j "_law_mixed" ["_law_cell", "_law_k"] sdMix) (c__law_name : Cal P w K mg base j "_law_name" ["_law_mix"] sdLn) (c__law_kind : Cal P w K mg base j "_law_kind" ["_law_mix"] sdAnyK) (c_part_of : Cal P w K mg base j "part_of" ["told"] (sdOf A 4))
    (c__law_due : Cal P w K mg base j "_law_due" ["_law_names", "_law_module", "_law_sheet"] sdDue) (c__law_is_kind : Cal P w K mg base j "_law_is_kind" ["_law_kind_here", "_law_only"] sdIsK) (c__law_is_word : Cal P w K mg base j "_law_is_word" ["_law_text"] (sdS fun x => .bl (wordB x)))
    (c__law_same : Cal P w K mg base j "_law_same" ["_law_found", "_law_due_here"] (sdSame 5)) (m_told : MP P w K mg base A j "told" 1 Pt.told) (cu__law_marks : CalU P w K mg base j "_law_marks" ["_law_e"] (sdMarks ea))
    (kx_Input_3 : MkrX P w K mg base i "Input" cI (sxIn ea) []) (kx_Row_4 : MkrX P w K mg base i "Row" cR (sxRow ea) []) (kx_Use_4 : MkrX P w K mg base i "Use" cU (sxUse ea) []) :
    CalX P w K mg base (j + 1) "_law_right" ["_law_cell"] sxRight := by
  obtain ⟨cE, i_RowError, hk, be_RowError⟩ := ro.ex
  have hit_RowError : ∀ C, hitE ea C → PySem.W.kitCls K (.ref C) (.ref cE) = some true := fun C ⟨k, e⟩ => e ▸ hk k
  refine d.calXF sc__law_right m_sxRight (fun ds Q R ⟨_, e, _⟩ => by rw [e]; rfl) (fun f cdv A outer s H E R hr hx => have hu := hr.units; have hh := hr.hd; have sc := sc__law_right
    (ff_cons (ff_lift (s_set (i := 1) sc.nd rfl (Or.inl rfl) (d_cal c__law_name hr (by omega) (by rfl) (a_cons (d_cal c__law_mixed hr (by omega) (by rfl) (a_cons (dv 0) (a_cons d_int a_nil))) a_nil))))
  (ff_cons (ff_lift (s_set (i := 2) sc.nd rfl (Or.inl rfl) (d_ix (d_lst (a_cons d_non (a_cons (d_cal c__law_name hr (by omega) (by rfl) (a_cons (d_cal c__law_mixed hr (by omega) (by rfl) (a_cons (dv 0) (a_cons d_int a_nil))) a_nil)) a_nil))) (d_mod (d_div (d_cal c__law_mixed hr (by omega) (by rfl) (a_cons (dv 0) (a_cons d_int a_nil))) d_int) d_int) (fun _ _ => rfl))))
  (ff_cons (ff_lift (s_set (i := 3) sc.nd rfl (Or.inl rfl) (d_cal c__law_kind hr (by omega) (by rfl) (a_cons (d_cal c__law_mixed hr (by omega) (by rfl) (a_cons (dv 0) (a_cons d_int a_nil))) a_nil))))
  (ff_cons (ff_lift (s_set (i := 4) sc.nd rfl (Or.inl rfl) (d_add (d_lst (a_cons (dv 1) a_nil)) (d_lc (x := "_law_one") (caps := []) (cn := []) (cl := []) (comp0 (by rfl) (by rfl) (by decide +kernel) (by decide +kernel) (by decide +kernel)) rfl (i_any (d_lst (a_cons (dv 2) a_nil))) (fun C fp s₂ H₂ => pg_name (i := 0) (show (["_law_one"] : List Str).Nodup by decide +kernel) rfl (Or.inl rfl) (.inr rfl)) (fun C fp s₂ H₂ => (ts_one (t_isnot (dv 0) d_non))) (fun C fp s₂ H₂ => (dv 0))))))
  (ff_cons (ff_lift (s_set (i := 5) sc.nd rfl (Or.inl rfl) (d_mod (d_div (d_cal c__law_mixed hr (by omega) (by rfl) (a_cons (dv 0) (a_cons d_int a_nil))) d_int) d_int)))
  (ff_cons (ff_lift (s_lc (i := 6) sc.nd rfl (Or.inl rfl) (x := "_law_k") (caps := []) (cn := []) (cl := []) (comp0 (by rfl) (by rfl) (by decide +kernel) (by decide +kernel) (by decide +kernel)) rfl (i_range1 (by rfl) n_range (a_cons (d_mod (d_div (d_cal c__law_mixed hr (by omega) (by rfl) (a_cons (dv 0) (a_cons d_int a_nil))) d_int) d_int) a_nil)) (fun C fp s₂ H₂ => pg_name (i := 0) (show (["_law_k"] : List Str).Nodup by decide +kernel) rfl (Or.inl rfl) (.inr rfl)) (fun C fp s₂ H₂ => ts_nil) (fun C fp s₂ H₂ => (d_cal c_part_of hr (by omega) (by rfl) (a_cons (d_tup (a_cons d_str (a_cons (dv 0) a_nil))) a_nil)))))
  (ff_cons (ff_lift (s_lc (i := 7) sc.nd rfl (Or.inl rfl) (x := "_law_k") (caps := [0]) (cn := ["_law_cell"]) (cl := [("_law_cell", s.heap.objs.size + 1)]) (compN (by rfl) (by rfl) (by decide +kernel) (free_of ["_law_cell"] rfl (by decide +kernel)) (by decide +kernel) (cells_cons (by rfl) cells_nil) (.cons ⟨rfl, .inl rfl, rfl⟩ .nil)) rfl (i_range1 (by rfl) n_range (a_cons (d_mod (d_div (d_cal c__law_mixed hr (by omega) (by rfl) (a_cons (dv 0) (a_cons d_int a_nil))) d_int) d_int) a_nil)) (fun C fp s₂ H₂ => pg_name (i := 0) (show (["_law_k", "_law_cell"] : List Str).Nodup by decide +kernel) rfl (Or.inl rfl) (.inr rfl)) (fun C fp s₂ H₂ => ts_nil) (fun C fp s₂ H₂ => (d_cal c__law_name hr (by omega) (by rfl) (a_cons (d_cal c__law_mixed hr (by omega) (by rfl) (a_cons (dv 1) (a_cons (d_add d_int (dv 0)) a_nil))) a_nil)))))
  (ff_cons (ff_lift (s_set (i := 8) sc.nd rfl (Or.inl rfl) (d_cal c__law_name hr (by omega) (by rfl) (a_cons (d_cal c__law_mixed hr (by omega) (by rfl) (a_cons (dv 0) (a_cons d_int a_nil))) a_nil))))
  (ff_cons (ff_lift (s_if (t_lt (dv 5) d_int) (ss_one (s_set (i := 9) sc.nd rfl (Or.inl rfl) (d_cal c__law_due hr (by omega) (by rfl) (a_cons (dv 4) (a_cons d_bl (a_cons (d_cal c__law_is_kind hr (by omega) (by rfl) (a_cons (dv 3) (a_cons (d_eq hu (dv 5) d_int) a_nil))) a_nil)))))) (ss_cons (s_set (i := 10) sc.nd rfl (Or.inl rfl) (d_cal c__law_is_word hr (by omega) (by rfl) (a_cons (dv 8) a_nil)))
  (ss_one (s_set (i := 9) sc.nd rfl (Or.inl rfl) (d_cal c__law_due hr (by omega) (by rfl) (a_cons (d_add (dv 7) (d_slice (dv 4) (o_some d_int) o_none)) (a_cons (dv 10) (a_cons (d_and (d_lt d_int (d_len (by rfl) n_len (a_cons (dv 7) a_nil))) (d_one (d_lt (d_len (by rfl) n_len (a_cons (dv 7) a_nil)) d_int))) a_nil)))))))))
  (ff_cons (ff_try (i := 12) rfl rfl rfl sc.nd rfl rfl (by rfl) i_RowError hit_RowError be_RowError (fun pins E' xk hx => (ss_one (s_if (t_eq hu (dv 5) d_int) (ss_one (s_set (i := 11) sc.nd rfl (Or.inl rfl) (d_mkX hx kx_Input_3 hr (by omega) (by rfl) (a_cons (dv 1) (a_cons (dv 3) (a_cons (dv 2) a_nil)))))) (ss_one (s_if (t_eq hu (dv 5) d_int) (ss_one (s_set (i := 11) sc.nd rfl (Or.inl rfl) (d_mkX hx kx_Row_4 hr (by omega) (by rfl) (a_cons (dv 1) (a_cons (dv 3) (a_cons (d_cal c_part_of hr (by omega) (by rfl) (a_cons (d_tup (a_ck (by rfl))) a_nil)) (a_cons (dv 2) a_nil))))))) (ss_one (s_set (i := 11) sc.nd rfl (Or.inl rfl) (d_mkX hx kx_Use_4 hr (by omega) (by rfl) (a_cons (dv 7) (a_cons (dv 8) (a_cons (dv 6) (a_cons (dv 2) a_nil))))))))))))
  (fun ea => (ss_one (s_ret (d_eq hu (d_calU rfl cu__law_marks (hr.mark _) (by omega) (by rfl) (a_cons (dv 12) a_nil)) (dv 9))))))
  (ff_all (ss_cons (s_if (PWd.td (w_or (t_ne hu (dv 9) d_str) (w_or1 (t_ne hu (d_fldK K rfl (dv 11) (by rfl)) (dv 2))))) (ss_one (s_ret d_bl)) ss_nil)
  (ss_cons (s_if (t_eq hu (dv 5) d_int) (ss_cons (s_if (PWd.td (w_or (t_not (t_tru (d_cal c__law_same hr (by omega) (by rfl) (a_cons (d_fldK K rfl (dv 11) (by rfl)) (a_cons (d_tuple_of (by rfl) n_tuple (a_cons (dv 7) a_nil)) a_nil))))) (w_or (t_ne hu (d_fldK K rfl (dv 11) (by rfl)) (dv 8)) (w_or1 (t_not (t_tru (isi_tuple (by rfl) n_isinstance (by rfl) n_tuple (d_fldK K rfl (dv 11) (by rfl))))))))) (ss_one (s_ret d_bl)) ss_nil)
  (ss_one (s_ret (d_cal c__law_same hr (by omega) (by rfl) (a_cons (d_lc (x := "_law_part") (caps := []) (cn := []) (cl := []) (comp0 (by rfl) (by rfl) (by decide +kernel) (by decide +kernel) (by decide +kernel)) rfl (i_any (d_fldK K rfl (dv 11) (by rfl))) (fun C fp s₂ H₂ => pg_name (i := 0) (show (["_law_part"] : List Str).Nodup by decide +kernel) rfl (Or.inl rfl) (.inr rfl)) (fun C fp s₂ H₂ => ts_nil) (fun C fp s₂ H₂ => (d_m0 m_told hr (by omega) (dv 0)))) (a_cons (d_lc (x := "_law_part") (caps := []) (cn := []) (cl := []) (comp0 (by rfl) (by rfl) (by decide +kernel) (by decide +kernel) (by decide +kernel)) rfl (i_any (dv 6)) (fun C fp s₂ H₂ => pg_name (i := 0) (show (["_law_part"] : List Str).Nodup by decide +kernel) rfl (Or.inl rfl) (.inr rfl)) (fun C fp s₂ H₂ => ts_nil) (fun C fp s₂ H₂ => (d_m0 m_told hr (by omega) (dv 0)))) a_nil)))))) ss_nil)
  (ss_one (s_ret (d_and (d_eq hu (d_fldK K rfl (dv 11) (by rfl)) (dv 1)) (d_and (d_cal c__law_same hr (by omega) (by rfl) (a_cons (d_fldK K rfl (dv 11) (by rfl)) (a_cons (dv 3) a_nil))) (d_one (d_or (d_eq hu (dv 5) d_int) (d_one (d_eq hu (d_m0 m_told hr (by omega) (d_fldK K rfl (dv 11) (by rfl))) (d_tup (a_ck (by rfl))))))))))))))))))))))))) ?_
  rintro ds Q R ⟨c, rfl, q⟩
  have h1 : 1 ≤ sizeLine := by decide
  have h2 : 2 ≤ sizeLine := by decide
  refine ⟨_, rfl, _, _, rfl, _, rfl, ?_⟩
  have hx := name_len (mixed c 1)
  generalize nameOf (mixed c 1) = x at hx ⊢
  obtain ⟨o, ho, eo⟩ := on_at (nameOf (mixed c 2)) (name_len _) (mixed c 3 / 7 % 2) (mod_lo _ (by decide)) (mod_hi _ (by decide))
  refine ⟨_, rfl, _, _, rfl, _, rfl, h2, _, rfl, _, _, rfl, cd (by decide) (by decide), (show (0 : Int) < 2 by decide), _, eo, ?_⟩
  refine ⟨_, rfl, _, _, rfl, _, rfl, fun k => ?_⟩
  refine ⟨_, rfl, h1, _, rfl, h1, _, rfl, [o.map D.str], rfl, ?_, (show 1 < sizeLine by decide), ?_⟩
  · intro i d u g1 g2
    match i, g1, g2 with
    | 0, g1, g2 =>
      cases g1
      cases g2
      cases o with
      | none => exact ⟨_, rfl, false, rfl, rfl, fun z => nomatch z⟩
      | some y => exact ⟨_, rfl, true, rfl, rfl, fun _ => ⟨_, rfl, rfl⟩⟩
    | i + 1, g1, g2 => cases g1
  rw [show ([o.map D.str]).filterMap id = o.toList.map D.str by cases o <;> rfl]
  refine ⟨(show 1 + (o.toList.map D.str).length ≤ sizeLine by rw [List.length_map]; exact Nat.le_trans (show 1 + o.toList.length ≤ 2 by cases o <;> simp) h2), ?_⟩
  have w0 := mod_lo (mixed c 5 / 7) (show (0 : Int) < 3 by decide)
  have w1 := mod_hi (mixed c 5 / 7) (show (0 : Int) < 3 by decide)
  refine ⟨_, rfl, _, _, rfl, cd (by decide) (by decide), (show (0 : Int) < 3 by decide), ?_⟩
  dsimp only
  generalize mixed c 5 / 7 % 3 = wy at w0 w1 ⊢
  have p0 := mod_lo (mixed c 6 / 7) (show (0 : Int) < 4 by decide)
  have p1 := mod_hi (mixed c 6 / 7) (show (0 : Int) < 4 by decide)
  obtain ⟨is, eis, his, hii⟩ := rng_ints (mixed c 6 / 7 % 4) p0 3 (by omega)
  refine ⟨_, rfl, _, _, rfl, cd (by decide) (by decide), (show (0 : Int) < 4 by decide), _, rfl, (by show -(2 ^ 62 : Int) ≤ mixed c 6 / 7 % 4; omega), (by show mixed c 6 / 7 % 4 < (2 ^ 62 : Int); omega), mO (gP A) (is.map D.int), (by rw [eis]; exact mO_len), ?_, ?_, ?_⟩
  · intro i d u g1 g2
    rw [eis] at g1
    obtain ⟨hd, rfl⟩ := mO_at g1 g2
    obtain ⟨v, hv, rfl⟩ := List.mem_map.mp hd
    have hv' := hii v hv
    exact ⟨rfl, fun _ => ⟨_, rfl, h2, .given (.int v), rfl, (by show 1 ≤ 4; decide), (.inr ⟨v, rfl, by omega, by omega⟩), ⟨(by show 1 ≤ 10; decide), (by show 1 ≤ 40; decide)⟩, rfl⟩⟩
  · rw [eis, List.length_map]
    exact Nat.lt_of_le_of_lt his (by decide)
  rw [mO_out, List.map_map]
  have b0 := mod_lo (mixed c 7 / 7) (show (0 : Int) < 11 by decide)
  have b1 := mod_hi (mixed c 7 / 7) (show (0 : Int) < 11 by decide)
  obtain ⟨js, ejs, hjs, hjj⟩ := rng_ints (mixed c 7 / 7 % 11) b0 10 (by omega)
  refine ⟨_, rfl, _, _, rfl, cd (by decide) (by decide), (show (0 : Int) < 11 by decide), _, rfl, (by show -(2 ^ 62 : Int) ≤ mixed c 7 / 7 % 11; omega), (by show mixed c 7 / 7 % 11 < (2 ^ 62 : Int); omega), mO (gB c) (js.map D.int), (by rw [ejs]; exact mO_len), ?_, ?_, ?_⟩
  · intro i d u g1 g2
    rw [ejs] at g1
    obtain ⟨hd, rfl⟩ := mO_at g1 g2
    obtain ⟨v, hv, rfl⟩ := List.mem_map.mp hd
    exact ⟨rfl, fun _ => ⟨_, rfl, _, rfl, _, _, rfl, _, rfl, rfl⟩⟩
  · rw [ejs, List.length_map]
    exact Nat.lt_of_le_of_lt hjs (by decide)
  rw [mO_out, List.map_map]
  obtain ⟨bs, ebs, hbl, hbs⟩ : ∃ bs : List Str, js.map (gB c ∘ D.int) = bs.map D.str ∧ bs.length ≤ 10 ∧ ∀ x ∈ bs, x.length ≤ 20 := ⟨js.map fun v => nameOf (mixed c (30 + v)), by rw [List.map_map]; rfl, by rw [List.length_map]; exact hjs, fun x hx => by obtain ⟨v, _, rfl⟩ := List.mem_map.mp hx; exact name_len _⟩
  rw [ebs]
  refine ⟨_, rfl, _, _, rfl, _, rfl, ?_⟩
  have hm := name_len (mixed c 8)
  generalize nameOf (mixed c 8) = m at hm ⊢
  have hm5 : m.length ≤ 100000 := Nat.le_trans hm (by decide)
  have hx5 : x.length ≤ 100000 := Nat.le_trans hx (by decide)
  have hb5 : ∀ x ∈ bs, x.length ≤ 100000 := fun x h => Nat.le_trans (hbs x h) (by decide)
  have hnl : ∀ y ∈ [x] ++ o.toList, y.length ≤ 100000 := fun y hy => by
    rcases List.mem_append.mp hy with h | h
    · rw [List.mem_singleton.mp h]; exact hx5
    · cases o with
      | none => cases h
      | some z => rw [List.mem_singleton.mp h]; exact ho
  have hw : wy = 0 ∨ wy = 1 ∨ wy = 2 := by omega
  rcases hw with rfl | rfl | rfl
  · refine ⟨_, rfl, true, rfl, iteT ⟨_, rfl, _, rfl, _, rfl, k, false, rfl, [x] ++ o.toList, true, kindB k false, ?_, hnl, ?_⟩⟩
    · rw [List.map_append]; rfl
    rw [due_I]
    refine ⟨fun δ C gs => δ = [some (.int c), some (.str x), some (onD o), some k.d, some (.lst ([.str x] ++ o.toList.map D.str)), some (.int 0), some (.lst (is.map (gP A ∘ D.int))), some (.lst (bs.map D.str)), some (.str m), some (.str (erS (resI x k o))), none, none, none] ∧ gs = [] ∧ ∃ e, resI x k o = some e ∧ C = ea.c e, ?_, ?_⟩
    · rintro δ' C gs ⟨rfl, rfl, e, he, rfl⟩
      refine ⟨⟨e, rfl⟩, fun a => ⟨_, rfl, ⟨_, _, List.mem_singleton.mpr rfl⟩, a, e, rfl, _, rfl, ?_⟩⟩
      rw [he]
      show Q (.bl (erStr e == erStr e))
      rw [beq_self_eq_true]
      exact q
    · refine ⟨_, rfl, true, rfl, iteT ⟨_, rfl, _, rfl, _, rfl, x, k, o, rfl, hx5, ho, outI_of ?_⟩⟩
      cases hr : resI x k o with
      | some e => exact ⟨rfl, rfl, e, rfl, rfl⟩
      | none =>
        refine ⟨_, rfl, false, rfl, iteF ⟨_, rfl, cI, _, _, rfl, lI.cl, lI.nof _ (by decide), rfl, _, rfl, on_ne ⟨false, rfl, iteF ?_⟩⟩⟩
        refine ⟨_, rfl, false, rfl, iteF ?_⟩
        refine ⟨_, rfl, cI, _, _, rfl, lI.cl, lI.nof _ (by decide), rfl, _, rfl, str_eq ⟨true, rfl, iteT ?_⟩⟩
        exact ⟨_, rfl, cI, _, _, rfl, lI.cl, lI.nof _ (by decide), rfl, _, rfl, k.d, 1, rfl, (by decide), sm_kind k, true, rfl, iteT ⟨_, rfl, true, rfl, iteT q⟩⟩
  · refine ⟨_, rfl, true, rfl, iteT ⟨_, rfl, _, rfl, _, rfl, k, true, rfl, [x] ++ o.toList, true, kindB k true, ?_, hnl, ?_⟩⟩
    · rw [List.map_append]; rfl
    rw [due_R]
    refine ⟨fun δ C gs => δ = [some (.int c), some (.str x), some (onD o), some k.d, some (.lst ([.str x] ++ o.toList.map D.str)), some (.int 1), some (.lst (is.map (gP A ∘ D.int))), some (.lst (bs.map D.str)), some (.str m), some (.str (erS (resR x k o))), none, none, none] ∧ gs = [] ∧ ∃ e, resR x k o = some e ∧ C = ea.c e, ?_, ?_⟩
    · rintro δ' C gs ⟨rfl, rfl, e, he, rfl⟩
      refine ⟨⟨e, rfl⟩, fun a => ⟨_, rfl, ⟨_, _, List.mem_singleton.mpr rfl⟩, a, e, rfl, _, rfl, ?_⟩⟩
      rw [he]
      show Q (.bl (erStr e == erStr e))
      rw [beq_self_eq_true]
      exact q
    · refine ⟨_, rfl, false, rfl, iteF ⟨_, rfl, true, rfl, iteT ⟨_, rfl, _, rfl, h2, .named "go", rfl, (by show 1 ≤ 4; decide), go_ok, ⟨(by show 1 ≤ 10; decide), (by show 1 ≤ 40; decide)⟩, _, rfl, x, k, (Pt.named "go").d A, o, rfl, hx5, ho, outR_of ?_⟩⟩⟩
      cases hr : resR x k o with
      | some e => exact ⟨rfl, rfl, e, rfl, rfl⟩
      | none =>
        refine ⟨_, rfl, false, rfl, iteF ⟨_, rfl, cR, _, _, rfl, lR.cl, lR.nof _ (by decide), rfl, _, rfl, on_ne ⟨false, rfl, iteF ?_⟩⟩⟩
        refine ⟨_, rfl, false, rfl, iteF ?_⟩
        refine ⟨_, rfl, cR, _, _, rfl, lR.cl, lR.nof _ (by decide), rfl, _, rfl, str_eq ⟨true, rfl, iteT ?_⟩⟩
        refine ⟨_, rfl, cR, _, _, rfl, lR.cl, lR.nof _ (by decide), rfl, _, rfl, k.d, 1, rfl, (by decide), sm_kind k, true, rfl, iteT ⟨_, rfl, false, rfl, iteF ?_⟩⟩
        exact vMeth_of (p := .named "go") m_fld noM_told ⟨_, rfl, cR, _, _, rfl, lR.cl, lR.nof _ (by decide), rfl, rfl⟩ (by decide) ⟨h2, self_eq rfl rfl (by kernel_rfl) rfl q⟩
  · refine ⟨_, rfl, false, rfl, iteF ⟨_, rfl, m, rfl, hm5, ?_⟩⟩
    refine ⟨_, rfl, _, rfl, _, rfl, ?_⟩
    dsimp only [oNone]
    refine sl_names (x := x) (Nat.le_trans (show bs.length + o.toList.length ≤ 11 by cases o <;> simp <;> omega) (by decide)) ?_
    refine ⟨_, rfl, use_and rfl ?_⟩
    refine ⟨bs ++ o.toList, wordB m, useL bs, ?_, ?_, ?_⟩
    · rw [List.map_append]
    · intro y hy
      rcases List.mem_append.mp hy with h | h
      · exact hb5 y h
      · exact hnl y (List.mem_append_right _ h)
    rw [due_U]
    refine ⟨fun δ C gs => δ = [some (.int c), some (.str x), some (onD o), some k.d, some (.lst ([.str x] ++ o.toList.map D.str)), some (.int 2), some (.lst (is.map (gP A ∘ D.int))), some (.lst (bs.map D.str)), some (.str m), some (.str (erS (resU bs m o))), some (.bl (wordB m)), none, none] ∧ gs = [] ∧ ∃ e, resU bs m o = some e ∧ C = ea.c e, ?_, ?_⟩
    · rintro δ' C gs ⟨rfl, rfl, e, he, rfl⟩
      refine ⟨⟨e, rfl⟩, fun a => ⟨_, rfl, ⟨_, _, List.mem_singleton.mpr rfl⟩, a, e, rfl, _, rfl, ?_⟩⟩
      rw [he]
      show Q (.bl (erStr e == erStr e))
      rw [beq_self_eq_true]
      exact q
    · refine ⟨_, rfl, false, rfl, iteF ⟨_, rfl, false, rfl, iteF ⟨_, rfl, _, rfl, _, rfl, _, rfl, bs, m, is.map (gP A ∘ D.int), o, rfl, hb5, hm5, ho, outU_of ?_⟩⟩⟩
      cases hr : resU bs m o with
      | some e => exact ⟨rfl, rfl, e, rfl, rfl⟩
      | none =>
        refine ⟨_, rfl, false, rfl, iteF ⟨_, rfl, cU, _, _, rfl, lU.cl, lU.nof _ (by decide), rfl, _, rfl, on_ne ⟨false, rfl, iteF ?_⟩⟩⟩
        refine ⟨_, rfl, true, rfl, iteT ?_⟩
        refine ⟨_, rfl, cU, _, _, rfl, lU.cl, lU.nof _ (by decide), rfl, _, rfl, _, .inl rfl, .tup (bs.map D.str), 1, rfl, (by decide), sm_strs hbl, true, rfl, iteF ?_⟩
        refine ⟨_, rfl, cU, _, _, rfl, lU.cl, lU.nof _ (by decide), rfl, _, rfl, str_ne2 ⟨false, rfl, iteF ?_⟩⟩
        refine ⟨_, rfl, cU, _, _, rfl, lU.cl, lU.nof _ (by decide), rfl, true, rfl, true, rfl, iteF ?_⟩
        refine ⟨_, rfl, cU, _, _, rfl, lU.cl, lU.nof _ (by decide), rfl, _, rfl, mO gT (is.map (gP A ∘ D.int)), mO_len, told_each, told_len his, ?_⟩
        refine ⟨_, rfl, _, rfl, mO gT (is.map (gP A ∘ D.int)), mO_len, told_each, told_len his, ?_⟩
        exact ⟨_, 2, rfl, (by decide), sm_tolds his, q⟩
end
end K11

-- gen set Xf need_name need_sheet need_word need_on _law_right
-- gen set Xc Input Row Use
-- gen set U _law_marks
-- gen set inT is_plain_kind
set_option maxHeartbeats 4000000
namespace K11
open PySem PySem.Spec PyProof.Rows L2 DC
def sxLaw : SpX := fun ds Q _ => ∃ ns : List Int, ds = [.lst (ns.map D.int)] ∧ Q (.bl true)
theorem rng_at {m i : Nat} {d : D} (h : (List.map (fun i : Nat => D.int (0 + (i : Int))) (List.range m))[i]? = some d) : i < m ∧ d = .int (i : Int) := by
  rw [List.getElem?_map] at h
  cases e : (List.range m)[i]? with
  | none => rw [e] at h; cases h
  | some r =>
    rw [e] at h
    have z := List.getElem?_eq_some_iff.mp e
    have hl : i < m := by have := z.1; rwa [List.length_range] at this
    have hr : i = r := by have := z.2; rwa [List.getElem_range] at this
    subst hr
    refine ⟨hl, ?_⟩
    have h' : some (D.int (0 + (i : Int))) = some d := h
    rw [Int.zero_add] at h'
    exact (Option.some.inj h').symm
theorem go_in : resI "go" (.s "truth") none = none := by decide +kernel
theorem go_row : resR "go" (.s "truth") none = none := by decide +kernel
section
seal wpAny
variable {P : Program} {w : World} {K : PySem.W.Frag} {mg : Str → Option Value} {base : Heap} {A : Adr} {n j : Nat} {ea : EA} {cI cR cU : Addr}
theorem okX1 {k : Nat} {x : Str} {st : Stmt} {f : Addr} {fd : FuncData} {ps N : List Str} {sx : SpX} {t : XR → TSD} (F : Fun K x x st f fd) (S : FnScope N ps (defScope st)) (len : ∀ ds Q R, sx ds Q R → ds.length = ps.length)
    (hb : ∀ (f : Addr) (cdv : Value) (A : Around) (outer : List Env) (s : Shared) (H : Hp) (E : XK) (R : XR), Room k (A.deeper (envOfC x (defScope st) s.heap.objs.size f cdv)) → XAcc (BxX P w K mg base N x st f cdv A outer s H E) (fun _ => R) → PSsd (BxX P w K mg base N x st f cdv A outer s H E) (defBody st) (t R))
    (hr : ∀ ds Q R, sx ds Q R → t R { nx := fun _ => Q .non, rt := Q } (startD N ds)) : FnOk P w K mg base (CXD P w) (k + 1) f fd ps (spX K sx) := okX (fun_v F) S len (hb f) hr
theorem ok_law {i : Nat} {f : Addr} {fd : FuncData} (hi : i + 1 ≤ j) (F : Fun K "law" "law" s_law f fd) (lI : LOk K cI) (lR : LOk K cR) (n_range : mg "range" = none) (c__law_cell_at : Cal P w K mg base j "_law_cell_at" ["_law_script", "_law_k"] sdCell) (c__law_mixed : Cal P w K mg base j "_law_mixed" ["_law_cell", "_law_k"] sdMix)
    (c_part_of : Cal P w K mg base j "part_of" ["told"] (sdOf A 4)) (cx__law_right : CalX P w K mg base j "_law_right" ["_law_cell"] sxRight) (kx_Input_2 : MkrX P w K mg base i "Input" cI (sxIn ea) [.non]) (kx_Row_3 : MkrX P w K mg base i "Row" cR (sxRow ea) [.non]) :
    FnOk P w K mg base (CXD P w) (j + 1) f fd ["_law_script"] (spX K sxLaw) := by
  refine okX1 F sc_law (fun ds Q R ⟨x, e, _⟩ => by rw [e]; rfl) (fun f cdv A outer s H E R hr hx => have hu := hr.units; have hh := hr.hd; have sc := sc_law
    (ss_cons (s_for PassesOwn.leaving rfl (i_range1 (by rfl) n_range (a_cons d_int a_nil)) (g_name (i := 1) sc.nd rfl (Or.inl rfl)) (ss_one (s_if (t_not (t_tru (d_calX hx cx__law_right hr (by omega) (by rfl) (a_cons (d_cal c__law_mixed hr (by omega) (by rfl) (a_cons (d_cal c__law_cell_at hr (by omega) (by rfl) (a_cons (dv 0) (a_cons (dv 1) a_nil))) (a_cons (d_add d_int (dv 1)) a_nil))) a_nil)))) (ss_one (s_ret d_bl)) ss_nil)))
  (ss_one (s_ret (d_and (d_is (d_fldK K rfl (d_mkX hx kx_Input_2 hr (by omega) (by rfl) (a_cons d_str (a_cons d_str a_nil))) (by rfl)) d_non) (d_one (d_is (d_fldK K rfl (d_mkX hx kx_Row_3 hr (by omega) (by rfl) (a_cons d_str (a_cons d_str (a_cons (d_cal c_part_of hr (by omega) (by rfl) (a_cons (d_tup (a_ck (by rfl))) a_nil)) a_nil)))) (by rfl)) d_non))))))) ?_
  rintro ds Q R ⟨ns, rfl, q⟩
  refine ⟨_, rfl, (by decide), (by decide), fun i δ => ∃ k : Option D, δ = [some (.lst (ns.map D.int)), k], ⟨none, rfl⟩, ?_, ?_⟩
  · intro i d δ' hd hin
    obtain ⟨k, rfl⟩ := hin
    obtain ⟨hlt, rfl⟩ := rng_at hd
    have hlt : i < 10 := hlt
    exact ⟨_, rfl, _, rfl, ns, i, rfl, by omega, fun c => ⟨_, rfl, _, _, rfl, _, rfl, true, rfl, iteF ⟨_, rfl⟩⟩⟩
  · intro δ' hin
    obtain ⟨k, rfl⟩ := hin
    refine ⟨"go", .s "truth", none, rfl, (by decide), trivial, outI_of ?_⟩
    rw [go_in]
    refine ⟨cI, _, _, rfl, lI.cl, lI.nof _ (by decide), rfl, true, rfl, iteT ?_⟩
    refine ⟨(show 2 ≤ sizeLine by decide), .given (.int 1), rfl, (by decide), (.inr ⟨1, rfl, by decide, by decide⟩), ⟨by decide, by decide⟩, "go", .s "truth", (Pt.given (.int 1)).d A, none, rfl, (by decide), trivial, outR_of ?_⟩
    rw [go_row]
    exact ⟨cR, _, _, rfl, lR.cl, lR.nof _ (by decide), rfl, q⟩
end
end K11

set_option maxHeartbeats 4000000
namespace K11
open PySem PySem.Spec PyProof.Rows L2 DC
/-! ### where things lie -/
def BindP (x qual : Str) (st : Stmt) (ps : List Str) : Prop := ∀ (kV doc pm : Value) (an : Option Addr) (cdv ct : Value) (us : List Value), us.length = ps.length → bindArgs (PySem.W.fnOf x qual (defArgs st) (defBody st) (defScope st) .none kV doc pm an cdv ct) ⟨us, []⟩ = pure (ps.zip us)
section
variable {w : World} {K : PySem.W.Frag} {h : Heap} {mg : Str → Option Value} {x m qual : Str} {st : Stmt} {ps : List Str} {f C : Addr} {od an : Option Addr} {sl : Array (Option Value)} {oc kV dc pm cd ct dV : Value}
theorem df_mk (X : K.In h) (G : h.Ns mainGlobals mg) (a : PySem.W.nsIn K mainGlobals x = some (some (.ref f)) := by k_is) (l : K.lookup f = some ⟨oc, od, .func (PySem.W.fnOf x x (defArgs st) (defBody st) (defScope st) .none kV dc pm an cd ct), sl⟩ := by k_is)
    (c : PySem.W.codeIn K cd x = true := by k_is) (k : PySem.W.keepIn K (.ref f) = true := by k_is) (b : BindP x x st ps := by first | exact (fun _ _ _ _ _ _ us hl => match us, hl with | [_], _ => rfl) | exact (fun _ _ _ _ _ _ us hl => match us, hl with | [_, _], _ => rfl) | exact (fun _ _ _ _ _ _ us hl => match us, hl with | [_, _, _], _ => rfl)) : Df K mg x st ps := ⟨⟨f, _, fun_mk (st := st) l c k, PySem.W.mg_of X G a, (fun_mk (st := st) l c k).binds b⟩⟩
structure Dm0 (K : PySem.W.Frag) (C : Addr) (m qual : Str) (st : Stmt) : Prop where
  ex : ∃ f fd, Fun K m qual st f fd ∧ Meth K C m f ∧ Binds K fd ["self"] []
theorem dm_mk (a : PySem.W.findIn K (.ref C) m = some (some (.ref f)) := by k_is) (l : K.lookup f = some ⟨oc, od, .func (PySem.W.fnOf m qual (defArgs st) (defBody st) (defScope st) .none kV dc pm an cd ct), sl⟩ := by k_is)
    (c : PySem.W.codeIn K cd qual = true := by k_is) (k : PySem.W.keepIn K (.ref f) = true := by k_is) (n : PySem.W.isFn K (.ref f) = true := by k_is) (b : BindP m qual st ["self"] := by exact (fun _ _ _ _ _ _ us hl => match us, hl with | [_], _ => rfl)) : Dm0 K C m qual st := ⟨⟨f, _, fun_mk (st := st) l c k, ⟨a, n, k⟩, (fun_mk (st := st) l c k).binds b⟩⟩
theorem Dm0.dm (d : Dm0 K C m qual st) (c : Cls K C) : Dm K C m qual st ["self"] := let ⟨f, fd, F, M, b⟩ := d.ex; ⟨⟨f, fd, F, M, c, b⟩⟩
theorem di_mk (X : K.In h) (G : h.Ns mainGlobals mg) (hc : PySem.W.nsIn K mainGlobals x = some (some (.ref C)) := by k_is) (mk : PySem.W.makesIn K C = true := by k_is) (ini : PySem.W.findIn K (.ref C) "__init__" = some (some (.ref f)) := by k_is) (fn : PySem.W.isFn K (.ref f) = true := by k_is) (kp : PySem.W.keepIn K (.ref C) = true := by k_is)
    (l : K.lookup f = some ⟨oc, od, .func (PySem.W.fnOf "__init__" qual (defArgs st) (defBody st) (defScope st) .none kV dc pm an cd ct), sl⟩ := by k_is) (c : PySem.W.codeIn K cd qual = true := by k_is) (k : PySem.W.keepIn K (.ref f) = true := by k_is)
    (b : BindP "__init__" qual st ps := by first | exact (fun _ _ _ _ _ _ us hl => match us, hl with | [_, _], _ => rfl) | exact (fun _ _ _ _ _ _ us hl => match us, hl with | [_, _, _], _ => rfl) | exact (fun _ _ _ _ _ _ us hl => match us, hl with | [_, _, _, _], _ => rfl)) : Di K mg x C qual st ps [] :=
  ⟨⟨f, _, [], [], ⟨⟨oc, od, .none, kV, dc, pm, an, cd, ct, sl, rfl, l, c⟩, k⟩, ⟨mk, ini, fn, kp⟩, PySem.W.mg_of X G hc, (fun_mk (st := st) l c k).binds b, .nil, fun _ => .nil⟩⟩
def BindD (x qual : Str) (st : Stmt) (ps : List Str) : Prop := ∀ (K : PySem.W.Frag) (T : Addr) (ob : Obj) (v : Value) (n : Nat), K.lookup T = some ob → ob.data = .seq #[v] n → ∀ (kV doc pm : Value) (an : Option Addr) (cdv ct : Value), Binds K (PySem.W.fnOf x qual (defArgs st) (defBody st) (defScope st) (.ref T) kV doc pm an cdv ct) ps []
theorem di_mkD {Ta : Addr} {tc v : Value} {td : Option Addr} {tn : Nat} {tsl : Array (Option Value)} (X : K.In h) (G : h.Ns mainGlobals mg) (b : BindD "__init__" qual st ps) (hc : PySem.W.nsIn K mainGlobals x = some (some (.ref C)) := by k_is) (mk : PySem.W.makesIn K C = true := by k_is) (ini : PySem.W.findIn K (.ref C) "__init__" = some (some (.ref f)) := by k_is)
    (fn : PySem.W.isFn K (.ref f) = true := by k_is) (kp : PySem.W.keepIn K (.ref C) = true := by k_is) (l : K.lookup f = some ⟨oc, od, .func (PySem.W.fnOf "__init__" qual (defArgs st) (defBody st) (defScope st) (.ref Ta) kV dc pm an cd ct), sl⟩ := by k_is) (c : PySem.W.codeIn K cd qual = true := by k_is) (k : PySem.W.keepIn K (.ref f) = true := by k_is)
    (lt : K.lookup Ta = some ⟨tc, td, .seq #[v] tn, tsl⟩ := by k_is) : Di K mg x C qual st ps [] :=
  ⟨⟨f, _, [], [], ⟨⟨oc, od, .ref Ta, kV, dc, pm, an, cd, ct, sl, rfl, l, c⟩, k⟩, ⟨mk, ini, fn, kp⟩, PySem.W.mg_of X G hc, b K Ta _ v tn lt rfl kV dc pm an cd ct, .nil, fun _ => .nil⟩⟩
def BindD1 (x qual : Str) (st : Stmt) (ps : List Str) : Prop := ∀ (K : PySem.W.Frag) (T : Addr) (ob : Obj) (v : Value) (n : Nat), K.lookup T = some ob → ob.data = .seq #[v] n → ∀ (kV doc pm : Value) (an : Option Addr) (cdv ct : Value), Binds K (PySem.W.fnOf x qual (defArgs st) (defBody st) (defScope st) (.ref T) kV doc pm an cdv ct) ps [v]
theorem di_mkN {Ta : Addr} {tc : Value} {td : Option Addr} {tn : Nat} {tsl : Array (Option Value)} (X : K.In h) (G : h.Ns mainGlobals mg) (b : BindD1 "__init__" qual st ps) (hc : PySem.W.nsIn K mainGlobals x = some (some (.ref C)) := by k_is) (mk : PySem.W.makesIn K C = true := by k_is) (ini : PySem.W.findIn K (.ref C) "__init__" = some (some (.ref f)) := by k_is)
    (fn : PySem.W.isFn K (.ref f) = true := by k_is) (kp : PySem.W.keepIn K (.ref C) = true := by k_is) (l : K.lookup f = some ⟨oc, od, .func (PySem.W.fnOf "__init__" qual (defArgs st) (defBody st) (defScope st) (.ref Ta) kV dc pm an cd ct), sl⟩ := by k_is) (c : PySem.W.codeIn K cd qual = true := by k_is) (k : PySem.W.keepIn K (.ref f) = true := by k_is)
    (lt : K.lookup Ta = some ⟨tc, td, .seq #[.none] tn, tsl⟩ := by k_is) : Di K mg x C qual st ps [.non] :=
  ⟨⟨f, _, [.non], [.none], ⟨⟨oc, od, .ref Ta, kV, dc, pm, an, cd, ct, sl, rfl, l, c⟩, k⟩, ⟨mk, ini, fn, kp⟩, PySem.W.mg_of X G hc, b K Ta _ .none tn lt rfl kV dc pm an cd ct, .cons rfl .nil, fun _ => .cons .non .nil⟩⟩
theorem cl_of {v : Value} {b : Bool} (h : PySem.W.mroIn K C v = some b) : (PySem.W.clsIn K C).isSome = true := by
  unfold PySem.W.mroIn at h
  cases e : PySem.W.clsIn K C with
  | none => rw [e] at h; cases h
  | some _ => rfl
theorem ety_mk (g1 : PySem.W.findIn K (.ref C) "__getattribute__" = some (some (.builtin "BaseException.__getattribute__")) := by k_is) (g2 : PySem.W.findIn K (.ref C) "__getattr__" = some none := by k_is) (g3 : PySem.W.mroIn K C (.type "BaseException") = some true := by k_is) (ha : PySem.W.findIn K (.ref C) "__class__" = some (some (.builtin "object.__class__")) := by k_is) (hn : PySem.W.specialIn K (.builtin "object.__class__") "__get__" = some (some (.builtin "getset_descriptor.__get__")) := by k_is) (ht : PySem.W.takesIn K (.builtin "object.__class__") = some true := by k_is) (hm : PySem.W.mroIn K C (.type "object") = some true := by k_is) : ExcTy K C := ⟨⟨g1, g2, g3⟩, cl_of hm, ha, hn, ht, hm⟩
theorem cls_of {c : Addr} (h : PySem.W.kitOne K (.ref C) (.ref c) = some true) (ne : C ≠ c) : PySem.W.kitCls K (.ref C) (.ref c) = some true := by
  unfold PySem.W.kitOne at h
  rw [if_neg (fun e => ne (by have := eq_of_beq e; cases this; rfl))] at h
  exact h
theorem own_mk (a : PySem.W.plainGet K C Str.empty = true := by k_is) (b : PySem.W.hasDictIn K C = true := by k_is) (c : PySem.W.plainOver K C = true := by k_is) (d : PySem.W.findIn K (.ref C) "__setattr__" = some (some (.builtin "object.__setattr__")) := by k_is)
    (e : PySem.W.findIn K (.ref C) "__class__" = some (some (.builtin "object.__class__")) := by k_is) (f : PySem.W.specialIn K (.builtin "object.__class__") "__get__" = some (some (.builtin "getset_descriptor.__get__")) := by k_is) (g : PySem.W.takesIn K (.builtin "object.__class__") = some true := by k_is) (h : PySem.W.mroIn K C (.type "object") = some true := by k_is) : OwnTy K C := ⟨⟨a, b, c, d⟩, e, f, g, h⟩
def KitR0 (K : PySem.W.Frag) (C : Addr) (cs : List (Addr × Bool)) : Prop := ∀ p ∈ cs, PySem.W.kitOne K (.ref C) (.ref p.1) = some p.2
theorem kind_of {cs : List Addr} {bs : List Bool} (h : KitR0 K C (cs.zip bs)) : ∀ (i : Nat) (c : Addr) (b : Bool), cs[i]? = some c → bs[i]? = some b → PySem.W.kitOne K (.ref C) (.ref c) = some b := fun i c b h1 h2 => h (c, b) (by
  have : (cs.zip bs)[i]? = some (c, b) := by rw [List.getElem?_zip_eq_some]; exact ⟨h1, h2⟩
  exact List.mem_of_getElem? this)
def NoF (K : PySem.W.Frag) (C : Addr) : Prop := ∀ f ∈ (["value", "name", "part", "sign", "one", "other", "truth", "first", "head", "rest"] : List Str), NoAttr K C f
theorem nof_mk (h0 : PySem.W.findIn K (.ref C) "value" = some none := by k_is) (h1 : PySem.W.findIn K (.ref C) "name" = some none := by k_is) (h2 : PySem.W.findIn K (.ref C) "part" = some none := by k_is) (h3 : PySem.W.findIn K (.ref C) "sign" = some none := by k_is) (h4 : PySem.W.findIn K (.ref C) "one" = some none := by k_is) (h5 : PySem.W.findIn K (.ref C) "other" = some none := by k_is) (h6 : PySem.W.findIn K (.ref C) "truth" = some none := by k_is) (h7 : PySem.W.findIn K (.ref C) "first" = some none := by k_is) (h8 : PySem.W.findIn K (.ref C) "head" = some none := by k_is) (h9 : PySem.W.findIn K (.ref C) "rest" = some none := by k_is) : NoF K C := by
  unfold NoF
  simp only [List.mem_cons, List.not_mem_nil, or_false, forall_eq_or_imp, forall_eq]
  exact ⟨h0, h1, h2, h3, h4, h5, h6, h7, h8, h9⟩
def KitR (K : PySem.W.Frag) (C : Addr) (cs : List (Addr × Bool)) : Prop := ∀ p ∈ cs, PySem.W.kitOne K (.ref C) (.ref p.1) = some p.2
theorem kr_nil : KitR K C [] := fun p h => nomatch h
theorem kr_cons {c : Addr} {b : Bool} {cs : List (Addr × Bool)} (r : KitR K C cs) (e : PySem.W.kitOne K (.ref C) (.ref c) = some b := by kit_is) : KitR K C ((c, b) :: cs) := fun p m => by
  rcases List.mem_cons.mp m with rfl | m
  · exact e
  · exact r p m
theorem gi_mk {i : Int} {t : Tok} (X : K.In h) (G : h.Ns mainGlobals mg) (e : PySem.W.nsIn K mainGlobals x = some (some (.int i t))) : GI mg x i := ⟨⟨t, PySem.W.mg_of X G e⟩⟩
theorem gs_mk {y : Str} {t : Tok} (X : K.In h) (G : h.Ns mainGlobals mg) (e : PySem.W.nsIn K mainGlobals x = some (some (.str y t))) : GD K mg x (.str y) := ⟨⟨.str y, .str y t, PySem.W.mg_of X G e, ⟨_, rfl⟩, fun _ => .str y⟩⟩
def TupK (K : PySem.W.Frag) (t : Addr) (ds : List D) : Prop := ∀ H, Dv K H (.ref t) (.tup ds)
theorem tup_mk {t : Addr} {its : Array Value} {n : Nat} (vs : List V) {ds : List D} (l : K.lookup t = some ⟨.type "tuple", od, .seq its n, sl⟩) (z : its.size ≤ 1000) (v : Vals vs its.toList) (d : ∀ H, Dvs K H vs ds) : TupK K t ds :=
  fun H => .tup (.inr ⟨_, its, n, l, rfl, rfl, Nat.le_of_lt (small1000 z), v⟩) (d H)
theorem gt_mk {t : Addr} {ds : List D} (X : K.In h) (G : h.Ns mainGlobals mg) (e : PySem.W.nsIn K mainGlobals x = some (some (.ref t))) (l : TupK K t ds) : GD K mg x (.tup ds) := ⟨⟨.ref t, .ref t, PySem.W.mg_of X G e, rfl, l⟩⟩
theorem kt_mk {s : Addr} {es : Array DictEntry} {n : Nat} {kvs : List (Str × V)} {tab : List (Str × D)} (X : K.In h) (G : h.Ns mainGlobals mg) (e : PySem.W.nsIn K mainGlobals x = some (some (.ref s))) (l : K.lookup s = some ⟨.type "dict", none, .dict es n, #[]⟩) (hk : PySem.W.KeysLit w.params es.toList)
    (he : Ents kvs es.toList) (sys : (s == sysModules) = false) (t : Tb K kvs tab) : KTd w K mg x s tab := ⟨PySem.W.mg_of X G e, kvs, ⟨⟨es, n, l, hk, he⟩, sys⟩, t⟩
theorem ents_ref {y : Str} {t : Tok} {r : Addr} {en : DictEntry} {kvs : List (Str × V)} {es : List DictEntry} (hk : en.key = .str y t) (hv : en.val = .ref r) (q : Ents kvs es) : Ents ((y, .ref r) :: kvs) (en :: es) := .cons hk hv q
theorem dvs_strs' (ws : List Str) : ∀ H, Dvs K H (ws.map V.str) (ws.map D.str) := fun _ => dvs_strs ws
def NoG (K : PySem.W.Frag) (C : Addr) : Prop := ∀ f ∈ (["value", "name"] : List Str), NoAttr K C f
theorem nog_mk (h0 : PySem.W.findIn K (.ref C) "value" = some none := by k_is) (h1 : PySem.W.findIn K (.ref C) "name" = some none := by k_is) : NoG K C := by
  unfold NoG
  simp only [List.mem_cons, List.not_mem_nil, or_false, forall_eq_or_imp, forall_eq]
  exact ⟨h0, h1⟩
def NoL (K : PySem.W.Frag) (C : Addr) : Prop := ∀ f ∈ lfs, NoAttr K C f
theorem nol_mk (h0 : PySem.W.findIn K (.ref C) "name" = some none := by k_is) (h1 : PySem.W.findIn K (.ref C) "kind" = some none := by k_is) (h2 : PySem.W.findIn K (.ref C) "part" = some none := by k_is) (h3 : PySem.W.findIn K (.ref C) "on" = some none := by k_is) (h4 : PySem.W.findIn K (.ref C) "binds" = some none := by k_is) (h5 : PySem.W.findIn K (.ref C) "module" = some none := by k_is) (h6 : PySem.W.findIn K (.ref C) "parts" = some none := by k_is) : NoL K C := by
  unfold NoL lfs
  simp only [List.mem_cons, List.not_mem_nil, or_false, forall_eq_or_imp, forall_eq]
  exact ⟨h0, h1, h2, h3, h4, h5, h6⟩
end
theorem b_Input___init__ : BindD "__init__" "Input.__init__" s_Input___init__ ["self", "name", "kind", "on"] := fun K T ob v n ho hs _ _ _ _ _ _ s us X hl => match us, hl with | [_, _, _, _], _ => PySem.W.binds_K X rfl ho hs rfl rfl
theorem bn_Input___init__ : BindD1 "__init__" "Input.__init__" s_Input___init__ ["self", "name", "kind", "on"] := fun K T ob v n ho hs _ _ _ _ _ _ s us X hl => match us, (show us.length = 3 by simp only [List.length_append, List.length_cons, List.length_nil] at hl; omega) with | [_, _, _], _ => PySem.W.binds_K X rfl ho hs rfl rfl
theorem b_Row___init__ : BindD "__init__" "Row.__init__" s_Row___init__ ["self", "name", "kind", "part", "on"] := fun K T ob v n ho hs _ _ _ _ _ _ s us X hl => match us, hl with | [_, _, _, _, _], _ => PySem.W.binds_K X rfl ho hs rfl rfl
theorem bn_Row___init__ : BindD1 "__init__" "Row.__init__" s_Row___init__ ["self", "name", "kind", "part", "on"] := fun K T ob v n ho hs _ _ _ _ _ _ s us X hl => match us, (show us.length = 4 by simp only [List.length_append, List.length_cons, List.length_nil] at hl; omega) with | [_, _, _, _], _ => PySem.W.binds_K X rfl ho hs rfl rfl
theorem b_Use___init__ : BindD "__init__" "Use.__init__" s_Use___init__ ["self", "binds", "module", "parts", "on"] := fun K T ob v n ho hs _ _ _ _ _ _ s us X hl => match us, hl with | [_, _, _, _, _], _ => PySem.W.binds_K X rfl ho hs rfl rfl
/-- the law's promise over values -/
def spLaw (K : PySem.W.Frag) : Sp := fun vs H Q _ => ∃ (q : Addr) (ns : List Int), vs = [.ref q] ∧ SqL K H q (ns.map V.int) ∧ ns.length ≤ 63 ∧ ∀ H', Q (.bl true) H'
theorem dvs_ints {K : PySem.W.Frag} {H : Hp} : ∀ ns : List Int, Dvs K H (ns.map V.int) (ns.map D.int)
  | [] => .nil
  | n :: ns => .cons (.int n) (dvs_ints ns)
section
variable {P : Program} {w : World} {K : PySem.W.Frag} {mg : Str → Option Value} {base : Heap} {A : Adr} {j k : Nat} {x : Str} {ps : List Str}
theorem CalX_up {sx : SpX} (c : CalX P w K mg base j x ps sx) (h : j ≤ k) : CalX P w K mg base k x ps sx := ⟨let ⟨f, fd, F, r⟩ := c.ex; ⟨f, fd, F.mono h, r⟩, c.ms⟩
theorem CalU_up {sd : SpD} (c : CalU P w K mg base j x ps sd) (h : j ≤ k) : CalU P w K mg base k x ps sd := ⟨let ⟨f, fd, F, r⟩ := c.ex; ⟨f, fd, ⟨F.len, fun A outer s H args us vs Q E hr => F.run A outer s H args us vs Q E (hr.mono h)⟩, r⟩, c.ms⟩
theorem to0 {f : Addr} {fd : FuncData} {sp sp' : Sp} (F : FnOk P w K mg base (CXD P w) k f fd ps sp) (h : ∀ vs H Q E, sp' vs H Q E → sp vs H Q fun _ _ _ => False) : FnOk P w K mg base CX0 k f fd ps sp' := by
  refine ⟨fun vs H Q E q => F.len _ _ _ _ (h _ _ _ _ q), fun A outer s H args us vs Q E hr he hb hv q => codeAny_mono (F.run A outer s H args us vs Q _ hr he hb hv (h _ _ _ _ q)) fun r s' z => ?_⟩
  cases r with
  | error e => obtain ⟨_, _, _, _, _, _, _, _, _, _, _, _, _, z⟩ := z; exact z
  | ok fl =>
    cases fl with
    | ret u => exact z
    | next => exact z
    | brk => exact z
    | cont => exact z
end
theorem all_ok {w : World} {K : PySem.W.Frag} {h : Heap} {mg : Str → Option Value} {a1 a2 b1 b2 b3 b4 b5 b6 b7 b8 b9 b10 b11 l1 l2 l3 br sa : Addr} (X : K.In h) (G : h.Ns mainGlobals mg)
    (e1 : PySem.W.nsIn K mainGlobals "Given" = some (some (.ref a1)))
    (e2 : PySem.W.nsIn K mainGlobals "Named" = some (some (.ref a2)))
    (el1 : PySem.W.nsIn K mainGlobals "Input" = some (some (.ref l1)))
    (el2 : PySem.W.nsIn K mainGlobals "Row" = some (some (.ref l2)))
    (el3 : PySem.W.nsIn K mainGlobals "Use" = some (some (.ref l3)))
    (x1 : PySem.W.nsIn K mainGlobals "NoName" = some (some (.ref b1)))
    (x2 : PySem.W.nsIn K mainGlobals "NoPart" = some (some (.ref b2)))
    (x3 : PySem.W.nsIn K mainGlobals "NoText" = some (some (.ref b3)))
    (x4 : PySem.W.nsIn K mainGlobals "NoSheet" = some (some (.ref b4)))
    (x5 : PySem.W.nsIn K mainGlobals "NoKind" = some (some (.ref b5)))
    (x6 : PySem.W.nsIn K mainGlobals "NoBeat" = some (some (.ref b6)))
    (x7 : PySem.W.nsIn K mainGlobals "Ring" = some (some (.ref b7)))
    (x8 : PySem.W.nsIn K mainGlobals "NoInput" = some (some (.ref b8)))
    (x9 : PySem.W.nsIn K mainGlobals "NoState" = some (some (.ref b9)))
    (x10 : PySem.W.nsIn K mainGlobals "NoClaim" = some (some (.ref b10)))
    (x11 : PySem.W.nsIn K mainGlobals "TooMany" = some (some (.ref b11)))
    (xr : PySem.W.nsIn K mainGlobals "RowError" = some (some (.ref br)))
    (nd : a1 ≠ a2)
    (o1 : OwnTy K a1)
    (n1 : NoG K a1)
    (m1_told : Dm0 K a1 "told" "Given.told" s_Given_told)
    (i1 : Di K mg "Given" a1 "Given.__init__" s_Given___init__ ["self", "value"] [])
    (o2 : OwnTy K a2)
    (n2 : NoG K a2)
    (m2_told : Dm0 K a2 "told" "Named.told" s_Named_told)
    (i2 : Di K mg "Named" a2 "Named.__init__" s_Named___init__ ["self", "name"] [])
    (ol1 : OwnTy K l1)
    (nl1 : NoL K l1)
    (il1 : Di K mg "Input" l1 "Input.__init__" s_Input___init__ ["self", "name", "kind", "on"] [])
    (jl1 : Di K mg "Input" l1 "Input.__init__" s_Input___init__ ["self", "name", "kind", "on"] [.non])
    (ol2 : OwnTy K l2)
    (nl2 : NoL K l2)
    (il2 : Di K mg "Row" l2 "Row.__init__" s_Row___init__ ["self", "name", "kind", "part", "on"] [])
    (jl2 : Di K mg "Row" l2 "Row.__init__" s_Row___init__ ["self", "name", "kind", "part", "on"] [.non])
    (ol3 : OwnTy K l3)
    (nl3 : NoL K l3)
    (il3 : Di K mg "Use" l3 "Use.__init__" s_Use___init__ ["self", "binds", "module", "parts", "on"] [])
    (ee1 : PySem.W.excIn K b1 [.type "ValueError", .type "Exception", .type "BaseException", .type "object"] "ValueError.__new__" = true)
    (ty1 : ExcTy K b1)
    (kt1 : KitR K b1 [(b1, true), (b2, false), (b3, false), (b4, false), (b5, false), (b6, false), (b7, false), (b8, false), (b9, false), (b10, false), (b11, false)])
    (ve1 : PySem.W.kitOne K (.ref b1) (.type "ValueError") = some true)
    (re1 : PySem.W.kitOne K (.ref b1) (.ref br) = some true)
    (ne1 : b1 ≠ br)
    (ee4 : PySem.W.excIn K b4 [.type "ValueError", .type "Exception", .type "BaseException", .type "object"] "ValueError.__new__" = true)
    (ty4 : ExcTy K b4)
    (kt4 : KitR K b4 [(b1, false), (b2, false), (b3, false), (b4, true), (b5, false), (b6, false), (b7, false), (b8, false), (b9, false), (b10, false), (b11, false)])
    (ve4 : PySem.W.kitOne K (.ref b4) (.type "ValueError") = some true)
    (re4 : PySem.W.kitOne K (.ref b4) (.ref br) = some true)
    (ne4 : b4 ≠ br)
    (be : PySem.W.mroIn K br (.type "BaseException") = some true)
    (d_has_letters : Df K mg "has_letters" s_has_letters ["text"])
    (d_has_word_form : Df K mg "has_word_form" s_has_word_form ["text"])
    (d_is_word : Df K mg "is_word" s_is_word ["thing"])
    (d_is_name : Df K mg "is_name" s_is_name ["thing"])
    (d_is_number : Df K mg "is_number" s_is_number ["thing"])
    (d_is_value : Df K mg "is_value" s_is_value ["thing"])
    (d_need_name : Df K mg "need_name" s_need_name ["name"])
    (d_has_shape : Df K mg "has_shape" s_has_shape ["told"])
    (d_many_within : Df K mg "many_within" s_many_within ["told"])
    (d_plain_by : Df K mg "plain_by" s_plain_by ["told", "inner"])
    (d_part_of : Df K mg "part_of" s_part_of ["told"])
    (d_need_sheet : Df K mg "need_sheet" s_need_sheet ["holds", "words"])
    (d_need_word : Df K mg "need_word" s_need_word ["word"])
    (d_need_on : Df K mg "need_on" s_need_on ["on"])
    (d_is_plain_kind : Df K mg "is_plain_kind" s_is_plain_kind ["kind"])
    (d_is_stretch : Df K mg "is_stretch" s_is_stretch ["kind"])
    (d__law_cell_at : Df K mg "_law_cell_at" s__law_cell_at ["_law_script", "_law_k"])
    (d__law_mixed : Df K mg "_law_mixed" s__law_mixed ["_law_cell", "_law_k"])
    (d__law_same : Df K mg "_law_same" s__law_same ["_law_found", "_law_due_here"])
    (d__law_marks : Df K mg "_law_marks" s__law_marks ["_law_e"])
    (d__law_is_word : Df K mg "_law_is_word" s__law_is_word ["_law_text"])
    (d__law_is_lettered : Df K mg "_law_is_lettered" s__law_is_lettered ["_law_text"])
    (d__law_is_name : Df K mg "_law_is_name" s__law_is_name ["_law_text"])
    (d__law_odd_name : Df K mg "_law_odd_name" s__law_odd_name ["_law_mix"])
    (d__law_name : Df K mg "_law_name" s__law_name ["_law_mix"])
    (d__law_kind : Df K mg "_law_kind" s__law_kind ["_law_mix"])
    (d__law_due : Df K mg "_law_due" s__law_due ["_law_names", "_law_module", "_law_sheet"])
    (d__law_is_kind : Df K mg "_law_is_kind" s__law_is_kind ["_law_kind_here", "_law_only"])
    (d__law_right : Df K mg "_law_right" s__law_right ["_law_cell"])
    (g_LONGEST_WORD : GI mg "LONGEST_WORD" 8)
    (g_MOST_WORDS : GI mg "MOST_WORDS" 4)
    (g_LOWEST : GI mg "LOWEST" (-128))
    (g_HIGHEST : GI mg "HIGHEST" 127)
    (g_MOST_OUTPUTS : GI mg "MOST_OUTPUTS" 8)
    (g_LETTERS : GD K mg "LETTERS" (.str letters))
    (g_KEPT : GD K mg "KEPT_WORDS" (.tup (keptL.map D.str)))
    (k_SHAPES : KTd w K mg "SHAPES" sa shapesT)
    (z_isinstance : PySem.W.nsIn K mainGlobals "isinstance" = some none)
    (z_bool : PySem.W.nsIn K mainGlobals "bool" = some none)
    (z_int : PySem.W.nsIn K mainGlobals "int" = some none)
    (z_len : PySem.W.nsIn K mainGlobals "len" = some none)
    (z_all : PySem.W.nsIn K mainGlobals "all" = some none)
    (z_range : PySem.W.nsIn K mainGlobals "range" = some none)
    (z_ValueError : PySem.W.nsIn K mainGlobals "ValueError" = some none)
    (z_tuple : PySem.W.nsIn K mainGlobals "tuple" = some none)
    (z_list : PySem.W.nsIn K mainGlobals "list" = some none)
    (z_zip : PySem.W.nsIn K mainGlobals "zip" = some none)
    (z_dict : PySem.W.nsIn K mainGlobals "dict" = some none)
    (z_str : PySem.W.nsIn K mainGlobals "str" = some none)
    (P : Program) (base : Heap) (f : Addr) (fd : FuncData) (F : Fun K "law" "law" s_law f fd) : FnOk P w K mg base CX0 21 f fd ["_law_script"] (spLaw K) := by
  have c1 := o1.cl
  have c2 := o2.cl
  have y_isinstance := PySem.W.mg_none_of X G z_isinstance
  have y_bool := PySem.W.mg_none_of X G z_bool
  have y_int := PySem.W.mg_none_of X G z_int
  have y_len := PySem.W.mg_none_of X G z_len
  have y_all := PySem.W.mg_none_of X G z_all
  have y_range := PySem.W.mg_none_of X G z_range
  have y_ValueError := PySem.W.mg_none_of X G z_ValueError
  have y_tuple := PySem.W.mg_none_of X G z_tuple
  have y_list := PySem.W.mg_none_of X G z_list
  have y_zip := PySem.W.mg_none_of X G z_zip
  have y_dict := PySem.W.mg_none_of X G z_dict
  have y_str := PySem.W.mg_none_of X G z_str
  have hA : AOk K (Adr.mk a1 a2) := ⟨nd, ?_, ?_⟩
  rotate_left
  · simp only [List.mem_cons, List.not_mem_nil, or_false, forall_eq_or_imp, forall_eq]
    exact ⟨c1, c2⟩
  · intro C hC f hf
    simp only [List.mem_cons, List.not_mem_nil, or_false] at hC
    rcases hC with rfl | rfl
    · exact n1 f hf
    · exact n2 f hf
  have D_told : DTold K (Adr.mk a1 a2) := ⟨m1_told.dm c1, m2_told.dm c2⟩
  have eo : EOk K mg (EA.mk b1 b4) := ⟨PySem.W.mg_of X G x1, PySem.W.mg_of X G x4, ee1, ee4⟩
  have ro : ROk K mg (EA.mk b1 b4) := ⟨⟨br, PySem.W.mg_of X G xr, fun k => by cases k; exact cls_of re1 ne1; exact cls_of re4 ne4, be⟩⟩
  have k11 : KAll K mg (EA.mk b1 b4) := ⟨⟨b2, b3, b5, b6, b7, b8, b9, b10, b11, PySem.W.mg_of X G x2, PySem.W.mg_of X G x3, PySem.W.mg_of X G x5, PySem.W.mg_of X G x6, PySem.W.mg_of X G x7, PySem.W.mg_of X G x8, PySem.W.mg_of X G x9, PySem.W.mg_of X G x10, PySem.W.mg_of X G x11, ⟨ty1, kind_of (cs := [b1, b2, b3, b4, b5, b6, b7, b8, b9, b10, b11]) (bs := nameBs) kt1, ve1⟩, ⟨ty4, kind_of (cs := [b1, b2, b3, b4, b5, b6, b7, b8, b9, b10, b11]) (bs := sheetBs) kt4, ve4⟩⟩⟩
  have q1 : LOk K l1 := ⟨ol1.cl, nl1⟩
  have q2 : LOk K l2 := ⟨ol2.cl, nl2⟩
  have q3 : LOk K l3 := ⟨ol3.cl, nl3⟩
  have s1 := c_is_number (P := P) (w := w) (base := base) (j := 0) d_is_number y_isinstance y_bool y_int g_LOWEST g_HIGHEST
  have s2 := c_is_value d_is_value y_isinstance y_bool s1
  have w1 := c_has_letters (P := P) (w := w) (base := base) (j := 0) d_has_letters y_len y_all g_LETTERS
  have w2 := c_has_word_form d_has_word_form y_len g_LONGEST_WORD w1
  have w3 := c_is_word d_is_word g_KEPT w2
  have w4 := c_is_name d_is_name y_len y_all g_MOST_WORDS w3 (w2.up (by omega))
  have w5 := c_need_name d_need_name w4
  have k1 := init_given (j := 12) (A := (Adr.mk a1 a2)) c1 (hA.nof a1 (by simp) "value" (by decide)) i1 (s2.up (by omega))
  have k2 := init_named (j := 12) hA i2 (w5.up (by omega))
  have p1 := c_has_shape (P := P) (base := base) (j := 0) d_has_shape y_len k_SHAPES
  have p0 := c_many_within d_many_within k_SHAPES p1
  have p2 := c_plain_by (j := 14) d_plain_by (by omega) k1 k2
  have p4 := part_all (n := 4) (j := 18) d_part_of (p0.up (by omega)) (p1.up (by omega)) (Df.never d_part_of fun ds Q h => h) (p2.up (by omega))
  have l1 := c_mixed (P := P) (w := w) (base := base) (j := 0) d__law_mixed
  have l2 := c_cell (P := P) (w := w) (base := base) (j := 0) d__law_cell_at y_len
  have t1 : MP P w K mg base (Adr.mk a1 a2) 19 "told" 1 Pt.told := fun C hC => (told_all (P := P) (w := w) (mg := mg) (base := base) hA D_told C hC).up (by omega)
  have u1 := cx_need_name d_need_name eo w4
  have u2 := cx_need_on d_need_on u1
  have u3 := cx_need_word d_need_word eo w3
  have u4 := cx_need_sheet (P := P) (w := w) (base := base) (j := 0) d_need_sheet eo
  have u5 := c_is_plain_kind (P := P) (w := w) (base := base) (j := 0) d_is_plain_kind
  have u6 := c_is_stretch d_is_stretch y_isinstance y_tuple y_len s1
  have f1 := kx_input (j := 6) q1 il1 (CalX_up u1 (by omega)) (CalX_up u2 (by omega)) (CalX_up u4 (by omega)) (u5.up (by omega)) (u6.up (by omega))
  have f1n := kx_input (j := 6) q1 jl1 (CalX_up u1 (by omega)) (CalX_up u2 (by omega)) (CalX_up u4 (by omega)) (u5.up (by omega)) (u6.up (by omega))
  have f2 := kx_row (j := 6) q2 il2 (CalX_up u1 (by omega)) (CalX_up u2 (by omega)) (CalX_up u4 (by omega)) (u5.up (by omega))
  have f2n := kx_row (j := 6) q2 jl2 (CalX_up u1 (by omega)) (CalX_up u2 (by omega)) (CalX_up u4 (by omega)) (u5.up (by omega))
  have f3 := kx_use (j := 6) q3 il3 y_len y_tuple g_MOST_OUTPUTS (CalX_up u1 (by omega)) (CalX_up u2 (by omega)) (CalX_up u4 (by omega)) (CalX_up u3 (by omega))
  have v1 := c_lettered (P := P) (w := w) (base := base) (j := 0) d__law_is_lettered y_len
  have v2 := c_lword d__law_is_word v1
  have v3 := c_lname d__law_is_name y_len y_all v2 (v1.up (by omega))
  have v4 := c_odd (P := P) (w := w) (base := base) (j := 0) d__law_odd_name y_len
  have v5 := c_lnam d__law_name v4
  have v6 := c_lkind (P := P) (w := w) (base := base) (j := 0) d__law_kind
  have v7 := c_ldue d__law_due y_int v3
  have v8 := c_iskind (P := P) (w := w) (base := base) (j := 0) d__law_is_kind y_isinstance y_str
  have v9 := same_all (P := P) (w := w) (base := base) d__law_same y_isinstance y_tuple y_list y_len y_all y_zip y_bool y_dict 5
  have v10 := cu_marks (P := P) (w := w) (base := base) (j := 0) d__law_marks y_isinstance y_ValueError eo k11
  have v11 := cx_right (j := 19) (i := 7) (by omega) d__law_right ro hA q1 q2 q3 y_range y_len y_tuple y_isinstance (l1.up (by omega)) (v5.up (by omega)) (v6.up (by omega)) p4 (v7.up (by omega)) (v8.up (by omega)) (v2.up (by omega)) (v9.up (by omega)) t1 (CalU_up v10 (by omega)) f1 f2 f3
  have R := ok_law (j := 20) (i := 7) (by omega) F q1 q2 y_range (l2.up (by omega)) (l1.up (by omega)) (p4.up (by omega)) v11 f1n f2n
  exact to0 R fun vs H Q E ⟨q, ns, e, hS, hl, k⟩ => ⟨[.lst (ns.map D.int)], e ▸ .cons (.lst hS (dvs_ints ns)) .nil, ns, rfl, fun v H' dv => by cases dv; exact k H'⟩
theorem all_mk {l : PySem.W.OpenLaw} {w : World} {K : PySem.W.Frag} {h : Heap} {mg : Str → Option Value} {fa f1 : Addr} (X : K.In h) (G : h.Ns mainGlobals mg) (hfa : mg "law" = some (.ref fa))
    {od1 an1 : Option Addr} {sl1 : Array (Option Value)} {oc1 kV1 dc1 pm1 cd1 ct1 : Value}
    (la : PySem.W.nsIn K mainGlobals "law" = some (some (.ref f1))) (ll : K.lookup f1 = some ⟨oc1, od1, .func (PySem.W.fnOf "law" "law" (defArgs s_law) (defBody s_law) (defScope s_law) .none kV1 dc1 pm1 an1 cd1 ct1), sl1⟩) (lc : PySem.W.codeIn K cd1 "law" = true) (lk : PySem.W.keepIn K (.ref f1) = true)
    (R : ∀ (P : Program) (base : Heap) (f : Addr) (fd : FuncData), Fun K "law" "law" s_law f fd → FnOk P w K mg base CX0 21 f fd ["_law_script"] (spLaw K))
    : ∃ fd : FuncData, (∀ (s : Shared) (v : Value), BindsTo s fd ⟨[v], []⟩ [("_law_script", v)]) ∧ ∀ base : Heap, K.In base → base.Ns mainGlobals mg → FnOk l.prog w K mg base CX0 21 fa fd ["_law_script"] (spLaw K) := by
  have e := hfa.symm.trans (PySem.W.mg_of X G la)
  cases e
  exact ⟨PySem.W.fnOf "law" "law" (defArgs s_law) (defBody s_law) (defScope s_law) .none kV1 dc1 pm1 an1 cd1 ct1, fun s v => .of_eq rfl, fun base _ _ => R _ base _ _ (fun_mk (st := s_law) ll lc lk)⟩
theorem walk {l : PySem.W.OpenLaw} {q : Program} {loose : List Str} {XP : (Str → Option Value) → Heap → Prop} {YP : World → Heap → Prop} {d : DefRec} {K : Params → PySem.W.Frag} (hn : l.most = some 63) (hdf : d.params.defaults = [])
    (hY : ∀ (w : World) (h : Heap), YP w h → (K w.params).In h)
    (F : ∀ (w : World) (mg : Str → Option Value) (fa : Addr) (h : Heap), (K w.params).In h → h.Ns mainGlobals mg → mg d.name = some (.ref fa) →
      ∃ fd : FuncData, (∀ (s : Shared) (u : Value), BindsTo s fd ⟨[u], []⟩ [("_law_script", u)]) ∧ ∀ base : Heap, (K w.params).In base → base.Ns mainGlobals mg → FnOk l.prog w (K w.params) mg base CX0 21 fa fd ["_law_script"] (spLaw (K w.params))) :
    PySem.W.WalkO q loose XP YP l.row.toRowW d [] (fun f vs => PySem.call f vs) :=
  L2.walk_of (n := 63) (k := 21) (x := "_law_script") (CX := fun _ => CX0) (sp := fun w => spLaw (K w.params)) hn (by decide) hdf ⟨rfl, by decide, by decide⟩ hY F (fun _ _ a ns hl _ hS => ⟨a, ns, rfl, hS, hl, fun _ => rfl⟩) fun _ _ _ _ _ z => z
end K11
open PySem PySem.W PyProof.Rows
set_option maxRecDepth 100000 in
set_option maxHeartbeats 0 in
theorem PySem.Challenge.cw_runrows_k11_lines_holds : PySem.Challenge.rw_runrows_k11_lines.Holds := by
  refine HK.hd ?_
  k_fill
  refine K11.walk (l := PySem.Challenge.rw_runrows_k11_lines) rfl rfl (fun w h Y => HK.fIn_of Y) ?F
  case F =>
    intro w mg fa h KX G hmg
    refine' K11.all_mk KX G hmg ?la ?ll ?lc ?lk (K11.all_ok KX G ?e1 ?e2 ?el1 ?el2 ?el3 ?x1 ?x2 ?x3 ?x4 ?x5 ?x6 ?x7 ?x8 ?x9 ?x10 ?x11 ?xr ?nd ?o1 ?n1 ?m1_told ?i1 ?o2 ?n2 ?m2_told ?i2 ?ol1 ?nl1 ?il1 ?jl1 ?ol2 ?nl2 ?il2 ?jl2 ?ol3 ?nl3 ?il3 ?ee1 ?ty1 ?kt1 ?ve1 ?re1 ?ne1 ?ee4 ?ty4 ?kt4 ?ve4 ?re4 ?ne4 ?be ?d_has_letters ?d_has_word_form ?d_is_word ?d_is_name ?d_is_number ?d_is_value ?d_need_name ?d_has_shape ?d_many_within ?d_plain_by ?d_part_of ?d_need_sheet ?d_need_word ?d_need_on ?d_is_plain_kind ?d_is_stretch ?d__law_cell_at ?d__law_mixed ?d__law_same ?d__law_marks ?d__law_is_word ?d__law_is_lettered ?d__law_is_name ?d__law_odd_name ?d__law_name ?d__law_kind ?d__law_due ?d__law_is_kind ?d__law_right ?g_LONGEST_WORD ?g_MOST_WORDS ?g_LOWEST ?g_HIGHEST ?g_MOST_OUTPUTS ?g_LETTERS ?g_KEPT ?k_SHAPES ?z_isinstance ?z_bool ?z_int ?z_len ?z_all ?z_range ?z_ValueError ?z_tuple ?z_list ?z_zip ?z_dict ?z_str)
    (case la => k_is)
    (case ll => k_is)
    (case lc => k_is)
    (case lk => k_is)
    (case e1 => k_is)
    (case e2 => k_is)
    (case el1 => k_is)
    (case el2 => k_is)
    (case el3 => k_is)
    (case x1 => k_is)
    (case x2 => k_is)
    (case x3 => k_is)
    (case x4 => k_is)
    (case x5 => k_is)
    (case x6 => k_is)
    (case x7 => k_is)
    (case x8 => k_is)
    (case x9 => k_is)
    (case x10 => k_is)
    (case x11 => k_is)
    (case xr => k_is)
    (case nd => decide)
    (case o1 => exact K11.own_mk)
    (case n1 => exact K11.nog_mk)
    (case m1_told => exact K11.dm_mk)
    (case i1 => exact K11.di_mk KX G)
    (case o2 => exact K11.own_mk)
    (case n2 => exact K11.nog_mk)
    (case m2_told => exact K11.dm_mk)
    (case i2 => exact K11.di_mk KX G)
    (case ol1 => exact K11.own_mk)
    (case nl1 => exact K11.nol_mk)
    (case il1 => exact K11.di_mkD KX G K11.b_Input___init__)
    (case jl1 => exact K11.di_mkN KX G K11.bn_Input___init__)
    (case ol2 => exact K11.own_mk)
    (case nl2 => exact K11.nol_mk)
    (case il2 => exact K11.di_mkD KX G K11.b_Row___init__)
    (case jl2 => exact K11.di_mkN KX G K11.bn_Row___init__)
    (case ol3 => exact K11.own_mk)
    (case nl3 => exact K11.nol_mk)
    (case il3 => exact K11.di_mkD KX G K11.b_Use___init__)
    (case ee1 => k_exc)
    (case ty1 => exact K11.ety_mk)
    (case kt1 => exact K11.kr_cons (K11.kr_cons (K11.kr_cons (K11.kr_cons (K11.kr_cons (K11.kr_cons (K11.kr_cons (K11.kr_cons (K11.kr_cons (K11.kr_cons (K11.kr_cons (K11.kr_nil))))))))))))
    (case ve1 => kit_is)
    (case re1 => kit_is)
    (case ne1 => decide)
    (case ee4 => k_exc)
    (case ty4 => exact K11.ety_mk)
    (case kt4 => exact K11.kr_cons (K11.kr_cons (K11.kr_cons (K11.kr_cons (K11.kr_cons (K11.kr_cons (K11.kr_cons (K11.kr_cons (K11.kr_cons (K11.kr_cons (K11.kr_cons (K11.kr_nil))))))))))))
    (case ve4 => kit_is)
    (case re4 => kit_is)
    (case ne4 => decide)
    (case be => k_is)
    (case d_has_letters => exact K11.df_mk KX G)
    (case d_has_word_form => exact K11.df_mk KX G)
    (case d_is_word => exact K11.df_mk KX G)
    (case d_is_name => exact K11.df_mk KX G)
    (case d_is_number => exact K11.df_mk KX G)
    (case d_is_value => exact K11.df_mk KX G)
    (case d_need_name => exact K11.df_mk KX G)
    (case d_has_shape => exact K11.df_mk KX G)
    (case d_many_within => exact K11.df_mk KX G)
    (case d_plain_by => exact K11.df_mk KX G)
    (case d_part_of => exact K11.df_mk KX G)
    (case d_need_sheet => exact K11.df_mk KX G)
    (case d_need_word => exact K11.df_mk KX G)
    (case d_need_on => exact K11.df_mk KX G)
    (case d_is_plain_kind => exact K11.df_mk KX G)
    (case d_is_stretch => exact K11.df_mk KX G)
    (case d__law_cell_at => exact K11.df_mk KX G)
    (case d__law_mixed => exact K11.df_mk KX G)
    (case d__law_same => exact K11.df_mk KX G)
    (case d__law_marks => exact K11.df_mk KX G)
    (case d__law_is_word => exact K11.df_mk KX G)
    (case d__law_is_lettered => exact K11.df_mk KX G)
    (case d__law_is_name => exact K11.df_mk KX G)
    (case d__law_odd_name => exact K11.df_mk KX G)
    (case d__law_name => exact K11.df_mk KX G)
    (case d__law_kind => exact K11.df_mk KX G)
    (case d__law_due => exact K11.df_mk KX G)
    (case d__law_is_kind => exact K11.df_mk KX G)
    (case d__law_right => exact K11.df_mk KX G)
    (case g_LONGEST_WORD => exact K11.gi_mk KX G (by k_is))
    (case g_MOST_WORDS => exact K11.gi_mk KX G (by k_is))
    (case g_LOWEST => exact K11.gi_mk KX G (by k_is))
    (case g_HIGHEST => exact K11.gi_mk KX G (by k_is))
    (case g_MOST_OUTPUTS => exact K11.gi_mk KX G (by k_is))
    (case g_LETTERS => exact K11.gs_mk KX G (by k_is))
    (case g_KEPT => refine' K11.gt_mk KX G ?e (K11.tup_mk (K11.keptL.map L2.V.str) ?l ?z ?v (K11.dvs_strs' K11.keptL)); (case e => k_is); (case l => k_is); (case z => exact Nat.le_of_ble_eq_true rfl); (case v => exact (.cons ⟨_, rfl⟩ (.cons ⟨_, rfl⟩ (.cons ⟨_, rfl⟩ (.cons ⟨_, rfl⟩ (.cons ⟨_, rfl⟩ (.cons ⟨_, rfl⟩ (.cons ⟨_, rfl⟩ (.cons ⟨_, rfl⟩ (.cons ⟨_, rfl⟩ (.cons ⟨_, rfl⟩ (.cons ⟨_, rfl⟩ (.cons ⟨_, rfl⟩ (.cons ⟨_, rfl⟩ (.cons ⟨_, rfl⟩ (.cons ⟨_, rfl⟩ (.cons ⟨_, rfl⟩ (.cons ⟨_, rfl⟩ (.cons ⟨_, rfl⟩ (.cons ⟨_, rfl⟩ (.nil))))))))))))))))))))))
    (case k_SHAPES => refine' K11.kt_mk KX G ?e ?l ?k ?h ?s ?t; (case e => k_is); (case l => k_is); (case k => k_keys); (case h => exact (K11.ents_ref rfl rfl (K11.ents_ref rfl rfl (K11.ents_ref rfl rfl (K11.ents_ref rfl rfl (K11.ents_ref rfl rfl (K11.ents_ref rfl rfl (K11.ents_ref rfl rfl (K11.ents_ref rfl rfl (.nil)))))))))); (case s => exact rfl); (case t => refine' (.cons ?q0 (.cons ?q1 (.cons ?q2 (.cons ?q3 (.cons ?q4 (.cons ?q5 (.cons ?q6 (.cons ?q7 (.nil))))))))); (case q0 => refine' K11.tup_mk [(.int 2), (.int 0)] ?l ?z ?v ?d; (case l => k_is); (case z => exact Nat.le_of_ble_eq_true rfl); (case v => exact .cons ⟨_, rfl⟩ (.cons ⟨_, rfl⟩ .nil)); (case d => exact fun _ => .cons (.int _) (.cons (.int _) .nil))); (case q1 => refine' K11.tup_mk [(.int 2), (.int 0)] ?l ?z ?v ?d; (case l => k_is); (case z => exact Nat.le_of_ble_eq_true rfl); (case v => exact .cons ⟨_, rfl⟩ (.cons ⟨_, rfl⟩ .nil)); (case d => exact fun _ => .cons (.int _) (.cons (.int _) .nil))); (case q2 => refine' K11.tup_mk [(.int 2), (.int 1)] ?l ?z ?v ?d; (case l => k_is); (case z => exact Nat.le_of_ble_eq_true rfl); (case v => exact .cons ⟨_, rfl⟩ (.cons ⟨_, rfl⟩ .nil)); (case d => exact fun _ => .cons (.int _) (.cons (.int _) .nil))); (case q3 => refine' K11.tup_mk [(.int 4), (.int 3)] ?l ?z ?v ?d; (case l => k_is); (case z => exact Nat.le_of_ble_eq_true rfl); (case v => exact .cons ⟨_, rfl⟩ (.cons ⟨_, rfl⟩ .nil)); (case d => exact fun _ => .cons (.int _) (.cons (.int _) .nil))); (case q4 => refine' K11.tup_mk [(.int 3), (.int 1)] ?l ?z ?v ?d; (case l => k_is); (case z => exact Nat.le_of_ble_eq_true rfl); (case v => exact .cons ⟨_, rfl⟩ (.cons ⟨_, rfl⟩ .nil)); (case d => exact fun _ => .cons (.int _) (.cons (.int _) .nil))); (case q5 => refine' K11.tup_mk [(.int 3), (.int 2)] ?l ?z ?v ?d; (case l => k_is); (case z => exact Nat.le_of_ble_eq_true rfl); (case v => exact .cons ⟨_, rfl⟩ (.cons ⟨_, rfl⟩ .nil)); (case d => exact fun _ => .cons (.int _) (.cons (.int _) .nil))); (case q6 => refine' K11.tup_mk [(.int 3), (.int 1)] ?l ?z ?v ?d; (case l => k_is); (case z => exact Nat.le_of_ble_eq_true rfl); (case v => exact .cons ⟨_, rfl⟩ (.cons ⟨_, rfl⟩ .nil)); (case d => exact fun _ => .cons (.int _) (.cons (.int _) .nil))); (case q7 => refine' K11.tup_mk [(.int 4), (.int 1)] ?l ?z ?v ?d; (case l => k_is); (case z => exact Nat.le_of_ble_eq_true rfl); (case v => exact .cons ⟨_, rfl⟩ (.cons ⟨_, rfl⟩ .nil)); (case d => exact fun _ => .cons (.int _) (.cons (.int _) .nil)))))
    (case z_isinstance => k_is)
    (case z_bool => k_is)
    (case z_int => k_is)
    (case z_len => k_is)
    (case z_all => k_is)
    (case z_range => k_is)
    (case z_ValueError => k_is)
    (case z_tuple => k_is)
    (case z_list => k_is)
    (case z_zip => k_is)
    (case z_dict => k_is)
    (case z_str => k_is)
#print axioms PySem.Challenge.cw_runrows_k11_lines_holds
